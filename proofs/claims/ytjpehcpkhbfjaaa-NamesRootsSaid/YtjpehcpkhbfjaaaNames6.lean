/- NamesRoots, walked: the call returns true, in every memory; of what was in memory nothing is changed. -/
import Derived.Test.YtjpehcpkhbfjaaaNamesScene
import Derived.Deep.RegionHeld3
namespace Go.Proofs.Ytjpehcpkhbfjaaa
open Go.RowKit Go.Sort

set_option maxRecDepth 100000 in
set_option maxHeartbeats 4000000 in
theorem roots_walk (a : Option Addr) (n cap : Nat) (hn : n ≤ 80) (hcap : n ≤ cap ∧ cap ≤ 9223372036854775807) (ka : Option Addr) (kl : List Int) (kn kc : Nat) (hkn : kn ≤ 80) (hkc : kn ≤ kc ∧ kc ≤ 9223372036854775807) (w : World)
    (hact : ∀ k, k < n → ∃ b off x y z, a = some ⟨b, off, none⟩ ∧ w.cell? ⟨b, off + k * 3, none⟩ = some (.int .i64 x) ∧ w.cell? ⟨b, off + k * 3 + 1, none⟩ = some (.int .i64 y) ∧ w.cell? ⟨b, off + k * 3 + 2, none⟩ = some (.int .i64 z))
    (hask : ∀ i, i < kn → ∃ b off, ka = some ⟨b, off, none⟩ ∧ w.cell? ⟨b, off + i, none⟩ = some (.int .i64 (kl.getD i 0))) :
    Calls Try.prog 5 #[.slice a n cap, .slice ka kn kc] w fun e w' => e = .returned (.bool true) ∧ Below w.heap.size w w' := by
  obtain ⟨hcap1, hcap2⟩ := hcap
  obtain ⟨hkc1, hkc2⟩ := hkc
  have hn' : ¬ 80 < (n : Int) := by omega
  have hkn' : ¬ 80 < (kn : Int) := by omega
  go_enter Try.func5, Try.ntmps5
  go_wp2_with fail
  refine (alive_any w).mono ?_
  rintro e W ⟨rfl, hb⟩
  replace hact : ∀ k, k < n → ∃ b off x y z, a = some ⟨b, off, none⟩ ∧ W.cell? ⟨b, off + k * 3, none⟩ = some (.int .i64 x) ∧ W.cell? ⟨b, off + k * 3 + 1, none⟩ = some (.int .i64 y) ∧ W.cell? ⟨b, off + k * 3 + 2, none⟩ = some (.int .i64 z) := fun k hk => by
    obtain ⟨b, off, x, y, z, e, h1, h2, h3⟩ := hact k hk
    exact ⟨b, off, x, y, z, e, later hb h1, later hb h2, later hb h3⟩
  replace hask : ∀ i, i < kn → ∃ b off, ka = some ⟨b, off, none⟩ ∧ W.cell? ⟨b, off + i, none⟩ = some (.int .i64 (kl.getD i 0)) := fun i hi => by
    obtain ⟨b, off, e, h1⟩ := hask i hi
    exact ⟨b, off, e, later hb h1⟩
  go_wp2_with fail
  refine ((Scene.start W).newNames 60 (by omega)).mono ?_
  rintro e w1 ⟨rfl, hs⟩
  generalize W.heap.size + 1 = p1 at *
  go_wp2_with fail
  refine (hs.newNames 60 (by omega)).mono ?_
  rintro e w2 ⟨rfl, hs⟩
  generalize w1.heap.size + 1 = p2 at *
  go_wp2_with fail
  go_loopw [50] (fun i wr => ∃ (k : Nat) (N : NS), k ≤ n ∧ i = .int .i64 k ∧ Scene W [Ob.names W.heap.size p1 N, Ob.names W.heap.size p2 N] wr) (fun i _ => n - (intOf i).toNat)
  case atStart => exact ⟨0, _, Nat.zero_le _, rfl, hs⟩
  case round =>
    clear hs
    obtain ⟨k, N, hk, rfl, hs⟩ := hrel
    by_cases hlt : k < n
    · have hki : (k : Int) < n := by omega
      obtain ⟨b, off, x, y, z, rfl, h1, h2, h3⟩ := hact k hlt
      have c1 := later hs.below h1
      have c2 := later hs.below h2
      have c3 := later hs.below h3
      clear h1 h2 h3
      by_cases hx : x = 1
      · subst hx
        go_wp2_with fail
        obtain ⟨V, hV⟩ : ∃ V : World, wr.alloc (.cells #[.int .i64 1, .int .i64 y, .int .i64 z] 34) = V := ⟨_, rfl⟩
        replace hs := hs.alloc #[.int .i64 1, .int .i64 y, .int .i64 z] 34
        rw [hV] at hs ⊢
        generalize wr.heap.size = q at *
        clear hV c1 c2 c3
        have hS : ∀ w' : World, Blk w' q #[.int .i64 1, .int .i64 y, .int .i64 z] 34 → w'.cell? ⟨q, 1, none⟩ = some (.int .i64 y) ∧ w'.cell? ⟨q, 2, none⟩ = some (.int .i64 z) := fun w' h => ⟨blk_cell h rfl, blk_cell h rfl⟩
        have hs0 := hs.drew
        have x0 := hs0.blk 2 rfl
        have hJ := Scene.join hs0 0 rfl y z
        go_region_held3 (fun w' => w'.cell? ⟨q, 1, none⟩ = some (.int .i64 y) ∧ w'.cell? ⟨q, 2, none⟩ = some (.int .i64 z)) (exact hS _ (by assumption))
          (first
            | (go_at_call 16; with_reducible refine hJ.mono ?_; rintro e w1 ⟨rfl, hs1⟩; have x1 := hs1.blk 2 rfl; have hK := Scene.join hs1 1 rfl y z)
            | (go_at_call 16; with_reducible refine hK.mono ?_; rintro e w2 ⟨rfl, hs2⟩; have x2 := hs2.blk 2 rfl))
        have hs3 : Scene W [Ob.names W.heap.size p1 (afterJ N y z), Ob.names W.heap.size p2 (afterJ N y z)] w2 := hs2.take 2
        clear hs hs0 hs1 hs2 hJ hK x0 x1 x2 hS
        generalize afterJ N y z = N' at *
        generalize joinB N y z = J at *
        have hs := hs3
        clear hs3
        by_cases hka : k < kn
        · have hkai : (k : Int) < kn := by omega
          obtain ⟨b2, off2, rfl, a1⟩ := hask k hka
          replace a1 := later hs.below a1
          generalize kl.getD k 0 = q1 at *
          go_wp2_with fail
          refine (hs.root 0 rfl q1).mono ?_
          rintro e w3 ⟨rfl, hs⟩
          clear a1
          go_wp2_with fail
          go_roundw
          case rel => exact ⟨k + 1, N', by omega, by go_num, hs⟩
          case measure => simp [intOf]; omega
        · have hkai : ¬ (k : Int) < kn := by omega
          go_wp2_with fail
          go_roundw
          case rel => exact ⟨k + 1, N', by omega, by go_num, hs⟩
          case measure => simp [intOf]; omega
      · have hx' : (x == 1) = false := by simpa using hx
        go_wp2_with fail
        obtain ⟨V, hV⟩ : ∃ V : World, wr.alloc (.cells #[.int .i64 x, .int .i64 y, .int .i64 z] 34) = V := ⟨_, rfl⟩
        replace hs := hs.alloc #[.int .i64 x, .int .i64 y, .int .i64 z] 34
        rw [hV] at hs ⊢
        generalize wr.heap.size = q at *
        clear hV c1 c2 c3
        refine (hs.make 0 rfl).mono ?_
        rintro e w1 ⟨rfl, hs1⟩
        go_wp2_with fail
        refine (hs1.make 1 rfl).mono ?_
        rintro e w2 ⟨rfl, hs2⟩
        have hs3 : Scene W [Ob.names W.heap.size p1 (afterM N), Ob.names W.heap.size p2 (afterM N)] w2 := hs2.take 2
        clear hs hs1 hs2
        generalize afterM N = N' at *
        generalize madeI N = J at *
        generalize canMake N = J2 at *
        have hs := hs3
        clear hs3
        by_cases hka : k < kn
        · have hkai : (k : Int) < kn := by omega
          obtain ⟨b2, off2, rfl, a1⟩ := hask k hka
          replace a1 := later hs.below a1
          generalize kl.getD k 0 = q1 at *
          go_wp2_with fail
          refine (hs.root 0 rfl q1).mono ?_
          rintro e w3 ⟨rfl, hs⟩
          clear a1
          go_wp2_with fail
          go_roundw
          case rel => exact ⟨k + 1, N', by omega, by go_num, hs⟩
          case measure => simp [intOf]; omega
        · have hkai : ¬ (k : Int) < kn := by omega
          go_wp2_with fail
          go_roundw
          case rel => exact ⟨k + 1, N', by omega, by go_num, hs⟩
          case measure => simp [intOf]; omega
    · have hki : ¬ (k : Int) < n := by omega
      have hfit := hs.fit 0 rfl
      have hpos := hfit.pos
      have hlen := hfit.lenLe
      obtain ⟨L, hL⟩ : ∃ L : Nat, N.roots.length = L + 1 := ⟨N.roots.length - 1, by omega⟩
      have hLi : ((N.roots.length : Int) - 1) = L := by omega
      have hat : ∀ i : Nat, 1 ≤ i → i ≤ L → madeB N i = true ∧ rootI N i = N.at i ∧ hasB N (N.at i : Nat) = true ∧ hasB N i = ((N.at i : Int) == i) := fun i h1 h2 => by
        have hm : madeB N i = true := by simp only [madeB, decide_eq_true_eq]; omega
        refine ⟨hm, ?_, has_of (hfit.one i h1 (by omega)) (hfit.lt i (by omega)) (hfit.idem i (by omega)), ?_⟩
        · unfold rootI; rw [if_pos hm, Int.toNat_natCast]
        · simp only [hasB, hm, Bool.true_and, Int.toNat_natCast]
      have hcnt : L = 0 ∨ 1 ≤ N.count := by
        by_cases h0 : L = 0
        · exact Or.inl h0
        · refine Or.inr ?_
          rw [hfit.count]
          exact selfs_pos (hfit.one 1 (by omega) (by omega)) (hfit.lt 1 (by omega)) (hfit.idem 1 (by omega))
      clear hfit hpos hL hact hask
      go_wp2_with fail
      obtain ⟨wo, hwo⟩ : ∃ wo : World, wo = wr := ⟨_, rfl⟩
      go_loopw [11] (fun i wr => ∃ (x : Nat), (1 ≤ x ∧ x ≤ L + 1) ∧ i = .int .i64 x ∧ Scene W [Ob.names W.heap.size p1 N, Ob.names W.heap.size p2 N] wr) (fun i _ => L + 1 - (intOf i).toNat)
      case atStart => exact ⟨1, ⟨Nat.le_refl _, by omega⟩, rfl, hs⟩
      case round =>
        clear hs hwo
        obtain ⟨x, ⟨hx1, hx2⟩, rfl, hs⟩ := hrel
        by_cases hlx : x ≤ L
        · have hxi : (x : Int) ≤ L := by omega
          obtain ⟨e1, e2, e3, e4⟩ := hat x hx1 hlx
          have r1 := fun w (hs : Scene W [Ob.names W.heap.size p1 N, Ob.names W.heap.size p2 N] w) => hs.root 0 rfl x
          have r2 := fun w (hs : Scene W [Ob.names W.heap.size p1 N, Ob.names W.heap.size p2 N] w) => hs.root 1 rfl x
          have g1 := fun w (hs : Scene W [Ob.names W.heap.size p1 N, Ob.names W.heap.size p2 N] w) => hs.has 0 rfl (N.at x : Nat)
          have g2 := fun w (hs : Scene W [Ob.names W.heap.size p1 N, Ob.names W.heap.size p2 N] w) => hs.has 0 rfl x
          rw [e1, e2] at r1 r2
          rw [e3] at g1
          rw [e4] at g2
          clear e1 e2 e3 e4
          generalize N.at x = R at *
          go_wp2_with fail
          refine (hs.last 0 rfl).mono ?_
          rintro e w3 ⟨rfl, rfl⟩
          rw [hLi]
          go_wp2_with fail
          refine (r1 _ hs).mono ?_
          rintro e w3 ⟨rfl, hs⟩
          go_wp2_with fail
          refine (r2 _ hs).mono ?_
          rintro e w4 ⟨rfl, hs⟩
          go_wp2_with fail
          refine (g1 _ hs).mono ?_
          rintro e w5 ⟨rfl, rfl⟩
          go_wp2_with fail
          refine (g2 _ hs).mono ?_
          rintro e w5 ⟨rfl, rfl⟩
          clear r1 r2 g1 g2
          go_wp2_with fail
          go_roundw
          case rel => exact ⟨x + 1, ⟨by omega, by omega⟩, by go_num, hs⟩
          case measure => simp [intOf]; omega
        · have hxi : ¬ (x : Int) ≤ L := by omega
          clear hat
          rcases hcnt with h0 | h0
          · subst h0
            go_wp2_with fail
            refine (hs.last 0 rfl).mono ?_
            rintro e w3 ⟨rfl, rfl⟩
            rw [hLi]
            go_wp2_with fail
            refine (hs.last 0 rfl).mono ?_
            rintro e w3 ⟨rfl, rfl⟩
            rw [hLi]
            go_wp2_with fail
            go_ret
            exact ⟨rfl, below_chain hb hs.below⟩
          · have h0i : (1 : Int) ≤ N.count := by omega
            by_cases hL0 : L = 0
            · subst hL0
              go_wp2_with fail
              refine (hs.last 0 rfl).mono ?_
              rintro e w3 ⟨rfl, rfl⟩
              rw [hLi]
              go_wp2_with fail
              refine (hs.last 0 rfl).mono ?_
              rintro e w3 ⟨rfl, rfl⟩
              rw [hLi]
              go_wp2_with fail
              go_ret
              exact ⟨rfl, below_chain hb hs.below⟩
            · have hL1 : ((L : Int) == 0) = false := by simp; omega
              go_wp2_with fail
              refine (hs.last 0 rfl).mono ?_
              rintro e w3 ⟨rfl, rfl⟩
              rw [hLi]
              go_wp2_with fail
              refine (hs.last 0 rfl).mono ?_
              rintro e w3 ⟨rfl, rfl⟩
              rw [hLi]
              go_wp2_with fail
              refine (hs.count 0 rfl).mono ?_
              rintro e w3 ⟨rfl, rfl⟩
              go_wp2_with fail
              go_ret
              exact ⟨rfl, below_chain hb hs.below⟩
/-- .. of whatever lists: too long ones end it at once. -/
theorem roots_all (a : Option Addr) (n cap : Nat) (hcap : n ≤ cap ∧ cap ≤ 9223372036854775807) (ka : Option Addr) (kc : Nat) (kl : List Int) (hkc : kl.length ≤ kc ∧ kc ≤ 9223372036854775807) (w : World)
    (hact : ∀ k, k < n → ∃ b off x y z, a = some ⟨b, off, none⟩ ∧ w.cell? ⟨b, off + k * 3, none⟩ = some (.int .i64 x) ∧ w.cell? ⟨b, off + k * 3 + 1, none⟩ = some (.int .i64 y) ∧ w.cell? ⟨b, off + k * 3 + 2, none⟩ = some (.int .i64 z))
    (hask : ∀ i, i < kl.length → ∃ b off, ka = some ⟨b, off, none⟩ ∧ w.cell? ⟨b, off + i, none⟩ = some (.int .i64 (kl.getD i 0))) :
    Calls Try.prog 5 #[.slice a n cap, .slice ka kl.length kc] w fun e w' => e = .returned (.bool true) ∧ Below w.heap.size w w' := by
  by_cases h1 : n ≤ 80
  · by_cases h2 : kl.length ≤ 80
    · exact roots_walk a n cap h1 hcap ka kl kl.length kc h2 hkc w hact hask
    · have h1' : ¬ 80 < (n : Int) := by omega
      have h2' : 80 < (kl.length : Int) := by omega
      obtain ⟨hcap1, hcap2⟩ := hcap
      obtain ⟨hkc1, hkc2⟩ := hkc
      clear hact hask h1 h2
      generalize kl.length = kn at *
      go_enter Try.func5, Try.ntmps5
      go_wp2_with fail
      refine (alive_any w).mono ?_
      rintro e W ⟨rfl, hb⟩
      go_wp2_with fail
      go_ret
      exact ⟨rfl, hb⟩
  · have h1' : 80 < (n : Int) := by omega
    obtain ⟨hcap1, hcap2⟩ := hcap
    obtain ⟨hkc1, hkc2⟩ := hkc
    clear hact hask h1
    generalize kl.length = kn at *
    go_enter Try.func5, Try.ntmps5
    go_wp2_with fail
    refine (alive_any w).mono ?_
    rintro e W ⟨rfl, hb⟩
    go_wp2_with fail
    go_ret
    exact ⟨rfl, hb⟩
end Go.Proofs.Ytjpehcpkhbfjaaa
