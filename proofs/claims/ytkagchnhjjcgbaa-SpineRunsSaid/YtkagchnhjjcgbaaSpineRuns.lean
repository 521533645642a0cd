/- SpineRuns, walked: whatever is hung, cut and turned, each answer is that of the document, and so is where each thing is. (Written by gen_walks.py.) -/
import Derived.Test.YtkagchnhjjcgbaaSpineWalk
import Derived.Deep.RegionHeld3
namespace Go.Proofs.Ytkagchnhjjcgbaa
open Go.RowKit Go.Sort

set_option maxRecDepth 100000 in
set_option maxHeartbeats 8000000 in
theorem spineRuns_walk (C : Nat) (hC : C ≤ 255) (a0 : Option Addr) (n0 cap : Nat) (hcap : n0 ≤ cap ∧ cap ≤ 9223372036854775807) (w : World) (hact : SpineActsAt w a0 n0) :
    Calls Try.prog 4 #[.int .u8 C, .slice a0 n0 cap] w fun e w' => e = .returned (.bool true) ∧ Below w.heap.size w w' := by
  obtain ⟨hcap1, hcap2⟩ := hcap
  obtain ⟨m, hm⟩ : ∃ m, m = C % 24 := ⟨_, rfl⟩
  have hm24 : m < 24 := by omega
  have q1 : Int.tmod (C : Int) 24 = (m : Int) := by rw [hm]; exact (Int.ofNat_tmod C 24).symm
  clear hm
  go_enter Try.func4, Try.ntmps4
  go_wp2_with fail
  refine (spineAlive_any w).mono ?_
  rintro e w1 ⟨rfl, hb⟩
  go_wp2_with fail
  refine (((Stage.start w).later hb).newSpine m (by omega)).mono ?_
  rintro e w2 ⟨p, rfl, hs⟩
  simp only [List.nil_append] at hs
  by_cases h60 : (60 : Int) < n0
  · go_wp2_with fail
    go_ret
    exact ⟨rfl, hs.below⟩
  have hn60 : n0 ≤ 60 := by omega
  replace hs : Stage (fun _ => False) w [Ob.spine p m [], Ob.doc nilV [], Ob.box w2.heap.size #[.int .i64 m, nilV] docT] (w2.alloc (.cells #[.int .i64 m, nilV] docT)) := hs.nilDoc.alloc _ _
  go_wp2_with fail
  generalize w2.heap.size = b8 at *
  go_loopw [42] (fun i wr => ∃ (k : Nat) (L : List Hg) (a : Option Addr) (n c : Nat), k ≤ n0 ∧ i = .int .i64 k ∧ Stage (fun _ => False) w [Ob.spine p m L, Ob.doc (.slice a n c) L, Ob.box b8 #[.int .i64 m, .slice a n c] docT] wr) (fun i _ => n0 - (intOf i).toNat)
  case atStart => exact ⟨0, [], none, 0, 0, Nat.zero_le _, rfl, hs⟩
  case round =>
    clear hs hb
    obtain ⟨k, L, a, n, c, hk, rfl, hs⟩ := hrel
    by_cases hlt : k < n0
    · have hki : (k : Int) < n0 := by omega
      obtain ⟨ba, offa, x, y, z, r, rfl, g0, g1, g2, g3⟩ := hact k hlt
      replace g0 := later hs.below g0
      replace g1 := later hs.below g1
      replace g2 := later hs.below g2
      replace g3 := later hs.below g3
      have hs0 : Stage (fun _ => False) w ([Ob.spine p m L, Ob.doc (.slice a n c) L] ++ [Ob.box b8 #[.int .i64 m, .slice a n c] docT, Ob.box wr.heap.size #[.int .i64 x, .int .i64 y, .int .i64 z, .bool r] 37]) (wr.alloc (.cells #[.int .i64 x, .int .i64 y, .int .i64 z, .bool r] 37)) := hs.alloc _ _
      have hD := do_tr (by omega) x y z r hs0
      have k0 := hs0.cell 2 rfl (o := 0) rfl
      have k1 := hs0.cell 2 rfl (o := 1) rfl
      have d0 := hs0.cell 3 rfl (o := 0) rfl
      have d1 := hs0.cell 3 rfl (o := 1) rfl
      have d2 := hs0.cell 3 rfl (o := 2) rfl
      have d3 := hs0.cell 3 rfl (o := 3) rfl
      clear hs hs0 hact
      go_wp2_with fail
      generalize wr.heap.size = b10 at *
      refine hD.mono ?_
      rintro e w5 ⟨a2, n2, c2, L2, rfl, hs2⟩
      clear hD k0 k1 d0 d1 d2 d3 g0 g1 g2 g3
      have hs3 := hs2.alloc #[.int .i64 m, .slice a2 n2 c2] docT
      replace hs3 : Stage (fun _ => False) w [Ob.spine p m L2, Ob.doc (.slice a2 n2 c2) L2, Ob.box b8 #[.int .i64 m, .slice a n c] docT, Ob.box b10 #[.int .i64 x, .int .i64 y, .int .i64 z, .bool r] 37, Ob.box w5.heap.size #[.int .i64 m, .slice a2 n2 c2] docT] (w5.alloc (.cells #[.int .i64 m, .slice a2 n2 c2] docT)) := hs3
      have j0 := hs3.cell 4 rfl (o := 0) rfl
      have j1 := hs3.cell 4 rfl (o := 1) rfl
      have e0 := hs3.cell 2 rfl (o := 0) rfl
      have e1 := hs3.cell 2 rfl (o := 1) rfl
      have f0 := hs3.free 2 rfl 0
      have f1 := hs3.free 2 rfl 1
      have ne8 := hs3.ne 2 4 rfl rfl (by decide)
      have hs4 := ((hs3.store 2 rfl 0 (.int .i64 m)).store 2 rfl 1 (.slice a2 n2 c2)).take 4
      clear hs2 hs3
      have s2 := hs4.cell 3 rfl (o := 2) rfl
      have s1 := hs4.cell 3 rfl (o := 1) rfl
      have t0 := hs4.cell 2 rfl (o := 0) rfl
      have t1 := hs4.cell 2 rfl (o := 1) rfl
      have hT1 := same_tr hs4 0 1 rfl rfl z
      go_wp2_with fail
      refine hT1.mono ?_
      rintro e w6 ⟨rfl, hb⟩
      replace hs4 := hs4.later hb
      clear hb hT1 s2 s1 t0 t1 j0 j1 e0 e1 f0 f1
      have s1 := hs4.cell 3 rfl (o := 1) rfl
      have t0 := hs4.cell 2 rfl (o := 0) rfl
      have t1 := hs4.cell 2 rfl (o := 1) rfl
      have hT1 := same_tr hs4 0 1 rfl rfl y
      go_wp2_with fail
      refine hT1.mono ?_
      rintro e w7 ⟨rfl, hb⟩
      replace hs4 := hs4.later hb
      clear hb hT1 s1 t0 t1
      go_wp2_with fail
      go_roundw
      case rel => exact ⟨k + 1, L2, a2, n2, c2, by omega, by go_num, hs4.take 3⟩
      case measure => simp [intOf]; omega
    · have hki : ¬ (k : Int) < n0 := by omega
      obtain ⟨I, hm2⟩ := hs.spineInv 0 rfl
      clear hact
      go_wp2_with fail
      obtain ⟨wo, hwo⟩ : ∃ wo : World, wo = wr := ⟨_, rfl⟩
      go_loopw [13] (fun i wr => ∃ j : Nat, j ≤ m ∧ i = .int .i64 j ∧ Stage (fun _ => False) w [Ob.spine p m L, Ob.doc (.slice a n c) L, Ob.box b8 #[.int .i64 m, .slice a n c] docT] wr) (fun i _ => m - (intOf i).toNat)
      case atStart => exact ⟨0, Nat.zero_le _, rfl, hs⟩
      case round =>
        clear hs hwo
        obtain ⟨j, hj, rfl, hs⟩ := hrel
        have k0 := hs.cell 2 rfl (o := 0) rfl
        have k1 := hs.cell 2 rfl (o := 1) rfl
        by_cases hjm : j < m
        · have hji : (j : Int) < m := by omega
          have hx : inN m (j : Int) := ⟨by omega, by omega⟩
          have hall : allI m L j = allL L m j := by unfold allI; rw [has_in.2 hx]; rfl
          have hD := hs.drew
          have cS := same_tr hD 0 1 rfl rfl j
          have cA := fun wx (h : Stage (fun _ => False) w [Ob.spine p m L, Ob.doc (.slice a n c) L, Ob.box b8 #[.int .i64 m, .slice a n c] docT] wx) => h.askNew (O' := fun v => Ob.ints v (allI m L j)) (r := fun v => v) 0 rfl (fun _ ho => all_sp (j : Int) ho)
          have cB := fun wx (u : Ob) (h : Stage (fun _ => False) w [Ob.spine p m L, Ob.doc (.slice a n c) L, Ob.box b8 #[.int .i64 m, .slice a n c] docT, u] wx) => h.askNew (O' := fun v => Ob.ints v (allL L m j)) (r := fun v => v) 1 rfl (fun _ ho => rall_any I hm2 m (Nat.le_refl _) (j : Int) wx hx ho.1)
          have cC := fun wx (h : Stage (fun _ => False) w [Ob.spine p m L, Ob.doc (.slice a n c) L, Ob.box b8 #[.int .i64 m, .slice a n c] docT] wx) => h.askNew (O' := fun v => Ob.ints v (sideI m L j)) (r := fun v => v) 0 rfl (fun _ ho => spine_sp (j : Int) ho)
          have cD := fun wx (u : Ob) (h : Stage (fun _ => False) w [Ob.spine p m L, Ob.doc (.slice a n c) L, Ob.box b8 #[.int .i64 m, .slice a n c] docT, u] wx) => h.askNew (O' := fun v => Ob.ints v (sideI m L j)) (r := fun v => v) 1 rfl (fun _ ho => rspine_any I hm2 (j : Int) ho.1)
          rw [hall] at cA
          have cE := fun wx va vb (l1 : List Int) (h : Stage (fun _ => False) w [Ob.spine p m L, Ob.doc (.slice a n c) L, Ob.box b8 #[.int .i64 m, .slice a n c] docT, Ob.ints va l1, Ob.ints vb l1] wx) => same_any h 3 4 rfl rfl
          simp only [decide_true] at cE
          clear hall hx
          generalize allL L m j = LA at *
          generalize sideI m L j = LS at *
          go_wp2_with fail
          go_region_held3 (fun w' => w'.cell? ⟨b8, 0, none⟩ = some (.int .i64 m) ∧ w'.cell? ⟨b8, 1, none⟩ = some (.slice a n c)) (first | exact ⟨k0, k1⟩ | exact K1 | exact K2 | exact K3 | exact K4 | exact K5 | exact K6 | exact K7)
            (first
              | (((with_reducible refine cS.mono ?_); rintro e v1 ⟨rfl, hb1⟩; have h1 : Stage (fun _ => False) w [Ob.spine p m L, Ob.doc (.slice a n c) L, Ob.box b8 #[.int .i64 m, .slice a n c] docT] v1 := hD.later hb1; have K1 := And.intro (h1.cell 2 rfl (o := 0) rfl) (h1.cell 2 rfl (o := 1) rfl)))
              | (((with_reducible refine (cA _ h1).mono ?_); rintro e v2 ⟨r2, rfl, g2⟩; have h2 : Stage (fun _ => False) w [Ob.spine p m L, Ob.doc (.slice a n c) L, Ob.box b8 #[.int .i64 m, .slice a n c] docT, Ob.ints r2 LA] v2 := g2; have K2 := And.intro (h2.cell 2 rfl (o := 0) rfl) (h2.cell 2 rfl (o := 1) rfl)))
              | (((with_reducible refine (cB _ _ h2).mono ?_); rintro e v3 ⟨r3, rfl, g3⟩; have h3 : Stage (fun _ => False) w [Ob.spine p m L, Ob.doc (.slice a n c) L, Ob.box b8 #[.int .i64 m, .slice a n c] docT, Ob.ints r2 LA, Ob.ints r3 LA] v3 := g3; have K3 := And.intro (h3.cell 2 rfl (o := 0) rfl) (h3.cell 2 rfl (o := 1) rfl)))
              | (((with_reducible refine (cE _ _ _ _ h3).mono ?_); rintro e v4 ⟨rfl, hb4⟩; have h4 : Stage (fun _ => False) w [Ob.spine p m L, Ob.doc (.slice a n c) L, Ob.box b8 #[.int .i64 m, .slice a n c] docT] v4 := (h3.later hb4).take 3; have K4 := And.intro (h4.cell 2 rfl (o := 0) rfl) (h4.cell 2 rfl (o := 1) rfl)))
              | (((with_reducible refine (cC _ h4).mono ?_); rintro e v5 ⟨r5, rfl, g5⟩; have h5 : Stage (fun _ => False) w [Ob.spine p m L, Ob.doc (.slice a n c) L, Ob.box b8 #[.int .i64 m, .slice a n c] docT, Ob.ints r5 LS] v5 := g5; have K5 := And.intro (h5.cell 2 rfl (o := 0) rfl) (h5.cell 2 rfl (o := 1) rfl)))
              | (((with_reducible refine (cD _ _ h5).mono ?_); rintro e v6 ⟨r6, rfl, g6⟩; have h6 : Stage (fun _ => False) w [Ob.spine p m L, Ob.doc (.slice a n c) L, Ob.box b8 #[.int .i64 m, .slice a n c] docT, Ob.ints r5 LS, Ob.ints r6 LS] v6 := g6; have K6 := And.intro (h6.cell 2 rfl (o := 0) rfl) (h6.cell 2 rfl (o := 1) rfl)))
              | (((with_reducible refine (cE _ _ _ _ h6).mono ?_); rintro e v7 ⟨rfl, hb7⟩; have h7 : Stage (fun _ => False) w [Ob.spine p m L, Ob.doc (.slice a n c) L, Ob.box b8 #[.int .i64 m, .slice a n c] docT] v7 := (h6.later hb7).take 3; have K7 := And.intro (h7.cell 2 rfl (o := 0) rfl) (h7.cell 2 rfl (o := 1) rfl))))
          all_goals
            go_wp2_with fail
            go_roundw
            case rel => exact ⟨j + 1, by omega, by go_num, h7⟩
            case measure => simp [intOf]; omega
        · have hji : ¬ (j : Int) < m := by omega
          go_wp2_with fail
          go_ret
          exact ⟨rfl, hs.below⟩
end Go.Proofs.Ytkagchnhjjcgbaa
