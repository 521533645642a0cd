/- NamesRuns, walked: the call returns true, in every memory; of what was in memory nothing is changed. -/
import Derived.Test.YtjpehcpkhbfjaaaNamesRef2
import Derived.Deep.CutBlock
import Derived.Deep.DeepCutAuto
namespace Go.Proofs.Ytjpehcpkhbfjaaa
open Go.RowKit Go.Sort

theorem owns_low {w : World} {B B' : Nat} {e : TypeId} {size : Nat} {v : Value} {n : Nat} {xs : List Value} (h : w.ownsRow B' e size v n xs) (hB : B ≤ B') : w.ownsRow B e size v n xs :=
  ⟨h.1, h.2.imp id (fun ⟨g, cap, cur, hv, hb, r⟩ => ⟨g, cap, cur, hv, by omega, r⟩)⟩
/-- The names, the document's beside them in their box, and their row. -/
def RunSt (W : World) (p b7 m k : Nat) (more : List Ob) (wr : World) : Prop :=
  ∃ (N : NS) (last : Nat) (J : List (Nat × Nat)) (jv : Value), Sim N last J ∧ N.most = m ∧ J.length ≤ k ∧ Scene W ([Ob.names W.heap.size p N, Ob.box b7 #[.int .i64 m, .int .i64 last, jv] 32, Ob.row W.heap.size 53 2 jv J.length (cellsBy pairC J)] ++ more) wr

set_option maxRecDepth 100000 in
set_option maxHeartbeats 8000000 in
theorem runs_walk (m : Nat) (hm : m ≤ 255) (a : Option Addr) (n cap : Nat) (hn : n ≤ 80) (hcap : n ≤ cap ∧ cap ≤ 9223372036854775807) (w : World)
    (hact : ∀ k, k < n → ∃ b off x y z, a = some ⟨b, off, none⟩ ∧ w.cell? ⟨b, off + k * 3, none⟩ = some (.int .i64 x) ∧ w.cell? ⟨b, off + k * 3 + 1, none⟩ = some (.int .i64 y) ∧ w.cell? ⟨b, off + k * 3 + 2, none⟩ = some (.int .i64 z)) :
    Calls Try.prog 4 #[.int .u8 m, .slice a n cap] w fun e w' => e = .returned (.bool true) ∧ Below w.heap.size w w' := by
  obtain ⟨hcap1, hcap2⟩ := hcap
  have hn' : ¬ 80 < (n : Int) := by omega
  go_enter Try.func4, Try.ntmps4
  go_wp2_with fail
  refine (alive_any w).mono ?_
  rintro e W ⟨rfl, hb⟩
  replace hact : ∀ k, k < n → ∃ b off x y z, a = some ⟨b, off, none⟩ ∧ W.cell? ⟨b, off + k * 3, none⟩ = some (.int .i64 x) ∧ W.cell? ⟨b, off + k * 3 + 1, none⟩ = some (.int .i64 y) ∧ W.cell? ⟨b, off + k * 3 + 2, none⟩ = some (.int .i64 z) := fun k hk => by
    obtain ⟨b, off, x, y, z, e, h1, h2, h3⟩ := hact k hk
    exact ⟨b, off, x, y, z, e, later hb h1, later hb h2, later hb h3⟩
  go_wp2_with fail
  refine ((Scene.start W).newNames m (by omega)).mono ?_
  rintro e w1 ⟨rfl, hs⟩
  generalize W.heap.size + 1 = p at *
  have hs2 := (hs.alloc #[.int .i64 m, .int .i64 0, .slice none 0 0] 32).nilRow W.heap.size 53 2
  have hst : RunSt W p w1.heap.size m 0 [] (w1.alloc (.cells #[.int .i64 m, .int .i64 0, .slice none 0 0] 32)) := ⟨_, 0, [], _, sim_new (by omega), rfl, Nat.le_refl _, hs2⟩
  clear hs hs2
  go_wp2_with fail
  generalize (w1.alloc (.cells #[.int .i64 m, .int .i64 0, .slice none 0 0] 32)) = w2 at *
  generalize w1.heap.size = b7 at *
  go_loopw [48] (fun i wr => ∃ (k : Nat), k ≤ n ∧ i = .int .i64 k ∧ RunSt W p b7 m k [] wr) (fun i _ => n - (intOf i).toNat)
  case atStart => exact ⟨0, Nat.zero_le _, rfl, hst⟩
  case round =>
    clear hst
    obtain ⟨k, hk, rfl, N, last, J, jv, hsim, hmost, hJ, hs⟩ := hrel
    by_cases hlt : k < n
    · have hki : (k : Int) < n := by omega
      obtain ⟨ba, offa, x, y, z, rfl, a0, a1, a2⟩ := hact k hlt
      replace a0 := later hs.below a0
      replace a1 := later hs.below a1
      replace a2 := later hs.below a2
      go_upto_block 2 with fail
      have hs1 := hs.alloc #[.int .i64 x, .int .i64 y, .int .i64 z] 34
      clear a0 a1 a2
      generalize (wr.alloc (.cells #[.int .i64 x, .int .i64 y, .int .i64 z] 34)) = wr1 at *
      generalize wr.heap.size = b9 at *
      clear hs
      obtain ⟨ja, jc, rfl, _, _⟩ := owns_form (hs1.owns 2 rfl)
      go_cut [9] (fun s9 wx => s9 = .pointer (some ⟨b9, 0, none⟩) ∧ RunSt W p b7 m (k + 1) [Ob.box b9 #[.int .i64 x, .int .i64 y, .int .i64 z] 34] wx)
      case first =>
        by_cases hx0 : x = 0
        · subst hx0
          have hmk := hs1.make 0 rfl
          obtain ⟨e1, e2, hsim'⟩ := sim_make hsim
          rw [e1, e2, hmost] at hmk
          rw [hmost] at hsim'
          have hrm := refmake_any m last hm ja J.length jc
          have hmost' : (afterM N).most = m := by rw [most_afterM, hmost]
          clear e1 e2 hmost hsim
          generalize (if last < m then (last : Int) + 1 else 0) = I at *
          generalize decide (last < m) = ok at *
          generalize (if last < m then last + 1 else last) = last' at *
          go_wp2_with fail
          refine hmk.mono ?_
          rintro e v1 ⟨rfl, hs2⟩
          have k0 : v1.cell? ⟨b7, 0, none⟩ = some (.int .i64 m) := hs2.cell 1 rfl rfl
          have k1 : v1.cell? ⟨b7, 1, none⟩ = some (.int .i64 last) := hs2.cell 1 rfl rfl
          have k2 : v1.cell? ⟨b7, 2, none⟩ = some (.slice ja J.length jc) := hs2.cell 1 rfl rfl
          clear hmk hs1
          go_wp2_with fail
          refine (hrm _).mono ?_
          rintro e v2 ⟨rfl, hb2⟩
          replace hs2 := hs2.later hb2
          have l7 : b7 < v2.heap.size := hs2.lt 1 rfl
          clear k0 k1 k2 hrm
          have k0 : v2.cell? ⟨b7, 0, none⟩ = some (.int .i64 m) := hs2.cell 1 rfl rfl
          have k1 : v2.cell? ⟨b7, 1, none⟩ = some (.int .i64 last) := hs2.cell 1 rfl rfl
          have k2 : v2.cell? ⟨b7, 2, none⟩ = some (.slice ja J.length jc) := hs2.cell 1 rfl rfl
          have f0 := hs2.free 1 rfl 0
          have f1 := hs2.free 1 rfl 1
          have f2 := hs2.free 1 rfl 2
          have hs3 := (((hs2.store 1 rfl 0 (.int .i64 m)).store 1 rfl 1 (.int .i64 last')).store 1 rfl 2 (.slice ja J.length jc)).alloc #[.int .i64 m, .int .i64 last', .slice ja J.length jc] 32
          go_wp2_with fail
          go_meet
          exact ⟨rfl, _, last', J, _, hsim', hmost', by omega, hs3.take 4⟩
        · have hx0' : (x == 0) = false := by simpa using hx0
          clear hx0
          by_cases hx1 : x = 1
          · subst hx1
            have hjB := sim_joinB hsim y z
            have hjn := hs1.join 0 rfl y z
            have hmost' : (afterJ N y z).most = m := by rw [most_afterJ, hmost]
            have hlast : last ≤ 65536 := by have := sim_lastLe hsim; omega
            have hrow : PRow wr1 W.heap.size (.slice ja J.length jc) J.length J := ⟨hs1.owns 2 rfl, rfl, by omega⟩
            have k0 : wr1.cell? ⟨b7, 0, none⟩ = some (.int .i64 m) := hs1.cell 1 rfl rfl
            have k1 : wr1.cell? ⟨b7, 1, none⟩ = some (.int .i64 last) := hs1.cell 1 rfl rfl
            have k2 : wr1.cell? ⟨b7, 2, none⟩ = some (.slice ja J.length jc) := hs1.cell 1 rfl rfl
            have d1 : wr1.cell? ⟨b9, 1, none⟩ = some (.int .i64 y) := hs1.cell 3 rfl rfl
            have d2 : wr1.cell? ⟨b9, 2, none⟩ = some (.int .i64 z) := hs1.cell 3 rfl rfl
            cases hj : joinB N y z
            · rw [hj] at hjn hjB
              have hsim' := sim_noJoin hsim hj
              have hR := refjoin_no W.heap.size m last hlast _ J.length J y z hjB.symm wr1 hrow
              have haf : afterJ N y z = N := by unfold afterJ; rw [hj]; rfl
              have HJ := Lib.hid hj
              clear hj hjB hjn hsim hrow
              go_wp2_with fail
              refine hR.mono ?_
              rintro e v1 ⟨rfl, hb2⟩
              have hs2 := hs1.later hb2
              have l7 : b7 < v1.heap.size := hs2.lt 1 rfl
              have l9 : b9 < v1.heap.size := hs2.lt 3 rfl
              have h79 : b7 ≠ b9 := hs2.ne 1 3 rfl rfl (by decide)
              clear k0 k1 k2 d1 d2 hR hs1
              have k0 : v1.cell? ⟨b7, 0, none⟩ = some (.int .i64 m) := hs2.cell 1 rfl rfl
              have k1 : v1.cell? ⟨b7, 1, none⟩ = some (.int .i64 last) := hs2.cell 1 rfl rfl
              have k2 : v1.cell? ⟨b7, 2, none⟩ = some (.slice ja J.length jc) := hs2.cell 1 rfl rfl
              have d1 : v1.cell? ⟨b9, 1, none⟩ = some (.int .i64 y) := hs2.cell 3 rfl rfl
              have d2 : v1.cell? ⟨b9, 2, none⟩ = some (.int .i64 z) := hs2.cell 3 rfl rfl
              have f0 := hs2.free 1 rfl 0
              have f1 := hs2.free 1 rfl 1
              have f2 := hs2.free 1 rfl 2
              have hs3 := (((hs2.store 1 rfl 0 (.int .i64 m)).store 1 rfl 1 (.int .i64 last)).store 1 rfl 2 (.slice ja J.length jc)).alloc #[.int .i64 m, .int .i64 last, .slice ja J.length jc] 32
              have hjn := hs3.join 0 rfl y z
              rw [HJ.out, haf] at hjn
              rw [haf] at hsim' hmost'
              clear HJ haf hs2
              go_wp2_with fail
              refine hjn.mono ?_
              rintro e v2 ⟨rfl, hs4⟩
              clear hjn hs3
              go_wp2_with fail
              go_meet
              exact ⟨rfl, N, last, J, _, hsim', hmost', by omega, hs4.take 4⟩
            · have hsim' := sim_join hsim hj
              obtain ⟨i, j, hi1, hj1, hij, _, _, _, _⟩ := joinB_at hj
              subst hi1
              subst hj1
              have hh : hasJ J last i = true ∧ hasJ J last j = true := by rw [hj] at hjB; have := hjB.symm; simp at this; exact this.2
              simp only [Int.toNat_natCast] at hsim'
              have hR := refjoin_yes W.heap.size m last hlast _ J.length (by omega) J i j hij hh.1 hh.2 wr1 hrow
              have HJ := Lib.hid hj
              clear hj hjB hjn hsim hrow hh
              go_wp2_with fail
              refine hR.mono ?_
              rintro e v1 ⟨va, vc, rfl, hb2, ho, ho2, ho3⟩
              have hWs := hs1.size
              have hs2 := hs1.add (O := Ob.row W.heap.size 53 2 (.slice va (J.length + 1) vc) (J.length + 1) (cellsBy pairC (J ++ [(i, j)]))) hb2 ⟨owns_low ho hWs, rfl⟩ (fun k hk => (ho.lt k hk).1)
              have l7 : b7 < v1.heap.size := hs2.lt 1 rfl
              have l9 : b9 < v1.heap.size := hs2.lt 3 rfl
              have h79 : b7 ≠ b9 := hs2.ne 1 3 rfl rfl (by decide)
              clear k0 k1 k2 d1 d2 hR hs1 ho ho2 hb2
              have k0 : v1.cell? ⟨b7, 0, none⟩ = some (.int .i64 m) := hs2.cell 1 rfl rfl
              have k1 : v1.cell? ⟨b7, 1, none⟩ = some (.int .i64 last) := hs2.cell 1 rfl rfl
              have k2 : v1.cell? ⟨b7, 2, none⟩ = some (.slice ja J.length jc) := hs2.cell 1 rfl rfl
              have d1 : v1.cell? ⟨b9, 1, none⟩ = some (.int .i64 i) := hs2.cell 3 rfl rfl
              have d2 : v1.cell? ⟨b9, 2, none⟩ = some (.int .i64 j) := hs2.cell 3 rfl rfl
              have f0 := hs2.free 1 rfl 0
              have f1 := hs2.free 1 rfl 1
              have f2 := hs2.free 1 rfl 2
              have hs3 := (((hs2.store 1 rfl 0 (.int .i64 m)).store 1 rfl 1 (.int .i64 last)).store 1 rfl 2 (.slice va (J.length + 1) vc)).alloc #[.int .i64 m, .int .i64 last, .slice va (J.length + 1) vc] 32
              have hjn := hs3.join 0 rfl i j
              rw [HJ.out] at hjn
              clear HJ hs2
              generalize afterJ N i j = N' at *
              go_wp2_with fail
              refine hjn.mono ?_
              rintro e v2 ⟨rfl, hs4⟩
              clear hjn hs3
              have hs5 := hs4.select [0, 1, 4, 3] (by decide) rfl
              have hl' : (J ++ [(i, j)]).length = J.length + 1 := by simp
              go_wp2_with fail
              go_meet
              exact ⟨rfl, N', last, J ++ [(i, j)], .slice va (J.length + 1) vc, hsim', hmost', by omega, by rw [hl']; exact hs5⟩
          · have hx1' : (x == 1) = false := by simpa using hx1
            clear hx1
            go_wp2_with fail
            go_meet
            exact ⟨rfl, N, last, J, _, hsim, hmost, by omega, hs1⟩
      case rest =>
        obtain ⟨rfl, N, last, J, jv, hsim, hmost, hJ, hs⟩ := hcut
        obtain ⟨ja, jc, rfl, _, _⟩ := owns_form (hs.owns 2 rfl)
        have hlast : last ≤ 65536 := by have := sim_lastLe hsim; omega
        have hrow : ∀ u, Scene W ([Ob.names W.heap.size p N, Ob.box b7 #[.int .i64 m, .int .i64 last, .slice ja J.length jc] 32, Ob.row W.heap.size 53 2 (.slice ja J.length jc) J.length (cellsBy pairC J)] ++ [Ob.box b9 #[.int .i64 x, .int .i64 y, .int .i64 z] 34]) u → PRow u W.heap.size (.slice ja J.length jc) J.length J := fun u hu => ⟨hu.owns 2 rfl, rfl, by omega⟩
        have d1 := hs.cell 3 rfl (o := 1) (v := .int .i64 y) rfl
        have hrt := hs.root 0 rfl y
        rw [sim_root hsim, sim_made hsim] at hrt
        have hR := fun u h => refroot_any W.heap.size m last hlast (.slice ja J.length jc) J.length J y u h
        generalize rootJI J last y = rI at *
        generalize decide (1 ≤ y ∧ y ≤ (last : Int)) = rB at *
        go_wp2_with fail
        refine hrt.mono ?_
        rintro e v1 ⟨rfl, hs1⟩
        replace hs1 : Scene W ([Ob.names W.heap.size p N, Ob.box b7 #[.int .i64 m, .int .i64 last, .slice ja J.length jc] 32, Ob.row W.heap.size 53 2 (.slice ja J.length jc) J.length (cellsBy pairC J)] ++ [Ob.box b9 #[.int .i64 x, .int .i64 y, .int .i64 z] 34]) v1 := hs1
        clear hrt hs d1
        have k0 : v1.cell? ⟨b7, 0, none⟩ = some (.int .i64 m) := hs1.cell 1 rfl rfl
        have k1 : v1.cell? ⟨b7, 1, none⟩ = some (.int .i64 last) := hs1.cell 1 rfl rfl
        have k2 : v1.cell? ⟨b7, 2, none⟩ = some (.slice ja J.length jc) := hs1.cell 1 rfl rfl
        have d1 : v1.cell? ⟨b9, 1, none⟩ = some (.int .i64 y) := hs1.cell 3 rfl rfl
        go_wp2_with fail
        refine (hR _ (hrow _ hs1)).mono ?_
        rintro e v2 ⟨rfl, hb2⟩
        have hs2 := hs1.later hb2
        clear hs1 hb2 k0 k1 k2 d1 hR
        have k0 := cell_regrown (hs2.cell 1 rfl (o := 0) (v := .int .i64 m) rfl)
        have k1 := cell_regrown (hs2.cell 1 rfl (o := 1) (v := .int .i64 last) rfl)
        have k2 := cell_regrown (hs2.cell 1 rfl (o := 2) (v := .slice ja J.length jc) rfl)
        have d2 := cell_regrown (hs2.cell 3 rfl (o := 2) (v := .int .i64 z) rfl)
        have cA : ∀ d' os, Calls Try.prog 12 #[.pointer (some ⟨p, 0, none⟩), .int .i64 z] (grow (redrawn v2 d') os) fun e w'' => e = .returned (.bool (hasJ J last z)) ∧ ∃ p : Regrown, w'' = grow (redrawn v2 p.d) p.os := fun d' os => Calls.regrown_of ((Scene.has (hs2.later (below_regrown _ d' os)) 0 rfl z).mono fun _ _ h => ⟨by rw [← sim_has hsim]; exact h.1, h.2 ▸ Below.refl _ _⟩)
        have cB : ∀ d' os, Calls Try.prog 19 #[RV m last (.slice ja J.length jc), .int .i64 z] (grow (redrawn v2 d') os) fun e w'' => e = .returned (.bool (hasJ J last z)) ∧ ∃ p : Regrown, w'' = grow (redrawn v2 p.d) p.os := fun d' os => Calls.regrown_of (refhas_any W.heap.size m last hlast _ J.length J z _ (hrow _ (hs2.later (below_regrown _ d' os))))
        have cC : ∀ d' os, Calls Try.prog 11 #[.pointer (some ⟨p, 0, none⟩)] (grow (redrawn v2 d') os) fun e w'' => e = .returned (.int .i64 ((last : Int) - J.length)) ∧ ∃ p : Regrown, w'' = grow (redrawn v2 p.d) p.os := fun d' os => Calls.regrown_of ((Scene.count (hs2.later (below_regrown _ d' os)) 0 rfl).mono fun _ _ h => ⟨by rw [← sim_count hsim]; exact h.1, h.2 ▸ Below.refl _ _⟩)
        have cD : ∀ d' os, Calls Try.prog 20 #[RV m last (.slice ja J.length jc)] (grow (redrawn v2 d') os) fun e w'' => e = .returned (.int .i64 ((last : Int) - J.length)) ∧ ∃ p : Regrown, w'' = grow (redrawn v2 p.d) p.os := fun d' os => Calls.regrown_of (refcount_any W.heap.size m last hlast _ J.length J _ (hrow _ (hs2.later (below_regrown _ d' os))))
        have cE : ∀ d' os, Calls Try.prog 10 #[.pointer (some ⟨p, 0, none⟩)] (grow (redrawn v2 d') os) fun e w'' => e = .returned (.int .i64 last) ∧ ∃ p : Regrown, w'' = grow (redrawn v2 p.d) p.os := fun d' os => Calls.regrown_of ((Scene.last (hs2.later (below_regrown _ d' os)) 0 rfl).mono fun _ _ h => ⟨by rw [← sim_last hsim]; exact h.1, h.2 ▸ Below.refl _ _⟩)
        have HJl : Hid (J.length ≤ k + 1) := Lib.hid hJ
        clear hJ
        generalize hasJ J last z = hz at *
        generalize hcnt : ((last : Int) - J.length) = cz at *
        clear hcnt
        go_wp2_with fail
        refine wp_region_quiet_below (by kernel_rfl) (by kernel_rfl) ?_
        repeat (first | go_big_quiet_step (first | with_reducible exact cA _ _ | with_reducible exact cB _ _ | with_reducible exact cC _ _ | with_reducible exact cD _ _ | with_reducible exact cE _ _) | quiet_step (fail))
        refine wpQuiet_nil ?_
        intro W3 hw'
        replace hw' := below_regrown' hw'
        replace hs2 := (hs2.later hw').take 3
        clear cA cB cC cD cE k0 k1 k2 d2 hw' hrow
        go_wp2_with fail
        go_roundw
        case rel => exact ⟨k + 1, by omega, by go_num, N, last, J, _, hsim, hmost, HJl.out, hs2⟩
        case measure => simp [intOf]; try omega
    · have hki : ¬ (k : Int) < n := by omega
      obtain ⟨ja, jc, rfl, _, _⟩ := owns_form (hs.owns 2 rfl)
      have hlast : last ≤ 65536 := by have := sim_lastLe hsim; omega
      replace hs : Scene W [Ob.names W.heap.size p N, Ob.box b7 #[.int .i64 m, .int .i64 last, .slice ja J.length jc] 32, Ob.row W.heap.size 53 2 (.slice ja J.length jc) J.length (cellsBy pairC J)] wr := hs
      have hJ80 : J.length ≤ 80 := by omega
      clear hact hJ
      go_wp2_with fail
      obtain ⟨wo, hwo⟩ : ∃ wo : World, wo = wr := ⟨_, rfl⟩
      go_loopw [21] (fun i wr => ∃ (x : Nat), x ≤ last + 2 ∧ i = .int .i64 x ∧ Scene W [Ob.names W.heap.size p N, Ob.box b7 #[.int .i64 m, .int .i64 last, .slice ja J.length jc] 32, Ob.row W.heap.size 53 2 (.slice ja J.length jc) J.length (cellsBy pairC J)] wr) (fun i _ => last + 2 - (intOf i).toNat)
      case atStart => exact ⟨0, by omega, rfl, hs⟩
      case round =>
        clear hs hwo
        obtain ⟨x, hx2, rfl, hs⟩ := hrel
        have k1 : wr.cell? ⟨b7, 1, none⟩ = some (.int .i64 last) := hs.cell 1 rfl rfl
        by_cases hlx : x ≤ last + 1
        · have hxi : (x : Int) ≤ last + 1 := by omega
          have hrt := hs.root 0 rfl x
          rw [sim_root hsim, sim_made hsim] at hrt
          have hR := fun u (h : Scene W [Ob.names W.heap.size p N, Ob.box b7 #[.int .i64 m, .int .i64 last, .slice ja J.length jc] 32, Ob.row W.heap.size 53 2 (.slice ja J.length jc) J.length (cellsBy pairC J)] u) => refroot_any W.heap.size m last hlast (.slice ja J.length jc) J.length J x u ⟨h.owns 2 rfl, rfl, hJ80⟩
          generalize rootJI J last x = rI at *
          generalize decide (1 ≤ (x : Int) ∧ (x : Int) ≤ (last : Int)) = rB at *
          go_wp2_with fail
          refine hrt.mono ?_
          rintro e v1 ⟨rfl, hs1⟩
          replace hs1 : Scene W [Ob.names W.heap.size p N, Ob.box b7 #[.int .i64 m, .int .i64 last, .slice ja J.length jc] 32, Ob.row W.heap.size 53 2 (.slice ja J.length jc) J.length (cellsBy pairC J)] v1 := hs1
          clear hrt hs k1
          have k0 : v1.cell? ⟨b7, 0, none⟩ = some (.int .i64 m) := hs1.cell 1 rfl rfl
          have k1 : v1.cell? ⟨b7, 1, none⟩ = some (.int .i64 last) := hs1.cell 1 rfl rfl
          have k2 : v1.cell? ⟨b7, 2, none⟩ = some (.slice ja J.length jc) := hs1.cell 1 rfl rfl
          go_wp2_with fail
          refine (hR _ hs1).mono ?_
          rintro e v2 ⟨rfl, hb2⟩
          have hs2 := hs1.later hb2
          clear hs1 hb2 k0 k1 k2 hR
          go_wp2_with fail
          go_roundw
          case rel => exact ⟨x + 1, by omega, by go_num, hs2⟩
          case measure => simp [intOf]; omega
        · have hxi : ¬ (x : Int) ≤ last + 1 := by omega
          go_wp2_with fail
          go_ret
          exact ⟨rfl, below_chain hb hs.below⟩
set_option maxRecDepth 100000 in
/-- .. of whatever list: a too long one ends it at once. -/
theorem runs_all (m : Nat) (hm : m ≤ 255) (a : Option Addr) (n cap : Nat) (hcap : n ≤ cap ∧ cap ≤ 9223372036854775807) (w : World)
    (hact : ∀ k, k < n → ∃ b off x y z, a = some ⟨b, off, none⟩ ∧ w.cell? ⟨b, off + k * 3, none⟩ = some (.int .i64 x) ∧ w.cell? ⟨b, off + k * 3 + 1, none⟩ = some (.int .i64 y) ∧ w.cell? ⟨b, off + k * 3 + 2, none⟩ = some (.int .i64 z)) :
    Calls Try.prog 4 #[.int .u8 m, .slice a n cap] w fun e w' => e = .returned (.bool true) ∧ Below w.heap.size w w' := by
  by_cases h1 : n ≤ 80
  · exact runs_walk m hm a n cap h1 hcap w hact
  · have h1' : 80 < (n : Int) := by omega
    obtain ⟨hcap1, hcap2⟩ := hcap
    clear hact h1
    go_enter Try.func4, Try.ntmps4
    go_wp2_with fail
    refine (alive_any w).mono ?_
    rintro e W ⟨rfl, hb⟩
    go_wp2_with fail
    go_ret
    exact ⟨rfl, hb⟩
end Go.Proofs.Ytjpehcpkhbfjaaa
