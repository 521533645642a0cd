/- Merged of NestRuns, NestSorts. -/
import Derived.Test.YtcjjglaimfhofaaNestDo
import Derived.Deep.CutBlock
import Derived.Deep.DeepCutAuto
import Derived.Test.YtcjjglaimfhofaaLaw
namespace Go.Proofs.Ytcjjglaimfhofaa
open Go.RowKit Go.Sort

section
variable {γ : Type} {O : WS → γ → Ob} {st : γ → Int} {R : WS → Int → Int → Int → Int → Int → γ → γ → Prop} {H : World → Prop} {T : TypeId} {v : Value} {f : NestFns}
/-- Do, on a stage that has more than the two nests. -/
theorem do_st (N : Nests O st R H T v f) {hv cv : Value} {W : WS} {g : γ} {r : List Ob} {F0 : Nat → Prop} {W0 w : World} (k y x q s : Int) (hy : inInt y) (hx : inInt x) (hs : Stage F0 W0 ([O W g, Ob.nest hv cv W] ++ r) w) :
    Calls Try.prog 25 #[.iface T v, .agg #[hv, cv], .agg #[.int .i64 k, .int .i64 y, .int .i64 x, .int .i64 q, .int .u64 s]] w fun e w' =>
      ∃ a n c a' n' c' g', e = .returned (.tuple #[.agg #[.slice a n c, .slice a' n' c'], .bool true]) ∧ R W k y x q s g g' ∧ Stage F0 W0 ([O (doW W k y x q s) g', Ob.nest (.slice a n c) (.slice a' n' c') (doW W k y x q s)] ++ r) w' := by
  refine (hs.frameEx (α := Option Addr × Nat × Nat × Option Addr × Nat × Nat × γ) (Post := fun t e => e = .returned (.tuple #[.agg #[.slice t.1 t.2.1 t.2.2.1, .slice t.2.2.2.1 t.2.2.2.2.1 t.2.2.2.2.2.1], .bool true]) ∧ R W k y x q s g t.2.2.2.2.2.2)
    (l' := fun t => [O (doW W k y x q s) t.2.2.2.2.2.2, Ob.nest (.slice t.1 t.2.1 t.2.2.1) (.slice t.2.2.2.1 t.2.2.2.2.1 t.2.2.2.2.2.1) (doW W k y x q s)])
    fun F hF h => (do_any N k y x q s hy hx h).mono fun e w' ⟨a, n, c, a', n', c', g', h1, h2, h3⟩ => ⟨(a, n, c, a', n', c', g'), ⟨h1, h2⟩, h3⟩).mono ?_
  rintro e w' ⟨⟨a, n, c, a', n', c', g'⟩, ⟨h1, h2⟩, h3⟩
  exact ⟨a, n, c, a', n', c', g', h1, h2, h3⟩
theorem looks_st (N : Nests O st R H T v f) {hv cv : Value} {W : WS} {g : γ} {r : List Ob} {F0 : Nat → Prop} {W0 w : World} (k y x q s : Int) (hy : inInt y) (hs : Stage F0 W0 ([O W g, Ob.nest hv cv W] ++ r) w) :
    Calls Try.prog 57 #[.iface T v, .agg #[hv, cv], .agg #[.int .i64 k, .int .i64 y, .int .i64 x, .int .i64 q, .int .u64 s]] w fun e w' => e = .returned (.bool true) ∧ Stage F0 W0 ([O W g, Ob.nest hv cv W] ++ r) w' := by
  have hfit : W.Fit := by obtain ⟨F, ho⟩ := hs.get (i := 0) rfl; exact N.fit ho
  exact hs.frame fun F hF h => looks_any (N.tells hfit) N.mEntry N.mHome N.mHas N.mLen k y x q s hy h
theorem put_cells (W : WS) (h x k s : Int) : (putW W h x k s).cells.length = W.cells.length := by unfold putW; split <;> simp
theorem lower_cells (W : WS) (x k s : Int) : (lowerW W x k s).cells.length = W.cells.length := by unfold lowerW; split <;> simp
theorem join_cells (W : WS) (a b : Int) : (joinW W a b).cells.length = W.cells.length := by unfold joinW; split <;> simp
theorem make_cells (W : WS) : (makeW W).cells.length = W.cells.length := by unfold makeW; split <;> simp
theorem ex_cells (W : WS) (h : Int) : (exW W h).cells.length = W.cells.length := by
  unfold exW
  split
  · exact drop_cells _ _
  · rfl
theorem do_cells (W : WS) (k y x q r : Int) : (doW W k y x q r).cells.length = W.cells.length := by
  unfold doW
  repeat' split
  all_goals first | exact make_cells _ | exact put_cells _ _ _ _ _ | exact ex_cells _ _ | exact lower_cells _ _ _ _ | exact drop_cells _ _ | exact join_cells _ _ _ | rfl

/-- Acts that lie in memory, five cells each. -/
def ActsAt (w : World) (a0 : Option Addr) (n0 : Nat) : Prop := ∀ k, k < n0 → ∃ b off x y z q r, a0 = some ⟨b, off, none⟩ ∧ w.cell? ⟨b, off + k * 5, none⟩ = some (.int .i64 x) ∧ w.cell? ⟨b, off + k * 5 + 1, none⟩ = some (.int .i64 y) ∧ w.cell? ⟨b, off + k * 5 + 2, none⟩ = some (.int .i64 z) ∧ w.cell? ⟨b, off + k * 5 + 3, none⟩ = some (.int .i64 q) ∧ w.cell? ⟨b, off + k * 5 + 4, none⟩ = some (.int .u64 r) ∧ inInt y ∧ inInt z

set_option maxRecDepth 100000 in
set_option maxHeartbeats 4000000 in
theorem runs_any (N : Nests O st R H T v f) (m : Nat) (hm : m ≤ 65536) (a0 : Option Addr) (n0 cap : Nat) (hcap : n0 ≤ cap ∧ cap ≤ 9223372036854775807) {g : γ} {W0 w : World} (hact : ActsAt W0 a0 n0) (hs : Stage (fun _ => False) W0 [O (newW m) g] w) :
    Calls Try.prog 36 #[.iface T v, .int .i64 m, .slice a0 n0 cap] w fun e w' => e = .returned (.bool true) ∧ Below W0.heap.size W0 w' := by
  obtain ⟨hcap1, hcap2⟩ := hcap
  go_enter Try.func36, Try.ntmps36
  go_wp2_with fail
  refine (refnew_any m hm w).mono ?_
  rintro e w3 ⟨hv, cv, rfl, hb3, hN3, hF3⟩
  obtain ⟨ha, hc, rfl, _, _⟩ := hN3.hform
  obtain ⟨ca, cc, hcv, _, _⟩ := hN3.cform
  have hW0 : (newW m).cells.length = m := by simp [newW]
  rw [hW0] at hcv
  subst hcv
  generalize hn1 : (newW m).heaps.length = n1 at *
  have hs2 := (hs.add (O := Ob.nest (.slice ha n1 hc) (.slice ca m cc) (newW m)) hb3 ⟨hN3, rfl⟩ hF3).alloc #[.slice ha n1 hc, .slice ca m cc] 59
  clear hs hb3 hN3 hF3 hn1
  obtain ⟨w4, hw4, hs⟩ : ∃ w4, w3.alloc (.cells #[.slice ha n1 hc, .slice ca m cc] 59) = w4 ∧ Stage (fun _ => False) W0 [O (newW m) g, Ob.nest (.slice ha n1 hc) (.slice ca m cc) (newW m), Ob.box w3.heap.size #[.slice ha n1 hc, .slice ca m cc] 59] w4 := ⟨_, rfl, hs2⟩
  clear hs2
  go_wp2_with fail
  clear hw4
  generalize w3.heap.size = b8 at *
  generalize newW m = WN at *
  go_loopw [23] (fun i wr => ∃ (k : Nat) (W : WS) (g : γ) (a : Option Addr) (n c : Nat) (a' : Option Addr) (n' c' : Nat), k ≤ n0 ∧ i = .int .i64 k ∧ W.cells.length = m ∧ Stage (fun _ => False) W0 [O W g, Ob.nest (.slice a n c) (.slice a' n' c') W, Ob.box b8 #[.slice a n c, .slice a' n' c'] 59] wr) (fun i _ => n0 - (intOf i).toNat)
  case atStart => exact ⟨0, WN, g, ha, n1, hc, ca, m, cc, Nat.zero_le _, rfl, hW0, hs⟩
  case round =>
    clear hs hW0
    obtain ⟨k, W, g, a, n, c, a', n', c', hk, rfl, hWm, hs⟩ := hrel
    by_cases hlt : k < n0
    · have hki : (k : Int) < n0 := by omega
      obtain ⟨ba, offa, x, y, z, q, r, rfl, g0, g1, g2, g3, g4, hy, hz⟩ := hact k hlt
      replace g0 := later hs.below g0
      replace g1 := later hs.below g1
      replace g2 := later hs.below g2
      replace g3 := later hs.below g3
      replace g4 := later hs.below g4
      obtain ⟨wr1, hwr1, hs0⟩ : ∃ w9 : World, wr.alloc (.cells #[.int .i64 x, .int .i64 y, .int .i64 z, .int .i64 q, .int .u64 r] 65) = w9 ∧ Stage (fun _ => False) W0 ([O W g, Ob.nest (.slice a n c) (.slice a' n' c') W] ++ [Ob.box b8 #[.slice a n c, .slice a' n' c'] 59, Ob.box wr.heap.size #[.int .i64 x, .int .i64 y, .int .i64 z, .int .i64 q, .int .u64 r] 65]) w9 := ⟨_, rfl, hs.alloc _ _⟩
      have hD := do_st N x y z q r hy hz hs0
      have k0 := hs0.cell 2 rfl (o := 0) rfl
      have k1 := hs0.cell 2 rfl (o := 1) rfl
      have d0 := hs0.cell 3 rfl (o := 0) rfl
      have d1 := hs0.cell 3 rfl (o := 1) rfl
      have d2 := hs0.cell 3 rfl (o := 2) rfl
      have d3 := hs0.cell 3 rfl (o := 3) rfl
      have d4 := hs0.cell 3 rfl (o := 4) rfl
      go_wp2_with fail
      clear hwr1 g0 g1 g2 g3 g4 k0 k1 d0 d1 d2 d3 d4 hs
      generalize wr.heap.size = bA at *
      refine hD.mono ?_
      rintro e v1 ⟨a2, n2, c2, a3, n3, c3, g', rfl, _, hs2⟩
      clear hD hs0
      have hWm2 := (do_cells W x y z q r).trans hWm
      generalize doW W x y z q r = W2 at *
      clear hWm
      replace hs2 : Stage (fun _ => False) W0 [O W2 g', Ob.nest (.slice a2 n2 c2) (.slice a3 n3 c3) W2, Ob.box b8 #[.slice a n c, .slice a' n' c'] 59, Ob.box bA #[.int .i64 x, .int .i64 y, .int .i64 z, .int .i64 q, .int .u64 r] 65] v1 := hs2
      obtain ⟨v2, hv2, hs3⟩ : ∃ v2, v1.alloc (.cells #[.slice a2 n2 c2, .slice a3 n3 c3] 59) = v2 ∧ Stage (fun _ => False) W0 [O W2 g', Ob.nest (.slice a2 n2 c2) (.slice a3 n3 c3) W2, Ob.box b8 #[.slice a n c, .slice a' n' c'] 59, Ob.box bA #[.int .i64 x, .int .i64 y, .int .i64 z, .int .i64 q, .int .u64 r] 65, Ob.box v1.heap.size #[.slice a2 n2 c2, .slice a3 n3 c3] 59] v2 := ⟨_, rfl, hs2.alloc _ _⟩
      clear hs2
      have j0 := hs3.cell 4 rfl (o := 0) rfl
      have j1 := hs3.cell 4 rfl (o := 1) rfl
      have f0 := hs3.free 2 rfl 0
      have f1 := hs3.free 2 rfl 1
      have l8 := hs3.lt 2 rfl
      have k0 := hs3.cell 2 rfl (o := 0) rfl
      have k1 := hs3.cell 2 rfl (o := 1) rfl
      obtain ⟨v3, hv3, hs4⟩ : ∃ v3, (v2.setCell ⟨b8, 0, none⟩ (.slice a2 n2 c2)).setCell ⟨b8, 1, none⟩ (.slice a3 n3 c3) = v3 ∧ Stage (fun _ => False) W0 ([O W2 g', Ob.nest (.slice a2 n2 c2) (.slice a3 n3 c3) W2] ++ [Ob.box b8 #[.slice a2 n2 c2, .slice a3 n3 c3] 59, Ob.box bA #[.int .i64 x, .int .i64 y, .int .i64 z, .int .i64 q, .int .u64 r] 65, Ob.box v1.heap.size #[.slice a2 n2 c2, .slice a3 n3 c3] 59]) v3 := ⟨_, rfl, (hs3.store 2 rfl 0 _).store 2 rfl 1 _⟩
      clear hs3
      have hL := looks_st N x y z q r hy hs4
      have n0' := hs4.cell 2 rfl (o := 0) rfl
      have n1' := hs4.cell 2 rfl (o := 1) rfl
      have d0 := hs4.cell 3 rfl (o := 0) rfl
      have d1 := hs4.cell 3 rfl (o := 1) rfl
      have d2 := hs4.cell 3 rfl (o := 2) rfl
      have d3 := hs4.cell 3 rfl (o := 3) rfl
      have d4 := hs4.cell 3 rfl (o := 4) rfl
      go_wp2_with fail
      clear hv2 hv3 j0 j1 f0 f1 l8 k0 k1 n0' n1' d0 d1 d2 d3 d4
      refine hL.mono ?_
      rintro e v4 ⟨rfl, hs5⟩
      clear hL hs4
      go_wp2_with fail
      go_roundw
      case rel => exact ⟨k + 1, W2, g', a2, n2, c2, a3, n3, c3, by omega, by go_num, hWm2, hs5.take 3⟩
      case measure => simp [intOf]; omega
    · have hki : ¬ (k : Int) < n0 := by omega
      have hfit : W.Fit := by obtain ⟨F, ho⟩ := hs.get (i := 0) rfl; exact N.fit ho
      have hfl := hfit.len
      have hlen : W.heaps.length = n := by obtain ⟨a9, c9, h9, _, _⟩ := (hs.nestAt 1 rfl).hform; injection h9 with _ h9 _; exact h9.symm
      rw [hlen] at hfl
      clear hlt hk
      have k0 := hs.cell 2 rfl (o := 0) rfl
      go_wp2_with fail
      clear k0
      go_loopw [12] (fun i wr => ∃ (h : Nat) (V : WS) (g : γ), 1 ≤ h ∧ (h ≤ n ∨ h = 1) ∧ i = .int .i64 h ∧ RInv W V h ∧ Stage (fun _ => False) W0 [O V g, Ob.nest (.slice a n c) (.slice a' n' c') W, Ob.box b8 #[.slice a n c, .slice a' n' c'] 59] wr) (fun i _ => n - (intOf i).toNat)
      case atStart => exact ⟨1, W, g, Nat.le_refl _, Or.inr rfl, rfl, rinv_start W _, hs⟩
      case round =>
        clear hs
        obtain ⟨h, V, g, h1, hle, rfl, hI, hs⟩ := hrel
        have hhn : h ≤ 65537 := by omega
        by_cases hlt : h < n
        · have hki : (h : Int) < n := by omega
          have hh : inInt h := ⟨by omega, by omega⟩
          have k0 := hs.cell 2 rfl (o := 0) rfl
          have k1 := hs.cell 2 rfl (o := 1) rfl
          go_wp2_with fail
          clear k0 k1
          refine (reforder_any h (hs.nestAt 1 rfl)).mono ?_
          rintro e w5 ⟨ar, cr, rfl, hr⟩
          have hI2 := rin_start hI (by omega)
          have hlo : (orderW W h).length ≤ 65536 := Nat.le_trans (order_le W h) hfit.cap
          generalize orderW W h = L at *
          obtain ⟨F5, hr1, hr2⟩ := hr.get (i := 0) rfl
          have hs5 := hs.add (O := Ob.row 0 3 1 (.slice ar L.length cr) L.length (cellsBy natC L)) hr.below ⟨hr1, hr2⟩ (fun k hk => by
            obtain ⟨_, G, q1, _, q3⟩ := hr
            have e := (q1 0 _ rfl).2
            rw [hr2, ← e] at hk
            exact (q3 0 k hk).1.elim False.elim id)
          clear hr hr1 hr2 hs hI
          go_wp2_with fail
          go_loopw [56] (fun i wr => ∃ (j : Nat) (V : WS) (g : γ), j ≤ L.length ∧ i = .int .i64 j ∧ RIn W V h (L.drop j) ∧ Stage (fun _ => False) W0 [O V g, Ob.nest (.slice a n c) (.slice a' n' c') W, Ob.box b8 #[.slice a n c, .slice a' n' c'] 59, Ob.row 0 3 1 (.slice ar L.length cr) L.length (cellsBy natC L)] wr) (fun i _ => L.length - (intOf i).toNat)
          case atStart => exact ⟨0, V, g, Nat.zero_le _, rfl, hI2, hs5⟩
          case round =>
            clear hs5 hI2
            obtain ⟨j, V, g, hj, rfl, hI, hs⟩ := hrel
            by_cases hlj : j < L.length
            · have hji : (j : Int) < L.length := by omega
              obtain ⟨gr, cr', hcr, _, _, _, _, hu, _⟩ := owns_at natC_len 0 (hs.owns 3 rfl) rfl (by omega)
              cases hcr
              have u0 := hu j 0 _ hlj (by omega) rfl
              rw [Nat.mul_one, Nat.add_zero] at u0
              clear hu
              rw [drop_consD 0 L j hlj] at hI
              generalize L.getD j 0 = s at *
              obtain ⟨hmin, hI2⟩ := rin_step hI
              obtain ⟨q1, q2⟩ := minI_some (min_of hmin)
              have q3 : exW V h = dropW V s := by simp [exW, min_of hmin]
              have hE := hs.callEx 0 rfl (fun _ ho => N.ext h hh ho)
              rw [q1, q2, q3] at hE
              have hH := (hs.get (i := 0) rfl).elim fun _ h => N.there h
              have m1 := N.mExt.find _ hH
              have m2 := N.mExt.enter
              go_wp2_with fail
              clear m1 m2 hH u0
              refine hE.mono ?_
              rintro e w6 ⟨rfl, g', _, hs6⟩
              clear hE hs hI
              replace hs6 : Stage (fun _ => False) W0 [O (dropW V s) g', Ob.nest (.slice a n c) (.slice a' n' c') W, Ob.box b8 #[.slice a n c, .slice a' n' c'] 59, Ob.row 0 3 1 (.slice (some ⟨gr, 0, none⟩) L.length cr) L.length (cellsBy natC L)] w6 := hs6
              generalize dropW V s = V' at *
              have hhas := rin_has hI2 h1 (by omega)
              obtain ⟨gh, ch, hch, _, uh⟩ := (hs6.nestAt 1 rfl).hcell h (by omega)
              rw [hlen] at hch
              cases hch
              have kh := cell_regrown uh
              have k0 := cell_regrown (hs6.cell 2 rfl (o := 0) rfl)
              have cA : ∀ d' os, Calls Try.prog f.has.id #[f.has.rv, .int .i64 h] (grow (redrawn w6 d') os) fun e w'' => e = .returned (.bool (hasW V' h)) ∧ ∃ p : Regrown, w'' = grow (redrawn w6 p.d) p.os := fun d' os => Calls.regrown_of (by obtain ⟨F', ho⟩ := (hs6.later (below_regrown w6 d' os)).get (i := 0) rfl; exact N.has h ho)
              have hH : ∀ d' os, H (grow (redrawn w6 d') os) := fun d' os => ((hs6.later (below_regrown w6 d' os)).get (i := 0) rfl).elim fun _ h => N.there h
              have m1 := fun d' os => N.mHas.find _ (hH d' os)
              have m2 := N.mHas.enter
              rw [hhas] at cA
              generalize W.heaps.getD h false = B at *
              have hhn' : (h : Int) < n := by omega
              go_wp2_with fail
              refine wp_region_quiet_below (by kernel_rfl) (by kernel_rfl) ?_
              repeat (first | go_big_quiet_step (first | with_reducible exact cA _ _) | quiet_step (fail))
              refine wpQuiet_nil ?_
              intro W3 hw
              replace hw := below_regrown' hw
              have hs7 := hs6.later hw
              clear cA hH m1 m2 kh k0 uh hs6 hw hhas
              go_wp2_with fail
              go_roundw
              case rel => exact ⟨j + 1, V', g', by omega, by go_num, hI2, hs7⟩
              case measure => simp [intOf]; omega
            · have hji : ¬ (j : Int) < L.length := by omega
              obtain rfl : j = L.length := by omega
              rw [List.drop_length] at hI
              obtain ⟨q1, q2, hI2⟩ := rin_end hI
              obtain ⟨q3, q4⟩ := minI_none q1
              have q5 : exW V h = V := by simp [exW, q1]
              have hE := hs.callEx 0 rfl (fun _ ho => N.ext h hh ho)
              rw [q3, q4, q5] at hE
              have hH := (hs.get (i := 0) rfl).elim fun _ h => N.there h
              have m1 := N.mExt.find _ hH
              have m2 := N.mExt.enter
              go_wp2_with fail
              clear m1 m2 hH
              refine hE.mono ?_
              rintro e w6 ⟨rfl, g', _, hs6⟩
              clear hE hs hI
              have hL := hs6.askB 0 rfl (fun _ ho => N.len h hh ho)
              have q2' : (lenW V h : Int) = 0 := by omega
              rw [q2'] at hL
              clear q2 q2'
              have hH := (hs6.get (i := 0) rfl).elim fun _ h => N.there h
              have m1 := N.mLen.find _ hH
              have m2 := N.mLen.enter
              go_wp2_with fail
              clear m1 m2 hH
              refine hL.mono ?_
              rintro e w7 ⟨rfl, hs7⟩
              clear hL hs6
              go_wp2_with fail
              go_roundw
              case rel => exact ⟨h + 1, V, g', by omega, Or.inl (by omega), by go_num, hI2, hs7.take 3⟩
              case measure => simp [intOf]; omega
        · have hki : ¬ (h : Int) < n := by omega
          have hC := hs.askB 0 rfl (fun _ ho => N.cap ho)
          rw [hI.cells, hWm] at hC
          have hH := (hs.get (i := 0) rfl).elim fun _ h => N.there h
          have m1 := N.mCap.find _ hH
          have m2 := N.mCap.enter
          have k0 := hs.cell 2 rfl (o := 0) rfl
          go_wp2_with fail
          refine hC.mono ?_
          rintro e w6 ⟨rfl, hs6⟩
          go_wp2_with fail
          go_ret
          exact ⟨rfl, hs6.below⟩
end
end Go.Proofs.Ytcjjglaimfhofaa

namespace Go.Proofs.Ytcjjglaimfhofaa
open Go.RowKit Go.Sort

theorem pinv_none {H : List Bool} {h : Nat → Nat} {key : Nat → Int} {q : Int} {n : Nat} {W : WS} (P : PInv H h key q n 0 W) (y : Int) : lenW W y = 0 := by
  rw [len_zero]
  intro i hi hy he
  have := P.rest i (Nat.zero_le _) (by rw [← P.len]; exact hi)
  rw [homeAt, this] at he
  simp [CellD.off] at he
  omega
theorem pinv_has {H : List Bool} {h : Nat → Nat} {key : Nat → Int} {q : Int} {n k : Nat} {W : WS} (P : PInv H h key q n k W) (i : Nat) (h1 : 1 ≤ i) (h2 : i < H.length) (h3 : H.getD i false = true) : hasW W i = true := by
  have : (1 : Int) ≤ i ∧ (i : Int) < H.length := by omega
  unfold hasW
  rw [P.heaps, decide_eq_true this, Bool.true_and, Int.toNat_natCast]
  exact h3
section
variable {γ : Type} {O : WS → γ → Ob} {st : γ → Int} {R : WS → Int → Int → Int → Int → Int → γ → γ → Prop} {H : World → Prop} {T : TypeId} {v : Value} {f : NestFns}
set_option maxRecDepth 100000 in
set_option maxHeartbeats 4000000 in
theorem sorts_any (N : Nests O st R H T v f) (L : List Int) (hn : L.length ≤ 65536) (a0 : Option Addr) (cap : Nat) (hcap : L.length ≤ cap ∧ cap ≤ 9223372036854775807) {g : γ} {W0 w : World} (hkey : IntsAt W0 .i64 a0 L) (hs : Stage (fun _ => False) W0 [O (newW L.length) g] w) :
    Calls Try.prog 38 #[.iface T v, .slice a0 L.length cap] w fun e w' => e = .returned (.bool true) ∧ Below W0.heap.size W0 w' := by
  obtain ⟨hcap1, hcap2⟩ := hcap
  obtain ⟨key, hke⟩ : ∃ key : Nat → Int, key = fun i => L.getD i 0 := ⟨_, rfl⟩
  have hK : ∀ i, i < L.length → ∃ b off, a0 = some ⟨b, off, none⟩ ∧ W0.cell? ⟨b, off + i, none⟩ = some (.int .i64 (key i)) := fun i hi => by rw [hke]; exact hkey i hi
  clear hkey hke
  generalize L.length = n0 at *
  have hH := (hs.get (i := 0) rfl).elim fun _ h => N.there h
  have m1 := N.mMake.find _ hH
  have m2 := N.mMake.enter
  have hM := hs.callEx 0 rfl (fun _ ho => N.make ho)
  have hP := new_pinv n0 (fun _ => 1) key 0
  obtain ⟨hP1, e1⟩ := pinv_make hP (by simp)
  rw [e1] at hM
  generalize makeW (newW n0) = W1 at *
  replace hM : Calls Try.prog f.make.id #[f.make.rv] w fun e w' => e = .returned (.int .i64 1) ∧ ∃ g', (∀ y x q r, R (newW n0) 0 y x q r g g') ∧ Stage (fun _ => False) W0 [O W1 g'] w' := hM
  replace hP1 : PInv [false, true] (fun _ => 1) key 0 n0 0 W1 := hP1
  clear hP e1
  go_enter Try.func38, Try.ntmps38
  go_wp2_with fail
  clear m1 m2 hH hs
  refine hM.mono ?_
  rintro e w1 ⟨rfl, g1, _, hs⟩
  clear hM
  have hl0 := pinv_none hP1 1
  have h1i : inInt 1 := ⟨by omega, by omega⟩
  go_wp2_with fail
  go_loopw [20] (fun i wr => ∃ (k : Nat) (W : WS) (g : γ), k ≤ n0 ∧ i = .int .i64 k ∧ PInv [false, true] (fun _ => 1) key 0 n0 k W ∧ lenW W 1 = k ∧ Stage (fun _ => False) W0 [O W g] wr) (fun i _ => n0 - (intOf i).toNat)
  case atStart => exact ⟨0, W1, g1, Nat.zero_le _, rfl, hP1, hl0, hs⟩
  case round =>
    clear hs hP1 hl0
    obtain ⟨k, W, g, hk, rfl, hP, hl, hs⟩ := hrel
    by_cases hlt : k < n0
    · have hki : (k : Int) < n0 := by omega
      obtain ⟨ba, offa, rfl, u0⟩ := hK k hlt
      replace u0 := later hs.below u0
      obtain ⟨q1, hP2, hl2⟩ := pinv_put hP hlt (pinv_has hP 1 (by omega) (by simp) rfl) (Nat.le_refl _)
      have hI := hs.callEx 0 rfl (fun _ ho => N.ins 1 k (key k) 0 h1i ⟨by omega, by omega⟩ ho)
      have q1' : putB W 1 k = true := q1
      rw [q1'] at hI
      have hl3 := hl2 1
      rw [if_pos (show (1 : Int) = ((1 : Nat) : Int) from rfl)] at hl3
      have e1 : putW W 1 k (key k) 0 = putW W (((fun _ => 1 : Nat → Nat) k : Nat) : Int) k (key k) 0 := rfl
      rw [← e1] at hP2 hl3
      generalize putW W 1 k (key k) 0 = W2 at *
      have hH := (hs.get (i := 0) rfl).elim fun _ h => N.there h
      have m1 := N.mIns.find _ hH
      have m2 := N.mIns.enter
      clear q1 q1' hl2 e1
      go_wp2_with fail
      clear m1 m2 hH u0 hs hP
      refine hI.mono ?_
      rintro e w2 ⟨rfl, g2, _, hs⟩
      clear hI
      have hL := hs.askB 0 rfl (fun _ ho => N.len 1 h1i ho)
      have q2 : (lenW W2 1 : Int) = (k : Int) + 1 := by omega
      rw [q2] at hL
      have hH := (hs.get (i := 0) rfl).elim fun _ h => N.there h
      have m1 := N.mLen.find _ hH
      have m2 := N.mLen.enter
      have e3 : IntKind.i64.wrap ((k : Int) + 1) = (k : Int) + 1 := IntWalk.i64_in _ (by omega)
      go_wp2_with fail
      clear m1 m2 hH
      refine hL.mono ?_
      rintro e w3 ⟨rfl, hs3⟩
      clear hL hs
      go_wp2_with fail
      go_roundw
      case rel => exact ⟨k + 1, W2, g2, by omega, by go_num, hP2, by omega, hs3⟩
      case measure => simp [intOf]; omega
    · have hki : ¬ (k : Int) < n0 := by omega
      obtain rfl : k = n0 := by omega
      have hO := oinv_of hP
      go_wp2_with fail
      go_loopw [8, 43] (fun l i wr => ∃ (j : Nat) (last : Int) (V : WS) (g : γ), j ≤ k ∧ i = .int .i64 j ∧ l = .int .i64 last ∧ OInv key 0 k 1 V ∧ lenW V 1 = k - j ∧ (last = -1 ∨ ∃ p : Nat, last = p ∧ p < k ∧ After key V 1 p) ∧ Stage (fun _ => False) W0 [O V g] wr) (fun _ i _ => k - (intOf i).toNat)
      case atStart => exact ⟨0, -1, W, g, Nat.zero_le _, rfl, rfl, hO, by omega, Or.inl rfl, hs⟩
      case round =>
        clear hs hP hO hl
        obtain ⟨j, last, V, g, hj, rfl, rfl, hO, hl, hlast, hs⟩ := hrel
        by_cases hlt : j < k
        · have hji : (j : Int) < k := by omega
          obtain ⟨m, hm⟩ := min_exists (W := V) (h := 1) (by omega)
          have hmin := min_is hm
          obtain ⟨q1, q2⟩ := minI_some hm
          have q3 : exW V 1 = dropW V m := by simp [exW, hm]
          have hmk : m < k := by rw [← hO.len]; exact hmin.lt
          have hO2 := oinv_drop hO hmin
          have hA2 := after_min hO (by omega) hmin
          have hl2 := len_ex hmin 1
          rw [if_pos rfl] at hl2
          have hcmp : last = -1 ∨ ∃ p : Nat, last = p ∧ p < k ∧ (key p < key m ∨ (key p = key m ∧ p < m)) := by
            rcases hlast with h | ⟨p, h, hp, hA⟩
            · exact Or.inl h
            · exact Or.inr ⟨p, h, hp, hA m hmin.lt hmin.home⟩
          have hM := hs.callEx 0 rfl (fun _ ho => N.min 1 h1i ho)
          rw [q1, q2] at hM
          have hH := (hs.get (i := 0) rfl).elim fun _ h => N.there h
          have m1 := N.mMin.find _ hH
          have m2 := N.mMin.enter
          clear hlast
          go_wp2_with fail
          clear m1 m2 hH hs
          refine hM.mono ?_
          rintro e w2 ⟨rfl, g2, _, hs⟩
          clear hM
          replace hs : Stage (fun _ => False) W0 [O V g2] w2 := hs
          have hE := hs.callEx 0 rfl (fun _ ho => N.ext 1 h1i ho)
          rw [q1, q2, q3] at hE
          have hH := (hs.get (i := 0) rfl).elim fun _ h => N.there h
          have m1 := N.mExt.find _ hH
          have m2 := N.mExt.enter
          go_wp2_with fail
          clear m1 m2 hH hs
          refine hE.mono ?_
          rintro e w3 ⟨rfl, g3, _, hs⟩
          clear hE q1 q2 q3 hm hO hmin
          replace hs : Stage (fun _ => False) W0 [O (dropW V m) g3] w3 := hs
          generalize dropW V m = V2 at *
          have hL := hs.askB 0 rfl (fun _ ho => N.len 1 h1i ho)
          have q4 : (lenW V2 1 : Int) = (k : Int) - 1 - j := by clear hcmp; omega
          rw [q4] at hL
          have hH := (hs.get (i := 0) rfl).elim fun _ h => N.there h
          have m1 := N.mLen.find _ hH
          have m2 := N.mLen.enter
          have e3 : IntKind.i64.wrap ((k : Int) - 1) = (k : Int) - 1 := IntWalk.i64_in _ (by omega)
          have e4 : IntKind.i64.wrap ((k : Int) - 1 - j) = (k : Int) - 1 - j := IntWalk.i64_in _ (by omega)
          have hmi : (m : Int) < k := by omega
          have hm0 : ¬ (m : Int) < 0 := by omega
          go_wp2_with fail
          clear m1 m2 hH
          refine hL.mono ?_
          rintro e w4 ⟨rfl, hs4⟩
          clear hL hs
          obtain ⟨ba, offa, rfl, u0⟩ := hK m hmk
          replace u0 := later hs4.below u0
          rcases hcmp with rfl | ⟨p, rfl, hp, hc⟩
          · go_wp2_with fail
            go_quiet (fail)
            go_wp2_with fail
            go_roundw
            case rel => exact ⟨j + 1, m, V2, g3, by omega, by go_num, rfl, hO2, by omega, Or.inr ⟨m, rfl, hmk, hA2⟩, hs4.drewN _⟩
            case measure => simp [intOf]; omega
          · obtain ⟨_, _, e5, u1⟩ := hK p hp
            cases e5
            replace u1 := later hs4.below u1
            have hpi : (p : Int) < k := by omega
            rcases hc with hc | ⟨hc, hpm⟩
            · have c1 : ¬ key m < key p := by omega
              have c2 : (key p == key m) = false := by simp; omega
              go_wp2_with fail
              go_quiet (fail)
              go_wp2_with fail
              go_roundw
              case rel => exact ⟨j + 1, m, V2, g3, by omega, by go_num, rfl, hO2, by omega, Or.inr ⟨m, rfl, hmk, hA2⟩, hs4.drewN _⟩
              case measure => simp [intOf]; omega
            · rw [hc] at u1
              have c3 : ¬ (m : Int) ≤ p := by omega
              generalize key m = km at *
              go_wp2_with fail
              go_quiet (fail)
              go_wp2_with fail
              go_roundw
              case rel => exact ⟨j + 1, m, V2, g3, by omega, by go_num, rfl, hO2, by omega, Or.inr ⟨m, rfl, hmk, hA2⟩, hs4.drewN _⟩
              case measure => simp [intOf]; omega
        · have hji : ¬ (j : Int) < k := by omega
          have hm := min_none_iff.2 (show lenW V 1 = 0 by omega)
          obtain ⟨q1, q2⟩ := minI_none hm
          have hM := hs.callEx 0 rfl (fun _ ho => N.min 1 h1i ho)
          rw [q1, q2] at hM
          have hH := (hs.get (i := 0) rfl).elim fun _ h => N.there h
          have m1 := N.mMin.find _ hH
          have m2 := N.mMin.enter
          go_wp2_with fail
          clear m1 m2 hH hs
          refine hM.mono ?_
          rintro e w2 ⟨rfl, g2, _, hs⟩
          go_wp2_with fail
          go_ret
          exact ⟨rfl, hs.below⟩
end
end Go.Proofs.Ytcjjglaimfhofaa
