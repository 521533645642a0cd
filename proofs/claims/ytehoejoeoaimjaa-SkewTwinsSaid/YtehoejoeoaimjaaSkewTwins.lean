/- SkewTwins, walked: two nests answer alike, and count as many steps. -/
import Derived.Test.YtehoejoeoaimjaaSkewWalks
import Derived.Deep.RegionHeld3
import Derived.Deep.CutBlock
import Derived.Deep.DeepCutAuto
namespace Go.Proofs.Ytehoejoeoaimjaa
open Go.RowKit Go.Sort

/-- Two nests that are one in all that is told of them, each beside the document's. -/
abbrev twinL (pa ca pb cb b8 b9 : Nat) (W : WS) (g : KG) (a : Option Addr) (n c : Nat) (a' : Option Addr) (n' c' : Nat) (b : Option Addr) (j d : Nat) (b' : Option Addr) (j' d' : Nat) : List Ob :=
  [Ob.skew pa ca W g.1 g.2, Ob.nest (.slice a n c) (.slice a' n' c') W, Ob.box b8 #[.slice a n c, .slice a' n' c'] 58, Ob.skew pb cb W g.1 g.2, Ob.nest (.slice b j d) (.slice b' j' d') W, Ob.box b9 #[.slice b j d, .slice b' j' d'] 58]
set_option maxRecDepth 100000 in
set_option maxHeartbeats 8000000 in
theorem ktwins_walk (C : Nat) (hC : C ≤ 255) (a0 : Option Addr) (n0 cap : Nat) (hcap : n0 ≤ cap ∧ cap ≤ 9223372036854775807) (w : World) (hact : ActsAt w a0 n0) :
    Calls Try.prog 8 #[.int .u8 C, .slice a0 n0 cap] w fun e w' => e = .returned (.bool true) ∧ Below w.heap.size w w' := by
  obtain ⟨hcap1, hcap2⟩ := hcap
  obtain ⟨m, hm⟩ : ∃ m, m = C % 30 := ⟨_, rfl⟩
  have hm30 : m < 30 := by omega
  have q1 : Int.tmod (C : Int) 30 = (m : Int) := by rw [hm]; exact (Int.ofNat_tmod C 30).symm
  clear hm
  go_enter Try.func8, Try.ntmps8
  go_wp2_with fail
  refine (kalive_any w).mono ?_
  rintro e w1 ⟨rfl, hb⟩
  go_wp2_with fail
  refine (skew_start m (by omega) ((Stage.start w).later hb)).mono ?_
  rintro e w2 ⟨pa, ca, rfl, hs⟩
  clear hb
  go_wp2_with fail
  refine (skew_start m (by omega) hs).mono ?_
  rintro e w3 ⟨pb, cb, rfl, hs2⟩
  clear hs
  by_cases h60 : (60 : Int) < n0
  · go_wp2_with fail
    go_ret
    exact ⟨rfl, hs2.below⟩
  replace hs2 : Stage (fun _ => False) w [Ob.skew pa ca (newW m) 0 (fun _ => .nil), Ob.skew pb cb (newW m) 0 (fun _ => .nil)] w3 := hs2
  have hW0 : (newW m).cells.length = m := by simp [newW]
  go_wp2_with fail
  refine (refnew_any m (by omega) w3).mono ?_
  rintro e w4 ⟨hv, cv, rfl, hb3, hN3, hF3⟩
  obtain ⟨ha, hc, rfl, _, _⟩ := hN3.hform
  obtain ⟨ca1, cc1, hcv, _, _⟩ := hN3.cform
  rw [hW0] at hcv
  subst hcv
  have hs3 := hs2.add (O := Ob.nest (.slice ha (newW m).heaps.length hc) (.slice ca1 m cc1) (newW m)) hb3 ⟨hN3, rfl⟩ hF3
  clear hs2 hb3 hN3 hF3
  go_wp2_with fail
  refine (refnew_any m (by omega) w4).mono ?_
  rintro e w5 ⟨hv, cv, rfl, hb3, hN3, hF3⟩
  obtain ⟨ha2, hc2, rfl, _, _⟩ := hN3.hform
  obtain ⟨ca2, cc2, hcv, _, _⟩ := hN3.cform
  rw [hW0] at hcv
  subst hcv
  have hs4 := hs3.add (O := Ob.nest (.slice ha2 (newW m).heaps.length hc2) (.slice ca2 m cc2) (newW m)) hb3 ⟨hN3, rfl⟩ hF3
  clear hs3 hb3 hN3 hF3
  generalize (newW m).heaps.length = n1 at *
  obtain ⟨w6, hw6, hs5⟩ : ∃ w6, (w5.alloc (.cells #[.slice ha n1 hc, .slice ca1 m cc1] 58)).alloc (.cells #[.slice ha2 n1 hc2, .slice ca2 m cc2] 58) = w6 ∧ Stage (fun _ => False) w (twinL pa ca pb cb w5.heap.size (w5.heap.size + 1) (newW m) (0, fun _ => .nil) ha n1 hc ca1 m cc1 ha2 n1 hc2 ca2 m cc2) w6 :=
    ⟨_, rfl, ((hs4.alloc _ _).alloc' _ _ (size_alloc _ _)).select [0, 2, 4, 1, 3, 5] (by decide) rfl⟩
  clear hs4
  go_wp2_with fail
  clear hw6
  generalize w5.heap.size = b8 at *
  generalize b8 + 1 = b9 at *
  generalize newW m = WN at *
  go_loopw [61] (fun i wr => ∃ (k : Nat) (W : WS) (g : KG) (a : Option Addr) (n c : Nat) (a' : Option Addr) (n' c' : Nat) (b : Option Addr) (j d : Nat) (b' : Option Addr) (j' d' : Nat), k ≤ n0 ∧ i = .int .i64 k ∧ Stage (fun _ => False) w (twinL pa ca pb cb b8 b9 W g a n c a' n' c' b j d b' j' d') wr) (fun i _ => n0 - (intOf i).toNat)
  case atStart => exact ⟨0, WN, (0, fun _ => .nil), ha, n1, hc, ca1, m, cc1, ha2, n1, hc2, ca2, m, cc2, Nat.zero_le _, rfl, hs5⟩
  case round =>
    clear hs5 hW0
    obtain ⟨k, W, g, a, n, c, a', n', c', b, j, d, b', j', d', hk, rfl, hs⟩ := hrel
    by_cases hlt : k < n0
    · have hki : (k : Int) < n0 := by omega
      obtain ⟨ba, offa, x, y, z, q, r, rfl, g0, g1, g2, g3, g4, hy, hz⟩ := hact k hlt
      replace g0 := later hs.below g0
      replace g1 := later hs.below g1
      replace g2 := later hs.below g2
      replace g3 := later hs.below g3
      replace g4 := later hs.below g4
      obtain ⟨wr1, hwr1, hs3⟩ : ∃ w9 : World, wr.alloc (.cells #[.int .i64 x, .int .i64 y, .int .i64 z, .int .i64 q, .int .u64 r] 64) = w9 ∧ Stage (fun _ => False) w ([Ob.skew pa ca W g.1 g.2, Ob.nest (.slice a n c) (.slice a' n' c') W] ++ [Ob.box b8 #[.slice a n c, .slice a' n' c'] 58, Ob.skew pb cb W g.1 g.2, Ob.nest (.slice b j d) (.slice b' j' d') W, Ob.box b9 #[.slice b j d, .slice b' j' d'] 58, Ob.box wr.heap.size #[.int .i64 x, .int .i64 y, .int .i64 z, .int .i64 q, .int .u64 r] 64]) w9 := ⟨_, rfl, hs.alloc _ _⟩
      have hD := do_st (g := g) (skew_nests pa ca) x y z q r hy hz hs3
      have k0 := hs3.cell 2 rfl (o := 0) rfl
      have k1 := hs3.cell 2 rfl (o := 1) rfl
      have d0 := hs3.cell 6 rfl (o := 0) rfl
      have d1 := hs3.cell 6 rfl (o := 1) rfl
      have d2 := hs3.cell 6 rfl (o := 2) rfl
      have d3 := hs3.cell 6 rfl (o := 3) rfl
      have d4 := hs3.cell 6 rfl (o := 4) rfl
      go_wp2_with fail
      clear hwr1 g0 g1 g2 g3 g4 k0 k1 d0 d1 d2 d3 d4 hs
      generalize wr.heap.size = bA at *
      refine hD.mono ?_
      rintro e v4 ⟨a2, n2, c2, a3, n3, c3, g', rfl, hR1, hs4⟩
      clear hD hs3
      replace hs4 : Stage (fun _ => False) w [Ob.skew pa ca (doW W x y z q r) g'.1 g'.2, Ob.nest (.slice a2 n2 c2) (.slice a3 n3 c3) (doW W x y z q r), Ob.box b8 #[.slice a n c, .slice a' n' c'] 58, Ob.skew pb cb W g.1 g.2, Ob.nest (.slice b j d) (.slice b' j' d') W, Ob.box b9 #[.slice b j d, .slice b' j' d'] 58, Ob.box bA #[.int .i64 x, .int .i64 y, .int .i64 z, .int .i64 q, .int .u64 r] 64] v4 := hs4
      obtain ⟨v5, hv5, hs5⟩ : ∃ v5, v4.alloc (.cells #[.slice a2 n2 c2, .slice a3 n3 c3] 58) = v5 ∧ Stage (fun _ => False) w ([Ob.skew pb cb W g.1 g.2, Ob.nest (.slice b j d) (.slice b' j' d') W] ++ [Ob.skew pa ca (doW W x y z q r) g'.1 g'.2, Ob.nest (.slice a2 n2 c2) (.slice a3 n3 c3) (doW W x y z q r), Ob.box b8 #[.slice a n c, .slice a' n' c'] 58, Ob.box b9 #[.slice b j d, .slice b' j' d'] 58, Ob.box bA #[.int .i64 x, .int .i64 y, .int .i64 z, .int .i64 q, .int .u64 r] 64, Ob.box v4.heap.size #[.slice a2 n2 c2, .slice a3 n3 c3] 58]) v5 :=
        ⟨_, rfl, (hs4.alloc _ _).select [3, 4, 0, 1, 2, 5, 6, 7] (by decide) rfl⟩
      clear hs4
      have hD := do_st (g := g) (skew_nests pb cb) x y z q r hy hz hs5
      have k0 := hs5.cell 5 rfl (o := 0) rfl
      have k1 := hs5.cell 5 rfl (o := 1) rfl
      have d0 := hs5.cell 6 rfl (o := 0) rfl
      have d1 := hs5.cell 6 rfl (o := 1) rfl
      have d2 := hs5.cell 6 rfl (o := 2) rfl
      have d3 := hs5.cell 6 rfl (o := 3) rfl
      have d4 := hs5.cell 6 rfl (o := 4) rfl
      go_wp2_with fail
      clear hv5 k0 k1 d0 d1 d2 d3 d4
      generalize v4.heap.size = bN at *
      refine hD.mono ?_
      rintro e v6 ⟨e2, m2, f2, e3, m3, f3, g2, rfl, hR2, hs6⟩
      clear hD hs5
      obtain rfl : g' = g2 := hR1.trans hR2.symm
      clear hR1 hR2
      generalize doW W x y z q r = W2 at *
      replace hs6 : Stage (fun _ => False) w [Ob.skew pb cb W2 g'.1 g'.2, Ob.nest (.slice e2 m2 f2) (.slice e3 m3 f3) W2, Ob.skew pa ca W2 g'.1 g'.2, Ob.nest (.slice a2 n2 c2) (.slice a3 n3 c3) W2, Ob.box b8 #[.slice a n c, .slice a' n' c'] 58, Ob.box b9 #[.slice b j d, .slice b' j' d'] 58, Ob.box bA #[.int .i64 x, .int .i64 y, .int .i64 z, .int .i64 q, .int .u64 r] 64, Ob.box bN #[.slice a2 n2 c2, .slice a3 n3 c3] 58] v6 := hs6
      obtain ⟨v7, hv7, hs7⟩ : ∃ v7, v6.alloc (.cells #[.slice e2 m2 f2, .slice e3 m3 f3] 58) = v7 ∧ Stage (fun _ => False) w [Ob.skew pb cb W2 g'.1 g'.2, Ob.nest (.slice e2 m2 f2) (.slice e3 m3 f3) W2, Ob.skew pa ca W2 g'.1 g'.2, Ob.nest (.slice a2 n2 c2) (.slice a3 n3 c3) W2, Ob.box b8 #[.slice a n c, .slice a' n' c'] 58, Ob.box b9 #[.slice b j d, .slice b' j' d'] 58, Ob.box bA #[.int .i64 x, .int .i64 y, .int .i64 z, .int .i64 q, .int .u64 r] 64, Ob.box bN #[.slice a2 n2 c2, .slice a3 n3 c3] 58, Ob.box v6.heap.size #[.slice e2 m2 f2, .slice e3 m3 f3] 58] v7 := ⟨_, rfl, hs6.alloc _ _⟩
      clear hs6
      go_upto_region 14 with fail
      clear hv7
      generalize v6.heap.size = bM at *
      have y0 := hs7.cell 7 rfl (o := 0) rfl
      have y1 := hs7.cell 7 rfl (o := 1) rfl
      have u0 := hs7.cell 8 rfl (o := 0) rfl
      have u1 := hs7.cell 8 rfl (o := 1) rfl
      have k0 := hs7.cell 4 rfl (o := 0) rfl
      have k1 := hs7.cell 4 rfl (o := 1) rfl
      have d0 := hs7.cell 5 rfl (o := 0) rfl
      have d1 := hs7.cell 5 rfl (o := 1) rfl
      have f80 := hs7.free 4 rfl 0
      have f81 := hs7.free 4 rfl 1
      have f90 := hs7.free 5 rfl 0
      have f91 := hs7.free 5 rfl 1
      have l8 := hs7.lt 4 rfl
      have l9 := hs7.lt 5 rfl
      have x1 := hs7.ne 7 4 rfl rfl (by decide)
      have x2 := hs7.ne 7 5 rfl rfl (by decide)
      have x3 := hs7.ne 8 4 rfl rfl (by decide)
      have x4 := hs7.ne 8 5 rfl rfl (by decide)
      have x5 := hs7.ne 4 5 rfl rfl (by decide)
      go_region
      have hs8 : Stage (fun _ => False) w (twinL pa ca pb cb b8 b9 W2 g' a2 n2 c2 a3 n3 c3 e2 m2 f2 e3 m3 f3) ((((v7.setCell ⟨b8, 0, none⟩ (.slice a2 n2 c2)).setCell ⟨b8, 1, none⟩ (.slice a3 n3 c3)).setCell ⟨b9, 0, none⟩ (.slice e2 m2 f2)).setCell ⟨b9, 1, none⟩ (.slice e3 m3 f3)).drew :=
        (((((hs7.store 4 rfl 0 _).store 4 rfl 1 _).store 5 rfl 0 _).store 5 rfl 1 _).drew).select [2, 3, 4, 0, 1, 5] (by decide) rfl
      generalize ((((v7.setCell ⟨b8, 0, none⟩ (.slice a2 n2 c2)).setCell ⟨b8, 1, none⟩ (.slice a3 n3 c3)).setCell ⟨b9, 0, none⟩ (.slice e2 m2 f2)).setCell ⟨b9, 1, none⟩ (.slice e3 m3 f3)).drew = v8 at hs8 ⊢
      clear y0 y1 u0 u1 k0 k1 d0 d1 f80 f81 f90 f91 l8 l9 x1 x2 x3 x4 x5 hs7
      go_upto_region 15 with fail
      have pA := cell_regrown (show v8.cell? ⟨pa, 0, none⟩ = some (.pointer (some ⟨ca, 0, none⟩)) from (hs8.get (i := 0) rfl).elim fun _ ho => skew_there ho)
      have pB := cell_regrown (show v8.cell? ⟨pb, 0, none⟩ = some (.pointer (some ⟨cb, 0, none⟩)) from (hs8.get (i := 3) rfl).elim fun _ ho => skew_there ho)
      have cA : ∀ d' os, Calls Try.prog 12 #[.pointer (some ⟨ca, 0, none⟩)] (grow (redrawn v8 d') os) fun e w'' => e = .returned (.int .i64 g'.1) ∧ ∃ p : Regrown, w'' = grow (redrawn v8 p.d) p.os := fun d' os => Calls.regrown_of (by obtain ⟨F', ho⟩ := (hs8.later (below_regrown v8 d' os)).get (i := 0) rfl; exact (skew_nests pa ca).steps (g := g') ho)
      have cB : ∀ d' os, Calls Try.prog 12 #[.pointer (some ⟨cb, 0, none⟩)] (grow (redrawn v8 d') os) fun e w'' => e = .returned (.int .i64 g'.1) ∧ ∃ p : Regrown, w'' = grow (redrawn v8 p.d) p.os := fun d' os => Calls.regrown_of (by obtain ⟨F', ho⟩ := (hs8.later (below_regrown v8 d' os)).get (i := 3) rfl; exact (skew_nests pb cb).steps (g := g') ho)
      have hfin := fun (W3 : World) (hw : Below v8.heap.size v8 W3) => hs8.later hw
      clear hs8
      generalize hsg : g'.1 = sg at cA cB
      clear hsg
      refine wp_region_quiet_below (by kernel_rfl) (by kernel_rfl) ?_
      repeat (first | go_big_quiet_step (first | with_reducible exact cA _ _ | with_reducible exact cB _ _) | quiet_step (fail))
      refine wpQuiet_nil ?_
      intro W3 hw
      replace hw := below_regrown' hw
      have hs9 := hfin W3 hw
      clear cA cB pA pB hw hfin
      go_wp2_with fail
      go_roundw
      case rel => exact ⟨k + 1, W2, g', a2, n2, c2, a3, n3, c3, e2, m2, f2, e3, m3, f3, by omega, by go_num, hs9⟩
      case measure => simp [intOf]; omega
    · have hki : ¬ (k : Int) < n0 := by omega
      go_wp2_with fail
      go_ret
      exact ⟨rfl, hs.below⟩
end Go.Proofs.Ytehoejoeoaimjaa
