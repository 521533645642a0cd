/- Merged of NestLimits, NestNum. -/
import Derived.Test.YtmoolbmbdnkooaaGreatBinAlive
import Derived.Test.YtmoolbmbdnkooaaGreatGauge2
namespace Go.Proofs.YtmoolbmbdnkooaaGreat
open Go.RowKit Go.Sort

/-- How many slots are in the heap of an act, and in that of which it is melded. -/
def heapOf (W : WS) (k y x : Int) : Int := if (k = 4 ∨ k = 5) ∧ inW W x = true then (cellW W x).home else y
def sizeA (W : WS) (k y x : Int) : Int := if k = 6 then lenW W y else lenW W (heapOf W k y x)
def sizeB (W : WS) (k x : Int) : Int := if k = 6 then lenW W x else 0
/-- How many steps an act may take. -/
def mostW (kc dc : Int) (rows : Bool) (W : WS) (k y x : Int) : Int :=
  if k = 6 ∧ rows = true then limitI kc dc (sizeA W k y x + sizeB W k x + 1) * (min (sizeA W k y x) (sizeB W k x) + 1) else limitI kc dc (sizeA W k y x + sizeB W k x + 1)
theorem sizeA_range {W : WS} (h : W.Fit) (k y x : Int) : 0 ≤ sizeA W k y x ∧ sizeA W k y x ≤ 65536 := by
  have h1 := h.cap
  unfold sizeA
  split
  · have := len_le W y; omega
  · have := len_le W (heapOf W k y x); omega
theorem sizeB_range {W : WS} (h : W.Fit) (k x : Int) : 0 ≤ sizeB W k x ∧ sizeB W k x ≤ 65536 := by
  have h1 := h.cap
  unfold sizeB
  split
  · have := len_le W x; omega
  · omega
section
variable {w : World} {hv cv : Value} {W : WS}
set_option maxRecDepth 100000 in
theorem size_any (_hW : W.Fit) (k y x q r : Int) (h : NestAt w hv cv W) : Calls Tryz.prog 26 #[.agg #[hv, cv], .agg #[.int .i64 k, .int .i64 y, .int .i64 x, .int .i64 q, .int .u64 r]] w fun e w' => e = .returned (.tuple #[.int .i64 (sizeA W k y x), .int .i64 (sizeB W k x)]) ∧ Below w.heap.size w w' := by
  obtain ⟨a9, c9, hhv, _, _⟩ := h.hform
  generalize hn9 : W.heaps.length = n9 at hhv
  subst hhv
  obtain ⟨a8, c8, hcv, b81, b82⟩ := h.cform
  have hcl := h.clen
  generalize hn8 : W.cells.length = n8 at hcv b81 hcl
  subst hcv
  obtain ⟨V, hV, hs⟩ : ∃ V, (w.alloc (.cells #[.slice a9 n9 c9, .slice a8 n8 c8] 77)).alloc (.cells #[.int .i64 k, .int .i64 y, .int .i64 x, .int .i64 q, .int .u64 r] 80) = V ∧
      Stage (fun _ => False) w [Ob.box w.heap.size #[.slice a9 n9 c9, .slice a8 n8 c8] 77, Ob.box (w.heap.size + 1) #[.int .i64 k, .int .i64 y, .int .i64 x, .int .i64 q, .int .u64 r] 80] V :=
    ⟨_, rfl, ((Stage.start w).alloc _ _).alloc' _ _ (size_alloc _ _)⟩
  have hN := h.later hs.below
  have k0 := hs.cell 0 rfl (o := 0) rfl
  have k1 := hs.cell 0 rfl (o := 1) rfl
  have d0 := hs.cell 1 rfl (o := 0) rfl
  have d1 := hs.cell 1 rfl (o := 1) rfl
  have d2 := hs.cell 1 rfl (o := 2) rfl
  by_cases h6 : k = 6
  · have eA : sizeA W k y x = lenW W y := by simp [sizeA, h6]
    have eB : sizeB W k x = lenW W x := by simp [sizeB, h6]
    rw [eA, eB]
    subst h6
    have cA : ∀ d' os, Calls Tryz.prog 39 #[.agg #[.slice a9 n9 c9, .slice a8 n8 c8], .int .i64 y] (grow (redrawn V d') os) fun e w'' => e = .returned (.int .i64 (lenW W y)) ∧ ∃ p : Regrown, w'' = grow (redrawn V p.d) p.os := fun d' os => Calls.regrown_of (reflen_any y (hN.later (below_regrown V d' os)))
    have cB : ∀ d' os, Calls Tryz.prog 39 #[.agg #[.slice a9 n9 c9, .slice a8 n8 c8], .int .i64 x] (grow (redrawn V d') os) fun e w'' => e = .returned (.int .i64 (lenW W x)) ∧ ∃ p : Regrown, w'' = grow (redrawn V p.d) p.os := fun d' os => Calls.regrown_of (reflen_any x (hN.later (below_regrown V d' os)))
    generalize (lenW W y : Int) = ly at *
    generalize (lenW W x : Int) = lx at *
    have g0 := cell_regrown k0
    have g1 := cell_regrown k1
    have g2 := cell_regrown d1
    have g3 := cell_regrown d2
    go_enter Tryz.func26, Tryz.ntmps26
    go_wp2_with fail
    clear hV k0 k1 d0 d1 d2
    refine wp_region_quiet_below (by kernel_rfl) (by kernel_rfl) ?_
    repeat (first | go_big_quiet_step (first | with_reducible exact cA _ _ | with_reducible exact cB _ _) | quiet_step (fail))
    refine wpQuiet_nil ?_
    intro W3 hw
    replace hw := below_regrown' hw
    go_wp2_with fail
    exact bodyPost_ret (v := .tuple #[.int .i64 ly, .int .i64 lx]) (by simp [results, Tryz.results26, go_sem]) rfl ⟨rfl, (hs.later hw).below⟩
  · have h6' : (k == 6) = false := by simpa using h6
    have eB : sizeB W k x = 0 := by simp [sizeB, h6]
    rw [eB]
    by_cases h45 : k = 4 ∨ k = 5
    · have hI := refin_any x hN
      cases hin : inW W x
      · have eA : sizeA W k y x = lenW W y := by simp [sizeA, h6, heapOf, hin]
        rw [eA]
        rw [hin] at hI
        have go : ∀ k', k' = k → (k' = 4 ∨ k' = 5) → True := fun _ _ _ => trivial
        clear go h6
        rcases h45 with rfl | rfl
        · go_enter Tryz.func26, Tryz.ntmps26
          go_wp2_with fail
          refine hI.mono ?_
          rintro e w1 ⟨rfl, hb⟩
          have hs1 := hs.later hb
          clear hI hV k0 k1 d0 d1 d2
          have k0 := hs1.cell 0 rfl (o := 0) rfl
          have k1 := hs1.cell 0 rfl (o := 1) rfl
          have d0 := hs1.cell 1 rfl (o := 0) rfl
          go_wp2_with fail
          refine (reflen_any y (hN.later hb)).mono ?_
          rintro e w2 ⟨rfl, hb2⟩
          go_wp2_with fail
          exact bodyPost_ret (v := .tuple #[.int .i64 (lenW W y), .int .i64 0]) (by simp [results, Tryz.results26, go_sem]) rfl ⟨rfl, (hs1.later hb2).below⟩
        · go_enter Tryz.func26, Tryz.ntmps26
          go_wp2_with fail
          refine hI.mono ?_
          rintro e w1 ⟨rfl, hb⟩
          have hs1 := hs.later hb
          clear hI hV k0 k1 d0 d1 d2
          have k0 := hs1.cell 0 rfl (o := 0) rfl
          have k1 := hs1.cell 0 rfl (o := 1) rfl
          have d0 := hs1.cell 1 rfl (o := 0) rfl
          go_wp2_with fail
          refine (reflen_any y (hN.later hb)).mono ?_
          rintro e w2 ⟨rfl, hb2⟩
          go_wp2_with fail
          exact bodyPost_ret (v := .tuple #[.int .i64 (lenW W y), .int .i64 0]) (by simp [results, Tryz.results26, go_sem]) rfl ⟨rfl, (hs1.later hb2).below⟩
      · have eA : sizeA W k y x = lenW W (cellW W x).home := by simp [sizeA, h6, heapOf, hin, h45]
        rw [eA]
        rw [hin] at hI
        obtain ⟨i, rfl, hi, _⟩ := in_nat hin
        have hc := cell_nat W i hi
        rw [hc]
        clear h6 hc
        obtain ⟨g, c8', hcc, hg, u0, _, _⟩ := hN.ccell i hi
        rw [hn8] at hcc
        cases hcc
        have hL := fun w h => reflen_any (w := w) (hv := .slice a9 n9 c9) (cv := .slice (some ⟨g, 0, none⟩) n8 c8) (W := W) (W.cells.getD i .off).home h
        generalize hho : (W.cells.getD i .off).home = ho at *
        have hii : (i : Int) < n8 := by omega
        rcases h45 with rfl | rfl
        · go_enter Tryz.func26, Tryz.ntmps26
          go_wp2_with fail
          refine hI.mono ?_
          rintro e w1 ⟨rfl, hb⟩
          have hs1 := hs.later hb
          replace u0 := later hb u0
          clear hI hV k0 k1 d0 d1 d2
          have k0 := hs1.cell 0 rfl (o := 0) rfl
          have k1 := hs1.cell 0 rfl (o := 1) rfl
          have d0 := hs1.cell 1 rfl (o := 0) rfl
          have d2 := hs1.cell 1 rfl (o := 2) rfl
          go_wp2_with fail
          refine (hL _ (hN.later hb)).mono ?_
          rintro e w2 ⟨rfl, hb2⟩
          go_wp2_with fail
          exact bodyPost_ret (v := .tuple #[.int .i64 (lenW W ho), .int .i64 0]) (by simp [results, Tryz.results26, go_sem]) rfl ⟨rfl, (hs1.later hb2).below⟩
        · go_enter Tryz.func26, Tryz.ntmps26
          go_wp2_with fail
          refine hI.mono ?_
          rintro e w1 ⟨rfl, hb⟩
          have hs1 := hs.later hb
          replace u0 := later hb u0
          clear hI hV k0 k1 d0 d1 d2
          have k0 := hs1.cell 0 rfl (o := 0) rfl
          have k1 := hs1.cell 0 rfl (o := 1) rfl
          have d0 := hs1.cell 1 rfl (o := 0) rfl
          have d2 := hs1.cell 1 rfl (o := 2) rfl
          go_wp2_with fail
          refine (hL _ (hN.later hb)).mono ?_
          rintro e w2 ⟨rfl, hb2⟩
          go_wp2_with fail
          exact bodyPost_ret (v := .tuple #[.int .i64 (lenW W ho), .int .i64 0]) (by simp [results, Tryz.results26, go_sem]) rfl ⟨rfl, (hs1.later hb2).below⟩
    · have eA : sizeA W k y x = lenW W y := by simp [sizeA, h6, heapOf, h45]
      rw [eA]
      have h4 : (k == 4) = false := by simp; omega
      have h5 : (k == 5) = false := by simp; omega
      clear h45 h6
      go_enter Tryz.func26, Tryz.ntmps26
      go_wp2_with fail
      refine (reflen_any y hN).mono ?_
      rintro e w2 ⟨rfl, hb2⟩
      go_wp2_with fail
      exact bodyPost_ret (v := .tuple #[.int .i64 (lenW W y), .int .i64 0]) (by simp [results, Tryz.results26, go_sem]) rfl ⟨rfl, (hs.later hb2).below⟩
end
section
variable {γ : Type} {O : WS → γ → Ob} {st : γ → Int} {R : WS → Int → Int → Int → Int → Int → γ → γ → Prop} {H : World → Prop} {T : TypeId} {v : Value} {f : NestFns}
set_option maxRecDepth 100000 in
set_option maxHeartbeats 8000000 in
theorem limits_any (N : Nests O st R H T v f) (kc dc : Int) (rows : Bool) (hst : ∀ {W g w F}, (O W g).holds w F → 0 ≤ st g ∧ st g ≤ 4611686018427387904) (hR : ∀ {W : WS} {k y x q r : Int} {g g' : γ}, W.Fit → R W k y x q r g g' → st g ≤ st g' ∧ st g' ≤ st g + mostW kc dc rows W k y x)
    (m : Nat) (hm : m ≤ 65536) (a0 : Option Addr) (n0 cap : Nat) (hcap : n0 ≤ cap ∧ cap ≤ 9223372036854775807) {g : γ} {W0 w : World} (hact : ActsAt W0 a0 n0) (hs : Stage (fun _ => False) W0 [O (newW m) g] w) :
    Calls Tryz.prog 16 #[.iface T v, .agg #[.int .i64 kc, .int .i64 dc], .int .i64 m, .bool rows, .slice a0 n0 cap] w fun e w' => e = .returned (.bool true) ∧ Below W0.heap.size W0 w' := by
  obtain ⟨hcap1, hcap2⟩ := hcap
  obtain ⟨w1, hw1, hs1⟩ : ∃ w1, w.alloc (.cells #[.int .i64 kc, .int .i64 dc] 30) = w1 ∧ Stage (fun _ => False) W0 [O (newW m) g, Ob.box w.heap.size #[.int .i64 kc, .int .i64 dc] 30] w1 := ⟨_, rfl, hs.alloc _ _⟩
  go_enter Tryz.func16, Tryz.ntmps16
  go_wp2_with fail
  clear hw1 hs
  generalize w.heap.size = bC at *
  refine (refnew_any m hm w1).mono ?_
  rintro e w3 ⟨hv, cv, rfl, hb3, hN3, hF3⟩
  obtain ⟨ha, hc, rfl, _, _⟩ := hN3.hform
  obtain ⟨ca, cc, hcv, _, _⟩ := hN3.cform
  have hW0 : (newW m).cells.length = m := by simp [newW]
  rw [hW0] at hcv
  subst hcv
  generalize hn1 : (newW m).heaps.length = n1 at *
  have hs2 := ((hs1.add (O := Ob.nest (.slice ha n1 hc) (.slice ca m cc) (newW m)) hb3 ⟨hN3, rfl⟩ hF3).alloc #[.slice ha n1 hc, .slice ca m cc] 77).select [0, 2, 3, 1] (by decide) rfl
  clear hs1 hb3 hN3 hF3 hn1
  obtain ⟨w4, hw4, hs⟩ : ∃ w4, w3.alloc (.cells #[.slice ha n1 hc, .slice ca m cc] 77) = w4 ∧ Stage (fun _ => False) W0 [O (newW m) g, Ob.nest (.slice ha n1 hc) (.slice ca m cc) (newW m), Ob.box w3.heap.size #[.slice ha n1 hc, .slice ca m cc] 77, Ob.box bC #[.int .i64 kc, .int .i64 dc] 30] w4 := ⟨_, rfl, hs2⟩
  clear hs2
  go_wp2_with fail
  clear hw4
  generalize w3.heap.size = b8 at *
  generalize newW m = WN at *
  go_loopw [24] (fun i wr => ∃ (k : Nat) (W : WS) (g : γ) (a : Option Addr) (n c : Nat) (a' : Option Addr) (n' c' : Nat), k ≤ n0 ∧ i = .int .i64 k ∧ Stage (fun _ => False) W0 [O W g, Ob.nest (.slice a n c) (.slice a' n' c') W, Ob.box b8 #[.slice a n c, .slice a' n' c'] 77, Ob.box bC #[.int .i64 kc, .int .i64 dc] 30] wr) (fun i _ => n0 - (intOf i).toNat)
  case atStart => exact ⟨0, WN, g, ha, n1, hc, ca, m, cc, Nat.zero_le _, rfl, hs⟩
  case round =>
    clear hs hW0
    obtain ⟨k, W, g, a, n, c, a', n', c', hk, rfl, hs⟩ := hrel
    by_cases hlt : k < n0
    · have hki : (k : Int) < n0 := by omega
      have hfit : W.Fit := by obtain ⟨F, ho⟩ := hs.get (i := 0) rfl; exact N.fit ho
      have hs62 : 0 ≤ st g ∧ st g ≤ 4611686018427387904 := by obtain ⟨F, ho⟩ := hs.get (i := 0) rfl; exact hst ho
      obtain ⟨ba, offa, x, y, z, q, r, rfl, g0, g1, g2, g3, g4, hy, hz⟩ := hact k hlt
      replace g0 := later hs.below g0
      replace g1 := later hs.below g1
      replace g2 := later hs.below g2
      replace g3 := later hs.below g3
      replace g4 := later hs.below g4
      obtain ⟨wr1, hwr1, hs0⟩ : ∃ w9 : World, wr.alloc (.cells #[.int .i64 x, .int .i64 y, .int .i64 z, .int .i64 q, .int .u64 r] 80) = w9 ∧ Stage (fun _ => False) W0 ([O W g, Ob.nest (.slice a n c) (.slice a' n' c') W] ++ [Ob.box b8 #[.slice a n c, .slice a' n' c'] 77, Ob.box bC #[.int .i64 kc, .int .i64 dc] 30, Ob.box wr.heap.size #[.int .i64 x, .int .i64 y, .int .i64 z, .int .i64 q, .int .u64 r] 80]) w9 := ⟨_, rfl, hs.alloc _ _⟩
      have hZ := size_any hfit x y z q r (hs0.nestAt 1 rfl)
      have k0 := hs0.cell 2 rfl (o := 0) rfl
      have k1 := hs0.cell 2 rfl (o := 1) rfl
      have d0 := hs0.cell 4 rfl (o := 0) rfl
      have d1 := hs0.cell 4 rfl (o := 1) rfl
      have d2 := hs0.cell 4 rfl (o := 2) rfl
      have d3 := hs0.cell 4 rfl (o := 3) rfl
      have d4 := hs0.cell 4 rfl (o := 4) rfl
      go_wp2_with fail
      clear hwr1 g0 g1 g2 g3 g4 k0 k1 d0 d1 d2 d3 d4 hs
      generalize wr.heap.size = bA at *
      refine hZ.mono ?_
      rintro e v1 ⟨rfl, hb1⟩
      have hs1 := hs0.later hb1
      clear hZ hs0 hb1
      have hmo : mostW kc dc rows W x y z = if x = 6 ∧ rows = true then limitI kc dc (sizeA W x y z + sizeB W x z + 1) * (min (sizeA W x y z) (sizeB W x z) + 1) else limitI kc dc (sizeA W x y z + sizeB W x z + 1) := rfl
      have hRR : ∀ g', R W x y z q r g g' → st g ≤ st g' ∧ st g' ≤ st g + mostW kc dc rows W x y z := fun g' h => hR hfit h
      generalize mostW kc dc rows W x y z = mo at *
      obtain ⟨ra, ra'⟩ := sizeA_range hfit x y z
      obtain ⟨rb, rb'⟩ := sizeB_range hfit x z
      generalize sizeA W x y z = sa at *
      generalize sizeB W x z = sb at *
      have e1 : IntKind.i64.wrap (sa + sb) = sa + sb := IntWalk.i64_in _ (by omega)
      have e2 : IntKind.i64.wrap (sa + sb + 1) = sa + sb + 1 := IntWalk.i64_in _ (by omega)
      have c0 := hs1.cell 3 rfl (o := 0) rfl
      have c1 := hs1.cell 3 rfl (o := 1) rfl
      obtain ⟨rl, rl'⟩ := limit_range kc dc (sa + sb + 1)
      have hL := refLimit_any kc dc (sa + sb + 1) v1
      generalize limitI kc dc (sa + sb + 1) = li at *
      go_wp2_with fail
      clear c0 c1 e1 e2
      refine hL.mono ?_
      rintro e v2 ⟨rfl, hb2⟩
      have hs2 := hs1.later hb2
      clear hL hs1 hb2
      go_upto_region 7 with fail
      have dd0 := hs2.cell 4 rfl (o := 0) rfl
      go_cut [45] (fun s wx => s = .bool (decide (x = 6 ∧ rows = true)) ∧ v2 = wx)
      case first =>
        clear hs2 hRR hmo
        by_cases h6 : x = 6
        · subst h6
          cases rows
          · go_wp2_with fail
            go_meet
            exact ⟨by simp, rfl⟩
          · go_wp2_with fail
            go_meet
            exact ⟨by simp, rfl⟩
        · have h6' : (x == 6) = false := by simpa using h6
          have dB := Lib.hid (decide_eq_false (p := x = 6 ∧ rows = true) (fun h => h6 h.1))
          clear h6
          go_wp2_with fail
          go_meet
          exact ⟨by rw [dB.out], rfl⟩
      case rest =>
      obtain ⟨rfl, rfl⟩ := hcut
      replace hmo : mo = if decide (x = 6 ∧ rows = true) = true then li * (min sa sb + 1) else li := by rw [hmo]; by_cases h : x = 6 ∧ rows = true <;> simp [h]
      generalize decide (x = 6 ∧ rows = true) = B at *
      go_upto_if 45 with fail
      go_cut [16] (fun s wx => s = .int .i64 mo ∧ v2 = wx)
      case first =>
        clear hs2 hRR
        cases B
        · replace hmo : mo = li := by rw [hmo]; rfl
          subst hmo
          go_wp2_with fail
          go_meet
          exact ⟨rfl, rfl⟩
        · replace hmo : mo = li * (min sa sb + 1) := by rw [hmo]; rfl
          have hmn : 0 ≤ min sa sb ∧ min sa sb ≤ 65536 := by omega
          obtain ⟨p0, p1⟩ := mul_range (a := li) (m := 688) ⟨rl, rl'⟩ (b := min sa sb + 1) (n := 65537) ⟨by omega, by omega⟩
          have e3 : IntKind.i64.wrap (li * (min sa sb + 1)) = li * (min sa sb + 1) := IntWalk.i64_in _ (by omega)
          have e4 : IntKind.i64.wrap (min sa sb + 1) = min sa sb + 1 := IntWalk.i64_in _ (by omega)
          replace hmo := Lib.hid hmo
          clear p0 p1 hmn
          go_wp2_with fail
          go_meet
          exact ⟨by rw [hmo.out], rfl⟩
      case rest =>
        obtain ⟨rfl, rfl⟩ := hcut
        clear hmo dd0 ra ra' rb rb'
        have hS := hs2.askB 0 rfl (fun _ ho => N.steps ho)
        have hH := (hs2.get (i := 0) rfl).elim fun _ h => N.there h
        have m1 := N.mSteps.find _ hH
        have m2 := N.mSteps.enter
        go_wp2_with fail
        clear m1 m2 hH
        refine hS.mono ?_
        rintro e v3 ⟨rfl, hs3⟩
        clear hS hs2
        have hD := do_st N x y z q r hy hz hs3
        have k0 := hs3.cell 2 rfl (o := 0) rfl
        have k1 := hs3.cell 2 rfl (o := 1) rfl
        have d0 := hs3.cell 4 rfl (o := 0) rfl
        have d1 := hs3.cell 4 rfl (o := 1) rfl
        have d2 := hs3.cell 4 rfl (o := 2) rfl
        have d3 := hs3.cell 4 rfl (o := 3) rfl
        have d4 := hs3.cell 4 rfl (o := 4) rfl
        go_wp2_with fail
        clear k0 k1 d0 d1 d2 d3 d4
        refine hD.mono ?_
        rintro e v4 ⟨a2, n2, c2, a3, n3, c3, g', rfl, hRg, hs4⟩
        clear hD hs3
        obtain ⟨s1, s2⟩ := hRR g' hRg
        have hs62' : 0 ≤ st g' ∧ st g' ≤ 4611686018427387904 := by obtain ⟨F, ho⟩ := hs4.get (i := 0) rfl; exact hst ho
        clear hRR hRg
        generalize doW W x y z q r = W2 at *
        replace hs4 : Stage (fun _ => False) W0 [O W2 g', Ob.nest (.slice a2 n2 c2) (.slice a3 n3 c3) W2, Ob.box b8 #[.slice a n c, .slice a' n' c'] 77, Ob.box bC #[.int .i64 kc, .int .i64 dc] 30, Ob.box bA #[.int .i64 x, .int .i64 y, .int .i64 z, .int .i64 q, .int .u64 r] 80] v4 := hs4
        obtain ⟨v5, hv5, hs5⟩ : ∃ v5, v4.alloc (.cells #[.slice a2 n2 c2, .slice a3 n3 c3] 77) = v5 ∧ Stage (fun _ => False) W0 [O W2 g', Ob.nest (.slice a2 n2 c2) (.slice a3 n3 c3) W2, Ob.box b8 #[.slice a n c, .slice a' n' c'] 77, Ob.box bC #[.int .i64 kc, .int .i64 dc] 30, Ob.box bA #[.int .i64 x, .int .i64 y, .int .i64 z, .int .i64 q, .int .u64 r] 80, Ob.box v4.heap.size #[.slice a2 n2 c2, .slice a3 n3 c3] 77] v5 := ⟨_, rfl, hs4.alloc _ _⟩
        clear hs4
        have j0 := hs5.cell 5 rfl (o := 0) rfl
        have j1 := hs5.cell 5 rfl (o := 1) rfl
        have f0 := hs5.free 2 rfl 0
        have f1 := hs5.free 2 rfl 1
        have l8 := hs5.lt 2 rfl
        have k0 := hs5.cell 2 rfl (o := 0) rfl
        have k1 := hs5.cell 2 rfl (o := 1) rfl
        obtain ⟨v6, hv6, hs6⟩ : ∃ v6, (v5.setCell ⟨b8, 0, none⟩ (.slice a2 n2 c2)).setCell ⟨b8, 1, none⟩ (.slice a3 n3 c3) = v6 ∧ Stage (fun _ => False) W0 [O W2 g', Ob.nest (.slice a2 n2 c2) (.slice a3 n3 c3) W2, Ob.box b8 #[.slice a2 n2 c2, .slice a3 n3 c3] 77, Ob.box bC #[.int .i64 kc, .int .i64 dc] 30] v6 := ⟨_, rfl, ((hs5.store 2 rfl 0 _).store 2 rfl 1 _).take 4⟩
        clear hs5
        have hS := hs6.askB 0 rfl (fun _ ho => N.steps ho)
        have hH := (hs6.get (i := 0) rfl).elim fun _ h => N.there h
        have m1 := N.mSteps.find _ hH
        have m2 := N.mSteps.enter
        go_wp2_with fail
        clear m1 m2 hH hv5 hv6 j0 j1 f0 f1 l8 k0 k1
        refine hS.mono ?_
        rintro e v7 ⟨rfl, hs7⟩
        clear hS hs6
        have hS := hs7.askB 0 rfl (fun _ ho => N.steps ho)
        have hH := (hs7.get (i := 0) rfl).elim fun _ h => N.there h
        have m1 := N.mSteps.find _ hH
        have m2 := N.mSteps.enter
        have t1 : ¬ st g' < st g := by omega
        go_wp2_with fail
        clear m1 m2 hH
        refine hS.mono ?_
        rintro e v8 ⟨rfl, hs8⟩
        clear hS hs7
        have t2 : IntKind.i64.wrap (st g' - st g) = st g' - st g := IntWalk.i64_in _ (by omega)
        have t3 : ¬ mo < st g' - st g := by omega
        go_wp2_with fail
        go_roundw
        case rel => exact ⟨k + 1, W2, g', a2, n2, c2, a3, n3, c3, by omega, by go_num, hs8⟩
        case measure => simp [intOf]; omega
    · have hki : ¬ (k : Int) < n0 := by omega
      have c0 := cell_regrown (hs.cell 3 rfl (o := 0) rfl)
      have c1 := cell_regrown (hs.cell 3 rfl (o := 1) rfl)
      have cA : ∀ d' os, Calls Tryz.prog 29 #[.agg #[.int .i64 kc, .int .i64 dc], .int .i64 9] (grow (redrawn wr d') os) fun e w'' => e = .returned (.int .i64 (limitI kc dc 9)) ∧ ∃ p : Regrown, w'' = grow (redrawn wr p.d) p.os := fun d' os => Calls.regrown_of (limit_any kc dc 9 _)
      have cB : ∀ d' os, Calls Tryz.prog 27 #[.agg #[.int .i64 kc, .int .i64 dc], .int .i64 9] (grow (redrawn wr d') os) fun e w'' => e = .returned (.int .i64 (limitI kc dc 9)) ∧ ∃ p : Regrown, w'' = grow (redrawn wr p.d) p.os := fun d' os => Calls.regrown_of (refLimit_any kc dc 9 _)
      generalize limitI kc dc 9 = l9 at *
      go_wp2_with fail
      refine wp_region_quiet_below (by kernel_rfl) (by kernel_rfl) ?_
      repeat (first | go_big_quiet_step (first | with_reducible exact cA _ _ | with_reducible exact cB _ _) | quiet_step (fail))
      refine wpQuiet_nil ?_
      intro W3 hw
      replace hw := below_regrown' hw
      go_wp2_with fail
      go_ret
      exact ⟨rfl, (hs.later hw).below⟩
end
end Go.Proofs.YtmoolbmbdnkooaaGreat

namespace Go.Proofs.YtmoolbmbdnkooaaGreat
open Go.RowKit Go.Sort

section
variable {γ : Type} {O : WS → γ → Ob} {st : γ → Int} {R : WS → Int → Int → Int → Int → Int → γ → γ → Prop} {H : World → Prop} {T : TypeId} {v : Value} {f : NestFns}
theorem limits_num (N : Nests O st R H T v f) (kc dc : Int) (rows : Bool) (hst : ∀ {W g w F}, (O W g).holds w F → 0 ≤ st g ∧ st g ≤ 4611686018427387904) (hR : ∀ {W : WS} {k y x q r : Int} {g g' : γ}, W.Fit → R W k y x q r g g' → st g ≤ st g' ∧ st g' ≤ st g + mostW kc dc rows W k y x)
    (m : Nat) (hm : m ≤ 65536) (a0 : Option Addr) (n0 cap : Nat) (hcap : n0 ≤ cap ∧ cap ≤ 9223372036854775807) {g : γ} {W0 w : World} (hact : ActsAt W0 a0 n0) (hs : Stage (fun _ => False) W0 [O (newW m) g] w) :
    Calls Tryz.prog 6 #[.iface T v, .agg #[.int .i64 kc, .int .i64 dc], .int .i64 m, .bool rows, .slice a0 n0 cap] w fun e w' => e = .returned (.int .i64 1) ∧ Below W0.heap.size W0 w' := by
  obtain ⟨w1, hw1, hs1⟩ : ∃ w1, w.alloc (.cells #[.int .i64 kc, .int .i64 dc] 30) = w1 ∧ Stage (fun _ => False) W0 [O (newW m) g, Ob.box w.heap.size #[.int .i64 kc, .int .i64 dc] 30] w1 := ⟨_, rfl, hs.alloc _ _⟩
  have h := limits_any N kc dc rows hst hR m hm a0 n0 cap hcap hact (hs1.take 1)
  have c0 := hs1.cell 1 rfl (o := 0) rfl
  have c1 := hs1.cell 1 rfl (o := 1) rfl
  clear hs hs1 hact
  go_enter Tryz.func6, Tryz.ntmps6
  go_wp2_with fail
  refine h.mono ?_
  rintro e w2 ⟨rfl, hb⟩
  go_wp2_with fail
  refine (one_any w2).mono ?_
  rintro e w3 ⟨rfl, rfl⟩
  go_wp2_with fail
  go_ret
  exact ⟨rfl, hb⟩
end
end Go.Proofs.YtmoolbmbdnkooaaGreat
