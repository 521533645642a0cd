/- Merged of Gauge, Gauge2, NestWholes, BitsMath, FiWhole. -/
import Derived.Test.YtcjjglaimfhofaaLaw
import Derived.Test.YtcjjglaimfhofaaNestOne
import Derived.Test.YtcjjglaimfhofaaChecked
import Derived.Test.YtcjjglaimfhofaaShelf
import Derived.WalkLawsBesides
import Derived.WalkSpells
import Derived.IntWalk
import Derived.Test.YtcjjglaimfhofaaNestSorts
import Derived.Test.YtcjjglaimfhofaaFiAlive
namespace Go.Proofs.Ytcjjglaimfhofaa
open Go.RowKit

theorem fits_any (k d : Int) (w : World) :
    Calls Try.prog 101 #[.agg #[.int .i64 k, .int .i64 d]] w fun e w' => e = .returned (.bool (fitsB k d)) ∧ Below w.heap.size w w' := by
  go_enter Try.func101, Try.ntmps101
  go_wp2
  all_goals
    go_ret
    exact ⟨ret_bool (by rw [Bool.eq_iff_iff]; simp_all [fitsB]; try omega), (Below.refl _ _).alloc (Nat.le_refl _) _⟩

theorem check_any (k d : Int) (w : World) :
    Calls Try.prog 91 #[.agg #[.int .i64 k, .int .i64 d]] w fun e w' => e = .returned (.int .i64 (checkI k d)) ∧ Below w.heap.size w w' := by
  rcases check_cases k d with ⟨h, hk⟩ | ⟨h, h1, h2, hf⟩ | ⟨h, h1, h2, hf⟩
  · rw [h]
    clear h
    rcases hk with hk | hk
    · go_enter Try.func91, Try.ntmps91
      go_wp2
      go_ret
      exact ⟨rfl, (Below.refl _ _).alloc (Nat.le_refl _) _⟩
    · have hk1 : ¬ k < 1 := by omega
      go_enter Try.func91, Try.ntmps91
      go_wp2
      go_ret
      exact ⟨rfl, (Below.refl _ _).alloc (Nat.le_refl _) _⟩
  · rw [h]
    have HF := Lib.hid hf
    clear h hf
    go_enter Try.func91, Try.ntmps91
    go_wp2_with (go_at_call 101; refine (fits_any _ _ _).mono ?_; rintro e w' ⟨rfl, hb⟩; rw [HF.out])
    go_ret
    exact ⟨rfl, below_alloc1 hb⟩
  · rw [h]
    have HF := Lib.hid hf
    clear h hf
    go_enter Try.func91, Try.ntmps91
    go_wp2_with (go_at_call 101; refine (fits_any _ _ _).mono ?_; rintro e w' ⟨rfl, hb⟩; rw [HF.out])
    go_ret
    exact ⟨rfl, below_alloc1 hb⟩

theorem refCheck_any (k d : Int) (w : World) :
    Calls Try.prog 77 #[.agg #[.int .i64 k, .int .i64 d]] w fun e w' => e = .returned (.int .i64 (checkI k d)) ∧ Below w.heap.size w w' := by
  go_enter Try.func77, Try.ntmps77
  go_wp2
  all_goals
    go_ret
    exact ⟨ret_int (by simp_all [checkI, fitsB]; try omega), (Below.refl _ _).alloc (Nat.le_refl _) _⟩

theorem bits_any (n : Int) (h0 : -9223372036854775808 ≤ n) (h1 : n ≤ 9223372036854775807) (w : World) :
    Calls Try.prog 92 #[.int .i64 n] w fun e w' => e = .returned (.int .i64 (bitsI n)) ∧ w = w' := by
  go_enter Try.func92, Try.ntmps92
  by_cases hn : n < 0
  · have HB := Lib.hid (bits_neg hn)
    go_wp2
    go_ret
    exact ⟨ret_int HB.out.symm, rfl⟩
  · go_wp2_with (go_at_call 102; refine (Try.bits_Len64 n _ (by omega) (by omega)).mono ?_; rintro e w' ⟨rfl, rfl⟩)
    go_ret
    exact ⟨rfl, rfl⟩

theorem refBits_any (n : Int) (h0 : -9223372036854775808 ≤ n) (h1 : n ≤ 9223372036854775807) (w : World) :
    Calls Try.prog 27 #[.int .i64 n] w fun e w' => e = .returned (.int .i64 (bitsI n)) ∧ w = w' := by
  by_cases hn : n < 0
  · have HB := Lib.hid (bits_neg hn)
    have hn' : ¬ 0 < n := by omega
    go_enter Try.func27, Try.ntmps27
    go_wp2
    go_loop [0, 3] (fun m k => m = .int .i64 n ∧ k = .int .i64 0) (fun m _ => (intOf m).toNat)
    case atStart => exact ⟨rfl, rfl⟩
    case round =>
      obtain ⟨rfl, rfl⟩ := hrel
      go_wp2
      go_ret
      exact ⟨ret_int HB.out.symm, rfl⟩
  · have HB : Hid (bitsI n = (Lib.bitLen n.toNat : Int)) := Lib.hid rfl
    have HL : Lib.bitLen n.toNat ≤ 64 := Lib.bitLen_le n.toNat 64 (by omega) (by omega)
    have HN : n.toNat ≤ 9223372036854775807 := by omega
    have HM : Hid (n = (n.toNat : Int)) := Lib.hid (by omega)
    go_enter Try.func27, Try.ntmps27
    go_wp2
    go_loop [0, 3] (fun m k => ∃ q j : Nat, m = .int .i64 q ∧ k = .int .i64 j ∧ j + Lib.bitLen q = Lib.bitLen n.toNat ∧ q ≤ n.toNat) (fun m _ => (intOf m).toNat)
    case atStart => exact ⟨n.toNat, 0, by rw [← HM.out], rfl, by omega, Nat.le_refl _⟩
    case round =>
      obtain ⟨q, j, rfl, rfl, hj, hq⟩ := hrel
      have HJ := Lib.hid hj
      have hj' : j ≤ 64 := by omega
      clear hj
      by_cases hq0 : 0 < q
      · have HH := Lib.hid (bits_half q hq0 (by omega))
        go_wp2
        go_round
        case rel => exact ⟨q / 2, j + 1, by go_num, by go_num, by have := HJ.out; have := HH.out; omega, by omega⟩
        case measure => simp [intOf]; omega
      · go_wp2
        go_ret
        refine ⟨ret_int ?_, rfl⟩
        have h := HJ.out
        rw [show q = 0 by omega, show Lib.bitLen 0 = 0 by decide] at h
        have := HB.out
        omega

theorem counted_any (n : Int) (w : World) :
    Calls Try.prog 78 #[.int .i64 n] w fun e w' => e = .returned (.int .i64 (nearI n)) ∧ w = w' := by
  have HA : Hid (nearI n = if n < 0 then 0 else if 1099511627776 < n then 1099511627776 else n) := Lib.hid rfl
  go_enter Try.func78, Try.ntmps78
  go_wp2
  all_goals
    go_ret
    exact ⟨ret_int (by rw [HA.out]; clear HA; repeat' split
                       all_goals omega), rfl⟩

theorem near_any (n : Int) (w : World) :
    Calls Try.prog 76 #[.int .i64 n] w fun e w' => e = .returned (.int .i64 (nearI n)) ∧ w = w' := by
  have HA : Hid (nearI n = if n < 0 then 0 else if 1099511627776 < n then 1099511627776 else n) := Lib.hid rfl
  go_enter Try.func76, Try.ntmps76
  go_wp2
  all_goals
    go_ret
    exact ⟨ret_int (by rw [HA.out]; clear HA; repeat' split
                       all_goals omega), rfl⟩

theorem levels_any (n : Int) (h0 : 0 ≤ n) (h1 : n ≤ 1099511627776) (w : World) :
    Calls Try.prog 80 #[.int .i64 n] w fun e w' => e = .returned (.int .i64 (2 + bitsI n)) ∧ w = w' := by
  have hb := bits_range n (by omega)
  obtain ⟨hb0, hb1⟩ := hb
  go_enter Try.func80, Try.ntmps80
  go_wp2_with (go_at_call 92; refine (bits_any n (by omega) (by omega) _).mono ?_; rintro e w' ⟨rfl, rfl⟩)
  go_ret
  exact ⟨rfl, rfl⟩

theorem wholeF_any (k d : Int) (w : World) :
    Calls Try.prog 79 #[.agg #[.int .i64 k, .int .i64 d]] w fun e w' => e = .returned (.int .i64 (wholeFI k d)) ∧ Below w.heap.size w w' := by
  have HA : Hid (wholeFI k d = if checkI k d = 0 then (if k = 4 ∨ k = 5 ∨ k = 7 then 16 else 0) else 0) := Lib.hid rfl
  go_enter Try.func79, Try.ntmps79
  go_wp2_with fail
  refine (check_any _ _ _).mono ?_
  rintro e w1 ⟨rfl, hb⟩
  obtain ⟨c0, c1⟩ := box2 hb
  replace hb := below_alloc1 hb
  go_wp2
  all_goals
    go_ret
    exact ⟨ret_int (by rw [HA.out]; simp_all; try omega), hb⟩
end Go.Proofs.Ytcjjglaimfhofaa

namespace Go.Proofs.Ytcjjglaimfhofaa
open Go.RowKit

theorem whole_any (k d n : Int) (w : World) :
    Calls Try.prog 60 #[.agg #[.int .i64 k, .int .i64 d], .int .i64 n] w fun e w' => e = .returned (.int .i64 (wholeI k d n)) ∧ Below w.heap.size w w' := by
  have HA : Hid (wholeI k d n = wholeFI k d * nearI n * (2 + bitsI (nearI n))) := Lib.hid rfl
  have hl := whole_all_range k d n
  rw [HA.out] at hl
  obtain ⟨hl0, hl1⟩ := hl
  obtain ⟨hm0, hm1⟩ := wholeN_range k d n
  obtain ⟨n0, n1⟩ := near_range n
  go_enter Try.func60, Try.ntmps60
  go_wp2_with (go_at_call 78; refine (counted_any _ _).mono ?_; rintro e w' ⟨rfl, rfl⟩)
  refine (wholeF_any _ _ _).mono ?_
  rintro e w1 ⟨rfl, hb⟩
  replace hb := below_alloc1 hb
  go_wp2_with (go_at_call 80; refine (levels_any _ n0 n1 _).mono ?_; rintro e w' ⟨rfl, rfl⟩)
  go_ret
  exact ⟨ret_int HA.out.symm, hb⟩

theorem refWhole_any (k d n : Int) (w : World) :
    Calls Try.prog 59 #[.agg #[.int .i64 k, .int .i64 d], .int .i64 n] w fun e w' => e = .returned (.int .i64 (wholeI k d n)) ∧ Below w.heap.size w w' := by
  have HS := Lib.hid (whole_steps k d n)
  obtain ⟨n0, n1⟩ := near_range n
  obtain ⟨b0, b1⟩ := bits_near n
  obtain ⟨p0, p1⟩ := mul_range (a := 16 * nearI n) (m := 17592186044416) ⟨by omega, by omega⟩ (b := 2 + bitsI (nearI n)) (n := 43) ⟨by omega, by omega⟩
  go_enter Try.func59, Try.ntmps59
  go_wp2_with (go_at_call 76; refine (near_any _ _).mono ?_; rintro e w' ⟨rfl, rfl⟩)
  refine (refCheck_any _ _ _).mono ?_
  rintro e w1 ⟨rfl, hb⟩
  obtain ⟨c0, c1⟩ := box2 hb
  replace hb := below_alloc1 hb
  go_wp2_with (go_at_call 27; refine (refBits_any _ (by omega) (by omega) _).mono ?_; rintro e w' ⟨rfl, rfl⟩)
  all_goals
    go_ret
    exact ⟨ret_int (by rw [HS.out]; simp_all; try omega), hb⟩
end Go.Proofs.Ytcjjglaimfhofaa

namespace Go.Proofs.Ytcjjglaimfhofaa
open Go.RowKit Go.Sort

section
variable {γ : Type} {O : WS → γ → Ob} {st : γ → Int} {R : WS → Int → Int → Int → Int → Int → γ → γ → Prop} {H : World → Prop} {T : TypeId} {v : Value} {f : NestFns}
set_option maxRecDepth 100000 in
set_option maxHeartbeats 8000000 in
theorem wholes_any (N : Nests O st R H T v f) (kc dc : Int) (n0 : Nat) (J : Nat → WS → γ → Prop)
    (hJ : ∀ {j : Nat} {W : WS} {k y x q r : Int} {g g' : γ}, j < n0 → (∃ w F, (O W g).holds w F) → (∃ w F, (O (doW W k y x q r) g').holds w F) → J j W g → R W k y x q r g g' → J (j + 1) (doW W k y x q r) g')
    (hB : ∀ {j : Nat} {W : WS} {g : γ}, J j W g → 0 < j → j ≤ n0 → st g ≤ wholeI kc dc j)
    (m : Nat) (hm : m ≤ 65536) (a0 : Option Addr) (cap : Nat) (hcap : n0 ≤ cap ∧ cap ≤ 9223372036854775807) {g : γ} {W0 w : World} (h0 : J 0 (newW m) g) (hact : ActsAt W0 a0 n0) (hs : Stage (fun _ => False) W0 [O (newW m) g] w) :
    Calls Try.prog 37 #[.iface T v, .agg #[.int .i64 kc, .int .i64 dc], .int .i64 m, .slice a0 n0 cap] w fun e w' => e = .returned (.bool true) ∧ Below W0.heap.size W0 w' := by
  obtain ⟨hcap1, hcap2⟩ := hcap
  obtain ⟨w1, hw1, hs1⟩ : ∃ w1, w.alloc (.cells #[.int .i64 kc, .int .i64 dc] 47) = w1 ∧ Stage (fun _ => False) W0 [O (newW m) g, Ob.box w.heap.size #[.int .i64 kc, .int .i64 dc] 47] w1 := ⟨_, rfl, hs.alloc _ _⟩
  go_enter Try.func37, Try.ntmps37
  go_wp2_with fail
  clear hw1 hs
  generalize w.heap.size = bC at *
  refine (refnew_any m hm w1).mono ?_
  rintro e w3 ⟨hv, cv, rfl, hb3, hN3, hF3⟩
  obtain ⟨ha, hc, rfl, _, _⟩ := hN3.hform
  obtain ⟨ca, cc, hcv, _, _⟩ := hN3.cform
  have hW0 : (newW m).cells.length = m := by simp [newW]
  rw [hW0] at hcv
  subst hcv
  generalize hn1 : (newW m).heaps.length = n1 at *
  have hs2 := ((hs1.add (O := Ob.nest (.slice ha n1 hc) (.slice ca m cc) (newW m)) hb3 ⟨hN3, rfl⟩ hF3).alloc #[.slice ha n1 hc, .slice ca m cc] 59).select [0, 2, 3, 1] (by decide) rfl
  clear hs1 hb3 hN3 hF3 hn1
  obtain ⟨w4, hw4, hs⟩ : ∃ w4, w3.alloc (.cells #[.slice ha n1 hc, .slice ca m cc] 59) = w4 ∧ Stage (fun _ => False) W0 [O (newW m) g, Ob.nest (.slice ha n1 hc) (.slice ca m cc) (newW m), Ob.box w3.heap.size #[.slice ha n1 hc, .slice ca m cc] 59, Ob.box bC #[.int .i64 kc, .int .i64 dc] 47] w4 := ⟨_, rfl, hs2⟩
  clear hs2
  go_wp2_with fail
  clear hw4
  generalize w3.heap.size = b8 at *
  generalize newW m = WN at *
  go_loopw [18] (fun i wr => ∃ (k : Nat) (W : WS) (g : γ) (a : Option Addr) (n c : Nat) (a' : Option Addr) (n' c' : Nat), k ≤ n0 ∧ i = .int .i64 k ∧ J k W g ∧ Stage (fun _ => False) W0 [O W g, Ob.nest (.slice a n c) (.slice a' n' c') W, Ob.box b8 #[.slice a n c, .slice a' n' c'] 59, Ob.box bC #[.int .i64 kc, .int .i64 dc] 47] wr) (fun i _ => n0 - (intOf i).toNat)
  case atStart => exact ⟨0, WN, g, ha, n1, hc, ca, m, cc, Nat.zero_le _, rfl, h0, hs⟩
  case round =>
    clear hs hW0 h0
    obtain ⟨k, W, g, a, n, c, a', n', c', hk, rfl, hj, hs⟩ := hrel
    by_cases hlt : k < n0
    · have hki : (k : Int) < n0 := by omega
      have hthere : ∃ w F, (O W g).holds w F := (hs.get (i := 0) rfl).elim fun F h => ⟨_, F, h⟩
      obtain ⟨ba, offa, x, y, z, q, r, rfl, g0, g1, g2, g3, g4, hy, hz⟩ := hact k hlt
      replace g0 := later hs.below g0
      replace g1 := later hs.below g1
      replace g2 := later hs.below g2
      replace g3 := later hs.below g3
      replace g4 := later hs.below g4
      obtain ⟨wr1, hwr1, hs3⟩ : ∃ w9 : World, wr.alloc (.cells #[.int .i64 x, .int .i64 y, .int .i64 z, .int .i64 q, .int .u64 r] 65) = w9 ∧ Stage (fun _ => False) W0 ([O W g, Ob.nest (.slice a n c) (.slice a' n' c') W] ++ [Ob.box b8 #[.slice a n c, .slice a' n' c'] 59, Ob.box bC #[.int .i64 kc, .int .i64 dc] 47, Ob.box wr.heap.size #[.int .i64 x, .int .i64 y, .int .i64 z, .int .i64 q, .int .u64 r] 65]) w9 := ⟨_, rfl, hs.alloc _ _⟩
      have hD := do_st N x y z q r hy hz hs3
      have k0 := hs3.cell 2 rfl (o := 0) rfl
      have k1 := hs3.cell 2 rfl (o := 1) rfl
      have d0 := hs3.cell 4 rfl (o := 0) rfl
      have d1 := hs3.cell 4 rfl (o := 1) rfl
      have d2 := hs3.cell 4 rfl (o := 2) rfl
      have d3 := hs3.cell 4 rfl (o := 3) rfl
      have d4 := hs3.cell 4 rfl (o := 4) rfl
      have hJJ := fun g' h2 h3 => hJ (k := x) (y := y) (x := z) (q := q) (r := r) (g' := g') hlt hthere h2 hj h3
      clear hj hthere
      go_wp2_with fail
      clear hwr1 g0 g1 g2 g3 g4 k0 k1 d0 d1 d2 d3 d4 hs
      generalize wr.heap.size = bA at *
      refine hD.mono ?_
      rintro e v4 ⟨a2, n2, c2, a3, n3, c3, g', rfl, hRg, hs4⟩
      clear hD hs3
      have hj2 := hJJ g' ((hs4.get (i := 0) rfl).elim fun F h => ⟨_, F, h⟩) hRg
      clear hJJ hRg
      have hbd := hB hj2 (by omega) (by omega)
      generalize doW W x y z q r = W2 at *
      replace hs4 : Stage (fun _ => False) W0 [O W2 g', Ob.nest (.slice a2 n2 c2) (.slice a3 n3 c3) W2, Ob.box b8 #[.slice a n c, .slice a' n' c'] 59, Ob.box bC #[.int .i64 kc, .int .i64 dc] 47, Ob.box bA #[.int .i64 x, .int .i64 y, .int .i64 z, .int .i64 q, .int .u64 r] 65] v4 := hs4
      obtain ⟨v5, hv5, hs5⟩ : ∃ v5, v4.alloc (.cells #[.slice a2 n2 c2, .slice a3 n3 c3] 59) = v5 ∧ Stage (fun _ => False) W0 [O W2 g', Ob.nest (.slice a2 n2 c2) (.slice a3 n3 c3) W2, Ob.box b8 #[.slice a n c, .slice a' n' c'] 59, Ob.box bC #[.int .i64 kc, .int .i64 dc] 47, Ob.box bA #[.int .i64 x, .int .i64 y, .int .i64 z, .int .i64 q, .int .u64 r] 65, Ob.box v4.heap.size #[.slice a2 n2 c2, .slice a3 n3 c3] 59] v5 := ⟨_, rfl, hs4.alloc _ _⟩
      clear hs4
      have j0 := hs5.cell 5 rfl (o := 0) rfl
      have j1 := hs5.cell 5 rfl (o := 1) rfl
      have f0 := hs5.free 2 rfl 0
      have f1 := hs5.free 2 rfl 1
      have l8 := hs5.lt 2 rfl
      have k0 := hs5.cell 2 rfl (o := 0) rfl
      have k1 := hs5.cell 2 rfl (o := 1) rfl
      obtain ⟨v6, hv6, hs6⟩ : ∃ v6, (v5.setCell ⟨b8, 0, none⟩ (.slice a2 n2 c2)).setCell ⟨b8, 1, none⟩ (.slice a3 n3 c3) = v6 ∧ Stage (fun _ => False) W0 [O W2 g', Ob.nest (.slice a2 n2 c2) (.slice a3 n3 c3) W2, Ob.box b8 #[.slice a2 n2 c2, .slice a3 n3 c3] 59, Ob.box bC #[.int .i64 kc, .int .i64 dc] 47] v6 := ⟨_, rfl, ((hs5.store 2 rfl 0 _).store 2 rfl 1 _).take 4⟩
      clear hs5
      go_upto_region 7 with fail
      clear hv5 hv6 j0 j1 f0 f1 l8 k0 k1
      have c0 := cell_regrown (hs6.cell 3 rfl (o := 0) rfl)
      have c1 := cell_regrown (hs6.cell 3 rfl (o := 1) rfl)
      have e2 : IntKind.i64.wrap ((k : Int) + 1) = (k : Int) + 1 := IntWalk.i64_in _ (by omega)
      have cS : ∀ d' os, Calls Try.prog f.steps.id #[f.steps.rv] (grow (redrawn v6 d') os) fun e w'' => e = .returned (.int .i64 (st g')) ∧ ∃ p : Regrown, w'' = grow (redrawn v6 p.d) p.os := fun d' os => Calls.regrown_of (by obtain ⟨F', ho⟩ := (hs6.later (below_regrown v6 d' os)).get (i := 0) rfl; exact N.steps ho)
      have hH : ∀ d' os, H (grow (redrawn v6 d') os) := fun d' os => ((hs6.later (below_regrown v6 d' os)).get (i := 0) rfl).elim fun _ h => N.there h
      have m1 := fun d' os => N.mSteps.find _ (hH d' os)
      have m2 := N.mSteps.enter
      have cW : ∀ d' os, Calls Try.prog 59 #[.agg #[.int .i64 kc, .int .i64 dc], .int .i64 ((k : Int) + 1)] (grow (redrawn v6 d') os) fun e w'' => e = .returned (.int .i64 (wholeI kc dc ((k : Int) + 1))) ∧ ∃ p : Regrown, w'' = grow (redrawn v6 p.d) p.os := fun d' os => Calls.regrown_of (refWhole_any kc dc _ _)
      have hcast : ((k + 1 : Nat) : Int) = (k : Int) + 1 := by omega
      rw [hcast] at hbd
      have hb2 : decide (wholeI kc dc ((k : Int) + 1) < st g') = false := by simpa using hbd
      have hb3 : ¬ wholeI kc dc ((k : Int) + 1) < st g' := by omega
      clear hbd hcast
      generalize wholeI kc dc ((k : Int) + 1) = mo at *
      generalize hsg : st g' = sg at *
      replace hsg := Lib.hid hsg
      refine wp_region_quiet_below (by kernel_rfl) (by kernel_rfl) ?_
      repeat (first | go_big_quiet_step (first | with_reducible exact cS _ _ | with_reducible exact cW _ _) | quiet_step (fail))
      refine wpQuiet_nil ?_
      intro W3 hw
      replace hw := below_regrown' hw
      have hs7 := hs6.later hw
      clear cS cW hH m1 m2 c0 c1 hs6 hw hb2 hb3
      go_wp2_with fail
      go_roundw
      case rel => exact ⟨k + 1, W2, g', a2, n2, c2, a3, n3, c3, by omega, by go_num, hj2, hs7⟩
      case measure => simp [intOf]; omega
    · have hki : ¬ (k : Int) < n0 := by omega
      have c0 := cell_regrown (hs.cell 3 rfl (o := 0) rfl)
      have c1 := cell_regrown (hs.cell 3 rfl (o := 1) rfl)
      have cA : ∀ d' os, Calls Try.prog 60 #[.agg #[.int .i64 kc, .int .i64 dc], .int .i64 9] (grow (redrawn wr d') os) fun e w'' => e = .returned (.int .i64 (wholeI kc dc 9)) ∧ ∃ p : Regrown, w'' = grow (redrawn wr p.d) p.os := fun d' os => Calls.regrown_of (whole_any kc dc 9 _)
      have cB : ∀ d' os, Calls Try.prog 59 #[.agg #[.int .i64 kc, .int .i64 dc], .int .i64 9] (grow (redrawn wr d') os) fun e w'' => e = .returned (.int .i64 (wholeI kc dc 9)) ∧ ∃ p : Regrown, w'' = grow (redrawn wr p.d) p.os := fun d' os => Calls.regrown_of (refWhole_any kc dc 9 _)
      clear hj
      generalize wholeI kc dc 9 = l9 at *
      go_wp2_with fail
      refine wp_region_quiet_below (by kernel_rfl) (by kernel_rfl) ?_
      repeat (first | go_big_quiet_step (first | with_reducible exact cA _ _ | with_reducible exact cB _ _) | quiet_step (fail))
      refine wpQuiet_nil ?_
      intro W3 hw
      replace hw := below_regrown' hw
      go_wp2_with fail
      go_ret
      exact ⟨rfl, (hs.later hw).below⟩
theorem wholes_num (N : Nests O st R H T v f) (kc dc : Int) (n0 : Nat) (J : Nat → WS → γ → Prop)
    (hJ : ∀ {j : Nat} {W : WS} {k y x q r : Int} {g g' : γ}, j < n0 → (∃ w F, (O W g).holds w F) → (∃ w F, (O (doW W k y x q r) g').holds w F) → J j W g → R W k y x q r g g' → J (j + 1) (doW W k y x q r) g')
    (hB : ∀ {j : Nat} {W : WS} {g : γ}, J j W g → 0 < j → j ≤ n0 → st g ≤ wholeI kc dc j)
    (m : Nat) (hm : m ≤ 65536) (a0 : Option Addr) (cap : Nat) (hcap : n0 ≤ cap ∧ cap ≤ 9223372036854775807) {g : γ} {W0 w : World} (h0 : J 0 (newW m) g) (hact : ActsAt W0 a0 n0) (hs : Stage (fun _ => False) W0 [O (newW m) g] w) :
    Calls Try.prog 17 #[.iface T v, .agg #[.int .i64 kc, .int .i64 dc], .int .i64 m, .slice a0 n0 cap] w fun e w' => e = .returned (.int .i64 1) ∧ Below W0.heap.size W0 w' := by
  obtain ⟨w1, hw1, hs1⟩ : ∃ w1, w.alloc (.cells #[.int .i64 kc, .int .i64 dc] 47) = w1 ∧ Stage (fun _ => False) W0 [O (newW m) g, Ob.box w.heap.size #[.int .i64 kc, .int .i64 dc] 47] w1 := ⟨_, rfl, hs.alloc _ _⟩
  have h := wholes_any N kc dc n0 J hJ hB m hm a0 cap hcap h0 hact (hs1.take 1)
  have c0 := hs1.cell 1 rfl (o := 0) rfl
  have c1 := hs1.cell 1 rfl (o := 1) rfl
  clear hs hs1 hact
  go_enter Try.func17, Try.ntmps17
  go_wp2_with fail
  refine h.mono ?_
  rintro e w2 ⟨rfl, hb⟩
  go_wp2_with fail
  refine (one_any w2).mono ?_
  rintro e w3 ⟨rfl, rfl⟩
  go_wp2_with fail
  go_ret
  exact ⟨rfl, hb⟩
end
end Go.Proofs.Ytcjjglaimfhofaa

namespace Go.Proofs.Ytcjjglaimfhofaa

end Go.Proofs.Ytcjjglaimfhofaa

namespace Go.Proofs.Ytcjjglaimfhofaa
open Go.RowKit Go.Sort

/-- Behind so many calls. -/
def FiJ (j : Nat) (W : WS) (g : FiG) : Prop := g.s + (potN W g.K (lostOf g.T) : Nat) ≤ (j * (4 + 4 * Lib.bitLen j) : Nat) ∧ (allW W).length ≤ j
theorem fiJ_new (n : Nat) : FiJ 0 (newW n) fiG0 := by
  have hin : ∀ x, inW (newW n) x = false := fun x => by
    cases e : inW (newW n) x with
    | false => rfl
    | true =>
      have := ((homes_new n).home e).2
      cases this
  have h1 : potN (newW n) fiG0.K (lostOf fiG0.T) ≤ 0 := sub_len (l := []) (potL_nd _ _ _) fun y hy => by
    have := (mem_potL.1 hy).1
    rw [hin] at this; cases this
  have h2 : (allW (newW n)).length ≤ 0 := sub_len (l := []) (allW_nd _) fun y hy => by
    have := mem_allW.1 hy
    rw [hin] at this; cases this
  refine ⟨?_, h2⟩
  have e : fiG0.s = 0 := rfl
  omega
theorem fiJ_step {j : Nat} {W : WS} {k y x q r : Int} {g g' : FiG} (hj : j < 65536) (h : FiJ j W g) (hR : FiR W k y x q r g g') : FiJ (j + 1) (doW W k y x q r) g' := by
  have hlt := lt_bits (j + 1) (by omega)
  obtain ⟨h1, h2⟩ := h
  obtain ⟨⟨p1, p2⟩, _⟩ := hR
  have p3 := p1 (Lib.bitLen (j + 1)) (by omega)
  have hm := bitLen_mono (a := j) (b := j + 1) (by omega) (by omega)
  have hq : j * (4 + 4 * Lib.bitLen j) ≤ j * (4 + 4 * Lib.bitLen (j + 1)) := Nat.mul_le_mul_left _ (by omega)
  have hz : (j + 1) * (4 + 4 * Lib.bitLen (j + 1)) = j * (4 + 4 * Lib.bitLen (j + 1)) + (4 + 4 * Lib.bitLen (j + 1)) := by rw [Nat.add_mul, Nat.one_mul]
  refine ⟨?_, by omega⟩
  rw [hz]
  omega
theorem fiJ_most {j : Nat} {W : WS} {g : FiG} (hj : j < 65536) (h : FiJ j W g) : g.s ≤ wholeI 5 0 j := by
  have hn : nearI (j : Int) = (j : Int) := by unfold nearI; rw [if_neg (by omega), if_neg (by omega)]
  have hc : wholeFI 5 0 = 16 := rfl
  have hz : j * (4 + 4 * Lib.bitLen j) ≤ j * (32 + 16 * Lib.bitLen j) := Nat.mul_le_mul_left _ (by omega)
  have e : wholeI 5 0 j = (j * (32 + 16 * Lib.bitLen j) : Nat) := by
    unfold wholeI bitsI
    rw [hc, hn, Int.toNat_natCast]
    have : (16 * (j : Int)) * (2 + (Lib.bitLen j : Int)) = (j : Int) * (32 + 16 * (Lib.bitLen j : Int)) := by
      rw [Int.mul_comm 16, Int.mul_assoc, Int.mul_add]; rfl
    rw [this]
    simp
  rw [e]
  have := h.1
  omega
end Go.Proofs.Ytcjjglaimfhofaa
