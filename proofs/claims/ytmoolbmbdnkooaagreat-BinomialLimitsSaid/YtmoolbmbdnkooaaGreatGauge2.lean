/- Merged of Gauge, Gauge2. -/
import Derived.Test.YtmoolbmbdnkooaaGreatLaw
import Derived.Test.YtmoolbmbdnkooaaGreatGaugeMath
import Derived.Test.YtmoolbmbdnkooaaGreatChecked
import Derived.Test.YtmoolbmbdnkooaaGreatShelf
import Derived.WalkLawsBesides
import Derived.WalkSpells
import Derived.IntWalk
namespace Go.Proofs.YtmoolbmbdnkooaaGreat
open Go.RowKit

theorem fits_any (k d : Int) (w : World) :
    Calls Tryz.prog 72 #[.agg #[.int .i64 k, .int .i64 d]] w fun e w' => e = .returned (.bool (fitsB k d)) ∧ Below w.heap.size w w' := by
  go_enter Tryz.func72, Tryz.ntmps72
  go_wp2
  all_goals
    go_ret
    exact ⟨ret_bool (by rw [Bool.eq_iff_iff]; simp_all [fitsB]; try omega), (Below.refl _ _).alloc (Nat.le_refl _) _⟩

theorem check_any (k d : Int) (w : World) :
    Calls Tryz.prog 63 #[.agg #[.int .i64 k, .int .i64 d]] w fun e w' => e = .returned (.int .i64 (checkI k d)) ∧ Below w.heap.size w w' := by
  rcases check_cases k d with ⟨h, hk⟩ | ⟨h, h1, h2, hf⟩ | ⟨h, h1, h2, hf⟩
  · rw [h]
    clear h
    rcases hk with hk | hk
    · go_enter Tryz.func63, Tryz.ntmps63
      go_wp2
      go_ret
      exact ⟨rfl, (Below.refl _ _).alloc (Nat.le_refl _) _⟩
    · have hk1 : ¬ k < 1 := by omega
      go_enter Tryz.func63, Tryz.ntmps63
      go_wp2
      go_ret
      exact ⟨rfl, (Below.refl _ _).alloc (Nat.le_refl _) _⟩
  · rw [h]
    have HF := Lib.hid hf
    clear h hf
    go_enter Tryz.func63, Tryz.ntmps63
    go_wp2_with (go_at_call 72; refine (fits_any _ _ _).mono ?_; rintro e w' ⟨rfl, hb⟩; rw [HF.out])
    go_ret
    exact ⟨rfl, below_alloc1 hb⟩
  · rw [h]
    have HF := Lib.hid hf
    clear h hf
    go_enter Tryz.func63, Tryz.ntmps63
    go_wp2_with (go_at_call 72; refine (fits_any _ _ _).mono ?_; rintro e w' ⟨rfl, hb⟩; rw [HF.out])
    go_ret
    exact ⟨rfl, below_alloc1 hb⟩

theorem refCheck_any (k d : Int) (w : World) :
    Calls Tryz.prog 42 #[.agg #[.int .i64 k, .int .i64 d]] w fun e w' => e = .returned (.int .i64 (checkI k d)) ∧ Below w.heap.size w w' := by
  go_enter Tryz.func42, Tryz.ntmps42
  go_wp2
  all_goals
    go_ret
    exact ⟨ret_int (by simp_all [checkI, fitsB]; try omega), (Below.refl _ _).alloc (Nat.le_refl _) _⟩

theorem arity_any (k d : Int) (w : World) :
    Calls Tryz.prog 64 #[.agg #[.int .i64 k, .int .i64 d]] w fun e w' => e = .returned (.int .i64 (arityI k d)) ∧ Below w.heap.size w w' := by
  have HA : Hid (arityI k d = if checkI k d = 0 then (if k = 1 then 2 else if k = 2 then d else 0) else 0) := Lib.hid rfl
  go_enter Tryz.func64, Tryz.ntmps64
  go_wp2_with fail
  refine (check_any _ _ _).mono ?_
  rintro e w1 ⟨rfl, hb⟩
  obtain ⟨c0, c1⟩ := box2 hb
  have hb' := below_alloc1 hb
  clear hb
  go_wp2
  all_goals
    go_ret
    exact ⟨ret_int (by rw [HA.out]; simp_all), hb'⟩

theorem refArity_any (k d : Int) (w : World) :
    Calls Tryz.prog 43 #[.agg #[.int .i64 k, .int .i64 d]] w fun e w' => e = .returned (.int .i64 (arityI k d)) ∧ Below w.heap.size w w' := by
  have HA : Hid (arityI k d = if checkI k d = 0 then (if k = 1 then 2 else if k = 2 then d else 0) else 0) := Lib.hid rfl
  go_enter Tryz.func43, Tryz.ntmps43
  go_wp2_with fail
  refine (refCheck_any _ _ _).mono ?_
  rintro e w1 ⟨rfl, hb⟩
  obtain ⟨c0, c1⟩ := box2 hb
  replace hb := below_alloc1 hb
  go_wp2_with fail
  all_goals first
  | go_ret
    exact ⟨ret_int (by rw [HA.out]; simp_all), hb⟩
  | refine (refCheck_any _ _ _).mono ?_
    rintro e w2 ⟨rfl, hb2⟩
    replace c0 := later hb2 c0
    replace c1 := later hb2 c1
    replace hb2 := below_chain hb hb2
    go_wp2
    all_goals
      go_ret
      exact ⟨ret_int (by rw [HA.out]; simp_all), hb2⟩

theorem bits_any (n : Int) (h0 : -9223372036854775808 ≤ n) (h1 : n ≤ 9223372036854775807) (w : World) :
    Calls Tryz.prog 65 #[.int .i64 n] w fun e w' => e = .returned (.int .i64 (bitsI n)) ∧ w = w' := by
  go_enter Tryz.func65, Tryz.ntmps65
  by_cases hn : n < 0
  · have HB := Lib.hid (bits_neg hn)
    go_wp2
    go_ret
    exact ⟨ret_int HB.out.symm, rfl⟩
  · go_wp2_with (go_at_call 73; refine (Tryz.bits_Len64 n _ (by omega) (by omega)).mono ?_; rintro e w' ⟨rfl, rfl⟩)
    go_ret
    exact ⟨rfl, rfl⟩

theorem refBits_any (n : Int) (h0 : -9223372036854775808 ≤ n) (h1 : n ≤ 9223372036854775807) (w : World) :
    Calls Tryz.prog 40 #[.int .i64 n] w fun e w' => e = .returned (.int .i64 (bitsI n)) ∧ w = w' := by
  by_cases hn : n < 0
  · have HB := Lib.hid (bits_neg hn)
    have hn' : ¬ 0 < n := by omega
    go_enter Tryz.func40, Tryz.ntmps40
    go_wp2
    go_loop [0, 3] (fun m k => m = .int .i64 n ∧ k = .int .i64 0) (fun m _ => (intOf m).toNat)
    case atStart => exact ⟨rfl, rfl⟩
    case round =>
      obtain ⟨rfl, rfl⟩ := hrel
      go_wp2
      go_ret
      exact ⟨ret_int HB.out.symm, rfl⟩
  · have HB : Hid (bitsI n = (Lib.bitLen n.toNat : Int)) := Lib.hid rfl
    have HL : Lib.bitLen n.toNat ≤ 64 := Lib.bitLen_le n.toNat 64 (by omega) (by omega)
    have HN : n.toNat ≤ 9223372036854775807 := by omega
    have HM : Hid (n = (n.toNat : Int)) := Lib.hid (by omega)
    go_enter Tryz.func40, Tryz.ntmps40
    go_wp2
    go_loop [0, 3] (fun m k => ∃ q j : Nat, m = .int .i64 q ∧ k = .int .i64 j ∧ j + Lib.bitLen q = Lib.bitLen n.toNat ∧ q ≤ n.toNat) (fun m _ => (intOf m).toNat)
    case atStart => exact ⟨n.toNat, 0, by rw [← HM.out], rfl, by omega, Nat.le_refl _⟩
    case round =>
      obtain ⟨q, j, rfl, rfl, hj, hq⟩ := hrel
      have HJ := Lib.hid hj
      have hj' : j ≤ 64 := by omega
      clear hj
      by_cases hq0 : 0 < q
      · have HH := Lib.hid (bits_half q hq0 (by omega))
        go_wp2
        go_round
        case rel => exact ⟨q / 2, j + 1, by go_num, by go_num, by have := HJ.out; have := HH.out; omega, by omega⟩
        case measure => simp [intOf]; omega
      · go_wp2
        go_ret
        refine ⟨ret_int ?_, rfl⟩
        have h := HJ.out
        rw [show q = 0 by omega, show Lib.bitLen 0 = 0 by decide] at h
        have := HB.out
        omega

theorem counted_any (n : Int) (w : World) :
    Calls Tryz.prog 52 #[.int .i64 n] w fun e w' => e = .returned (.int .i64 (nearI n)) ∧ w = w' := by
  have HA : Hid (nearI n = if n < 0 then 0 else if 1099511627776 < n then 1099511627776 else n) := Lib.hid rfl
  go_enter Tryz.func52, Tryz.ntmps52
  go_wp2
  all_goals
    go_ret
    exact ⟨ret_int (by rw [HA.out]; clear HA; repeat' split
                       all_goals omega), rfl⟩

theorem near_any (n : Int) (w : World) :
    Calls Tryz.prog 41 #[.int .i64 n] w fun e w' => e = .returned (.int .i64 (nearI n)) ∧ w = w' := by
  have HA : Hid (nearI n = if n < 0 then 0 else if 1099511627776 < n then 1099511627776 else n) := Lib.hid rfl
  go_enter Tryz.func41, Tryz.ntmps41
  go_wp2
  all_goals
    go_ret
    exact ⟨ret_int (by rw [HA.out]; clear HA; repeat' split
                       all_goals omega), rfl⟩

theorem levels_any (n : Int) (h0 : 0 ≤ n) (h1 : n ≤ 1099511627776) (w : World) :
    Calls Tryz.prog 51 #[.int .i64 n] w fun e w' => e = .returned (.int .i64 (2 + bitsI n)) ∧ w = w' := by
  have hb := bits_range n (by omega)
  obtain ⟨hb0, hb1⟩ := hb
  go_enter Tryz.func51, Tryz.ntmps51
  go_wp2_with (go_at_call 65; refine (bits_any n (by omega) (by omega) _).mono ?_; rintro e w' ⟨rfl, rfl⟩)
  go_ret
  exact ⟨rfl, rfl⟩

theorem callF_any (k d : Int) (w : World) :
    Calls Tryz.prog 50 #[.agg #[.int .i64 k, .int .i64 d]] w fun e w' => e = .returned (.int .i64 (callI k d)) ∧ Below w.heap.size w w' := by
  have HA : Hid (callI k d = if checkI k d = 0 then (if k = 1 then 2 else if k = 2 then d else if k = 3 ∨ k = 6 ∨ k = 8 then 4 else 0) else 0) := Lib.hid rfl
  have HR : Hid (arityI k d = if checkI k d = 0 then (if k = 1 then 2 else if k = 2 then d else 0) else 0) := Lib.hid rfl
  go_enter Tryz.func50, Tryz.ntmps50
  go_wp2_with fail
  refine (check_any _ _ _).mono ?_
  rintro e w1 ⟨rfl, hb⟩
  obtain ⟨c0, c1⟩ := box2 hb
  replace hb := below_alloc1 hb
  go_wp2_with (go_at_call 64; refine (arity_any _ _ _).mono ?_; rintro e w2 ⟨rfl, hb2⟩; replace hb2 := below_chain hb hb2)
  all_goals first
  | go_ret
    exact ⟨ret_int (by rw [HA.out]; simp_all; try omega), hb⟩
  | go_ret
    exact ⟨ret_int (by rw [HA.out, HR.out]; simp_all; try omega), hb2⟩

end Go.Proofs.YtmoolbmbdnkooaaGreat

namespace Go.Proofs.YtmoolbmbdnkooaaGreat
open Go.RowKit

theorem limit_any (k d m : Int) (w : World) :
    Calls Tryz.prog 29 #[.agg #[.int .i64 k, .int .i64 d], .int .i64 m] w fun e w' => e = .returned (.int .i64 (limitI k d m)) ∧ Below w.heap.size w w' := by
  have HA : Hid (limitI k d m = callI k d * (2 + bitsI (nearI m))) := Lib.hid rfl
  have hl := limit_range k d m
  rw [HA.out] at hl
  obtain ⟨hl0, hl1⟩ := hl
  obtain ⟨n0, n1⟩ := near_range m
  go_enter Tryz.func29, Tryz.ntmps29
  go_wp2_with fail
  refine (callF_any _ _ _).mono ?_
  rintro e w1 ⟨rfl, hb⟩
  replace hb := below_alloc1 hb
  go_wp2_with (first | (go_at_call 52; refine (counted_any _ _).mono ?_; rintro e w' ⟨rfl, rfl⟩) | (go_at_call 51; refine (levels_any _ n0 n1 _).mono ?_; rintro e w' ⟨rfl, rfl⟩))
  go_ret
  exact ⟨ret_int HA.out.symm, hb⟩

theorem refLimit_any (k d m : Int) (w : World) :
    Calls Tryz.prog 27 #[.agg #[.int .i64 k, .int .i64 d], .int .i64 m] w fun e w' => e = .returned (.int .i64 (limitI k d m)) ∧ Below w.heap.size w w' := by
  have HS := Lib.hid (limit_steps k d m)
  obtain ⟨n0, n1⟩ := near_range m
  obtain ⟨b0, b1⟩ := bits_near m
  obtain ⟨a0, a1⟩ := arity_range k d
  obtain ⟨p0, p1⟩ := mul_range (a := arityI k d) (m := 16) ⟨a0, a1⟩ (b := 2 + bitsI (nearI m)) (n := 43) ⟨by omega, by omega⟩
  go_enter Tryz.func27, Tryz.ntmps27
  go_wp2_with (first | (go_at_call 41; refine (near_any _ _).mono ?_; rintro e w' ⟨rfl, rfl⟩) | (go_at_call 40; refine (refBits_any _ (by omega) (by omega) _).mono ?_; rintro e w' ⟨rfl, rfl⟩))
  refine (refCheck_any _ _ _).mono ?_
  rintro e w1 ⟨rfl, hb⟩
  obtain ⟨c0, c1⟩ := box2 hb
  replace hb := below_alloc1 hb
  go_wp2_with (go_at_call 43; refine (refArity_any _ _ _).mono ?_; rintro e w2 ⟨rfl, hb2⟩; replace hb2 := below_chain hb hb2)
  all_goals first
  | go_ret
    exact ⟨ret_int (by rw [HS.out]; simp_all; try omega), hb⟩
  | go_ret
    exact ⟨ret_int (by rw [HS.out]; simp_all; try omega), hb2⟩

end Go.Proofs.YtmoolbmbdnkooaaGreat
