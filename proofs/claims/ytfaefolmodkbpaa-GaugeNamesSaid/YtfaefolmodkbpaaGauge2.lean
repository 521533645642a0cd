/- Limit and Whole, the program's and the document's, and the statements' own check of the chapter's examples, for every config and every number; of what was in memory nothing is changed. -/
import Derived.Test.YtfaefolmodkbpaaGauge
namespace Go.Proofs.Ytfaefolmodkbpaa
open Go.RowKit

theorem limit_any (k d m : Int) (w : World) :
    Calls Try.prog 17 #[.agg #[.int .i64 k, .int .i64 d], .int .i64 m] w fun e w' => e = .returned (.int .i64 (limitI k d m)) ∧ Below w.heap.size w w' := by
  have HA : Hid (limitI k d m = callI k d * (2 + bitsI (nearI m))) := Lib.hid rfl
  have hl := limit_range k d m
  rw [HA.out] at hl
  obtain ⟨hl0, hl1⟩ := hl
  obtain ⟨n0, n1⟩ := near_range m
  go_enter Try.func17, Try.ntmps17
  go_wp2_with fail
  refine (callF_any _ _ _).mono ?_
  rintro e w1 ⟨rfl, hb⟩
  replace hb := below_alloc1 hb
  go_wp2_with (first | (go_at_call 28; refine (counted_any _ _).mono ?_; rintro e w' ⟨rfl, rfl⟩) | (go_at_call 27; refine (levels_any _ n0 n1 _).mono ?_; rintro e w' ⟨rfl, rfl⟩))
  go_ret
  exact ⟨ret_int HA.out.symm, hb⟩

theorem whole_any (k d n : Int) (w : World) :
    Calls Try.prog 19 #[.agg #[.int .i64 k, .int .i64 d], .int .i64 n] w fun e w' => e = .returned (.int .i64 (wholeI k d n)) ∧ Below w.heap.size w w' := by
  have HA : Hid (wholeI k d n = wholeFI k d * nearI n * (2 + bitsI (nearI n))) := Lib.hid rfl
  have hl := whole_all_range k d n
  rw [HA.out] at hl
  obtain ⟨hl0, hl1⟩ := hl
  obtain ⟨hm0, hm1⟩ := wholeN_range k d n
  obtain ⟨n0, n1⟩ := near_range n
  go_enter Try.func19, Try.ntmps19
  go_wp2_with (go_at_call 28; refine (counted_any _ _).mono ?_; rintro e w' ⟨rfl, rfl⟩)
  refine (wholeF_any _ _ _).mono ?_
  rintro e w1 ⟨rfl, hb⟩
  replace hb := below_alloc1 hb
  go_wp2_with (go_at_call 27; refine (levels_any _ n0 n1 _).mono ?_; rintro e w' ⟨rfl, rfl⟩)
  go_ret
  exact ⟨ret_int HA.out.symm, hb⟩

theorem refLimit_any (k d m : Int) (w : World) :
    Calls Try.prog 18 #[.agg #[.int .i64 k, .int .i64 d], .int .i64 m] w fun e w' => e = .returned (.int .i64 (limitI k d m)) ∧ Below w.heap.size w w' := by
  have HS := Lib.hid (limit_steps k d m)
  obtain ⟨n0, n1⟩ := near_range m
  obtain ⟨b0, b1⟩ := bits_near m
  obtain ⟨a0, a1⟩ := arity_range k d
  obtain ⟨p0, p1⟩ := mul_range (a := arityI k d) (m := 16) ⟨a0, a1⟩ (b := 2 + bitsI (nearI m)) (n := 43) ⟨by omega, by omega⟩
  go_enter Try.func18, Try.ntmps18
  go_wp2_with (first | (go_at_call 29; refine (near_any _ _).mono ?_; rintro e w' ⟨rfl, rfl⟩) | (go_at_call 16; refine (refBits_any _ (by omega) (by omega) _).mono ?_; rintro e w' ⟨rfl, rfl⟩))
  refine (refCheck_any _ _ _).mono ?_
  rintro e w1 ⟨rfl, hb⟩
  obtain ⟨c0, c1⟩ := box2 hb
  replace hb := below_alloc1 hb
  go_wp2_with (go_at_call 14; refine (refArity_any _ _ _).mono ?_; rintro e w2 ⟨rfl, hb2⟩; replace hb2 := below_chain hb hb2)
  all_goals first
  | go_ret
    exact ⟨ret_int (by rw [HS.out]; simp_all; try omega), hb⟩
  | go_ret
    exact ⟨ret_int (by rw [HS.out]; simp_all; try omega), hb2⟩

theorem refWhole_any (k d n : Int) (w : World) :
    Calls Try.prog 20 #[.agg #[.int .i64 k, .int .i64 d], .int .i64 n] w fun e w' => e = .returned (.int .i64 (wholeI k d n)) ∧ Below w.heap.size w w' := by
  have HS := Lib.hid (whole_steps k d n)
  obtain ⟨n0, n1⟩ := near_range n
  obtain ⟨b0, b1⟩ := bits_near n
  obtain ⟨p0, p1⟩ := mul_range (a := 16 * nearI n) (m := 17592186044416) ⟨by omega, by omega⟩ (b := 2 + bitsI (nearI n)) (n := 43) ⟨by omega, by omega⟩
  go_enter Try.func20, Try.ntmps20
  go_wp2_with (go_at_call 29; refine (near_any _ _).mono ?_; rintro e w' ⟨rfl, rfl⟩)
  refine (refCheck_any _ _ _).mono ?_
  rintro e w1 ⟨rfl, hb⟩
  obtain ⟨c0, c1⟩ := box2 hb
  replace hb := below_alloc1 hb
  go_wp2_with (go_at_call 16; refine (refBits_any _ (by omega) (by omega) _).mono ?_; rintro e w' ⟨rfl, rfl⟩)
  all_goals
    go_ret
    exact ⟨ret_int (by rw [HS.out]; simp_all; try omega), hb⟩

theorem alive_any (w : World) :
    Calls Try.prog 10 #[] w fun e w' => e = .returned (.bool true) ∧ Below w.heap.size w w' := by
  have h7 : bitsI 7 = 3 := by decide
  have h8 : bitsI 8 = 4 := by decide
  have hl : limitI 1 0 7 = 10 := by decide
  go_enter Try.func10, Try.ntmps10
  go_wp2_with (first | (go_at_call 15; refine (bits_any _ (by omega) (by omega) _).mono ?_; rintro e w' ⟨rfl, rfl⟩) | (go_at_call 17; refine (limit_any _ _ _ _).mono ?_; rintro e w' ⟨rfl, hb⟩))
  go_ret
  exact ⟨rfl, hb⟩
end Go.Proofs.Ytfaefolmodkbpaa
