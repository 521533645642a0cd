/- The statements GaugeChecks, GaugeLimits and GaugeGrows, walked: for every config and all numbers the call returns true, in every memory; of what was in memory nothing is changed. -/
import Derived.Test.YtfaefolmodkbpaaGauge2
namespace Go.Proofs.Ytfaefolmodkbpaa
open Go.RowKit Go.Sort Go.Lib

set_option maxHeartbeats 4000000 in
set_option maxRecDepth 100000 in
theorem checks_walk (k d : Int) (w : World) :
    Calls Try.prog 4 #[.agg #[.int .i64 k, .int .i64 d]] w fun e w' => e = .returned (.bool true) ∧ Below w.heap.size w w' := by
  go_enter Try.func4, Try.ntmps4
  go_wp2_with fail
  refine (alive_any _).mono ?_
  rintro e W ⟨rfl, hb⟩
  obtain ⟨c0, c1⟩ := box2 hb
  replace hb := below_alloc1 hb
  go_wp2_with fail
  have k0 := cell_regrown c0
  have k1 := cell_regrown c1
  have cA : ∀ d' os, Calls Try.prog 11 #[.agg #[.int .i64 k, .int .i64 d]] (grow (redrawn W d') os) fun e w'' => e = .returned (.int .i64 (checkI k d)) ∧ ∃ p : Regrown, w'' = grow (redrawn W p.d) p.os := fun d' os => Calls.regrown_of (check_any k d _)
  have cB : ∀ d' os, Calls Try.prog 12 #[.agg #[.int .i64 k, .int .i64 d]] (grow (redrawn W d') os) fun e w'' => e = .returned (.int .i64 (checkI k d)) ∧ ∃ p : Regrown, w'' = grow (redrawn W p.d) p.os := fun d' os => Calls.regrown_of (refCheck_any k d _)
  have cC : ∀ d' os, Calls Try.prog 13 #[.agg #[.int .i64 k, .int .i64 d]] (grow (redrawn W d') os) fun e w'' => e = .returned (.int .i64 (arityI k d)) ∧ ∃ p : Regrown, w'' = grow (redrawn W p.d) p.os := fun d' os => Calls.regrown_of (arity_any k d _)
  have cD : ∀ d' os, Calls Try.prog 14 #[.agg #[.int .i64 k, .int .i64 d]] (grow (redrawn W d') os) fun e w'' => e = .returned (.int .i64 (arityI k d)) ∧ ∃ p : Regrown, w'' = grow (redrawn W p.d) p.os := fun d' os => Calls.regrown_of (refArity_any k d _)
  generalize checkI k d = x at *
  generalize arityI k d = y at *
  refine wp_region_quiet_below (by kernel_rfl) (by kernel_rfl) ?_
  repeat (go_big_quiet_step (first | with_reducible exact cA _ _ | with_reducible exact cB _ _ | with_reducible exact cC _ _ | with_reducible exact cD _ _))
  refine wpQuiet_nil ?_
  intro W3 hw'
  replace hw' := below_regrown' hw'
  go_wp2_with fail
  go_ret
  exact ⟨rfl, below_chain hb hw'⟩

set_option maxHeartbeats 4000000 in
set_option maxRecDepth 100000 in
theorem limits_walk (k d n : Int) (h0 : -9223372036854775808 ≤ n) (h1 : n ≤ 9223372036854775807) (w : World) :
    Calls Try.prog 5 #[.agg #[.int .i64 k, .int .i64 d], .int .i64 n] w fun e w' => e = .returned (.bool true) ∧ Below w.heap.size w w' := by
  go_enter Try.func5, Try.ntmps5
  go_wp2_with fail
  refine (alive_any _).mono ?_
  rintro e W ⟨rfl, hb⟩
  obtain ⟨c0, c1⟩ := box2 hb
  replace hb := below_alloc1 hb
  go_wp2_with fail
  have k0 := cell_regrown c0
  have k1 := cell_regrown c1
  have cA : ∀ d' os, Calls Try.prog 15 #[.int .i64 n] (grow (redrawn W d') os) fun e w'' => e = .returned (.int .i64 (bitsI n)) ∧ ∃ p : Regrown, w'' = grow (redrawn W p.d) p.os := fun d' os => Calls.regrown_of ((bits_any n h0 h1 _).mono fun _ _ h => ⟨h.1, h.2 ▸ Below.refl _ _⟩)
  have cB : ∀ d' os, Calls Try.prog 16 #[.int .i64 n] (grow (redrawn W d') os) fun e w'' => e = .returned (.int .i64 (bitsI n)) ∧ ∃ p : Regrown, w'' = grow (redrawn W p.d) p.os := fun d' os => Calls.regrown_of ((refBits_any n h0 h1 _).mono fun _ _ h => ⟨h.1, h.2 ▸ Below.refl _ _⟩)
  have cC : ∀ d' os, Calls Try.prog 17 #[.agg #[.int .i64 k, .int .i64 d], .int .i64 n] (grow (redrawn W d') os) fun e w'' => e = .returned (.int .i64 (limitI k d n)) ∧ ∃ p : Regrown, w'' = grow (redrawn W p.d) p.os := fun d' os => Calls.regrown_of (limit_any k d n _)
  have cD : ∀ d' os, Calls Try.prog 18 #[.agg #[.int .i64 k, .int .i64 d], .int .i64 n] (grow (redrawn W d') os) fun e w'' => e = .returned (.int .i64 (limitI k d n)) ∧ ∃ p : Regrown, w'' = grow (redrawn W p.d) p.os := fun d' os => Calls.regrown_of (refLimit_any k d n _)
  have cE : ∀ d' os, Calls Try.prog 19 #[.agg #[.int .i64 k, .int .i64 d], .int .i64 n] (grow (redrawn W d') os) fun e w'' => e = .returned (.int .i64 (wholeI k d n)) ∧ ∃ p : Regrown, w'' = grow (redrawn W p.d) p.os := fun d' os => Calls.regrown_of (whole_any k d n _)
  have cF : ∀ d' os, Calls Try.prog 20 #[.agg #[.int .i64 k, .int .i64 d], .int .i64 n] (grow (redrawn W d') os) fun e w'' => e = .returned (.int .i64 (wholeI k d n)) ∧ ∃ p : Regrown, w'' = grow (redrawn W p.d) p.os := fun d' os => Calls.regrown_of (refWhole_any k d n _)
  generalize bitsI n = x at *
  generalize limitI k d n = y at *
  generalize wholeI k d n = z at *
  refine wp_region_quiet_below (by kernel_rfl) (by kernel_rfl) ?_
  repeat (go_big_quiet_step (first | with_reducible exact cA _ _ | with_reducible exact cB _ _ | with_reducible exact cC _ _ | with_reducible exact cD _ _ | with_reducible exact cE _ _ | with_reducible exact cF _ _))
  refine wpQuiet_nil ?_
  intro W3 hw'
  replace hw' := below_regrown' hw'
  go_wp2_with fail
  go_ret
  exact ⟨rfl, below_chain hb hw'⟩

set_option maxHeartbeats 4000000 in
set_option maxRecDepth 100000 in
/-- GaugeGrows, once a is at most b. -/
theorem grows_up (k d a b a0 b0 : Int) (h0 : -9223372036854775808 ≤ a) (hab : a ≤ b) (h1 : b ≤ 9223372036854775807) (hpick : (a0 ≤ b0 ∧ a = a0 ∧ b = b0) ∨ (b0 < a0 ∧ a = b0 ∧ b = a0)) (w : World) :
    Calls Try.prog 7 #[.agg #[.int .i64 k, .int .i64 d], .int .i64 a0, .int .i64 b0] w fun e w' => e = .returned (.bool true) ∧ Below w.heap.size w w' := by
  have hm1 := Lib.hid (bits_mono hab h1)
  have hm2 := Lib.hid (limit_mono k d hab)
  have hm3 := Lib.hid (whole_mono k d hab)
  have hone := Lib.hid (one_bound k d a)
  have hl0 := Lib.hid (fun h => limit_none (k := k) (d := d) h b)
  have hw0 := Lib.hid (fun h => whole_none (k := k) (d := d) h b)
  have hab' : -9223372036854775808 ≤ b := by omega
  have hba' : a ≤ 9223372036854775807 := by omega
  have HC := Lib.hid (check_cases k d)
  rcases hpick with ⟨hp, rfl, rfl⟩ | ⟨hp, rfl, rfl⟩
  all_goals
    go_enter Try.func7, Try.ntmps7
    go_wp2_with fail
    refine (alive_any _).mono ?_
    rintro e W ⟨rfl, hb⟩
    obtain ⟨c0, c1⟩ := box2 hb
    replace hb := below_alloc1 hb
    go_wp2_with fail
    refine (check_any _ _ _).mono ?_
    rintro e W2 ⟨rfl, hb2⟩
    replace c0 := later hb2 c0
    replace c1 := later hb2 c1
    replace hb := below_chain hb hb2
    clear hb2
    by_cases hc : checkI k d = 0
    · have hone' := hone.out hc
      have e1 := hm1.out
      have e2 := hm2.out
      have e3 := hm3.out
      rw [hc]
      go_wp2_with fail
      have k0 := cell_regrown c0
      have k1 := cell_regrown c1
      have cA : ∀ d' os, Calls Try.prog 15 #[.int .i64 a] (grow (redrawn W2 d') os) fun e w'' => e = .returned (.int .i64 (bitsI a)) ∧ ∃ p : Regrown, w'' = grow (redrawn W2 p.d) p.os := fun d' os => Calls.regrown_of ((bits_any a h0 hba' _).mono fun _ _ h => ⟨h.1, h.2 ▸ Below.refl _ _⟩)
      have cB : ∀ d' os, Calls Try.prog 15 #[.int .i64 b] (grow (redrawn W2 d') os) fun e w'' => e = .returned (.int .i64 (bitsI b)) ∧ ∃ p : Regrown, w'' = grow (redrawn W2 p.d) p.os := fun d' os => Calls.regrown_of ((bits_any b hab' h1 _).mono fun _ _ h => ⟨h.1, h.2 ▸ Below.refl _ _⟩)
      have cC : ∀ d' os, Calls Try.prog 17 #[.agg #[.int .i64 k, .int .i64 d], .int .i64 a] (grow (redrawn W2 d') os) fun e w'' => e = .returned (.int .i64 (limitI k d a)) ∧ ∃ p : Regrown, w'' = grow (redrawn W2 p.d) p.os := fun d' os => Calls.regrown_of (limit_any k d a _)
      have cD : ∀ d' os, Calls Try.prog 17 #[.agg #[.int .i64 k, .int .i64 d], .int .i64 b] (grow (redrawn W2 d') os) fun e w'' => e = .returned (.int .i64 (limitI k d b)) ∧ ∃ p : Regrown, w'' = grow (redrawn W2 p.d) p.os := fun d' os => Calls.regrown_of (limit_any k d b _)
      have cE : ∀ d' os, Calls Try.prog 19 #[.agg #[.int .i64 k, .int .i64 d], .int .i64 a] (grow (redrawn W2 d') os) fun e w'' => e = .returned (.int .i64 (wholeI k d a)) ∧ ∃ p : Regrown, w'' = grow (redrawn W2 p.d) p.os := fun d' os => Calls.regrown_of (whole_any k d a _)
      have cF : ∀ d' os, Calls Try.prog 19 #[.agg #[.int .i64 k, .int .i64 d], .int .i64 b] (grow (redrawn W2 d') os) fun e w'' => e = .returned (.int .i64 (wholeI k d b)) ∧ ∃ p : Regrown, w'' = grow (redrawn W2 p.d) p.os := fun d' os => Calls.regrown_of (whole_any k d b _)
      have cG : ∀ d' os, Calls Try.prog 19 #[.agg #[.int .i64 k, .int .i64 d], .int .i64 1] (grow (redrawn W2 d') os) fun e w'' => e = .returned (.int .i64 (wholeI k d 1)) ∧ ∃ p : Regrown, w'' = grow (redrawn W2 p.d) p.os := fun d' os => Calls.regrown_of (whole_any k d 1 _)
      clear hm1 hm2 hm3 hone hl0 hw0 HC hc
      generalize bitsI a = xa at *
      generalize bitsI b = xb at *
      generalize limitI k d a = ya at *
      generalize limitI k d b = yb at *
      generalize wholeI k d a = za at *
      generalize wholeI k d b = zb at *
      generalize wholeI k d 1 = z1 at *
      have e4 : (decide (0 < ya) != decide (0 < z1)) = true := by rw [hone']; cases decide (0 < z1) <;> rfl
      have d1 : decide (xa ≤ xb) = true := decide_eq_true e1
      have d2 : decide (ya ≤ yb) = true := decide_eq_true e2
      have d3 : decide (za ≤ zb) = true := decide_eq_true e3
      clear hone'
      refine wp_region_quiet_below (by kernel_rfl) (by kernel_rfl) ?_
      repeat (go_big_quiet_step (first | with_reducible exact cA _ _ | with_reducible exact cB _ _ | with_reducible exact cC _ _ | with_reducible exact cD _ _ | with_reducible exact cE _ _ | with_reducible exact cF _ _ | with_reducible exact cG _ _))
      refine wpQuiet_nil ?_
      intro W3 hw'
      replace hw' := below_regrown' hw'
      go_wp2_with fail
      go_ret
      exact ⟨ret_bool e4, below_chain hb hw'⟩
    · have z1 := hl0.out hc
      have z2 := hw0.out hc
      have cC := limit_any k d b
      have cE := whole_any k d b
      rw [z1] at cC
      rw [z2] at cE
      have hc' : (checkI k d != 0) = true := by simpa using hc
      clear hm1 hm2 hm3 hone hl0 hw0 HC hc z1 z2
      generalize checkI k d = x at *
      go_wp2_with fail
      refine (cC _).mono ?_
      rintro e W3 ⟨rfl, hb3⟩
      replace c0 := later hb3 c0
      replace c1 := later hb3 c1
      replace hb := below_chain hb hb3
      clear hb3
      go_wp2_with fail
      refine (cE _).mono ?_
      rintro e W4 ⟨rfl, hb4⟩
      replace hb := below_chain hb hb4
      clear hb4
      go_wp2_with fail
      go_ret
      exact ⟨rfl, hb⟩

theorem grows_walk (k d a b : Int) (ha : -9223372036854775808 ≤ a ∧ a ≤ 9223372036854775807) (hb : -9223372036854775808 ≤ b ∧ b ≤ 9223372036854775807) (w : World) :
    Calls Try.prog 7 #[.agg #[.int .i64 k, .int .i64 d], .int .i64 a, .int .i64 b] w fun e w' => e = .returned (.bool true) ∧ Below w.heap.size w w' := by
  by_cases h : a ≤ b
  · exact grows_up k d a b a b ha.1 h hb.2 (.inl ⟨h, rfl, rfl⟩) w
  · exact grows_up k d b a a b hb.1 (by omega) ha.2 (.inr ⟨by omega, rfl, rfl⟩) w
end Go.Proofs.Ytfaefolmodkbpaa
