/- The numbers of layer 7: the place above, a place below, how deep places are; the program's functions and the document's return what they should, and nothing in memory is turned. -/
import Derived.Test.YtokpngmfmkfmeaaBase
import Derived.Test.YtokpngmfmkfmeaaMem
import Derived.Test.YtokpngmfmkfmeaaSiftRunsMath
import Derived.Test.YtokpngmfmkfmeaaChecked
import Derived.WalkLawsBesides
import Derived.IntWalk
import Derived.WalkSpells
namespace Go.Proofs.Ytokpngmfmkfmeaa
open Go.RowKit Go.Sort

theorem isdeg_c (d : Int) (w : World) : Calls Try.prog 27 #[.int .i64 d] w fun e w' => e = .returned (.bool (rightD d)) ∧ w = w' := by
  go_enter Try.func27, Try.ntmps27
  go_wp2
  all_goals
    go_ret
    exact ⟨ret_bool (by rw [Bool.eq_iff_iff]; simp_all [rightD]; try omega), rfl⟩
theorem right_c (d : Int) (w : World) : Calls Try.prog 15 #[.int .i64 d] w fun e w' => e = .returned (.bool (rightD d)) ∧ w = w' := by
  go_enter Try.func15, Try.ntmps15
  go_wp2
  all_goals
    go_ret
    exact ⟨ret_bool (by rw [Bool.eq_iff_iff]; simp_all [rightD]; try omega), rfl⟩
theorem par_facts {d i : Int} (hr : rightD d = true) (h : 1 ≤ i) (hi : i ≤ 9223372036854775807) : IntKind.i64.wrap (i - 1) = i - 1 ∧ (i - 1).tdiv d = (i - 1) / d ∧ (d == 0) = false ∧ IntKind.i64.wrap ((i - 1) / d) = (i - 1) / d ∧ ¬ d = 0 := by
  obtain ⟨h1, h2⟩ := rightD_iff.1 hr
  have e1 : (i - 1).tdiv d = (i - 1) / d := Int.tdiv_eq_ediv_of_nonneg (by omega)
  have h3 : 0 ≤ (i - 1) / d := Int.ediv_nonneg (by omega) (by omega)
  have h4 : (i - 1) / d ≤ i - 1 := Int.ediv_le_self _ (by omega)
  exact ⟨IntWalk.i64_in _ (by omega), e1, by simp; omega, IntWalk.i64_in _ (by omega), by omega⟩
section
variable (d i : Int) (w : World) (hi : i ≤ 9223372036854775807)
include hi
theorem parent_c : Calls Try.prog 8 #[.int .i64 d, .int .i64 i] w fun e w' => e = .returned (.tuple #[.int .i64 (parD d i).1, .bool (parD d i).2]) ∧ w = w' := by
  have hR := isdeg_c d
  unfold parD
  cases hr : rightD d
  · rw [if_neg (by simp)]
    rw [hr] at hR
    go_enter Try.func8, Try.ntmps8
    go_wp2_with fail
    refine (hR _).mono ?_
    rintro e w1 ⟨rfl, rfl⟩
    go_wp2_with fail
    go_ret2
    exact ⟨rfl, rfl⟩
  · rw [hr] at hR
    by_cases h : 1 ≤ i
    · obtain ⟨e1, e2, e3, e4, e5⟩ := par_facts hr h hi
      rw [if_pos ⟨rfl, h⟩]
      have h' : ¬ i < 1 := by omega
      generalize (i - 1) / d = q at *
      go_enter Try.func8, Try.ntmps8
      go_wp2_with fail
      refine (hR _).mono ?_
      rintro e w1 ⟨rfl, rfl⟩
      go_wp2_with fail
      go_ret2
      exact ⟨rfl, rfl⟩
    · rw [if_neg (fun x => h x.2)]
      have h' : i < 1 := by omega
      go_enter Try.func8, Try.ntmps8
      go_wp2_with fail
      refine (hR _).mono ?_
      rintro e w1 ⟨rfl, rfl⟩
      go_wp2_with fail
      go_ret2
      exact ⟨rfl, rfl⟩
theorem refparent_c : Calls Try.prog 9 #[.int .i64 d, .int .i64 i] w fun e w' => e = .returned (.tuple #[.int .i64 (parD d i).1, .bool (parD d i).2]) ∧ w = w' := by
  have hR := right_c d
  unfold parD
  cases hr : rightD d
  · rw [if_neg (by simp)]
    rw [hr] at hR
    go_enter Try.func9, Try.ntmps9
    go_wp2_with fail
    refine (hR _).mono ?_
    rintro e w1 ⟨rfl, rfl⟩
    go_wp2_with fail
    go_ret2
    exact ⟨rfl, rfl⟩
  · rw [hr] at hR
    by_cases h : 1 ≤ i
    · obtain ⟨e1, e2, e3, e4, e5⟩ := par_facts hr h hi
      rw [if_pos ⟨rfl, h⟩]
      have h' : ¬ i < 1 := by omega
      generalize (i - 1) / d = q at *
      go_enter Try.func9, Try.ntmps9
      go_wp2_with fail
      refine (hR _).mono ?_
      rintro e w1 ⟨rfl, rfl⟩
      go_wp2_with fail
      go_ret2
      exact ⟨rfl, rfl⟩
    · rw [if_neg (fun x => h x.2)]
      have h' : i < 1 := by omega
      go_enter Try.func9, Try.ntmps9
      go_wp2_with fail
      refine (hR _).mono ?_
      rintro e w1 ⟨rfl, rfl⟩
      go_wp2_with fail
      go_ret2
      exact ⟨rfl, rfl⟩
end
theorem child_facts {d i k : Int} (hr : rightD d = true) (h0 : 0 ≤ i) (h1 : i ≤ 1099511627776) (h2 : 1 ≤ k) (h3 : k ≤ d) :
    IntKind.i64.wrap (d * i) = i * d ∧ IntKind.i64.wrap (i * d) = i * d ∧ IntKind.i64.wrap (i * d + k) = i * d + k ∧ ¬ i < 0 ∧ ¬ 1099511627776 < i ∧ ¬ k < 1 ∧ ¬ d < k := by
  obtain ⟨h4, h5⟩ := rightD_iff.1 hr
  have h6 : 0 ≤ i * d := Int.mul_nonneg h0 (by omega)
  have h7 : i * d ≤ 1099511627776 * 16 := Int.mul_le_mul h1 h5 (by omega) (by omega)
  exact ⟨by rw [Int.mul_comm]; exact IntWalk.i64_in _ (by omega), IntWalk.i64_in _ (by omega), IntWalk.i64_in _ (by omega), by omega, by omega, by omega, by omega⟩
section
variable (d i k : Int) (w : World)
theorem child_c : Calls Try.prog 10 #[.int .i64 d, .int .i64 i, .int .i64 k] w fun e w' => e = .returned (.tuple #[.int .i64 (childD d i k).1, .bool (childD d i k).2]) ∧ w = w' := by
  have hR := isdeg_c d
  by_cases hc : rightD d = true ∧ 0 ≤ i ∧ i ≤ 1099511627776 ∧ 1 ≤ k ∧ k ≤ d
  · obtain ⟨e1, _, e3, e4, e5, e6, e7⟩ := child_facts hc.1 hc.2.1 hc.2.2.1 hc.2.2.2.1 hc.2.2.2.2
    have e : childD d i k = (i * d + k, true) := by unfold childD; rw [if_pos hc]
    rw [e]
    rw [hc.1] at hR
    clear hc e
    obtain ⟨m, hm⟩ : ∃ m, m = i * d := ⟨_, rfl⟩
    rw [← hm] at e1 e3 ⊢
    clear hm
    go_enter Try.func10, Try.ntmps10
    go_wp2_with fail
    refine (hR _).mono ?_
    rintro e w1 ⟨rfl, rfl⟩
    go_wp2_with fail
    go_ret2
    exact ⟨rfl, rfl⟩
  · have e : childD d i k = (0, false) := by unfold childD; rw [if_neg hc]
    rw [e]
    clear e
    cases hr : rightD d
    · rw [hr] at hR
      clear hc
      go_enter Try.func10, Try.ntmps10
      go_wp2_with fail
      refine (hR _).mono ?_
      rintro e w1 ⟨rfl, rfl⟩
      go_wp2_with fail
      go_ret2
      exact ⟨rfl, rfl⟩
    · rw [hr] at hR hc
      have hd : i < 0 ∨ 1099511627776 < i ∨ k < 1 ∨ d < k := by simp at hc; omega
      clear hc
      have hd1 : i < 0 ∨ ¬ i < 0 ∧ 1099511627776 < i ∨ (¬ i < 0 ∧ ¬ 1099511627776 < i ∧ k < 1) ∨ (¬ i < 0 ∧ ¬ 1099511627776 < i ∧ ¬ k < 1 ∧ d < k) := by omega
      clear hd
      rcases hd1 with h | ⟨h1, h⟩ | ⟨h1, h2, h⟩ | ⟨h1, h2, h3, h⟩ <;>
      · go_enter Try.func10, Try.ntmps10
        go_wp2_with fail
        refine (hR _).mono ?_
        rintro e w1 ⟨rfl, rfl⟩
        go_wp2_with fail
        go_ret2
        exact ⟨rfl, rfl⟩
theorem refchild_c : Calls Try.prog 11 #[.int .i64 d, .int .i64 i, .int .i64 k] w fun e w' => e = .returned (.tuple #[.int .i64 (childD d i k).1, .bool (childD d i k).2]) ∧ w = w' := by
  have hR := right_c d
  by_cases hc : rightD d = true ∧ 0 ≤ i ∧ i ≤ 1099511627776 ∧ 1 ≤ k ∧ k ≤ d
  · obtain ⟨_, e1, e3, e4, e5, e6, e7⟩ := child_facts hc.1 hc.2.1 hc.2.2.1 hc.2.2.2.1 hc.2.2.2.2
    have e : childD d i k = (i * d + k, true) := by unfold childD; rw [if_pos hc]
    rw [e]
    rw [hc.1] at hR
    clear hc e
    obtain ⟨m, hm⟩ : ∃ m, m = i * d := ⟨_, rfl⟩
    replace e1 : IntKind.i64.wrap (i * d) = m := by rw [e1, hm]
    rw [← hm] at e3 ⊢
    clear hm
    go_enter Try.func11, Try.ntmps11
    go_wp2_with fail
    refine (hR _).mono ?_
    rintro e w1 ⟨rfl, rfl⟩
    go_wp2_with fail
    go_ret2
    exact ⟨rfl, rfl⟩
  · have e : childD d i k = (0, false) := by unfold childD; rw [if_neg hc]
    rw [e]
    clear e
    cases hr : rightD d
    · rw [hr] at hR
      clear hc
      go_enter Try.func11, Try.ntmps11
      go_wp2_with fail
      refine (hR _).mono ?_
      rintro e w1 ⟨rfl, rfl⟩
      go_wp2_with fail
      go_ret2
      exact ⟨rfl, rfl⟩
    · rw [hr] at hR hc
      have hd : i < 0 ∨ 1099511627776 < i ∨ k < 1 ∨ d < k := by simp at hc; omega
      clear hc
      have hd1 : i < 0 ∨ ¬ i < 0 ∧ 1099511627776 < i ∨ (¬ i < 0 ∧ ¬ 1099511627776 < i ∧ k < 1) ∨ (¬ i < 0 ∧ ¬ 1099511627776 < i ∧ ¬ k < 1 ∧ d < k) := by omega
      clear hd
      rcases hd1 with h | ⟨h1, h⟩ | ⟨h1, h2, h⟩ | ⟨h1, h2, h3, h⟩ <;>
      · go_enter Try.func11, Try.ntmps11
        go_wp2_with fail
        refine (hR _).mono ?_
        rintro e w1 ⟨rfl, rfl⟩
        go_wp2_with fail
        go_ret2
        exact ⟨rfl, rfl⟩
end

theorem depth_le {d : Nat} (hd : 1 ≤ d) (i : Nat) : depthI d i ≤ i := by
  induction i using Nat.strongRecOn with
  | _ i ih =>
    by_cases h : 0 < i
    · have h1 := par_lt hd h
      have h2 := ih _ h1
      rw [depth_par hd h]
      omega
    · rw [show i = 0 by omega, depth_zero]
      omega
set_option maxRecDepth 100000 in
/-- 'Depth': the program's. -/
theorem depth_c (d n : Int) (w : World) : Calls Try.prog 13 #[.int .i64 d, .int .i64 n] w fun e w' => e = .returned (.int .i64 (depthD d n)) ∧ w = w' := by
  have hP := fun i hi w => parent_c d i w hi
  by_cases h1 : n < 2
  · have e : depthD d n = 0 := by unfold depthD; rw [if_neg (by omega)]
    rw [e]
    go_enter Try.func13, Try.ntmps13
    go_wp2_with fail
    go_ret
    exact ⟨rfl, rfl⟩
  by_cases h2 : 1099511627776 < n
  · have e : depthD d n = 0 := by unfold depthD; rw [if_neg (by omega)]
    rw [e]
    go_enter Try.func13, Try.ntmps13
    go_wp2_with fail
    go_ret
    exact ⟨rfl, rfl⟩
  have e1 : IntKind.i64.wrap (n - 1) = n - 1 := IntWalk.i64_in _ (by omega)
  cases hr : rightD d
  · have e : depthD d n = 0 := by unfold depthD; rw [if_neg (by simp [hr])]
    have e2 : parD d (n - 1) = (0, false) := by unfold parD; rw [if_neg (by simp [hr])]
    have hP1 := hP (n - 1) (by omega) w
    rw [e2] at hP1
    rw [e]
    clear hP e e2
    go_enter Try.func13, Try.ntmps13
    go_wp2_with fail
    refine hP1.mono ?_
    rintro e w1 ⟨rfl, rfl⟩
    clear hP1
    go_wp2_with fail
    go_loop [5, 6, 7] (fun c _ b => c = .int .i64 0 ∧ b = .bool false) (fun _ _ _ => 0)
    case atStart => exact ⟨rfl, rfl⟩
    case round =>
      obtain ⟨rfl, rfl⟩ := hrel
      go_wp2_with fail
      go_ret
      exact ⟨rfl, rfl⟩
  · obtain ⟨hd1, hd2⟩ := rightD_iff.1 hr
    obtain ⟨dn, rfl⟩ : ∃ dn : Nat, d = dn := ⟨d.toNat, by omega⟩
    obtain ⟨m, hm⟩ : ∃ m : Nat, n - 1 = m := ⟨(n - 1).toNat, by omega⟩
    have e : depthD (dn : Int) n = depthI dn m := by
      unfold depthD
      rw [if_pos ⟨hr, by omega, by omega⟩]
      congr 2 <;> omega
    rw [e]
    rw [hm] at e1
    obtain ⟨t, ht⟩ : ∃ t, t = depthI dn m := ⟨_, rfl⟩
    rw [← ht]
    have hm2 : m ≤ 1099511627776 := by omega
    have hPn : ∀ q : Nat, q ≤ m → ∀ w, _ := fun q hq w => hP (q : Int) (by omega) w
    have htm : t ≤ 1099511627776 := by rw [ht]; exact Nat.le_trans (depth_le (by omega) m) hm2
    have hPm := hPn m (Nat.le_refl _) w
    clear hP e hr
    go_enter Try.func13, Try.ntmps13
    go_wp2_with fail
    refine hPm.mono ?_
    rintro e w1 ⟨rfl, rfl⟩
    clear hPm
    go_wp2_with fail
    go_loop [5, 6, 7] (fun c i b => ∃ q k : Nat, c = .int .i64 k ∧ i = .int .i64 (parD dn q).1 ∧ b = .bool (parD dn q).2 ∧ k + depthI dn q = t ∧ q ≤ m) (fun _ i b => match b with | .bool true => (intOf i).toNat + 1 | _ => 0)
    case atStart => exact ⟨m, 0, rfl, rfl, rfl, by omega, Nat.le_refl _⟩
    case round =>
      obtain ⟨q, k, rfl, rfl, rfl, hk, hq⟩ := hrel
      by_cases h0 : 0 < q
      · have hpl := par_lt (d := dn) (by omega) h0
        have hdp := depth_par (d := dn) (by omega) h0
        rw [parD_nat (by omega) (by omega) h0]
        have hPq := hPn (par dn q) (by omega) w
        have e3 : IntKind.i64.wrap ((k : Int) + 1) = ((k + 1 : Nat) : Int) := IntWalk.i64_in _ (by omega)
        clear hPn
        go_wp2_with fail
        refine hPq.mono ?_
        rintro e w1 ⟨rfl, rfl⟩
        go_wp2_with fail
        go_round
        case rel => exact ⟨par dn q, k + 1, rfl, rfl, rfl, by omega, by omega⟩
        case measure =>
          by_cases h1 : 0 < par dn q
          · have h2 := par_lt (d := dn) (by omega) h1
            rw [parD_nat (by omega) (by omega) h1]
            simp [intOf]
            omega
          · have e5 : parD (dn : Int) ((par dn q : Nat) : Int) = (0, false) := by unfold parD; rw [if_neg (by omega)]
            rw [e5]
            exact Nat.succ_pos _
      · have e4 : parD (dn : Int) (q : Int) = (0, false) := by unfold parD; rw [if_neg (by omega)]
        rw [e4]
        have h00 : q = 0 := by omega
        rw [h00, depth_zero] at hk
        have hkt : k = t := by omega
        subst hkt
        clear hPn hk ht h00 e4
        go_wp2_with fail
        go_ret
        exact ⟨rfl, rfl⟩

/-- 'Depth': the document's, which calls itself. -/
theorem refdepth_nat (d : Nat) (hd : 2 ≤ d ∧ d ≤ 16) (m : Nat) : ∀ (w : World), m ≤ 1099511627776 → Calls Try.prog 14 #[.int .i64 d, .int .i64 m] w fun e w' => e = .returned (.int .i64 (depthI d (m - 1) : Nat)) ∧ w = w' := by
  have hR := right_c d
  have hr : rightD (d : Int) = true := rightD_iff.2 (by omega)
  rw [hr] at hR
  induction m using Nat.strongRecOn with
  | _ m ih =>
    intro w hm
    by_cases h : 2 ≤ m
    · have hP := refparent_c d ((m - 1 : Nat) : Int) w (by omega)
      rw [parD_nat hd.1 hd.2 (by omega)] at hP
      have hl := par_lt (d := d) (i := m - 1) (by omega) (by omega)
      have hI := ih (par d (m - 1) + 1) (by omega) w (by omega)
      rw [Nat.add_sub_cancel] at hI
      have hdp := depth_par (d := d) (i := m - 1) (by omega) (by omega)
      have hdl := depth_le (d := d) (by omega) (par d (m - 1))
      have e1 : IntKind.i64.wrap ((m : Int) - 1) = ((m - 1 : Nat) : Int) := by rw [show (m : Int) - 1 = ((m - 1 : Nat) : Int) by omega]; exact IntWalk.i64_in _ (by omega)
      have e2 : IntKind.i64.wrap (((par d (m - 1) : Nat) : Int) + 1) = ((par d (m - 1) + 1 : Nat) : Int) := IntWalk.i64_in _ (by omega)
      have e3 : IntKind.i64.wrap (1 + ((depthI d (par d (m - 1)) : Nat) : Int)) = ((depthI d (par d (m - 1)) + 1 : Nat) : Int) := by rw [IntWalk.i64_in _ (by omega)]; omega
      rw [hdp]
      have h1 : ¬ (m : Int) < 2 := by omega
      have h2 : ¬ (1099511627776 : Int) < m := by omega
      clear ih hdp hdl hl
      generalize hpp : par d (m - 1) = p at *
      generalize depthI d p + 1 = t at *
      generalize depthI d p = t0 at *
      generalize m - 1 = m1 at *
      generalize p + 1 = p1 at *
      clear hpp
      go_enter Try.func14, Try.ntmps14
      go_wp2_with fail
      refine (hR _).mono ?_
      rintro e w1 ⟨rfl, rfl⟩
      go_wp2_with fail
      refine hP.mono ?_
      rintro e w1 ⟨rfl, rfl⟩
      go_wp2_with fail
      refine hI.mono ?_
      rintro e w1 ⟨rfl, rfl⟩
      go_wp2_with fail
      go_ret
      exact ⟨rfl, rfl⟩
    · have e : depthI d (m - 1) = 0 := by rw [show m - 1 = 0 by omega, depth_zero]
      rw [e]
      have h1 : (m : Int) < 2 := by omega
      clear ih
      go_enter Try.func14, Try.ntmps14
      go_wp2_with fail
      refine (hR _).mono ?_
      rintro e w1 ⟨rfl, rfl⟩
      go_wp2_with fail
      go_ret
      exact ⟨rfl, rfl⟩
theorem refdepth_c (d n : Int) (w : World) : Calls Try.prog 14 #[.int .i64 d, .int .i64 n] w fun e w' => e = .returned (.int .i64 (depthD d n)) ∧ w = w' := by
  by_cases hc : rightD d = true ∧ 2 ≤ n ∧ n ≤ 1099511627776
  · obtain ⟨h1, h2⟩ := rightD_iff.1 hc.1
    obtain ⟨dn, rfl⟩ : ∃ dn : Nat, d = dn := ⟨d.toNat, by omega⟩
    obtain ⟨m, rfl⟩ : ∃ m : Nat, n = m := ⟨n.toNat, by omega⟩
    rw [depthD_nat (by omega) (by omega) (by omega)]
    exact refdepth_nat dn (by omega) m w (by omega)
  · have e : depthD d n = 0 := by unfold depthD; rw [if_neg hc]
    rw [e]
    have hR := right_c d
    cases hr : rightD d
    · rw [hr] at hR
      clear hc e
      go_enter Try.func14, Try.ntmps14
      go_wp2_with fail
      refine (hR _).mono ?_
      rintro e w1 ⟨rfl, rfl⟩
      go_wp2_with fail
      go_ret
      exact ⟨rfl, rfl⟩
    · rw [hr] at hR hc
      have hd1 : n < 2 ∨ ¬ n < 2 ∧ 1099511627776 < n := by simp at hc; omega
      clear hc e
      rcases hd1 with h | ⟨h1, h⟩ <;>
      · go_enter Try.func14, Try.ntmps14
        go_wp2_with fail
        refine (hR _).mono ?_
        rintro e w1 ⟨rfl, rfl⟩
        go_wp2_with fail
        go_ret
        exact ⟨rfl, rfl⟩
end Go.Proofs.Ytokpngmfmkfmeaa
