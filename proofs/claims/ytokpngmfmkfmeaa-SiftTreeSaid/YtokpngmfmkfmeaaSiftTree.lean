/- The statement on the tree of places, walked. -/
import Derived.Test.YtokpngmfmkfmeaaSiftWalks
namespace Go.Proofs.Ytokpngmfmkfmeaa
open Go.RowKit Go.Sort

set_option maxRecDepth 100000 in
set_option maxHeartbeats 1000000 in
theorem tree_walk (d i k : Int) (W : World) (_hd : inInt d) (_hi : inInt i) (hk : inInt k) : Calls Try.prog 6 #[.int .i64 d, .int .i64 i, .int .i64 k] W fun e w' => e = .returned (.bool true) ∧ Below W.heap.size W w' := by
  have hAl := alive_c W
  have p7 := right_c d
  cases hr : rightD d
  · rw [hr] at p7
    clear _hd _hi hk hr
    go_enter Try.func6, Try.ntmps6
    go_wp2_with fail
    refine hAl.mono ?_
    rintro e w1 ⟨rfl, hb⟩
    clear hAl
    go_wp2_with fail
    refine (p7 _).mono ?_
    rintro e w2 ⟨rfl, rfl⟩
    go_wp2_with fail
    go_ret
    exact ⟨rfl, hb⟩
  rw [hr] at p7
  by_cases h0 : i < 0
  · clear _hd _hi hk hr
    go_enter Try.func6, Try.ntmps6
    go_wp2_with fail
    refine hAl.mono ?_
    rintro e w1 ⟨rfl, hb⟩
    clear hAl
    go_wp2_with fail
    refine (p7 _).mono ?_
    rintro e w2 ⟨rfl, rfl⟩
    go_wp2_with fail
    go_ret
    exact ⟨rfl, hb⟩
  by_cases h1 : 1073741824 < i
  · clear _hd _hi hk hr
    go_enter Try.func6, Try.ntmps6
    go_wp2_with fail
    refine hAl.mono ?_
    rintro e w1 ⟨rfl, hb⟩
    clear hAl
    go_wp2_with fail
    refine (p7 _).mono ?_
    rintro e w2 ⟨rfl, rfl⟩
    go_wp2_with fail
    go_ret
    exact ⟨rfl, hb⟩
  obtain ⟨hd1, hd2⟩ := rightD_iff.1 hr
  obtain ⟨dn, rfl⟩ : ∃ dn : Nat, d = dn := ⟨d.toNat, by omega⟩
  obtain ⟨m, rfl⟩ : ∃ m : Nat, i = m := ⟨i.toNat, by omega⟩
  have hml : m * dn ≤ 1073741824 * 16 := Nat.mul_le_mul (by omega) (by omega)
  have hC : ∀ (j : Nat), 1 ≤ j → j ≤ dn → ∀ w, Calls Try.prog 10 #[.int .i64 dn, .int .i64 m, .int .i64 j] w fun e w' => e = .returned (.tuple #[.int .i64 ((m * dn + j : Nat) : Int), .bool true]) ∧ w = w' := by
    intro j h1 h2 w
    have h3 := child_c dn m j w
    have e : childD dn m j = (((m * dn + j : Nat) : Int), true) := by
      unfold childD; rw [if_pos ⟨rightD_iff.2 (by omega), by omega, by omega, by omega, by omega⟩]; simp
    rw [e] at h3
    exact h3
  have hP : ∀ (j : Nat), 1 ≤ j → j ≤ dn → ∀ w, Calls Try.prog 8 #[.int .i64 dn, .int .i64 ((m * dn + j : Nat) : Int)] w fun e w' => e = .returned (.tuple #[.int .i64 (m : Int), .bool true]) ∧ w = w' := by
    intro j h1 h2 w
    have h3 := parent_c dn ((m * dn + j : Nat) : Int) w (by omega)
    rw [parD_nat (by omega) (by omega) (by omega), (par_eq (by omega) (by omega)).2 (show dn * m + 1 ≤ m * dn + j ∧ m * dn + j ≤ dn * m + dn by rw [Nat.mul_comm]; omega)] at h3
    exact h3
  have hD : ∀ (c : Nat), c ≤ 1099511627775 → ∀ w, Calls Try.prog 13 #[.int .i64 dn, .int .i64 ((c + 1 : Nat) : Int)] w fun e w' => e = .returned (.int .i64 (depthI dn c : Nat)) ∧ w = w' := by
    intro c hc w
    have h3 := depth_c dn ((c + 1 : Nat) : Int) w
    rw [depthD_nat (by omega) (by omega) (by omega), Nat.add_sub_cancel] at h3
    exact h3
  have hK : ∀ w, ∃ (p : Int) (b : Bool), Calls Try.prog 8 #[.int .i64 dn, .int .i64 k] w (fun e w' => e = .returned (.tuple #[.int .i64 p, .bool b]) ∧ w = w') ∧ (b = true → ((p == (m : Int)) = (decide (((m * dn + 1 : Nat) : Int) ≤ k) && decide (k ≤ ((m * dn + dn : Nat) : Int))))) := by
    intro w
    refine ⟨_, _, parent_c dn k w hk.2, fun hb => ?_⟩
    by_cases hk1 : 1 ≤ k
    · obtain ⟨kn, rfl⟩ : ∃ kn : Nat, k = kn := ⟨k.toNat, by omega⟩
      rw [parD_nat (by omega) (by omega) (by omega)]
      have h := par_eq (d := dn) (by omega) (k := kn) (i := m) (by omega)
      rw [Nat.mul_comm] at h
      rw [Bool.eq_iff_iff]
      simp only [Bool.and_eq_true, decide_eq_true_eq, beq_iff_eq]
      omega
    · unfold parD at hb
      rw [if_neg (by omega)] at hb
      cases hb
  have hdl : depthI dn m ≤ 1073741824 := Nat.le_trans (depth_le (by omega) m) (by omega)
  have hdc : ∀ j, 1 ≤ j → j ≤ dn → depthI dn (m * dn + j) = depthI dn m + 1 := fun j h1 h2 => depth_child (by omega) h1 h2
  clear _hd _hi hk hr
  go_enter Try.func6, Try.ntmps6
  go_wp2_with fail
  refine hAl.mono ?_
  rintro e w1 ⟨rfl, hb⟩
  clear hAl
  go_wp2_with fail
  refine (p7 _).mono ?_
  rintro e w2 ⟨rfl, rfl⟩
  clear p7
  go_wp2_with fail
  go_loopw [7] (fun x wr => ∃ j : Nat, x = .int .i64 j ∧ 1 ≤ j ∧ j ≤ dn + 1 ∧ wr = w1) (fun x _ => dn + 1 - (intOf x).toNat)
  case atStart => exact ⟨1, rfl, by omega, by omega, rfl⟩
  case round =>
    obtain ⟨j, rfl, hj1, hj2, rfl⟩ := hrel
    by_cases hjd : j ≤ dn
    · have hjd' : (j : Int) ≤ dn := by omega
      have q1 := hC j hj1 hjd wr
      have q2 := hP j hj1 hjd wr
      have q3 := hD (m * dn + j) (by omega) wr
      have q4 := hD m (by omega) wr
      rw [hdc j hj1 hjd] at q3
      have e1 : IntKind.i64.wrap (((m * dn + j : Nat) : Int) + 1) = ((m * dn + j + 1 : Nat) : Int) := IntWalk.i64_in _ (by omega)
      have e2 : IntKind.i64.wrap ((m : Int) + 1) = ((m + 1 : Nat) : Int) := IntWalk.i64_in _ (by omega)
      have e3 : IntKind.i64.wrap (((depthI dn m : Nat) : Int) + 1) = ((depthI dn m + 1 : Nat) : Int) := IntWalk.i64_in _ (by omega)
      have e4 : IntKind.i64.wrap ((j : Int) + 1) = ((j + 1 : Nat) : Int) := IntWalk.i64_in _ (by omega)
      have hcm : ¬ (((m * dn + j : Nat) : Int) ≤ m) := by
        have : m * 1 ≤ m * dn := Nat.mul_le_mul_left _ (by omega)
        omega
      clear hC hP hD hK hdc
      generalize m * dn + j = c at *
      generalize depthI dn m + 1 = t1 at *
      generalize depthI dn m = t at *
      generalize c + 1 = c1 at *
      generalize m + 1 = m1 at *
      go_wp2_with fail
      refine q1.mono ?_
      rintro e w2 ⟨rfl, rfl⟩
      go_wp2_with fail
      refine q2.mono ?_
      rintro e w2 ⟨rfl, rfl⟩
      go_wp2_with fail
      refine q3.mono ?_
      rintro e w2 ⟨rfl, rfl⟩
      go_wp2_with fail
      refine q4.mono ?_
      rintro e w2 ⟨rfl, rfl⟩
      go_wp2_with fail
      go_roundw
      case rel => exact ⟨j + 1, rfl, by omega, by omega, trivial⟩
      case measure => simp [intOf]; omega
    · have hjd' : ¬ (j : Int) ≤ dn := by omega
      have q1 : Calls Try.prog 10 #[.int .i64 dn, .int .i64 m, .int .i64 1] wr fun e w' => e = .returned (.tuple #[.int .i64 ((m * dn + 1 : Nat) : Int), .bool true]) ∧ wr = w' := hC 1 (by omega) (by omega) wr
      have q2 := hC dn (by omega) (by omega) wr
      obtain ⟨p, b, q3, hpb⟩ := hK wr
      clear hC hP hD hK hdc
      generalize ((m * dn + 1 : Nat) : Int) = f at *
      generalize ((m * dn + dn : Nat) : Int) = g at *
      have hcase : b = false ∨ b = true ∧ (((p == (m : Int)) = false ∧ decide (f ≤ k) = false) ∨ ((p == (m : Int)) = false ∧ f ≤ k ∧ decide (k ≤ g) = false) ∨ ((p == (m : Int)) = true ∧ f ≤ k ∧ k ≤ g)) := by
        cases b
        · exact Or.inl rfl
        · have h := hpb rfl
          rw [h]
          refine Or.inr ⟨rfl, ?_⟩
          by_cases h1 : f ≤ k <;> by_cases h2 : k ≤ g <;> simp [h1, h2]
      clear hpb
      rcases hcase with rfl | ⟨rfl, ⟨h1, h2⟩ | ⟨h1, h2, h3⟩ | ⟨h1, h2, h3⟩⟩ <;>
      · go_wp2_with fail
        refine q1.mono ?_
        rintro e w2 ⟨rfl, rfl⟩
        go_wp2_with fail
        refine q2.mono ?_
        rintro e w2 ⟨rfl, rfl⟩
        go_wp2_with fail
        refine q3.mono ?_
        rintro e w2 ⟨rfl, rfl⟩
        go_wp2_with fail
        go_ret
        exact ⟨rfl, hb⟩
end Go.Proofs.Ytokpngmfmkfmeaa
