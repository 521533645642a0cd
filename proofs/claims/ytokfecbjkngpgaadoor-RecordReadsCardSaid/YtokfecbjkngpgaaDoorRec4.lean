/- Package record's Text, of any record; and the document's Word, A, B, Key and Handle. -/
import Derived.Test.YtokfecbjkngpgaaDoorRec3
namespace Go.Proofs.YtokfecbjkngpgaaDoor
open Go.RowKit Go.Sort Go.Lib

set_option maxRecDepth 100000 in
theorem text_no (r : Rec.R) (hr : Rec.right r = false) (w : World) (h : Shapes w) :
    Calls Tryd.prog 15 #[recV r] w fun e w' => e = .returned (.string (bs (Rec.txt r))) ∧ Below w.heap.size w w' := by
  have hT : bs (Rec.txt r) = noS := by rw [Rec.txt, hr]; rfl
  have HR := Lib.hid (right_any r)
  rw [hr] at HR
  rw [hT]
  clear hr hT
  rcases r with ⟨o, a, b, k⟩
  have hs0 := (Stage.start w).alloc #[.int .i64 o, .int .u32 a, .int .u32 b, .int .i64 k] 24
  have hh0 := h.below hs0.below
  go_enter Tryd.func15, Tryd.ntmps15
  go_wp2_with fail
  refine (HR.out _ hh0).mono ?_
  rintro e w1 ⟨rfl, hb1⟩
  have hs1 := hs0.later hb1
  go_wp2_with fail
  go_ret
  exact ⟨rfl, hs1.below⟩
/-- What a memory must hold for texts. -/
theorem text_any (r : Rec.R) (hin : Rec.InR r) (w : World) (h : Shapes w) (htab : Tab w) :
    Calls Tryd.prog 15 #[recV r] w fun e w' => e = .returned (.string (bs (Rec.txt r))) ∧ Below w.heap.size w w' := by
  cases hr : Rec.right r with
  | false => exact text_no r hr w h
  | true =>
    have ho := Rec.right_op hr
    rcases r with ⟨o, a, b, k⟩
    simp only at ho
    obtain ⟨n, rfl⟩ : ∃ n : Nat, o = (n : Int) := ⟨o.toNat, by omega⟩
    exact text_yes n (by omega) a b k hr hin w h htab

/-! ### The document's -/
theorem ten_cases {n : Nat} (h : n ≤ 10) : n = 0 ∨ n = 1 ∨ n = 2 ∨ n = 3 ∨ n = 4 ∨ n = 5 ∨ n = 6 ∨ n = 7 ∨ n = 8 ∨ n = 9 ∨ n = 10 := by omega
set_option maxRecDepth 100000 in
set_option maxHeartbeats 4000000 in
theorem refWord_in (n : Nat) (hn : n ≤ 10) (w : World) :
    Calls Tryd.prog 26 #[.int .i64 n] w fun e w' => e = .returned (.string (bs (Rec.word n))) ∧ Below w.heap.size w w' := by
  rcases ten_cases hn with rfl | rfl | rfl | rfl | rfl | rfl | rfl | rfl | rfl | rfl | rfl
  all_goals
    go_enter Tryd.func26, Tryd.ntmps26
    go_wp2_with fail
    go_ret
    exact ⟨rfl, (Below.refl _ _).alloc (Nat.le_refl _) _⟩
theorem refWord_out (o : Int) (h : ¬ (0 ≤ o ∧ o ≤ 10)) (w : World) :
    Calls Tryd.prog 26 #[.int .i64 o] w fun e w' => e = .returned (.string noS) ∧ w = w' := by
  by_cases h0 : o < 0
  · go_enter Tryd.func26, Tryd.ntmps26
    go_wp2_with fail
    go_ret
    exact ⟨rfl, rfl⟩
  · have h1 : (10 : Int) < o := by omega
    go_enter Tryd.func26, Tryd.ntmps26
    go_wp2_with fail
    go_ret
    exact ⟨rfl, rfl⟩
theorem refA_in (n : Nat) (hn : n ≤ 10) (w : World) : Calls Tryd.prog 27 #[.int .i64 n] w fun e w' => e = .returned (.bool (Rec.hA n)) ∧ w = w' := by
  rcases ten_cases hn with rfl | rfl | rfl | rfl | rfl | rfl | rfl | rfl | rfl | rfl | rfl
  all_goals
    go_enter Tryd.func27, Tryd.ntmps27
    go_wp2_with fail
    go_ret
    exact ⟨rfl, rfl⟩
theorem refB_in (n : Nat) (hn : n ≤ 10) (w : World) : Calls Tryd.prog 28 #[.int .i64 n] w fun e w' => e = .returned (.bool (Rec.hB n)) ∧ w = w' := by
  rcases ten_cases hn with rfl | rfl | rfl | rfl | rfl | rfl | rfl | rfl | rfl | rfl | rfl
  all_goals
    go_enter Tryd.func28, Tryd.ntmps28
    go_wp2_with fail
    go_ret
    exact ⟨rfl, rfl⟩
theorem refK_in (n : Nat) (hn : n ≤ 10) (w : World) : Calls Tryd.prog 29 #[.int .i64 n] w fun e w' => e = .returned (.bool (Rec.hK n)) ∧ w = w' := by
  rcases ten_cases hn with rfl | rfl | rfl | rfl | rfl | rfl | rfl | rfl | rfl | rfl | rfl
  all_goals
    go_enter Tryd.func29, Tryd.ntmps29
    go_wp2_with fail
    go_ret
    exact ⟨rfl, rfl⟩
theorem refHandle_in (n : Nat) (hn : n ≤ 10) (w : World) : Calls Tryd.prog 32 #[.int .i64 n] w fun e w' => e = .returned (.bool (Rec.handle n)) ∧ w = w' := by
  have HB := Lib.hid (refB_in n hn w)
  rcases ten_cases hn with rfl | rfl | rfl | rfl | rfl | rfl | rfl | rfl | rfl | rfl | rfl
  all_goals
    go_enter Tryd.func32, Tryd.ntmps32
    go_wp2_with fail
    refine HB.out.mono ?_
    rintro e w1 ⟨rfl, rfl⟩
    simp only [Rec.hB]
    go_wp2_with fail
    go_ret
    exact ⟨rfl, rfl⟩
end Go.Proofs.YtokfecbjkngpgaaDoor
