/- The document's Text of a record; of what was in memory nothing is changed. -/
import Derived.Test.YtokfecbjkngpgaaDoorRec6
import Derived.Test.YtokfecbjkngpgaaDoorEntryRefText
namespace Go.Proofs.YtokfecbjkngpgaaDoor
open Go.RowKit Go.Sort Go.Lib

theorem mark_ref (n : Nat) : (Rec.handle n = true ∧ Rec.hB n = true ∧ bs (markL n) = ⟨#[46]⟩) ∨ (Rec.handle n = false ∧ Rec.hB n = true ∧ bs (markL n) = ⟨#[32]⟩) ∨ (Rec.handle n = false ∧ Rec.hB n = false ∧ bs (markL n) = noS) := by
  cases hB : Rec.hB n
  · exact .inr (.inr ⟨by simp [Rec.handle, hB], rfl, by simp [markL, hB, bs]⟩)
  · by_cases h7 : n = 7
    · subst h7
      exact .inr (.inl ⟨rfl, rfl, rfl⟩)
    · exact .inl ⟨by simp [Rec.handle, hB, h7], rfl, by simp [markL, hB, bs, Rec.mk, h7]⟩
theorem uns_any {a : Int} (h : 0 ≤ a ∧ a < 4294967296) (w : World) : Calls Tryd.prog 31 #[.int .u64 a] w fun e w' => e = .returned (.string (bs (itoa a))) ∧ Below w.heap.size w w' := by
  refine unsigned_int a a.toNat (bs (itoa a)) (by omega) (by omega) (Lib.hid ?_) w
  unfold itoa
  rw [if_neg (by omega)]

set_option maxHeartbeats 4000000 in
set_option maxRecDepth 100000 in
theorem refText_yes (n : Nat) (hn : n ≤ 10) (a b k : Int) (hr : Rec.right ⟨n, a, b, k⟩ = true) (hin : Rec.InR ⟨n, a, b, k⟩) (w : World) :
    Calls Tryd.prog 16 #[recV ⟨n, a, b, k⟩] w fun e w' => e = .returned (.string (bs (Rec.txt ⟨n, a, b, k⟩))) ∧ Below w.heap.size w w' := by
  obtain ⟨i1, i2, i3⟩ := inR_ints hin
  obtain ⟨j1, j2, -⟩ := hin
  simp only at i1 i2 i3 j1 j2
  have hT := Lib.hid (text_eq n a b k hr _ _ _ _ _ rfl rfl rfl rfl rfl)
  have UA := Lib.hid (uns_any j1)
  have UB := Lib.hid (uns_any j2)
  have UK : Hid (∀ (w : World), Calls Tryd.prog 33 #[.int .i64 k] w fun e w' => e = .returned (.string (bs (itoa k))) ∧ Below w.heap.size w w') := Lib.hid (refDigits_any k i3.1 i3.2)
  have l0 := word_sz n hn
  have l1 := itoa_sz i1
  have l3 := itoa_sz i2
  have l4 := itoa_sz i3
  have HR := Lib.hid (refRight_any ⟨n, a, b, k⟩)
  rw [hr] at HR
  have HW := Lib.hid (refWord_in n hn)
  have HA := Lib.hid (refA_in n hn)
  have HB := Lib.hid (refB_in n hn)
  have HH := Lib.hid (refHandle_in n hn)
  have HK := Lib.hid (refK_in n hn)
  have hm := mark_ref n
  generalize bs (Rec.txt ⟨n, a, b, k⟩) = T at *
  generalize bs (Rec.word n) = Wd at *
  generalize bs (itoa a) = A at *
  generalize bs (markL n) = M at *
  generalize bs (itoa b) = B at *
  generalize bs (itoa k) = K at *
  clear hr i1 i2 i3
  have n1 : ¬ 9223372036854775807 < 1 + A.size := by omega
  have n2 : ¬ 9223372036854775807 < Wd.size + (1 + A.size) := by omega
  have n3 : ¬ 9223372036854775807 < 1 + B.size := by omega
  have n4 : ¬ 9223372036854775807 < Wd.size + (1 + A.size) + (1 + B.size) := by omega
  have n5 : ¬ 9223372036854775807 < Wd.size + (1 + B.size) := by omega
  have n6 : ¬ 9223372036854775807 < 1 + K.size := by omega
  have n7 : ¬ 9223372036854775807 < Wd.size + (1 + K.size) := by omega
  have n8 : ¬ 9223372036854775807 < Wd.size + (1 + A.size) + (1 + K.size) := by omega
  have n9 : ¬ 9223372036854775807 < Wd.size + (1 + B.size) + (1 + K.size) := by omega
  have n0 : ¬ 9223372036854775807 < Wd.size + (1 + A.size) + (1 + B.size) + (1 + K.size) := by omega
  clear l0 l1 l3 l4
  have hs := (Stage.start w).alloc #[.int .i64 n, .int .u32 a, .int .u32 b, .int .i64 k] 24
  go_enter Tryd.func16, Tryd.ntmps16
  go_wp2_with fail
  refine (HR.out _).mono ?_
  rintro e w1 ⟨rfl, hb⟩
  replace hs := hs.later hb
  have c0 : w1.cell? ⟨w.heap.size, 0, none⟩ = some (.int .i64 n) := hs.cell 0 rfl rfl
  clear hb
  go_wp2_with fail
  refine (HW.out _).mono ?_
  rintro e w2 ⟨rfl, hb⟩
  replace hs := hs.later hb
  clear hb c0
  have c0 : w2.cell? ⟨w.heap.size, 0, none⟩ = some (.int .i64 n) := hs.cell 0 rfl rfl
  have c1 : w2.cell? ⟨w.heap.size, 1, none⟩ = some (.int .u32 a) := hs.cell 0 rfl rfl
  have c2 : w2.cell? ⟨w.heap.size, 2, none⟩ = some (.int .u32 b) := hs.cell 0 rfl rfl
  have c3 : w2.cell? ⟨w.heap.size, 3, none⟩ = some (.int .i64 k) := hs.cell 0 rfl rfl
  generalize w.heap.size = p at c0 c1 c2 c3 hs ⊢
  cases hA : Rec.hA n <;> cases hK : Rec.hK n <;> rcases hm with ⟨hH, hB, rfl⟩ | ⟨hH, hB, rfl⟩ | ⟨hH, hB, rfl⟩ <;> rw [hA] at HA <;> rw [hB] at HB <;> rw [hK] at HK <;> rw [hH] at HH
  all_goals
    go_wp2_with (first
      | (go_at_call 27; refine (HA.out _).mono ?_; rintro e w' ⟨rfl, rfl⟩)
      | (go_at_call 28; refine (HB.out _).mono ?_; rintro e w' ⟨rfl, rfl⟩)
      | (go_at_call 32; refine (HH.out _).mono ?_; rintro e w' ⟨rfl, rfl⟩)
      | (go_at_call 29; refine (HK.out _).mono ?_; rintro e w' ⟨rfl, rfl⟩)
      | (go_at_call 31; (first | with_reducible refine (UA.out _).mono ?_ | with_reducible refine (UB.out _).mono ?_); rintro e w' ⟨rfl, hb⟩; have hs := hs.later hb; have c0 : w'.cell? ⟨p, 0, none⟩ = some (.int .i64 n) := hs.cell 0 rfl rfl; have c1 : w'.cell? ⟨p, 1, none⟩ = some (.int .u32 a) := hs.cell 0 rfl rfl; have c2 : w'.cell? ⟨p, 2, none⟩ = some (.int .u32 b) := hs.cell 0 rfl rfl; have c3 : w'.cell? ⟨p, 3, none⟩ = some (.int .i64 k) := hs.cell 0 rfl rfl)
      | (go_at_call 33; refine (UK.out _).mono ?_; rintro e w' ⟨rfl, hb⟩; have hs := hs.later hb))
    go_ret
    refine ⟨ret_string ?_, hs.below⟩
    rw [hT.out, hA, hB, hK] <;> simp only [if_true, if_false, app_no, Bool.false_eq_true]
theorem refText_any (r : Rec.R) (hin : Rec.InR r) (w : World) :
    Calls Tryd.prog 16 #[recV r] w fun e w' => e = .returned (.string (bs (Rec.txt r))) ∧ Below w.heap.size w w' := by
  cases hr : Rec.right r with
  | false =>
    have hT : bs (Rec.txt r) = noS := by rw [Rec.txt, hr]; rfl
    have HR := Lib.hid (refRight_any r)
    rw [hr] at HR
    rw [hT]
    clear hr hT hin
    rcases r with ⟨o, a, b, k⟩
    have hs0 := (Stage.start w).alloc #[.int .i64 o, .int .u32 a, .int .u32 b, .int .i64 k] 24
    go_enter Tryd.func16, Tryd.ntmps16
    go_wp2_with fail
    refine (HR.out _).mono ?_
    rintro e w1 ⟨rfl, hb1⟩
    have hs1 := hs0.later hb1
    go_wp2_with fail
    go_ret
    exact ⟨rfl, hs1.below⟩
  | true =>
    have ho := Rec.right_op hr
    rcases r with ⟨o, a, b, k⟩
    simp only at ho
    obtain ⟨n, rfl⟩ : ∃ n : Nat, o = (n : Int) := ⟨o.toNat, by omega⟩
    exact refText_yes n (by omega) a b k hr hin w
end Go.Proofs.YtokfecbjkngpgaaDoor
