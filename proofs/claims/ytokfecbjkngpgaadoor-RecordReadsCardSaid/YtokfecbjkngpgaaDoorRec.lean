/- Package record's table of shapes, and its Clean, Right and Text: for every record, in every memory that holds the table; of what was in memory nothing is changed. -/
import Derived.Test.YtokfecbjkngpgaaDoorEntryRead
import Derived.Test.YtokfecbjkngpgaaDoorRecMath
import Derived.Test.YtokfecbjkngpgaaDoorStageFrame
import Derived.BigQuiet
import Derived.Lib.QuietBelow
namespace Go.Proofs.YtokfecbjkngpgaaDoor
open Go.RowKit Go.Sort Go.Lib

abbrev recV (r : Rec.R) : Value := .agg #[.int .i64 r.op, .int .u32 r.a, .int .u32 r.b, .int .i64 r.key]
abbrev bs (l : List UInt8) : ByteArray := ⟨l.toArray⟩
def markL (o : Nat) : List UInt8 := if Rec.hB o then [Rec.mk o] else []
/-- The table of shapes, as the program's text lays it. -/
def Shapes (w : World) : Prop := ∀ o : Nat, o ≤ 10 → w.cell? ⟨0, o * 4, none⟩ = some (.string (bs (Rec.word o))) ∧ w.cell? ⟨0, o * 4 + 1, none⟩ = some (.bool (Rec.hA o)) ∧
  w.cell? ⟨0, o * 4 + 2, none⟩ = some (.string (bs (markL o))) ∧ w.cell? ⟨0, o * 4 + 3, none⟩ = some (.bool (Rec.hK o))
theorem Shapes.below {w w' : World} (h : Shapes w) (hb : Below w.heap.size w w') : Shapes w' := fun o ho => by
  obtain ⟨h0, h1, h2, h3⟩ := h o ho
  exact ⟨by rw [hb.cell (block_lt_of_cell h0)]; exact h0, by rw [hb.cell (block_lt_of_cell h1)]; exact h1, by rw [hb.cell (block_lt_of_cell h2)]; exact h2, by rw [hb.cell (block_lt_of_cell h3)]; exact h3⟩

theorem clean_in {n : Nat} (hn : n ≤ 10) (a b k : Int) : Rec.clean ⟨n, a, b, k⟩ = ⟨n, if Rec.hA n then a else 0, if Rec.hB n then b else 0, if Rec.hK n then k else 0⟩ := by
  rw [Rec.clean, if_pos (by simp only; omega)]
  simp [Rec.cleanN]
theorem clean_out {o : Int} (h : ¬ (0 ≤ o ∧ o ≤ 10)) (a b k : Int) : Rec.clean ⟨o, a, b, k⟩ = ⟨0, 0, 0, 0⟩ := by
  rw [Rec.clean, if_neg h]
  rfl
abbrev noS : ByteArray := ⟨#[]⟩
theorem mark_or (n : Nat) : (Rec.hB n = false ∧ bs (markL n) = noS) ∨ (Rec.hB n = true ∧ (bs (markL n)).toList.isEmpty = false) := by
  cases h : Rec.hB n
  · exact .inl ⟨rfl, by simp [markL, h, bs]⟩
  · exact .inr ⟨rfl, by rw [ByteArray.toList_eq]; simp [markL, h]⟩

set_option maxHeartbeats 2000000 in
set_option maxRecDepth 100000 in
theorem clean_any (r : Rec.R) (w : World) (h : Shapes w) :
    Calls Tryd.prog 13 #[recV r] w fun e w' => e = .returned (recV (Rec.clean r)) ∧ Below w.heap.size w w' := by
  rcases r with ⟨o, a, b, k⟩
  by_cases ho : 0 ≤ o ∧ o ≤ 10
  · obtain ⟨n, rfl⟩ : ∃ n : Nat, o = (n : Int) := ⟨o.toNat, by omega⟩
    obtain ⟨h0, h1, h2, h3⟩ := h n (by omega)
    have hE := Lib.hid (clean_in (show n ≤ 10 by omega) a b k)
    have hlt := block_lt_of_cell h0
    have hm0 := mark_or n
    generalize bs (markL n) = M at *
    generalize bs (Rec.word n) = Wd at *
    generalize Rec.clean ⟨(n : Int), a, b, k⟩ = c at *
    have g1 : ¬ ((n : Int) < 0) := by omega
    have g2 : ¬ (11 ≤ (n : Int)) := by omega
    have g3 : (n : Int) < 11 := by omega
    have g4 : (0 : Int) ≤ (n : Int) := by omega
    cases hA : Rec.hA n <;> cases hK : Rec.hK n <;> rw [hA] at h1 <;> rw [hK] at h3 <;> rcases hm0 with ⟨hB, rfl⟩ | ⟨hB, hm⟩
    all_goals
      go_enter Tryd.func13, Tryd.ntmps13
      go_wp2_with fail
      refine bodyPost_ret (v := recV c) (by rw [hE.out]; simp [results, Tryd.results13, go_sem, hA, hB, hK]) rfl ⟨rfl, ?_⟩
      exact (((Below.refl _ _).alloc (Nat.le_refl _) _).alloc (by simp) _).alloc (by simp; omega) _
  · have hE := Lib.hid (clean_out ho a b k)
    generalize Rec.clean ⟨o, a, b, k⟩ = c at *
    by_cases h0 : o < 0
    · go_enter Tryd.func13, Tryd.ntmps13
      go_wp2_with fail
      refine bodyPost_ret (v := recV c) (by rw [hE.out]; simp [results, Tryd.results13, go_sem]) rfl ⟨rfl, ?_⟩
      exact ((Below.refl _ _).alloc (Nat.le_refl _) _).alloc (by simp) _
    · have g1 : (11 : Int) ≤ o := by omega
      go_enter Tryd.func13, Tryd.ntmps13
      go_wp2_with fail
      refine bodyPost_ret (v := recV c) (by rw [hE.out]; simp [results, Tryd.results13, go_sem]) rfl ⟨rfl, ?_⟩
      exact ((Below.refl _ _).alloc (Nat.le_refl _) _).alloc (by simp) _
end Go.Proofs.YtokfecbjkngpgaaDoor
