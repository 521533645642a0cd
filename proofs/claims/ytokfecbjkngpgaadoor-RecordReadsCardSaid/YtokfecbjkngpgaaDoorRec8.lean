/- Package record's find: the operation of a word; of what was in memory nothing is changed. -/
import Derived.Test.YtokfecbjkngpgaaDoorRec4
import Derived.LoopTactic
import Derived.Deep.CutBlock
import Derived.Deep.MidRow
namespace Go.Proofs.YtokfecbjkngpgaaDoor
open Go.RowKit Go.Sort Go.Lib

/-- The table's cells, one by one. -/
def tabCells : List Value := (List.range 11).flatMap fun o => [.string (bs (Rec.word o)), .bool (Rec.hA o), .string (bs (markL o)), .bool (Rec.hK o)]
theorem Shapes.at {w : World} (h : Shapes w) (i : Nat) (hi : i < 44) : w.cell? ⟨0, i, none⟩ = tabCells[i]? := by
  obtain ⟨h0, h1, h2, h3⟩ := h (i / 4) (by omega)
  obtain ⟨o, r, rfl, hr, ho⟩ : ∃ o r, i = o * 4 + r ∧ r < 4 ∧ o ≤ 10 := ⟨i / 4, i % 4, by omega, by omega, by omega⟩
  have e : (o * 4 + r) / 4 = o := by omega
  rw [e] at h0 h1 h2 h3
  have hr' : r = 0 ∨ r = 1 ∨ r = 2 ∨ r = 3 := by omega
  rcases ten_cases ho with rfl | rfl | rfl | rfl | rfl | rfl | rfl | rfl | rfl | rfl | rfl <;> rcases hr' with rfl | rfl | rfl | rfl <;> first | exact h0 | exact h1 | exact h2 | exact h3

theorem findW_some {l : List UInt8} {k : Nat} (hk : k ≤ 10) (h : Rec.word k = l) (hno : ∀ i, i < k → Rec.word i ≠ l) : Rec.findW l = some k := by
  unfold Rec.findW
  rw [List.find?_range_eq_some]
  exact ⟨by simpa using h, by simp; omega, fun j hj => by simpa using hno j hj⟩
theorem findW_none {l : List UInt8} (hno : ∀ i, i < 11 → Rec.word i ≠ l) : Rec.findW l = none := by
  unfold Rec.findW
  rw [List.find?_range_eq_none]
  exact fun j hj => by simpa using hno j hj
theorem bs_list (l : List UInt8) : (bs l).data.toList = l := rfl
theorem bs_ext {a : ByteArray} {l : List UInt8} (h : l = a.data.toList) : bs l = a := by subst h; rfl
/-- The shape of a number, out of the table's value. -/
theorem shape_at (n : Nat) (hn : n ≤ 10) (W : World) : (Instr.index 49 (.agg tabCells.toArray) (.int .i64 n)).run Tryd.prog W = .ok (.agg #[.string (bs (Rec.word n)), .bool (Rec.hA n), .string (bs (markL n)), .bool (Rec.hK n)]) W := by
  rcases ten_cases hn with rfl | rfl | rfl | rfl | rfl | rfl | rfl | rfl | rfl | rfl | rfl <;> kernel_rfl

/-- An element of a value that is a row, where what it is is known. -/
theorem wpList_index_of {P : Program} {ops : Array Oper} {rest : List Oper} {op : Oper} {a : Act} {w : World} {Q : Exit → Act → World → Prop} (hgd : op.guard = none) (t : TypeId) (x i : Operand) (ho : op.op = .index t x i)
    (u z v : Value) (hx : a.eval x = u) (hz : a.eval i = z) (hr : (Instr.index t u z).run P w = .ok v w) (h : wpList P ops Q rest (a.put op.dst v) w) : wpList P ops Q (op :: rest) a w :=
  wpList_plain hgd fun _ hK => by
    unfold Oper.wp execOp
    simp only [ho, hx, hz]
    simp only [Sem.run_bind, hr, Result.andThen_ok]
    exact hK _ _ h
set_option maxHeartbeats 2000000 in
set_option maxRecDepth 100000 in
theorem find_any (s : ByteArray) (w : World) (h : Shapes w) :
    Calls Tryd.prog 24 #[.string s] w fun e w' => e = .returned (.tuple #[.int .i64 (((Rec.findW s.data.toList).getD 0 : Nat) : Int), .bool (Rec.findW s.data.toList).isSome]) ∧ Below w.heap.size w w' := by
  have hR0 : w.rangeAt 0 0 tabCells := fun j v hv => by
    have hj : j < 44 := by
      have := (List.getElem?_eq_some_iff.1 hv).1
      have e : tabCells.length = 44 := by kernel_rfl
      omega
    rw [Nat.zero_add, h.at j hj]
    exact hv
  have hsz : (Tryd.prog.info? 49).map (·.size) = some tabCells.length := by kernel_rfl
  have hix := Lib.hid shape_at
  generalize hTC : tabCells.toArray = TC at *
  have hTC' := Lib.hid hTC
  clear hTC
  have hyes : ∀ k, k ≤ 10 → Rec.word k = s.data.toList → (∀ i, i < k → Rec.word i ≠ s.data.toList) → Rec.findW s.data.toList = some k := fun k h1 h2 h3 => findW_some h1 h2 h3
  have hnone := @findW_none s.data.toList
  have HY := Lib.hid hyes
  have HN := Lib.hid hnone
  clear hyes hnone
  generalize Rec.findW s.data.toList = R at *
  clear h
  go_enter Tryd.func24, Tryd.ntmps24
  go_wp2_with (refine wpList_load_mid rfl 49 (.global 0) rfl _ 0 rfl tabCells _ hR0 Tryd.underlying49 (by kernel_rfl) hsz ?_; rw [hTC'.out])
  clear hTC' hR0 hsz
  go_loopw [7] (fun i wr => ∃ k : Nat, i = .int .i64 k ∧ k ≤ 11 ∧ Hid (∀ i, i < k → Rec.word i ≠ s.data.toList) ∧ Below w.heap.size w wr) (fun i _ => 11 - (RowKit.intOf i).toNat)
  case atStart => exact ⟨0, rfl, by omega, Lib.hid (fun i hi => absurd hi (Nat.not_lt_zero _)), Below.refl _ _⟩
  case round =>
    obtain ⟨k, rfl, hk, hno, hb⟩ := hrel
    by_cases hk11 : k < 11
    · have hki : (k : Int) < 11 := by omega
      have hx := Lib.hid (hix.out k (by omega))
      by_cases e : Rec.word k = s.data.toList
      · have hR := HY.out k (by omega) e hno.out
        obtain rfl := bs_ext e
        subst hR
        clear HY HN hno e hix
        generalize bs (Rec.word k) = S at *
        go_wp2_with (refine wpList_index_of rfl 49 _ _ rfl _ _ _ rfl rfl (hx.out _) ?_)
        go_ret2
        exact ⟨rfl, hb.alloc hb.size _⟩
      · have e1 : ¬ (bs (Rec.word k)).toList = s.toList := fun x => e (by rw [ByteArray.toList_eq, ByteArray.toList_eq] at x; exact x)
        have e2 : ((bs (Rec.word k)).toList == s.toList) = false := by simpa using e1
        have hno2 : ∀ i, i < k + 1 → Rec.word i ≠ s.data.toList := fun i hi => by
          by_cases e2 : i = k
          · rw [e2]; exact e
          · exact hno.out i (by omega)
        have HO := Lib.hid hno2
        clear HY HN hno e hix hno2
        generalize bs (Rec.word k) = S at *
        go_wp2_with (refine wpList_index_of rfl 49 _ _ rfl _ _ _ rfl rfl (hx.out _) ?_)
        go_roundw
        case rel => exact ⟨k + 1, by go_num, by omega, HO, hb.alloc hb.size _⟩
        case measure => simp [RowKit.intOf]; omega
    · obtain rfl : k = 11 := by omega
      have hR := HN.out hno.out
      subst hR
      clear HY HN hno hix
      go_wp2_with fail
      go_ret2
      exact ⟨rfl, hb⟩
end Go.Proofs.YtokfecbjkngpgaaDoor
