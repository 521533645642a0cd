/- New, At, and the slot that goes out next. -/
import Derived.Test.YtahpalfdeghdmaaArena2
namespace Go.Proofs.Ytahpalfdeghdmaa
open Go.RowKit Go.Sort

def Hnd (s : Int) (g : Int) : Value := .agg #[.int .i64 s, .int .u32 g]
/-- At's answer. -/
def atV (A : AS) (s : Int) : Value :=
  if hasB s A.used.length && (A.used.getD s.toNat (0, false)).2 then .tuple #[Hnd s (A.used.getD s.toNat (0, false)).1, .bool true] else .tuple #[Hnd 0 0, .bool false]
theorem at_any (B p : Nat) (uv wv : Value) (A : AS) (hA : A.Fit) (s : Int) (w : World) (h : ArAt w B p uv wv A) :
    Calls Try.prog 16 #[.pointer (some ⟨p, 0, none⟩), .int .i64 s] w fun e w' => e = .returned (atV A s) ∧ Below w.heap.size w w' := by
  have c2 := h.c2
  have hp := blk_lt h.blk
  cases hh : hasB s A.used.length
  · obtain ⟨a, c, rfl, hc, hm⟩ := owns_form h.used
    have hl : atV A s = .tuple #[.agg #[.int .i64 0, .int .u32 0], .bool false] := by simp [atV, hh, Hnd]
    rw [hl]
    have HH := Lib.hid hh
    clear hh hl
    go_enter Try.func16, Try.ntmps16
    go_wp2_with fail
    refine (has_at (h.alloc _) s).mono ?_
    rintro e w' ⟨rfl, rfl⟩
    rw [HH.out]
    go_wp2
    exact bodyPost_ret (v := .tuple #[.agg #[.int .i64 0, .int .u32 0], .bool false]) (by simp [results, Try.results16, go_sem]) rfl ⟨rfl, (Below.refl _ _).alloc (Nat.le_refl _) _⟩
  · have hi : s.toNat < A.used.length := by simp [hasB] at hh; omega
    obtain ⟨i, rfl⟩ : ∃ i : Nat, s = i := ⟨s.toNat, by simp [hasB] at hh; omega⟩
    simp only [Int.toNat_natCast] at hi
    have hcap := hA.used
    have hcap2 := hA.cap
    obtain ⟨b, c, hv, hc, hm, _, hb, hcell⟩ := owns_slice h.used (by omega)
    subst hv
    have hg := cellsU_get A.used i hi
    have a0 := hcell _ _ hg.1
    have a1 := hcell _ _ hg.2
    have HH := Lib.hid hh
    have HL : Hid (atV A i = if (A.used.getD i (0, false)).2 then .tuple #[Hnd i (A.used.getD i (0, false)).1, .bool true] else .tuple #[Hnd 0 0, .bool false]) := Lib.hid (by simp [atV, hh])
    generalize atV A i = lb at *
    clear hh hcell hg
    generalize (A.used.getD i (0, false)).1 = x at *
    generalize (A.used.getD i (0, false)).2 = y at *
    cases y
    · obtain rfl : lb = .tuple #[.agg #[.int .i64 0, .int .u32 0], .bool false] := HL.out
      go_enter Try.func16, Try.ntmps16
      go_wp2_with fail
      refine (has_at (h.alloc _) i).mono ?_
      rintro e w' ⟨rfl, rfl⟩
      rw [HH.out]
      go_wp2
      exact bodyPost_ret (v := .tuple #[.agg #[.int .i64 0, .int .u32 0], .bool false]) (by simp [results, Try.results16, go_sem]) rfl ⟨rfl, (Below.refl _ _).alloc (Nat.le_refl _) _⟩
    · obtain rfl : lb = .tuple #[.agg #[.int .i64 i, .int .u32 x], .bool true] := HL.out
      go_enter Try.func16, Try.ntmps16
      go_wp2_with fail
      refine (has_at (h.alloc _) i).mono ?_
      rintro e w' ⟨rfl, rfl⟩
      rw [HH.out]
      go_wp2
      exact bodyPost_ret (v := .tuple #[.agg #[.int .i64 i, .int .u32 x], .bool true]) (by simp [results, Try.results16, go_sem]) rfl ⟨rfl, (Below.refl _ _).alloc (Nat.le_refl _) _⟩
theorem new_any (n m : Int) (w : World) (hn : ¬ (0 ≤ n ∧ n ≤ 65536 ∧ m ≠ 0)) :
    Calls Try.prog 8 #[.int .i64 n, .int .u32 m] w fun e w' => e = .returned (.tuple #[.pointer none, .int .i64 31]) ∧ w = w' := by
  go_enter Try.func8, Try.ntmps8
  go_wp2
  all_goals first
  | (go_ret2; exact ⟨rfl, rfl⟩)
  | (exfalso; apply hn; simp_all; try omega)
theorem new_ok (B n m : Nat) (w : World) (hn : n ≤ 65536) (hm : 1 ≤ m ∧ m ≤ 4294967295) (hB : B ≤ w.heap.size) :
    Calls Try.prog 8 #[.int .i64 n, .int .u32 m] w fun e w' => e = .returned (.tuple #[.pointer (some ⟨w.heap.size, 0, none⟩), .int .i64 0]) ∧ ArAt w' B w.heap.size (.slice none 0 0) (.slice none 0 0) ⟨n, m, [], [], 0⟩ ∧ Below w.heap.size w w' := by
  obtain ⟨hm1, hm2⟩ := hm
  have hm0 : ((m : Int) == 0) = false := by simp; omega
  go_enter Try.func8, Try.ntmps8
  go_wp2
  go_ret2
  refine ⟨rfl, ⟨?_, World.ownsRow_nil _ _ _ _, World.ownsRow_nil _ _ _ _, hB, by simp [rowF, Value.ownBlock], by simp [rowF, Value.ownBlock]⟩, (Below.refl _ _).alloc (Nat.le_refl _) _⟩
  exact blk_new w _ _
end Go.Proofs.Ytahpalfdeghdmaa
