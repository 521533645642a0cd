/- The document's names: what each of its functions returns. -/
import Derived.Test.YtjpehcpkhbfjaaaNamesScene
import Derived.Test.YtjpehcpkhbfjaaaNamesRunsMath
import Derived.Test.YtjpehcpkhbfjaaaSceneRow
namespace Go.Proofs.Ytjpehcpkhbfjaaa
open Go.RowKit Go.Sort

def pairC (p : Nat × Nat) : List Value := [.int .i64 p.1, .int .i64 p.2]
theorem pairC_len (p : Nat × Nat) : (pairC p).length = 2 := rfl
/-- A row of pairs. -/
def PRow (w : World) (B : Nat) (v : Value) (n : Nat) (J : List (Nat × Nat)) : Prop := w.ownsRow B 53 2 v n (cellsBy pairC J) ∧ J.length = n ∧ n ≤ 80
theorem PRow.later {w w' : World} {B : Nat} {v : Value} {n : Nat} {J : List (Nat × Nat)} (h : PRow w B v n J) (hb : Below w.heap.size w w') : PRow w' B v n J := ⟨owns_later h.1 hb, h.2⟩
theorem PRow.form {w : World} {B : Nat} {v : Value} {n : Nat} {J : List (Nat × Nat)} (h : PRow w B v n J) : ∃ a c, v = .slice a n c ∧ n ≤ c ∧ c ≤ 9223372036854775807 := by
  obtain ⟨a, c, h1, h2, h3⟩ := owns_form h.1
  exact ⟨a, c, h1, h2, by unfold maxLen at h3; omega⟩
theorem PRow.cell {w : World} {B : Nat} {a : Option Addr} {c n : Nat} {J : List (Nat × Nat)} (h : PRow w B (.slice a n c) n J) (k : Nat) (hk : k < n) : ∃ g, a = some ⟨g, 0, none⟩ ∧ w.cell? ⟨g, k * 2, none⟩ = some (.int .i64 (J.getD k (0, 0)).1) ∧ w.cell? ⟨g, k * 2 + 1, none⟩ = some (.int .i64 (J.getD k (0, 0)).2) := by
  obtain ⟨g, cap, hv, _, _, _, _, hc, _⟩ := owns_at pairC_len (0, 0) h.1 h.2.1 (by omega)
  cases hv
  exact ⟨g, rfl, hc k 0 _ hk (by omega) rfl, hc k 1 _ hk (by omega) rfl⟩
/-- The document's names as a value. -/
abbrev RV (most last : Nat) (jv : Value) : Value := .agg #[.int .i64 most, .int .i64 last, jv]

theorem refhas_any (B most last : Nat) (hl : last ≤ 65536) (jv : Value) (n : Nat) (J : List (Nat × Nat)) (s : Int) (w : World) (h : PRow w B jv n J) :
    Calls Try.prog 19 #[RV most last jv, .int .i64 s] w fun e w' => e = .returned (.bool (hasJ J last s)) ∧ Below w.heap.size w w' := by
  obtain ⟨a, c, rfl, hc, hm⟩ := h.form
  have hn := h.2.2
  have hlen := Lib.hid h.2.1
  obtain ⟨ans, hans⟩ : ∃ ans, ans = hasJ J last s := ⟨_, rfl⟩
  rw [← hans]
  have HA := Lib.hid hans
  clear hans
  go_enter Try.func19, Try.ntmps19
  go_wp2_with fail
  obtain ⟨W, hW, hbW, x1⟩ : ∃ W : World, W = w.alloc (.cells #[.int .i64 most, .int .i64 last, .slice a n c] 32) ∧ Below w.heap.size w W ∧ Blk W w.heap.size #[.int .i64 most, .int .i64 last, .slice a n c] 32 :=
    ⟨_, rfl, (Below.refl _ _).alloc (Nat.le_refl _) _, blk_new w _ _⟩
  replace h := h.later hbW
  rw [← hW]
  clear hW
  go_loopw [10] (fun i wr => ∃ k : Nat, k ≤ n ∧ i = .int .i64 k ∧ anyJ (J.take k) s = false ∧ Below W.heap.size W wr) (fun i _ => n - (intOf i).toNat)
  case atStart => exact ⟨0, Nat.zero_le _, rfl, by simp [anyJ], Below.refl _ _⟩
  case round =>
    obtain ⟨k, hk, rfl, hno, hb⟩ := hrel
    by_cases hlt : k < n
    · have hki : (k : Int) < n := by omega
      obtain ⟨gq, rfl, a0, a1⟩ := h.cell k hlt
      replace a0 := later hb a0
      replace a1 := later hb a1
      have hs := Lib.hid (take_snocD (0, 0) J k (by rw [hlen.out]; exact hlt))
      obtain ⟨x, hxe⟩ : ∃ x, x = J.getD k (0, 0) := ⟨_, rfl⟩
      rw [← hxe] at a0 a1 hs
      have hx := Lib.hid hxe
      clear hxe
      obtain ⟨x, y⟩ := x
      simp only at a0 a1
      have hb2 := hb.alloc hb.size (.cells #[.int .i64 x, .int .i64 y] 53)
      have HN := Lib.hid hno
      clear hno
      by_cases h1 : (y : Int) = s
      · have HT : Hid (hasJ J last s = false) := Lib.hid (by
          have : anyJ J s = true := by
            unfold anyJ; rw [List.any_eq_true]
            exact ⟨(x, y), by rw [hx.out]; exact mem_getD' _ _ _ (by rw [hlen.out]; exact hlt), by simpa using h1⟩
          simp [hasJ, this])
        subst h1
        go_wp2_with fail
        go_ret
        exact ⟨ret_bool (by rw [HA.out, HT.out]), below_chain hbW hb2⟩
      · have h1' : ((y : Int) == s) = false := by simpa using h1
        have hn2 : Hid (anyJ (J.take (k + 1)) s = false) := Lib.hid (by rw [hs.out, anyJ_snoc, HN.out, h1']; rfl)
        clear h1
        go_wp2_with fail
        go_roundw
        case rel => exact ⟨k + 1, by omega, by go_num, hn2.out, hb2⟩
        case measure => simp [intOf]; omega
    · have hki : ¬ (k : Int) < n := by omega
      have y1 := later_blk hb x1
      have b1 : wr.cell? ⟨w.heap.size, 1, none⟩ = some (.int .i64 last) := blk_cell y1 rfl
      have HT : Hid (hasJ J last s = decide (1 ≤ s ∧ s ≤ last)) := Lib.hid (by rw [List.take_of_length_le (by rw [hlen.out]; omega)] at hno; simp [hasJ, hno])
      clear hno
      by_cases h1 : 1 ≤ s
      · have hd := Lib.hid (show decide (1 ≤ s ∧ s ≤ (last : Int)) = decide (s ≤ last) by congr 1; apply propext; omega)
        go_wp2_with fail
        go_ret
        exact ⟨ret_bool (by rw [HA.out, HT.out, hd.out]), below_chain hbW hb⟩
      · have hd := Lib.hid (show decide (1 ≤ s ∧ s ≤ (last : Int)) = false by simp [h1])
        go_wp2_with fail
        go_ret
        exact ⟨ret_bool (by rw [HA.out, HT.out, hd.out]), below_chain hbW hb⟩

theorem refroot_any (B most last : Nat) (hl : last ≤ 65536) (jv : Value) (n : Nat) (J : List (Nat × Nat)) (s : Int) (w : World) (h : PRow w B jv n J) :
    Calls Try.prog 18 #[RV most last jv, .int .i64 s] w fun e w' => e = .returned (.tuple #[.int .i64 (rootJI J last s), .bool (decide (1 ≤ s ∧ s ≤ (last : Int)))]) ∧ Below w.heap.size w w' := by
  obtain ⟨a, c, rfl, hc, hm⟩ := h.form
  have hn := h.2.2
  have hlen := Lib.hid h.2.1
  by_cases hs : 1 ≤ s ∧ s ≤ (last : Int)
  · obtain ⟨i, rfl⟩ : ∃ i : Nat, s = i := ⟨s.toNat, by omega⟩
    have e1 : rootJI J last i = rootJ J i := by simp only [rootJI, if_pos hs, Int.toNat_natCast]
    have e2 : decide (1 ≤ (i : Int) ∧ (i : Int) ≤ (last : Int)) = true := by simpa using hs
    rw [e1, e2]
    obtain ⟨hs1, hs2⟩ := hs
    clear e1 e2
    go_enter Try.func18, Try.ntmps18
    go_wp2_with fail
    obtain ⟨W, hW, hbW⟩ : ∃ W : World, W = w.alloc (.cells #[.int .i64 most, .int .i64 last, .slice a n c] 32) ∧ Below w.heap.size w W :=
      ⟨_, rfl, (Below.refl _ _).alloc (Nat.le_refl _) _⟩
    replace h := h.later hbW
    rw [← hW]
    clear hW
    go_loopw [1, 19] (fun v t wr => ∃ k : Nat, k ≤ n ∧ t = .int .i64 k ∧ v = .int .i64 (rootJ (J.take k) i) ∧ Below W.heap.size W wr) (fun _ t _ => n - (intOf t).toNat)
    case atStart => exact ⟨0, Nat.zero_le _, rfl, rfl, Below.refl _ _⟩
    case round =>
      obtain ⟨k, hk, rfl, rfl, hb⟩ := hrel
      by_cases hlt : k < n
      · have hki : (k : Int) < n := by omega
        obtain ⟨gq, rfl, a0, a1⟩ := h.cell k hlt
        replace a0 := later hb a0
        replace a1 := later hb a1
        have hs := Lib.hid (take_snocD (0, 0) J k (by rw [hlen.out]; exact hlt))
        generalize J.getD k (0, 0) = x at *
        obtain ⟨x, y⟩ := x
        simp only at a0 a1
        have hb2 := hb.alloc hb.size (.cells #[.int .i64 x, .int .i64 y] 53)
        have hst : Hid (rootJ (J.take (k + 1)) i = if y = rootJ (J.take k) i then x else rootJ (J.take k) i) := Lib.hid (by rw [hs.out, rootJ_snoc]; rfl)
        generalize rootJ (J.take k) i = r at *
        by_cases h1 : y = r
        · subst h1
          go_wp2_with fail
          go_roundw
          case rel => exact ⟨k + 1, by omega, by go_num, by rw [hst.out, if_pos rfl], hb2⟩
          case measure => simp [intOf]; omega
        · have h1' : ((y : Int) == r) = false := by simp; omega
          have HN := Lib.hid h1
          clear h1
          go_wp2_with fail
          go_roundw
          case rel => exact ⟨k + 1, by omega, by go_num, by rw [hst.out, if_neg HN.out], hb2⟩
          case measure => simp [intOf]; omega
      · have hki : ¬ (k : Int) < n := by omega
        have HT : Hid (rootJ (J.take k) i = rootJ J i) := Lib.hid (by rw [List.take_of_length_le (by rw [hlen.out]; omega)])
        rw [HT.out]
        go_wp2_with fail
        go_ret2
        exact ⟨rfl, below_chain hbW hb⟩
  · have e1 : rootJI J last s = 0 := by simp only [rootJI, if_neg hs]
    have e2 : decide (1 ≤ s ∧ s ≤ (last : Int)) = false := by simpa using hs
    rw [e1, e2]
    clear e1 e2
    by_cases hs1 : s < 1
    · clear hs
      go_enter Try.func18, Try.ntmps18
      go_wp2_with fail
      go_ret2
      exact ⟨rfl, (Below.refl _ _).alloc (Nat.le_refl _) _⟩
    · have hs2 : (last : Int) < s := by omega
      clear hs
      go_enter Try.func18, Try.ntmps18
      go_wp2_with fail
      go_ret2
      exact ⟨rfl, (Below.refl _ _).alloc (Nat.le_refl _) _⟩

theorem refcount_any (B most last : Nat) (hl : last ≤ 65536) (jv : Value) (n : Nat) (J : List (Nat × Nat)) (w : World) (h : PRow w B jv n J) :
    Calls Try.prog 20 #[RV most last jv] w fun e w' => e = .returned (.int .i64 ((last : Int) - J.length)) ∧ Below w.heap.size w w' := by
  obtain ⟨a, c, rfl, hc, hm⟩ := h.form
  have hn := h.2.2
  have e1 : IntKind.i64.wrap ((last : Int) - n) = (last : Int) - n := IntWalk.i64_in _ (by omega)
  rw [h.2.1]
  go_enter Try.func20, Try.ntmps20
  go_wp2
  go_ret
  exact ⟨rfl, (Below.refl _ _).alloc (Nat.le_refl _) _⟩

theorem refmake_any (most last : Nat) (hm : most ≤ 255) (a : Option Addr) (n c : Nat) (w : World) :
    Calls Try.prog 14 #[RV most last (.slice a n c)] w fun e w' => e = .returned (.tuple #[RV most (if last < most then last + 1 else last) (.slice a n c), .int .i64 (if last < most then (last : Int) + 1 else 0), .bool (decide (last < most))]) ∧ Below w.heap.size w w' := by
  by_cases hlt : last < most
  · have h1 : ¬ (most : Int) ≤ last := by omega
    rw [if_pos hlt, if_pos hlt, decide_eq_true hlt]
    have e1 : IntKind.i64.wrap ((last : Int) + 1) = (last : Int) + 1 := IntWalk.i64_in _ (by omega)
    clear hlt
    go_enter Try.func14, Try.ntmps14
    go_wp2_with fail
    go_region
    all_goals
      go_wp2_with fail
      exact bodyPost_ret (v := .tuple #[.agg #[.int .i64 most, .int .i64 ((last : Int) + 1), .slice a n c], .int .i64 ((last : Int) + 1), .bool true]) (by simp [results, Try.results14, go_sem]) rfl ⟨rfl, (below_alloc1 ((Below.refl _ _).alloc (Nat.le_refl _) _)).drew⟩
  · have h1 : (most : Int) ≤ last := by omega
    rw [if_neg hlt, if_neg hlt, decide_eq_false hlt]
    clear hlt
    go_enter Try.func14, Try.ntmps14
    go_wp2_with fail
    exact bodyPost_ret (v := .tuple #[.agg #[.int .i64 most, .int .i64 last, .slice a n c], .int .i64 0, .bool false]) (by simp [results, Try.results14, go_sem]) rfl ⟨rfl, below_alloc1 ((Below.refl _ _).alloc (Nat.le_refl _) _)⟩
end Go.Proofs.Ytjpehcpkhbfjaaa
