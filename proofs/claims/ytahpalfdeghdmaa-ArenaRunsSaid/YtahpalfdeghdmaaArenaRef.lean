/- The document's arena: what its functions that only ask return, for every history. -/
import Derived.Test.YtahpalfdeghdmaaArenaOnce
import Derived.Test.YtahpalfdeghdmaaArenaRunsMath
namespace Go.Proofs.Ytahpalfdeghdmaa
open Go.RowKit Go.Sort

theorem take_snocH (l : List (Nat × Nat)) (k : Nat) (h : k < l.length) : l.take (k + 1) = l.take k ++ [l.getD k (0, 0)] := by
  rw [List.take_succ_eq_append_getElem h]; simp [List.getD_eq_getElem?_getD, h]
/-- A row of handles. -/
def HRow (w : World) (B : Nat) (v : Value) (n : Nat) (l : List (Nat × Nat)) : Prop := w.ownsRow B 30 2 v n (cellsH l) ∧ l.length = n ∧ n ≤ 60
theorem HRow.later {w w' : World} {B : Nat} {v : Value} {n : Nat} {l : List (Nat × Nat)} (h : HRow w B v n l) (hb : Below w.heap.size w w') : HRow w' B v n l := ⟨owns_later h.1 hb, h.2⟩
theorem HRow.alloc {w : World} {B : Nat} {v : Value} {n : Nat} {l : List (Nat × Nat)} (h : HRow w B v n l) (o : Obj) : HRow (w.alloc o) B v n l := ⟨h.1.alloc o, h.2⟩
theorem HRow.form {w : World} {B : Nat} {v : Value} {n : Nat} {l : List (Nat × Nat)} (h : HRow w B v n l) : ∃ a c, v = .slice a n c ∧ n ≤ c ∧ c ≤ 9223372036854775807 := by
  obtain ⟨a, c, h1, h2, h3⟩ := owns_form h.1
  exact ⟨a, c, h1, h2, by unfold maxLen at h3; omega⟩
theorem HRow.cell {w : World} {B : Nat} {a : Option Addr} {c n : Nat} {l : List (Nat × Nat)} (h : HRow w B (.slice a n c) n l) (k : Nat) (hk : k < n) : ∃ g, a = some ⟨g, 0, none⟩ ∧ w.cell? ⟨g, k * 2, none⟩ = some (.int .i64 (l.getD k (0, 0)).1) ∧ w.cell? ⟨g, k * 2 + 1, none⟩ = some (.int .u32 (l.getD k (0, 0)).2) := by
  obtain ⟨gq, cq, hv, _, _, _, _, hcell⟩ := owns_slice h.1 (by omega)
  cases hv
  have hg2 := cellsH_get l k (by rw [h.2.1]; exact hk)
  exact ⟨gq, rfl, hcell _ _ hg2.1, hcell _ _ hg2.2⟩

theorem hasref_any (B : Nat) (v : Value) (n : Nat) (l : List (Nat × Nat)) (s g : Int) (w : World) (h : HRow w B v n l) :
    Calls Try.prog 28 #[v, .agg #[.int .i64 s, .int .u32 g]] w fun e w' => e = .returned (.bool (hasH l s g)) ∧ Below w.heap.size w w' := by
  obtain ⟨a, c, rfl, hc, hm⟩ := h.form
  have hn := h.2.2
  have hlen := Lib.hid h.2.1
  obtain ⟨ans, hans⟩ : ∃ ans, ans = hasH l s g := ⟨_, rfl⟩
  rw [← hans]
  have HA := Lib.hid hans
  clear hans
  go_enter Try.func28, Try.ntmps28
  go_wp2_with fail
  obtain ⟨W, b0, b1, hW, hbW⟩ : ∃ W : World, W.cell? ⟨w.heap.size, 0, none⟩ = some (.int .i64 s) ∧ W.cell? ⟨w.heap.size, 1, none⟩ = some (.int .u32 g) ∧ W = w.alloc (.cells #[.int .i64 s, .int .u32 g] 30) ∧ Below w.heap.size w W := ⟨_, by go_simp, by go_simp, rfl, (Below.refl _ _).alloc (Nat.le_refl _) _⟩
  replace h := h.later hbW
  rw [← hW]
  clear hW
  go_loopw [9] (fun i wr => ∃ k : Nat, k ≤ n ∧ i = .int .i64 k ∧ hasH (l.take k) s g = false ∧ Below W.heap.size W wr) (fun i _ => n - (intOf i).toNat)
  case atStart => exact ⟨0, Nat.zero_le _, rfl, by simp [hasH], Below.refl _ _⟩
  case round =>
    obtain ⟨k, hk, rfl, hno, hb⟩ := hrel
    have p0 := later hb b0
    have p1 := later hb b1
    have hl0 : w.heap.size < wr.heap.size := block_lt_of_cell p0
    have HN := Lib.hid hno
    clear hno
    by_cases hlt : k < n
    · have hki : (k : Int) < n := by omega
      obtain ⟨gq, rfl, a0, a1⟩ := h.cell k hlt
      replace a0 := later hb a0
      replace a1 := later hb a1
      have hs := Lib.hid (take_snocH l k (by rw [hlen.out]; exact hlt))
      have hx := Lib.hid (mem_getD l k (0, 0) (by rw [hlen.out]; exact hlt))
      obtain ⟨x, hxe⟩ : ∃ x, x = l.getD k (0, 0) := ⟨_, rfl⟩
      rw [← hxe] at a0 a1 hs hx
      clear hxe
      obtain ⟨x, y⟩ := x
      simp only at a0 a1
      have hb2 := hb.alloc hb.size (.cells #[.int .i64 x, .int .u32 y] 30)
      by_cases h1 : (x : Int) = s
      · subst h1
        by_cases h2 : (y : Int) = g
        · subst h2
          have HT : Hid (hasH l x y = true) := Lib.hid ((hasH_mem l x y).2 hx.out)
          go_wp2_with fail
          go_ret
          exact ⟨ret_bool (by rw [HA.out, HT.out]), below_chain hbW hb2⟩
        · have h2' : ((y : Int) == g) = false := by simpa using h2
          have hn2 : Hid (hasH (l.take (k + 1)) x g = false) := Lib.hid (by rw [hs.out, hasH_snoc, HN.out, h2']; simp)
          clear h2
          go_wp2_with fail
          go_roundw
          case rel => exact ⟨k + 1, by omega, by go_num, hn2.out, hb2⟩
          case measure => simp [intOf]; omega
      · have h1' : ((x : Int) == s) = false := by simpa using h1
        have hn2 : Hid (hasH (l.take (k + 1)) s g = false) := Lib.hid (by rw [hs.out, hasH_snoc, HN.out, h1']; simp)
        clear h1
        go_wp2_with fail
        go_roundw
        case rel => exact ⟨k + 1, by omega, by go_num, hn2.out, hb2⟩
        case measure => simp [intOf]; omega
    · have hki : ¬ (k : Int) < n := by omega
      have HT : Hid (hasH l s g = false) := Lib.hid (by have := HN.out; rwa [List.take_of_length_le (by rw [hlen.out]; omega)] at this)
      go_wp2_with fail
      go_ret
      exact ⟨ret_bool (by rw [HA.out, HT.out]), below_chain hbW hb⟩

/-- The document's arena as a value, and its rows. -/
abbrev RV (cap most : Nat) (tv gv : Value) : Value := .agg #[.int .i64 cap, .int .u32 most, tv, gv]
theorem last_any (B cap most : Nat) (tv gv : Value) (n : Nat) (l : List (Nat × Nat)) (s : Int) (w : World) (h : HRow w B tv n l) :
    Calls Try.prog 27 #[RV cap most tv gv, .int .i64 s] w fun e w' => e = .returned (.int .u32 (lastH l s)) ∧ Below w.heap.size w w' := by
  obtain ⟨a, c, rfl, hc, hm⟩ := h.form
  have hn := h.2.2
  have hlen := Lib.hid h.2.1
  go_enter Try.func27, Try.ntmps27
  go_wp2_with fail
  obtain ⟨W, hW, hbW⟩ : ∃ W : World, W = w.alloc (.cells #[.int .i64 cap, .int .u32 most, .slice a n c, gv] 34) ∧ Below w.heap.size w W := ⟨_, rfl, (Below.refl _ _).alloc (Nat.le_refl _) _⟩
  replace h := h.later hbW
  rw [← hW]
  clear hW
  go_loopw [5, 11] (fun v i wr => ∃ k : Nat, k ≤ n ∧ i = .int .i64 k ∧ v = .int .u32 (lastH (l.take k) s) ∧ Below W.heap.size W wr) (fun _ i _ => n - (intOf i).toNat)
  case atStart => exact ⟨0, Nat.zero_le _, rfl, rfl, Below.refl _ _⟩
  case round =>
    obtain ⟨k, hk, rfl, rfl, hb⟩ := hrel
    by_cases hlt : k < n
    · have hki : (k : Int) < n := by omega
      obtain ⟨gq, rfl, a0, a1⟩ := h.cell k hlt
      replace a0 := later hb a0
      replace a1 := later hb a1
      have hs : Hid (lastH (l.take (k + 1)) s = if ((l.getD k (0, 0)).1 : Int) = s then (l.getD k (0, 0)).2 else lastH (l.take k) s) := Lib.hid (by rw [take_snocH l k (by rw [hlen.out]; exact hlt), lastH_snoc])
      generalize (l.getD k (0, 0)).1 = x at *
      generalize (l.getD k (0, 0)).2 = y at *
      generalize lastH (l.take k) s = z at *
      have hb2 := hb.alloc hb.size (.cells #[.int .i64 x, .int .u32 y] 30)
      by_cases h1 : (x : Int) = s
      · subst h1
        go_wp2_with fail
        go_roundw
        case rel => exact ⟨k + 1, by omega, by go_num, by rw [hs.out, if_pos rfl], hb2⟩
        case measure => simp [intOf]; omega
      · have h1' : ((x : Int) == s) = false := by simpa using h1
        have hz := Lib.hid h1
        clear h1
        go_wp2_with fail
        go_roundw
        case rel => exact ⟨k + 1, by omega, by go_num, by rw [hs.out, if_neg hz.out], hb2⟩
        case measure => simp [intOf]; omega
    · have hki : ¬ (k : Int) < n := by omega
      have HT : Hid (lastH (l.take k) s = lastH l s) := Lib.hid (by rw [List.take_of_length_le (by rw [hlen.out]; omega)])
      rw [HT.out]
      go_wp2_with fail
      go_ret
      exact ⟨rfl, below_chain hbW hb⟩

theorem fresh_any (B cap most : Nat) (tv gv : Value) (n : Nat) (l : List (Nat × Nat)) (w : World) (h : HRow w B tv n l) :
    Calls Try.prog 26 #[RV cap most tv gv] w fun e w' => e = .returned (.int .i64 (freshH l)) ∧ Below w.heap.size w w' := by
  obtain ⟨a, c, rfl, hc, hm⟩ := h.form
  have hn := h.2.2
  have hlen := Lib.hid h.2.1
  go_enter Try.func26, Try.ntmps26
  go_wp2_with fail
  obtain ⟨W, hW, hbW⟩ : ∃ W : World, W = w.alloc (.cells #[.int .i64 cap, .int .u32 most, .slice a n c, gv] 34) ∧ Below w.heap.size w W := ⟨_, rfl, (Below.refl _ _).alloc (Nat.le_refl _) _⟩
  replace h := h.later hbW
  rw [← hW]
  clear hW
  go_loopw [3, 9] (fun v i wr => ∃ k : Nat, k ≤ n ∧ i = .int .i64 k ∧ v = .int .i64 (freshH (l.take k)) ∧ freshH (l.take k) ≤ k ∧ Below W.heap.size W wr) (fun _ i _ => n - (intOf i).toNat)
  case atStart => exact ⟨0, Nat.zero_le _, rfl, rfl, Nat.le_refl _, Below.refl _ _⟩
  case round =>
    obtain ⟨k, hk, rfl, rfl, hfk, hb⟩ := hrel
    by_cases hlt : k < n
    · have hki : (k : Int) < n := by omega
      obtain ⟨gq, rfl, a0, a1⟩ := h.cell k hlt
      replace a0 := later hb a0
      replace a1 := later hb a1
      have hs : Hid (freshH (l.take (k + 1)) = freshH (l.take k) + if (l.getD k (0, 0)).2 = 1 then 1 else 0) := Lib.hid (by rw [take_snocH l k (by rw [hlen.out]; exact hlt), freshH_snoc])
      generalize (l.getD k (0, 0)).1 = x at *
      generalize (l.getD k (0, 0)).2 = y at *
      generalize freshH (l.take k) = z at *
      have hb2 := hb.alloc hb.size (.cells #[.int .i64 x, .int .u32 y] 30)
      by_cases h1 : y = 1
      · subst h1
        go_wp2_with fail
        go_roundw
        case rel => exact ⟨k + 1, by omega, by go_num, by rw [hs.out, if_pos rfl]; go_num, by rw [hs.out, if_pos rfl]; omega, hb2⟩
        case measure => simp [intOf]; omega
      · have h1' : ((y : Int) == 1) = false := by simp; omega
        have hz := Lib.hid h1
        clear h1
        go_wp2_with fail
        go_roundw
        case rel => exact ⟨k + 1, by omega, by go_num, by rw [hs.out, if_neg hz.out]; rfl, by rw [hs.out, if_neg hz.out]; omega, hb2⟩
        case measure => simp [intOf]; omega
    · have hki : ¬ (k : Int) < n := by omega
      have HT : Hid (freshH (l.take k) = freshH l) := Lib.hid (by rw [List.take_of_length_le (by rw [hlen.out]; omega)])
      rw [HT.out]
      go_wp2_with fail
      go_ret
      exact ⟨rfl, below_chain hbW hb⟩

theorem refcount_any (B cap most : Nat) (tv gv : Value) (n m : Nat) (l k : List (Nat × Nat)) (w : World) (h : HRow w B tv n l) (h2 : HRow w B gv m k) :
    Calls Try.prog 20 #[RV cap most tv gv] w fun e w' => e = .returned (.int .i64 ((n : Int) - m)) ∧ Below w.heap.size w w' := by
  obtain ⟨a, c, rfl, hc, hm⟩ := h.form
  obtain ⟨a2, c2, rfl, hc2, hm2⟩ := h2.form
  have hn := h.2.2
  have hn2 := h2.2.2
  go_enter Try.func20, Try.ntmps20
  go_wp2
  go_ret
  exact ⟨rfl, (Below.refl _ _).alloc (Nat.le_refl _) _⟩

theorem refnew_none (n m : Int) (w : World) (hn : ¬ (0 ≤ n ∧ n ≤ 65536 ∧ m ≠ 0)) :
    Calls Try.prog 11 #[.int .i64 n, .int .u32 m] w fun e w' => e = .returned (.tuple #[.agg #[.int .i64 0, .int .u32 0, .slice none 0 0, .slice none 0 0], .int .i64 31]) ∧ Below w.heap.size w w' := by
  by_cases h1 : n < 0
  · clear hn
    go_enter Try.func11, Try.ntmps11
    go_wp2
    exact bodyPost_ret (v := .tuple #[.agg #[.int .i64 0, .int .u32 0, .slice none 0 0, .slice none 0 0], .int .i64 31]) (by simp [results, Try.results11, go_sem]) rfl ⟨rfl, (Below.refl _ _).alloc (Nat.le_refl _) _⟩
  · by_cases h2 : 65536 < n
    · clear hn
      go_enter Try.func11, Try.ntmps11
      go_wp2
      exact bodyPost_ret (v := .tuple #[.agg #[.int .i64 0, .int .u32 0, .slice none 0 0, .slice none 0 0], .int .i64 31]) (by simp [results, Try.results11, go_sem]) rfl ⟨rfl, (Below.refl _ _).alloc (Nat.le_refl _) _⟩
    · obtain rfl : m = 0 := Classical.byContradiction fun hm => hn ⟨by omega, by omega, hm⟩
      clear hn
      go_enter Try.func11, Try.ntmps11
      go_wp2
      exact bodyPost_ret (v := .tuple #[.agg #[.int .i64 0, .int .u32 0, .slice none 0 0, .slice none 0 0], .int .i64 31]) (by simp [results, Try.results11, go_sem]) rfl ⟨rfl, (Below.refl _ _).alloc (Nat.le_refl _) _⟩
theorem refnew_ok (n m : Nat) (w : World) (hn : n ≤ 65536) (hm : 1 ≤ m) :
    Calls Try.prog 11 #[.int .i64 n, .int .u32 m] w fun e w' => e = .returned (.tuple #[.agg #[.int .i64 n, .int .u32 m, .slice none 0 0, .slice none 0 0], .int .i64 0]) ∧ Below w.heap.size w w' := by
  have hm0 : ((m : Int) == 0) = false := by simp; omega
  go_enter Try.func11, Try.ntmps11
  go_wp2
  exact bodyPost_ret (v := .tuple #[.agg #[.int .i64 n, .int .u32 m, .slice none 0 0, .slice none 0 0], .int .i64 0]) (by simp [results, Try.results11, go_sem]) rfl ⟨rfl, (Below.refl _ _).alloc (Nat.le_refl _) _⟩
end Go.Proofs.Ytahpalfdeghdmaa
