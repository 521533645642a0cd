/- The document's lists of things: is one among them, all but one. -/
import Derived.Test.YtokpngmfmkfmeaaSiftWalks
namespace Go.Proofs.Ytokpngmfmkfmeaa
open Go.RowKit Go.Sort

section
variable {F0 : Nat → Prop} {W0 w : World} {q : List Ob}
theorem row_form (hs : Stage F0 W0 q w) (k : Nat) {m : List Int} {v : Value} (hk : q[k]? = some (Ob.row 0 3 1 v m.length (cellsBy intC m))) :
    ∃ a cp, v = .slice a m.length cp ∧ m.length ≤ cp ∧ cp ≤ 9223372036854775807 ∧ ∀ i, i < m.length → ∃ b, a = some ⟨b, 0, none⟩ ∧ w.cell? ⟨b, i, none⟩ = some (.int .i64 (rat m i)) := by
  obtain ⟨a, cp, rfl, h1, h2⟩ := owns_form (hs.owns k hk)
  refine ⟨a, cp, rfl, h1, by unfold maxLen at h2; omega, fun i hi => ?_⟩
  obtain ⟨g, cp2, hv, _, _, _, _, hc, _⟩ := owns_at intC_len 0 (hs.owns k hk) rfl (by omega)
  cases hv
  have := hc i 0 _ hi (by omega) rfl
  rw [Nat.mul_one, Nat.add_zero] at this
  exact ⟨g, rfl, this⟩
set_option maxRecDepth 100000 in
theorem has_st (hs : Stage F0 W0 q w) (k : Nat) (m : List Int) (v : Value) (hk : q[k]? = some (Ob.row 0 3 1 v m.length (cellsBy intC m))) (x : Int) :
    Calls Try.prog 16 #[v, .int .i64 x] w fun e w' => e = .returned (.bool (hasL m x)) ∧ w = w' := by
  obtain ⟨a, cp, rfl, h1, h2, hc⟩ := row_form hs k hk
  have hin : ∀ j, j < m.length → rat m j = x → hasL m x = true := fun j hj e => by rw [hasL_iff, ← e]; exact rat_mem hj
  have hout : (∀ j, j < m.length → rat m j ≠ x) → hasL m x = false := fun h => by
    rw [hasL_not]; intro hx
    obtain ⟨i, hi, e⟩ := mem_rat hx
    exact h i hi e
  generalize hn : m.length = n at *
  clear hs hk hn
  generalize hasL m x = B at *
  go_enter Try.func16, Try.ntmps16
  go_wp2_with fail
  go_loopw [9] (fun i wr => ∃ j : Nat, i = .int .i64 j ∧ j ≤ n ∧ wr = w ∧ ∀ t, t < j → rat m t ≠ x) (fun i _ => n - (intOf i).toNat)
  case atStart => exact ⟨0, rfl, Nat.zero_le _, rfl, fun t h => by omega⟩
  case round =>
    obtain ⟨j, rfl, hj, rfl, hne⟩ := hrel
    by_cases hjn : j < n
    · have hji : (j : Int) < n := by omega
      obtain ⟨b, rfl, u0⟩ := hc j hjn
      by_cases e : rat m j = x
      · have hB := hin j hjn e
        rw [e] at u0
        subst hB
        clear hin hout hc hne
        go_wp2_with fail
        go_ret
        exact ⟨rfl, rfl⟩
      · have hne2 : ∀ t, t < j + 1 → rat m t ≠ x := fun t ht => by
          by_cases h : t = j
          · subst h; exact e
          · exact hne t (by omega)
        have e2 : (x == rat m j) = false := by simpa using fun h => e h.symm
        have e1 : IntKind.i64.wrap ((j : Int) + 1) = ((j + 1 : Nat) : Int) := IntWalk.i64_in _ (by omega)
        have hr : ∃ j', (Value.int .i64 ((j + 1 : Nat) : Int)) = .int .i64 ((j' : Nat) : Int) ∧ j' ≤ n ∧ (∀ t, t < j' → rat m t ≠ x) := ⟨j + 1, rfl, by omega, hne2⟩
        clear hin hout hne e hc
        generalize rat m j = y at *
        go_wp2_with fail
        go_roundw
        case rel => exact ⟨j + 1, by go_num, by omega, by trivial, hne2⟩
        case measure => simp [intOf]; omega
    · have hji : ¬ (j : Int) < n := by omega
      obtain rfl : j = n := by omega
      have hB := hout hne
      subst hB
      clear hin hout hc hne
      go_wp2_with fail
      go_ret
      exact ⟨rfl, rfl⟩
end
theorem without_snoc (l : List Int) (x y : Int) : withoutL (l ++ [y]) x = if x != y then withoutL l x ++ [y] else withoutL l x := by
  unfold withoutL
  rw [List.filter_append]
  cases h : (x != y) <;> simp [h]
theorem take_snoc {m : List Int} {j : Nat} (h : j < m.length) : m.take (j + 1) = m.take j ++ [rat m j] := by
  rw [List.take_add_one]
  simp [rat_get h]
theorem without_le (l : List Int) (x : Int) : (withoutL l x).length ≤ l.length := List.length_filter_le _ _
section
variable {F0 : Nat → Prop} {W0 w : World} {q : List Ob}
set_option maxRecDepth 100000 in
theorem without_st (hs : Stage F0 W0 q w) (k : Nat) (m : List Int) (v : Value) (hk : q[k]? = some (Ob.row 0 3 1 v m.length (cellsBy intC m))) (x : Int) (hm : m.length ≤ 1048576) :
    Calls Try.prog 18 #[v, .int .i64 x] w (RowPost F0 W0 q (withoutL m x)) := by
  obtain ⟨a, cp, rfl, h1, h2, hc⟩ := row_form hs k hk
  have hs1 := hs.emptyRow 3 1
  have hE : ∀ v' wx, Stage F0 W0 (q ++ [Ob.row 0 3 1 v' (withoutL m x).length (cellsBy intC (withoutL m x))]) wx → RowPost F0 W0 q (withoutL m x) (.returned v') wx := fun v' wx h => ⟨v', rfl, h⟩
  have hcell : ∀ (wx : World) (v' : Value) (l' : List Int), Stage F0 W0 (q ++ [Ob.row 0 3 1 v' l'.length (cellsBy intC l')]) wx → ∀ i, i < m.length → ∃ b, a = some ⟨b, 0, none⟩ ∧ wx.cell? ⟨b, i, none⟩ = some (.int .i64 (rat m i)) := fun wx v' l' h i hi => by
    obtain ⟨a2, cp2, hv, _, _, hc2⟩ := row_form h k (m := m) (by rw [List.getElem?_append_left (Scene.idx hk)]; exact hk)
    cases hv
    exact hc2 i hi
  have htk : m.take m.length = m := List.take_length
  have hstep : ∀ j, j < m.length → withoutL (m.take (j + 1)) x = if x != rat m j then withoutL (m.take j) x ++ [rat m j] else withoutL (m.take j) x := fun j hj => by rw [take_snoc hj, without_snoc]
  have hle : ∀ j, (withoutL (m.take j) x).length ≤ m.length := fun j => Nat.le_trans (without_le _ _) (by simp; omega)
  obtain ⟨X, hX⟩ : ∃ X, X = RowPost F0 W0 q (withoutL m x) := ⟨_, rfl⟩
  rw [← hX] at hE ⊢
  clear hX hs hk hc
  generalize hn : m.length = n at *
  go_enter Try.func18, Try.ntmps18
  go_wp2_with fail
  go_loopw [5, 11] (fun u i wr => ∃ j : Nat, i = .int .i64 j ∧ j ≤ n ∧ Stage F0 W0 (q ++ [Ob.row 0 3 1 u (withoutL (m.take j) x).length (cellsBy intC (withoutL (m.take j) x))]) wr) (fun _ i _ => n - (intOf i).toNat)
  case atStart => exact ⟨0, rfl, Nat.zero_le _, hs1⟩
  case round =>
    clear hs1
    obtain ⟨j, rfl, hj, hs⟩ := hrel
    by_cases hjn : j < n
    · have hji : (j : Int) < n := by omega
      obtain ⟨b, rfl, u0⟩ := hcell _ _ _ hs j hjn
      have e1 : IntKind.i64.wrap ((j : Int) + 1) = ((j + 1 : Nat) : Int) := IntWalk.i64_in _ (by omega)
      have hst := hstep j hjn
      have hlej := hle j
      cases e : (x != rat m j)
      · rw [e] at hst
        simp only [Bool.false_eq_true, if_false] at hst
        replace hst := Lib.hid hst
        clear hcell hstep hle hE htk
        generalize rat m j = y at *
        go_wp2_with fail
        go_roundw
        case rel => exact ⟨j + 1, by go_num, by omega, by rw [hst.out]; exact hs⟩
        case measure => simp [intOf]; omega
      · rw [e] at hst
        simp only [if_true] at hst
        replace hst := Lib.hid hst
        have hs2 := hs.later (below_alloc1 (o := .cells #[.int .i64 (rat m j)] 3) (Below.refl _ _))
        have hr := reads_new wr #[.int .i64 (rat m j)] 3 1 1 wr.heap.size rfl rfl
        generalize hol : withoutL (m.take j) x = o at *
        have hq0 : (q ++ [Ob.row 0 3 1 u5 o.length (cellsBy intC o)])[q.length]? = some (Ob.row 0 3 1 u5 o.length (cellsBy intC o)) := by simp
        have e4 : cellsBy intC o ++ [.int .i64 (rat m j)] = cellsBy intC (o ++ [rat m j]) := by rw [cellsBy_append, cellsBy_one]; rfl
        have hl2 : (o ++ [rat m j]).length = o.length + 1 := by simp
        have hK2 : ∀ v' wx, Stage F0 W0 ((q ++ [Ob.row 0 3 1 u5 o.length (cellsBy intC o)]).set q.length (Ob.row 0 3 1 v' (o.length + 1) (cellsBy intC o ++ [.int .i64 (rat m j)]))) wx → Stage F0 W0 (q ++ [Ob.row 0 3 1 v' (withoutL (m.take (j + 1)) x).length (cellsBy intC (withoutL (m.take (j + 1)) x))]) wx := fun v' wx h => by
          rw [hst.out, hl2, ← e4]
          rw [List.set_append_right _ _ (Nat.le_refl _), Nat.sub_self] at h
          exact h
        obtain ⟨ao, co, rfl, _, _⟩ := owns_form (hs.owns q.length hq0)
        clear hcell hstep hle hE htk hs e4 hl2
        generalize cellsBy intC o = cs at *
        generalize o.length = lo at *
        generalize rat m j = y at *
        go_wp2_with (at_builtin; refine hs2.wp_append q.length hq0 rfl _ _ 38 rfl (.int .i64 0) 8 Try.underlying38 info_int rfl (by decide) (Nat.zero_le _) rfl _ 1 [.int .i64 y] rfl hr (by intro u hu; simp at hu; subst hu; rfl) (by unfold maxLen; omega) (by omega) ?_)
        intro v' w2 hs3 _
        have hs4 := hK2 v' w2 (by first | exact hs3 | (rw [List.set_append_right _ _ (Nat.le_refl _), Nat.sub_self]; exact hs3))
        clear hs2 hs3 hr hq0 hK2 u0
        go_wp2_with fail
        go_roundw
        case rel => exact ⟨j + 1, by go_num, by omega, hs4⟩
        case measure => simp [intOf]; omega
    · have hji : ¬ (j : Int) < n := by omega
      obtain rfl : j = n := by omega
      rw [htk] at hs
      have hE2 := hE _ _ hs
      clear hE hs hcell hstep hle
      go_wp2_with fail
      exact hE2
end
end Go.Proofs.Ytokpngmfmkfmeaa
