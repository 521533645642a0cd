/- A row of things: made, a thing more, a thing less, one that came ahead of others, all of them. -/
import Derived.Test.YtokpngmfmkfmeaaSiftDown
namespace Go.Proofs.Ytokpngmfmkfmeaa
open Go.RowKit Go.Sort

theorem place_nil : placeL [] = fun _ => none := by funext x; simp [placeL]
theorem place_add {l : List Int} {x : Int} (hn : (l ++ [x]).Nodup) : setZ (placeL l) x (some (l.length : Int)) = placeL (l ++ [x]) := by
  have hx : x ∉ l := fun h => by
    have := (List.nodup_append.1 hn).2.2 x h x (by simp)
    exact this rfl
  refine place_ext hn (fun k hk => ?_) (fun y hy => ?_)
  · simp only [List.length_append, List.length_cons, List.length_nil] at hk
    have hr : rat (l ++ [x]) k = if k = l.length then x else rat l k := getD_snoc' l k x 0
    rw [hr]
    by_cases h : k = l.length
    · rw [if_pos h, setZ_same, h]
    · rw [if_neg h, setZ_other _ _ (fun e => hx (by rw [← e]; exact rat_mem (by omega))), place_rat (List.nodup_append.1 hn).1 (by omega)]
  · simp only [List.mem_append, List.mem_singleton, not_or] at hy
    rw [setZ_other _ _ hy.2, place_none hy.1]
theorem list_ext {a b : List Int} (h : a.length = b.length) (hr : ∀ k, k < a.length → rat a k = rat b k) : a = b := by
  apply List.ext_getElem h
  intro k h1 h2
  have := hr k h1
  simpa [rat, List.getD_eq_getElem?_getD, h1, h2] using this
/-- The last one in the hole's place, and the row by one shorter. -/
theorem swap_take {l : List Int} {m i : Nat} (hl : l.length = m + 1) (hi : i ≤ m) : (swapL l i m).take m = fillL l i := by
  refine list_ext (by rw [fill_len]; simp [swap_len, hl]) (fun k hk => ?_)
  simp only [List.length_take, swap_len] at hk
  rw [rat_take (by omega), rat_swap (by omega) (by omega)]
  rw [if_neg (by omega)]
  by_cases h : i < m
  · rw [rat_fill (by omega) (by omega)]
    by_cases e : k = i
    · subst e; rw [if_pos rfl, if_pos rfl, hl, Nat.add_sub_cancel]
    · rw [if_neg e, if_neg (fun x => e x.symm)]
  · have e : i = m := by omega
    subst e
    rw [if_neg (by omega)]
    unfold fillL
    rw [List.set_eq_of_length_le (by simp; omega), rat_take (by omega)]
theorem place_del {l : List Int} (hn : l.Nodup) {m i : Nat} (hl : l.length = m + 1) (hi : i ≤ m) : setZ (placeL (swapL l i m)) (rat l i) none = placeL (fillL l i) := by
  have hp := swap_perm (l := l) (i := i) (j := m) (by omega) (by omega)
  have hn' := hp.nodup_iff.2 hn
  have hf := fill_nodup hn (i := i) (by omega)
  have hpf := fill_perm (l := l) (i := i) (by omega)
  have hni : rat l i ∉ fillL l i := (List.nodup_cons.1 (hpf.nodup_iff.2 hn)).1
  refine place_ext hf (fun k hk => ?_) (fun y hy => ?_)
  · have hkl := hk
    rw [fill_len] at hkl
    have h1 : rat (fillL l i) k ≠ rat l i := fun e => hni (by rw [← e]; exact rat_mem hk)
    rw [setZ_other _ _ h1, ← swap_take hl hi, rat_take (by omega), place_rat hn' (by rw [swap_len]; omega)]
  · by_cases e : y = rat l i
    · rw [e, setZ_same]
    · rw [setZ_other _ _ e]
      apply place_none
      intro h
      have := hpf.mem_iff.2 (hp.mem_iff.1 h)
      rcases List.mem_cons.1 this with h1 | h1
      · exact e h1
      · exact hy h1
/-- Two things of a stage change places. -/
theorem Stage.swapAt {F0 : Nat → Prop} {W0 w : World} {a b : List Ob} {x y : Ob} (h : Stage F0 W0 (a ++ x :: y :: b) w) : Stage F0 W0 (a ++ y :: x :: b) w := by
  obtain ⟨hk, F, h1, h2, h3⟩ := h
  have hp : ∀ i, i = a.length ∨ i = a.length + 1 ∨ (i ≠ a.length ∧ i ≠ a.length + 1) := fun i => by omega
  refine ⟨hk, fun j => F (if j = a.length then a.length + 1 else if j = a.length + 1 then a.length else j), fun i O hi => h1 _ O ?_, fun i j c hij => h2 _ _ c (?_ : (if i = a.length then a.length + 1 else if i = a.length + 1 then a.length else i) ≠ (if j = a.length then a.length + 1 else if j = a.length + 1 then a.length else j)), fun i c => h3 _ c⟩
  rotate_left
  · repeat' split
    all_goals omega
  rcases hp i with rfl | rfl | ⟨n1, n2⟩
  · rw [if_pos rfl, List.getElem?_append_right (by omega), Nat.add_sub_cancel_left]
    rw [List.getElem?_append_right (Nat.le_refl _), Nat.sub_self] at hi
    exact hi
  · rw [if_neg (by omega), if_pos rfl, List.getElem?_append_right (Nat.le_refl _), Nat.sub_self]
    rw [List.getElem?_append_right (by omega), Nat.add_sub_cancel_left] at hi
    exact hi
  · rw [if_neg n1, if_neg n2]
    by_cases hlt : i < a.length
    · rw [List.getElem?_append_left hlt] at hi ⊢; exact hi
    · obtain ⟨k, rfl⟩ : ∃ k, i = a.length + (k + 2) := ⟨i - a.length - 2, by omega⟩
      rw [List.getElem?_append_right (by omega), Nat.add_sub_cancel_left] at hi ⊢
      exact hi
section
variable {F0 : Nat → Prop} {W0 w : World} {r bm : Nat} {v : Value} {d : Nat} {l : List Int} {q : List Ob}
theorem new_st (hs : Stage F0 W0 q w) (d : Nat) (hd : 2 ≤ d ∧ d ≤ 16) :
    Calls Try.prog 12 #[.int .i64 d] w fun e w' => e = .returned (.tuple #[.pointer (some ⟨w.heap.size + 1, 0, none⟩), .int .i64 0]) ∧ Stage F0 W0 (q ++ rowO (w.heap.size + 1) w.heap.size (.slice none 0 0) d []) w' := by
  have hR := isdeg_c d w
  rw [rightD_iff.2 (show 2 ≤ (d : Int) ∧ (d : Int) ≤ 16 by omega)] at hR
  have h1 := hs.newZMap Try.prog 3 3 rfl
  have h2 := h1.alloc' #[.int .i64 d, .slice none 0 0, .map (some w.heap.size)] 54 (size_alloc _ _)
  have h3 := h2.nilRow 0 3 1
  obtain ⟨w2, hw2⟩ : ∃ w2, w2 = (w.alloc (Obj.map #[] 0)).alloc (Obj.cells #[Value.int IntKind.i64 ↑d, Value.slice none 0 0, Value.map (some w.heap.size)] 54) := ⟨_, rfl⟩
  have h4 : Stage F0 W0 (q ++ rowO (w.heap.size + 1) w.heap.size (.slice none 0 0) d []) w2 := by
    unfold rowO rowP
    rw [place_nil, hw2]
    rw [List.append_assoc, List.append_assoc] at h3
    have h5 := Stage.swapAt (a := q) (b := [_]) h3
    have h6 := Stage.swapAt (a := q ++ [_]) (b := []) (by rw [List.append_assoc]; exact h5)
    rw [List.append_assoc] at h6
    exact h6
  rw [hw2] at h4
  clear h1 h2 h3 hs hw2
  have hmm := @run_makeMap Try.prog
  go_enter Try.func12, Try.ntmps12
  go_wp2_with fail
  refine hR.mono ?_
  rintro e w1 ⟨rfl, rfl⟩
  go_wp2_with fail
  go_ret2
  exact ⟨rfl, h4⟩
theorem new_no (d : Int) (hd : rightD d = false) (w : World) : Calls Try.prog 12 #[.int .i64 d] w fun e w' => e = .returned (.tuple #[.pointer none, .int .i64 22]) ∧ w = w' := by
  have hR := isdeg_c d w
  rw [hd] at hR
  go_enter Try.func12, Try.ntmps12
  go_wp2_with fail
  refine hR.mono ?_
  rintro e w1 ⟨rfl, rfl⟩
  go_wp2_with fail
  go_ret2
  exact ⟨rfl, rfl⟩
end
end Go.Proofs.Ytokpngmfmkfmeaa
