/- Two rows that become one, as plain data: may they; how often each thing is counted; who is above whom. -/
import Derived.Test.YtbllfokagedpeaaCarryLiftsMath
namespace Go.Proofs.Ytbllfokagedpeaa

/-- Is no thing of l in m? -/
def offB (x : Int) (m : List Int) : Bool := m.all fun y => x != y
def disB (l m : List Int) : Bool := l.all fun x => offB x m
theorem off_step (x : Int) (m : List Int) (j : Nat) (hj : j < m.length) : offB x (m.take (j + 1)) = (offB x (m.take j) && (x != m.getD j 0)) := by
  unfold offB
  rw [List.take_succ_eq_append_getElem hj, List.all_append]
  simp [List.getD_eq_getElem?_getD, hj]
theorem dis_step (l m : List Int) (i : Nat) (hi : i < l.length) : disB (l.take (i + 1)) m = (disB (l.take i) m && offB (l.getD i 0) m) := by
  unfold disB
  rw [List.take_succ_eq_append_getElem hi, List.all_append]
  simp [List.getD_eq_getElem?_getD, hi]
theorem dis_iff (l m : List Int) : disB l m = true ↔ ¬ ∃ x ∈ l, x ∈ m := by
  unfold disB offB
  rw [List.all_eq_true]
  constructor
  · rintro h ⟨x, h1, h2⟩
    have := List.all_eq_true.1 (h x h1) x h2
    simp at this
  · intro h x hx
    rw [List.all_eq_true]
    intro y hy
    simp only [bne_iff_ne, ne_eq]
    exact fun e => h ⟨x, hx, e ▸ hy⟩
section
variable {n : Nat} {K K' : Int → List Int}
noncomputable def canK (n : Nat) (K : Int → List Int) (l m : List Int) : Bool := isRow n K l && isRow n K m && disB l m
theorem canK_iff {l m : List Int} : canK n K l m = true ↔ RowK n K l ∧ RowK n K m ∧ ¬ ∃ x ∈ l, x ∈ m := by
  unfold canK
  rw [Bool.and_eq_true, Bool.and_eq_true, isRow_iff, isRow_iff, dis_iff, and_assoc]
/-! ### how often each thing is counted -/
def cntF (l : List Int) : Nat → Int := fun i => (l.count (i : Int) : Int)
theorem cnt_nil : cntF [] = fun _ => 0 := rfl
theorem cnt_snoc (l : List Int) (y : Nat) : (fun j => if j = y then cntF l y + 1 else cntF l j) = cntF (l ++ [(y : Int)]) := by
  funext j
  unfold cntF
  rw [List.count_append]
  by_cases e : j = y
  · subst e; simp
  · have e2 : ¬ (y : Int) = j := by omega
    rw [if_neg e, List.count_cons_of_ne (by simpa using e2)]
    simp
theorem cnt_off (M l : List Int) (y : Nat) : (fun j => if j = y then cntF M y - cntF l y - 1 else cntF M j - cntF l j) = fun j => cntF M j - cntF (l ++ [(y : Int)]) j := by
  funext j
  have h := congrFun (cnt_snoc l y) j
  rw [← h]
  by_cases e : j = y
  · subst e; simp; omega
  · rw [if_neg e, if_neg e]
theorem cnt_le (l : List Int) (i : Nat) : 0 ≤ cntF l i ∧ cntF l i ≤ l.length := by
  unfold cntF
  exact ⟨by omega, by have := List.count_le_length (a := (i : Int)) (l := l); omega⟩
theorem cnt_perm {l m : List Int} (h : l.Perm m) (i : Nat) : cntF l i - cntF m i = 0 := by
  unfold cntF
  rw [h.count_eq]
  omega
/-- So far through a row's trees. -/
def farR (K : Int → List Int) (L : List Int) (a b : Nat) : List Int := allR K (L.take a) ++ (treeK K (L.getD a 0)).take b
theorem far_start (K : Int → List Int) (L : List Int) : farR K L 0 0 = [] := by simp [farR, allR]
theorem far_step (K : Int → List Int) (L : List Int) (a b : Nat) (hb : b < (treeK K (L.getD a 0)).length) : farR K L a (b + 1) = farR K L a b ++ [(treeK K (L.getD a 0)).getD b 0] := by
  unfold farR
  generalize treeK K (L.getD a 0) = T at *
  have e : T.take (b + 1) = T.take b ++ [T.getD b 0] := by
    rw [List.take_succ_eq_append_getElem hb]; simp [List.getD_eq_getElem?_getD, hb]
  rw [e, List.append_assoc]
theorem far_next (K : Int → List Int) (L : List Int) (a : Nat) (ha : a < L.length) : farR K L a (treeK K (L.getD a 0)).length = farR K L (a + 1) 0 := by
  unfold farR
  rw [List.take_length, List.take_zero, List.append_nil, List.take_succ_eq_append_getElem ha]
  unfold allR
  rw [List.flatMap_append]
  simp [List.getD_eq_getElem?_getD, ha]
theorem far_end (K : Int → List Int) (L : List Int) (a : Nat) (ha : L.length ≤ a) : farR K L a 0 = allR K L := by
  unfold farR
  rw [List.take_zero, List.append_nil, List.take_of_length_le ha]
theorem far_len (I : CInv n K) {L : List Int} (hl : Roots n K L) (a b : Nat) (ha : a < L.length) : (farR K L a b).length ≤ n := by
  have h1 : (farR K L a (treeK K (L.getD a 0)).length).length ≤ n := by
    rw [far_next K L a ha]
    unfold farR
    rw [List.take_zero, List.append_nil]
    have hr : Roots n K (L.take (a + 1)) := ⟨fun x hx => hl.inn x (List.mem_of_mem_take hx), fun x hx => hl.top x (List.mem_of_mem_take hx), hl.nodup.sublist (List.take_sublist _ _)⟩
    refine nodupK_in n _ (allR_nodup I hr) fun y hy => ?_
    obtain ⟨x, hx, hy⟩ := mem_allR.1 hy
    exact tree_in I (hr.inn x hx) hy
  refine Nat.le_trans ?_ h1
  unfold farR
  rw [List.take_length, List.length_append, List.length_append, List.length_take]
  omega
theorem all_len (I : CInv n K) {L : List Int} (hl : Roots n K L) : (allR K L).length ≤ n := by
  refine nodupK_in n _ (allR_nodup I hl) fun y hy => ?_
  obtain ⟨x, hx, hy⟩ := mem_allR.1 hy
  exact tree_in I (hl.inn x hx) hy
/-- All that is to be known of the two rows, once they are one. -/
structure Joined (n : Nat) (lt : Int → Int → Bool) (K : Int → List Int) (L : List Int) (k : Nat) (K' : Int → List Int) (r : List Int) : Prop where
  roots : Roots n K L
  row : RowK n K' r
  perm : (allR K L).Perm (allR K' r)
  few : k ≤ L.length
  ord : ∀ x p, upK K' x = some p → upK K x = some p ∨ lt x p = false
theorem Joined.of {lt : Int → Int → Bool} {la lb r m : List Int} {k : Nat} (I : CInv n K) (I' : CInv n K') (hA : RowK n K la) (hB : RowK n K lb) (hd : ¬ ∃ x ∈ la, x ∈ lb) (hl : Links n (fun x y => lt x y = true) K (la ++ lb) k K' m) (hm : m.Perm r) (hr : RowK n K' r) : Joined n lt K (la ++ lb) k K' r := by
  have hroots : Roots n K (la ++ lb) := ⟨fun x hx => (List.mem_append.1 hx).elim (hA.inn x) (hB.inn x), fun x hx => (List.mem_append.1 hx).elim (hA.top x) (hB.top x), List.nodup_append.2 ⟨hA.roots.nodup, hB.roots.nodup, fun x hx y hy e => hd ⟨x, hx, e ▸ hy⟩⟩⟩
  obtain ⟨_, h1, h2, h3, h4, _⟩ := Links.all I hroots hl
  refine ⟨hroots, hr, h2.symm.trans (allR_perm hm), by omega, fun x p hu => ?_⟩
  rcases h4 p x ((upK_some I').1 hu) with e | ⟨e, _⟩
  · exact Or.inl ((upK_some I).2 e)
  · exact Or.inr (by simpa using e)
end
end Go.Proofs.Ytbllfokagedpeaa
