/- Merged of ShedMath, ShedHeapMath. -/
import Derived.Test.YtdfjgmellkmamaaHeapMath
import Derived.Test.YtdfjgmellkmamaaNestMinMath
namespace Go.Proofs.Ytdfjgmellkmamaa

/-- Each slot of the row stands where pl says. -/
def Placed (xs pl : List Nat) : Prop := ∀ i, i < xs.length → rat xs i < pl.length ∧ rat pl (rat xs i) = i
theorem placed_inj {xs pl : List Nat} (P : Placed xs pl) {i j : Nat} (hi : i < xs.length) (hj : j < xs.length) (h : rat xs i = rat xs j) : i = j := by
  have a := (P i hi).2
  have b := (P j hj).2
  rw [h] at a
  omega
theorem rat_append {ys zs : List Nat} {i : Nat} (h : i < ys.length) : rat (ys ++ zs) i = rat ys i := by
  simp [rat, List.getD_eq_getElem?_getD, List.getElem?_append_left h]
theorem rat_mem {xs : List Nat} {i : Nat} (h : i < xs.length) : rat xs i ∈ xs := by
  simp [rat, List.getD_eq_getElem?_getD, h]
theorem mem_rat {xs : List Nat} {x : Nat} (h : x ∈ xs) : ∃ i, i < xs.length ∧ rat xs i = x := by
  obtain ⟨i, hi, rfl⟩ := List.getElem_of_mem h
  exact ⟨i, hi, by simp [rat, List.getD_eq_getElem?_getD, hi]⟩
theorem swap_append {ys zs : List Nat} {i j : Nat} (hi : i < ys.length) (hj : j < ys.length) : swapL (ys ++ zs) i j = swapL ys i j ++ zs := by
  unfold swapL
  rw [rat_append hi, rat_append hj, List.set_append_left _ _ hi, List.set_append_left _ _ (by simpa using hj)]
theorem swap_comm {xs : List Nat} {i j : Nat} (hi : i < xs.length) (hj : j < xs.length) : swapL xs i j = swapL xs j i := by
  apply List.ext_getElem?
  intro k
  have h1 := rat_swap hi hj k
  have h2 := rat_swap hj hi k
  by_cases hk : k < xs.length
  · have a1 : (swapL xs i j)[k]? = some (rat (swapL xs i j) k) := by
      rw [List.getElem?_eq_getElem (by rw [swap_len]; exact hk)]
      simp [rat, List.getD_eq_getElem?_getD, swap_len, hk]
    have a2 : (swapL xs j i)[k]? = some (rat (swapL xs j i) k) := by
      rw [List.getElem?_eq_getElem (by rw [swap_len]; exact hk)]
      simp [rat, List.getD_eq_getElem?_getD, swap_len, hk]
    rw [a1, a2, h1, h2]
    by_cases e1 : k = j
    · by_cases e2 : k = i
      · subst e1; subst e2; rfl
      · rw [if_pos e1, if_neg e2, if_pos e1]
    · rw [if_neg e1, if_neg e1]
  · rw [List.getElem?_eq_none (by rw [swap_len]; omega), List.getElem?_eq_none (by rw [swap_len]; omega)]
/-- Where things stand behind an exchange. -/
def swapP (xs pl : List Nat) (i j : Nat) : List Nat := (pl.set (rat xs j) i).set (rat xs i) j
theorem swapP_len (xs pl : List Nat) (i j : Nat) : (swapP xs pl i j).length = pl.length := by simp [swapP]
theorem placed_swap {xs pl : List Nat} (P : Placed xs pl) {i j : Nat} (hi : i < xs.length) (hj : j < xs.length) : Placed (swapL xs i j) (swapP xs pl i j) := by
  intro k hk
  rw [swap_len] at hk
  have hr := rat_swap hi hj k
  have pi := (P i hi).1
  have pj := (P j hj).1
  have pk := (P k hk).1
  rw [swapP_len, hr]
  have hs : ∀ x, rat (swapP xs pl i j) x = if rat xs i = x then j else if rat xs j = x then i else rat pl x := fun x => by
    unfold swapP
    rw [rat_set _ _ _ _ (by simpa using pi)]
    by_cases e : rat xs i = x
    · rw [if_pos e, if_pos e]
    · rw [if_neg e, if_neg e, rat_set _ _ _ _ pj]
  by_cases e1 : k = j
  · rw [if_pos e1, hs, if_pos rfl]
    exact ⟨pi, e1.symm⟩
  · rw [if_neg e1]
    by_cases e2 : k = i
    · rw [if_pos e2, hs]
      refine ⟨pj, ?_⟩
      by_cases e3 : rat xs i = rat xs j
      · have := placed_inj P hi hj e3; omega
      · rw [if_neg e3, if_pos rfl]; exact e2.symm
    · rw [if_neg e2, hs, if_neg (fun e => e2 (placed_inj P hi hk e).symm), if_neg (fun e => e1 (placed_inj P hj hk e).symm)]
      exact ⟨pk, (P k hk).2⟩
theorem swapP_off {xs pl : List Nat} {i j : Nat} (hi : i < xs.length) (hj : j < xs.length) (hpl : rat xs i < pl.length ∧ rat xs j < pl.length) {x : Nat} (hx : x ∉ xs) : rat (swapP xs pl i j) x = rat pl x := by
  unfold swapP
  rw [rat_set _ _ _ _ (by simpa using hpl.1), if_neg (fun e : rat xs i = x => hx (e ▸ rat_mem hi)), rat_set _ _ _ _ hpl.2, if_neg (fun e : rat xs j = x => hx (e ▸ rat_mem hj))]

/-- ys has turned into ys' (zs stands behind it, as it was): the same things, each where pl' says; k questions at most. -/
structure Turned (k : Nat) (zs ys pl : List Nat) (s : Int) (ys' pl' : List Nat) (s' : Int) : Prop where
  perm : ys'.Perm ys
  placed : Placed (ys' ++ zs) pl'
  plen : pl'.length = pl.length
  off : ∀ x, x ∉ ys → rat pl' x = rat pl x
  lo : s ≤ s'
  hi : s' ≤ s + k
theorem Turned.refl {zs ys pl : List Nat} {s : Int} (P : Placed (ys ++ zs) pl) : Turned 0 zs ys pl s ys pl s := ⟨List.Perm.refl _, P, rfl, fun _ _ => rfl, Int.le_refl _, by omega⟩
theorem Turned.trans {k m : Nat} {zs ys pl ys1 pl1 ys2 pl2 : List Nat} {s s1 s2 : Int} (a : Turned k zs ys pl s ys1 pl1 s1) (b : Turned m zs ys1 pl1 s1 ys2 pl2 s2) : Turned (k + m) zs ys pl s ys2 pl2 s2 :=
  ⟨b.perm.trans a.perm, b.placed, b.plen.trans a.plen, fun x hx => (b.off x (fun h => hx (a.perm.mem_iff.1 h))).trans (a.off x hx), Int.le_trans a.lo b.lo, by have := a.hi; have := b.hi; omega⟩
theorem Turned.mono {k m : Nat} {zs ys pl ys1 pl1 : List Nat} {s s1 : Int} (a : Turned k zs ys pl s ys1 pl1 s1) (h : k ≤ m) : Turned m zs ys pl s ys1 pl1 s1 := ⟨a.perm, a.placed, a.plen, a.off, a.lo, by have := a.hi; omega⟩
theorem Turned.ask {zs ys pl : List Nat} {s s' : Int} (P : Placed (ys ++ zs) pl) (h : s ≤ s' ∧ s' ≤ s + 1) : Turned 1 zs ys pl s ys pl s' := ⟨List.Perm.refl _, P, rfl, fun _ _ => rfl, h.1, by have := h.2; omega⟩
theorem Turned.swap {zs ys pl : List Nat} {s : Int} {i j : Nat} (P : Placed (ys ++ zs) pl) (hi : i < ys.length) (hj : j < ys.length) : Turned 0 zs ys pl s (swapL ys i j) (swapP (ys ++ zs) pl i j) s := by
  have hi' : i < (ys ++ zs).length := by simp; omega
  have hj' : j < (ys ++ zs).length := by simp; omega
  refine ⟨swap_perm hi hj, by rw [← swap_append hi hj]; exact placed_swap P hi' hj', swapP_len _ _ _ _, fun x hx => ?_, Int.le_refl _, by omega⟩
  unfold swapP
  have pi := (P i hi').1
  have pj := (P j hj').1
  rw [rat_append hi, rat_append hj] at *
  rw [rat_set _ _ _ _ (by simpa using pi), if_neg (fun e : rat ys i = x => hx (e ▸ rat_mem hi)), rat_set _ _ _ _ pj, if_neg (fun e : rat ys j = x => hx (e ▸ rat_mem hj))]

section
variable {lt : Nat → Nat → Bool} {l : List Nat} {i : Nat}
/-- All is in order, but i may be ahead of that above it, and some below i may be ahead of it. -/
structure FixInv (lt : Nat → Nat → Bool) (l : List Nat) (i : Nat) : Prop where
  ilt : i < l.length
  rest : ∀ k, 0 < k → k < l.length → par 2 k ≠ i → k ≠ i → lt (rat l k) (rat l (par 2 k)) = false
  over : 0 < i → ∀ k, 0 < k → k < l.length → par 2 k = i → lt (rat l k) (rat l (par 2 i)) = false
theorem FixInv.of_down (D : DownInv 2 lt l i) (h : i < l.length) : FixInv lt l i := ⟨h, fun k h0 hk hp _ => D.rest k h0 hk hp, D.over⟩
/-- None below i is ahead of it: i alone may go up. -/
theorem FixInv.up (F : FixInv lt l i) (h : ∀ k, 0 < k → k < l.length → par 2 k = i → lt (rat l k) (rat l i) = false) : UpInv 2 lt l i :=
  ⟨F.ilt, fun k h0 hk hne => by
    by_cases e : par 2 k = i
    · rw [e]; exact h k h0 hk e
    · exact F.rest k h0 hk e hne, F.over⟩
/-- One below i is ahead of it: i is not ahead of that above it. -/
theorem FixInv.down (F : FixInv lt l i) (s : Strict lt l) {c : Nat} (h0 : 0 < c) (hc : c < l.length) (hp : par 2 c = i) (h : lt (rat l c) (rat l i) = true) : DownInv 2 lt l i := by
  refine ⟨fun k k0 hk hpk => ?_, F.over⟩
  by_cases e : k = i
  · subst e
    have hpp := par_lt (d := 2) (by omega) k0
    have h1 := F.over k0 c h0 hc hp
    cases h2 : lt (rat l k) (rat l (par 2 k))
    · rfl
    · rw [s.trans c k (par 2 k) hc F.ilt (by have := F.ilt; omega) h h2] at h1; cases h1
  · exact F.rest k k0 hk hpk e
theorem kids (k : Nat) (hk : 0 < k) : par 2 k = i ↔ k = 2 * i + 1 ∨ k = 2 * i + 2 := by
  rw [par_eq (by omega) hk]; omega
theorem par_left (i : Nat) : par 2 (2 * i + 1) = i := (kids _ (by omega)).2 (Or.inl rfl)
theorem par_right (i : Nat) : par 2 (2 * i + 2) = i := (kids _ (by omega)).2 (Or.inr rfl)
end

section
variable {W : WS}
def ltW (W : WS) : Nat → Nat → Bool := fun a b => aheadW W a b
/-- The slots of a row are in heaps. -/
def AllIn (W : WS) (xs : List Nat) : Prop := ∀ x ∈ xs, x < W.cells.length ∧ homeAt W x ≠ 0
theorem strict_of {xs pl : List Nat} (A : AllIn W xs) (P : ∀ i j, i < xs.length → j < xs.length → rat xs i = rat xs j → i = j) : Strict (ltW W) xs := by
  have hm : ∀ i, i < xs.length → rat xs i < W.cells.length ∧ homeAt W (rat xs i) ≠ 0 := fun i hi => A _ (rat_mem hi)
  refine ⟨fun i hi => ?_, fun i j k hi hj hk h1 h2 => ?_, fun i j hi hj hij h => ?_⟩
  · obtain ⟨a1, a2⟩ := hm i hi
    show aheadW W _ _ = false
    rw [ahead_nat a1 a1 a2 a2]
    cases h : aheadC (W.cells.getD (rat xs i) .off) (W.cells.getD (rat xs i) .off) (rat xs i) (rat xs i)
    · rfl
    · rw [ahead_iff] at h; omega
  · obtain ⟨a1, a2⟩ := hm i hi
    obtain ⟨b1, b2⟩ := hm j hj
    obtain ⟨c1, c2⟩ := hm k hk
    unfold ltW at *
    rw [ahead_nat a1 b1 a2 b2] at h1
    rw [ahead_nat b1 c1 b2 c2] at h2
    rw [ahead_nat a1 c1 a2 c2]
    exact ahead_trans h1 h2
  · obtain ⟨a1, a2⟩ := hm i hi
    obtain ⟨b1, b2⟩ := hm j hj
    unfold ltW at *
    rw [ahead_nat a1 b1 a2 b2] at h
    rw [ahead_nat b1 a1 b2 a2]
    exact ahead_total (fun e => hij (P i j hi hj (by omega))) h
end
end Go.Proofs.Ytdfjgmellkmamaa

namespace Go.Proofs.Ytdfjgmellkmamaa

section
variable {lt : Nat → Nat → Bool} {l : List Nat} {i : Nat}
/-- The last one in the place of i: it may have to go up, or down. -/
theorem fix_swap {n : Nat} (H : Heap 2 lt l) (s : Strict lt l) (hn : l.length = n + 1) (hi : i < n) : FixInv lt ((swapL l i n).take n) i := by
  have hr := fun k => rat_swap (l := l) (i := i) (j := n) (by omega) (by omega) k
  have ht : ∀ k, k < n → rat ((swapL l i n).take n) k = rat (swapL l i n) k := fun k hk => by
    simp [rat, List.getD_eq_getElem?_getD, List.getElem?_take, hk]
  have hlen : ((swapL l i n).take n).length = n := by rw [List.length_take, swap_len]; omega
  refine ⟨by omega, fun k h0 hk hp hne => ?_, fun hi0 k h0 hk hp => ?_⟩
  · rw [hlen] at hk
    have hpk := par_lt (d := 2) (by omega) h0
    rw [ht k hk, ht _ (by omega), hr, hr, if_neg (by omega), if_neg hne, if_neg (by omega), if_neg hp]
    exact H k h0 (by omega)
  · rw [hlen] at hk
    have hpk := par_lt (d := 2) (by omega) h0
    have hpi := par_lt (d := 2) (by omega) hi0
    rw [hp] at hpk
    rw [ht k hk, ht _ (by omega), hr, hr, if_neg (by omega), if_neg (by omega), if_neg (by omega), if_neg (by omega)]
    have h1 := H k h0 (by omega)
    rw [hp] at h1
    exact s.le_trans (by omega) (by omega) (by omega) h1 (H i hi0 (by omega))
/-- The entry of the one at i has become another one. -/
theorem fix_lower {lt' : Nat → Nat → Bool} (H : Heap 2 lt l) (s : Strict lt l) (hi : i < l.length) (same : ∀ a b, a < l.length → b < l.length → a ≠ i → b ≠ i → lt' (rat l a) (rat l b) = lt (rat l a) (rat l b)) : FixInv lt' l i := by
  refine ⟨hi, fun k h0 hk hp hne => ?_, fun hi0 k h0 hk hp => ?_⟩
  · have hpk := par_lt (d := 2) (by omega) h0
    rw [same k _ hk (by omega) hne hp]
    exact H k h0 hk
  · have hpk := par_lt (d := 2) (by omega) h0
    have hpi := par_lt (d := 2) (by omega) hi0
    rw [hp] at hpk
    rw [same k _ hk (by omega) (by omega) (by omega)]
    have h1 := H k h0 hk
    rw [hp] at h1
    exact s.le_trans hk hi (by omega) h1 (H i hi0 hi)
end
theorem take_last {l : List Nat} {n : Nat} (hn : l.length = n + 1) : l.take n ++ [rat l n] = l := by
  have h : n < l.length := by omega
  have e : l.take n ++ [l[n]] = l.take (n + 1) := List.take_append_getElem h
  have : rat l n = l[n] := by simp [rat, List.getD_eq_getElem?_getD, h]
  rw [this, e, List.take_of_length_le (by omega)]
theorem placed_take {xs pl : List Nat} (P : Placed xs pl) (n : Nat) : Placed (xs.take n) pl := by
  intro i hi
  simp only [List.length_take] at hi
  have : rat (xs.take n) i = rat xs i := by simp [rat, List.getD_eq_getElem?_getD, List.getElem?_take, show i < n by omega]
  rw [this]
  exact P i (by omega)
theorem placed_left {ys zs pl : List Nat} (P : Placed (ys ++ zs) pl) : Placed ys pl := by
  have := placed_take P ys.length
  rwa [List.take_left' rfl] at this
/-- One more at the end. -/
theorem placed_snoc {xs pl : List Nat} {x : Nat} (P : Placed xs pl) (hx : x ∉ xs) (hp : x < pl.length) : Placed (xs ++ [x]) (pl.set x xs.length) := by
  intro i hi
  simp only [List.length_append, List.length_singleton] at hi
  rw [List.length_set, rat_set _ _ _ _ hp]
  by_cases e : i < xs.length
  · rw [rat_append e, if_neg (fun e2 : x = rat xs i => hx (e2 ▸ rat_mem e))]
    exact P i e
  · have ei : i = xs.length := by omega
    have : rat (xs ++ [x]) i = x := by subst ei; simp [rat, List.getD_eq_getElem?_getD]
    rw [this, if_pos rfl]
    exact ⟨hp, ei.symm⟩
theorem set_off {pl : List Nat} {x : Nat} (hp : x < pl.length) (k y : Nat) (h : x ≠ y) : rat (pl.set x k) y = rat pl y := by rw [rat_set _ _ _ _ hp, if_neg h]
/-- Two below each: a place of n is no deeper than n has binary digits. -/
theorem depth_bits (b n : Nat) (h : n < 2 ^ b) (hb : 0 < b) (i : Nat) (hi : i < n) : depthI 2 i ≤ b - 1 := by
  refine depth2_le (b - 1) i ?_
  rw [show b - 1 + 1 = b by omega]
  omega
end Go.Proofs.Ytdfjgmellkmamaa
