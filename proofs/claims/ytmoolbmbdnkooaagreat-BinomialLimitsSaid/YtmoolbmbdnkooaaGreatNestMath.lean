/- Merged of SiftRunsMath, NestMath. -/
import Derived.Test.YtmoolbmbdnkooaaGreatSiftMath
import GoSem.ClaimData
namespace Go.Proofs.YtmoolbmbdnkooaaGreat

theorem heap_congr {d : Nat} {lt lt' : Int → Int → Bool} {l : List Int} (hd : 1 ≤ d) (h : ∀ a ∈ l, ∀ b ∈ l, lt' a b = lt a b) (H : Heap d lt l) : Heap d lt' l := by
  intro i h0 hi
  have hp := par_lt hd h0
  rw [h _ (rat_mem hi) _ (rat_mem (Nat.lt_trans hp hi))]
  exact H i h0 hi
theorem strict_congr {lt lt' : Int → Int → Bool} {l : List Int} (h : ∀ a ∈ l, ∀ b ∈ l, lt' a b = lt a b) (s : Strict lt l) : Strict lt' l := by
  refine ⟨fun i hi => ?_, fun i j k hi hj hk h1 h2 => ?_, fun i j hi hj hne h1 => ?_⟩
  · rw [h _ (rat_mem hi) _ (rat_mem hi)]; exact s.irr i hi
  · rw [h _ (rat_mem hi) _ (rat_mem hj)] at h1
    rw [h _ (rat_mem hj) _ (rat_mem hk)] at h2
    rw [h _ (rat_mem hi) _ (rat_mem hk)]; exact s.trans i j k hi hj hk h1 h2
  · rw [h _ (rat_mem hi) _ (rat_mem hj)] at h1
    rw [h _ (rat_mem hj) _ (rat_mem hi)]; exact s.total i j hi hj hne h1
/-- The order is the same among others. -/
theorem ltK_else {ks ks' : Int → Int} {x : Int} (h : ∀ y, y ≠ x → ks' y = ks y) {l : List Int} (hx : x ∉ l) : ∀ a ∈ l, ∀ b ∈ l, ltK ks' a b = ltK ks a b := fun a ha b hb =>
  lower_same h a b (fun e => hx (e ▸ ha)) (fun e => hx (e ▸ hb))
theorem without_perm {l m : List Int} {x : Int} (hn : l.Nodup) (h : (x :: m).Perm l) : m.Perm (withoutL l x) := by
  have hx : x ∈ l := h.mem_iff.1 (by simp)
  have h1 : (withoutL l x) = l.erase x := by
    rw [hn.erase_eq_filter]
    unfold withoutL
    apply List.filter_congr
    intro y _
    by_cases e : x = y
    · subst e; simp
    · have e2 : y ≠ x := fun h => e h.symm
      rw [show (x != y) = true from bne_iff_ne.2 e, show (y != x) = true from bne_iff_ne.2 e2]
  rw [h1]
  exact (h.trans (List.perm_cons_erase hx)).cons_inv
theorem without_nodup {l : List Int} {x : Int} (hn : l.Nodup) : (withoutL l x).Nodup := hn.filter _
theorem mem_without {l : List Int} {x y : Int} : y ∈ withoutL l x ↔ y ∈ l ∧ y ≠ x := by
  simp only [withoutL, List.mem_filter, bne_iff_ne, ne_eq]
  exact ⟨fun ⟨h1, h2⟩ => ⟨h1, fun e => h2 e.symm⟩, fun ⟨h1, h2⟩ => ⟨h1, fun e => h2 e.symm⟩⟩
theorem has_perm {l m : List Int} (h : l.Perm m) (x : Int) : hasL l x = hasL m x := by
  cases e : hasL m x
  · rw [hasL_not] at e ⊢; exact fun hx => e (h.mem_iff.1 hx)
  · rw [hasL_iff] at e ⊢; exact h.mem_iff.2 e
theorem has_add (l : List Int) (x : Int) : hasL (l ++ [x]) x = true := by rw [hasL_iff]; simp
theorem has_without (l : List Int) (x : Int) : hasL (withoutL l x) x = false := by rw [hasL_not, mem_without]; simp
theorem nodup_add {l : List Int} {x : Int} (hn : l.Nodup) (hx : hasL l x = false) : (l ++ [x]).Nodup := by
  rw [hasL_not] at hx
  rw [List.nodup_append]
  refine ⟨hn, by simp, fun a ha b hb e => hx ?_⟩
  simp only [List.mem_singleton] at hb
  subst hb; subst e; exact ha
theorem fill_nodup {l : List Int} {i : Nat} (hn : l.Nodup) (hi : i < l.length) : (fillL l i).Nodup := by
  have h := (fill_perm hi).nodup_iff.2 hn
  exact (List.nodup_cons.1 h).2
/-- Where a thing is in a row, if it is there. -/
def placeL (l : List Int) (x : Int) : Option Int := if x ∈ l then some ((l.idxOf x : Nat) : Int) else none
theorem place_rat {l : List Int} (hn : l.Nodup) {i : Nat} (hi : i < l.length) : placeL l (rat l i) = some ((i : Nat) : Int) := by
  have hm := rat_mem hi
  rw [placeL, if_pos hm]
  have h1 : l.idxOf (rat l i) < l.length := List.idxOf_lt_length_of_mem hm
  have h2 : rat l (l.idxOf (rat l i)) = rat l i := by
    have e := rat_get h1
    rw [List.getElem?_eq_getElem h1, List.getElem_idxOf h1] at e
    injection e with e
    exact e.symm
  rw [rat_inj hn h1 hi h2]
theorem place_none {l : List Int} {x : Int} (h : x ∉ l) : placeL l x = none := by rw [placeL, if_neg h]
theorem place_some {l : List Int} (hn : l.Nodup) {x : Int} (h : x ∈ l) : ∃ i, i < l.length ∧ rat l i = x ∧ placeL l x = some ((i : Nat) : Int) := by
  obtain ⟨i, hi, rfl⟩ := mem_rat h
  exact ⟨i, hi, rfl, place_rat hn hi⟩
theorem place_isSome (l : List Int) (x : Int) : (placeL l x).isSome = hasL l x := by
  unfold placeL
  by_cases h : x ∈ l
  · rw [if_pos h, hasL_iff.2 h]; rfl
  · rw [if_neg h, hasL_not.2 h]; rfl
/-- Places are told by what stands where. -/
theorem place_ext {l : List Int} (hn : l.Nodup) {f : Int → Option Int} (h1 : ∀ i, i < l.length → f (rat l i) = some ((i : Nat) : Int)) (h2 : ∀ x, x ∉ l → f x = none) : f = placeL l := by
  funext x
  by_cases hx : x ∈ l
  · obtain ⟨i, hi, rfl, e⟩ := place_some hn hx
    rw [h1 i hi, e]
  · rw [h2 x hx, place_none hx]
/-- The row behind the loop that takes the first one again and again: each is ahead of the next one. -/
theorem top_least {d : Nat} {ks : Int → Int} {l : List Int} (hd : 1 ≤ d) (hn : l.Nodup) (H : Heap d (ltK ks) l) {y : Int} (hy : y ∈ l) (hne : y ≠ rat l 0) : ltK ks (rat l 0) y = true := by
  obtain ⟨i, hi, rfl⟩ := mem_rat hy
  exact ltK_total hne (heap_top hd (strict_keys ks hn) H i hi)
end Go.Proofs.YtmoolbmbdnkooaaGreat

namespace Go.Proofs.YtmoolbmbdnkooaaGreat

/-- Goes the one entry ahead of the other? -/
def lessB (k1 s1 k2 s2 : Int) : Bool := decide (k1 < k2) || (k1 == k2 && decide (s1 < s2))
theorem lessB_same (k s1 s2 : Int) : lessB k s1 k s2 = decide (s1 < s2) := by simp [lessB]
theorem lessB_other {k1 k2 : Int} (h : ¬ k1 = k2) (s1 s2 : Int) : lessB k1 s1 k2 s2 = decide (k1 < k2) := by simp [lessB, h]
theorem lessB_self (k s : Int) : lessB k s k s = false := by simp [lessB]

/-- A slot: in which heap it is (0: in none), and its entry. -/
structure CellD where
  home : Nat
  key : Int
  seq : Int
def CellD.off : CellD := ⟨0, 0, 0⟩
/-- Which heaps there are (place 0 is nobody's), and the slots. -/
structure WS where
  heaps : List Bool
  cells : List CellD
def hasW (W : WS) (h : Int) : Bool := decide (1 ≤ h ∧ h < W.heaps.length) && W.heaps.getD h.toNat false
def slotW (W : WS) (x : Int) : Bool := decide (0 ≤ x ∧ x < W.cells.length)
def cellW (W : WS) (x : Int) : CellD := if slotW W x then W.cells.getD x.toNat .off else .off
def inW (W : WS) (x : Int) : Bool := (cellW W x).home != 0
def lenW (W : WS) (h : Int) : Nat := if 0 < h then W.cells.countP (fun c => (c.home : Int) == h) else 0
/-- Is one entry, with its slot, ahead of another one? -/
def aheadC (c d : CellD) (a b : Int) : Bool := lessB c.key c.seq d.key d.seq || ((c.key == d.key && c.seq == d.seq) && decide (a < b))
def aheadW (W : WS) (a b : Int) : Bool := (inW W a && inW W b) && aheadC (cellW W a) (cellW W b) a b

def newW (n : Nat) : WS := ⟨[false], List.replicate n .off⟩
def canMakeW (W : WS) : Bool := decide (W.heaps.length ≤ 65536)
def madeW (W : WS) : Int := if canMakeW W then W.heaps.length else 0
def makeW (W : WS) : WS := if canMakeW W then ⟨W.heaps ++ [true], W.cells⟩ else W
def putB (W : WS) (h x : Int) : Bool := hasW W h && (slotW W x && !inW W x)
def putW (W : WS) (h x k s : Int) : WS := if putB W h x then ⟨W.heaps, W.cells.set x.toNat ⟨h.toNat, k, s⟩⟩ else W
def dropW (W : WS) (x : Int) : WS := if inW W x then ⟨W.heaps, W.cells.set x.toNat .off⟩ else W
def lowerB (W : WS) (x k s : Int) : Bool := inW W x && !lessB (cellW W x).key (cellW W x).seq k s
def lowerW (W : WS) (x k s : Int) : WS := if lowerB W x k s then ⟨W.heaps, W.cells.set x.toNat ⟨(cellW W x).home, k, s⟩⟩ else W
def joinBW (W : WS) (a b : Int) : Bool := hasW W a && (hasW W b && decide (a ≠ b))
def joinW (W : WS) (a b : Int) : WS := if joinBW W a b then ⟨W.heaps.set b.toNat false, W.cells.map fun c => if c.home = b.toNat then ⟨a.toNat, c.key, c.seq⟩ else c⟩ else W

theorem has_nat {W : WS} {h : Int} (hh : hasW W h = true) : ∃ i : Nat, h = i ∧ 1 ≤ i ∧ i < W.heaps.length ∧ W.heaps.getD i false = true := by
  simp only [hasW, Bool.and_eq_true, decide_eq_true_eq] at hh
  exact ⟨h.toNat, by omega, by omega, by omega, hh.2⟩
theorem slot_nat {W : WS} {x : Int} (hx : slotW W x = true) : ∃ i : Nat, x = i ∧ i < W.cells.length := by
  simp only [slotW, decide_eq_true_eq] at hx
  exact ⟨x.toNat, by omega, by omega⟩
theorem cell_nat (W : WS) (i : Nat) (hi : i < W.cells.length) : cellW W i = W.cells.getD i .off := by
  have : slotW W i = true := by simp [slotW]; omega
  simp [cellW, this]
theorem cell_off {W : WS} {x : Int} (h : slotW W x = false) : cellW W x = .off := by simp [cellW, h]
theorem in_slot {W : WS} {x : Int} (h : inW W x = true) : slotW W x = true := by
  cases hs : slotW W x
  · simp [inW, cell_off hs, CellD.off] at h
  · rfl
theorem in_nat {W : WS} {x : Int} (h : inW W x = true) : ∃ i : Nat, x = i ∧ i < W.cells.length ∧ (W.cells.getD i .off).home ≠ 0 := by
  obtain ⟨i, rfl, hi⟩ := slot_nat (in_slot h)
  refine ⟨i, rfl, hi, ?_⟩
  simpa [inW, cell_nat W i hi] using h

/-- What always holds of a nest. -/
structure WS.Fit (W : WS) : Prop where
  pos : 1 ≤ W.heaps.length
  len : W.heaps.length ≤ 65537
  zero : W.heaps.getD 0 false = false
  cap : W.cells.length ≤ 65536
  home : ∀ i, i < W.cells.length → (W.cells.getD i .off).home = 0 ∨ hasW W (W.cells.getD i .off).home = true
  off : ∀ i, i < W.cells.length → (W.cells.getD i .off).home = 0 → W.cells.getD i .off = .off
theorem WS.Fit.cellOff {W : WS} (h : W.Fit) {x : Int} (hx : inW W x = false) : cellW W x = .off := by
  cases hs : slotW W x
  · exact cell_off hs
  · obtain ⟨i, rfl, hi⟩ := slot_nat hs
    rw [cell_nat W i hi]
    refine h.off i hi ?_
    simpa [inW, cell_nat W i hi] using hx

theorem countP_set {α : Type} (p : α → Bool) (d c : α) (l : List α) (i : Nat) (hi : i < l.length) : (l.set i c).countP p + (if p (l.getD i d) then 1 else 0) = l.countP p + (if p c then 1 else 0) := by
  induction l generalizing i with
  | nil => simp at hi
  | cons a r ih =>
    cases i with
    | zero => simp only [List.set_cons_zero, List.countP_cons, List.getD_cons_zero]; omega
    | succ i =>
      have := ih i (by simpa using hi)
      simp only [List.set_cons_succ, List.countP_cons, List.getD_cons_succ]
      omega
theorem len_le (W : WS) (h : Int) : lenW W h ≤ W.cells.length := by
  unfold lenW
  split
  · exact List.countP_le_length
  · exact Nat.zero_le _
theorem len_none {W : WS} (hW : W.Fit) {h : Int} (hh : hasW W h = false) : lenW W h = 0 := by
  unfold lenW
  split
  · rename_i hp
    rw [List.countP_eq_zero]
    intro c hc hce
    obtain ⟨i, hi, rfl⟩ := List.getElem_of_mem hc
    have e : W.cells.getD i .off = W.cells[i] := by simp [List.getD_eq_getElem?_getD, hi]
    have h1 := hW.home i hi
    rw [e] at h1
    simp only [beq_iff_eq] at hce
    rcases h1 with h1 | h1
    · omega
    · rw [hce] at h1; rw [h1] at hh; cases hh
  · rfl
/-- How many are in each heap, behind a call. -/
theorem len_put {W : WS} {h : Nat} {x : Nat} {k s : Int} (hh : 1 ≤ h) (hx : x < W.cells.length) (ho : (W.cells.getD x .off).home = 0) (y : Int) : (lenW ⟨W.heaps, W.cells.set x ⟨h, k, s⟩⟩ y : Int) = if y = h then (lenW W h : Int) + 1 else lenW W y := by
  by_cases hy : 0 < y
  · have := countP_set (fun c : CellD => (c.home : Int) == y) .off ⟨h, k, s⟩ W.cells x hx
    simp only [ho] at this
    have e0 : ((0 : Nat) : Int) ≠ y := by omega
    by_cases e : y = h
    · subst e
      simp only [lenW, hy, if_true]
      simp at this
      have e1 : ¬ ((0 : Int) = (h : Int)) := by omega
      simp [e1] at this
      omega
    · have e1 : ¬ ((h : Int) = y) := fun e' => e e'.symm
      have e2 : ¬ ((0 : Int) = y) := by omega
      simp [e1, e2] at this
      simp only [lenW, hy, if_true, if_neg e]
      omega
  · have e : y ≠ h := by omega
    simp [lenW, hy, e]
theorem len_drop {W : WS} {x : Nat} (hx : x < W.cells.length) (ho : (W.cells.getD x .off).home ≠ 0) (y : Int) : (lenW ⟨W.heaps, W.cells.set x .off⟩ y : Int) = if y = (W.cells.getD x .off).home then (lenW W (W.cells.getD x .off).home : Int) - 1 else lenW W y := by
  have hp : ∀ h, (W.cells.getD x .off).home = h → 0 < h := by intro h e; omega
  generalize hq : (W.cells.getD x .off).home = h at *
  have hh := hp h rfl
  by_cases hy : 0 < y
  · have := countP_set (fun c : CellD => (c.home : Int) == y) .off .off W.cells x hx
    simp only [hq, show CellD.off.home = 0 from rfl] at this
    have e2 : ¬ ((0 : Int) = y) := by omega
    by_cases e : y = h
    · subst e
      have e3 : ¬ ((0 : Int) = (h : Int)) := by omega
      simp [e3] at this
      simp only [lenW, hy, if_true]
      omega
    · have e1 : ¬ ((h : Int) = y) := fun e' => e e'.symm
      simp [e1, e2] at this
      simp only [lenW, hy, if_true, if_neg e]
      omega
  · have e : y ≠ h := by omega
    simp [lenW, hy, e]
theorem len_lower {W : WS} {x : Nat} {k s : Int} (hx : x < W.cells.length) (y : Int) : lenW ⟨W.heaps, W.cells.set x ⟨(W.cells.getD x .off).home, k, s⟩⟩ y = lenW W y := by
  unfold lenW
  split
  · have := countP_set (fun c : CellD => (c.home : Int) == y) .off ⟨(W.cells.getD x .off).home, k, s⟩ W.cells x hx
    simp only at this ⊢
    omega
  · rfl
theorem count_join (l : List CellD) (a b : Nat) (hab : a ≠ b) (y : Int) (hy : 0 < y) : ((l.map fun c : CellD => if c.home = b then (⟨a, c.key, c.seq⟩ : CellD) else c).countP (fun c => (c.home : Int) == y) : Int)
    = if y = a then (l.countP (fun c => (c.home : Int) == a) : Int) + l.countP (fun c => (c.home : Int) == b) else if y = b then 0 else l.countP (fun c => (c.home : Int) == y) := by
  induction l with
  | nil => simp
  | cons c r ih =>
    simp only [List.map_cons, List.countP_cons, Int.natCast_add]
    rw [ih]
    by_cases h1 : c.home = b
    · rw [if_pos h1]
      by_cases ya : y = a
      · subst ya
        have hne : ¬ (b : Int) = a := by omega
        simp [h1, hne]; omega
      · have ya' : ¬ (a : Int) = y := fun e => ya e.symm
        by_cases yb : y = b
        · subst yb
          simp [ya, ya']
        · have yb' : ¬ (b : Int) = y := fun e => yb e.symm
          simp [ya, ya', yb, yb', h1]
    · rw [if_neg h1]
      have hb : ¬ (c.home : Int) = b := by omega
      by_cases ya : y = a
      · subst ya
        simp [hb]; omega
      · by_cases yb : y = b
        · subst yb
          have ya' : ¬ (b : Int) = a := ya
          simp [ya', hb]
        · simp [ya, yb]
theorem len_join {W : WS} {a b : Nat} (ha : 1 ≤ a) (hb : 1 ≤ b) (hab : a ≠ b) (H : List Bool) (y : Int) : (lenW ⟨H, W.cells.map fun c => if c.home = b then ⟨a, c.key, c.seq⟩ else c⟩ y : Int) = if y = a then (lenW W a : Int) + lenW W b else if y = b then 0 else lenW W y := by
  have ea : (0 : Int) < a := by omega
  have eb : (0 : Int) < b := by omega
  by_cases hy : 0 < y
  · have := count_join W.cells a b hab y hy
    simp only [lenW, hy, ea, eb, if_true]
    exact this
  · have e1 : y ≠ a := by omega
    have e2 : y ≠ b := by omega
    simp [lenW, hy, e1, e2]

/-! ### a nest stays one -/
theorem new_fitW {n : Nat} (h : n ≤ 65536) : (newW n).Fit := by
  refine ⟨by simp [newW], by simp [newW], rfl, by simpa [newW] using h, fun i hi => Or.inl ?_, fun i hi _ => ?_⟩
  · simp only [newW, List.length_replicate] at hi
    simp [newW, List.getD_eq_getElem?_getD, hi, CellD.off]
  · simp only [newW, List.length_replicate] at hi
    simp [newW, List.getD_eq_getElem?_getD, hi]
end Go.Proofs.YtmoolbmbdnkooaaGreat
