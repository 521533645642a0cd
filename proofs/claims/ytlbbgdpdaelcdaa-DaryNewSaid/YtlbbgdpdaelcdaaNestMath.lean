/- A nest as plain data, as the document has it: which heaps there are, and of each slot its heap (0: none) and its entry; what each call answers, and what then is. No program is named here. -/
import GoSem.ClaimData
namespace Go.Proofs.Ytlbbgdpdaelcdaa

/-- Goes the one entry ahead of the other? -/
def lessB (k1 s1 k2 s2 : Int) : Bool := decide (k1 < k2) || (k1 == k2 && decide (s1 < s2))
theorem lessB_same (k s1 s2 : Int) : lessB k s1 k s2 = decide (s1 < s2) := by simp [lessB]
theorem lessB_other {k1 k2 : Int} (h : ¬ k1 = k2) (s1 s2 : Int) : lessB k1 s1 k2 s2 = decide (k1 < k2) := by simp [lessB, h]
theorem lessB_self (k s : Int) : lessB k s k s = false := by simp [lessB]

/-- A slot: in which heap it is (0: in none), and its entry. -/
structure CellD where
  home : Nat
  key : Int
  seq : Int
def CellD.off : CellD := ⟨0, 0, 0⟩
/-- Which heaps there are (place 0 is nobody's), and the slots. -/
structure WS where
  heaps : List Bool
  cells : List CellD
def hasW (W : WS) (h : Int) : Bool := decide (1 ≤ h ∧ h < W.heaps.length) && W.heaps.getD h.toNat false
def slotW (W : WS) (x : Int) : Bool := decide (0 ≤ x ∧ x < W.cells.length)
def cellW (W : WS) (x : Int) : CellD := if slotW W x then W.cells.getD x.toNat .off else .off
def inW (W : WS) (x : Int) : Bool := (cellW W x).home != 0
def lenW (W : WS) (h : Int) : Nat := if 0 < h then W.cells.countP (fun c => (c.home : Int) == h) else 0
/-- Is one entry, with its slot, ahead of another one? -/
def aheadC (c d : CellD) (a b : Int) : Bool := lessB c.key c.seq d.key d.seq || ((c.key == d.key && c.seq == d.seq) && decide (a < b))
def aheadW (W : WS) (a b : Int) : Bool := (inW W a && inW W b) && aheadC (cellW W a) (cellW W b) a b

def newW (n : Nat) : WS := ⟨[false], List.replicate n .off⟩
def canMakeW (W : WS) : Bool := decide (W.heaps.length ≤ 65536)
def madeW (W : WS) : Int := if canMakeW W then W.heaps.length else 0
def makeW (W : WS) : WS := if canMakeW W then ⟨W.heaps ++ [true], W.cells⟩ else W
def putB (W : WS) (h x : Int) : Bool := hasW W h && (slotW W x && !inW W x)
def putW (W : WS) (h x k s : Int) : WS := if putB W h x then ⟨W.heaps, W.cells.set x.toNat ⟨h.toNat, k, s⟩⟩ else W
def dropW (W : WS) (x : Int) : WS := if inW W x then ⟨W.heaps, W.cells.set x.toNat .off⟩ else W
def lowerB (W : WS) (x k s : Int) : Bool := inW W x && !lessB (cellW W x).key (cellW W x).seq k s
def lowerW (W : WS) (x k s : Int) : WS := if lowerB W x k s then ⟨W.heaps, W.cells.set x.toNat ⟨(cellW W x).home, k, s⟩⟩ else W
def joinBW (W : WS) (a b : Int) : Bool := hasW W a && (hasW W b && decide (a ≠ b))
def joinW (W : WS) (a b : Int) : WS := if joinBW W a b then ⟨W.heaps.set b.toNat false, W.cells.map fun c => if c.home = b.toNat then ⟨a.toNat, c.key, c.seq⟩ else c⟩ else W

theorem has_nat {W : WS} {h : Int} (hh : hasW W h = true) : ∃ i : Nat, h = i ∧ 1 ≤ i ∧ i < W.heaps.length ∧ W.heaps.getD i false = true := by
  simp only [hasW, Bool.and_eq_true, decide_eq_true_eq] at hh
  exact ⟨h.toNat, by omega, by omega, by omega, hh.2⟩
theorem slot_nat {W : WS} {x : Int} (hx : slotW W x = true) : ∃ i : Nat, x = i ∧ i < W.cells.length := by
  simp only [slotW, decide_eq_true_eq] at hx
  exact ⟨x.toNat, by omega, by omega⟩
theorem cell_nat (W : WS) (i : Nat) (hi : i < W.cells.length) : cellW W i = W.cells.getD i .off := by
  have : slotW W i = true := by simp [slotW]; omega
  simp [cellW, this]
theorem cell_off {W : WS} {x : Int} (h : slotW W x = false) : cellW W x = .off := by simp [cellW, h]
theorem in_slot {W : WS} {x : Int} (h : inW W x = true) : slotW W x = true := by
  cases hs : slotW W x
  · simp [inW, cell_off hs, CellD.off] at h
  · rfl
theorem in_nat {W : WS} {x : Int} (h : inW W x = true) : ∃ i : Nat, x = i ∧ i < W.cells.length ∧ (W.cells.getD i .off).home ≠ 0 := by
  obtain ⟨i, rfl, hi⟩ := slot_nat (in_slot h)
  refine ⟨i, rfl, hi, ?_⟩
  simpa [inW, cell_nat W i hi] using h

/-- What always holds of a nest. -/
structure WS.Fit (W : WS) : Prop where
  pos : 1 ≤ W.heaps.length
  len : W.heaps.length ≤ 65537
  zero : W.heaps.getD 0 false = false
  cap : W.cells.length ≤ 65536
  home : ∀ i, i < W.cells.length → (W.cells.getD i .off).home = 0 ∨ hasW W (W.cells.getD i .off).home = true
  off : ∀ i, i < W.cells.length → (W.cells.getD i .off).home = 0 → W.cells.getD i .off = .off
theorem WS.Fit.cellOff {W : WS} (h : W.Fit) {x : Int} (hx : inW W x = false) : cellW W x = .off := by
  cases hs : slotW W x
  · exact cell_off hs
  · obtain ⟨i, rfl, hi⟩ := slot_nat hs
    rw [cell_nat W i hi]
    refine h.off i hi ?_
    simpa [inW, cell_nat W i hi] using hx

theorem countP_set {α : Type} (p : α → Bool) (d c : α) (l : List α) (i : Nat) (hi : i < l.length) : (l.set i c).countP p + (if p (l.getD i d) then 1 else 0) = l.countP p + (if p c then 1 else 0) := by
  induction l generalizing i with
  | nil => simp at hi
  | cons a r ih =>
    cases i with
    | zero => simp only [List.set_cons_zero, List.countP_cons, List.getD_cons_zero]; omega
    | succ i =>
      have := ih i (by simpa using hi)
      simp only [List.set_cons_succ, List.countP_cons, List.getD_cons_succ]
      omega
theorem len_le (W : WS) (h : Int) : lenW W h ≤ W.cells.length := by
  unfold lenW
  split
  · exact List.countP_le_length
  · exact Nat.zero_le _
theorem len_none {W : WS} (hW : W.Fit) {h : Int} (hh : hasW W h = false) : lenW W h = 0 := by
  unfold lenW
  split
  · rename_i hp
    rw [List.countP_eq_zero]
    intro c hc hce
    obtain ⟨i, hi, rfl⟩ := List.getElem_of_mem hc
    have e : W.cells.getD i .off = W.cells[i] := by simp [List.getD_eq_getElem?_getD, hi]
    have h1 := hW.home i hi
    rw [e] at h1
    simp only [beq_iff_eq] at hce
    rcases h1 with h1 | h1
    · omega
    · rw [hce] at h1; rw [h1] at hh; cases hh
  · rfl
/-- How many are in each heap, behind a call. -/
theorem len_put {W : WS} {h : Nat} {x : Nat} {k s : Int} (hh : 1 ≤ h) (hx : x < W.cells.length) (ho : (W.cells.getD x .off).home = 0) (y : Int) : (lenW ⟨W.heaps, W.cells.set x ⟨h, k, s⟩⟩ y : Int) = if y = h then (lenW W h : Int) + 1 else lenW W y := by
  by_cases hy : 0 < y
  · have := countP_set (fun c : CellD => (c.home : Int) == y) .off ⟨h, k, s⟩ W.cells x hx
    simp only [ho] at this
    have e0 : ((0 : Nat) : Int) ≠ y := by omega
    by_cases e : y = h
    · subst e
      simp only [lenW, hy, if_true]
      simp at this
      have e1 : ¬ ((0 : Int) = (h : Int)) := by omega
      simp [e1] at this
      omega
    · have e1 : ¬ ((h : Int) = y) := fun e' => e e'.symm
      have e2 : ¬ ((0 : Int) = y) := by omega
      simp [e1, e2] at this
      simp only [lenW, hy, if_true, if_neg e]
      omega
  · have e : y ≠ h := by omega
    simp [lenW, hy, e]
theorem len_drop {W : WS} {x : Nat} (hx : x < W.cells.length) (ho : (W.cells.getD x .off).home ≠ 0) (y : Int) : (lenW ⟨W.heaps, W.cells.set x .off⟩ y : Int) = if y = (W.cells.getD x .off).home then (lenW W (W.cells.getD x .off).home : Int) - 1 else lenW W y := by
  have hp : ∀ h, (W.cells.getD x .off).home = h → 0 < h := by intro h e; omega
  generalize hq : (W.cells.getD x .off).home = h at *
  have hh := hp h rfl
  by_cases hy : 0 < y
  · have := countP_set (fun c : CellD => (c.home : Int) == y) .off .off W.cells x hx
    simp only [hq, show CellD.off.home = 0 from rfl] at this
    have e2 : ¬ ((0 : Int) = y) := by omega
    by_cases e : y = h
    · subst e
      have e3 : ¬ ((0 : Int) = (h : Int)) := by omega
      simp [e3] at this
      simp only [lenW, hy, if_true]
      omega
    · have e1 : ¬ ((h : Int) = y) := fun e' => e e'.symm
      simp [e1, e2] at this
      simp only [lenW, hy, if_true, if_neg e]
      omega
  · have e : y ≠ h := by omega
    simp [lenW, hy, e]
theorem len_lower {W : WS} {x : Nat} {k s : Int} (hx : x < W.cells.length) (y : Int) : lenW ⟨W.heaps, W.cells.set x ⟨(W.cells.getD x .off).home, k, s⟩⟩ y = lenW W y := by
  unfold lenW
  split
  · have := countP_set (fun c : CellD => (c.home : Int) == y) .off ⟨(W.cells.getD x .off).home, k, s⟩ W.cells x hx
    simp only at this ⊢
    omega
  · rfl
theorem count_join (l : List CellD) (a b : Nat) (hab : a ≠ b) (y : Int) (hy : 0 < y) : ((l.map fun c : CellD => if c.home = b then (⟨a, c.key, c.seq⟩ : CellD) else c).countP (fun c => (c.home : Int) == y) : Int)
    = if y = a then (l.countP (fun c => (c.home : Int) == a) : Int) + l.countP (fun c => (c.home : Int) == b) else if y = b then 0 else l.countP (fun c => (c.home : Int) == y) := by
  induction l with
  | nil => simp
  | cons c r ih =>
    simp only [List.map_cons, List.countP_cons, Int.natCast_add]
    rw [ih]
    by_cases h1 : c.home = b
    · rw [if_pos h1]
      by_cases ya : y = a
      · subst ya
        have hne : ¬ (b : Int) = a := by omega
        simp [h1, hne]; omega
      · have ya' : ¬ (a : Int) = y := fun e => ya e.symm
        by_cases yb : y = b
        · subst yb
          simp [ya, ya']
        · have yb' : ¬ (b : Int) = y := fun e => yb e.symm
          simp [ya, ya', yb, yb', h1]
    · rw [if_neg h1]
      have hb : ¬ (c.home : Int) = b := by omega
      by_cases ya : y = a
      · subst ya
        simp [hb]; omega
      · by_cases yb : y = b
        · subst yb
          have ya' : ¬ (b : Int) = a := ya
          simp [ya', hb]
        · simp [ya, yb]
theorem len_join {W : WS} {a b : Nat} (ha : 1 ≤ a) (hb : 1 ≤ b) (hab : a ≠ b) (H : List Bool) (y : Int) : (lenW ⟨H, W.cells.map fun c => if c.home = b then ⟨a, c.key, c.seq⟩ else c⟩ y : Int) = if y = a then (lenW W a : Int) + lenW W b else if y = b then 0 else lenW W y := by
  have ea : (0 : Int) < a := by omega
  have eb : (0 : Int) < b := by omega
  by_cases hy : 0 < y
  · have := count_join W.cells a b hab y hy
    simp only [lenW, hy, ea, eb, if_true]
    exact this
  · have e1 : y ≠ a := by omega
    have e2 : y ≠ b := by omega
    simp [lenW, hy, e1, e2]

/-! ### a nest stays one -/
theorem new_fitW {n : Nat} (h : n ≤ 65536) : (newW n).Fit := by
  refine ⟨by simp [newW], by simp [newW], rfl, by simpa [newW] using h, fun i hi => Or.inl ?_, fun i hi _ => ?_⟩
  · simp only [newW, List.length_replicate] at hi
    simp [newW, List.getD_eq_getElem?_getD, hi, CellD.off]
  · simp only [newW, List.length_replicate] at hi
    simp [newW, List.getD_eq_getElem?_getD, hi]
end Go.Proofs.Ytlbbgdpdaelcdaa
