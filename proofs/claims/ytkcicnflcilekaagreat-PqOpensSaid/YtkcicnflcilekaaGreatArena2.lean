/- Merged of NestMath, NestMinMath, PqMath, Own, Arena, Arena2. -/
import GoSem.ClaimData
import Derived.Test.YtkcicnflcilekaaGreatArenaMath
import Derived.Laws.OwnMore
import Derived.WalkSmall
import Derived.Test.YtkcicnflcilekaaGreatChecked
import Derived.WalkLawsBesides
import Derived.WalkSpells
import Derived.IntWalk
import Derived.Laws.StructEq
import Derived.StillTailTactics
namespace Go.Proofs.YtkcicnflcilekaaGreat

/-- Goes the one entry ahead of the other? -/
def lessB (k1 s1 k2 s2 : Int) : Bool := decide (k1 < k2) || (k1 == k2 && decide (s1 < s2))
theorem lessB_same (k s1 s2 : Int) : lessB k s1 k s2 = decide (s1 < s2) := by simp [lessB]
theorem lessB_other {k1 k2 : Int} (h : ¬ k1 = k2) (s1 s2 : Int) : lessB k1 s1 k2 s2 = decide (k1 < k2) := by simp [lessB, h]
theorem lessB_self (k s : Int) : lessB k s k s = false := by simp [lessB]

/-- A slot: in which heap it is (0: in none), and its entry. -/
structure CellD where
  home : Nat
  key : Int
  seq : Int
def CellD.off : CellD := ⟨0, 0, 0⟩
/-- Which heaps there are (place 0 is nobody's), and the slots. -/
structure WS where
  heaps : List Bool
  cells : List CellD
def hasW (W : WS) (h : Int) : Bool := decide (1 ≤ h ∧ h < W.heaps.length) && W.heaps.getD h.toNat false
def slotW (W : WS) (x : Int) : Bool := decide (0 ≤ x ∧ x < W.cells.length)
def cellW (W : WS) (x : Int) : CellD := if slotW W x then W.cells.getD x.toNat .off else .off
def inW (W : WS) (x : Int) : Bool := (cellW W x).home != 0
def lenW (W : WS) (h : Int) : Nat := if 0 < h then W.cells.countP (fun c => (c.home : Int) == h) else 0
/-- Is one entry, with its slot, ahead of another one? -/
def aheadC (c d : CellD) (a b : Int) : Bool := lessB c.key c.seq d.key d.seq || ((c.key == d.key && c.seq == d.seq) && decide (a < b))
def aheadW (W : WS) (a b : Int) : Bool := (inW W a && inW W b) && aheadC (cellW W a) (cellW W b) a b

def newW (n : Nat) : WS := ⟨[false], List.replicate n .off⟩
def canMakeW (W : WS) : Bool := decide (W.heaps.length ≤ 65536)
def madeW (W : WS) : Int := if canMakeW W then W.heaps.length else 0
def makeW (W : WS) : WS := if canMakeW W then ⟨W.heaps ++ [true], W.cells⟩ else W
def putB (W : WS) (h x : Int) : Bool := hasW W h && (slotW W x && !inW W x)
def putW (W : WS) (h x k s : Int) : WS := if putB W h x then ⟨W.heaps, W.cells.set x.toNat ⟨h.toNat, k, s⟩⟩ else W
def dropW (W : WS) (x : Int) : WS := if inW W x then ⟨W.heaps, W.cells.set x.toNat .off⟩ else W

theorem has_nat {W : WS} {h : Int} (hh : hasW W h = true) : ∃ i : Nat, h = i ∧ 1 ≤ i ∧ i < W.heaps.length ∧ W.heaps.getD i false = true := by
  simp only [hasW, Bool.and_eq_true, decide_eq_true_eq] at hh
  exact ⟨h.toNat, by omega, by omega, by omega, hh.2⟩
theorem slot_nat {W : WS} {x : Int} (hx : slotW W x = true) : ∃ i : Nat, x = i ∧ i < W.cells.length := by
  simp only [slotW, decide_eq_true_eq] at hx
  exact ⟨x.toNat, by omega, by omega⟩
theorem cell_nat (W : WS) (i : Nat) (hi : i < W.cells.length) : cellW W i = W.cells.getD i .off := by
  have : slotW W i = true := by simp [slotW]; omega
  simp [cellW, this]
theorem cell_off {W : WS} {x : Int} (h : slotW W x = false) : cellW W x = .off := by simp [cellW, h]
theorem in_slot {W : WS} {x : Int} (h : inW W x = true) : slotW W x = true := by
  cases hs : slotW W x
  · simp [inW, cell_off hs, CellD.off] at h
  · rfl
theorem in_nat {W : WS} {x : Int} (h : inW W x = true) : ∃ i : Nat, x = i ∧ i < W.cells.length ∧ (W.cells.getD i .off).home ≠ 0 := by
  obtain ⟨i, rfl, hi⟩ := slot_nat (in_slot h)
  refine ⟨i, rfl, hi, ?_⟩
  simpa [inW, cell_nat W i hi] using h

/-- What always holds of a nest. -/
structure WS.Fit (W : WS) : Prop where
  pos : 1 ≤ W.heaps.length
  len : W.heaps.length ≤ 65537
  zero : W.heaps.getD 0 false = false
  cap : W.cells.length ≤ 65536
  home : ∀ i, i < W.cells.length → (W.cells.getD i .off).home = 0 ∨ hasW W (W.cells.getD i .off).home = true
  off : ∀ i, i < W.cells.length → (W.cells.getD i .off).home = 0 → W.cells.getD i .off = .off

theorem countP_set {α : Type} (p : α → Bool) (d c : α) (l : List α) (i : Nat) (hi : i < l.length) : (l.set i c).countP p + (if p (l.getD i d) then 1 else 0) = l.countP p + (if p c then 1 else 0) := by
  induction l generalizing i with
  | nil => simp at hi
  | cons a r ih =>
    cases i with
    | zero => simp only [List.set_cons_zero, List.countP_cons, List.getD_cons_zero]; omega
    | succ i =>
      have := ih i (by simpa using hi)
      simp only [List.set_cons_succ, List.countP_cons, List.getD_cons_succ]
      omega
theorem len_le (W : WS) (h : Int) : lenW W h ≤ W.cells.length := by
  unfold lenW
  split
  · exact List.countP_le_length
  · exact Nat.zero_le _
/-- How many are in each heap, behind a call. -/
theorem len_put {W : WS} {h : Nat} {x : Nat} {k s : Int} (hh : 1 ≤ h) (hx : x < W.cells.length) (ho : (W.cells.getD x .off).home = 0) (y : Int) : (lenW ⟨W.heaps, W.cells.set x ⟨h, k, s⟩⟩ y : Int) = if y = h then (lenW W h : Int) + 1 else lenW W y := by
  by_cases hy : 0 < y
  · have := countP_set (fun c : CellD => (c.home : Int) == y) .off ⟨h, k, s⟩ W.cells x hx
    simp only [ho] at this
    have e0 : ((0 : Nat) : Int) ≠ y := by omega
    by_cases e : y = h
    · subst e
      simp only [lenW, hy, if_true]
      simp at this
      have e1 : ¬ ((0 : Int) = (h : Int)) := by omega
      simp [e1] at this
      omega
    · have e1 : ¬ ((h : Int) = y) := fun e' => e e'.symm
      have e2 : ¬ ((0 : Int) = y) := by omega
      simp [e1, e2] at this
      simp only [lenW, hy, if_true, if_neg e]
      omega
  · have e : y ≠ h := by omega
    simp [lenW, hy, e]

/-! ### a nest stays one -/
theorem new_fitW {n : Nat} (h : n ≤ 65536) : (newW n).Fit := by
  refine ⟨by simp [newW], by simp [newW], rfl, by simpa [newW] using h, fun i hi => Or.inl ?_, fun i hi _ => ?_⟩
  · simp only [newW, List.length_replicate] at hi
    simp [newW, List.getD_eq_getElem?_getD, hi, CellD.off]
  · simp only [newW, List.length_replicate] at hi
    simp [newW, List.getD_eq_getElem?_getD, hi]
end Go.Proofs.YtkcicnflcilekaaGreat

namespace Go.Proofs.YtkcicnflcilekaaGreat

theorem ahead_iff (c d : CellD) (a b : Int) : aheadC c d a b = true ↔ c.key < d.key ∨ (c.key = d.key ∧ (c.seq < d.seq ∨ (c.seq = d.seq ∧ a < b))) := by
  simp only [aheadC, lessB, Bool.or_eq_true, Bool.and_eq_true, decide_eq_true_eq, beq_iff_eq]
  omega
theorem ahead_asymm {c d : CellD} {a b : Int} (h : aheadC c d a b = true) : aheadC d c b a = false := by
  cases h2 : aheadC d c b a
  · rfl
  · rw [ahead_iff] at h h2; omega
theorem ahead_trans {c d e : CellD} {x y z : Int} (h : aheadC c d x y = true) (h2 : aheadC d e y z = true) : aheadC c e x z = true := by
  rw [ahead_iff] at *; omega
theorem ahead_total {c d : CellD} {a b : Int} (h : a ≠ b) (h2 : aheadC c d a b = false) : aheadC d c b a = true := by
  have h3 : ¬ (aheadC c d a b = true) := by simp [h2]
  rw [ahead_iff] at h3 ⊢
  omega
def homeAt (W : WS) (i : Nat) : Nat := (W.cells.getD i .off).home
theorem ahead_nat {W : WS} {i j : Nat} (hi : i < W.cells.length) (hj : j < W.cells.length) (h1 : homeAt W i ≠ 0) (h2 : homeAt W j ≠ 0) : aheadW W i j = aheadC (W.cells.getD i .off) (W.cells.getD j .off) i j := by
  unfold homeAt at h1 h2
  simp only [aheadW, inW, cell_nat W i hi, cell_nat W j hj, bne_iff_ne.2 h1, bne_iff_ne.2 h2, Bool.and_self, Bool.true_and]

/-- Of the first k slots that of the heap h that is ahead of all others. -/
def minTo (W : WS) (h : Int) : Nat → Option Nat
  | 0 => none
  | k + 1 => if 0 < h ∧ (homeAt W k : Int) = h then (match minTo W h k with | none => some k | some b => if aheadW W k b then some k else some b) else minTo W h k
def minW (W : WS) (h : Int) : Option Nat := minTo W h W.cells.length
/-- m is in h, and ahead of all others of it. -/
structure IsMin (W : WS) (h : Int) (m : Nat) : Prop where
  lt : m < W.cells.length
  pos : 0 < h
  home : (homeAt W m : Int) = h
  ahead : ∀ j, j < W.cells.length → (homeAt W j : Int) = h → j ≠ m → aheadW W m j = true
theorem minTo_some {W : WS} {h : Int} : ∀ (k : Nat), k ≤ W.cells.length → ∀ m, minTo W h k = some m → m < k ∧ 0 < h ∧ (homeAt W m : Int) = h ∧ ∀ j, j < k → (homeAt W j : Int) = h → j ≠ m → aheadW W m j = true
  | 0, _, m, e => by simp [minTo] at e
  | k + 1, hk, m, e => by
    have ih := minTo_some (W := W) (h := h) k (by omega)
    rw [minTo] at e
    by_cases hc : 0 < h ∧ (homeAt W k : Int) = h
    · rw [if_pos hc] at e
      have hkn : homeAt W k ≠ 0 := by omega
      cases hm : minTo W h k with
      | none =>
        rw [hm] at e
        simp only [Option.some.injEq] at e
        subst e
        refine ⟨by omega, hc.1, hc.2, fun j hj hh hne => ?_⟩
        exfalso
        -- none: nobody ahead of k is in h
        have : ∀ q, q ≤ W.cells.length → minTo W h q = none → ∀ i, i < q → ¬ (homeAt W i : Int) = h := by
          intro q
          induction q with
          | zero => intro _ _ i hi; omega
          | succ q ihq =>
            intro hq e i hi hh
            rw [minTo] at e
            by_cases hc2 : 0 < h ∧ (homeAt W q : Int) = h
            · rw [if_pos hc2] at e
              cases hm2 : minTo W h q with
              | none => rw [hm2] at e; simp at e
              | some b => rw [hm2] at e; simp only at e; split at e <;> simp at e
            · rw [if_neg hc2] at e
              by_cases hiq : i = q
              · subst hiq; exact hc2 ⟨hc.1, hh⟩
              · exact ihq (by omega) e i (by omega) hh
        exact this k (by omega) hm j (by omega) hh
      | some b =>
        obtain ⟨b1, b2, b3, b4⟩ := ih b hm
        have hbn : homeAt W b ≠ 0 := by omega
        rw [hm] at e
        simp only at e
        cases ha : aheadW W k b
        · rw [ha] at e
          simp only [Bool.false_eq_true, if_false, Option.some.injEq] at e
          subst e
          refine ⟨by omega, b2, b3, fun j hj hh hne => ?_⟩
          by_cases hjk : j = k
          · subst hjk
            rw [ahead_nat (by omega) (by omega) hkn hbn] at ha
            rw [ahead_nat (by omega) (by omega) hbn hkn]
            exact ahead_total (by omega) ha
          · exact b4 j (by omega) hh hne
        · rw [ha] at e
          simp only [if_true, Option.some.injEq] at e
          subst e
          refine ⟨by omega, hc.1, hc.2, fun j hj hh hne => ?_⟩
          have hjn : homeAt W j ≠ 0 := by omega
          by_cases hjb : j = b
          · subst hjb; exact ha
          · have h1 := b4 j (by omega) hh hjb
            rw [ahead_nat (by omega) (by omega) hkn hbn] at ha
            rw [ahead_nat (by omega) (by omega) hbn hjn] at h1
            rw [ahead_nat (by omega) (by omega) hkn hjn]
            exact ahead_trans ha h1
    · rw [if_neg hc] at e
      obtain ⟨m1, m2, m3, m4⟩ := ih m e
      refine ⟨by omega, m2, m3, fun j hj hh hne => ?_⟩
      by_cases hjk : j = k
      · subst hjk; exact absurd ⟨m2, hh⟩ hc
      · exact m4 j (by omega) hh hne
theorem minTo_none {W : WS} {h : Int} (hp : 0 < h) : ∀ (k : Nat), minTo W h k = none → ∀ i, i < k → ¬ (homeAt W i : Int) = h
  | 0, _, i, hi => by omega
  | k + 1, e, i, hi => by
    intro hh
    rw [minTo] at e
    by_cases hc : 0 < h ∧ (homeAt W k : Int) = h
    · rw [if_pos hc] at e
      cases hm : minTo W h k with
      | none => rw [hm] at e; simp at e
      | some b => rw [hm] at e; simp only at e; split at e <;> simp at e
    · rw [if_neg hc] at e
      by_cases hik : i = k
      · subst hik; exact hc ⟨hp, hh⟩
      · exact minTo_none hp k e i (by omega) hh
theorem min_is {W : WS} {h : Int} {m : Nat} (e : minW W h = some m) : IsMin W h m := by
  obtain ⟨h1, h2, h3, h4⟩ := minTo_some W.cells.length (Nat.le_refl _) m e
  exact ⟨h1, h2, h3, h4⟩
theorem isMin_uniq {W : WS} {h : Int} {m n : Nat} (a : IsMin W h m) (b : IsMin W h n) : m = n := by
  by_cases e : m = n
  · exact e
  · have hp := a.pos
    have h1 := a.ahead n b.lt b.home (fun x => e x.symm)
    have h2 := b.ahead m a.lt a.home e
    have e1 := a.home
    have e2 := b.home
    have hm : homeAt W m ≠ 0 := by omega
    have hn : homeAt W n ≠ 0 := by omega
    rw [ahead_nat a.lt b.lt hm hn] at h1
    rw [ahead_nat b.lt a.lt hn hm] at h2
    rw [ahead_asymm h1] at h2
    cases h2
/-- Whoever finds one that is ahead of all others has found that one. -/
theorem min_of {W : WS} {h : Int} {m : Nat} (a : IsMin W h m) : minW W h = some m := by
  cases e : minW W h with
  | none => exact absurd a.home (minTo_none a.pos _ e m a.lt)
  | some n => rw [isMin_uniq a (min_is e)]
theorem len_zero {W : WS} {h : Int} : lenW W h = 0 ↔ ∀ i, i < W.cells.length → 0 < h → ¬ (homeAt W i : Int) = h := by
  unfold lenW
  by_cases hp : 0 < h
  · rw [if_pos hp, List.countP_eq_zero]
    constructor
    · intro H i hi _ e
      refine H (W.cells.getD i .off) (by simp [List.getD_eq_getElem?_getD, hi]) ?_
      simpa [homeAt] using e
    · intro H c hc e
      obtain ⟨i, hi, rfl⟩ := List.getElem_of_mem hc
      refine H i hi hp ?_
      have : W.cells.getD i .off = W.cells[i] := by simp [List.getD_eq_getElem?_getD, hi]
      rw [homeAt, this]
      simpa using e
  · simp [hp]
theorem min_none_iff {W : WS} {h : Int} : minW W h = none ↔ lenW W h = 0 := by
  rw [len_zero]
  constructor
  · intro e i hi hp
    exact minTo_none hp _ e i hi
  · intro H
    cases e : minW W h with
    | none => rfl
    | some m => exact absurd (min_is e).home (H m (min_is e).lt (min_is e).pos)
theorem isMin_in {W : WS} {h : Int} {m : Nat} (a : IsMin W h m) : inW W m = true ∧ dropW W m = ⟨W.heaps, W.cells.set m .off⟩ := by
  have hp := a.pos
  have e := a.home
  have hn : homeAt W m ≠ 0 := by omega
  have h1 : inW W m = true := by
    rw [inW, cell_nat W m a.lt]
    exact bne_iff_ne.2 hn
  exact ⟨h1, by simp [dropW, h1]⟩

/-! ### heaps by themselves -/

/-! ### heap by heap comes out -/
end Go.Proofs.YtkcicnflcilekaaGreat

namespace Go.Proofs.YtkcicnflcilekaaGreat

structure SS where
  A : AS
  W : WS
  q : Nat
def outB (A : AS) (i : Nat) : Bool := (A.used.getD i (0, false)).2
def genA (A : AS) (i : Nat) : Nat := (A.used.getD i (0, false)).1
/-- The slots in heaps are those that are out. -/
structure SS.Ok (S : SS) : Prop where
  cap : S.W.cells.length = S.A.cap
  out : ∀ i : Nat, inW S.W i = outB S.A i
/-- What is answered: a record's reply. -/
structure Rp where
  code : Int
  heap : Int
  slot : Int
  gen : Int
  key : Int
  n : Int
def Rp.err (c : Int) : Rp := ⟨c, 0, 0, 0, 0, 0⟩
def openS (n m : Nat) : SS := ⟨⟨n, m, [], [], 0⟩, newW n, 0⟩
def mkS (S : SS) : SS := ⟨S.A, makeW S.W, S.q⟩
def mkR (S : SS) : Rp := ⟨if madeW S.W = 0 then 32 else 0, madeW S.W, 0, 0, 0, 0⟩
def insS (S : SS) (h k : Int) : SS := if hasW S.W h then (match takeA S.A with | some (s, _, A) => ⟨A, putW S.W h s k (S.q + 1), S.q + 1⟩ | none => S) else S
def insR (S : SS) (h : Int) : Rp := if hasW S.W h then (match takeA S.A with | some (s, g, _) => ⟨0, 0, s, g, 0, 0⟩ | none => .err 32) else .err 171
def minR (S : SS) (h : Int) : Rp := if hasW S.W h then (match minW S.W h with | some m => ⟨0, 0, m, genA S.A m, (cellW S.W m).key, 0⟩ | none => .err 172) else .err 171

theorem inHome (W : WS) (i : Nat) : inW W i = ((W.cells.getD i .off).home != 0) := by
  unfold inW cellW
  split
  · simp
  · rename_i h
    have : W.cells.length ≤ i := by simp [slotW] at h; omega
    rw [List.getD_eq_getElem?_getD, List.getElem?_eq_none this]; rfl
theorem in_nil (n : Nat) (i : Nat) : inW (newW n) i = false := by
  rw [inHome]
  simp only [newW, List.getD_eq_getElem?_getD, List.getElem?_replicate]
  split <;> rfl
theorem in_set (W : WS) (H : List Bool) {s : Nat} (hs : s < W.cells.length) (c : CellD) (i : Nat) : inW ⟨H, W.cells.set s c⟩ i = if s = i then c.home != 0 else inW W i := by
  rw [inHome, inHome]
  simp only
  rw [getD_setAr _ _ _ _ _ hs]
  split <;> rfl
theorem in_made (W : WS) (i : Nat) : inW (makeW W) i = inW W i := by unfold makeW; split <;> rfl
theorem cells_make (W : WS) : (makeW W).cells = W.cells := by unfold makeW; split <;> rfl
theorem len_cells_put (W : WS) (h s k q : Int) : (putW W h s k q).cells.length = W.cells.length := by unfold putW; split <;> simp

theorem ok_open (n m : Nat) : (openS n m).Ok := ⟨by simp [openS, newW], fun i => by rw [openS, in_nil]; rfl⟩
theorem ok_new {S : SS} (h : S.Ok) : (mkS S).Ok := ⟨by unfold mkS; rw [cells_make]; exact h.cap, fun i => by unfold mkS; rw [in_made]; exact h.out i⟩
/-- A slot that is taken is in no heap: it comes into one. -/
theorem take_put {S : SS} (h : S.Ok) (hA : S.A.Fit) {s g : Nat} {A : AS} (ht : takeA S.A = some (s, g, A)) {y : Int} (hy : hasW S.W y = true) : putB S.W y s = true ∧ s < S.W.cells.length := by
  obtain ⟨hf, hc, _, _, _, hs, _, hn, _⟩ := take_fit hA ht
  have h1 : s < S.W.cells.length := by rw [h.cap, ← hc]; exact Nat.lt_of_lt_of_le hs hf.used
  have h2 : inW S.W s = false := by
    rw [h.out]
    rcases take_cases S.A with ⟨ws, k, hw, ht'⟩ | ⟨_, _, ht'⟩ | ⟨_, _, ht'⟩
    · rw [ht'] at ht; cases ht
      exact (hA.waits _ (by rw [hw]; simp)).2.1
    · rw [ht'] at ht; cases ht
      simp [outB]
    · rw [ht'] at ht; cases ht
  have h3 : slotW S.W s = true := by simp [slotW]; omega
  exact ⟨by simp [putB, hy, h2, h3], h1⟩
theorem out_take {A A' : AS} {s g : Nat} (hA : A.Fit) (ht : takeA A = some (s, g, A')) (i : Nat) : A'.used.getD i (0, false) = if s = i then (g, true) else A.used.getD i (0, false) := by
  rcases take_cases A with ⟨ws, k, hw, ht'⟩ | ⟨_, _, ht'⟩ | ⟨_, _, ht'⟩
  · rw [ht'] at ht; cases ht
    exact getD_setAr _ _ _ _ _ (hA.waits _ (by rw [hw]; simp)).1
  · rw [ht'] at ht; cases ht
    rw [getD_snocAr]
    simp only [eq_comm]
  · rw [ht'] at ht; cases ht
theorem ok_ins {S : SS} (h : S.Ok) (hA : S.A.Fit) {s g : Nat} {A : AS} (ht : takeA S.A = some (s, g, A)) {y : Int} (hy : hasW S.W y = true) (k q : Int) (p : Nat) : (SS.mk A (putW S.W y s k q) p).Ok := by
  obtain ⟨hp, hs⟩ := take_put h hA ht hy
  refine ⟨by simp only; rw [len_cells_put, h.cap, (take_fit hA ht).2.1], fun i => ?_⟩
  obtain ⟨z, rfl, hz, _⟩ := has_nat hy
  simp only [putW, hp, if_true, Int.toNat_natCast]
  rw [in_set _ _ hs, outB, out_take hA ht]
  split
  · simp; omega
  · exact h.out i
/-- The first of a heap is out. -/
theorem min_out {S : SS} (h : S.Ok) {y : Int} {m : Nat} (e : minW S.W y = some m) : m < S.A.used.length ∧ S.A.used.getD m (0, false) = (genA S.A m, true) ∧ liveB S.A m (genA S.A m) = true := by
  have hm := min_is e
  have hi := (isMin_in hm).1
  rw [h.out, outB] at hi
  have hl : m < S.A.used.length := by
    by_cases hc : m < S.A.used.length
    · exact hc
    · rw [List.getD_eq_getElem?_getD, List.getElem?_eq_none (by omega)] at hi; cases hi
  have hp : S.A.used.getD m (0, false) = (genA S.A m, true) := Prod.ext rfl hi
  exact ⟨hl, hp, live_of hl hp⟩
end Go.Proofs.YtkcicnflcilekaaGreat

namespace Go.Proofs.YtkcicnflcilekaaGreat
open Go.RowKit Go.Sort

/-- A call on an object whose blocks are F: nothing else that was there has turned; its blocks are now F', old ones of its own or new. -/
structure Moved (F F' : Nat → Prop) (w w' : World) : Prop where
  keeps : Keeps F w w'
  grow : ∀ k, F' k → F k ∨ w.heap.size ≤ k
theorem Moved.refl (F : Nat → Prop) (w : World) : Moved F F w w := ⟨Keeps.refl _ _, fun _ h => Or.inl h⟩
theorem Moved.of_below {F : Nat → Prop} {a b : World} (h : Below a.heap.size a b) : Moved F F a b := ⟨Keeps.of_below_all h F, fun _ h => Or.inl h⟩
/-- Two objects that share no block share none behind a call on one of them. -/
theorem Moved.apart {F F' G : Nat → Prop} {w w' : World} (h : Moved F F' w w') (hG : ∀ k, G k → k < w.heap.size) (hd : ∀ k, F k → ¬ G k) : ∀ k, F' k → ¬ G k := by
  intro k hk hg
  rcases h.grow k hk with h1 | h1
  · exact hd k h1 hg
  · have := hG k hg; omega

/-- The blocks of a row. -/
def rowF (v : Value) : Nat → Prop := fun k => v.ownBlock = some k
/-- An owned row under a call that has turned other blocks alone. -/
theorem owns_keeps {F : Nat → Prop} {w w' : World} {base : Nat} {e : TypeId} {size : Nat} {v : Value} {n : Nat} {xs : List Value} (h : w.ownsRow base e size v n xs) (k : Keeps F w w') (hn : ∀ b, rowF v b → ¬ F b) : w'.ownsRow base e size v n xs := owns_keep h k hn
theorem owns_set_other {w : World} {base : Nat} {e : TypeId} {size : Nat} {v : Value} {n : Nat} {xs : List Value} (h : w.ownsRow base e size v n xs) {a : Addr} (ha : v.ownBlock ≠ some a.block) (u : Value) : (w.setCell a u).ownsRow base e size v n xs :=
  owns_keep h (Keeps.setCell (Keeps.refl (· = a.block) w) a (Or.inl rfl) u) (fun b hb e => ha (by rw [hb, e]))
/-- A row's value is a slice of that length. -/
theorem owns_form {w : World} {base : Nat} {e : TypeId} {size : Nat} {v : Value} {n : Nat} {xs : List Value} (h : w.ownsRow base e size v n xs) : ∃ a cap, v = .slice a n cap ∧ n ≤ cap ∧ cap ≤ maxLen := by
  obtain ⟨_, ⟨rfl, rfl⟩ | ⟨g, cap, cur, hv, hg, hh, hle, hmax, _⟩⟩ := h
  · exact ⟨none, 0, rfl, Nat.le_refl _, by decide⟩
  · exact ⟨_, cap, hv, hle, hmax⟩
theorem grown_keeps {w w' : World} {v : Value} (h : w.grownBy w' v.ownBlock) : Keeps (rowF v) w w' := ⟨h.os, h.tape, h.output, h.size, fun k hk hn => h.block k hk (fun e => hn e.symm)⟩
theorem new_cells' (w : World) (c : Array Value) (t : TypeId) (news : List Value) (H : Nat) (hH : w.heap.size = H) (h : news = c.toList) : ∀ j u, news[j]? = some u → (w.alloc (.cells c t)).cell? ((⟨H, 0, none⟩ : Addr).add j) = some u := by
  subst hH; exact new_cells w c t news h
theorem size_alloc (w : World) (o : Obj) : (w.alloc o).heap.size = w.heap.size + 1 := by show (w.heap.push _).size = _; simp
end Go.Proofs.YtkcicnflcilekaaGreat

namespace Go.Proofs.YtkcicnflcilekaaGreat
open Go.RowKit Go.Sort

def cellsU (l : List (Nat × Bool)) : List Value := l.flatMap fun p => [.int .u32 p.1, .bool p.2]
def cellsNAr (l : List Nat) : List Value := l.map fun n : Nat => .int .i64 n
theorem cellsU_append (a b : List (Nat × Bool)) : cellsU (a ++ b) = cellsU a ++ cellsU b := by simp [cellsU]
theorem cellsU_get (l : List (Nat × Bool)) (i : Nat) (h : i < l.length) : (cellsU l)[i * 2]? = some (.int .u32 (l.getD i (0, false)).1) ∧ (cellsU l)[i * 2 + 1]? = some (.bool (l.getD i (0, false)).2) := by
  induction l generalizing i with
  | nil => simp at h
  | cons p r ih =>
    cases i with
    | zero => simp [cellsU]
    | succ i =>
      have := ih i (by simpa using h)
      have e : (i + 1) * 2 = i * 2 + 2 := by omega
      have e2 : (i + 1) * 2 + 1 = i * 2 + 1 + 2 := by omega
      rw [e2, e]
      simpa [cellsU] using this
theorem cellsU_set (l : List (Nat × Bool)) (i g : Nat) (b : Bool) : ((cellsU l).set (i * 2) (.int .u32 g)).set (i * 2 + 1) (.bool b) = cellsU (l.set i (g, b)) := by
  induction l generalizing i with
  | nil => simp [cellsU]
  | cons p r ih =>
    cases i with
    | zero => simp [cellsU]
    | succ i =>
      have := ih i
      have e : (i + 1) * 2 = i * 2 + 2 := by omega
      have e2 : (i + 1) * 2 + 1 = i * 2 + 1 + 2 := by omega
      rw [e2, e]
      simpa [cellsU] using this

/-- The arena A lies at block p; its rows are uv and wv. -/
structure ArAt (w : World) (B p : Nat) (uv wv : Value) (A : AS) : Prop where
  blk : Blk w p #[.int .i64 A.cap, .int .u32 A.most, uv, wv, .int .i64 A.live] 124
  used : w.ownsRow B 150 2 uv A.used.length (cellsU A.used)
  wait : w.ownsRow B 3 1 wv A.waiting.length (cellsNAr A.waiting)
  base : B ≤ p
  apart : ∀ k, rowF uv k → k ≠ p ∧ ¬ rowF wv k
  apart' : ∀ k, rowF wv k → k ≠ p
def arF (p : Nat) (uv wv : Value) : Nat → Prop := fun k => k = p ∨ rowF uv k ∨ rowF wv k
theorem ArAt.lt {w : World} {B p : Nat} {uv wv : Value} {A : AS} (h : ArAt w B p uv wv A) : ∀ k, arF p uv wv k → B ≤ k ∧ k < w.heap.size := by
  rintro k (rfl | hk | hk)
  · exact ⟨h.base, blk_lt h.blk⟩
  · exact h.used.lt k hk
  · exact h.wait.lt k hk
theorem ArAt.keeps {G : Nat → Prop} {w w' : World} {B p : Nat} {uv wv : Value} {A : AS} (h : ArAt w B p uv wv A) (k : Keeps G w w') (hn : ∀ b, arF p uv wv b → ¬ G b) : ArAt w' B p uv wv A :=
  ⟨k.blk h.blk (hn p (Or.inl rfl)), owns_keeps h.used k (fun b hb => hn b (Or.inr (Or.inl hb))), owns_keeps h.wait k (fun b hb => hn b (Or.inr (Or.inr hb))), h.base, h.apart, h.apart'⟩
theorem ArAt.later {w w' : World} {B p : Nat} {uv wv : Value} {A : AS} (h : ArAt w B p uv wv A) (hb : Below w.heap.size w w') : ArAt w' B p uv wv A :=
  h.keeps (Keeps.of_below_all hb (fun _ => False)) (fun _ _ x => x)

theorem ArAt.c0 {w : World} {B p : Nat} {uv wv : Value} {A : AS} (h : ArAt w B p uv wv A) : w.cell? ⟨p, 0, none⟩ = some (.int .i64 A.cap) := blk_cell h.blk rfl
theorem ArAt.c2 {w : World} {B p : Nat} {uv wv : Value} {A : AS} (h : ArAt w B p uv wv A) : w.cell? ⟨p, 2, none⟩ = some uv := blk_cell h.blk rfl
theorem ArAt.c3 {w : World} {B p : Nat} {uv wv : Value} {A : AS} (h : ArAt w B p uv wv A) : w.cell? ⟨p, 3, none⟩ = some wv := blk_cell h.blk rfl
theorem ArAt.c4 {w : World} {B p : Nat} {uv wv : Value} {A : AS} (h : ArAt w B p uv wv A) : w.cell? ⟨p, 4, none⟩ = some (.int .i64 A.live) := blk_cell h.blk rfl
theorem ArAt.free {w : World} {B p : Nat} {uv wv : Value} {A : AS} (h : ArAt w B p uv wv A) (o : Nat) : w.frozen? ⟨p, o, none⟩ = false := blk_free h.blk o

theorem has_any (p n cap : Nat) (a : Option Addr) (s : Int) (w : World) (hc : w.cell? ⟨p, 2, none⟩ = some (.slice a n cap)) :
    Calls Tryz.prog 74 #[.pointer (some ⟨p, 0, none⟩), .int .i64 s] w fun e w' => e = .returned (.bool (hasBAr s n)) ∧ w = w' := by
  go_enter Tryz.func74, Tryz.ntmps74
  go_wp2
  all_goals
    go_ret
    exact ⟨ret_bool (by rw [Bool.eq_iff_iff]; simp_all [hasBAr]; try omega), rfl⟩

theorem ArAt.alloc {w : World} {B p : Nat} {uv wv : Value} {A : AS} (h : ArAt w B p uv wv A) (o : Obj) : ArAt (w.alloc o) B p uv wv A := h.later ((Below.refl _ _).alloc (Nat.le_refl _) o)
theorem has_atAr {w : World} {B p : Nat} {uv wv : Value} {A : AS} (h : ArAt w B p uv wv A) (s : Int) :
    Calls Tryz.prog 74 #[.pointer (some ⟨p, 0, none⟩), .int .i64 s] w fun e w' => e = .returned (.bool (hasBAr s A.used.length)) ∧ w = w' := by
  obtain ⟨a, c, hv, hc, hm⟩ := owns_form h.used
  exact has_any p _ c a s w (by rw [h.c2, hv])

theorem count_any (p : Nat) (n : Int) (w : World) (hc : w.cell? ⟨p, 4, none⟩ = some (.int .i64 n)) :
    Calls Tryz.prog 41 #[.pointer (some ⟨p, 0, none⟩)] w fun e w' => e = .returned (.int .i64 n) ∧ w = w' := by
  go_enter Tryz.func41, Tryz.ntmps41
  go_wp2
  go_ret
  exact ⟨rfl, rfl⟩

theorem capacity_any (p : Nat) (n : Int) (w : World) (hc : w.cell? ⟨p, 0, none⟩ = some (.int .i64 n)) :
    Calls Tryz.prog 40 #[.pointer (some ⟨p, 0, none⟩)] w fun e w' => e = .returned (.int .i64 n) ∧ w = w' := by
  go_enter Tryz.func40, Tryz.ntmps40
  go_wp2
  go_ret
  exact ⟨rfl, rfl⟩

end Go.Proofs.YtkcicnflcilekaaGreat

namespace Go.Proofs.YtkcicnflcilekaaGreat
open Go.RowKit Go.Sort

end Go.Proofs.YtkcicnflcilekaaGreat
