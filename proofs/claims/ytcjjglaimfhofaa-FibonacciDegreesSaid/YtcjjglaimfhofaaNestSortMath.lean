/- Merged of NestMinMath, NestSortMath. -/
import Derived.Test.YtcjjglaimfhofaaNestMath
namespace Go.Proofs.Ytcjjglaimfhofaa

theorem ahead_iff (c d : CellD) (a b : Int) : aheadC c d a b = true ↔ c.key < d.key ∨ (c.key = d.key ∧ (c.seq < d.seq ∨ (c.seq = d.seq ∧ a < b))) := by
  simp only [aheadC, lessB, Bool.or_eq_true, Bool.and_eq_true, decide_eq_true_eq, beq_iff_eq]
  omega
theorem ahead_asymm {c d : CellD} {a b : Int} (h : aheadC c d a b = true) : aheadC d c b a = false := by
  cases h2 : aheadC d c b a
  · rfl
  · rw [ahead_iff] at h h2; omega
theorem ahead_trans {c d e : CellD} {x y z : Int} (h : aheadC c d x y = true) (h2 : aheadC d e y z = true) : aheadC c e x z = true := by
  rw [ahead_iff] at *; omega
theorem ahead_total {c d : CellD} {a b : Int} (h : a ≠ b) (h2 : aheadC c d a b = false) : aheadC d c b a = true := by
  have h3 : ¬ (aheadC c d a b = true) := by simp [h2]
  rw [ahead_iff] at h3 ⊢
  omega
def homeAt (W : WS) (i : Nat) : Nat := (W.cells.getD i .off).home
theorem ahead_nat {W : WS} {i j : Nat} (hi : i < W.cells.length) (hj : j < W.cells.length) (h1 : homeAt W i ≠ 0) (h2 : homeAt W j ≠ 0) : aheadW W i j = aheadC (W.cells.getD i .off) (W.cells.getD j .off) i j := by
  unfold homeAt at h1 h2
  simp only [aheadW, inW, cell_nat W i hi, cell_nat W j hj, bne_iff_ne.2 h1, bne_iff_ne.2 h2, Bool.and_self, Bool.true_and]

/-- Of the first k slots that of the heap h that is ahead of all others. -/
def minTo (W : WS) (h : Int) : Nat → Option Nat
  | 0 => none
  | k + 1 => if 0 < h ∧ (homeAt W k : Int) = h then (match minTo W h k with | none => some k | some b => if aheadW W k b then some k else some b) else minTo W h k
def minW (W : WS) (h : Int) : Option Nat := minTo W h W.cells.length
/-- m is in h, and ahead of all others of it. -/
structure IsMin (W : WS) (h : Int) (m : Nat) : Prop where
  lt : m < W.cells.length
  pos : 0 < h
  home : (homeAt W m : Int) = h
  ahead : ∀ j, j < W.cells.length → (homeAt W j : Int) = h → j ≠ m → aheadW W m j = true
theorem minTo_some {W : WS} {h : Int} : ∀ (k : Nat), k ≤ W.cells.length → ∀ m, minTo W h k = some m → m < k ∧ 0 < h ∧ (homeAt W m : Int) = h ∧ ∀ j, j < k → (homeAt W j : Int) = h → j ≠ m → aheadW W m j = true
  | 0, _, m, e => by simp [minTo] at e
  | k + 1, hk, m, e => by
    have ih := minTo_some (W := W) (h := h) k (by omega)
    rw [minTo] at e
    by_cases hc : 0 < h ∧ (homeAt W k : Int) = h
    · rw [if_pos hc] at e
      have hkn : homeAt W k ≠ 0 := by omega
      cases hm : minTo W h k with
      | none =>
        rw [hm] at e
        simp only [Option.some.injEq] at e
        subst e
        refine ⟨by omega, hc.1, hc.2, fun j hj hh hne => ?_⟩
        exfalso
        -- none: nobody ahead of k is in h
        have : ∀ q, q ≤ W.cells.length → minTo W h q = none → ∀ i, i < q → ¬ (homeAt W i : Int) = h := by
          intro q
          induction q with
          | zero => intro _ _ i hi; omega
          | succ q ihq =>
            intro hq e i hi hh
            rw [minTo] at e
            by_cases hc2 : 0 < h ∧ (homeAt W q : Int) = h
            · rw [if_pos hc2] at e
              cases hm2 : minTo W h q with
              | none => rw [hm2] at e; simp at e
              | some b => rw [hm2] at e; simp only at e; split at e <;> simp at e
            · rw [if_neg hc2] at e
              by_cases hiq : i = q
              · subst hiq; exact hc2 ⟨hc.1, hh⟩
              · exact ihq (by omega) e i (by omega) hh
        exact this k (by omega) hm j (by omega) hh
      | some b =>
        obtain ⟨b1, b2, b3, b4⟩ := ih b hm
        have hbn : homeAt W b ≠ 0 := by omega
        rw [hm] at e
        simp only at e
        cases ha : aheadW W k b
        · rw [ha] at e
          simp only [Bool.false_eq_true, if_false, Option.some.injEq] at e
          subst e
          refine ⟨by omega, b2, b3, fun j hj hh hne => ?_⟩
          by_cases hjk : j = k
          · subst hjk
            rw [ahead_nat (by omega) (by omega) hkn hbn] at ha
            rw [ahead_nat (by omega) (by omega) hbn hkn]
            exact ahead_total (by omega) ha
          · exact b4 j (by omega) hh hne
        · rw [ha] at e
          simp only [if_true, Option.some.injEq] at e
          subst e
          refine ⟨by omega, hc.1, hc.2, fun j hj hh hne => ?_⟩
          have hjn : homeAt W j ≠ 0 := by omega
          by_cases hjb : j = b
          · subst hjb; exact ha
          · have h1 := b4 j (by omega) hh hjb
            rw [ahead_nat (by omega) (by omega) hkn hbn] at ha
            rw [ahead_nat (by omega) (by omega) hbn hjn] at h1
            rw [ahead_nat (by omega) (by omega) hkn hjn]
            exact ahead_trans ha h1
    · rw [if_neg hc] at e
      obtain ⟨m1, m2, m3, m4⟩ := ih m e
      refine ⟨by omega, m2, m3, fun j hj hh hne => ?_⟩
      by_cases hjk : j = k
      · subst hjk; exact absurd ⟨m2, hh⟩ hc
      · exact m4 j (by omega) hh hne
theorem minTo_none {W : WS} {h : Int} (hp : 0 < h) : ∀ (k : Nat), minTo W h k = none → ∀ i, i < k → ¬ (homeAt W i : Int) = h
  | 0, _, i, hi => by omega
  | k + 1, e, i, hi => by
    intro hh
    rw [minTo] at e
    by_cases hc : 0 < h ∧ (homeAt W k : Int) = h
    · rw [if_pos hc] at e
      cases hm : minTo W h k with
      | none => rw [hm] at e; simp at e
      | some b => rw [hm] at e; simp only at e; split at e <;> simp at e
    · rw [if_neg hc] at e
      by_cases hik : i = k
      · subst hik; exact hc ⟨hp, hh⟩
      · exact minTo_none hp k e i (by omega) hh
theorem min_is {W : WS} {h : Int} {m : Nat} (e : minW W h = some m) : IsMin W h m := by
  obtain ⟨h1, h2, h3, h4⟩ := minTo_some W.cells.length (Nat.le_refl _) m e
  exact ⟨h1, h2, h3, h4⟩
theorem isMin_uniq {W : WS} {h : Int} {m n : Nat} (a : IsMin W h m) (b : IsMin W h n) : m = n := by
  by_cases e : m = n
  · exact e
  · have hp := a.pos
    have h1 := a.ahead n b.lt b.home (fun x => e x.symm)
    have h2 := b.ahead m a.lt a.home e
    have e1 := a.home
    have e2 := b.home
    have hm : homeAt W m ≠ 0 := by omega
    have hn : homeAt W n ≠ 0 := by omega
    rw [ahead_nat a.lt b.lt hm hn] at h1
    rw [ahead_nat b.lt a.lt hn hm] at h2
    rw [ahead_asymm h1] at h2
    cases h2
/-- Whoever finds one that is ahead of all others has found that one. -/
theorem min_of {W : WS} {h : Int} {m : Nat} (a : IsMin W h m) : minW W h = some m := by
  cases e : minW W h with
  | none => exact absurd a.home (minTo_none a.pos _ e m a.lt)
  | some n => rw [isMin_uniq a (min_is e)]
theorem len_zero {W : WS} {h : Int} : lenW W h = 0 ↔ ∀ i, i < W.cells.length → 0 < h → ¬ (homeAt W i : Int) = h := by
  unfold lenW
  by_cases hp : 0 < h
  · rw [if_pos hp, List.countP_eq_zero]
    constructor
    · intro H i hi _ e
      refine H (W.cells.getD i .off) (by simp [List.getD_eq_getElem?_getD, hi]) ?_
      simpa [homeAt] using e
    · intro H c hc e
      obtain ⟨i, hi, rfl⟩ := List.getElem_of_mem hc
      refine H i hi hp ?_
      have : W.cells.getD i .off = W.cells[i] := by simp [List.getD_eq_getElem?_getD, hi]
      rw [homeAt, this]
      simpa using e
  · simp [hp]
theorem min_none_iff {W : WS} {h : Int} : minW W h = none ↔ lenW W h = 0 := by
  rw [len_zero]
  constructor
  · intro e i hi hp
    exact minTo_none hp _ e i hi
  · intro H
    cases e : minW W h with
    | none => rfl
    | some m => exact absurd (min_is e).home (H m (min_is e).lt (min_is e).pos)
theorem min_exists {W : WS} {h : Int} (hl : lenW W h ≠ 0) : ∃ m, minW W h = some m := by
  cases e : minW W h with
  | none => exact absurd (min_none_iff.1 e) hl
  | some m => exact ⟨m, rfl⟩
/-- What Extract leaves, and how many are then there. -/
def exW (W : WS) (h : Int) : WS := match minW W h with | some m => dropW W m | none => W
theorem isMin_in {W : WS} {h : Int} {m : Nat} (a : IsMin W h m) : inW W m = true ∧ dropW W m = ⟨W.heaps, W.cells.set m .off⟩ := by
  have hp := a.pos
  have e := a.home
  have hn : homeAt W m ≠ 0 := by omega
  have h1 : inW W m = true := by
    rw [inW, cell_nat W m a.lt]
    exact bne_iff_ne.2 hn
  exact ⟨h1, by simp [dropW, h1]⟩
theorem len_ex {W : WS} {h : Int} {m : Nat} (a : IsMin W h m) (y : Int) : (lenW (dropW W m) y : Int) = if y = h then (lenW W h : Int) - 1 else lenW W y := by
  rw [(isMin_in a).2]
  have hp := a.pos
  have e := a.home
  have hn : (W.cells.getD m .off).home ≠ 0 := by have : homeAt W m ≠ 0 := by omega
                                                 exact this
  have := len_drop (W := W) (x := m) a.lt hn y
  have e2 : ((W.cells.getD m .off).home : Int) = h := e
  rw [e2] at this
  exact this
theorem home_drop {W : WS} {m : Nat} (hm : m < W.cells.length) (i : Nat) : (W.cells.set m .off).getD i .off = if m = i then .off else W.cells.getD i .off := by
  simp only [List.getD_eq_getElem?_getD, List.getElem?_set]
  by_cases e : m = i
  · subst e; simp [hm]
  · simp [e]

/-! ### heaps by themselves -/
/-- Of the heap h the two nests say the same. -/
structure SameH (W V : WS) (h : Int) : Prop where
  len : W.cells.length = V.cells.length
  cell : ∀ i, i < W.cells.length → ((homeAt W i : Int) = h ∨ (homeAt V i : Int) = h) → W.cells.getD i .off = V.cells.getD i .off
theorem SameH.refl (W : WS) (h : Int) : SameH W W h := ⟨rfl, fun _ _ _ => rfl⟩
theorem SameH.home {W V : WS} {h : Int} (s : SameH W V h) {i : Nat} (hi : i < W.cells.length) : (homeAt W i : Int) = h ↔ (homeAt V i : Int) = h := by
  constructor
  · intro e; rw [homeAt, ← s.cell i hi (Or.inl e)]; exact e
  · intro e; rw [homeAt, s.cell i hi (Or.inr e)]; exact e
theorem SameH.isMin {W V : WS} {h : Int} (s : SameH W V h) {m : Nat} (a : IsMin W h m) : IsMin V h m := by
  have hp := a.pos
  have e := a.home
  refine ⟨by rw [← s.len]; exact a.lt, a.pos, (s.home a.lt).1 a.home, fun j hj hh hne => ?_⟩
  have hj' : j < W.cells.length := by rw [s.len]; exact hj
  have hw := (s.home hj').2 hh
  have h1 := a.ahead j hj' hw hne
  have e2 := (s.home a.lt).1 a.home
  rw [ahead_nat a.lt hj' (by omega) (by omega)] at h1
  rw [ahead_nat (by rw [← s.len]; exact a.lt) hj (by omega) (by omega), ← s.cell m a.lt (Or.inl a.home), ← s.cell j hj' (Or.inl hw)]
  exact h1
theorem SameH.symm {W V : WS} {h : Int} (s : SameH W V h) : SameH V W h := ⟨s.len.symm, fun i hi hh => (s.cell i (by rw [s.len]; exact hi) hh.symm).symm⟩
theorem SameH.min {W V : WS} {h : Int} (s : SameH W V h) : minW W h = minW V h := by
  cases e : minW W h with
  | some m => exact (min_of (s.isMin (min_is e))).symm
  | none =>
    cases e2 : minW V h with
    | none => rfl
    | some m => rw [min_of (s.symm.isMin (min_is e2))] at e; cases e
theorem SameH.drop {W V : WS} {h : Int} (s : SameH W V h) {m : Nat} (a : IsMin W h m) : SameH (dropW W m) (dropW V m) h := by
  rw [(isMin_in a).2, (isMin_in (s.isMin a)).2]
  have hm := a.lt
  have hm' : m < V.cells.length := by rw [← s.len]; exact hm
  refine ⟨by simpa using s.len, fun i hi hh => ?_⟩
  simp only [List.length_set] at hi
  simp only [homeAt, home_drop hm, home_drop hm'] at hh ⊢
  by_cases e : m = i
  · rw [if_pos e, if_pos e]
  · rw [if_neg e, if_neg e] at *
    exact s.cell i hi hh
/-- What comes out of a heap is nothing to another one. -/
theorem SameH.other {W : WS} {h g : Int} {m : Nat} (a : IsMin W h m) (hne : g ≠ h) (hg : 0 < g) : SameH W (dropW W m) g := by
  rw [(isMin_in a).2]
  refine ⟨by simp, fun i hi hh => ?_⟩
  simp only [homeAt, home_drop a.lt] at hh ⊢
  by_cases e : m = i
  · subst e
    exfalso
    have := a.home
    simp only [homeAt, if_pos] at this hh
    rcases hh with hh | hh
    · omega
    · simp [CellD.off] at hh; omega
  · rw [if_neg e]
theorem SameH.trans {U W V : WS} {h : Int} (s : SameH U W h) (t : SameH W V h) : SameH U V h :=
  ⟨s.len.trans t.len, fun i hi hh => by
    have hiW : i < W.cells.length := by rw [← s.len]; exact hi
    rcases hh with hh | hh
    · rw [s.cell i hi (Or.inl hh)]
      exact t.cell i hiW (Or.inl ((s.home hi).1 hh))
    · have hw := (t.home hiW).2 hh
      rw [s.cell i hi (Or.inr hw)]
      exact t.cell i hiW (Or.inl hw)⟩
/-- The slots of a heap, each ahead of the next one: so many of them. -/
def orderN : Nat → WS → Int → List Nat
  | 0, _, _ => []
  | n + 1, W, h => match minW W h with | none => [] | some m => m :: orderN n (dropW W m) h
def orderW (W : WS) (h : Int) : List Nat := orderN (lenW W h) W h
theorem order_none {W : WS} {h : Int} (e : minW W h = none) : orderW W h = [] := by
  unfold orderW; rw [min_none_iff.1 e]; rfl
theorem order_some {W : WS} {h : Int} {m : Nat} (e : minW W h = some m) : orderW W h = m :: orderW (dropW W m) h := by
  have a := min_is e
  have hl : lenW W h ≠ 0 := fun h0 => by rw [min_none_iff.2 h0] at e; cases e
  have h1 := len_ex a h
  rw [if_pos rfl] at h1
  have e2 : lenW W h = lenW (dropW W m) h + 1 := by omega
  unfold orderW
  rw [e2, orderN, e]
theorem order_len (W : WS) (h : Int) : (orderW W h).length = lenW W h := by
  generalize hn : lenW W h = n
  induction n generalizing W with
  | zero => rw [order_none (min_none_iff.2 hn)]; rfl
  | succ n ih =>
    obtain ⟨m, e⟩ := min_exists (W := W) (h := h) (by omega)
    have h1 := len_ex (min_is e) h
    rw [if_pos rfl] at h1
    rw [order_some e, List.length_cons, ih _ (by omega)]
theorem SameH.order {W V : WS} {h : Int} (s : SameH W V h) : orderW W h = orderW V h := by
  generalize hn : lenW W h = n
  induction n generalizing W V with
  | zero =>
    have e := min_none_iff.2 hn
    rw [order_none e, order_none (W := V) (s.min.symm.trans e)]
  | succ n ih =>
    obtain ⟨m, e⟩ := min_exists (W := W) (h := h) (by omega)
    have h1 := len_ex (min_is e) h
    rw [if_pos rfl] at h1
    rw [order_some e, order_some (W := V) (m := m) (s.min.symm.trans e), ih (s.drop (min_is e)) (by omega)]
theorem order_cons {V : WS} {h : Int} {s : Nat} {r : List Nat} (e : orderW V h = s :: r) : minW V h = some s ∧ orderW (dropW V s) h = r := by
  cases em : minW V h with
  | none => rw [order_none em] at e; cases e
  | some m =>
    rw [order_some em] at e
    injection e with e1 e2
    subst e1
    exact ⟨rfl, e2⟩
theorem order_nil {V : WS} {h : Int} (e : orderW V h = []) : minW V h = none ∧ lenW V h = 0 := by
  cases em : minW V h with
  | none => exact ⟨rfl, min_none_iff.1 em⟩
  | some m => rw [order_some em] at e; cases e

/-! ### heap by heap comes out -/
/-- The heaps from h on are as they were in W. -/
structure RInv (W V : WS) (h : Int) : Prop where
  heaps : V.heaps = W.heaps
  cells : V.cells.length = W.cells.length
  same : ∀ g : Int, h ≤ g → 0 < g → SameH W V g
/-- The heap h has yet to come out as r. -/
structure RIn (W V : WS) (h : Int) (r : List Nat) : Prop where
  heaps : V.heaps = W.heaps
  cells : V.cells.length = W.cells.length
  order : orderW V h = r
  same : ∀ g : Int, h < g → 0 < g → SameH W V g
theorem rinv_start (W : WS) (h : Int) : RInv W W h := ⟨rfl, rfl, fun g _ _ => SameH.refl W g⟩
theorem rin_start {W V : WS} {h : Int} (R : RInv W V h) (hp : 0 < h) : RIn W V h (orderW W h) :=
  ⟨R.heaps, R.cells, (R.same h (Int.le_refl _) hp).order.symm, fun g hg hp => R.same g (by omega) hp⟩
theorem rin_step {W V : WS} {h : Int} {s : Nat} {r : List Nat} (R : RIn W V h (s :: r)) : IsMin V h s ∧ RIn W (dropW V s) h r := by
  obtain ⟨h1, h2⟩ := order_cons R.order
  have a := min_is h1
  refine ⟨a, by rw [(isMin_in a).2]; exact R.heaps, by rw [(isMin_in a).2]; simpa using R.cells, h2, fun g hg hp => (R.same g hg hp).trans (SameH.other a (by omega) hp)⟩
theorem rin_end {W V : WS} {h : Int} (R : RIn W V h []) : minW V h = none ∧ lenW V h = 0 ∧ RInv W V (h + 1) := by
  obtain ⟨h1, h2⟩ := order_nil R.order
  exact ⟨h1, h2, R.heaps, R.cells, fun g hg hp => R.same g (by omega) hp⟩
theorem rin_has {W V : WS} {h : Int} {r : List Nat} (R : RIn W V h r) {i : Nat} (h1 : 1 ≤ i) (h2 : i < W.heaps.length) : hasW V i = W.heaps.getD i false := by
  have : (1 : Int) ≤ i ∧ (i : Int) < W.heaps.length := by omega
  simp only [hasW, R.heaps, Int.toNat_natCast, decide_eq_true this, Bool.true_and]
end Go.Proofs.Ytcjjglaimfhofaa

namespace Go.Proofs.Ytcjjglaimfhofaa

theorem getD_setN {α : Type} (l : List α) (i j : Nat) (x d : α) (hi : i < l.length) : (l.set i x).getD j d = if i = j then x else l.getD j d := by
  simp only [List.getD_eq_getElem?_getD, List.getElem?_set]
  by_cases h : i = j
  · subst h; simp [hi]
  · simp [h]
/-- k slots are in: slot i in the heap h i, with the key key i and the seq q. -/
structure PInv (H : List Bool) (h : Nat → Nat) (key : Nat → Int) (q : Int) (n k : Nat) (W : WS) : Prop where
  heaps : W.heaps = H
  len : W.cells.length = n
  done : ∀ i, i < k → i < n → W.cells.getD i .off = ⟨h i, key i, q⟩
  rest : ∀ i, k ≤ i → i < n → W.cells.getD i .off = .off
theorem new_pinv (n : Nat) (h : Nat → Nat) (key : Nat → Int) (q : Int) : PInv [false] h key q n 0 (newW n) :=
  ⟨rfl, by simp [newW], fun i hi => by omega, fun i _ hi => by simp [newW, List.getD_eq_getElem?_getD, hi]⟩
theorem pinv_make {H : List Bool} {h : Nat → Nat} {key : Nat → Int} {q : Int} {n k : Nat} {W : WS} (P : PInv H h key q n k W) (hl : H.length ≤ 65536) : PInv (H ++ [true]) h key q n k (makeW W) ∧ madeW W = H.length := by
  have hc : canMakeW W = true := by simp [canMakeW, P.heaps, hl]
  have e : makeW W = ⟨W.heaps ++ [true], W.cells⟩ := by simp [makeW, hc]
  rw [e]
  exact ⟨⟨by rw [P.heaps], P.len, P.done, P.rest⟩, by simp [madeW, hc, P.heaps]⟩
theorem pinv_put {H : List Bool} {h : Nat → Nat} {key : Nat → Int} {q : Int} {n k : Nat} {W : WS} (P : PInv H h key q n k W) (hk : k < n) (hh : hasW W (h k) = true) (hp : 1 ≤ h k) :
    putB W (h k) k = true ∧ PInv H h key q n (k + 1) (putW W (h k) k (key k) q) ∧ ∀ y : Int, (lenW (putW W (h k) k (key k) q) y : Int) = if y = h k then (lenW W y : Int) + 1 else lenW W y := by
  have hkl : k < W.cells.length := by rw [P.len]; exact hk
  have c3 := P.rest k (Nat.le_refl _) hk
  have c1 := cell_nat W k hkl
  have c4 : inW W k = false := by rw [inW, c1, c3]; rfl
  have c2 : slotW W k = true := by simp [slotW]; omega
  have hpb : putB W (h k) k = true := by simp [putB, hh, c2, c4]
  have e1 : putW W (h k) k (key k) q = ⟨W.heaps, W.cells.set k ⟨h k, key k, q⟩⟩ := by simp [putW, hpb]
  rw [e1]
  refine ⟨hpb, ⟨P.heaps, by simpa using P.len, fun i hi hn => ?_, fun i hi hn => ?_⟩, fun y => ?_⟩
  · show (W.cells.set k _).getD i _ = _
    rw [getD_setN _ _ _ _ _ hkl]
    by_cases e : k = i
    · subst e; rw [if_pos rfl]
    · rw [if_neg e]; exact P.done i (by omega) hn
  · show (W.cells.set k _).getD i _ = _
    rw [getD_setN _ _ _ _ _ hkl, if_neg (by omega)]
    exact P.rest i (by omega) hn
  · rw [len_put (W := W) hp hkl (by rw [c3]; rfl) y]
    by_cases e : y = h k
    · rw [if_pos e, if_pos e, e]
    · rw [if_neg e, if_neg e]

/-- j came out already: each slot is in with its entry, or out; those in go behind the last one. -/
structure OInv (key : Nat → Int) (q : Int) (n : Nat) (a : Nat) (W : WS) : Prop where
  len : W.cells.length = n
  cell : ∀ i, i < n → W.cells.getD i .off = ⟨a, key i, q⟩ ∨ W.cells.getD i .off = .off
theorem oinv_of {H : List Bool} {key : Nat → Int} {q : Int} {n a : Nat} {W : WS} (P : PInv H (fun _ => a) key q n n W) : OInv key q n a W := ⟨P.len, fun i hi => Or.inl (P.done i hi hi)⟩
theorem oinv_drop {key : Nat → Int} {q : Int} {n a : Nat} {W : WS} (O : OInv key q n a W) {m : Nat} (hm : IsMin W a m) : OInv key q n a (dropW W m) := by
  rw [(isMin_in hm).2]
  refine ⟨by simpa using O.len, fun i hi => ?_⟩
  rw [home_drop hm.lt]
  by_cases e : m = i
  · rw [if_pos e]; exact Or.inr rfl
  · rw [if_neg e]; exact O.cell i hi
theorem oinv_home {key : Nat → Int} {q : Int} {n a : Nat} {W : WS} (O : OInv key q n a W) (ha : 1 ≤ a) {i : Nat} (hi : i < n) (hh : (homeAt W i : Int) = a) : W.cells.getD i .off = ⟨a, key i, q⟩ := by
  rcases O.cell i hi with h | h
  · exact h
  · rw [homeAt, h] at hh
    simp [CellD.off] at hh
    omega
/-- Whoever is in goes behind it. -/
def After (key : Nat → Int) (W : WS) (a : Nat) (m : Nat) : Prop := ∀ i, i < W.cells.length → (homeAt W i : Int) = a → key m < key i ∨ (key m = key i ∧ m < i)
theorem after_min {key : Nat → Int} {q : Int} {n a : Nat} {W : WS} (O : OInv key q n a W) (ha : 1 ≤ a) {m : Nat} (hm : IsMin W a m) : After key (dropW W m) a m := by
  rw [(isMin_in hm).2]
  intro i hi hh
  simp only [List.length_set] at hi
  simp only [homeAt, home_drop hm.lt] at hh
  by_cases e : m = i
  · rw [if_pos e] at hh
    simp [CellD.off] at hh
    omega
  · rw [if_neg e] at hh
    have h1 := hm.ahead i hi hh (fun x => e x.symm)
    have e1 := hm.home
    have e2 : (homeAt W i : Int) = a := hh
    rw [ahead_nat hm.lt hi (by omega) (by omega), oinv_home O ha (by rw [← O.len]; exact hm.lt) hm.home, oinv_home O ha (by rw [← O.len]; exact hi) hh, ahead_iff] at h1
    simp only at h1
    omega

/-! ### two heaps, melded -/
/-- All are in the heap 1; there is no heap 2. -/
theorem pinv_meld {h : Nat → Nat} {key : Nat → Int} {q : Int} {n : Nat} {W : WS} (P : PInv [false, true, true] h key q n n W) (hh : ∀ i, h i = 1 ∨ h i = 2) (hs : lenW W 1 + lenW W 2 = n) :
    joinBW W 1 2 = true ∧ PInv [false, true, false] (fun _ => 1) key q n n (joinW W 1 2) ∧ lenW (joinW W 1 2) 1 = n ∧ joinBW (joinW W 1 2) 1 2 = false ∧ hasW (joinW W 1 2) 2 = false := by
  have a1 : hasW W 1 = true := by simp [hasW, P.heaps]
  have a2 : hasW W 2 = true := by simp [hasW, P.heaps]
  have hj : joinBW W 1 2 = true := by simp [joinBW, a1, a2]
  have e1 : joinW W 1 2 = ⟨W.heaps.set 2 false, W.cells.map fun c => if c.home = 2 then ⟨1, c.key, c.seq⟩ else c⟩ := by simp [joinW, hj]
  have hl := len_join (W := W) (a := 1) (b := 2) (by omega) (by omega) (by omega) (W.heaps.set 2 false) 1
  have e5 : hasW (joinW W 1 2) 2 = false := by rw [e1, P.heaps]; rfl
  refine ⟨hj, ⟨by rw [e1, P.heaps]; rfl, by rw [e1]; simpa using P.len, fun i hi hn => ?_, fun i hi hn => by omega⟩, ?_, by simp [joinBW, e5], e5⟩
  · rw [e1]
    have hd := P.done i hi hn
    have hil : i < W.cells.length := by rw [P.len]; exact hn
    have : (W.cells.map fun c : CellD => if c.home = 2 then (⟨1, c.key, c.seq⟩ : CellD) else c).getD i .off = (fun c : CellD => if c.home = 2 then (⟨1, c.key, c.seq⟩ : CellD) else c) (W.cells.getD i .off) := by
      simp [List.getD_eq_getElem?_getD, hil]
    show (W.cells.map _).getD i _ = _
    rw [this, hd]
    rcases hh i with e | e <;> simp [e]
  · rw [e1]
    simp at hl
    omega
/-- Who may still come out: not the one that is deleted; the one that is lowered is ahead of all. -/
structure HInv (n : Nat) (low gone : Int) (W : WS) : Prop where
  len : W.cells.length = n
  home : ∀ i, i < n → homeAt W i = 1 ∨ homeAt W i = 0
  gone : gone ≠ low → ∀ i : Nat, i < n → (i : Int) = gone → homeAt W i = 0
theorem hinv_drop {n : Nat} {low gone : Int} {W : WS} (O : HInv n low gone W) {m : Nat} (hm : IsMin W 1 m) : HInv n low gone (dropW W m) := by
  rw [(isMin_in hm).2]
  refine ⟨by simpa using O.len, fun i hi => ?_, fun hne i hi hg => ?_⟩
  · simp only [homeAt, home_drop hm.lt]
    by_cases e : m = i
    · rw [if_pos e]; exact Or.inr rfl
    · rw [if_neg e]; exact O.home i hi
  · simp only [homeAt, home_drop hm.lt]
    by_cases e : m = i
    · rw [if_pos e]; rfl
    · rw [if_neg e]; exact O.gone hne i hi hg
theorem hinv_min {n : Nat} {low gone : Int} {W : WS} (O : HInv n low gone W) {m : Nat} (hm : IsMin W 1 m) : ¬ ((m : Int) = gone ∧ gone ≠ low) := by
  rintro ⟨h1, h2⟩
  have := O.gone h2 m (by rw [← O.len]; exact hm.lt) h1
  have := hm.home
  omega
/-- Lowered below all. -/
theorem lowest {H : List Bool} {key : Nat → Int} {n : Nat} {W : WS} (P : PInv H (fun _ => 1) key 1 n n W) (hk : ∀ i, i < n → -9223372036854775808 ≤ key i) {low : Nat} (hl : low < n) :
    lowerB W low (-9223372036854775808) 0 = true ∧ ∀ y, lenW (lowerW W low (-9223372036854775808) 0) y = lenW W y := by
  have hll : low < W.cells.length := by rw [P.len]; exact hl
  have hd := P.done low hl hl
  have hc := cell_nat W low hll
  rw [hd] at hc
  have hb : lowerB W low (-9223372036854775808) 0 = true := by
    have h1 : inW W low = true := by rw [inW, hc]; rfl
    have := hk low hl
    have h2 : lessB (key low) 1 (-9223372036854775808) 0 = false := by
      simp only [lessB, Bool.or_eq_false_iff, Bool.and_eq_false_iff, decide_eq_false_iff_not, beq_eq_false_iff_ne]
      exact ⟨by omega, Or.inr (by omega)⟩
    simp [lowerB, h1, hc, h2]
  refine ⟨hb, fun y => ?_⟩
  have := len_lower (W := W) (x := low) (k := -9223372036854775808) (s := 0) hll y
  unfold lowerW
  rw [if_pos hb, hc]
  rw [hd] at this
  exact this
/-- Behind the lowering: the slot low is below all, the others are as they came, or out. -/
structure LInv (key : Nat → Int) (n : Nat) (low : Int) (W : WS) : Prop where
  len : W.cells.length = n
  lowC : ∀ i : Nat, i < n → (i : Int) = low → W.cells.getD i .off = ⟨1, -9223372036854775808, 0⟩
  rest : ∀ i : Nat, i < n → (i : Int) ≠ low → W.cells.getD i .off = ⟨1, key i, 1⟩ ∨ W.cells.getD i .off = .off
/-- The state ahead of the last loop: what Decrease and Delete answer, and what then is. -/
def lowS (n : Nat) (low : Int) (W : WS) : WS := if 0 ≤ low ∧ low < n then lowerW W low (-9223372036854775808) 0 else W
def goneS (n : Nat) (low gone : Int) (W : WS) : WS := if 0 ≤ gone ∧ gone < n ∧ gone ≠ low then dropW W gone else W
theorem lowS_inv {H : List Bool} {key : Nat → Int} {n : Nat} {W : WS} (P : PInv H (fun _ => 1) key 1 n n W) (hk : ∀ i, i < n → -9223372036854775808 ≤ key i) (low : Int) :
    LInv key n low (lowS n low W) ∧ (0 ≤ low ∧ low < n → lowerB W low (-9223372036854775808) 0 = true) ∧ lenW (lowS n low W) 1 = lenW W 1 := by
  unfold lowS
  by_cases hl : 0 ≤ low ∧ low < n
  · rw [if_pos hl]
    obtain ⟨i, rfl⟩ : ∃ i : Nat, low = i := ⟨low.toNat, by omega⟩
    obtain ⟨h1, h2⟩ := lowest P hk (low := i) (by omega)
    have hil : i < W.cells.length := by rw [P.len]; omega
    have hc := cell_nat W i hil
    have hd := P.done i (by omega) (by omega)
    have e : lowerW W i (-9223372036854775808) 0 = ⟨W.heaps, W.cells.set i ⟨1, -9223372036854775808, 0⟩⟩ := by
      unfold lowerW
      rw [if_pos h1, hc, hd]
      rfl
    refine ⟨?_, fun _ => h1, h2 1⟩
    rw [e]
    refine ⟨by simpa using P.len, fun j hj hjl => ?_, fun j hj hjl => ?_⟩
    · show (W.cells.set i _).getD j _ = _
      rw [getD_setN _ _ _ _ _ hil, if_pos (by omega)]
    · show (W.cells.set i _).getD j _ = _ ∨ (W.cells.set i _).getD j _ = _
      rw [getD_setN _ _ _ _ _ hil, if_neg (by omega)]
      exact Or.inl (P.done j hj hj)
  · rw [if_neg hl]
    exact ⟨⟨P.len, fun j hj hjl => absurd ⟨by omega, by omega⟩ hl, fun j hj _ => Or.inl (P.done j hj hj)⟩, fun h => absurd h hl, rfl⟩
theorem goneS_inv {H : List Bool} {key : Nat → Int} {n : Nat} {W : WS} (P : PInv H (fun _ => 1) key 1 n n W) (hk : ∀ i, i < n → -9223372036854775808 ≤ key i) (low gone : Int) :
    (0 ≤ gone ∧ gone < n ∧ gone ≠ low → inW (lowS n low W) gone = true) ∧ HInv n low gone (goneS n low gone (lowS n low W)) ∧ (∀ i : Nat, i < n → (i : Int) = low → IsMin (goneS n low gone (lowS n low W)) 1 i) := by
  obtain ⟨L, _, _⟩ := lowS_inv P hk low
  have hfull : ∀ i : Nat, i < n → homeAt (lowS n low W) i = 1 := fun i hi => by
    unfold lowS
    split
    · rename_i hl
      obtain ⟨j, rfl⟩ : ∃ j : Nat, low = j := ⟨low.toNat, by omega⟩
      have hjl : j < W.cells.length := by rw [P.len]; omega
      have hd := P.done j (by omega) (by omega)
      unfold lowerW
      split
      · show ((W.cells.set j _).getD i .off).home = 1
        rw [getD_setN _ _ _ _ _ hjl]
        split
        · show (cellW W j).home = 1
          rw [cell_nat W j hjl, hd]
        · rw [P.done i hi hi]
      · rw [homeAt, P.done i hi hi]
    · rw [homeAt, P.done i hi hi]
  have hin : ∀ i : Nat, i < n → inW (lowS n low W) i = true := fun i hi => by
    rw [inW, cell_nat _ i (by rw [L.len]; exact hi)]
    have := hfull i hi
    exact bne_iff_ne.2 (by rw [homeAt] at this; omega)
  have hfst : ∀ V : WS, LInv key n low V → ∀ i : Nat, i < n → (i : Int) = low → IsMin V 1 i := fun V L i hi hl => by
    have hc := L.lowC i hi hl
    refine ⟨by rw [L.len]; exact hi, by omega, by rw [homeAt, hc]; rfl, fun j hj hh hne => ?_⟩
    have hjn : j < n := by rw [← L.len]; exact hj
    have hcj : V.cells.getD j .off = ⟨1, key j, 1⟩ := by
      rcases L.rest j hjn (by omega) with h | h
      · exact h
      · rw [homeAt, h] at hh; simp [CellD.off] at hh
    rw [ahead_nat (by rw [L.len]; exact hi) hj (by rw [homeAt, hc]; simp) (by omega), hc, hcj, ahead_iff]
    have := hk j hjn
    simp only
    omega
  refine ⟨fun ⟨h1, h2, _⟩ => ?_, ?_⟩
  · obtain ⟨i, rfl⟩ : ∃ i : Nat, gone = i := ⟨gone.toNat, by omega⟩
    exact hin i (by omega)
  · unfold goneS
    by_cases hg : 0 ≤ gone ∧ gone < n ∧ gone ≠ low
    · rw [if_pos hg]
      obtain ⟨j, rfl⟩ : ∃ j : Nat, gone = j := ⟨gone.toNat, by omega⟩
      have hj : j < n := by omega
      have hjl : j < (lowS n low W).cells.length := by rw [L.len]; exact hj
      have e : dropW (lowS n low W) j = ⟨(lowS n low W).heaps, (lowS n low W).cells.set j .off⟩ := by simp [dropW, hin j hj]
      rw [e]
      refine ⟨⟨by simpa using L.len, fun i hi => ?_, fun _ i hi hgi => ?_⟩, hfst _ ⟨by simpa using L.len, fun i hi hl => ?_, fun i hi hl => ?_⟩⟩
      · simp only [homeAt, home_drop hjl]
        split
        · exact Or.inr rfl
        · exact Or.inl (hfull i hi)
      · simp only [homeAt, home_drop hjl]
        rw [if_pos (by omega)]; rfl
      · show ((lowS n low W).cells.set j .off).getD i .off = _
        rw [home_drop hjl, if_neg (by omega)]
        exact L.lowC i hi hl
      · show ((lowS n low W).cells.set j .off).getD i .off = _ ∨ ((lowS n low W).cells.set j .off).getD i .off = _
        rw [home_drop hjl]
        split
        · exact Or.inr rfl
        · exact L.rest i hi hl
    · rw [if_neg hg]
      exact ⟨⟨L.len, fun i hi => Or.inl (hfull i hi), fun hne i hi hgi => absurd ⟨by omega, by omega, hne⟩ hg⟩, hfst _ L⟩
end Go.Proofs.Ytcjjglaimfhofaa
