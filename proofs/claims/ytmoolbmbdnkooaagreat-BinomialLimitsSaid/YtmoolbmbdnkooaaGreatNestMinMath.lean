/- The slot of a heap that is ahead of all others, as plain data; the order in which a heap comes out. No program is named here. -/
import Derived.Test.YtmoolbmbdnkooaaGreatNestMath
namespace Go.Proofs.YtmoolbmbdnkooaaGreat

theorem ahead_iff (c d : CellD) (a b : Int) : aheadC c d a b = true ↔ c.key < d.key ∨ (c.key = d.key ∧ (c.seq < d.seq ∨ (c.seq = d.seq ∧ a < b))) := by
  simp only [aheadC, lessB, Bool.or_eq_true, Bool.and_eq_true, decide_eq_true_eq, beq_iff_eq]
  omega
theorem ahead_asymm {c d : CellD} {a b : Int} (h : aheadC c d a b = true) : aheadC d c b a = false := by
  cases h2 : aheadC d c b a
  · rfl
  · rw [ahead_iff] at h h2; omega
theorem ahead_trans {c d e : CellD} {x y z : Int} (h : aheadC c d x y = true) (h2 : aheadC d e y z = true) : aheadC c e x z = true := by
  rw [ahead_iff] at *; omega
theorem ahead_total {c d : CellD} {a b : Int} (h : a ≠ b) (h2 : aheadC c d a b = false) : aheadC d c b a = true := by
  have h3 : ¬ (aheadC c d a b = true) := by simp [h2]
  rw [ahead_iff] at h3 ⊢
  omega
def homeAt (W : WS) (i : Nat) : Nat := (W.cells.getD i .off).home
theorem ahead_nat {W : WS} {i j : Nat} (hi : i < W.cells.length) (hj : j < W.cells.length) (h1 : homeAt W i ≠ 0) (h2 : homeAt W j ≠ 0) : aheadW W i j = aheadC (W.cells.getD i .off) (W.cells.getD j .off) i j := by
  unfold homeAt at h1 h2
  simp only [aheadW, inW, cell_nat W i hi, cell_nat W j hj, bne_iff_ne.2 h1, bne_iff_ne.2 h2, Bool.and_self, Bool.true_and]

/-- Of the first k slots that of the heap h that is ahead of all others. -/
def minTo (W : WS) (h : Int) : Nat → Option Nat
  | 0 => none
  | k + 1 => if 0 < h ∧ (homeAt W k : Int) = h then (match minTo W h k with | none => some k | some b => if aheadW W k b then some k else some b) else minTo W h k
def minW (W : WS) (h : Int) : Option Nat := minTo W h W.cells.length
/-- m is in h, and ahead of all others of it. -/
structure IsMin (W : WS) (h : Int) (m : Nat) : Prop where
  lt : m < W.cells.length
  pos : 0 < h
  home : (homeAt W m : Int) = h
  ahead : ∀ j, j < W.cells.length → (homeAt W j : Int) = h → j ≠ m → aheadW W m j = true
theorem minTo_some {W : WS} {h : Int} : ∀ (k : Nat), k ≤ W.cells.length → ∀ m, minTo W h k = some m → m < k ∧ 0 < h ∧ (homeAt W m : Int) = h ∧ ∀ j, j < k → (homeAt W j : Int) = h → j ≠ m → aheadW W m j = true
  | 0, _, m, e => by simp [minTo] at e
  | k + 1, hk, m, e => by
    have ih := minTo_some (W := W) (h := h) k (by omega)
    rw [minTo] at e
    by_cases hc : 0 < h ∧ (homeAt W k : Int) = h
    · rw [if_pos hc] at e
      have hkn : homeAt W k ≠ 0 := by omega
      cases hm : minTo W h k with
      | none =>
        rw [hm] at e
        simp only [Option.some.injEq] at e
        subst e
        refine ⟨by omega, hc.1, hc.2, fun j hj hh hne => ?_⟩
        exfalso
        -- none: nobody ahead of k is in h
        have : ∀ q, q ≤ W.cells.length → minTo W h q = none → ∀ i, i < q → ¬ (homeAt W i : Int) = h := by
          intro q
          induction q with
          | zero => intro _ _ i hi; omega
          | succ q ihq =>
            intro hq e i hi hh
            rw [minTo] at e
            by_cases hc2 : 0 < h ∧ (homeAt W q : Int) = h
            · rw [if_pos hc2] at e
              cases hm2 : minTo W h q with
              | none => rw [hm2] at e; simp at e
              | some b => rw [hm2] at e; simp only at e; split at e <;> simp at e
            · rw [if_neg hc2] at e
              by_cases hiq : i = q
              · subst hiq; exact hc2 ⟨hc.1, hh⟩
              · exact ihq (by omega) e i (by omega) hh
        exact this k (by omega) hm j (by omega) hh
      | some b =>
        obtain ⟨b1, b2, b3, b4⟩ := ih b hm
        have hbn : homeAt W b ≠ 0 := by omega
        rw [hm] at e
        simp only at e
        cases ha : aheadW W k b
        · rw [ha] at e
          simp only [Bool.false_eq_true, if_false, Option.some.injEq] at e
          subst e
          refine ⟨by omega, b2, b3, fun j hj hh hne => ?_⟩
          by_cases hjk : j = k
          · subst hjk
            rw [ahead_nat (by omega) (by omega) hkn hbn] at ha
            rw [ahead_nat (by omega) (by omega) hbn hkn]
            exact ahead_total (by omega) ha
          · exact b4 j (by omega) hh hne
        · rw [ha] at e
          simp only [if_true, Option.some.injEq] at e
          subst e
          refine ⟨by omega, hc.1, hc.2, fun j hj hh hne => ?_⟩
          have hjn : homeAt W j ≠ 0 := by omega
          by_cases hjb : j = b
          · subst hjb; exact ha
          · have h1 := b4 j (by omega) hh hjb
            rw [ahead_nat (by omega) (by omega) hkn hbn] at ha
            rw [ahead_nat (by omega) (by omega) hbn hjn] at h1
            rw [ahead_nat (by omega) (by omega) hkn hjn]
            exact ahead_trans ha h1
    · rw [if_neg hc] at e
      obtain ⟨m1, m2, m3, m4⟩ := ih m e
      refine ⟨by omega, m2, m3, fun j hj hh hne => ?_⟩
      by_cases hjk : j = k
      · subst hjk; exact absurd ⟨m2, hh⟩ hc
      · exact m4 j (by omega) hh hne
theorem minTo_none {W : WS} {h : Int} (hp : 0 < h) : ∀ (k : Nat), minTo W h k = none → ∀ i, i < k → ¬ (homeAt W i : Int) = h
  | 0, _, i, hi => by omega
  | k + 1, e, i, hi => by
    intro hh
    rw [minTo] at e
    by_cases hc : 0 < h ∧ (homeAt W k : Int) = h
    · rw [if_pos hc] at e
      cases hm : minTo W h k with
      | none => rw [hm] at e; simp at e
      | some b => rw [hm] at e; simp only at e; split at e <;> simp at e
    · rw [if_neg hc] at e
      by_cases hik : i = k
      · subst hik; exact hc ⟨hp, hh⟩
      · exact minTo_none hp k e i (by omega) hh
theorem min_is {W : WS} {h : Int} {m : Nat} (e : minW W h = some m) : IsMin W h m := by
  obtain ⟨h1, h2, h3, h4⟩ := minTo_some W.cells.length (Nat.le_refl _) m e
  exact ⟨h1, h2, h3, h4⟩
theorem isMin_uniq {W : WS} {h : Int} {m n : Nat} (a : IsMin W h m) (b : IsMin W h n) : m = n := by
  by_cases e : m = n
  · exact e
  · have hp := a.pos
    have h1 := a.ahead n b.lt b.home (fun x => e x.symm)
    have h2 := b.ahead m a.lt a.home e
    have e1 := a.home
    have e2 := b.home
    have hm : homeAt W m ≠ 0 := by omega
    have hn : homeAt W n ≠ 0 := by omega
    rw [ahead_nat a.lt b.lt hm hn] at h1
    rw [ahead_nat b.lt a.lt hn hm] at h2
    rw [ahead_asymm h1] at h2
    cases h2
/-- Whoever finds one that is ahead of all others has found that one. -/
theorem min_of {W : WS} {h : Int} {m : Nat} (a : IsMin W h m) : minW W h = some m := by
  cases e : minW W h with
  | none => exact absurd a.home (minTo_none a.pos _ e m a.lt)
  | some n => rw [isMin_uniq a (min_is e)]
theorem len_zero {W : WS} {h : Int} : lenW W h = 0 ↔ ∀ i, i < W.cells.length → 0 < h → ¬ (homeAt W i : Int) = h := by
  unfold lenW
  by_cases hp : 0 < h
  · rw [if_pos hp, List.countP_eq_zero]
    constructor
    · intro H i hi _ e
      refine H (W.cells.getD i .off) (by simp [List.getD_eq_getElem?_getD, hi]) ?_
      simpa [homeAt] using e
    · intro H c hc e
      obtain ⟨i, hi, rfl⟩ := List.getElem_of_mem hc
      refine H i hi hp ?_
      have : W.cells.getD i .off = W.cells[i] := by simp [List.getD_eq_getElem?_getD, hi]
      rw [homeAt, this]
      simpa using e
  · simp [hp]
theorem min_none_iff {W : WS} {h : Int} : minW W h = none ↔ lenW W h = 0 := by
  rw [len_zero]
  constructor
  · intro e i hi hp
    exact minTo_none hp _ e i hi
  · intro H
    cases e : minW W h with
    | none => rfl
    | some m => exact absurd (min_is e).home (H m (min_is e).lt (min_is e).pos)
theorem min_exists {W : WS} {h : Int} (hl : lenW W h ≠ 0) : ∃ m, minW W h = some m := by
  cases e : minW W h with
  | none => exact absurd (min_none_iff.1 e) hl
  | some m => exact ⟨m, rfl⟩
/-- What Extract leaves, and how many are then there. -/
def exW (W : WS) (h : Int) : WS := match minW W h with | some m => dropW W m | none => W
theorem isMin_in {W : WS} {h : Int} {m : Nat} (a : IsMin W h m) : inW W m = true ∧ dropW W m = ⟨W.heaps, W.cells.set m .off⟩ := by
  have hp := a.pos
  have e := a.home
  have hn : homeAt W m ≠ 0 := by omega
  have h1 : inW W m = true := by
    rw [inW, cell_nat W m a.lt]
    exact bne_iff_ne.2 hn
  exact ⟨h1, by simp [dropW, h1]⟩
theorem len_ex {W : WS} {h : Int} {m : Nat} (a : IsMin W h m) (y : Int) : (lenW (dropW W m) y : Int) = if y = h then (lenW W h : Int) - 1 else lenW W y := by
  rw [(isMin_in a).2]
  have hp := a.pos
  have e := a.home
  have hn : (W.cells.getD m .off).home ≠ 0 := by have : homeAt W m ≠ 0 := by omega
                                                 exact this
  have := len_drop (W := W) (x := m) a.lt hn y
  have e2 : ((W.cells.getD m .off).home : Int) = h := e
  rw [e2] at this
  exact this
theorem home_drop {W : WS} {m : Nat} (hm : m < W.cells.length) (i : Nat) : (W.cells.set m .off).getD i .off = if m = i then .off else W.cells.getD i .off := by
  simp only [List.getD_eq_getElem?_getD, List.getElem?_set]
  by_cases e : m = i
  · subst e; simp [hm]
  · simp [e]

/-! ### heaps by themselves -/
/-- Of the heap h the two nests say the same. -/
structure SameH (W V : WS) (h : Int) : Prop where
  len : W.cells.length = V.cells.length
  cell : ∀ i, i < W.cells.length → ((homeAt W i : Int) = h ∨ (homeAt V i : Int) = h) → W.cells.getD i .off = V.cells.getD i .off
theorem SameH.refl (W : WS) (h : Int) : SameH W W h := ⟨rfl, fun _ _ _ => rfl⟩
theorem SameH.home {W V : WS} {h : Int} (s : SameH W V h) {i : Nat} (hi : i < W.cells.length) : (homeAt W i : Int) = h ↔ (homeAt V i : Int) = h := by
  constructor
  · intro e; rw [homeAt, ← s.cell i hi (Or.inl e)]; exact e
  · intro e; rw [homeAt, s.cell i hi (Or.inr e)]; exact e
theorem SameH.isMin {W V : WS} {h : Int} (s : SameH W V h) {m : Nat} (a : IsMin W h m) : IsMin V h m := by
  have hp := a.pos
  have e := a.home
  refine ⟨by rw [← s.len]; exact a.lt, a.pos, (s.home a.lt).1 a.home, fun j hj hh hne => ?_⟩
  have hj' : j < W.cells.length := by rw [s.len]; exact hj
  have hw := (s.home hj').2 hh
  have h1 := a.ahead j hj' hw hne
  have e2 := (s.home a.lt).1 a.home
  rw [ahead_nat a.lt hj' (by omega) (by omega)] at h1
  rw [ahead_nat (by rw [← s.len]; exact a.lt) hj (by omega) (by omega), ← s.cell m a.lt (Or.inl a.home), ← s.cell j hj' (Or.inl hw)]
  exact h1
theorem SameH.symm {W V : WS} {h : Int} (s : SameH W V h) : SameH V W h := ⟨s.len.symm, fun i hi hh => (s.cell i (by rw [s.len]; exact hi) hh.symm).symm⟩
theorem SameH.min {W V : WS} {h : Int} (s : SameH W V h) : minW W h = minW V h := by
  cases e : minW W h with
  | some m => exact (min_of (s.isMin (min_is e))).symm
  | none =>
    cases e2 : minW V h with
    | none => rfl
    | some m => rw [min_of (s.symm.isMin (min_is e2))] at e; cases e
theorem SameH.drop {W V : WS} {h : Int} (s : SameH W V h) {m : Nat} (a : IsMin W h m) : SameH (dropW W m) (dropW V m) h := by
  rw [(isMin_in a).2, (isMin_in (s.isMin a)).2]
  have hm := a.lt
  have hm' : m < V.cells.length := by rw [← s.len]; exact hm
  refine ⟨by simpa using s.len, fun i hi hh => ?_⟩
  simp only [List.length_set] at hi
  simp only [homeAt, home_drop hm, home_drop hm'] at hh ⊢
  by_cases e : m = i
  · rw [if_pos e, if_pos e]
  · rw [if_neg e, if_neg e] at *
    exact s.cell i hi hh
/-- What comes out of a heap is nothing to another one. -/
theorem SameH.other {W : WS} {h g : Int} {m : Nat} (a : IsMin W h m) (hne : g ≠ h) (hg : 0 < g) : SameH W (dropW W m) g := by
  rw [(isMin_in a).2]
  refine ⟨by simp, fun i hi hh => ?_⟩
  simp only [homeAt, home_drop a.lt] at hh ⊢
  by_cases e : m = i
  · subst e
    exfalso
    have := a.home
    simp only [homeAt, if_pos] at this hh
    rcases hh with hh | hh
    · omega
    · simp [CellD.off] at hh; omega
  · rw [if_neg e]
theorem SameH.trans {U W V : WS} {h : Int} (s : SameH U W h) (t : SameH W V h) : SameH U V h :=
  ⟨s.len.trans t.len, fun i hi hh => by
    have hiW : i < W.cells.length := by rw [← s.len]; exact hi
    rcases hh with hh | hh
    · rw [s.cell i hi (Or.inl hh)]
      exact t.cell i hiW (Or.inl ((s.home hi).1 hh))
    · have hw := (t.home hiW).2 hh
      rw [s.cell i hi (Or.inr hw)]
      exact t.cell i hiW (Or.inl hw)⟩
/-- The slots of a heap, each ahead of the next one: so many of them. -/
def orderN : Nat → WS → Int → List Nat
  | 0, _, _ => []
  | n + 1, W, h => match minW W h with | none => [] | some m => m :: orderN n (dropW W m) h
def orderW (W : WS) (h : Int) : List Nat := orderN (lenW W h) W h
theorem order_none {W : WS} {h : Int} (e : minW W h = none) : orderW W h = [] := by
  unfold orderW; rw [min_none_iff.1 e]; rfl
theorem order_some {W : WS} {h : Int} {m : Nat} (e : minW W h = some m) : orderW W h = m :: orderW (dropW W m) h := by
  have a := min_is e
  have hl : lenW W h ≠ 0 := fun h0 => by rw [min_none_iff.2 h0] at e; cases e
  have h1 := len_ex a h
  rw [if_pos rfl] at h1
  have e2 : lenW W h = lenW (dropW W m) h + 1 := by omega
  unfold orderW
  rw [e2, orderN, e]
theorem order_len (W : WS) (h : Int) : (orderW W h).length = lenW W h := by
  generalize hn : lenW W h = n
  induction n generalizing W with
  | zero => rw [order_none (min_none_iff.2 hn)]; rfl
  | succ n ih =>
    obtain ⟨m, e⟩ := min_exists (W := W) (h := h) (by omega)
    have h1 := len_ex (min_is e) h
    rw [if_pos rfl] at h1
    rw [order_some e, List.length_cons, ih _ (by omega)]
theorem SameH.order {W V : WS} {h : Int} (s : SameH W V h) : orderW W h = orderW V h := by
  generalize hn : lenW W h = n
  induction n generalizing W V with
  | zero =>
    have e := min_none_iff.2 hn
    rw [order_none e, order_none (W := V) (s.min.symm.trans e)]
  | succ n ih =>
    obtain ⟨m, e⟩ := min_exists (W := W) (h := h) (by omega)
    have h1 := len_ex (min_is e) h
    rw [if_pos rfl] at h1
    rw [order_some e, order_some (W := V) (m := m) (s.min.symm.trans e), ih (s.drop (min_is e)) (by omega)]
theorem order_cons {V : WS} {h : Int} {s : Nat} {r : List Nat} (e : orderW V h = s :: r) : minW V h = some s ∧ orderW (dropW V s) h = r := by
  cases em : minW V h with
  | none => rw [order_none em] at e; cases e
  | some m =>
    rw [order_some em] at e
    injection e with e1 e2
    subst e1
    exact ⟨rfl, e2⟩
theorem order_nil {V : WS} {h : Int} (e : orderW V h = []) : minW V h = none ∧ lenW V h = 0 := by
  cases em : minW V h with
  | none => exact ⟨rfl, min_none_iff.1 em⟩
  | some m => rw [order_some em] at e; cases e

/-! ### heap by heap comes out -/
/-- The heaps from h on are as they were in W. -/
structure RInv (W V : WS) (h : Int) : Prop where
  heaps : V.heaps = W.heaps
  cells : V.cells.length = W.cells.length
  same : ∀ g : Int, h ≤ g → 0 < g → SameH W V g
/-- The heap h has yet to come out as r. -/
structure RIn (W V : WS) (h : Int) (r : List Nat) : Prop where
  heaps : V.heaps = W.heaps
  cells : V.cells.length = W.cells.length
  order : orderW V h = r
  same : ∀ g : Int, h < g → 0 < g → SameH W V g
theorem rinv_start (W : WS) (h : Int) : RInv W W h := ⟨rfl, rfl, fun g _ _ => SameH.refl W g⟩
theorem rin_start {W V : WS} {h : Int} (R : RInv W V h) (hp : 0 < h) : RIn W V h (orderW W h) :=
  ⟨R.heaps, R.cells, (R.same h (Int.le_refl _) hp).order.symm, fun g hg hp => R.same g (by omega) hp⟩
theorem rin_step {W V : WS} {h : Int} {s : Nat} {r : List Nat} (R : RIn W V h (s :: r)) : IsMin V h s ∧ RIn W (dropW V s) h r := by
  obtain ⟨h1, h2⟩ := order_cons R.order
  have a := min_is h1
  refine ⟨a, by rw [(isMin_in a).2]; exact R.heaps, by rw [(isMin_in a).2]; simpa using R.cells, h2, fun g hg hp => (R.same g hg hp).trans (SameH.other a (by omega) hp)⟩
theorem rin_end {W V : WS} {h : Int} (R : RIn W V h []) : minW V h = none ∧ lenW V h = 0 ∧ RInv W V (h + 1) := by
  obtain ⟨h1, h2⟩ := order_nil R.order
  exact ⟨h1, h2, R.heaps, R.cells, fun g hg hp => R.same g (by omega) hp⟩
theorem rin_has {W V : WS} {h : Int} {r : List Nat} (R : RIn W V h r) {i : Nat} (h1 : 1 ≤ i) (h2 : i < W.heaps.length) : hasW V i = W.heaps.getD i false := by
  have : (1 : Int) ≤ i ∧ (i : Int) < W.heaps.length := by omega
  simp only [hasW, R.heaps, Int.toNat_natCast, decide_eq_true this, Bool.true_and]
end Go.Proofs.YtmoolbmbdnkooaaGreat
