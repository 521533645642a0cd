/- Pairing trees as plain data: what hangs below what (K), what is topmost in each heap (R), and what is a root beside these for now (E). No program is named here. -/
import Derived.Test.YtcjjglaimfhofaaSiftHeap
import Derived.Test.YtcjjglaimfhofaaHomeInv
namespace Go.Proofs.Ytcjjglaimfhofaa

/-- All slots of a heap. -/
def slotsW (W : WS) (h : Nat) : List Int := if h = 0 then [] else ((List.range W.cells.length).map fun i : Nat => (i : Int)).filter fun y => (cellW W y).home == h
theorem homes_all (W : WS) : HomeInv W (slotsW W) := by
  refine ⟨fun h x hp => ?_, rfl, fun h => ?_⟩
  · unfold slotsW
    rw [if_neg (by omega), List.mem_filter, mem_ints]
    simp only [beq_iff_eq]
    constructor
    · exact fun h => h.2
    · intro e
      obtain ⟨k, h2, h3, _⟩ := dcell_in hp e
      exact ⟨⟨by omega, by omega⟩, e⟩
  · unfold slotsW; split
    · exact List.nodup_nil
    · exact (ints_nodup _).filter _
theorem in_home {W : WS} {x : Int} : inW W x = true ↔ 1 ≤ (cellW W x).home := by
  unfold inW
  rw [bne_iff_ne]; omega
theorem prin_slot {W : WS} {x : Int} (h : inW W x = true) : inB W.cells.length x := by
  obtain ⟨k, h2, h3, _⟩ := dcell_in (in_home.1 h) rfl
  exact ⟨by omega, by omega⟩
structure PrF (W : WS) (K : Int → List Int) : Prop where
  fb : FbInv W.cells.length K
  kin : ∀ p x, x ∈ K p → inW W x = true ∧ (cellW W x).home = (cellW W p).home ∧ aheadW W x p = false
structure PrMid (W : WS) (K : Int → List Int) (R : Nat → Option Int) (E : Int → Prop) : Prop where
  f : PrF W K
  top : ∀ x, inW W x = true → fbTop K x → R (cellW W x).home = some x ∨ E x
  is : ∀ h x, R h = some x → 1 ≤ h ∧ inW W x = true ∧ (cellW W x).home = h ∧ fbTop K x ∧ ¬ E x
  pend : ∀ x, E x → inW W x = true ∧ fbTop K x
abbrev noE : Int → Prop := fun _ => False
section
variable {W : WS} {K : Int → List Int} {R : Nat → Option Int} {E : Int → Prop}
theorem PrF.par (I : PrF W K) {p x : Int} (h : x ∈ K p) : inW W p = true := by
  obtain ⟨h1, h2, _⟩ := I.kin p x h
  rw [in_home] at h1 ⊢; omega
theorem PrF.out (I : PrF W K) {x : Int} (h : inW W x = false) : fbTop K x ∧ K x = [] := by
  refine ⟨fun p hp => ?_, ?_⟩
  · rw [(I.kin p x hp).1] at h; cases h
  · cases e : K x with
    | nil => rfl
    | cons y l => rw [I.par (x := y) (by rw [e]; simp)] at h; cases h
theorem PrF.root (I : PrF W K) {x : Int} (h : inW W x = true) : ∃ r, fbTop K r ∧ inW W r = true ∧ (cellW W r).home = (cellW W x).home ∧ aheadW W x r = false := by
  obtain ⟨r, hr, hd⟩ := Des.root I.fb x
  refine ⟨r, hr, ?_⟩
  clear hr
  revert h
  induction hd with
  | refl => exact fun h => ⟨h, rfl, dahead_irr _ _⟩
  | @step p y _ hy ih =>
    intro h
    obtain ⟨h1, h2, h3⟩ := ih (I.par hy)
    obtain ⟨_, k2, k3⟩ := I.kin p y hy
    exact ⟨h1, h2.trans k2.symm, hm_neg h (I.par hy) k3 h3⟩
theorem PrMid.min (I : PrMid W K R noE) {h : Nat} {x : Int} (hx : R h = some x) : ∃ k : Nat, x = k ∧ IsMin W h k := by
  obtain ⟨h1, h2, h3, _⟩ := I.is h x hx
  refine (homes_all W).min (((homes_all W).mem h x h1).2 h3) fun y hy => ?_
  obtain ⟨_, h4, h5, _⟩ := (homes_all W).in' hy
  obtain ⟨r, r1, r2, r3, r4⟩ := I.f.root h5
  rcases I.top r r2 r1 with e | e
  · rw [r3, h4, hx] at e; cases e; exact r4
  · exact e.elim
theorem PrMid.none (I : PrMid W K R noE) {h : Nat} (hp : 1 ≤ h) (hx : R h = none) : lenW W h = 0 := by
  rw [← (homes_all W).empty hp]
  cases e : slotsW W h with
  | nil => rfl
  | cons y l =>
    obtain ⟨_, h4, h5, _⟩ := (homes_all W).in' (show y ∈ slotsW W h by rw [e]; simp)
    obtain ⟨r, r1, r2, r3, r4⟩ := I.f.root h5
    rcases I.top r r2 r1 with e | e
    · rw [r3, h4, hx] at e; cases e
    · exact e.elim
theorem PrMid.zero (I : PrMid W K R E) : R 0 = .none := by
  cases e : R 0 with
  | none => rfl
  | some x => have := (I.is 0 x e).1; omega
theorem PrMid.few (I : PrMid W K R E) (hf : W.Fit) {h : Nat} {x : Int} (e : R h = some x) : h < 65537 := by
  obtain ⟨h1, h2, h3, _⟩ := I.is h x e
  exact ((homes_all W).keyLt hf (List.ne_nil_of_mem (((homes_all W).mem h x h1).2 h3))).2
/-! ### what links and cuts turn -/
def linkC (W : WS) (a b : Int) : Int := if aheadW W b a then b else a
def linkD (W : WS) (a b : Int) : Int := if aheadW W b a then a else b
def linkP (W : WS) (K : Int → List Int) (a b : Int) : Int → List Int := fbHang K (linkC W a b) (linkD W a b :: K (linkC W a b))
def cutP (K : Int → List Int) (x : Int) : Int → List Int := fun z => (K z).erase x
theorem mem_hang {a b p x : Int} {l : List Int} : x ∈ fbHang K a (b :: l) p ↔ (p = a ∧ (x = b ∨ x ∈ l)) ∨ (p ≠ a ∧ x ∈ K p) := by
  unfold fbHang
  by_cases e : p = a
  · rw [if_pos e]; simp [e]
  · rw [if_neg e]; simp [e]
theorem PrMid.same (I : PrMid W K R E) {E' : Int → Prop} (h : ∀ y, E' y ↔ E y) : PrMid W K R E' :=
  ⟨I.f, fun x h1 h2 => (I.top x h1 h2).imp_right (h x).2, fun g x h1 => by obtain ⟨a, b, c, d, e⟩ := I.is g x h1; exact ⟨a, b, c, d, fun k => e ((h x).1 k)⟩, fun x h1 => I.pend x ((h x).1 h1)⟩
theorem linkCD (a b : Int) : (linkC W a b = a ∧ linkD W a b = b ∧ aheadW W b a = false) ∨ (linkC W a b = b ∧ linkD W a b = a ∧ aheadW W a b = false) := by
  unfold linkC linkD
  cases h : aheadW W b a
  · exact Or.inl ⟨rfl, rfl, rfl⟩
  · exact Or.inr ⟨rfl, rfl, hm_asym h⟩
theorem PrF.hang (I : PrF W K) {c d : Int} (hc : inW W c = true) (hd : inW W d = true) (tc : fbTop K c) (td : fbTop K d) (hne : c ≠ d) (hh : (cellW W c).home = (cellW W d).home) (ha : aheadW W d c = false) :
    PrF W (fbHang K c (d :: K c)) ∧ ∀ y, fbTop (fbHang K c (d :: K c)) y ↔ fbTop K y ∧ y ≠ d := by
  refine ⟨⟨hang_inv I.fb (prin_slot hc) (prin_slot hd) tc td hne (List.Perm.refl _), fun p x h => ?_⟩, fun y => ⟨fun h => ⟨fun p hp => ?_, fun e => ?_⟩, fun h p hp => ?_⟩⟩
  · rcases mem_hang.1 h with ⟨rfl, rfl | h⟩ | ⟨_, h⟩
    · exact ⟨hd, hh.symm, ha⟩
    · exact I.kin _ _ h
    · exact I.kin _ _ h
  · refine h p (mem_hang.2 ?_)
    by_cases e : p = c
    · subst e; exact Or.inl ⟨rfl, Or.inr hp⟩
    · exact Or.inr ⟨e, hp⟩
  · exact h c (mem_hang.2 (Or.inl ⟨rfl, Or.inl e⟩))
  · rcases mem_hang.1 hp with ⟨rfl, e | hp⟩ | ⟨_, hp⟩
    · exact h.2 e
    · exact h.1 _ hp
    · exact h.1 _ hp
theorem PrF.link (I : PrF W K) {a b : Int} (hc : inW W a = true) (hd : inW W b = true) (tc : fbTop K a) (td : fbTop K b) (hne : a ≠ b) (hh : (cellW W a).home = (cellW W b).home) :
    PrF W (linkP W K a b) ∧ ∀ y, fbTop (linkP W K a b) y ↔ fbTop K y ∧ y ≠ linkD W a b := by
  unfold linkP
  rcases linkCD (W := W) a b with ⟨e1, e2, e3⟩ | ⟨e1, e2, e3⟩ <;> rw [e1, e2]
  · exact I.hang hc hd tc td hne hh e3
  · exact I.hang hd hc td tc (fun e => hne e.symm) hh.symm e3
/-- A root comes to its heap's tree. -/
theorem PrMid.add0 {h : Nat} {t : Int} (I : PrMid W K R fun y => y = t ∨ E y) (ht : ¬ E t) (hh : (cellW W t).home = h) (hR : R h = Option.none) : PrMid W K (fun g => if g = h then some t else R g) E := by
  obtain ⟨h1, h2⟩ := I.pend t (Or.inl rfl)
  refine ⟨I.f, fun x k1 k2 => ?_, fun g x k => ?_, fun x k => I.pend x (Or.inr k)⟩
  · rcases I.top x k1 k2 with e | e | e
    · refine Or.inl ?_
      show (if _ then _ else _) = _
      rw [if_neg]
      · exact e
      · intro k; rw [k, hR] at e; cases e
    · subst e; exact Or.inl (if_pos hh)
    · exact Or.inr e
  · split at k
    · rename_i e; cases k; subst e
      exact ⟨by rw [← hh]; exact in_home.1 h1, h1, hh, h2, ht⟩
    · obtain ⟨a, b, c, d, e⟩ := I.is g x k
      exact ⟨a, b, c, d, fun e2 => e (Or.inr e2)⟩
theorem PrMid.add1 {h : Nat} {t f : Int} (I : PrMid W K R fun y => y = t ∨ E y) (ht : ¬ E t) (hh : (cellW W t).home = h) (hR : R h = some f) :
    (f ≠ t ∧ inW W f = true ∧ inW W t = true ∧ fbTop K f ∧ fbTop K t) ∧ (linkC W f t = f ∨ linkC W f t = t) ∧ PrMid W (linkP W K f t) (fun g => if g = h then some (linkC W f t) else R g) E ∧ ∀ y, E y → linkP W K f t y = K y := by
  obtain ⟨h1, h2⟩ := I.pend t (Or.inl rfl)
  obtain ⟨f1, f2, f3, f4, f5⟩ := I.is h f hR
  have hne : f ≠ t := fun e => f5 (Or.inl e)
  have hfE : ¬ E f := fun e => f5 (Or.inr e)
  obtain ⟨F, T⟩ := I.f.link f2 h1 f4 h2 hne (f3.trans hh.symm)
  have hCD := linkCD (W := W) f t
  have hC : inW W (linkC W f t) = true ∧ (cellW W (linkC W f t)).home = h ∧ fbTop K (linkC W f t) ∧ ¬ E (linkC W f t) ∧ linkC W f t ≠ linkD W f t := by
    rcases hCD with ⟨e1, e2, _⟩ | ⟨e1, e2, _⟩ <;> rw [e1, e2]
    · exact ⟨f2, f3, f4, hfE, hne⟩
    · exact ⟨h1, hh, h2, ht, fun e => hne e.symm⟩
  have hD : ¬ E (linkD W f t) := by rcases hCD with ⟨_, e2, _⟩ | ⟨_, e2, _⟩ <;> rw [e2] <;> assumption
  refine ⟨⟨hne, f2, h1, f4, h2⟩, hCD.imp (fun e => e.1) (fun e => e.1), ⟨F, fun x k1 k2 => ?_, fun g x k => ?_, fun x k => ⟨(I.pend x (Or.inr k)).1, (T x).2 ⟨(I.pend x (Or.inr k)).2, fun e => hD (e ▸ k)⟩⟩⟩, fun y hy => ?_⟩
  · obtain ⟨k3, k4⟩ := (T x).1 k2
    rcases I.top x k1 k3 with e | e | e
    · refine Or.inl ?_
      show (if _ then _ else _) = _
      split
      · rename_i e2; rw [e2, hR] at e; cases e
        rcases hCD with ⟨e1, e2, _⟩ | ⟨e1, e2, _⟩
        · rw [e1]
        · rw [e2] at k4; exact absurd rfl k4
      · exact e
    · subst e
      refine Or.inl ?_
      show (if _ then _ else _) = _
      rw [if_pos hh]
      rcases hCD with ⟨e1, e2, _⟩ | ⟨e1, e2, _⟩
      · rw [e2] at k4; exact absurd rfl k4
      · rw [e1]
    · exact Or.inr e
  · split at k
    · rename_i e; cases k; subst e
      exact ⟨f1, hC.1, hC.2.1, (T _).2 ⟨hC.2.2.1, hC.2.2.2.2⟩, hC.2.2.2.1⟩
    · rename_i e2
      obtain ⟨a, b, c, d, e⟩ := I.is g x k
      refine ⟨a, b, c, (T x).2 ⟨d, fun e3 => ?_⟩, fun e2 => e (Or.inr e2)⟩
      have : (cellW W (linkD W f t)).home = h := by rcases hCD with ⟨_, e4, _⟩ | ⟨_, e4, _⟩ <;> rw [e4] <;> assumption
      rw [← e3] at this; exact e2 (c.symm.trans this)
  · unfold linkP fbHang
    rw [if_neg]
    intro e; exact hC.2.2.2.1 (e ▸ hy)
/-- A slot comes off: it is a root by itself, with all below it. -/
def takeK (K : Int → List Int) (R : Nat → Option Int) (h : Nat) (x : Int) : Int → List Int := if R h = some x then K else cutP K x
def takeR (R : Nat → Option Int) (h : Nat) (x : Int) : Nat → Option Int := if R h = some x then fun g => if g = h then none else R g else R
theorem mem_cut {n : Nat} (I : FbInv n K) {x y p : Int} : y ∈ cutP K x p ↔ y ∈ K p ∧ y ≠ x := by
  unfold cutP
  rw [(I.nodup p).mem_erase_iff]
  exact and_comm
theorem PrMid.take (I : PrMid W K R noE) {x : Int} {h : Nat} (hx : inW W x = true) (hh : (cellW W x).home = h) : PrMid W (takeK K R h x) (takeR R h x) (fun y => y = x) ∧ (R h ≠ some x → ∃ p, x ∈ K p) ∧ takeK K R h x x = K x := by
  unfold takeK takeR
  by_cases e : R h = some x
  · rw [if_pos e, if_pos e]
    refine ⟨⟨I.f, fun y k1 k2 => ?_, fun g y k => ?_, ?_⟩, fun k => absurd e k, rfl⟩
    · rcases I.top y k1 k2 with e2 | e2
      · split
        · rename_i e3; rw [e3, e] at e2; cases e2; exact Or.inr rfl
        · exact Or.inl e2
      · exact e2.elim
    · split at k
      · cases k
      · rename_i e3
        obtain ⟨a, b, c, d, _⟩ := I.is g y k
        exact ⟨a, b, c, d, fun e4 => by subst e4; exact e3 (c.symm.trans hh)⟩
    · rintro y rfl; exact ⟨hx, (I.is _ _ e).2.2.2.1⟩
  · rw [if_neg e, if_neg e]
    have hp : ∃ p, x ∈ K p := Classical.byContradiction fun hn => (I.top x hx fun p hp => hn ⟨p, hp⟩).elim (fun e2 => e (by rw [← hh]; exact e2)) id
    have hm := fun y p => mem_cut I.f.fb (x := x) (y := y) (p := p)
    refine ⟨⟨⟨less_inv I.f.fb (fun p y hy => ((hm y p).1 hy).1) fun p => (I.f.fb.nodup p).erase _, fun p y hy => I.f.kin p y ((hm y p).1 hy).1⟩, fun y k1 k2 => ?_, fun g y k => ?_, ?_⟩, fun _ => hp, ?_⟩
    · by_cases e2 : y = x
      · exact Or.inr e2
      · exact Or.inl ((I.top y k1 fun p hp => k2 p ((hm y p).2 ⟨hp, e2⟩)).elim id False.elim)
    · obtain ⟨a, b, c, d, _⟩ := I.is g y k
      refine ⟨a, b, c, fun p hp => d p ((hm y p).1 hp).1, fun e4 => ?_⟩
      subst e4; obtain ⟨p, hp⟩ := hp; exact d p hp
    · rintro y rfl; exact ⟨hx, fun p hp => ((hm y p).1 hp).2 rfl⟩
    · show (K x).erase x = K x
      refine List.erase_of_not_mem fun h => ?_
      obtain ⟨m, hm⟩ := I.f.fb.low
      have := hm x x h; omega
/-- Its children come off it. -/
theorem PrMid.split {x : Int} (I : PrMid W K R fun y => y = x) : PrMid W (fbHang K x []) R (fun y => y ∈ K x ∨ y = x) := by
  have hm : ∀ y p, y ∈ fbHang K x [] p ↔ p ≠ x ∧ y ∈ K p := fun y p => by
    unfold fbHang
    by_cases e : p = x
    · rw [if_pos e]; simp [e]
    · rw [if_neg e]; simp [e]
  refine ⟨⟨less_inv I.f.fb (fun p y hy => ((hm y p).1 hy).2) fun p => ?_, fun p y hy => I.f.kin p y ((hm y p).1 hy).2⟩, fun y k1 k2 => ?_, fun g y k => ?_, ?_⟩
  · unfold fbHang; split
    · exact List.nodup_nil
    · exact I.f.fb.nodup p
  · by_cases e : y ∈ K x
    · exact Or.inr (Or.inl e)
    · exact (I.top y k1 fun p hp => k2 p ((hm y p).2 ⟨fun e2 => e (e2 ▸ hp), hp⟩)).imp id Or.inr
  · obtain ⟨a, b, c, d, e⟩ := I.is g y k
    exact ⟨a, b, c, fun p hp => d p ((hm y p).1 hp).2, fun e2 => e2.elim (d x) e⟩
  · rintro y (k | rfl)
    · exact ⟨(I.f.kin x y k).1, fun p hp => by obtain ⟨k1, k2⟩ := (hm y p).1 hp; exact k1 (I.f.fb.one p x y k2 k)⟩
    · obtain ⟨a, b⟩ := I.pend y rfl
      exact ⟨a, fun p hp => b p ((hm y p).1 hp).2⟩
/-- Roots that came off x, which is still in the heap h. -/
structure PrPend (W : WS) (R : Nat → Option Int) (x : Int) (h : Nat) (K : Int → List Int) (P : List Int) : Prop where
  mid : PrMid W K R fun y => y ∈ P ∨ y = x
  home : ∀ y ∈ P, (cellW W y).home = h ∧ y ≠ x
  nodup : P.Nodup
  bare : K x = []
theorem PrPend.perm {x : Int} {h : Nat} {P P' : List Int} (I : PrPend W R x h K P) (hp : P'.Perm P) : PrPend W R x h K P' :=
  ⟨I.mid.same fun y => by rw [hp.mem_iff], fun y hy => I.home y (hp.mem_iff.1 hy), hp.nodup_iff.2 I.nodup, I.bare⟩
theorem PrMid.pends {x : Int} {h : Nat} (I : PrMid W K R fun y => y = x) (hh : (cellW W x).home = h) : PrPend W R x h (fbHang K x []) (K x) := by
  refine ⟨I.split, fun y hy => ⟨by rw [(I.f.kin x y hy).2.1, hh], fun e => ?_⟩, I.f.fb.nodup x, by simp [fbHang]⟩
  subst e
  obtain ⟨m, hm⟩ := I.f.fb.low
  have := hm y y hy; omega
theorem PrPend.link {x a b : Int} {h : Nat} {P : List Int} (I : PrPend W R x h K (a :: b :: P)) :
    (a ≠ b ∧ inW W a = true ∧ inW W b = true ∧ fbTop K a ∧ fbTop K b) ∧ PrPend W R x h (linkP W K a b) (linkC W a b :: P) := by
  obtain ⟨a1, a2⟩ := I.mid.pend a (Or.inl (by simp))
  obtain ⟨b1, b2⟩ := I.mid.pend b (Or.inl (by simp))
  obtain ⟨ha, hax⟩ := I.home a (by simp)
  obtain ⟨hb, hbx⟩ := I.home b (by simp)
  obtain ⟨n1, n2⟩ := List.nodup_cons.1 I.nodup
  obtain ⟨n3, n4⟩ := List.nodup_cons.1 n2
  have hab : a ≠ b := fun e => n1 (by simp [e])
  obtain ⟨F, T⟩ := I.mid.f.link a1 b1 a2 b2 hab (ha.trans hb.symm)
  have hC : ∃ d, linkD W a b = d ∧ (linkC W a b = a ∧ d = b ∨ linkC W a b = b ∧ d = a) := ⟨_, rfl, (linkCD (W := W) a b).imp (fun e => ⟨e.1, e.2.1⟩) (fun e => ⟨e.1, e.2.1⟩)⟩
  obtain ⟨d, hd, hC⟩ := hC
  obtain ⟨c, hc⟩ : ∃ c, linkC W a b = c := ⟨_, rfl⟩
  have hbare : linkP W K a b x = [] := by
    unfold linkP fbHang
    rw [if_neg, I.bare]
    rcases hC with ⟨e, _⟩ | ⟨e, _⟩ <;> rw [e] <;> intro e2
    · exact hax e2.symm
    · exact hbx e2.symm
  rw [hc] at hC ⊢
  rw [hd] at T
  have hdm : ∀ y ∈ P, y ≠ d ∧ y ≠ c := fun y hy => by
    have h1 : y ≠ a := fun e => n1 (by simp [← e, hy])
    have h2 : y ≠ b := fun e => n3 (by simp [← e, hy])
    rcases hC with ⟨rfl, rfl⟩ | ⟨rfl, rfl⟩
    · exact ⟨h2, h1⟩
    · exact ⟨h1, h2⟩
  have hcd : c ≠ d ∧ (c = a ∨ c = b) := by
    rcases hC with ⟨rfl, rfl⟩ | ⟨rfl, rfl⟩
    · exact ⟨hab, Or.inl rfl⟩
    · exact ⟨fun e => hab e.symm, Or.inr rfl⟩
  refine ⟨⟨hab, a1, b1, a2, b2⟩, ⟨F, fun y k1 k2 => ?_, fun g y k => ?_, ?_⟩, ?_, ?_, hbare⟩
  · obtain ⟨k3, k4⟩ := (T y).1 k2
    refine (I.mid.top y k1 k3).imp id ?_
    rintro (e | e)
    · refine Or.inl ?_
      simp only [List.mem_cons] at e ⊢
      rcases hC with ⟨rfl, rfl⟩ | ⟨rfl, rfl⟩ <;> rcases e with e | e | e <;> simp_all
    · exact Or.inr e
  · obtain ⟨a3, b3, c3, d3, e3⟩ := I.mid.is g y k
    refine ⟨a3, b3, c3, (T y).2 ⟨d3, fun e => e3 ?_⟩, fun e => e3 ?_⟩
    · subst e; rcases hC with ⟨_, rfl⟩ | ⟨_, rfl⟩ <;> simp
    · rcases e with e | e
      · simp only [List.mem_cons] at e
        rcases e with e | e
        · subst e; rcases hcd.2 with rfl | rfl <;> simp
        · exact Or.inl (by simp [e])
      · exact Or.inr e
  · rintro y (e | rfl)
    · simp only [List.mem_cons] at e
      rcases e with rfl | e
      · obtain ⟨q1, q2⟩ := I.mid.pend y (Or.inl (by rcases hcd.2 with rfl | rfl <;> simp))
        exact ⟨q1, (T y).2 ⟨q2, hcd.1⟩⟩
      · obtain ⟨q1, q2⟩ := I.mid.pend y (Or.inl (by simp [e]))
        exact ⟨q1, (T y).2 ⟨q2, (hdm y e).1⟩⟩
    · obtain ⟨q1, q2⟩ := I.mid.pend y (Or.inr rfl)
      refine ⟨q1, (T y).2 ⟨q2, fun e => ?_⟩⟩
      subst e; rcases hC with ⟨_, e⟩ | ⟨_, e⟩
      · exact hbx e.symm
      · exact hax e.symm
  · intro y hy
    rcases List.mem_cons.1 hy with rfl | hy
    · exact I.home y (by rcases hcd.2 with rfl | rfl <;> simp)
    · exact I.home y (by simp [hy])
  · exact List.nodup_cons.2 ⟨fun h => (hdm c h).2 rfl, n4⟩
/-! ### what the cells' calls turn -/
theorem PrMid.cells {W' : WS} (I : PrMid W K R E) (h : W'.cells = W.cells) : PrMid W' K R E := by
  have e1 : ∀ y, cellW W' y = cellW W y := fun y => by rw [dcells_eq h]
  have e2 : ∀ y, inW W' y = inW W y := fun y => by unfold inW; rw [e1]
  have e3 : ∀ a b, aheadW W' a b = aheadW W a b := fun a b => by unfold aheadW aheadC; rw [e2, e2, e1, e1]
  exact ⟨⟨by rw [h]; exact I.f.fb, fun p x hx => by rw [e1, e1, e2, e3]; exact I.f.kin p x hx⟩, fun x k1 k2 => by rw [e1]; exact I.top x (by rw [← e2]; exact k1) k2, fun g x k => by rw [e1, e2]; exact I.is g x k, fun x k => by rw [e2]; exact I.pend x k⟩
theorem PrMid.lower {x k s : Int} (I : PrMid W K R fun y => y = x) (hb : lowerB W x k s = true) : PrMid (lowerW W x k s) K R fun y => y = x := by
  obtain ⟨h1, h2, h3, h4, h5, _⟩ := homes_lower (homes_all W) hb
  have hl : (lowerW W x k s).cells.length = W.cells.length := by unfold lowerW; split <;> simp
  have ht := (I.pend x rfl).2
  refine ⟨⟨by rw [hl]; exact I.f.fb, fun p y hy => ?_⟩, fun y k1 k2 => by rw [h3]; exact I.top y (by rw [← h2]; exact k1) k2, fun g y k => by rw [h3, h2]; exact I.is g y k, fun y k => by rw [h2]; exact I.pend y k⟩
  obtain ⟨q1, q2, q3⟩ := I.f.kin p y hy
  have hyx : y ≠ x := fun e => ht p (e ▸ hy)
  refine ⟨by rw [h2]; exact q1, by rw [h3, h3]; exact q2, ?_⟩
  by_cases e : p = x
  · subst e; exact h5 y q1 hyx q3
  · rw [h4 y p hyx e]; exact q3
theorem PrMid.put {x k s : Int} {h : Nat} (I : PrMid W K R noE) (hp : putB W h x = true) (h1 : 1 ≤ h) : PrMid (putW W h x k s) K R (fun y => y = x) ∧ K x = [] ∧ (cellW (putW W h x k s) x).home = h := by
  obtain ⟨q1, q2, q3, q4, q5⟩ := homes_put (k := k) (s := s) (homes_all W) hp h1
  have H := q5 (fun g => if g = h then x :: slotsW W g else slotsW W g) (by rw [if_pos rfl]) (fun g hg => by rw [if_neg hg])
  have hx : (cellW (putW W h x k s) x).home = h := (H.mem h x h1).1 (by simp)
  obtain ⟨o1, o2⟩ := I.f.out q2
  have hl : (putW W h x k s).cells.length = W.cells.length := by unfold putW; split <;> simp
  have hin : ∀ y, y ≠ x → inW (putW W h x k s) y = inW W y := fun y hy => by unfold inW; rw [q4 y hy]
  have hne : ∀ {p y}, y ∈ K p → y ≠ x ∧ p ≠ x := fun {p y} hy => ⟨fun e => o1 p (e ▸ hy), fun e => by rw [e, o2] at hy; cases hy⟩
  refine ⟨⟨⟨by rw [hl]; exact I.f.fb, fun p y hy => ?_⟩, fun y k1 k2 => ?_, fun g y k => ?_, ?_⟩, o2, hx⟩
  · obtain ⟨n1, n2⟩ := hne hy
    obtain ⟨a1, a2, a3⟩ := I.f.kin p y hy
    exact ⟨by rw [hin y n1]; exact a1, by rw [q4 y n1, q4 p n2]; exact a2, by rw [dahead_same (q4 y n1) (q4 p n2)]; exact a3⟩
  · by_cases e : y = x
    · exact Or.inr e
    · rw [hin y e] at k1
      rw [q4 y e]
      exact Or.inl ((I.top y k1 k2).elim id False.elim)
  · obtain ⟨a, b, c, d, _⟩ := I.is g y k
    have e : y ≠ x := fun e => by rw [e, q2] at b; cases b
    exact ⟨a, by rw [hin y e]; exact b, by rw [q4 y e]; exact c, d, e⟩
  · rintro y rfl; exact ⟨q3, o1⟩
theorem PrMid.drop {x : Int} (I : PrMid W K R fun y => y = x) (hK : K x = []) : PrMid (dropW W x) K R noE := by
  obtain ⟨hx, ht⟩ := I.pend x rfl
  obtain ⟨q1, q2, _⟩ := homes_drop (homes_all W) ((homes_all W).home hx).2
  have hl : (dropW W x).cells.length = W.cells.length := by unfold dropW; split <;> simp
  have hin : ∀ y, y ≠ x → inW (dropW W x) y = inW W y := fun y hy => by unfold inW; rw [q2 y hy]
  have hne : ∀ {p y}, y ∈ K p → y ≠ x ∧ p ≠ x := fun {p y} hy => ⟨fun e => ht p (e ▸ hy), fun e => by rw [e, hK] at hy; cases hy⟩
  refine ⟨⟨by rw [hl]; exact I.f.fb, fun p y hy => ?_⟩, fun y k1 k2 => ?_, fun g y k => ?_, fun _ h => h.elim⟩
  · obtain ⟨n1, n2⟩ := hne hy
    obtain ⟨a1, a2, a3⟩ := I.f.kin p y hy
    exact ⟨by rw [hin y n1]; exact a1, by rw [q2 y n1, q2 p n2]; exact a2, by rw [dahead_same (q2 y n1) (q2 p n2)]; exact a3⟩
  · have e : y ≠ x := fun e => by rw [e, q1] at k1; cases k1
    rw [hin y e] at k1
    rw [q2 y e]
    exact Or.inl ((I.top y k1 k2).elim id fun h => absurd h e)
  · obtain ⟨a, b, c, d, e⟩ := I.is g y k
    exact ⟨a, by rw [hin y e]; exact b, by rw [q2 y e]; exact c, d, id⟩
/-- Two heaps become one: the second one's topmost slot is a root beside the first one's. -/
theorem PrMid.join (I : PrMid W K R noE) {a b : Nat} (hb : joinBW W a b = true) (ha1 : 1 ≤ a) (hb1 : 1 ≤ b) :
    PrMid (joinW W a b) K (fun g => if g = b then .none else R g) (fun y => R b = some y) ∧ ∀ y, R b = some y → (cellW (joinW W a b) y).home = a := by
  obtain ⟨hne, q2, q3, q4, q5⟩ := homes_join (homes_all W) hb ha1 hb1
  have H := q5 (fun g => if g = a then slotsW W a ++ slotsW W b else if g = b then [] else slotsW W g) (by rw [if_pos rfl]) (by rw [if_neg (fun e => hne e.symm), if_pos rfl]) (fun g h1 h2 => by rw [if_neg h1, if_neg h2])
  have hl : (joinW W a b).cells.length = W.cells.length := by unfold joinW; split <;> simp
  have hA := homes_all W
  have hhome : ∀ y, inW W y = true → (cellW (joinW W a b) y).home = if (cellW W y).home = b then a else (cellW W y).home := fun y hy => by
    obtain ⟨y1, y2⟩ := hA.home hy
    split
    · rename_i e
      rw [e] at y2
      exact (H.mem a y ha1).1 (by rw [if_pos rfl]; simp [y2])
    · rename_i e
      refine (H.mem _ y y1).1 ?_
      split
      · rename_i e2; rw [e2] at y2; simp [y2]
      · exact y2
  have hRb : ∀ y, R b = some y → (cellW (joinW W a b) y).home = a := fun y hy => by
    obtain ⟨_, k2, k3, _⟩ := I.is b y hy
    rw [hhome y k2, if_pos k3]
  refine ⟨⟨⟨by rw [hl]; exact I.f.fb, fun p y hy => ?_⟩, fun y k1 k2 => ?_, fun g y k => ?_, fun y k => ?_⟩, hRb⟩
  · obtain ⟨a1, a2, a3⟩ := I.f.kin p y hy
    exact ⟨by rw [q3]; exact a1, by rw [hhome y a1, hhome p (I.f.par hy), a2], by rw [q2]; exact a3⟩
  · rw [q3] at k1
    rw [hhome y k1]
    rcases I.top y k1 k2 with e | e
    · by_cases e2 : (cellW W y).home = b
      · rw [e2] at e; exact Or.inr e
      · rw [if_neg e2]; refine Or.inl ?_
        show (if _ then _ else _) = _
        rw [if_neg e2]; exact e
    · exact e.elim
  · split at k
    · cases k
    · rename_i e
      obtain ⟨a1, b1, c1, d1, _⟩ := I.is g y k
      exact ⟨a1, by rw [q3]; exact b1, by rw [hhome y b1, if_neg (by rw [c1]; exact e)]; exact c1, d1, fun e2 => e (by rw [← c1]; exact (I.is b y e2).2.2.1)⟩
  · obtain ⟨a1, b1, c1, d1, _⟩ := I.is b y k
    exact ⟨by rw [q3]; exact b1, d1⟩
end
end Go.Proofs.Ytcjjglaimfhofaa
