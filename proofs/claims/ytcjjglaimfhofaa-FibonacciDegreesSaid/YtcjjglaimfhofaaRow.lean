/- Merged of FiTied, Own, Row. -/
import Derived.Test.YtcjjglaimfhofaaFibMath
import Derived.Test.YtcjjglaimfhofaaFiDeg
import Derived.Test.YtcjjglaimfhofaaLaw
import Derived.Laws.OwnMore
import Derived.WalkSmall
namespace Go.Proofs.Ytcjjglaimfhofaa

structure Node where
  up : Int
  kid : Int
  deg : Int
  lost : Bool
def Node.no : Node := ⟨-1, -1, 0, false⟩
def setN (T : Int → Node) (x : Int) (t : Node) : Int → Node := fun z => if z = x then t else T z
structure FTied (n : Nat) (K : Int → List Int) (R : Nat → List Int) (T : Int → Node) (S : RSt) : Prop where
  good : RGood n S
  up : ∀ p x, x ∈ K p → (T x).up = p
  top : ∀ x, inB n x → fbTop K x → (T x).up = -1
  kid : ∀ p, inB n p → (K p = [] ∧ (T p).kid = -1) ∨ (T p).kid ∈ K p
  deg : ∀ p, inB n p → (T p).deg = (K p).length
  rk : ∀ p x, x ∈ K p → (allR S.R x).Perm (K p)
  rr : ∀ h x, x ∈ R h → (allR S.R x).Perm (R h)
  r1 : ∀ x, inB n x → fbTop K x → (∀ h, x ∉ R h) → allR S.R x = [x]
/-- Each root is one, of one heap. -/
structure FRoots (n : Nat) (K : Int → List Int) (R : Nat → List Int) : Prop where
  is : ∀ h x, x ∈ R h → inB n x ∧ fbTop K x
  one : ∀ h g x, x ∈ R h → x ∈ R g → h = g
  nd : ∀ h, (R h).Nodup
theorem FiMid.roots {W : WS} {K : Int → List Int} {R : Nat → List Int} {E : Int → Prop} (I : FiMid W K R E) : FRoots W.cells.length K R :=
  ⟨fun h x hx => by obtain ⟨_, a, _, b, _⟩ := I.is h x hx; exact ⟨prin_slot a, b⟩, fun h g x h1 h2 => (I.is h x h1).2.2.1.symm.trans (I.is g x h2).2.2.1, I.nd⟩
def cutK (K : Int → List Int) (p x : Int) : Int → List Int := fun z => if z = p then (K p).erase x else K z
theorem inB_R {n : Nat} {x : Int} (h : inB n x) : inR n x = true := inR_iff.2 h
section
variable {n : Nat} {K : Int → List Int} {R : Nat → List Int} {T T' : Int → Node} {S : RSt}
theorem fb_self (I : FbInv n K) {p x : Int} (h : x ∈ K p) : x ≠ p := fun e => by
  obtain ⟨m, hm⟩ := I.low
  have := hm p x h
  rw [e] at this
  omega
theorem mem_cutK (I : FbInv n K) {p x : Int} (hx : x ∈ K p) (y q : Int) : y ∈ cutK K p x q ↔ y ∈ K q ∧ y ≠ x := by
  unfold cutK
  by_cases e : q = p
  · rw [if_pos e, (I.nodup p).mem_erase_iff, e]; exact and_comm
  · rw [if_neg e]
    exact ⟨fun h => ⟨h, fun e2 => e (I.one q p x (e2 ▸ h) hx)⟩, fun h => h.1⟩
theorem cutK_nd (I : FbInv n K) {p x : Int} (q : Int) : (cutK K p x q).Nodup := by
  unfold cutK; split
  · exact (I.nodup p).erase x
  · exact I.nodup q
/-- What is in a ring with a child is a child, what is with a root is a root. -/
theorem FTied.notK (H : FTied n K R T S) (I : FbInv n K) {p q x y : Int} (hx : x ∈ K p) (hy : y ∈ K q) (e : q ≠ p) : y ∉ allR S.R x := fun h => e (I.one q p y hy ((H.rk p x hx).mem_iff.1 h))
theorem FTied.topK (H : FTied n K R T S) {p x y : Int} (hx : x ∈ K p) (hy : fbTop K y) : y ∉ allR S.R x := fun h => hy p ((H.rk p x hx).mem_iff.1 h)
theorem FTied.kidR (H : FTied n K R T S) (hR : FRoots n K R) {h : Nat} {a y p : Int} (ha : a ∈ R h) (hy : y ∈ K p) : y ∉ allR S.R a := fun h2 => (hR.is h y ((H.rr h a ha).mem_iff.1 h2)).2 p hy
theorem FTied.outR (H : FTied n K R T S) {h : Nat} {a y : Int} (ha : a ∈ R h) (hy : y ∉ R h) : y ∉ allR S.R a := fun h2 => hy ((H.rr h a ha).mem_iff.1 h2)
def kidAt (n : Nat) (S : RSt) (x : Int) : Int := if nextI n S x = x then -1 else nextI n S x
/-- A slot comes off what is above it. -/
theorem FTied.cut (H : FTied n K R T S) (I : FbInv n K) (hR : FRoots n K R) {p x : Int} (hx : x ∈ K p) (hu : ∀ y, (T' y).up = if y = x then -1 else (T y).up) (hk : ∀ y, (T' y).kid = if y = p then kidAt n S x else (T y).kid)
    (hd : ∀ y, (T' y).deg = if y = p then (T y).deg - 1 else (T y).deg) : FTied n (cutK K p x) R T' (partS n S x) := by
  obtain ⟨hp1, hx1⟩ := I.rng p x hx
  have hm := mem_cutK I hx
  have hP := fun z (hz : inB n z) => ring_part H.good (inB_R hx1) (inB_R hz)
  have hself := ring_self H.good (inB_R hx1)
  have htop : ∀ y, y ≠ x → fbTop (cutK K p x) y → fbTop K y := fun y hy h q hq => h q ((hm y q).2 ⟨hq, hy⟩)
  refine ⟨H.good.part x, fun q y hy => ?_, fun y hy ht => ?_, fun q hq => ?_, fun q hq => ?_, fun q y hy => ?_, fun h y hy => ?_, fun y hy ht hn => ?_⟩
  · obtain ⟨h1, h2⟩ := (hm y q).1 hy
    rw [hu, if_neg h2]; exact H.up q y h1
  · rw [hu]; split
    · rfl
    · rename_i e; exact H.top y hy (htop y e ht)
  · rw [hk]
    by_cases e : q = p
    · subst e
      rw [if_pos rfl]
      have he : cutK K q x q = (K q).erase x := if_pos rfl
      have hper := H.rk q x hx
      rcases ring_next H.good (inB_R hx1) with ⟨e1, e2⟩ | ⟨e1, e2⟩
      · left
        rw [e2] at hper
        rw [he, ← List.singleton_perm.1 hper]
        exact ⟨by simp, by unfold kidAt; rw [if_pos e1]⟩
      · right
        rw [he]
        unfold kidAt; rw [if_neg e1]
        exact (hper.erase x).mem_iff.1 e2
    · rw [if_neg e, show cutK K p x q = K q from if_neg e]; exact H.kid q hq
  · rw [hd]
    by_cases e : q = p
    · subst e
      have := List.length_pos_of_mem hx
      rw [if_pos rfl, show cutK K q x q = (K q).erase x from if_pos rfl, List.length_erase_of_mem hx, H.deg q hq]
      omega
    · rw [if_neg e, show cutK K p x q = K q from if_neg e]; exact H.deg q hq
  · obtain ⟨h1, h2⟩ := (hm y q).1 hy
    have hy1 := (I.rng q y h1).2
    by_cases e : q = p
    · subst e
      rw [show cutK K q x q = (K q).erase x from if_pos rfl]
      exact ((hP y hy1).2.1 h2 ((H.rk q x hx).mem_iff.2 h1)).trans ((H.rk q x hx).erase x)
    · rw [show cutK K p x q = K q from if_neg e]
      exact ((hP y hy1).2.2 (H.notK I hx h1 e)).trans (H.rk q y h1)
  · obtain ⟨h1, h2⟩ := hR.is h y hy
    exact ((hP y h1).2.2 (H.topK hx h2)).trans (H.rr h y hy)
  · by_cases e : y = x
    · subst e; exact (hP y hy).1 rfl
    · have h1 := htop y e ht
      have h2 := (hP y hy).2.2 (H.topK hx h1)
      rw [H.r1 y hy h1 hn] at h2
      exact List.perm_singleton.1 h2
/-- One that is alone comes to a heap's roots. -/
theorem FTied.put (H : FTied n K R T S) (I : FbInv n K) (hR : FRoots n K R) {h : Nat} {a x : Int} {l : List Int} (ha : a ∈ R h) (hx : inB n x) (ht : fbTop K x) (hn : ∀ g, x ∉ R g) (hl : l.Perm (x :: R h)) : FTied n K (updR R h l) T (spliceS n S a x) := by
  have hai := (hR.is h a ha).1
  have e1 := H.r1 x hx ht hn
  have e2 := H.rr h a ha
  have hna : x ∉ allR S.R a := fun k => hn h (e2.mem_iff.1 k)
  have hP := fun z (hz : inB n z) => ring_splice H.good (inB_R hai) (inB_R hx) hna (inB_R hz)
  rw [e1] at hP
  have hp2 : (allR S.R a ++ [x]).Perm l := (e2.append_right [x]).trans (List.perm_append_comm.trans hl.symm)
  refine ⟨H.good.splice a x, H.up, H.top, H.kid, H.deg, fun q y hy => ?_, fun g y hy => ?_, fun y hy hyt hyn => ?_⟩
  · exact ((hP y (I.rng q y hy).2).2 (H.kidR hR ha hy) (by rw [List.mem_singleton]; exact fun e => ht q (e ▸ hy))).trans (H.rk q y hy)
  · by_cases e : g = h
    · subst e
      rw [updR_at] at hy ⊢
      rcases List.mem_cons.1 (hl.mem_iff.1 hy) with rfl | hy
      · exact ((hP y hx).1 (Or.inr (by simp))).trans hp2
      · exact ((hP y (hR.is g y hy).1).1 (Or.inl (e2.mem_iff.2 hy))).trans hp2
    · rw [updR_off R l e] at hy ⊢
      exact ((hP y (hR.is g y hy).1).2 (H.outR ha fun k => e (hR.one g h y hy k)) (by rw [List.mem_singleton]; exact fun e => hn g (e ▸ hy))).trans (H.rr g y hy)
  · have hyn2 : ∀ g, y ∉ R g := fun g k => by
      by_cases e : g = h
      · subst e; exact hyn g (by rw [updR_at]; exact hl.mem_iff.2 (List.mem_cons_of_mem _ k))
      · exact hyn g (by rw [updR_off R l e]; exact k)
    have hyx : y ≠ x := fun e => hyn h (by rw [updR_at]; exact hl.mem_iff.2 (by simp [e]))
    have h2 := (hP y hy).2 (H.outR ha (hyn2 h)) (by rw [List.mem_singleton]; exact hyx)
    rw [H.r1 y hy hyt hyn2] at h2
    exact List.perm_singleton.1 h2
/-- .. that has none so far. -/
theorem FTied.put0 (H : FTied n K R T S) {h : Nat} {x : Int} (h0 : R h = []) (hx : inB n x) (ht : fbTop K x) (hn : ∀ g, x ∉ R g) : FTied n K (updR R h [x]) T S := by
  refine ⟨H.good, H.up, H.top, H.kid, H.deg, H.rk, fun g y hy => ?_, fun y hy hyt hyn => ?_⟩
  · by_cases e : g = h
    · subst e
      rw [updR_at] at hy ⊢
      rw [List.mem_singleton] at hy
      subst hy
      rw [H.r1 y hx ht hn]
    · rw [updR_off R _ e] at hy ⊢; exact H.rr g y hy
  · refine H.r1 y hy hyt fun g k => ?_
    by_cases e : g = h
    · subst e; rw [h0] at k; cases k
    · exact hyn g (by rw [updR_off R _ e]; exact k)
/-- A root comes out of its heap's. -/
theorem FTied.del (H : FTied n K R T S) (I : FbInv n K) (hR : FRoots n K R) {h : Nat} {x : Int} {l : List Int} (hx : x ∈ R h) (hl : (R h).Perm (x :: l)) : FTied n K (updR R h l) T (partS n S x) := by
  obtain ⟨hx1, hx2⟩ := hR.is h x hx
  have e2 := H.rr h x hx
  have hP := fun z (hz : inB n z) => ring_part H.good (inB_R hx1) (inB_R hz)
  have hnd := hR.nd h
  rw [hl.nodup_iff, List.nodup_cons] at hnd
  have hel : ((allR S.R x).erase x).Perm l := by
    have h1 := (e2.trans hl).erase x
    rwa [List.erase_cons_head] at h1
  refine ⟨H.good.part x, H.up, H.top, H.kid, H.deg, fun q y hy => ?_, fun g y hy => ?_, fun y hy hyt hyn => ?_⟩
  · exact ((hP y (I.rng q y hy).2).2.2 (H.kidR hR hx hy)).trans (H.rk q y hy)
  · by_cases e : g = h
    · subst e
      rw [updR_at] at hy ⊢
      have hy2 : y ∈ R g := hl.mem_iff.2 (List.mem_cons_of_mem _ hy)
      exact ((hP y (hR.is g y hy2).1).2.1 (fun e => hnd.1 (e ▸ hy)) (e2.mem_iff.2 hy2)).trans hel
    · rw [updR_off R l e] at hy ⊢
      exact ((hP y (hR.is g y hy).1).2.2 (H.outR hx fun k => e (hR.one g h y hy k))).trans (H.rr g y hy)
  · by_cases e : y = x
    · subst e; exact (hP y hy).1 rfl
    · have hyn2 : ∀ g, y ∉ R g := fun g k => by
        by_cases e2 : g = h
        · subst e2
          refine hyn g ?_
          rw [updR_at]
          exact (List.mem_cons.1 (hl.mem_iff.1 k)).elim (fun e3 => absurd e3 e) id
        · exact hyn g (by rw [updR_off R l e2]; exact k)
      have h2 := (hP y hy).2.2 (H.outR hx (hyn2 h))
      rw [H.r1 y hy hyt hyn2] at h2
      exact List.perm_singleton.1 h2
/-- Two heaps' roots are one's. -/
theorem FTied.meld (H : FTied n K R T S) (I : FbInv n K) (hR : FRoots n K R) {i j : Nat} {a b : Int} {l : List Int} (ha : a ∈ R i) (hb : b ∈ R j) (hij : i ≠ j) (hl : l.Perm (R i ++ R j)) : FTied n K (updR (updR R j []) i l) T (spliceS n S a b) := by
  have hai := (hR.is i a ha).1
  have hbi := (hR.is j b hb).1
  have e1 := H.rr i a ha
  have e2 := H.rr j b hb
  have hna : b ∉ allR S.R a := H.outR ha fun k => hij (hR.one i j b k hb)
  have hP := fun z (hz : inB n z) => ring_splice H.good (inB_R hai) (inB_R hbi) hna (inB_R hz)
  have hp2 : (allR S.R a ++ allR S.R b).Perm l := (e1.append e2).trans hl.symm
  refine ⟨H.good.splice a b, H.up, H.top, H.kid, H.deg, fun q y hy => ?_, fun g y hy => ?_, fun y hy hyt hyn => ?_⟩
  · exact ((hP y (I.rng q y hy).2).2 (H.kidR hR ha hy) (H.kidR hR hb hy)).trans (H.rk q y hy)
  · by_cases e : g = i
    · subst e
      rw [updR_at] at hy ⊢
      rcases List.mem_append.1 (hl.mem_iff.1 hy) with hy | hy
      · exact ((hP y (hR.is g y hy).1).1 (Or.inl (e1.mem_iff.2 hy))).trans hp2
      · exact ((hP y (hR.is j y hy).1).1 (Or.inr (e2.mem_iff.2 hy))).trans hp2
    · rw [updR_off _ l e] at hy ⊢
      by_cases e3 : g = j
      · subst e3; rw [updR_at] at hy; cases hy
      · rw [updR_off R [] e3] at hy ⊢
        exact ((hP y (hR.is g y hy).1).2 (H.outR ha fun k => e (hR.one g i y hy k)) (H.outR hb fun k => e3 (hR.one g j y hy k))).trans (H.rr g y hy)
  · have hyn2 : ∀ g, y ∉ R g := fun g k => by
      by_cases e : g = i
      · subst e; exact hyn g (by rw [updR_at]; exact hl.mem_iff.2 (List.mem_append.2 (Or.inl k)))
      · by_cases e3 : g = j
        · subst e3; exact hyn i (by rw [updR_at]; exact hl.mem_iff.2 (List.mem_append.2 (Or.inr k)))
        · exact hyn g (by rw [updR_off _ l e, updR_off R [] e3]; exact k)
    have h2 := (hP y hy).2 (H.outR ha (hyn2 i)) (H.outR hb (hyn2 j))
    rw [H.r1 y hy hyt hyn2] at h2
    exact List.perm_singleton.1 h2
/-- Where one has none, the other's go over as they are. -/
theorem FTied.move (H : FTied n K R T S) {i j : Nat} {l : List Int} (h0 : R i = [] ∨ R j = []) (hij : i ≠ j) (hl : l.Perm (R i ++ R j)) : FTied n K (updR (updR R j []) i l) T S := by
  have hin : ∀ y, y ∈ l ↔ y ∈ R i ∨ y ∈ R j := fun y => by rw [hl.mem_iff, List.mem_append]
  refine ⟨H.good, H.up, H.top, H.kid, H.deg, H.rk, fun g y hy => ?_, fun y hy hyt hyn => ?_⟩
  · by_cases e : g = i
    · subst e
      rw [updR_at] at hy ⊢
      rcases h0 with h0 | h0
      · rw [h0, List.nil_append] at hl
        exact (H.rr j y (hl.mem_iff.1 hy)).trans hl.symm
      · rw [h0, List.append_nil] at hl
        exact (H.rr g y (hl.mem_iff.1 hy)).trans hl.symm
    · rw [updR_off _ l e] at hy ⊢
      by_cases e3 : g = j
      · subst e3; rw [updR_at] at hy; cases hy
      · rw [updR_off R [] e3] at hy ⊢; exact H.rr g y hy
  · refine H.r1 y hy hyt fun g k => ?_
    by_cases e : g = i
    · subst e; exact hyn g (by rw [updR_at]; exact (hin y).2 (Or.inl k))
    · by_cases e3 : g = j
      · subst e3; exact hyn i (by rw [updR_at]; exact (hin y).2 (Or.inr k))
      · exact hyn g (by rw [updR_off _ l e, updR_off R [] e3]; exact k)
/-- A root's children come off it, and are roots, too. -/
theorem FTied.split (H : FTied n K R T S) (I : FbInv n K) (hR : FRoots n K R) {h : Nat} {x : Int} {l : List Int} (hx : x ∈ R h) (hl : l.Perm (R h ++ K x)) (hu : ∀ y, (T' y).up = if y ∈ K x then -1 else (T y).up) (hk : ∀ y, (T' y).kid = if y = x then -1 else (T y).kid)
    (hd : ∀ y, (T' y).deg = if y = x then 0 else (T y).deg) : FTied n (fbHang K x []) (updR R h l) T' (spliceS n S x (T x).kid) := by
  obtain ⟨hx1, hx2⟩ := hR.is h x hx
  have hm : ∀ y q, y ∈ fbHang K x [] q ↔ q ≠ x ∧ y ∈ K q := fun y q => by
    unfold fbHang
    by_cases e : q = x
    · rw [if_pos e]; simp [e]
    · rw [if_neg e]; simp [e]
  have hat : fbHang K x [] x = [] := if_pos rfl
  have hoff : ∀ q, q ≠ x → fbHang K x [] q = K q := fun q e => if_neg e
  have htop : ∀ y, y ∉ K x → fbTop (fbHang K x []) y → fbTop K y := fun y hy ht q hq => by
    by_cases e : q = x
    · exact hy (e ▸ hq)
    · exact ht q ((hm y q).2 ⟨e, hq⟩)
  have e2 := H.rr h x hx
  have hS : RGood n (spliceS n S x (T x).kid) ∧ ∀ z, inB n z → ((z ∈ R h ∨ z ∈ K x) → (allR (spliceS n S x (T x).kid).R z).Perm (R h ++ K x)) ∧ (z ∉ R h → z ∉ K x → (allR (spliceS n S x (T x).kid).R z).Perm (allR S.R z)) := by
    refine ⟨H.good.splice _ _, fun z hz => ?_⟩
    rcases H.kid x hx1 with ⟨e0, ek⟩ | ek
    · have es : spliceS n S x (T x).kid = S := by
        unfold spliceS
        have : inR n (T x).kid = false := by rw [ek]; simp [inR]
        rw [this, Bool.and_false]; rfl
      rw [es, e0, List.append_nil]
      exact ⟨fun k => k.elim (fun k => H.rr h z k) (fun k => by cases k), fun _ _ => List.Perm.refl _⟩
    · have e1 := H.rk x _ ek
      have hki := (I.rng x _ ek).2
      have hP := ring_splice H.good (inB_R hx1) (inB_R hki) (H.kidR hR hx ek) (inB_R hz)
      rw [e2.mem_iff, e1.mem_iff] at hP
      exact ⟨fun k => (hP.1 k).trans (e2.append e1), hP.2⟩
  obtain ⟨hg, hP⟩ := hS
  refine ⟨hg, fun q y hy => ?_, fun y hy ht => ?_, fun q hq => ?_, fun q hq => ?_, fun q y hy => ?_, fun g y hy => ?_, fun y hy hyt hyn => ?_⟩
  · obtain ⟨h1, h2⟩ := (hm y q).1 hy
    rw [hu, if_neg (fun k => h1 (I.one q x y h2 k))]; exact H.up q y h2
  · rw [hu]; split
    · rfl
    · rename_i e; exact H.top y hy (htop y e ht)
  · rw [hk]
    by_cases e : q = x
    · rw [if_pos e, e]; exact Or.inl ⟨hat, rfl⟩
    · rw [if_neg e, hoff q e]; exact H.kid q hq
  · rw [hd]
    by_cases e : q = x
    · rw [if_pos e, e, hat]; rfl
    · rw [if_neg e, hoff q e]; exact H.deg q hq
  · obtain ⟨h1, h2⟩ := (hm y q).1 hy
    rw [hoff q h1]
    exact ((hP y (I.rng q y h2).2).2 (fun k => (hR.is h y k).2 q h2) (fun k => h1 (I.one q x y h2 k))).trans (H.rk q y h2)
  · by_cases e : g = h
    · subst e
      rw [updR_at] at hy ⊢
      have h3 := List.mem_append.1 (hl.mem_iff.1 hy)
      exact ((hP y (h3.elim (fun k => (hR.is g y k).1) fun k => (I.rng x y k).2)).1 h3).trans hl.symm
    · rw [updR_off R l e] at hy ⊢
      exact ((hP y (hR.is g y hy).1).2 (fun k => e (hR.one g h y hy k)) (fun k => (hR.is g y hy).2 x k)).trans (H.rr g y hy)
  · have h1 : y ∉ R h := fun k => hyn h (by rw [updR_at]; exact hl.mem_iff.2 (List.mem_append.2 (Or.inl k)))
    have h2 : y ∉ K x := fun k => hyn h (by rw [updR_at]; exact hl.mem_iff.2 (List.mem_append.2 (Or.inr k)))
    have hyn2 : ∀ g, y ∉ R g := fun g k => by
      by_cases e : g = h
      · exact h1 (e ▸ k)
      · exact hyn g (by rw [updR_off R l e]; exact k)
    have h3 := (hP y hy).2 h1 h2
    rw [H.r1 y hy (htop y h2 hyt) hyn2] at h3
    exact List.perm_singleton.1 h3
/-- One that is alone comes below another one. -/
theorem FTied.hang1 (H : FTied n K R T S) (I : FbInv n K) (hR : FRoots n K R) {p x : Int} {l : List Int} (hp : inB n p) (hx : inB n x) (hne : p ≠ x) (ht : fbTop K x) (hn : ∀ g, x ∉ R g) (hl : l.Perm (x :: K p))
    (hu : ∀ y, (T' y).up = if y = x then p else (T y).up) (hk : ∀ y, (T' y).kid = if y = p then x else (T y).kid) (hd : ∀ y, (T' y).deg = if y = p then (T y).deg + 1 else (T y).deg) : FTied n (fbHang K p l) R T' (spliceS n S (T p).kid x) := by
  have hm : ∀ y q, y ∈ fbHang K p l q ↔ (q = p ∧ y = x) ∨ y ∈ K q := fun y q => by
    unfold fbHang
    by_cases e : q = p
    · rw [if_pos e, hl.mem_iff, List.mem_cons, e]; simp
    · rw [if_neg e]; simp [e]
  have hat : fbHang K p l p = l := if_pos rfl
  have hoff : ∀ q, q ≠ p → fbHang K p l q = K q := fun q e => if_neg e
  have e1 := H.r1 x hx ht hn
  have hS : RGood n (spliceS n S (T p).kid x) ∧ ∀ z, inB n z → ((z = x ∨ z ∈ K p) → (allR (spliceS n S (T p).kid x).R z).Perm l) ∧ (z ≠ x → z ∉ K p → (allR (spliceS n S (T p).kid x).R z).Perm (allR S.R z)) := by
    refine ⟨H.good.splice _ _, fun z hz => ?_⟩
    rcases H.kid p hp with ⟨e0, ek⟩ | ek
    · have es : spliceS n S (T p).kid x = S := by
        unfold spliceS
        have : inR n (T p).kid = false := by rw [ek]; simp [inR]
        rw [this, Bool.false_and]; rfl
      rw [e0] at hl
      rw [es, e0]
      refine ⟨fun k => ?_, fun _ _ => List.Perm.refl _⟩
      rcases k with rfl | k
      · rw [e1]; exact hl.symm
      · cases k
    · have e2 := H.rk p _ ek
      have hki := (I.rng p _ ek).2
      have hP := ring_splice H.good (inB_R hki) (inB_R hx) (H.topK ek ht) (inB_R hz)
      rw [e1, e2.mem_iff, List.mem_singleton] at hP
      refine ⟨fun k => (hP.1 (k.symm)).trans ((e2.append_right [x]).trans (List.perm_append_comm.trans hl.symm)), fun k1 k2 => hP.2 k2 k1⟩
  obtain ⟨hg, hP⟩ := hS
  have htop : ∀ y, y ≠ x → fbTop (fbHang K p l) y → fbTop K y := fun y _ h q hq => h q ((hm y q).2 (Or.inr hq))
  refine ⟨hg, fun q y hy => ?_, fun y hy hyt => ?_, fun q hq => ?_, fun q hq => ?_, fun q y hy => ?_, fun g y hy => ?_, fun y hy hyt hyn => ?_⟩
  · rw [hu]
    rcases (hm y q).1 hy with ⟨rfl, rfl⟩ | h
    · rw [if_pos rfl]
    · rw [if_neg (fun e : y = x => ht q (e ▸ h))]; exact H.up q y h
  · have e : y ≠ x := fun e => hyt p ((hm y p).2 (Or.inl ⟨rfl, e⟩))
    rw [hu, if_neg e]
    exact H.top y hy (htop y e hyt)
  · rw [hk]
    by_cases e : q = p
    · rw [if_pos e, e, hat]; exact Or.inr (hl.mem_iff.2 (by simp))
    · rw [if_neg e, hoff q e]; exact H.kid q hq
  · rw [hd]
    by_cases e : q = p
    · subst e
      rw [if_pos rfl, hat, hl.length_eq, H.deg q hq, List.length_cons]; omega
    · rw [if_neg e, hoff q e]; exact H.deg q hq
  · have hyi : inB n y := by
      rcases (hm y q).1 hy with ⟨_, rfl⟩ | h
      · exact hx
      · exact (I.rng q y h).2
    by_cases e : q = p
    · subst e
      rw [hat]
      rw [hat, hl.mem_iff, List.mem_cons] at hy
      exact (hP y hyi).1 hy
    · rw [hoff q e] at hy ⊢
      exact ((hP y hyi).2 (fun e2 => ht q (e2 ▸ hy)) (fun k => e (I.one q p y hy k))).trans (H.rk q y hy)
  · obtain ⟨h1, h2⟩ := hR.is g y hy
    exact ((hP y h1).2 (show y ≠ x from fun e => hn g (e ▸ hy)) (h2 p)).trans (H.rr g y hy)
  · have e : y ≠ x := fun e => hyt p ((hm y p).2 (Or.inl ⟨rfl, e⟩))
    have h3 := (hP y hy).2 e (htop y e hyt p)
    rw [H.r1 y hy (htop y e hyt) hyn] at h3
    exact List.perm_singleton.1 h3
end
end Go.Proofs.Ytcjjglaimfhofaa

namespace Go.Proofs.Ytcjjglaimfhofaa
open Go.RowKit Go.Sort

/-- A call on an object whose blocks are F: nothing else that was there has turned; its blocks are now F', old ones of its own or new. -/
structure Moved (F F' : Nat → Prop) (w w' : World) : Prop where
  keeps : Keeps F w w'
  grow : ∀ k, F' k → F k ∨ w.heap.size ≤ k
theorem Moved.refl (F : Nat → Prop) (w : World) : Moved F F w w := ⟨Keeps.refl _ _, fun _ h => Or.inl h⟩
theorem Moved.trans {F G H : Nat → Prop} {a b c : World} (h : Moved F G a b) (k : Moved G H b c) : Moved F H a c :=
  ⟨h.keeps.trans k.keeps (fun i hi hg => by rcases h.grow i hg with h1 | h1; exact h1; omega),
   fun i hi => by
    rcases k.grow i hi with h1 | h1
    · exact h.grow i h1
    · exact Or.inr (Nat.le_trans h.keeps.size h1)⟩
theorem Moved.of_below {F : Nat → Prop} {a b : World} (h : Below a.heap.size a b) : Moved F F a b := ⟨Keeps.of_below_all h F, fun _ h => Or.inl h⟩
/-- What lies below all of an object's blocks is as it was. -/
theorem Moved.below {F F' : Nat → Prop} {w w' : World} (h : Moved F F' w w') {B : Nat} (hB : B ≤ w.heap.size) (hF : ∀ k, F k → B ≤ k) : Below B w w' := h.keeps.below hB hF
/-- Two objects that share no block share none behind a call on one of them. -/
theorem Moved.apart {F F' G : Nat → Prop} {w w' : World} (h : Moved F F' w w') (hG : ∀ k, G k → k < w.heap.size) (hd : ∀ k, F k → ¬ G k) : ∀ k, F' k → ¬ G k := by
  intro k hk hg
  rcases h.grow k hk with h1 | h1
  · exact hd k h1 hg
  · have := hG k hg; omega

/-- The blocks of a row. -/
def rowF (v : Value) : Nat → Prop := fun k => v.ownBlock = some k
/-- An owned row under a call that has turned other blocks alone. -/
theorem owns_keeps {F : Nat → Prop} {w w' : World} {base : Nat} {e : TypeId} {size : Nat} {v : Value} {n : Nat} {xs : List Value} (h : w.ownsRow base e size v n xs) (k : Keeps F w w') (hn : ∀ b, rowF v b → ¬ F b) : w'.ownsRow base e size v n xs := owns_keep h k hn
theorem owns_same {w w' : World} (hh : w'.heap = w.heap) {base : Nat} {e : TypeId} {size : Nat} {v : Value} {n : Nat} {xs : List Value} (h : w.ownsRow base e size v n xs) : w'.ownsRow base e size v n xs := by
  unfold World.ownsRow at *; rw [hh]; exact h
theorem owns_set_other {w : World} {base : Nat} {e : TypeId} {size : Nat} {v : Value} {n : Nat} {xs : List Value} (h : w.ownsRow base e size v n xs) {a : Addr} (ha : v.ownBlock ≠ some a.block) (u : Value) : (w.setCell a u).ownsRow base e size v n xs :=
  owns_keep h (Keeps.setCell (Keeps.refl (· = a.block) w) a (Or.inl rfl) u) (fun b hb e => ha (by rw [hb, e]))
/-- A row's value is a slice of that length. -/
theorem owns_form {w : World} {base : Nat} {e : TypeId} {size : Nat} {v : Value} {n : Nat} {xs : List Value} (h : w.ownsRow base e size v n xs) : ∃ a cap, v = .slice a n cap ∧ n ≤ cap ∧ cap ≤ maxLen := by
  obtain ⟨_, ⟨rfl, rfl⟩ | ⟨g, cap, cur, hv, hg, hh, hle, hmax, _⟩⟩ := h
  · exact ⟨none, 0, rfl, Nat.le_refl _, by decide⟩
  · exact ⟨_, cap, hv, hle, hmax⟩
theorem grown_keeps {w w' : World} {v : Value} (h : w.grownBy w' v.ownBlock) : Keeps (rowF v) w w' := ⟨h.os, h.tape, h.output, h.size, fun k hk hn => h.block k hk (fun e => hn e.symm)⟩
theorem new_cells' (w : World) (c : Array Value) (t : TypeId) (news : List Value) (H : Nat) (hH : w.heap.size = H) (h : news = c.toList) : ∀ j u, news[j]? = some u → (w.alloc (.cells c t)).cell? ((⟨H, 0, none⟩ : Addr).add j) = some u := by
  subst hH; exact new_cells w c t news h
theorem size_alloc (w : World) (o : Obj) : (w.alloc o).heap.size = w.heap.size + 1 := by show (w.heap.push _).size = _; simp
end Go.Proofs.Ytcjjglaimfhofaa

namespace Go.Proofs.Ytcjjglaimfhofaa
open Go.RowKit

section
variable {α : Type} (f : α → List Value) (z : Nat) (hf : ∀ a, (f a).length = z)
/-- A list as cells. -/
def cellsBy (l : List α) : List Value := l.flatMap f
theorem cellsBy_nil : cellsBy f [] = [] := rfl
theorem cellsBy_cons (a : α) (l : List α) : cellsBy f (a :: l) = f a ++ cellsBy f l := rfl
theorem cellsBy_append (a b : List α) : cellsBy f (a ++ b) = cellsBy f a ++ cellsBy f b := by simp [cellsBy]
theorem cellsBy_one (a : α) : cellsBy f [a] = f a := by simp [cellsBy]
include hf
theorem cellsBy_length (l : List α) : (cellsBy f l).length = l.length * z := by
  induction l with
  | nil => simp [cellsBy]
  | cons a r ih => rw [cellsBy_cons, List.length_append, ih, hf, List.length_cons, Nat.add_mul]; omega
theorem cellsBy_get (d : α) (l : List α) (i j : Nat) (hi : i < l.length) (hj : j < z) : (cellsBy f l)[i * z + j]? = (f (l.getD i d))[j]? := by
  induction l generalizing i with
  | nil => simp at hi
  | cons a r ih =>
    rw [cellsBy_cons]
    cases i with
    | zero => rw [Nat.zero_mul, Nat.zero_add, List.getElem?_append_left (by rw [hf]; exact hj)]; simp
    | succ i =>
      rw [List.getElem?_append_right (by rw [hf, Nat.add_mul]; omega), hf]
      have : (i + 1) * z + j - z = i * z + j := by rw [Nat.add_mul]; omega
      rw [this, ih i (by simpa using hi), List.getD_cons_succ]
theorem cellsBy_take (l : List α) (k : Nat) : (cellsBy f l).take (k * z) = cellsBy f (l.take k) := by
  induction l generalizing k with
  | nil => simp [cellsBy]
  | cons a r ih =>
    cases k with
    | zero => simp [cellsBy]
    | succ k =>
      have e : (k + 1) * z = (f a).length + k * z := by rw [hf, Nat.add_mul]; omega
      rw [cellsBy_cons, List.take_succ_cons, cellsBy_cons, e, List.take_length_add_append, ih]
theorem cellsBy_drop (l : List α) (k : Nat) : (cellsBy f l).drop (k * z) = cellsBy f (l.drop k) := by
  induction l generalizing k with
  | nil => simp [cellsBy]
  | cons a r ih =>
    cases k with
    | zero => simp [cellsBy]
    | succ k =>
      have e : (k + 1) * z = (f a).length + k * z := by rw [hf, Nat.add_mul]; omega
      rw [cellsBy_cons, List.drop_succ_cons, e, List.drop_length_add_append, ih]
/-- One cell of one thing turned: the thing turned. -/
theorem cellsBy_set (d : α) (l : List α) (i j : Nat) (u : Value) (a' : α) (hi : i < l.length) (hj : j < z) (ha : f a' = (f (l.getD i d)).set j u) : (cellsBy f l).set (i * z + j) u = cellsBy f (l.set i a') := by
  induction l generalizing i with
  | nil => simp at hi
  | cons a r ih =>
    rw [cellsBy_cons]
    cases i with
    | zero =>
      simp only [List.getD_cons_zero] at ha
      rw [Nat.zero_mul, Nat.zero_add, List.set_append_left _ _ (by rw [hf]; exact hj), List.set_cons_zero, cellsBy_cons, ha]
    | succ i =>
      have e : (i + 1) * z + j - z = i * z + j := by rw [Nat.add_mul]; omega
      rw [List.set_append_right _ _ (by rw [hf, Nat.add_mul]; omega), hf, e, List.set_cons_succ, cellsBy_cons, ih i (by simpa using hi) (by simpa using ha)]
end
/-- What one more gives. -/
theorem take_snocD {α : Type} (d : α) (l : List α) (k : Nat) (h : k < l.length) : l.take (k + 1) = l.take k ++ [l.getD k d] := by
  rw [List.take_succ_eq_append_getElem h]; simp [List.getD_eq_getElem?_getD, h]
theorem drop_consD {α : Type} (d : α) (l : List α) (k : Nat) (h : k < l.length) : l.drop k = l.getD k d :: l.drop (k + 1) := by
  rw [List.drop_eq_getElem_cons h]; simp [List.getD_eq_getElem?_getD, h]
theorem mem_getD' {α : Type} (l : List α) (i : Nat) (d : α) (h : i < l.length) : l.getD i d ∈ l := by
  simp [List.getD_eq_getElem?_getD, h]
theorem getD_set' {α : Type} (l : List α) (i j : Nat) (x d : α) (hi : i < l.length) : (l.set i x).getD j d = if i = j then x else l.getD j d := by
  simp only [List.getD_eq_getElem?_getD, List.getElem?_set]
  by_cases h : i = j
  · subst h; simp [hi]
  · simp [h]
theorem getD_snoc' {α : Type} (l : List α) (j : Nat) (x d : α) : (l ++ [x]).getD j d = if j = l.length then x else l.getD j d := by
  simp only [List.getD_eq_getElem?_getD, List.getElem?_append]
  by_cases h : j < l.length
  · simp [h]; omega
  · by_cases h2 : j = l.length
    · subst h2; simp
    · have h3 : l.length < j := by omega
      simp only [h, if_false, h2]
      rw [List.getElem?_eq_none (by simp; omega), List.getElem?_eq_none (by omega)]
/-- A row that isn't empty: its block, and each cell of each thing. -/
theorem owns_at {α : Type} {f : α → List Value} {z : Nat} (hf : ∀ a, (f a).length = z) (d : α) {w : World} {base : Nat} {e : TypeId} {v : Value} {n : Nat} {l : List α} (h : w.ownsRow base e z v n (cellsBy f l)) (hl : l.length = n) (hn : 0 < n) :
    ∃ g cap, v = .slice (some ⟨g, 0, none⟩) n cap ∧ n ≤ cap ∧ cap ≤ maxLen ∧ base ≤ g ∧ g < w.heap.size ∧ (∀ i j u, i < n → j < z → (f (l.getD i d))[j]? = some u → w.cell? ⟨g, i * z + j, none⟩ = some u) ∧ ∀ o, w.frozen? ⟨g, o, none⟩ = false := by
  obtain ⟨g, cap, hv, h1, h2, h3, h4, hc⟩ := owns_slice h hn
  subst hv
  exact ⟨g, cap, rfl, h1, h2, h3, h4, fun i j u hi hj hu => hc _ _ (by rw [cellsBy_get f z hf d l i j (by omega) hj]; exact hu), fun o => h.frozenAt o⟩
/-- One cell of an owned row is written. -/
theorem owns_write {α : Type} {f : α → List Value} {z : Nat} (hf : ∀ a, (f a).length = z) (d : α) {w : World} {base : Nat} {e : TypeId} {g n cap : Nat} {l : List α} (h : w.ownsRow base e z (.slice (some ⟨g, 0, none⟩) n cap) n (cellsBy f l)) (hl : l.length = n) {i j : Nat} {u : Value} {a' : α} (hi : i < n) (hj : j < z)
    (ha : f a' = (f (l.getD i d)).set j u) : (w.setCell ⟨g, i * z + j, none⟩ u).ownsRow base e z (.slice (some ⟨g, 0, none⟩) n cap) n (cellsBy f (l.set i a')) := by
  have := (h.stored (i * z + j) u).1
  rw [cellsBy_set f z hf d l i j u a' (by omega) hj ha] at this
  exact this
end Go.Proofs.Ytcjjglaimfhofaa
