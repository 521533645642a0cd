/- Merged of FiMid, FiDeg, FiTied, FiNode, IntsIn, RingObj, RingCalls, RingTurn, FiObj. -/
import Derived.Test.YtkcicnflcilekaaGreatPrTie
import Derived.Test.YtkcicnflcilekaaGreatFiRing
import Derived.Test.YtkcicnflcilekaaGreatRow
import Derived.Test.YtkcicnflcilekaaGreatCarryJoin
import Derived.Test.YtkcicnflcilekaaGreatCarryCalls
import Derived.Test.YtkcicnflcilekaaGreatShedList3
import Derived.Test.YtkcicnflcilekaaGreatArenaMath
import Derived.Test.YtkcicnflcilekaaGreatStageAppend
import Derived.Test.YtkcicnflcilekaaGreatNames
import Derived.BigRegion
import Derived.StillTailTactics
import Derived.Deep.RegionHeld3
namespace Go.Proofs.YtkcicnflcilekaaGreat

structure FiMid (W : WS) (K : Int → List Int) (R : Nat → List Int) (E : Int → Prop) : Prop where
  f : PrF W K
  top : ∀ x, inW W x = true → fbTop K x → x ∈ R (cellW W x).home ∨ E x
  is : ∀ h x, x ∈ R h → 1 ≤ h ∧ inW W x = true ∧ (cellW W x).home = h ∧ fbTop K x ∧ ¬ E x
  nd : ∀ h, (R h).Nodup
  pend : ∀ x, E x → inW W x = true ∧ fbTop K x
def updRF (R : Nat → List Int) (h : Nat) (l : List Int) : Nat → List Int := fun g => if g = h then l else R g
theorem updR_at (R : Nat → List Int) (h : Nat) (l : List Int) : updRF R h l h = l := if_pos rfl
theorem updR_off (R : Nat → List Int) {h g : Nat} (l : List Int) (e : g ≠ h) : updRF R h l g = R g := if_neg e
section
variable {W : WS} {K : Int → List Int} {R : Nat → List Int} {E : Int → Prop}
theorem FiMid.same (I : FiMid W K R E) {E' : Int → Prop} (h : ∀ y, E' y ↔ E y) : FiMid W K R E' :=
  ⟨I.f, fun x a b => (I.top x a b).imp id (h x).2, fun g x a => by obtain ⟨b, c, d, e, k⟩ := I.is g x a; exact ⟨b, c, d, e, fun q => k ((h x).1 q)⟩, I.nd, fun x a => I.pend x ((h x).1 a)⟩
/-- A root comes to its heap's. -/
theorem FiMid.add {h : Nat} {t : Int} {l : List Int} (I : FiMid W K R fun y => y = t ∨ E y) (ht : ¬ E t) (hh : (cellW W t).home = h) (hl : l.Perm (t :: R h)) : FiMid W K (updRF R h l) E := by
  obtain ⟨h1, h2⟩ := I.pend t (Or.inl rfl)
  have hm : ∀ y, y ∈ l ↔ y = t ∨ y ∈ R h := fun y => by rw [hl.mem_iff, List.mem_cons]
  refine ⟨I.f, fun x k1 k2 => ?_, fun g x k => ?_, fun g => ?_, fun x k => I.pend x (Or.inr k)⟩
  · rcases I.top x k1 k2 with e | e | e
    · by_cases e2 : (cellW W x).home = h
      · rw [e2, updR_at]; rw [e2] at e; exact Or.inl ((hm x).2 (Or.inr e))
      · rw [updR_off R l e2]; exact Or.inl e
    · subst e; rw [hh, updR_at]; exact Or.inl ((hm x).2 (Or.inl rfl))
    · exact Or.inr e
  · by_cases e : g = h
    · subst e
      rw [updR_at] at k
      rcases (hm x).1 k with rfl | k
      · exact ⟨by rw [← hh]; exact in_home.1 h1, h1, hh, h2, ht⟩
      · obtain ⟨a, b, c, d, q⟩ := I.is g x k
        exact ⟨a, b, c, d, fun e2 => q (Or.inr e2)⟩
    · rw [updR_off R l e] at k
      obtain ⟨a, b, c, d, q⟩ := I.is g x k
      exact ⟨a, b, c, d, fun e2 => q (Or.inr e2)⟩
  · by_cases e : g = h
    · subst e
      rw [updR_at, hl.nodup_iff, List.nodup_cons]
      exact ⟨fun k => (I.is g t k).2.2.2.2 (Or.inl rfl), I.nd g⟩
    · rw [updR_off R l e]; exact I.nd g
theorem FiMid.cells {W' : WS} (I : FiMid W K R E) (h : W'.cells = W.cells) : FiMid W' K R E := by
  have e1 : ∀ y, cellW W' y = cellW W y := fun y => by rw [dcells_eq h]
  have e2 : ∀ y, inW W' y = inW W y := fun y => by unfold inW; rw [e1]
  have e3 : ∀ a b, aheadW W' a b = aheadW W a b := fun a b => by unfold aheadW aheadC; rw [e2, e2, e1, e1]
  exact ⟨⟨by rw [h]; exact I.f.fb, fun p x hx => by rw [e1, e1, e2, e3]; exact I.f.kin p x hx⟩, fun x k1 k2 => by rw [e1]; exact I.top x (by rw [← e2]; exact k1) k2, fun g x k => by rw [e1, e2]; exact I.is g x k, I.nd, fun x k => by rw [e2]; exact I.pend x k⟩
theorem FiMid.put {x k s : Int} {h : Nat} (I : FiMid W K R noE) (hp : putB W h x = true) (h1 : 1 ≤ h) : FiMid (putW W h x k s) K R (fun y => y = x) ∧ K x = [] ∧ (cellW (putW W h x k s) x).home = h := by
  obtain ⟨q1, q2, q3, q4, q5⟩ := homes_put (k := k) (s := s) (homes_all W) hp h1
  have H := q5 (fun g => if g = h then x :: slotsW W g else slotsW W g) (by rw [if_pos rfl]) (fun g hg => by rw [if_neg hg])
  have hx : (cellW (putW W h x k s) x).home = h := (H.mem h x h1).1 (by simp)
  obtain ⟨o1, o2⟩ := I.f.out q2
  have hl : (putW W h x k s).cells.length = W.cells.length := by unfold putW; split <;> simp
  have hin : ∀ y, y ≠ x → inW (putW W h x k s) y = inW W y := fun y hy => by unfold inW; rw [q4 y hy]
  have hne : ∀ {p y}, y ∈ K p → y ≠ x ∧ p ≠ x := fun {p y} hy => ⟨fun e => o1 p (e ▸ hy), fun e => by rw [e, o2] at hy; cases hy⟩
  refine ⟨⟨⟨by rw [hl]; exact I.f.fb, fun p y hy => ?_⟩, fun y k1 k2 => ?_, fun g y k => ?_, I.nd, ?_⟩, o2, hx⟩
  · obtain ⟨n1, n2⟩ := hne hy
    obtain ⟨a1, a2, a3⟩ := I.f.kin p y hy
    exact ⟨by rw [hin y n1]; exact a1, by rw [q4 y n1, q4 p n2]; exact a2, by rw [dahead_same (q4 y n1) (q4 p n2)]; exact a3⟩
  · by_cases e : y = x
    · exact Or.inr e
    · rw [hin y e] at k1
      rw [q4 y e]
      exact Or.inl ((I.top y k1 k2).elim id False.elim)
  · obtain ⟨a, b, c, d, _⟩ := I.is g y k
    have e : y ≠ x := fun e => by rw [e, q2] at b; cases b
    exact ⟨a, by rw [hin y e]; exact b, by rw [q4 y e]; exact c, d, e⟩
  · rintro y rfl; exact ⟨q3, o1⟩
/-- Of a heap's roots that one than which none is ahead is ahead of all. -/
theorem FiMid.min (I : FiMid W K R noE) {h : Nat} {x : Int} (hx : x ∈ R h) (hmin : ∀ y ∈ R h, aheadW W y x = false) : ∀ y, inW W y = true → (cellW W y).home = h → aheadW W y x = false := fun y hy hh => by
  obtain ⟨_, x2, _⟩ := I.is h x hx
  obtain ⟨r, r1, r2, r3, r4⟩ := I.f.root hy
  have h1 : r ∈ R h := by have := (I.top r r2 r1).elim id False.elim; rwa [r3, hh] at this
  exact hm_neg hy r2 r4 (hmin r h1)
theorem FiMid.none (I : FiMid W K R noE) {h : Nat} (hx : R h = []) {y : Int} (hy : inW W y = true) : (cellW W y).home ≠ h := fun hh => by
  obtain ⟨r, r1, r2, r3, _⟩ := I.f.root hy
  have h1 : r ∈ R h := by have := (I.top r r2 r1).elim id False.elim; rwa [r3, hh] at this
  rw [hx] at h1; cases h1
end
end Go.Proofs.YtkcicnflcilekaaGreat

namespace Go.Proofs.YtkcicnflcilekaaGreat

structure FiDeg (K : Int → List Int) (had : Int → Nat) (mk : Int → Bool) (X : Int → Prop) : Prop where
  sp : ∀ p, SparseE ((K p).map had)
  low : ∀ p x, x ∈ K p → ¬ X x → had x ≤ (K x).length + (mk x).toNat
section
variable {n : Nat} {K : Int → List Int} {had : Int → Nat} {mk : Int → Bool} {X : Int → Prop}
theorem FiDeg.none (K : Int → List Int) (h : ∀ p, K p = []) (had : Int → Nat) (mk : Int → Bool) : FiDeg K had mk noE :=
  ⟨fun p => by rw [h]; exact sparseE_nil, fun p x hx => by rw [h] at hx; cases hx⟩
end
end Go.Proofs.YtkcicnflcilekaaGreat

namespace Go.Proofs.YtkcicnflcilekaaGreat

structure Node where
  up : Int
  kid : Int
  deg : Int
  lost : Bool
def Node.no : Node := ⟨-1, -1, 0, false⟩
structure FTied (n : Nat) (K : Int → List Int) (R : Nat → List Int) (T : Int → Node) (S : RSt) : Prop where
  good : RGood n S
  up : ∀ p x, x ∈ K p → (T x).up = p
  top : ∀ x, inB n x → fbTop K x → (T x).up = -1
  kid : ∀ p, inB n p → (K p = [] ∧ (T p).kid = -1) ∨ (T p).kid ∈ K p
  deg : ∀ p, inB n p → (T p).deg = (K p).length
  rk : ∀ p x, x ∈ K p → (allRRg S.R x).Perm (K p)
  rr : ∀ h x, x ∈ R h → (allRRg S.R x).Perm (R h)
  r1 : ∀ x, inB n x → fbTop K x → (∀ h, x ∉ R h) → allRRg S.R x = [x]
/-- Each root is one, of one heap. -/
structure FRoots (n : Nat) (K : Int → List Int) (R : Nat → List Int) : Prop where
  is : ∀ h x, x ∈ R h → inB n x ∧ fbTop K x
  one : ∀ h g x, x ∈ R h → x ∈ R g → h = g
  nd : ∀ h, (R h).Nodup
theorem FiMid.roots {W : WS} {K : Int → List Int} {R : Nat → List Int} {E : Int → Prop} (I : FiMid W K R E) : FRoots W.cells.length K R :=
  ⟨fun h x hx => by obtain ⟨_, a, _, b, _⟩ := I.is h x hx; exact ⟨prin_slot a, b⟩, fun h g x h1 h2 => (I.is h x h1).2.2.1.symm.trans (I.is g x h2).2.2.1, I.nd⟩
theorem inB_R {n : Nat} {x : Int} (h : inB n x) : inR n x = true := inR_iff.2 h
section
variable {n : Nat} {K : Int → List Int} {R : Nat → List Int} {T T' : Int → Node} {S : RSt}
theorem FTied.kidR (H : FTied n K R T S) (hR : FRoots n K R) {h : Nat} {a y p : Int} (ha : a ∈ R h) (hy : y ∈ K p) : y ∉ allRRg S.R a := fun h2 => (hR.is h y ((H.rr h a ha).mem_iff.1 h2)).2 p hy
theorem FTied.outR (H : FTied n K R T S) {h : Nat} {a y : Int} (ha : a ∈ R h) (hy : y ∉ R h) : y ∉ allRRg S.R a := fun h2 => hy ((H.rr h a ha).mem_iff.1 h2)
/-- One that is alone comes to a heap's roots. -/
theorem FTied.put (H : FTied n K R T S) (I : FbInv n K) (hR : FRoots n K R) {h : Nat} {a x : Int} {l : List Int} (ha : a ∈ R h) (hx : inB n x) (ht : fbTop K x) (hn : ∀ g, x ∉ R g) (hl : l.Perm (x :: R h)) : FTied n K (updRF R h l) T (spliceS n S a x) := by
  have hai := (hR.is h a ha).1
  have e1 := H.r1 x hx ht hn
  have e2 := H.rr h a ha
  have hna : x ∉ allRRg S.R a := fun k => hn h (e2.mem_iff.1 k)
  have hP := fun z (hz : inB n z) => ring_splice H.good (inB_R hai) (inB_R hx) hna (inB_R hz)
  rw [e1] at hP
  have hp2 : (allRRg S.R a ++ [x]).Perm l := (e2.append_right [x]).trans (List.perm_append_comm.trans hl.symm)
  refine ⟨H.good.splice a x, H.up, H.top, H.kid, H.deg, fun q y hy => ?_, fun g y hy => ?_, fun y hy hyt hyn => ?_⟩
  · exact ((hP y (I.rng q y hy).2).2 (H.kidR hR ha hy) (by rw [List.mem_singleton]; exact fun e => ht q (e ▸ hy))).trans (H.rk q y hy)
  · by_cases e : g = h
    · subst e
      rw [updR_at] at hy ⊢
      rcases List.mem_cons.1 (hl.mem_iff.1 hy) with rfl | hy
      · exact ((hP y hx).1 (Or.inr (by simp))).trans hp2
      · exact ((hP y (hR.is g y hy).1).1 (Or.inl (e2.mem_iff.2 hy))).trans hp2
    · rw [updR_off R l e] at hy ⊢
      exact ((hP y (hR.is g y hy).1).2 (H.outR ha fun k => e (hR.one g h y hy k)) (by rw [List.mem_singleton]; exact fun e => hn g (e ▸ hy))).trans (H.rr g y hy)
  · have hyn2 : ∀ g, y ∉ R g := fun g k => by
      by_cases e : g = h
      · subst e; exact hyn g (by rw [updR_at]; exact hl.mem_iff.2 (List.mem_cons_of_mem _ k))
      · exact hyn g (by rw [updR_off R l e]; exact k)
    have hyx : y ≠ x := fun e => hyn h (by rw [updR_at]; exact hl.mem_iff.2 (by simp [e]))
    have h2 := (hP y hy).2 (H.outR ha (hyn2 h)) (by rw [List.mem_singleton]; exact hyx)
    rw [H.r1 y hy hyt hyn2] at h2
    exact List.perm_singleton.1 h2
/-- .. that has none so far. -/
theorem FTied.put0 (H : FTied n K R T S) {h : Nat} {x : Int} (h0 : R h = []) (hx : inB n x) (ht : fbTop K x) (hn : ∀ g, x ∉ R g) : FTied n K (updRF R h [x]) T S := by
  refine ⟨H.good, H.up, H.top, H.kid, H.deg, H.rk, fun g y hy => ?_, fun y hy hyt hyn => ?_⟩
  · by_cases e : g = h
    · subst e
      rw [updR_at] at hy ⊢
      rw [List.mem_singleton] at hy
      subst hy
      rw [H.r1 y hx ht hn]
    · rw [updR_off R _ e] at hy ⊢; exact H.rr g y hy
  · refine H.r1 y hy hyt fun g k => ?_
    by_cases e : g = h
    · subst e; rw [h0] at k; cases k
    · exact hyn g (by rw [updR_off R _ e]; exact k)
end
end Go.Proofs.YtkcicnflcilekaaGreat

namespace Go.Proofs.YtkcicnflcilekaaGreat
open Go.RowKit

def ndC (t : Node) : List Value := [.int .i64 t.up, .int .i64 t.kid, .int .i64 t.deg, .bool t.lost]
theorem ndC_len (t : Node) : (ndC t).length = 4 := rfl
def rawN (n : Nat) (T : Int → Node) : List Node := (List.range n).map fun i : Nat => T i
section
variable {n i : Nat} (T : Int → Node) (h : i < n)
include h
end
end Go.Proofs.YtkcicnflcilekaaGreat

namespace Go.Proofs.YtkcicnflcilekaaGreat
open Go.RowKit Go.Sort

end Go.Proofs.YtkcicnflcilekaaGreat

namespace Go.Proofs.YtkcicnflcilekaaGreat
open Go.RowKit Go.Sort

structure TieRg where
  nx : Int
  pv : Int
def tiC (t : TieRg) : List Value := [.int .i64 t.nx, .int .i64 t.pv]
theorem tiC_len (t : TieRg) : (tiC t).length = 2 := rfl
def TieRg.no : TieRg := ⟨0, 0⟩
def rawTRg (n : Nat) (f g : Int → Int) : List TieRg := (List.range n).map fun i : Nat => ⟨f i, g i⟩
theorem rawT_lenRg (n : Nat) (f g : Int → Int) : (rawTRg n f g).length = n := by simp [rawTRg]
theorem rawT_atRg {n : Nat} (f g : Int → Int) {i : Nat} (h : i < n) (d : TieRg) : (rawTRg n f g).getD i d = ⟨f i, g i⟩ := by
  simp [rawTRg, List.getD_eq_getElem?_getD, h]
theorem tie_ext {a b : List TieRg} {n : Nat} (ha : a.length = n) (hb : b.length = n) (h : ∀ i, i < n → a.getD i .no = b.getD i .no) : a = b := by
  apply List.ext_getElem (ha.trans hb.symm)
  intro i h1 h2
  have := h i (by omega)
  simpa [List.getD_eq_getElem?_getD, h1, h2] using this
theorem rawT_congr {n : Nat} {f g f' g' : Int → Int} (hf : ∀ i : Nat, i < n → f i = f' i) (hg : ∀ i : Nat, i < n → g i = g' i) : rawTRg n f g = rawTRg n f' g' :=
  tie_ext (rawT_lenRg _ _ _) (rawT_lenRg _ _ _) fun i hi => by rw [rawT_atRg _ _ hi, rawT_atRg _ _ hi, hf i hi, hg i hi]
theorem rawT_nx {n : Nat} (f g : Int → Int) {i : Nat} (hi : i < n) (y : Int) : (cellsBy tiC (rawTRg n f g)).set (i * 2) (.int .i64 y) = cellsBy tiC (rawTRg n (setI f i y) g) := by
  have h := cellsBy_set tiC 2 tiC_len .no (rawTRg n f g) i 0 (.int .i64 y) ⟨y, g i⟩ (by rw [rawT_lenRg]; exact hi) (by omega) (by rw [rawT_atRg _ _ hi]; rfl)
  rw [Nat.add_zero] at h
  rw [h]
  congr 1
  refine tie_ext (by simp [rawT_lenRg]) (rawT_lenRg _ _ _) fun j hj => ?_
  rw [getD_set' _ _ _ _ _ (by rw [rawT_lenRg]; exact hi), rawT_atRg _ _ hj, rawT_atRg _ _ hj]
  unfold setI
  by_cases e : i = j
  · subst e; simp
  · have e' : (j : Int) ≠ i := by omega
    simp [e, e']
theorem rawT_pv {n : Nat} (f g : Int → Int) {i : Nat} (hi : i < n) (y : Int) : (cellsBy tiC (rawTRg n f g)).set (i * 2 + 1) (.int .i64 y) = cellsBy tiC (rawTRg n f (setI g i y)) := by
  have h := cellsBy_set tiC 2 tiC_len .no (rawTRg n f g) i 1 (.int .i64 y) ⟨f i, y⟩ (by rw [rawT_lenRg]; exact hi) (by omega) (by rw [rawT_atRg _ _ hi]; rfl)
  rw [h]
  congr 1
  refine tie_ext (by simp [rawT_lenRg]) (rawT_lenRg _ _ _) fun j hj => ?_
  rw [getD_set' _ _ _ _ _ (by rw [rawT_lenRg]; exact hi), rawT_atRg _ _ hj, rawT_atRg _ _ hj]
  unfold setI
  by_cases e : i = j
  · subst e; simp
  · have e' : (j : Int) ≠ i := by omega
    simp [e, e']
def rgParts (p : Nat) (v : Value) (n : Nat) (f g : Int → Int) : List Ob :=
  [Ob.box p #[v] 268, Ob.row 0 281 2 v n (cellsBy tiC (rawTRg n f g))]
/-- At p lie n things: f says what follows each, g what each follows. -/
def Ob.ring (p n : Nat) (S : RSt) : Ob where
  holds w F := ∃ v, (Ob.group (rgParts p v n S.f S.g)).holds w F
  keeps := fun ⟨v, h⟩ k hn => ⟨v, (Ob.group _).keeps h k hn⟩
  lt := fun ⟨_, h⟩ => (Ob.group _).lt h
section
variable {F0 : Nat → Prop} {W0 w : World} {p n : Nat} {v : Value} {f g : Int → Int} {q : List Ob}
theorem rg_c0 (h : Stage F0 W0 (rgParts p v n f g ++ q) w) : w.cell? ⟨p, 0, none⟩ = some v := h.cell 0 rfl rfl
theorem rg_form (h : Stage F0 W0 (rgParts p v n f g ++ q) w) : ∃ a c, v = .slice a n c ∧ n ≤ c ∧ c ≤ 9223372036854775807 := by
  obtain ⟨a, c, h1, h2, h3⟩ := owns_form (h.owns 1 rfl)
  exact ⟨a, c, h1, h2, by unfold maxLen at h3; omega⟩
theorem rg_row (h : Stage F0 W0 (rgParts p v n f g ++ q) w) (hn : 0 < n) : ∃ b c, v = .slice (some ⟨b, 0, none⟩) n c ∧ n ≤ c ∧ c ≤ 9223372036854775807 ∧ b ≠ p ∧ b < w.heap.size ∧
    (∀ i : Nat, i < n → w.cell? ⟨b, i * 2, none⟩ = some (.int .i64 (f i)) ∧ w.cell? ⟨b, i * 2 + 1, none⟩ = some (.int .i64 (g i))) ∧ ∀ o, w.frozen? ⟨b, o, none⟩ = false := by
  obtain ⟨b, c, hv, h1, h2, _, h4, hc, hf⟩ := owns_at tiC_len .no (h.owns 1 rfl) (rawT_lenRg n f g) hn
  have hne := h.rowNe 1 0 rfl rfl (by decide)
  subst hv
  refine ⟨b, c, rfl, h1, by unfold maxLen at h2; omega, fun e => hne (by rw [← e]; rfl), h4, fun i hi => ?_, hf⟩
  have e := rawT_atRg f g hi .no
  exact ⟨hc i 0 _ hi (by omega) (by rw [e]; rfl), hc i 1 _ hi (by omega) (by rw [e]; rfl)⟩
theorem rg_has (h : Stage F0 W0 (rgParts p v n f g ++ q) w) (x : Int) : Calls Tryz.prog 248 #[.pointer (some ⟨p, 0, none⟩), .int .i64 x] w fun e w' => e = .returned (.bool (inR n x)) ∧ w = w' := by
  obtain ⟨a, c, rfl, hc1, hc2⟩ := rg_form h
  have c0 := rg_c0 h
  unfold inR
  by_cases hx : 0 ≤ x
  · have hd := Lib.hid (show decide (0 ≤ x ∧ x < (n : Int)) = decide (x < (n : Int)) by congr 1; apply propext; omega)
    rw [hd.out]
    clear h hd
    go_enter Tryz.func248, Tryz.ntmps248
    go_wp2
    go_ret
    exact ⟨rfl, rfl⟩
  · rw [decide_eq_false (fun e => hx e.1)]
    clear h
    go_enter Tryz.func248, Tryz.ntmps248
    go_wp2
    go_ret
    exact ⟨rfl, rfl⟩
theorem rg_tie (hs : Stage F0 W0 (rgParts p v n f g ++ q) w) (x y : Nat) (hx : x < n) (hy : y < n) : Calls Tryz.prog 113 #[.pointer (some ⟨p, 0, none⟩), .int .i64 x, .int .i64 y] w fun e w' => e = .returned (.tuple #[]) ∧ Stage F0 W0 (rgParts p v n (setI f x y) (setI g y x) ++ q) w' := by
  have c0 := rg_c0 hs
  obtain ⟨b, c, rfl, hc1, hc2, hbp, hb, hc, hf⟩ := rg_row hs (by omega)
  have u0 := (hc x hx).1
  have u1 := (hc y hy).2
  have f0 := hf (x * 2)
  have f1 := hf (y * 2 + 1)
  have hs2 := (hs.storeRow 1 rfl (x * 2) (.int .i64 y) (rawT_nx f g hx y)).storeRow 1 rfl (y * 2 + 1) (.int .i64 x) (rawT_pv (setI f x y) g hy x)
  have hxi : (x : Int) < n := by omega
  have hyi : (y : Int) < n := by omega
  clear hs hc hf
  go_enter Tryz.func113, Tryz.ntmps113
  go_wp2_with fail
  go_end0
  exact ⟨rfl, hs2⟩
end
section
variable {w : World} {p n : Nat} {S : RSt} {F : Nat → Prop}
end
end Go.Proofs.YtkcicnflcilekaaGreat

namespace Go.Proofs.YtkcicnflcilekaaGreat
open Go.RowKit Go.Sort

theorem info_thingRg : (Tryz.prog.info? 281).map (fun i => (i.zero, i.size, i.bytes)) = some (some (.agg #[.int .i64 0, .int .i64 0]), 2, 16) := by kernel_rfl
/-- So far tied. -/
def newF (j : Nat) : Int → Int := fun z => if z < j then z else 0
theorem newF_zero (n : Nat) : rawTRg n (newF 0) (newF 0) = List.replicate n .no := by
  refine tie_ext (rawT_lenRg _ _ _) (by simp) fun i hi => ?_
  rw [rawT_atRg _ _ hi]
  have h : ¬ ((i : Int) < (0 : Nat)) := by omega
  unfold newF
  rw [if_neg h]
  simp [List.getD_eq_getElem?_getD, hi, TieRg.no]
theorem newF_set (n j : Nat) : rawTRg n (setI (newF j) j j) (setI (newF j) j j) = rawTRg n (newF (j + 1)) (newF (j + 1)) := by
  have h : ∀ i : Nat, i < n → setI (newF j) j j i = newF (j + 1) i := fun i _ => by
    unfold setI newF
    by_cases e : i = j
    · subst e; rw [if_pos rfl, if_pos (by omega)]
    · rw [if_neg (by omega)]
      by_cases e2 : i < j
      · rw [if_pos (by omega), if_pos (by omega)]
      · rw [if_neg (by omega), if_neg (by omega)]
  exact rawT_congr h h
theorem newF_all (n : Nat) : rawTRg n (newF n) (newF n) = rawTRg n id id := by
  have h : ∀ i : Nat, i < n → newF n i = id (i : Int) := fun i hi => by
    unfold newF; rw [if_pos (by omega)]; rfl
  exact rawT_congr h h
theorem rg_same_parts {p n : Nat} {v : Value} {f g f' g' : Int → Int} (h : rawTRg n f g = rawTRg n f' g') : rgParts p v n f g = rgParts p v n f' g' := by
  unfold rgParts; rw [h]
def NewPostR (w : World) (n : Nat) (e : Ending) (w' : World) : Prop :=
  ∃ p, e = .returned (.tuple #[.pointer (some ⟨p, 0, none⟩), .int .i64 0]) ∧ ∃ F', (Ob.ring p n (newS n)).holds w' F' ∧ (∀ k, F' k → w.heap.size ≤ k) ∧ Below w.heap.size w w'
set_option maxHeartbeats 1000000 in
theorem new_rg (n : Nat) (hn : n ≤ 65536) (w : World) : Calls Tryz.prog 109 #[.int .i64 n] w (NewPostR w n) := by
  have hmk := run_make_rows (P := Tryz.prog) 266 281 _ 2 16 Tryz.underlying266 info_thingRg n (by omega) (by omega)
  have hs0 := ((Stage.start w).newRow 281 2 n (madeCells #[.int .i64 0, .int .i64 0] (n * 2)) (size_madeCells _ _) (by unfold maxLen; omega)).alloc' #[.slice (some ⟨w.heap.size, 0, none⟩) n n] 268 (b := w.heap.size + 1) (size_alloc _ _)
  rw [made_rows tiC_len (by decide) TieRg.no #[.int .i64 0, .int .i64 0] rfl n, ← newF_zero n] at hs0
  have hs : Stage (fun _ => False) w (rgParts (w.heap.size + 1) (.slice (some ⟨w.heap.size, 0, none⟩) n n) n (newF 0) (newF 0)) _ := hs0.select [1, 0] (by decide) rfl
  clear hs0
  generalize hg : w.heap.size = g at *
  have k0 := hs.cell 0 rfl (o := 0) rfl
  have hn1 : ¬ (65536 : Int) < n := by omega
  go_enter Tryz.func109, Tryz.ntmps109
  go_wp2_with fail
  go_loopw [17] (fun i wr => ∃ j : Nat, i = .int .i64 j ∧ j ≤ n ∧ Stage (fun _ => False) w (rgParts (g + 1) (.slice (some ⟨g, 0, none⟩) n n) n (newF j) (newF j)) wr) (fun i _ => n - (intOf i).toNat)
  case atStart => exact ⟨0, rfl, Nat.zero_le _, hs⟩
  case round =>
    clear hs k0
    obtain ⟨j, rfl, hj, hs⟩ := hrel
    by_cases hjn : j < n
    · have hji : (j : Int) < n := by omega
      have hT := rg_tie (q := []) hs j j hjn hjn
      rw [rg_same_parts (newF_set n j)] at hT
      clear hs
      go_wp2_with fail
      refine hT.mono ?_
      rintro e w2 ⟨rfl, hs2⟩
      clear hT
      go_wp2_with fail
      go_roundw
      case rel => exact ⟨j + 1, by go_num, by omega, hs2⟩
      case measure => simp [intOf]; omega
    · have hji : ¬ (j : Int) < n := by omega
      obtain rfl : j = n := by omega
      go_wp2_with fail
      rw [rg_same_parts (newF_all j)] at hs
      obtain ⟨F', h1, h2, h3⟩ := hs.closeNew
      go_ret2
      exact ⟨_, rfl, F', ⟨_, h1⟩, h2, h3⟩
theorem Stage.newRing {F0 : Nat → Prop} {W w : World} {l : List Ob} (h : Stage F0 W l w) (n : Nat) (hn : n ≤ 65536) : Calls Tryz.prog 109 #[.int .i64 n] w fun e w' => ∃ p, e = .returned (.tuple #[.pointer (some ⟨p, 0, none⟩), .int .i64 0]) ∧ Stage F0 W (l ++ [Ob.ring p n (newS n)]) w' :=
  (new_rg n hn w).mono fun _ _ ⟨p, he, _, h1, h2, h3⟩ => ⟨p, he, h.add h3 h1 h2⟩
section
variable {w : World} {p n : Nat} {S : RSt} {F : Nat → Prop}
end
end Go.Proofs.YtkcicnflcilekaaGreat

namespace Go.Proofs.YtkcicnflcilekaaGreat
open Go.RowKit Go.Sort

section
variable {w : World} {p n : Nat} {S : RSt} {F : Nat → Prop}
set_option maxHeartbeats 1000000 in
theorem rg_splice (B : Back n S.f S.g) (x y : Int) (h : (Ob.ring p n S).holds w F) : Calls Tryz.prog 245 #[.pointer (some ⟨p, 0, none⟩), .int .i64 x, .int .i64 y] w fun e w' => e = .returned (.bool (inR n x && inR n y)) ∧ ∃ F', (Ob.ring p n (spliceS n S x y)).holds w' F' ∧ Moved F F' w w' := by
  have hF := (Ob.ring p n S).lt h
  have hno : (inR n x && inR n y) = false → spliceS n S x y = S := fun e => by simp [spliceS, e]
  have hyes : (inR n x && inR n y) = true → spliceS n S x y = tieS S x y (spliceR S.R x y) := fun e => by simp [spliceS, e]
  have hstay : ∃ F', (Ob.ring p n S).holds w F' ∧ Moved F F' w w := ⟨F, h, Moved.refl _ _⟩
  obtain ⟨v, hg⟩ := h
  have hs := Ob.group.open hg
  have c0 := rg_c0 (q := []) hs
  have hX := rg_has (q := []) hs x
  have hY := rg_has (q := []) hs y
  cases h1 : inR n x
  · rw [hno (by rw [h1]; rfl), Bool.false_and]
    rw [h1] at hX
    clear hs hg c0 hY hno hyes
    go_enter Tryz.func245, Tryz.ntmps245
    go_wp2_with fail
    refine hX.mono ?_
    rintro e w1 ⟨rfl, rfl⟩
    go_wp2_with fail
    go_ret
    exact ⟨rfl, hstay⟩
  cases h2 : inR n y
  · rw [hno (by rw [h2, Bool.and_false]), Bool.and_false]
    rw [h1] at hX
    rw [h2] at hY
    clear hs hg c0 hno hyes
    go_enter Tryz.func245, Tryz.ntmps245
    go_wp2_with fail
    refine hX.mono ?_
    rintro e w1 ⟨rfl, rfl⟩
    go_wp2_with fail
    refine hY.mono ?_
    rintro e w1 ⟨rfl, rfl⟩
    go_wp2_with fail
    go_ret
    exact ⟨rfl, hstay⟩
  rw [hyes (by rw [h1, h2]; rfl), Bool.and_self]
  rw [h1] at hX
  rw [h2] at hY
  rw [inR_iff] at h1 h2
  have hfx := B.inF x h1
  have hfy := B.inF y h2
  have hsame : rawTRg n (setI (setI S.f x (S.f y)) y (S.f x)) (setI (setI S.g (S.f y) x) (S.f x) y) = rawTRg n (tieS S x y (spliceR S.R x y)).f (tieS S x y (spliceR S.R x y)).g := by
    refine rawT_congr (fun i _ => ?_) (fun i _ => ?_)
    · show setI (setI S.f x (S.f y)) y (S.f x) i = swapN S.f x y i
      unfold setI swapN
      by_cases e1 : (i : Int) = y
      · rw [if_pos e1]
        by_cases e2 : (i : Int) = x
        · rw [if_pos e2, ← e2, e1]
        · rw [if_neg e2, if_pos e1]
      · rw [if_neg e1, if_neg e1]
    · show setI (setI S.g (S.f y) x) (S.f x) y i = swapB S.f S.g x y i
      unfold setI swapB
      by_cases e1 : (i : Int) = S.f x
      · rw [if_pos e1]
        by_cases e2 : (i : Int) = S.f y
        · rw [if_pos e2]
          have e3 := B.gf x h1
          rw [← e1, e2, B.gf y h2] at e3
          exact e3
        · rw [if_neg e2, if_pos e1]
      · rw [if_neg e1, if_neg e1]
  obtain ⟨i, rfl⟩ : ∃ i : Nat, x = i := ⟨x.toNat, by omega⟩
  obtain ⟨j, rfl⟩ : ∃ j : Nat, y = j := ⟨y.toNat, by omega⟩
  obtain ⟨fi, hfi⟩ : ∃ k : Nat, S.f i = k := ⟨(S.f i).toNat, by omega⟩
  obtain ⟨fj, hfj⟩ : ∃ k : Nat, S.f j = k := ⟨(S.f j).toNat, by omega⟩
  obtain ⟨b, c, rfl, hc1, hc2, hbp, hbl, hc, hf⟩ := rg_row (q := []) hs (by omega)
  have u0 := (hc i (by omega)).1
  have u1 := (hc j (by omega)).1
  rw [hfi] at u0 hsame hfx
  rw [hfj] at u1 hsame hfy
  have hi : (i : Int) < n := by omega
  have hj : (j : Int) < n := by omega
  have hT := fun u (hS : Stage F w (rgParts p (.slice (some ⟨b, 0, none⟩) n c) n S.f S.g ++ []) u) => rg_tie hS i fj (by omega) (by omega)
  have hT2 := fun u (hS : Stage F w (rgParts p (.slice (some ⟨b, 0, none⟩) n c) n (setI S.f i fj) (setI S.g fj i) ++ []) u) => rg_tie hS j fi (by omega) (by omega)
  rw [rg_same_parts hsame] at hT2
  generalize (tieS S i j (spliceR S.R i j)) = S2 at *
  clear hno hyes hstay hsame hg hc hf h1 h2 hfi hfj B
  go_enter Tryz.func245, Tryz.ntmps245
  go_wp2_with fail
  refine hX.mono ?_
  rintro e w1 ⟨rfl, rfl⟩
  clear hX
  go_wp2_with fail
  refine hY.mono ?_
  rintro e w1 ⟨rfl, rfl⟩
  clear hY
  go_wp2_with fail
  go_region
  replace hT := hT _ hs.drew
  clear hs u0 u1 c0
  generalize w.drew = w1 at *
  go_wp2_with fail
  refine hT.mono ?_
  rintro e w2 ⟨rfl, hs2⟩
  replace hT2 := hT2 _ hs2
  clear hT hs2
  go_wp2_with fail
  refine hT2.mono ?_
  rintro e w3 ⟨rfl, hs3⟩
  clear hT2
  obtain ⟨F', h5, h6⟩ := Stage.close (l := rgParts p (.slice (some ⟨b, 0, none⟩) n c) n S2.f S2.g) hs3 hF
  clear hs3
  go_wp2_with fail
  go_ret
  exact ⟨rfl, F', ⟨_, h5⟩, h6⟩
end
end Go.Proofs.YtkcicnflcilekaaGreat

namespace Go.Proofs.YtkcicnflcilekaaGreat
open Go.RowKit Go.Sort

def fbF (f c rp : Nat) (v : Value) (n : Nat) (W : WS) (s : Int) (T : Int → Node) (S : RSt) : List Ob :=
  [Ob.box f #[ptrV c, ptrV rp, v] 248, Ob.cells c W s, Ob.row 0 246 4 v n (cellsBy ndC (rawN n T)), Ob.ring rp n S]
section
variable {F0 : Nat → Prop} {W0 w : World} {f c rp n : Nat} {v : Value} {W : WS} {s : Int} {T : Int → Node} {S : RSt} {q : List Ob}
theorem nf_c0 (h : Stage F0 W0 (fbF f c rp v n W s T S ++ q) w) : w.cell? ⟨f, 0, none⟩ = some (ptrV c) := h.cell 0 rfl rfl
theorem nf_fit (h : Stage F0 W0 (fbF f c rp v n W s T S ++ q) w) : W.Fit ∧ 0 ≤ s ∧ s ≤ 4611686018427387904 := by
  obtain ⟨G, ho⟩ := h.get (i := 1) rfl
  exact ⟨Ob.cells.fit ho, Ob.cells.steps ho⟩
section
variable {g k x : Nat}
end
/-- Which of two is ahead, and the other one. -/
theorem order_fb (h : Stage F0 W0 (fbF f c rp v n W s T S ++ q) w) (a b : Int) : Calls Tryz.prog 240 #[.pointer (some ⟨f, 0, none⟩), .int .i64 a, .int .i64 b] w fun e w' =>
    e = .returned (.tuple #[.int .i64 (if aheadW W b a = true then b else a), .int .i64 (if aheadW W b a = true then a else b)]) ∧ Stage F0 W0 (fbF f c rp v n W (aheadS W s b a) T S ++ q) w' := by
  have c0 := nf_c0 h
  have hA : Calls Tryz.prog 174 #[.pointer (some ⟨c, 0, none⟩), .int .i64 b, .int .i64 a] w fun e w' => e = .returned (.bool (aheadW W b a)) ∧ Stage F0 W0 (fbF f c rp v n W (aheadS W s b a) T S ++ q) w' := h.call 1 rfl fun _ ho => ahead_cl b a ho
  generalize aheadS W s b a = s1 at *
  clear h
  cases hB : aheadW W b a
  all_goals
    rw [hB] at hA
    simp only [Bool.false_eq_true, if_false, if_true]
    go_enter Tryz.func240, Tryz.ntmps240
    go_wp2_with fail
    refine hA.mono ?_
    rintro e w1 ⟨rfl, h1⟩
    clear hA
    go_wp2_with fail
    go_ret2
    exact ⟨rfl, h1⟩
end
end Go.Proofs.YtkcicnflcilekaaGreat
