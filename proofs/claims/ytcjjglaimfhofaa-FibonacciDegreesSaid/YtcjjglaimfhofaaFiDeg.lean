/- Merged of FiMid, FiDeg. -/
import Derived.Test.YtcjjglaimfhofaaPrMath
namespace Go.Proofs.Ytcjjglaimfhofaa

structure FiMid (W : WS) (K : Int → List Int) (R : Nat → List Int) (E : Int → Prop) : Prop where
  f : PrF W K
  top : ∀ x, inW W x = true → fbTop K x → x ∈ R (cellW W x).home ∨ E x
  is : ∀ h x, x ∈ R h → 1 ≤ h ∧ inW W x = true ∧ (cellW W x).home = h ∧ fbTop K x ∧ ¬ E x
  nd : ∀ h, (R h).Nodup
  pend : ∀ x, E x → inW W x = true ∧ fbTop K x
def updR (R : Nat → List Int) (h : Nat) (l : List Int) : Nat → List Int := fun g => if g = h then l else R g
theorem updR_at (R : Nat → List Int) (h : Nat) (l : List Int) : updR R h l h = l := if_pos rfl
theorem updR_off (R : Nat → List Int) {h g : Nat} (l : List Int) (e : g ≠ h) : updR R h l g = R g := if_neg e
section
variable {W : WS} {K : Int → List Int} {R : Nat → List Int} {E : Int → Prop}
theorem FiMid.same (I : FiMid W K R E) {E' : Int → Prop} (h : ∀ y, E' y ↔ E y) : FiMid W K R E' :=
  ⟨I.f, fun x a b => (I.top x a b).imp id (h x).2, fun g x a => by obtain ⟨b, c, d, e, k⟩ := I.is g x a; exact ⟨b, c, d, e, fun q => k ((h x).1 q)⟩, I.nd, fun x a => I.pend x ((h x).1 a)⟩
/-- A root comes to its heap's. -/
theorem FiMid.add {h : Nat} {t : Int} {l : List Int} (I : FiMid W K R fun y => y = t ∨ E y) (ht : ¬ E t) (hh : (cellW W t).home = h) (hl : l.Perm (t :: R h)) : FiMid W K (updR R h l) E := by
  obtain ⟨h1, h2⟩ := I.pend t (Or.inl rfl)
  have hm : ∀ y, y ∈ l ↔ y = t ∨ y ∈ R h := fun y => by rw [hl.mem_iff, List.mem_cons]
  refine ⟨I.f, fun x k1 k2 => ?_, fun g x k => ?_, fun g => ?_, fun x k => I.pend x (Or.inr k)⟩
  · rcases I.top x k1 k2 with e | e | e
    · by_cases e2 : (cellW W x).home = h
      · rw [e2, updR_at]; rw [e2] at e; exact Or.inl ((hm x).2 (Or.inr e))
      · rw [updR_off R l e2]; exact Or.inl e
    · subst e; rw [hh, updR_at]; exact Or.inl ((hm x).2 (Or.inl rfl))
    · exact Or.inr e
  · by_cases e : g = h
    · subst e
      rw [updR_at] at k
      rcases (hm x).1 k with rfl | k
      · exact ⟨by rw [← hh]; exact in_home.1 h1, h1, hh, h2, ht⟩
      · obtain ⟨a, b, c, d, q⟩ := I.is g x k
        exact ⟨a, b, c, d, fun e2 => q (Or.inr e2)⟩
    · rw [updR_off R l e] at k
      obtain ⟨a, b, c, d, q⟩ := I.is g x k
      exact ⟨a, b, c, d, fun e2 => q (Or.inr e2)⟩
  · by_cases e : g = h
    · subst e
      rw [updR_at, hl.nodup_iff, List.nodup_cons]
      exact ⟨fun k => (I.is g t k).2.2.2.2 (Or.inl rfl), I.nd g⟩
    · rw [updR_off R l e]; exact I.nd g
/-- One of a heap's roots is taken aside. -/
theorem FiMid.del {h : Nat} {t : Int} {l : List Int} (I : FiMid W K R E) (hl : (R h).Perm (t :: l)) : FiMid W K (updR R h l) fun y => y = t ∨ E y := by
  have hm : ∀ y, y ∈ R h ↔ y = t ∨ y ∈ l := fun y => by rw [hl.mem_iff, List.mem_cons]
  obtain ⟨t1, t2, t3, t4, t5⟩ := I.is h t ((hm t).2 (Or.inl rfl))
  have hnd := I.nd h
  rw [hl.nodup_iff, List.nodup_cons] at hnd
  refine ⟨I.f, fun x k1 k2 => ?_, fun g x k => ?_, fun g => ?_, fun x k => ?_⟩
  · rcases I.top x k1 k2 with e | e
    · by_cases e2 : (cellW W x).home = h
      · rw [e2] at e
        rcases (hm x).1 e with e3 | e3
        · exact Or.inr (Or.inl e3)
        · rw [e2, updR_at]; exact Or.inl e3
      · rw [updR_off R l e2]; exact Or.inl e
    · exact Or.inr (Or.inr e)
  · by_cases e : g = h
    · subst e
      rw [updR_at] at k
      obtain ⟨a, b, c, d, q⟩ := I.is g x ((hm x).2 (Or.inr k))
      exact ⟨a, b, c, d, fun e2 => e2.elim (fun e3 => hnd.1 (e3 ▸ k)) q⟩
    · rw [updR_off R l e] at k
      obtain ⟨a, b, c, d, q⟩ := I.is g x k
      exact ⟨a, b, c, d, fun e2 => e2.elim (fun e3 => by subst e3; exact e (c.symm.trans t3)) q⟩
  · by_cases e : g = h
    · subst e; rw [updR_at]; exact hnd.2
    · rw [updR_off R l e]; exact I.nd g
  · rcases k with rfl | k
    · exact ⟨t2, t4⟩
    · exact I.pend x k
/-- A root that is aside is hung below another root. -/
theorem FiMid.hang {c d : Int} {l : List Int} (I : FiMid W K R fun y => y = d ∨ E y) (hd : ¬ E d) (hc : inW W c = true) (tc : fbTop K c) (hne : c ≠ d) (hh : (cellW W c).home = (cellW W d).home) (ha : aheadW W d c = false) (hl : l.Perm (d :: K c)) : FiMid W (fbHang K c l) R E := by
  obtain ⟨d1, d2⟩ := I.pend d (Or.inl rfl)
  have hm : ∀ x p, x ∈ fbHang K c l p ↔ (p = c ∧ x = d) ∨ x ∈ K p := fun x p => by
    unfold fbHang
    by_cases e : p = c
    · rw [if_pos e, hl.mem_iff, List.mem_cons, e]; simp
    · rw [if_neg e]; simp [e]
  refine ⟨⟨hang_inv I.f.fb (prin_slot hc) (prin_slot d1) tc d2 hne hl, fun p x h => ?_⟩, fun x k1 k2 => ?_, fun g x k => ?_, I.nd, fun x k => ?_⟩
  · rcases (hm x p).1 h with ⟨rfl, rfl⟩ | h
    · exact ⟨d1, hh.symm, ha⟩
    · exact I.f.kin p x h
  · rcases I.top x k1 fun p hp => k2 p ((hm x p).2 (Or.inr hp)) with e | e | e
    · exact Or.inl e
    · exact absurd ((hm x c).2 (Or.inl ⟨rfl, e⟩)) (k2 c)
    · exact Or.inr e
  · obtain ⟨a, b, q, e, u⟩ := I.is g x k
    refine ⟨a, b, q, fun p hp => ?_, fun e2 => u (Or.inr e2)⟩
    rcases (hm x p).1 hp with ⟨_, rfl⟩ | hp
    · exact u (Or.inl rfl)
    · exact e p hp
  · obtain ⟨a, b⟩ := I.pend x (Or.inr k)
    refine ⟨a, fun p hp => ?_⟩
    rcases (hm x p).1 hp with ⟨_, rfl⟩ | hp
    · exact hd k
    · exact b p hp
/-- A thing comes off that above it. -/
theorem FiMid.cut {x p : Int} {K' : Int → List Int} (I : FiMid W K R E) (hx : x ∈ K p) (hm : ∀ y q, y ∈ K' q ↔ y ∈ K q ∧ y ≠ x) (hnd : ∀ q, (K' q).Nodup) : FiMid W K' R fun y => y = x ∨ E y := by
  refine ⟨⟨less_inv I.f.fb (fun q y hy => ((hm y q).1 hy).1) hnd, fun q y hy => I.f.kin q y ((hm y q).1 hy).1⟩, fun y k1 k2 => ?_, fun g y k => ?_, I.nd, fun y k => ?_⟩
  · by_cases e : y = x
    · exact Or.inr (Or.inl e)
    · exact (I.top y k1 fun q hq => k2 q ((hm y q).2 ⟨hq, e⟩)).imp id Or.inr
  · obtain ⟨a, b, c, d, q⟩ := I.is g y k
    exact ⟨a, b, c, fun r hr => d r ((hm y r).1 hr).1, fun e => e.elim (fun e => d p (e ▸ hx)) q⟩
  · rcases k with rfl | k
    · exact ⟨(I.f.kin p y hx).1, fun r hr => ((hm y r).1 hr).2 rfl⟩
    · obtain ⟨a, b⟩ := I.pend y k
      exact ⟨a, fun r hr => b r ((hm y r).1 hr).1⟩
/-- All children of a root come off it. -/
theorem FiMid.split {x : Int} (I : FiMid W K R E) (_hx : fbTop K x) : FiMid W (fbHang K x []) R fun y => y ∈ K x ∨ E y := by
  have hm : ∀ y p, y ∈ fbHang K x [] p ↔ p ≠ x ∧ y ∈ K p := fun y p => by
    unfold fbHang
    by_cases e : p = x
    · rw [if_pos e]; simp [e]
    · rw [if_neg e]; simp [e]
  refine ⟨⟨less_inv I.f.fb (fun p y hy => ((hm y p).1 hy).2) fun p => ?_, fun p y hy => I.f.kin p y ((hm y p).1 hy).2⟩, fun y k1 k2 => ?_, fun g y k => ?_, I.nd, ?_⟩
  · unfold fbHang; split
    · exact List.nodup_nil
    · exact I.f.fb.nodup p
  · by_cases e : y ∈ K x
    · exact Or.inr (Or.inl e)
    · exact (I.top y k1 fun p hp => k2 p ((hm y p).2 ⟨fun e2 => e (e2 ▸ hp), hp⟩)).imp id Or.inr
  · obtain ⟨a, b, c, d, e⟩ := I.is g y k
    exact ⟨a, b, c, fun p hp => d p ((hm y p).1 hp).2, fun e2 => e2.elim (d x) e⟩
  · rintro y (k | k)
    · exact ⟨(I.f.kin x y k).1, fun p hp => by obtain ⟨k1, k2⟩ := (hm y p).1 hp; exact k1 (I.f.fb.one p x y k2 k)⟩
    · obtain ⟨a, b⟩ := I.pend y k
      exact ⟨a, fun p hp => b p ((hm y p).1 hp).2⟩
theorem FiMid.cells {W' : WS} (I : FiMid W K R E) (h : W'.cells = W.cells) : FiMid W' K R E := by
  have e1 : ∀ y, cellW W' y = cellW W y := fun y => by rw [dcells_eq h]
  have e2 : ∀ y, inW W' y = inW W y := fun y => by unfold inW; rw [e1]
  have e3 : ∀ a b, aheadW W' a b = aheadW W a b := fun a b => by unfold aheadW aheadC; rw [e2, e2, e1, e1]
  exact ⟨⟨by rw [h]; exact I.f.fb, fun p x hx => by rw [e1, e1, e2, e3]; exact I.f.kin p x hx⟩, fun x k1 k2 => by rw [e1]; exact I.top x (by rw [← e2]; exact k1) k2, fun g x k => by rw [e1, e2]; exact I.is g x k, I.nd, fun x k => by rw [e2]; exact I.pend x k⟩
/-- A slot's entry becomes less: nothing is ahead of that above it, if it itself isn't. -/
theorem FiMid.lower {x k s : Int} (I : FiMid W K R E) (hb : lowerB W x k s = true) (hp : ∀ p, x ∈ K p → aheadW (lowerW W x k s) x p = false) : FiMid (lowerW W x k s) K R E := by
  obtain ⟨h1, h2, h3, h4, h5, _⟩ := homes_lower (homes_all W) hb
  have hl : (lowerW W x k s).cells.length = W.cells.length := by unfold lowerW; split <;> simp
  refine ⟨⟨by rw [hl]; exact I.f.fb, fun p y hy => ?_⟩, fun y k1 k2 => by rw [h3]; exact I.top y (by rw [← h2]; exact k1) k2, fun g y k => by rw [h3, h2]; exact I.is g y k, I.nd, fun y k => by rw [h2]; exact I.pend y k⟩
  obtain ⟨q1, q2, q3⟩ := I.f.kin p y hy
  refine ⟨by rw [h2]; exact q1, by rw [h3, h3]; exact q2, ?_⟩
  by_cases e0 : y = x
  · subst e0; exact hp p hy
  · by_cases e : p = x
    · subst e; exact h5 y q1 e0 q3
    · rw [h4 y p e0 e]; exact q3
theorem FiMid.put {x k s : Int} {h : Nat} (I : FiMid W K R noE) (hp : putB W h x = true) (h1 : 1 ≤ h) : FiMid (putW W h x k s) K R (fun y => y = x) ∧ K x = [] ∧ (cellW (putW W h x k s) x).home = h := by
  obtain ⟨q1, q2, q3, q4, q5⟩ := homes_put (k := k) (s := s) (homes_all W) hp h1
  have H := q5 (fun g => if g = h then x :: slotsW W g else slotsW W g) (by rw [if_pos rfl]) (fun g hg => by rw [if_neg hg])
  have hx : (cellW (putW W h x k s) x).home = h := (H.mem h x h1).1 (by simp)
  obtain ⟨o1, o2⟩ := I.f.out q2
  have hl : (putW W h x k s).cells.length = W.cells.length := by unfold putW; split <;> simp
  have hin : ∀ y, y ≠ x → inW (putW W h x k s) y = inW W y := fun y hy => by unfold inW; rw [q4 y hy]
  have hne : ∀ {p y}, y ∈ K p → y ≠ x ∧ p ≠ x := fun {p y} hy => ⟨fun e => o1 p (e ▸ hy), fun e => by rw [e, o2] at hy; cases hy⟩
  refine ⟨⟨⟨by rw [hl]; exact I.f.fb, fun p y hy => ?_⟩, fun y k1 k2 => ?_, fun g y k => ?_, I.nd, ?_⟩, o2, hx⟩
  · obtain ⟨n1, n2⟩ := hne hy
    obtain ⟨a1, a2, a3⟩ := I.f.kin p y hy
    exact ⟨by rw [hin y n1]; exact a1, by rw [q4 y n1, q4 p n2]; exact a2, by rw [dahead_same (q4 y n1) (q4 p n2)]; exact a3⟩
  · by_cases e : y = x
    · exact Or.inr e
    · rw [hin y e] at k1
      rw [q4 y e]
      exact Or.inl ((I.top y k1 k2).elim id False.elim)
  · obtain ⟨a, b, c, d, _⟩ := I.is g y k
    have e : y ≠ x := fun e => by rw [e, q2] at b; cases b
    exact ⟨a, by rw [hin y e]; exact b, by rw [q4 y e]; exact c, d, e⟩
  · rintro y rfl; exact ⟨q3, o1⟩
theorem FiMid.drop {x : Int} (I : FiMid W K R fun y => y = x ∨ E y) (hE : ¬ E x) (hK : K x = []) : FiMid (dropW W x) K R E := by
  obtain ⟨hx, ht⟩ := I.pend x (Or.inl rfl)
  obtain ⟨q1, q2, _⟩ := homes_drop (homes_all W) ((homes_all W).home hx).2
  have hl : (dropW W x).cells.length = W.cells.length := by unfold dropW; split <;> simp
  have hin : ∀ y, y ≠ x → inW (dropW W x) y = inW W y := fun y hy => by unfold inW; rw [q2 y hy]
  have hne : ∀ {p y}, y ∈ K p → y ≠ x ∧ p ≠ x := fun {p y} hy => ⟨fun e => ht p (e ▸ hy), fun e => by rw [e, hK] at hy; cases hy⟩
  refine ⟨⟨by rw [hl]; exact I.f.fb, fun p y hy => ?_⟩, fun y k1 k2 => ?_, fun g y k => ?_, I.nd, fun y h => ?_⟩
  · obtain ⟨n1, n2⟩ := hne hy
    obtain ⟨a1, a2, a3⟩ := I.f.kin p y hy
    exact ⟨by rw [hin y n1]; exact a1, by rw [q2 y n1, q2 p n2]; exact a2, by rw [dahead_same (q2 y n1) (q2 p n2)]; exact a3⟩
  · have e : y ≠ x := fun e => by rw [e, q1] at k1; cases k1
    rw [hin y e] at k1
    rw [q2 y e]
    exact (I.top y k1 k2).imp id fun h => h.elim (fun h => absurd h e) id
  · obtain ⟨a, b, c, d, e⟩ := I.is g y k
    have e2 : y ≠ x := fun e2 => e (Or.inl e2)
    exact ⟨a, by rw [hin y e2]; exact b, by rw [q2 y e2]; exact c, d, fun e3 => e (Or.inr e3)⟩
  · have e : y ≠ x := fun e => hE (e ▸ h)
    rw [hin y e]; exact I.pend y (Or.inr h)
/-- Two heaps become one. -/
theorem FiMid.join (I : FiMid W K R noE) {a b : Nat} {l : List Int} (hb : joinBW W a b = true) (ha1 : 1 ≤ a) (hb1 : 1 ≤ b) (hl : l.Perm (R a ++ R b)) :
    FiMid (joinW W a b) K (updR (updR R b []) a l) noE := by
  obtain ⟨hne, q2, q3, q4, q5⟩ := homes_join (homes_all W) hb ha1 hb1
  have H := q5 (fun g => if g = a then slotsW W a ++ slotsW W b else if g = b then [] else slotsW W g) (by rw [if_pos rfl]) (by rw [if_neg (fun e => hne e.symm), if_pos rfl]) (fun g h1 h2 => by rw [if_neg h1, if_neg h2])
  have hlc : (joinW W a b).cells.length = W.cells.length := by unfold joinW; split <;> simp
  have hA := homes_all W
  have hhome : ∀ y, inW W y = true → (cellW (joinW W a b) y).home = if (cellW W y).home = b then a else (cellW W y).home := fun y hy => by
    obtain ⟨y1, y2⟩ := hA.home hy
    split
    · rename_i e
      rw [e] at y2
      exact (H.mem a y ha1).1 (by rw [if_pos rfl]; simp [y2])
    · rename_i e
      refine (H.mem _ y y1).1 ?_
      split
      · rename_i e2; rw [e2] at y2; simp [y2]
      · exact y2
  have hm : ∀ y, y ∈ l ↔ y ∈ R a ∨ y ∈ R b := fun y => by rw [hl.mem_iff, List.mem_append]
  refine ⟨⟨by rw [hlc]; exact I.f.fb, fun p y hy => ?_⟩, fun y k1 k2 => ?_, fun g y k => ?_, fun g => ?_, fun _ h => h.elim⟩
  · obtain ⟨a1, a2, a3⟩ := I.f.kin p y hy
    exact ⟨by rw [q3]; exact a1, by rw [hhome y a1, hhome p (I.f.par hy), a2], by rw [q2]; exact a3⟩
  · rw [q3] at k1
    rw [hhome y k1]
    have e := (I.top y k1 k2).elim id False.elim
    by_cases e2 : (cellW W y).home = b
    · rw [if_pos e2, updR_at]; rw [e2] at e; exact Or.inl ((hm y).2 (Or.inr e))
    · rw [if_neg e2]
      by_cases e3 : (cellW W y).home = a
      · rw [e3, updR_at]; rw [e3] at e; exact Or.inl ((hm y).2 (Or.inl e))
      · rw [updR_off _ l e3, updR_off R [] e2]; exact Or.inl e
  · by_cases e3 : g = a
    · subst e3
      rw [updR_at] at k
      rcases (hm y).1 k with k | k
      · obtain ⟨a1, b1, c1, d1, _⟩ := I.is g y k
        exact ⟨ha1, by rw [q3]; exact b1, by rw [hhome y b1, c1, if_neg hne], d1, id⟩
      · obtain ⟨a1, b1, c1, d1, _⟩ := I.is b y k
        exact ⟨ha1, by rw [q3]; exact b1, by rw [hhome y b1, if_pos c1], d1, id⟩
    · rw [updR_off _ l e3] at k
      by_cases e4 : g = b
      · subst e4; rw [updR_at] at k; cases k
      · rw [updR_off R [] e4] at k
        obtain ⟨a1, b1, c1, d1, _⟩ := I.is g y k
        exact ⟨a1, by rw [q3]; exact b1, by rw [hhome y b1, c1, if_neg e4], d1, id⟩
  · by_cases e3 : g = a
    · subst e3
      rw [updR_at, hl.nodup_iff, List.nodup_append]
      refine ⟨I.nd g, I.nd b, fun y h1 z h2 e => ?_⟩
      subst e
      exact hne ((I.is g y h1).2.2.1.symm.trans (I.is b y h2).2.2.1)
    · rw [updR_off _ l e3]
      by_cases e4 : g = b
      · subst e4; rw [updR_at]; exact List.nodup_nil
      · rw [updR_off R [] e4]; exact I.nd g
/-- Of a heap's roots that one than which none is ahead is ahead of all. -/
theorem FiMid.min (I : FiMid W K R noE) {h : Nat} {x : Int} (hx : x ∈ R h) (hmin : ∀ y ∈ R h, aheadW W y x = false) : ∀ y, inW W y = true → (cellW W y).home = h → aheadW W y x = false := fun y hy hh => by
  obtain ⟨_, x2, _⟩ := I.is h x hx
  obtain ⟨r, r1, r2, r3, r4⟩ := I.f.root hy
  have h1 : r ∈ R h := by have := (I.top r r2 r1).elim id False.elim; rwa [r3, hh] at this
  exact hm_neg hy r2 r4 (hmin r h1)
theorem FiMid.none (I : FiMid W K R noE) {h : Nat} (hx : R h = []) {y : Int} (hy : inW W y = true) : (cellW W y).home ≠ h := fun hh => by
  obtain ⟨r, r1, r2, r3, _⟩ := I.f.root hy
  have h1 : r ∈ R h := by have := (I.top r r2 r1).elim id False.elim; rwa [r3, hh] at this
  rw [hx] at h1; cases h1
end
end Go.Proofs.Ytcjjglaimfhofaa

namespace Go.Proofs.Ytcjjglaimfhofaa

structure FiDeg (K : Int → List Int) (had : Int → Nat) (mk : Int → Bool) (X : Int → Prop) : Prop where
  sp : ∀ p, SparseE ((K p).map had)
  low : ∀ p x, x ∈ K p → ¬ X x → had x ≤ (K x).length + (mk x).toNat
def updH (had : Int → Nat) (d : Int) (n : Nat) : Int → Nat := fun z => if z = d then n else had z
def updM (mk : Int → Bool) (d : Int) (b : Bool) : Int → Bool := fun z => if z = d then b else mk z
section
variable {n : Nat} {K : Int → List Int} {had : Int → Nat} {mk : Int → Bool} {X : Int → Prop}
theorem map_updH {l : List Int} {d : Int} (m : Nat) (h : d ∉ l) : l.map (updH had d m) = l.map had :=
  List.map_congr_left fun x hx => by
    have e : x ≠ d := fun e => h (e ▸ hx)
    unfold updH; rw [if_neg e]
/-- Nobody has more children than twice the digits of how many there are. -/
theorem FiDeg.deg (D : FiDeg K had mk noE) (I : FbInv n K) {x : Int} (hx : inB n x) {l : List Int} (hl : ∀ y, Des K x y → y ∈ l) {b : Nat} (hb : l.length < 2 ^ b) : (K x).length ≤ 2 * b :=
  fb_deg I had D.sp (fun p y hy => by
    have h1 := D.low p y hy id
    have h2 : (mk y).toNat ≤ 1 := by cases mk y <;> simp
    omega) hx hl hb
theorem FiDeg.none (K : Int → List Int) (h : ∀ p, K p = []) (had : Int → Nat) (mk : Int → Bool) : FiDeg K had mk noE :=
  ⟨fun p => by rw [h]; exact sparseE_nil, fun p x hx => by rw [h] at hx; cases hx⟩
/-- d, a root, is hung below c, which has no more children than d. -/
theorem FiDeg.hang (D : FiDeg K had mk X) {c d : Int} {l : List Int} (hd : fbTop K d) (hne : c ≠ d) (hl : l.Perm (d :: K c)) (hle : (K c).length ≤ (K d).length) (b : Bool) : FiDeg (fbHang K c l) (updH had d (K c).length) (updM mk d b) X := by
  refine ⟨fun p => ?_, fun p x hx hX => ?_⟩
  · unfold fbHang
    by_cases e : p = c
    · rw [if_pos e]
      refine sparseE_add (e := (K c).length) (D.sp c) ?_ (by rw [List.length_map]; exact Nat.le_refl _)
      have h1 := hl.map (updH had d (K c).length)
      rw [List.map_cons, map_updH _ (hd c)] at h1
      rwa [show updH had d (K c).length d = (K c).length from if_pos rfl] at h1
    · rw [if_neg e, map_updH _ (hd p)]; exact D.sp p
  · have hlen : (K x).length ≤ (fbHang K c l x).length := by
      unfold fbHang; split
      · rename_i e; rw [hl.length_eq, e]; simp
      · exact Nat.le_refl _
    by_cases e : x = d
    · subst e
      rw [show updH had x (K c).length x = (K c).length from if_pos rfl]
      omega
    · rw [show updH had d (K c).length x = had x from if_neg e, show updM mk d b x = mk x from if_neg e]
      have hxk : x ∈ K p := by
        unfold fbHang at hx
        split at hx
        · rename_i e2; subst e2
          exact (List.mem_cons.1 (hl.mem_iff.1 hx)).elim (fun h => absurd h e) id
        · exact hx
      have := D.low p x hxk hX
      omega
/-- x comes off p: p is marked by it, or is to come off next. -/
theorem FiDeg.cut (D : FiDeg K had mk X) {p x : Int} {K' : Int → List Int} (_hx : x ∈ K p) (hp : (K p).Perm (x :: K' p)) (ho : ∀ q, q ≠ p → K' q = K q) (b : Bool) {X' : Int → Prop} (hX : ∀ y, y ≠ x → y ≠ p → (X' y ↔ X y)) (hXp : ¬ X' p → ¬ X p ∧ mk p = false ∧ b = true) (hnx : ∀ q, x ∉ K' q) : FiDeg K' had (updM mk p b) X' := by
  refine ⟨fun q => ?_, fun q y hy hyX => ?_⟩
  · by_cases e : q = p
    · rw [e]
      have h1 := hp.map had
      rw [List.map_cons] at h1
      exact sparseE_sub (D.sp p) h1
    · rw [ho q e]; exact D.sp q
  · have hyx : y ≠ x := fun e => hnx q (e ▸ hy)
    have hyk : y ∈ K q := by
      by_cases e : q = p
      · rw [e] at hy ⊢; exact hp.mem_iff.2 (List.mem_cons_of_mem _ hy)
      · rwa [ho q e] at hy
    by_cases e : y = p
    · subst e
      obtain ⟨h1, h2, h3⟩ := hXp hyX
      have h4 := D.low q y hyk h1
      rw [h2] at h4
      have h5 := hp.length_eq
      rw [List.length_cons] at h5
      rw [show updM mk y b y = b from if_pos rfl, h3]
      simp only [Bool.toNat_false, Bool.toNat_true] at h4 ⊢
      omega
    · rw [show updM mk p b y = mk y from if_neg e, ho y e]
      exact D.low q y hyk fun h => hyX ((hX y hyx e).2 h)
/-- All children come off a root; marks of roots are of no matter. -/
theorem FiDeg.split (D : FiDeg K had mk X) {x : Int} (hx : fbTop K x) : FiDeg (fbHang K x []) had mk X := by
  refine ⟨fun p => ?_, fun p y hy hX => ?_⟩
  · unfold fbHang; split
    · exact sparseE_nil
    · exact D.sp p
  · have hyk : y ∈ K p := by
      unfold fbHang at hy; split at hy
      · cases hy
      · exact hy
    have e : y ≠ x := fun e => hx p (e ▸ hyk)
    rw [show fbHang K x [] y = K y from if_neg e]
    exact D.low p y hyk hX
theorem FiDeg.free (D : FiDeg K had mk X) {X' : Int → Prop} (h : ∀ y, X y → fbTop K y ∨ X' y) : FiDeg K had mk X' :=
  ⟨D.sp, fun p x hx hX => D.low p x hx fun k => (h x k).elim (fun t => t p hx) hX⟩
theorem FiDeg.marks (D : FiDeg K had mk X) {mk' : Int → Bool} (h : ∀ p x, x ∈ K p → mk' x = mk x) : FiDeg K had mk' X :=
  ⟨D.sp, fun p x hx hX => by rw [h p x hx]; exact D.low p x hx hX⟩
end
/-- Unlike degrees, none above m: no more than m and one. -/
theorem degs_few {α : Type} {f : α → Nat} {m : Nat} : ∀ {l : List α}, (l.map f).Nodup → (∀ x ∈ l, f x ≤ m) → l.length ≤ m + 1 := fun {l} hd hm => by
  have h : ∀ (k : Nat) (r : List Nat), r.Nodup → (∀ x ∈ r, x < k) → r.length ≤ k := fun k => by
    induction k with
    | zero => intro r _ h; cases r with
      | nil => simp
      | cons a r => exact absurd (h a (by simp)) (by omega)
    | succ k ih =>
      intro r hr h
      by_cases hk : k ∈ r
      · have h1 := ih (r.erase k) (hr.erase k) fun x hx => by
          have h2 := (hr.mem_erase_iff).1 hx
          have := h x h2.2
          omega
        rw [List.length_erase_of_mem hk] at h1
        have := List.length_pos_of_mem hk
        omega
      · have := ih r hr fun x hx => by
          have := h x hx
          have : x ≠ k := fun e => hk (e ▸ hx)
          omega
        omega
  have := h (m + 1) (l.map f) hd fun x hx => by
    obtain ⟨y, hy, rfl⟩ := List.mem_map.1 hx
    have := hm y hy; omega
  rwa [List.length_map] at this
end Go.Proofs.Ytcjjglaimfhofaa
