/- Merged of LeftistMath, LeftistInv, Own, Row. -/
import Derived.Test.YthjelmbicnbhiaaTreeInv
import Derived.Test.YthjelmbicnbhiaaLaw
import Derived.Laws.OwnMore
import Derived.WalkSmall
namespace Go.Proofs.Ythjelmbicnbhiaa
namespace Tr
/-- No right child is longer than the left one. -/
def Lef : Tr → Prop
  | nil => True
  | node _ l r => spine r ≤ spine l ∧ Lef l ∧ Lef r
/-- The longer one to the left. -/
def mk (x : Int) (a b : Tr) : Tr := if spine a < spine b then node x b a else node x a b
theorem mk_perm (x : Int) (a b : Tr) : (mk x a b).slots.Perm (x :: (a.slots ++ b.slots)) := by
  unfold mk; split
  · exact List.perm_append_comm.cons x
  · exact List.Perm.refl _
theorem mk_top (x : Int) (a b : Tr) : (mk x a b).top = some x := by unfold mk; split <;> rfl
theorem mk_lef {x : Int} {a b : Tr} (ha : Lef a) (hb : Lef b) : Lef (mk x a b) := by
  unfold mk; split
  · exact ⟨by omega, hb, ha⟩
  · exact ⟨by omega, ha, hb⟩
theorem mk_ok {lt : Int → Int → Bool} {x : Int} {a b : Tr} (ua : Under lt x a) (ub : Under lt x b) (ha : Ok lt a) (hb : Ok lt b) : Ok lt (mk x a b) := by
  unfold mk; split
  · exact ⟨ub, ua, hb, ha⟩
  · exact ⟨ua, ub, ha, hb⟩
theorem mk_spine (x : Int) (a b : Tr) : spine (mk x a b) = min (spine a) (spine b) + 1 := by unfold mk; split <;> simp only [spine] <;> omega
theorem mk_same {x : Int} {a b : Tr} (h : spine b ≤ spine a) : mk x a b = node x a b := by unfold mk; rw [if_neg (by omega)]
theorem mk_flip (x : Int) (m : Tr) : mk x nil m = mk x m nil := by
  cases m with
  | nil => rfl
  | node y a b => simp [mk, spine]
/-- A tree as long as this has that many slots. -/
theorem lef_size : ∀ {t : Tr}, Lef t → 2 ^ spine t ≤ size t + 1
  | nil, _ => by simp [spine, size]
  | node x l r, h => by
    have h1 := lef_size h.2.1
    have h2 := lef_size h.2.2
    have h3 : 2 ^ spine r ≤ 2 ^ spine l := Nat.pow_le_pow_right (by omega) h.1
    simp only [spine, size, Nat.pow_succ]
    omega
theorem lef_spine {t : Tr} {b : Nat} (h : Lef t) (hs : size t < 2 ^ b) : spine t ≤ b := by
  have h1 := lef_size h
  apply Nat.le_of_not_lt
  intro h2
  have h3 : 2 ^ (b + 1) ≤ 2 ^ spine t := Nat.pow_le_pow_right (by omega) h2
  rw [Nat.pow_succ] at h3
  have : 0 < 2 ^ b := Nat.pow_pos (by omega)
  omega
theorem spine_size : ∀ t : Tr, spine t ≤ size t
  | nil => Nat.le_refl _
  | node x l r => by have := spine_size r; simp only [spine, size]; omega
theorem lef_nil {l r : Tr} {x : Int} (h : Lef (node x l r)) (hl : l = nil) : r = nil := by
  subst hl
  have h1 : spine r ≤ 0 := h.1
  cases r with
  | nil => rfl
  | node y a b => simp [spine] at h1
/-! ### put in a place: all above are made anew -/
def lsit (f : Fr) (t : Tr) : Tr := if f.s then mk f.x f.o t else mk f.x t f.o
def lfillZ : List Fr → Tr → Tr
  | [], t => t
  | f :: z, t => lfillZ z (lsit f t)
theorem lsit_perm (f : Fr) (t : Tr) : (lsit f t).slots.Perm (f.x :: (t.slots ++ f.o.slots)) := by
  unfold lsit; split
  · exact (mk_perm _ _ _).trans (List.perm_append_comm.cons _)
  · exact mk_perm _ _ _
theorem lsit_top (f : Fr) (t : Tr) : (lsit f t).top = some f.x := by unfold lsit; split <;> exact mk_top _ _ _
theorem lsit_lef {f : Fr} {t : Tr} (h1 : Lef f.o) (h2 : Lef t) : Lef (lsit f t) := by
  unfold lsit; split
  · exact mk_lef h1 h2
  · exact mk_lef h2 h1
theorem sit_lef {f : Fr} {t : Tr} (h : Lef (sit f t)) : Lef f.o ∧ Lef t := by
  obtain ⟨s, x, u⟩ := f
  cases s
  · exact ⟨h.2.2, h.2.1⟩
  · exact ⟨h.2.1, h.2.2⟩
theorem lefZ : ∀ {z : List Fr} {t : Tr}, Lef (fillZ z t) → Lef t
  | [], _, h => h
  | _ :: z, _, h => (sit_lef (lefZ (z := z) h)).2
theorem lfillZ_perm : ∀ (z : List Fr) (t : Tr), (lfillZ z t).slots.Perm (t.slots ++ zs z)
  | [], t => by simp [lfillZ, zs]
  | f :: z, t => by
    have h1 := lfillZ_perm z (lsit f t)
    have h2 := lsit_perm f t
    rw [List.perm_iff_count] at *
    intro y
    have h1 := h1 y
    have h2 := h2 y
    simp only [lfillZ, zs, List.count_append, List.count_cons] at h1 h2 ⊢
    omega
theorem lfillZ_lef : ∀ {z : List Fr} {t u : Tr}, Lef (fillZ z t) → Lef u → Lef (lfillZ z u)
  | [], _, _, _, h => h
  | f :: z, t, _, h, h2 => lfillZ_lef (z := z) (t := sit f t) h (lsit_lef (sit_lef (lefZ (z := z) h)).1 h2)
theorem lfillZ_ok {lt : Int → Int → Bool} : ∀ {z : List Fr} {t u : Tr}, Ok lt (fillZ z t) → (∀ y ∈ u.slots, y ∈ t.slots) → Ok lt u → Ok lt (lfillZ z u)
  | [], _, _, _, _, h => h
  | f :: z, t, u, h, hs, h2 => by
    have h3 := ok_sit.1 (okZ (z := z) h)
    refine lfillZ_ok (z := z) (t := sit f t) h (fun y hy => sit_sub hs y ((sit_perm f u).mem_iff.2 ((lsit_perm f u).mem_iff.1 hy))) ?_
    unfold lsit; split
    · exact mk_ok h3.2.1 (fun y hy => h3.1 y (hs y hy)) h3.2.2.1 h2
    · exact mk_ok (fun y hy => h3.1 y (hs y hy)) h3.2.1 h2 h3.2.2.1
theorem lfillZ_top : ∀ (z : List Fr) (f : Fr) (t u : Tr), (lfillZ (f :: z) t).top = (fillZ (f :: z) u).top
  | [], f, t, u => (lsit_top f t).trans (sit_top f u).symm
  | g :: z, f, t, u => lfillZ_top z g (lsit f t) (sit f u)
theorem sit_spine {f : Fr} {t u : Tr} (e : spine u = spine t) : spine (sit f u) = spine (sit f t) := by
  unfold sit; split <;> simp only [spine] <;> omega
theorem lsit_same {f : Fr} {t u : Tr} (h : Lef (sit f t)) (e : spine u = spine t) : lsit f u = sit f u := by
  obtain ⟨s, x, o⟩ := f
  cases s
  · exact mk_same (by have h1 : spine o ≤ spine t := h.1; show spine o ≤ spine u; omega)
  · exact mk_same (by have h1 : spine t ≤ spine o := h.1; show spine u ≤ spine o; omega)
/-- What is as long as it was leaves all above as it is. -/
theorem lfillZ_same : ∀ {z : List Fr} {t u : Tr}, Lef (fillZ z t) → spine u = spine t → lfillZ z u = fillZ z u
  | [], _, _, _, _ => rfl
  | f :: z, t, u, h, e => by
    show lfillZ z (lsit f u) = fillZ z (sit f u)
    rw [lsit_same (lefZ (z := z) h) e]
    exact lfillZ_same (z := z) h (sit_spine e)
/-! ### ranks -/
/-- Each slot's rank is how long the way to the right is. -/
def Ranked (r : Int → Int) : Tr → Prop
  | nil => True
  | node x a b => r x = spine b + 1 ∧ Ranked r a ∧ Ranked r b
theorem ranked_congr {r r' : Int → Int} : ∀ {t : Tr}, (∀ x ∈ t.slots, r' x = r x) → Ranked r t → Ranked r' t
  | nil, _, _ => trivial
  | node x a b, h, hr => ⟨by rw [h x (by simp [slots])]; exact hr.1, ranked_congr (fun y hy => h y (by simp [slots, hy])) hr.2.1, ranked_congr (fun y hy => h y (by simp [slots, hy])) hr.2.2⟩
theorem ranked_top {r : Int → Int} {t : Tr} {x : Int} (h : Ranked r t) (e : t.top = some x) : r x = spine t := by
  obtain ⟨a, b, rfl⟩ := top_node e
  exact h.1
theorem ranked_sit {r : Int → Int} {f : Fr} {t : Tr} : Ranked r (sit f t) ↔ r f.x = spine (sit f t) ∧ Ranked r f.o ∧ Ranked r t := by
  obtain ⟨s, x, o⟩ := f
  cases s
  · exact ⟨fun ⟨h1, h2, h3⟩ => ⟨h1, h3, h2⟩, fun ⟨h1, h2, h3⟩ => ⟨h1, h3, h2⟩⟩
  · exact Iff.rfl
/-- .. above a place, in which is a tree as long as t. -/
def RankZ (r : Int → Int) : List Fr → Tr → Prop
  | [], _ => True
  | f :: z, t => r f.x = spine (sit f t) ∧ Ranked r f.o ∧ RankZ r z (sit f t)
theorem ranked_fill {r : Int → Int} : ∀ {z : List Fr} {t : Tr}, Ranked r (fillZ z t) ↔ Ranked r t ∧ RankZ r z t
  | [], t => ⟨fun h => ⟨h, trivial⟩, fun h => h.1⟩
  | f :: z, t => by
    show Ranked r (fillZ z (sit f t)) ↔ _
    rw [ranked_fill (z := z), ranked_sit]
    exact ⟨fun ⟨⟨h1, h2, h3⟩, h4⟩ => ⟨h3, h1, h2, h4⟩, fun ⟨h3, h1, h2, h4⟩ => ⟨⟨h1, h2, h3⟩, h4⟩⟩
theorem rankZ_same {r : Int → Int} : ∀ {z : List Fr} {t u : Tr}, spine u = spine t → RankZ r z t → RankZ r z u
  | [], _, _, _, _ => trivial
  | f :: z, t, u, e, h => ⟨by rw [sit_spine e]; exact h.1, h.2.1, rankZ_same (z := z) (sit_spine e) h.2.2⟩
theorem rankZ_congr {r r' : Int → Int} : ∀ {z : List Fr} {t : Tr}, (∀ x ∈ zs z, r' x = r x) → RankZ r z t → RankZ r' z t
  | [], _, _, _ => trivial
  | f :: z, t, h, hr => ⟨by rw [h f.x (by simp [zs])]; exact hr.1, ranked_congr (fun y hy => h y (by simp [zs, hy])) hr.2.1, rankZ_congr (fun y hy => h y (by simp [zs, hy])) hr.2.2⟩
theorem ranked_mk {r : Int → Int} {x : Int} {a b : Tr} (h : r x = spine (mk x a b)) (ha : Ranked r a) (hb : Ranked r b) : Ranked r (mk x a b) := by
  unfold mk at *
  split
  · rename_i e; rw [if_pos e] at h; exact ⟨h, hb, ha⟩
  · rename_i e; rw [if_neg e] at h; exact ⟨h, ha, hb⟩
/-- The way to the right: the first one is the top, each stands over the next one, ranks fall by one. -/
theorem side_ranked {r : Int → Int} : ∀ {t : Tr}, Ranked r t → ∀ i (h : i < t.side.length), r t.side[i] = t.side.length - i
  | nil, _, i, h => by simp [side] at h
  | node x l b, hr, 0, _ => by
    show r x = _
    rw [hr.1, ← side_len]
    simp [side]
  | node x l b, hr, i + 1, h => by
    have := side_ranked hr.2.2 i (by simpa [side] using h)
    simp only [side, List.getElem_cons_succ, List.length_cons]
    rw [this]
    omega
theorem side_ahead {lt : Int → Int → Bool} : ∀ {t : Tr}, Ok lt t → ∀ i (h : i + 1 < t.side.length), lt (t.side[i + 1]'h) (t.side[i]'(by omega)) = false
  | nil, _, i, h => by simp [side] at h
  | node x l b, hk, 0, h => by
    cases b with
    | nil => simp [side] at h
    | node y l' b' => exact hk.2.1 y (by simp [slots])
  | node x l b, hk, i + 1, h => side_ahead hk.2.2.2 i (by simpa [side] using h)
theorem side_sub : ∀ (t : Tr), ∀ y ∈ t.side, y ∈ t.slots
  | nil, y, h => h
  | node x l b, y, h => by
    simp only [side, List.mem_cons] at h
    simp only [slots, List.mem_cons, List.mem_append]
    rcases h with h | h
    · exact Or.inl h
    · exact Or.inr (Or.inr (side_sub b y h))
theorem side_nodup : ∀ (t : Tr), t.slots.Nodup → t.side.Nodup
  | nil, h => h
  | node x l b, h => by
    simp only [slots, List.nodup_cons, List.nodup_append, List.mem_append] at h
    simp only [side, List.nodup_cons]
    exact ⟨fun hx => h.1 (Or.inr (side_sub b x hx)), side_nodup b h.2.2.1⟩
end Tr
end Go.Proofs.Ythjelmbicnbhiaa

namespace Go.Proofs.Ythjelmbicnbhiaa

/-- What a row of ranks says of a slot. -/
def rkL (R : List Int) (x : Int) : Int := if 0 ≤ x then R.getD x.toNat 0 else 0
theorem rk_set {R : List Int} {n : Nat} (hR : R.length = n) {x : Nat} (hx : x < n) (v y : Int) : rkL (R.set x v) y = if y = x then v else rkL R y := by
  unfold rkL
  by_cases h : 0 ≤ y
  · obtain ⟨j, rfl⟩ : ∃ j : Nat, y = j := ⟨y.toNat, by omega⟩
    simp only [h, if_true, Int.toNat_natCast, List.getD_eq_getElem?_getD, List.getElem?_set]
    by_cases e : x = j
    · subst e; simp [hR, hx]
    · rw [if_neg e, if_neg (by omega)]
  · rw [if_neg h, if_neg h, if_neg (by omega)]
/-- The tree t stands by itself. -/
structure Stands (L : List Hg) (r : Int → Int) (t : Tr) : Prop where
  rep : RepT (kidL L) t.top t
  rank : Tr.Ranked r t
  lef : Tr.Lef t
  root : ∀ x, t.top = some x → upL L x = none
  nodup : t.slots.Nodup
/-- All but the slots S are as they were. -/
structure SameL (S : List Int) (L L' : List Hg) (r r' : Int → Int) : Prop where
  kid : ∀ z, z ∉ S → ∀ s, kidL L' z s = kidL L z s
  up : ∀ z, z ∉ S → upL L' z = upL L z
  rk : ∀ z, z ∉ S → r' z = r z
section
variable {S S' : List Int} {L L' L'' : List Hg} {r r' r'' : Int → Int} {t : Tr}
theorem SameL.refl (S : List Int) (L : List Hg) (r : Int → Int) : SameL S L L r r := ⟨fun _ _ _ => rfl, fun _ _ => rfl, fun _ _ => rfl⟩
theorem SameL.trans (h : SameL S L L' r r') (h2 : SameL S L' L'' r' r'') : SameL S L L'' r r'' :=
  ⟨fun z hz s => (h2.kid z hz s).trans (h.kid z hz s), fun z hz => (h2.up z hz).trans (h.up z hz), fun z hz => (h2.rk z hz).trans (h.rk z hz)⟩
theorem SameL.mono (h : SameL S L L' r r') (hs : ∀ z ∈ S, z ∈ S') : SameL S' L L' r r' :=
  ⟨fun z hz => h.kid z fun h => hz (hs z h), fun z hz => h.up z fun h => hz (hs z h), fun z hz => h.rk z fun h => hz (hs z h)⟩
theorem Stands.nil (L : List Hg) (r : Int → Int) : Stands L r .nil := ⟨rfl, trivial, trivial, fun x h => (by cases h), List.nodup_nil⟩
theorem Stands.same (h : Stands L r t) (hs : SameL S L L' r r') (hd : ∀ x ∈ t.slots, x ∉ S) : Stands L' r' t :=
  ⟨rep_congr (fun x hx s => hs.kid x (hd x hx) s) h.rep, Tr.ranked_congr (fun x hx => hs.rk x (hd x hx)) h.rank, h.lef, fun x hx => by rw [hs.up x (hd x (Tr.top_in hx))]; exact h.root x hx, h.nodup⟩
theorem Stands.rep' (h : Stands L r t) {x : Int} (hx : t.top = some x) : RepT (kidL L) (some x) t := by rw [← hx]; exact h.rep
/-- All trees stand; what is in none hangs nowhere. -/
structure LefInv (Ts : Nat → Tr) (L : List Hg) (r : Int → Int) : Prop where
  all : ∀ h, Stands L r (Ts h)
  alone : ∀ x, (∀ h, x ∉ (Ts h).slots) → upL L x = none ∧ ∀ s, kidL L x s = none
theorem lefinv_new (r : Int → Int) : LefInv (fun _ => .nil) [] r := ⟨fun _ => Stands.nil _ _, fun _ _ => ⟨rfl, fun _ => rfl⟩⟩
theorem LefInv.change {Ts Ts' : Nat → Tr} (I : LefInv Ts L r) (hs : SameL S L L' r r') (h1 : ∀ g, Stands L' r' (Ts' g) ∨ (Ts' g = Ts g ∧ ∀ x ∈ (Ts g).slots, x ∉ S))
    (h2 : ∀ x ∈ S, (∃ g, x ∈ (Ts' g).slots) ∨ (upL L' x = none ∧ ∀ s, kidL L' x s = none)) (h3 : ∀ g x, x ∈ (Ts g).slots → x ∉ S → ∃ g', x ∈ (Ts' g').slots) : LefInv Ts' L' r' := by
  refine ⟨fun g => ?_, fun x hx => ?_⟩
  · rcases h1 g with h | ⟨h, hd⟩
    · exact h
    · rw [h]; exact (I.all g).same hs hd
  · by_cases hS : x ∈ S
    · rcases h2 x hS with ⟨g, hg⟩ | h
      · exact absurd hg (hx g)
      · exact h
    · have h4 := I.alone x fun g hg => by
        obtain ⟨g', hg'⟩ := h3 g x hg hS
        exact hx g' hg'
      exact ⟨by rw [hs.up x hS]; exact h4.1, fun s => by rw [hs.kid x hS s]; exact h4.2 s⟩
/-- One heap's tree becomes another one. -/
theorem LefInv.upd {Ts : Nat → Tr} (I : LefInv Ts L r) (h : Nat) {T : Tr} (hs : SameL S L L' r r') (hT : Stands L' r' T) (hd : ∀ g, g ≠ h → ∀ x ∈ (Ts g).slots, x ∉ S)
    (h2 : ∀ x ∈ S, x ∈ T.slots ∨ (upL L' x = none ∧ ∀ s, kidL L' x s = none)) (h3 : ∀ x ∈ (Ts h).slots, x ∈ S) : LefInv (updT Ts h T) L' r' := by
  refine I.change hs (fun g => ?_) (fun x hx => ?_) (fun g x hg hx => ?_)
  · by_cases e : g = h
    · left; rw [e, updT_at]; exact hT
    · right; rw [updT_ne _ _ e]; exact ⟨rfl, hd g e⟩
  · rcases h2 x hx with h4 | h4
    · exact Or.inl ⟨h, by rw [updT_at]; exact h4⟩
    · exact Or.inr h4
  · by_cases e : g = h
    · rw [e] at hg; exact absurd (h3 x hg) hx
    · exact ⟨g, by rw [updT_ne _ _ e]; exact hg⟩
/-- Where a slot stands in a tree that stands. -/
theorem Stands.at' {z : List Fr} {x : Int} {a b : Tr} (h : Stands L r (Tr.fillZ z (.node x a b))) :
    RepT (kidL L) (kidL L x false) a ∧ RepT (kidL L) (kidL L x true) b ∧ RepZ (kidL L) (Tr.fillZ z (.node x a b)).top z (some x) ∧ Tr.Ranked r a ∧ Tr.Ranked r b ∧ r x = Tr.spine b + 1 ∧ Tr.RankZ r z (.node x a b) ∧ Tr.Lef a ∧ Tr.Lef b := by
  have h1 := rep_fill.1 h.rep
  have h2 := Tr.ranked_fill.1 h.rank
  have h3 : Tr.Lef (.node x a b) := Tr.lefZ h.lef
  exact ⟨h1.1.2.1, h1.1.2.2, h1.2, h2.1.2.1, h2.1.2.2, h2.1.1, h2.2, h3.2.1, h3.2.2⟩
end
section
variable {n : Nat} {L : List Hg}
/-- The topmost of a tree by itself hangs below nothing; others hang below their frame's. -/
theorem up_frame (I : GInv n L) {f : Fr} {z : List Fr} {x : Int} {root : Option Int} (h : RepZ (kidL L) root (f :: z) (some x)) : upL L x = some f.x := I.up_kid.2 ⟨f.s, h.1⟩
theorem kid_up {I : GInv n L} {p x : Int} {s : Bool} (h : kidL L p s = some x) : upL L x = some p := I.up_kid.2 ⟨s, h⟩
end
end Go.Proofs.Ythjelmbicnbhiaa

namespace Go.Proofs.Ythjelmbicnbhiaa
open Go.RowKit Go.Sort

/-- A call on an object whose blocks are F: nothing else that was there has turned; its blocks are now F', old ones of its own or new. -/
structure Moved (F F' : Nat → Prop) (w w' : World) : Prop where
  keeps : Keeps F w w'
  grow : ∀ k, F' k → F k ∨ w.heap.size ≤ k
theorem Moved.refl (F : Nat → Prop) (w : World) : Moved F F w w := ⟨Keeps.refl _ _, fun _ h => Or.inl h⟩
theorem Moved.trans {F G H : Nat → Prop} {a b c : World} (h : Moved F G a b) (k : Moved G H b c) : Moved F H a c :=
  ⟨h.keeps.trans k.keeps (fun i hi hg => by rcases h.grow i hg with h1 | h1; exact h1; omega),
   fun i hi => by
    rcases k.grow i hi with h1 | h1
    · exact h.grow i h1
    · exact Or.inr (Nat.le_trans h.keeps.size h1)⟩
theorem Moved.of_below {F : Nat → Prop} {a b : World} (h : Below a.heap.size a b) : Moved F F a b := ⟨Keeps.of_below_all h F, fun _ h => Or.inl h⟩
/-- What lies below all of an object's blocks is as it was. -/
theorem Moved.below {F F' : Nat → Prop} {w w' : World} (h : Moved F F' w w') {B : Nat} (hB : B ≤ w.heap.size) (hF : ∀ k, F k → B ≤ k) : Below B w w' := h.keeps.below hB hF
/-- Two objects that share no block share none behind a call on one of them. -/
theorem Moved.apart {F F' G : Nat → Prop} {w w' : World} (h : Moved F F' w w') (hG : ∀ k, G k → k < w.heap.size) (hd : ∀ k, F k → ¬ G k) : ∀ k, F' k → ¬ G k := by
  intro k hk hg
  rcases h.grow k hk with h1 | h1
  · exact hd k h1 hg
  · have := hG k hg; omega

/-- The blocks of a row. -/
def rowF (v : Value) : Nat → Prop := fun k => v.ownBlock = some k
/-- An owned row under a call that has turned other blocks alone. -/
theorem owns_keeps {F : Nat → Prop} {w w' : World} {base : Nat} {e : TypeId} {size : Nat} {v : Value} {n : Nat} {xs : List Value} (h : w.ownsRow base e size v n xs) (k : Keeps F w w') (hn : ∀ b, rowF v b → ¬ F b) : w'.ownsRow base e size v n xs := owns_keep h k hn
theorem owns_same {w w' : World} (hh : w'.heap = w.heap) {base : Nat} {e : TypeId} {size : Nat} {v : Value} {n : Nat} {xs : List Value} (h : w.ownsRow base e size v n xs) : w'.ownsRow base e size v n xs := by
  unfold World.ownsRow at *; rw [hh]; exact h
theorem owns_set_other {w : World} {base : Nat} {e : TypeId} {size : Nat} {v : Value} {n : Nat} {xs : List Value} (h : w.ownsRow base e size v n xs) {a : Addr} (ha : v.ownBlock ≠ some a.block) (u : Value) : (w.setCell a u).ownsRow base e size v n xs :=
  owns_keep h (Keeps.setCell (Keeps.refl (· = a.block) w) a (Or.inl rfl) u) (fun b hb e => ha (by rw [hb, e]))
/-- A row's value is a slice of that length. -/
theorem owns_form {w : World} {base : Nat} {e : TypeId} {size : Nat} {v : Value} {n : Nat} {xs : List Value} (h : w.ownsRow base e size v n xs) : ∃ a cap, v = .slice a n cap ∧ n ≤ cap ∧ cap ≤ maxLen := by
  obtain ⟨_, ⟨rfl, rfl⟩ | ⟨g, cap, cur, hv, hg, hh, hle, hmax, _⟩⟩ := h
  · exact ⟨none, 0, rfl, Nat.le_refl _, by decide⟩
  · exact ⟨_, cap, hv, hle, hmax⟩
theorem grown_keeps {w w' : World} {v : Value} (h : w.grownBy w' v.ownBlock) : Keeps (rowF v) w w' := ⟨h.os, h.tape, h.output, h.size, fun k hk hn => h.block k hk (fun e => hn e.symm)⟩
theorem new_cells' (w : World) (c : Array Value) (t : TypeId) (news : List Value) (H : Nat) (hH : w.heap.size = H) (h : news = c.toList) : ∀ j u, news[j]? = some u → (w.alloc (.cells c t)).cell? ((⟨H, 0, none⟩ : Addr).add j) = some u := by
  subst hH; exact new_cells w c t news h
theorem size_alloc (w : World) (o : Obj) : (w.alloc o).heap.size = w.heap.size + 1 := by show (w.heap.push _).size = _; simp
end Go.Proofs.Ythjelmbicnbhiaa

namespace Go.Proofs.Ythjelmbicnbhiaa
open Go.RowKit

section
variable {α : Type} (f : α → List Value) (z : Nat) (hf : ∀ a, (f a).length = z)
/-- A list as cells. -/
def cellsBy (l : List α) : List Value := l.flatMap f
theorem cellsBy_nil : cellsBy f [] = [] := rfl
theorem cellsBy_cons (a : α) (l : List α) : cellsBy f (a :: l) = f a ++ cellsBy f l := rfl
theorem cellsBy_append (a b : List α) : cellsBy f (a ++ b) = cellsBy f a ++ cellsBy f b := by simp [cellsBy]
theorem cellsBy_one (a : α) : cellsBy f [a] = f a := by simp [cellsBy]
include hf
theorem cellsBy_length (l : List α) : (cellsBy f l).length = l.length * z := by
  induction l with
  | nil => simp [cellsBy]
  | cons a r ih => rw [cellsBy_cons, List.length_append, ih, hf, List.length_cons, Nat.add_mul]; omega
theorem cellsBy_get (d : α) (l : List α) (i j : Nat) (hi : i < l.length) (hj : j < z) : (cellsBy f l)[i * z + j]? = (f (l.getD i d))[j]? := by
  induction l generalizing i with
  | nil => simp at hi
  | cons a r ih =>
    rw [cellsBy_cons]
    cases i with
    | zero => rw [Nat.zero_mul, Nat.zero_add, List.getElem?_append_left (by rw [hf]; exact hj)]; simp
    | succ i =>
      rw [List.getElem?_append_right (by rw [hf, Nat.add_mul]; omega), hf]
      have : (i + 1) * z + j - z = i * z + j := by rw [Nat.add_mul]; omega
      rw [this, ih i (by simpa using hi), List.getD_cons_succ]
theorem cellsBy_take (l : List α) (k : Nat) : (cellsBy f l).take (k * z) = cellsBy f (l.take k) := by
  induction l generalizing k with
  | nil => simp [cellsBy]
  | cons a r ih =>
    cases k with
    | zero => simp [cellsBy]
    | succ k =>
      have e : (k + 1) * z = (f a).length + k * z := by rw [hf, Nat.add_mul]; omega
      rw [cellsBy_cons, List.take_succ_cons, cellsBy_cons, e, List.take_length_add_append, ih]
theorem cellsBy_drop (l : List α) (k : Nat) : (cellsBy f l).drop (k * z) = cellsBy f (l.drop k) := by
  induction l generalizing k with
  | nil => simp [cellsBy]
  | cons a r ih =>
    cases k with
    | zero => simp [cellsBy]
    | succ k =>
      have e : (k + 1) * z = (f a).length + k * z := by rw [hf, Nat.add_mul]; omega
      rw [cellsBy_cons, List.drop_succ_cons, e, List.drop_length_add_append, ih]
/-- One cell of one thing turned: the thing turned. -/
theorem cellsBy_set (d : α) (l : List α) (i j : Nat) (u : Value) (a' : α) (hi : i < l.length) (hj : j < z) (ha : f a' = (f (l.getD i d)).set j u) : (cellsBy f l).set (i * z + j) u = cellsBy f (l.set i a') := by
  induction l generalizing i with
  | nil => simp at hi
  | cons a r ih =>
    rw [cellsBy_cons]
    cases i with
    | zero =>
      simp only [List.getD_cons_zero] at ha
      rw [Nat.zero_mul, Nat.zero_add, List.set_append_left _ _ (by rw [hf]; exact hj), List.set_cons_zero, cellsBy_cons, ha]
    | succ i =>
      have e : (i + 1) * z + j - z = i * z + j := by rw [Nat.add_mul]; omega
      rw [List.set_append_right _ _ (by rw [hf, Nat.add_mul]; omega), hf, e, List.set_cons_succ, cellsBy_cons, ih i (by simpa using hi) (by simpa using ha)]
end
/-- What one more gives. -/
theorem take_snocD {α : Type} (d : α) (l : List α) (k : Nat) (h : k < l.length) : l.take (k + 1) = l.take k ++ [l.getD k d] := by
  rw [List.take_succ_eq_append_getElem h]; simp [List.getD_eq_getElem?_getD, h]
theorem drop_consD {α : Type} (d : α) (l : List α) (k : Nat) (h : k < l.length) : l.drop k = l.getD k d :: l.drop (k + 1) := by
  rw [List.drop_eq_getElem_cons h]; simp [List.getD_eq_getElem?_getD, h]
theorem mem_getD' {α : Type} (l : List α) (i : Nat) (d : α) (h : i < l.length) : l.getD i d ∈ l := by
  simp [List.getD_eq_getElem?_getD, h]
theorem getD_set' {α : Type} (l : List α) (i j : Nat) (x d : α) (hi : i < l.length) : (l.set i x).getD j d = if i = j then x else l.getD j d := by
  simp only [List.getD_eq_getElem?_getD, List.getElem?_set]
  by_cases h : i = j
  · subst h; simp [hi]
  · simp [h]
theorem getD_snoc' {α : Type} (l : List α) (j : Nat) (x d : α) : (l ++ [x]).getD j d = if j = l.length then x else l.getD j d := by
  simp only [List.getD_eq_getElem?_getD, List.getElem?_append]
  by_cases h : j < l.length
  · simp [h]; omega
  · by_cases h2 : j = l.length
    · subst h2; simp
    · have h3 : l.length < j := by omega
      simp only [h, if_false, h2]
      rw [List.getElem?_eq_none (by simp; omega), List.getElem?_eq_none (by omega)]
/-- A row that isn't empty: its block, and each cell of each thing. -/
theorem owns_at {α : Type} {f : α → List Value} {z : Nat} (hf : ∀ a, (f a).length = z) (d : α) {w : World} {base : Nat} {e : TypeId} {v : Value} {n : Nat} {l : List α} (h : w.ownsRow base e z v n (cellsBy f l)) (hl : l.length = n) (hn : 0 < n) :
    ∃ g cap, v = .slice (some ⟨g, 0, none⟩) n cap ∧ n ≤ cap ∧ cap ≤ maxLen ∧ base ≤ g ∧ g < w.heap.size ∧ (∀ i j u, i < n → j < z → (f (l.getD i d))[j]? = some u → w.cell? ⟨g, i * z + j, none⟩ = some u) ∧ ∀ o, w.frozen? ⟨g, o, none⟩ = false := by
  obtain ⟨g, cap, hv, h1, h2, h3, h4, hc⟩ := owns_slice h hn
  subst hv
  exact ⟨g, cap, rfl, h1, h2, h3, h4, fun i j u hi hj hu => hc _ _ (by rw [cellsBy_get f z hf d l i j (by omega) hj]; exact hu), fun o => h.frozenAt o⟩
/-- One cell of an owned row is written. -/
theorem owns_write {α : Type} {f : α → List Value} {z : Nat} (hf : ∀ a, (f a).length = z) (d : α) {w : World} {base : Nat} {e : TypeId} {g n cap : Nat} {l : List α} (h : w.ownsRow base e z (.slice (some ⟨g, 0, none⟩) n cap) n (cellsBy f l)) (hl : l.length = n) {i j : Nat} {u : Value} {a' : α} (hi : i < n) (hj : j < z)
    (ha : f a' = (f (l.getD i d)).set j u) : (w.setCell ⟨g, i * z + j, none⟩ u).ownsRow base e z (.slice (some ⟨g, 0, none⟩) n cap) n (cellsBy f (l.set i a')) := by
  have := (h.stored (i * z + j) u).1
  rw [cellsBy_set f z hf d l i j u a' (by omega) hj ha] at this
  exact this
end Go.Proofs.Ythjelmbicnbhiaa
