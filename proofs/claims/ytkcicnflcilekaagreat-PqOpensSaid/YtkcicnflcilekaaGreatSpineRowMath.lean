/- Merged of TrMath, TrZip, TreeInv, TopsMath, SpineRowMath. -/
import Derived.Test.YtkcicnflcilekaaGreatSpineAllMath
import Derived.Test.YtkcicnflcilekaaGreatAsks
import Derived.Test.YtkcicnflcilekaaGreatNames
import Derived.Test.YtkcicnflcilekaaGreatRow
namespace Go.Proofs.YtkcicnflcilekaaGreat

/-- A tree of slots. -/
inductive Tr where
  | nil : Tr
  | node (x : Int) (l r : Tr) : Tr
namespace Tr
def size : Tr → Nat
  | nil => 0
  | node _ l r => size l + size r + 1
def slots : Tr → List Int
  | nil => []
  | node x l r => x :: (slots l ++ slots r)
/-- How long the way to the right is. -/
def spine : Tr → Nat
  | nil => 0
  | node _ _ r => spine r + 1
theorem size_slots : ∀ t : Tr, t.slots.length = t.size
  | nil => rfl
  | node x l r => by simp [slots, size, size_slots l, size_slots r]
/-! ### a tree within another one -/
/-! ### none is ahead of that above it -/
def top : Tr → Option Int
  | nil => none
  | node x _ _ => some x
def Under (lt : Int → Int → Bool) (x : Int) (t : Tr) : Prop := ∀ y ∈ t.slots, lt y x = false
def Ok (lt : Int → Int → Bool) : Tr → Prop
  | nil => True
  | node x l r => Under lt x l ∧ Under lt x r ∧ Ok lt l ∧ Ok lt r
end Tr
/-- What hangs where is the tree t. -/
def RepT (kid : Int → Bool → Option Int) : Option Int → Tr → Prop
  | o, .nil => o = none
  | o, .node x l r => o = some x ∧ RepT kid (kid x false) l ∧ RepT kid (kid x true) r
theorem rep_congr {kid kid' : Int → Bool → Option Int} : ∀ {t : Tr} {o : Option Int}, (∀ x ∈ t.slots, ∀ s, kid' x s = kid x s) → RepT kid o t → RepT kid' o t
  | .nil, _, _, h => h
  | .node x l r, o, hk, h => ⟨h.1, by rw [hk x (by simp [Tr.slots])]; exact rep_congr (fun y hy => hk y (by simp [Tr.slots, hy])) h.2.1, by rw [hk x (by simp [Tr.slots])]; exact rep_congr (fun y hy => hk y (by simp [Tr.slots, hy])) h.2.2⟩
section
variable {n : Nat} {L : List Hg}
theorem rep_all (I : GInv n L) : ∀ {t : Tr} {o : Option Int}, RepT (kidL L) o t → (∀ x, o = some x → inN n x) → o.elim [] (allL L n) = t.slots
  | .nil, o, h, _ => by rw [show o = none from h]; rfl
  | .node x l r, o, h, hin => by
    have hx := hin x h.1
    have hk : ∀ s y, kidL L x s = some y → inN n y := fun s y e => (kid_in I e).1
    rw [h.1]
    show allL L n x = _
    rw [all_eq I hx, rep_all I h.2.1 (hk false), rep_all I h.2.2 (hk true)]
    rfl
end
end Go.Proofs.YtkcicnflcilekaaGreat

namespace Go.Proofs.YtkcicnflcilekaaGreat

theorem rep_top {kid : Int → Bool → Option Int} : ∀ {t : Tr} {o : Option Int}, RepT kid o t → o = t.top
  | .nil, _, h => h
  | .node _ _ _, _, h => h.1
/-- What is above a place: is it at the right, what is above, and the other child. -/
structure Fr where
  s : Bool
  x : Int
  o : Tr
namespace Tr
def sit (f : Fr) (t : Tr) : Tr := if f.s then node f.x f.o t else node f.x t f.o
def fillZ : List Fr → Tr → Tr
  | [], t => t
  | f :: z, t => fillZ z (sit f t)
def zs : List Fr → List Int
  | [] => []
  | f :: z => f.x :: (f.o.slots ++ zs z)
theorem sit_perm (f : Fr) (t : Tr) : (sit f t).slots.Perm (f.x :: (t.slots ++ f.o.slots)) := by
  unfold sit; split
  · exact List.perm_append_comm.cons _
  · exact List.Perm.refl _
theorem sit_top (f : Fr) (t : Tr) : (sit f t).top = some f.x := by unfold sit; split <;> rfl
theorem fillZ_perm : ∀ (z : List Fr) (t : Tr), (fillZ z t).slots.Perm (t.slots ++ zs z)
  | [], t => by simp [fillZ, zs]
  | f :: z, t => by
    have h1 := fillZ_perm z (sit f t)
    have h2 := sit_perm f t
    rw [List.perm_iff_count] at *
    intro y
    have h1 := h1 y
    have h2 := h2 y
    simp only [fillZ, zs, List.count_append, List.count_cons] at h1 h2 ⊢
    omega
theorem zip_top : ∀ (z : List Fr) (f : Fr) (t u : Tr), (fillZ (f :: z) t).top = (fillZ (f :: z) u).top
  | [], f, t, u => (sit_top f t).trans (sit_top f u).symm
  | g :: z, f, t, u => zip_top z g (sit f t) (sit f u)
theorem zip_top_in : ∀ (z : List Fr) (f : Fr) (t : Tr), ∃ y ∈ zs (f :: z), (fillZ (f :: z) t).top = some y
  | [], f, t => ⟨f.x, by simp [zs], sit_top f t⟩
  | g :: z, f, t => by
    obtain ⟨y, h1, h2⟩ := zip_top_in z g (sit f t)
    exact ⟨y, by rw [zs]; exact List.mem_cons_of_mem _ (List.mem_append_right _ h1), h2⟩
theorem top_in {t : Tr} {x : Int} (h : t.top = some x) : x ∈ t.slots := by
  cases t with
  | nil => cases h
  | node y a b => cases h; simp [slots]
theorem top_node {t : Tr} {x : Int} (h : t.top = some x) : ∃ l r, t = node x l r := by
  cases t with
  | nil => cases h
  | node y a b => cases h; exact ⟨a, b, rfl⟩
end Tr
/-- What hangs where, above a place in which o hangs (none: nothing hangs there); root: what is topmost. -/
def RepZ (kid : Int → Bool → Option Int) (root : Option Int) : List Fr → Option Int → Prop
  | [], o => o = root
  | f :: z, o => kid f.x f.s = o ∧ RepT kid (kid f.x (!f.s)) f.o ∧ RepZ kid root z (some f.x)
theorem rep_sit {kid : Int → Bool → Option Int} {f : Fr} {t : Tr} {o : Option Int} : RepT kid o (Tr.sit f t) ↔ o = some f.x ∧ RepT kid (kid f.x f.s) t ∧ RepT kid (kid f.x (!f.s)) f.o := by
  obtain ⟨s, x, u⟩ := f
  cases s
  · exact Iff.rfl
  · exact ⟨fun ⟨h1, h2, h3⟩ => ⟨h1, h3, h2⟩, fun ⟨h1, h3, h2⟩ => ⟨h1, h2, h3⟩⟩
theorem rep_fill {kid : Int → Bool → Option Int} {root : Option Int} : ∀ {z : List Fr} {t : Tr}, RepT kid root (Tr.fillZ z t) ↔ RepT kid t.top t ∧ RepZ kid root z t.top
  | [], t => ⟨fun h => by have e := rep_top h; subst e; exact ⟨h, rfl⟩, fun ⟨h1, h2⟩ => by rw [← show t.top = root from h2]; exact h1⟩
  | f :: z, t => by
    show RepT kid root (Tr.fillZ z (Tr.sit f t)) ↔ _
    rw [rep_fill (z := z), rep_sit, Tr.sit_top]
    constructor
    · rintro ⟨⟨_, h1, h2⟩, h3⟩
      have e := rep_top h1
      rw [e] at h1
      exact ⟨h1, e, h2, h3⟩
    · rintro ⟨h1, h2, h3, h4⟩
      exact ⟨⟨rfl, by rw [h2]; exact h1, h3⟩, h4⟩
theorem repZ_congr {kid kid' : Int → Bool → Option Int} {root : Option Int} : ∀ {z : List Fr} {o : Option Int}, (∀ x ∈ Tr.zs z, ∀ s, kid' x s = kid x s) → RepZ kid root z o → RepZ kid' root z o
  | [], _, _, h => h
  | f :: z, o, hk, h => ⟨by rw [hk f.x (by simp [Tr.zs])]; exact h.1, by rw [hk f.x (by simp [Tr.zs])]; exact rep_congr (fun y hy => hk y (by simp [Tr.zs, hy])) h.2.1, repZ_congr (fun y hy => hk y (by simp [Tr.zs, hy])) h.2.2⟩
/-- .. where something else hangs in the place. -/
theorem repZ_place {kid kid' : Int → Bool → Option Int} {root : Option Int} {f : Fr} {z : List Fr} {o : Option Int} (hn : f.x ∉ f.o.slots ∧ f.x ∉ Tr.zs z) (h1 : kid' f.x (!f.s) = kid f.x (!f.s)) (hk : ∀ x, x ≠ f.x → ∀ s, kid' x s = kid x s) (h : RepZ kid root (f :: z) o) : RepZ kid' root (f :: z) (kid' f.x f.s) :=
  ⟨rfl, by rw [h1]; exact rep_congr (fun y hy => hk y fun e => hn.1 (by rw [← e]; exact hy)) h.2.1, repZ_congr (fun y hy => hk y fun e => hn.2 (by rw [← e]; exact hy)) h.2.2⟩
namespace Tr
variable {lt lt' : Int → Int → Bool}
theorem ok_congr : ∀ {t : Tr}, (∀ x ∈ t.slots, ∀ y ∈ t.slots, lt' x y = lt x y) → Ok lt t → Ok lt' t
  | nil, _, _ => trivial
  | node x l r, hk, h => ⟨fun y hy => by rw [hk y (by simp [slots, hy]) x (by simp [slots])]; exact h.1 y hy, fun y hy => by rw [hk y (by simp [slots, hy]) x (by simp [slots])]; exact h.2.1 y hy,
    ok_congr (fun a ha b hb => hk a (by simp [slots, ha]) b (by simp [slots, hb])) h.2.2.1, ok_congr (fun a ha b hb => hk a (by simp [slots, ha]) b (by simp [slots, hb])) h.2.2.2⟩
end Tr
end Go.Proofs.YtkcicnflcilekaaGreat

namespace Go.Proofs.YtkcicnflcilekaaGreat

/-- The trees Ts are those of the nest W. -/
structure TInv (W : WS) (Ts : Nat → Tr) : Prop where
  mem : ∀ h x, 1 ≤ h → (x ∈ (Ts h).slots ↔ (cellW W x).home = h)
  zero : Ts 0 = .nil
  nodup : ∀ h, (Ts h).slots.Nodup
  ok : ∀ h, Tr.Ok (aheadW W) (Ts h)
def updT (g : Nat → Tr) (h : Nat) (t : Tr) : Nat → Tr := fun i => if i = h then t else g i
theorem updT_at (g : Nat → Tr) (h : Nat) (t : Tr) : updT g h t h = t := by simp [updT]
theorem updT_ne (g : Nat → Tr) {h i : Nat} (t : Tr) (e : i ≠ h) : updT g h t i = g i := by simp [updT, e]
/-- What isn't ahead of what isn't ahead. -/
theorem ahead_neg {W : WS} {x y z : Int} (hx : inW W x = true) (hy : inW W y = true) (_hz : inW W z = true) (h1 : aheadW W x y = false) (h2 : aheadW W y z = false) : aheadW W x z = false := by
  cases h : aheadW W x z with
  | false => rfl
  | true =>
    by_cases e : x = y
    · subst e; rw [h2] at h; cases h
    · have h3 := dahead_trans (dahead_total hx hy e h1) h
      rw [h2] at h3; cases h3
theorem ahead_asym {W : WS} {x y : Int} (h : aheadW W x y = true) : aheadW W y x = false := by
  cases h2 : aheadW W y x with
  | false => rfl
  | true => have := dahead_trans h h2; rw [dahead_irr] at this; cases this
theorem tok_same {W W' : WS} {t : Tr} (hk : Tr.Ok (aheadW W) t) (h : ∀ x ∈ t.slots, cellW W' x = cellW W x) : Tr.Ok (aheadW W') t :=
  Tr.ok_congr (fun a ha b hb => dahead_same (h a ha) (h b hb)) hk
section
variable {W : WS} {Ts : Nat → Tr}
theorem TInv.in' (I : TInv W Ts) {h : Nat} {x : Int} (hx : x ∈ (Ts h).slots) : 1 ≤ h ∧ (cellW W x).home = h ∧ inW W x = true ∧ ∃ k : Nat, x = k ∧ k < W.cells.length ∧ homeAt W k = h := by
  by_cases e : h = 0
  · subst e; rw [I.zero] at hx; simp [Tr.slots] at hx
  · have h1 := (I.mem h x (by omega)).1 hx
    obtain ⟨k, h2, h3, h4, h5⟩ := dcell_in (by omega) h1
    exact ⟨by omega, h1, h5, k, h2, h3, h4⟩
theorem TInv.one (I : TInv W Ts) {g h : Nat} {x : Int} (h1 : x ∈ (Ts g).slots) (h2 : x ∈ (Ts h).slots) : g = h := by
  rw [← (I.in' h1).2.1, (I.in' h2).2.1]
theorem TInv.size (I : TInv W Ts) (h : Nat) (hp : 1 ≤ h) : (Ts h).size = lenW W h := by
  have hl : lenW W h = ((List.range W.cells.length).filter fun x => homeAt W x == h).length := by
    unfold lenW
    rw [if_pos (by omega), ← List.countP_eq_length_filter]
    have e : W.cells = (List.range W.cells.length).map fun x => W.cells.getD x .off := by
      apply List.ext_getElem
      · simp
      · intro n h1 h2
        simp [List.getD_eq_getElem?_getD, h1]
    conv => lhs; rw [e]
    rw [List.countP_map]
    refine List.countP_congr fun x _ => ?_
    simp only [Function.comp, homeAt, beq_iff_eq]
    omega
  rw [← Tr.size_slots, hl, ← List.length_map (f := fun i : Nat => (i : Int))]
  refine List.Perm.length_eq ((List.perm_ext_iff_of_nodup (I.nodup h) ?_).2 fun x => ?_)
  · rw [List.nodup_iff_pairwise_ne, List.pairwise_map]
    exact (List.nodup_range.filter _).imp (fun h e => h (by omega))
  · rw [List.mem_map]
    constructor
    · intro hx
      obtain ⟨_, _, _, k, h2, h3, h4⟩ := I.in' hx
      exact ⟨k, by rw [List.mem_filter, List.mem_range]; exact ⟨h3, by simp [h4]⟩, h2.symm⟩
    · rintro ⟨k, hk, rfl⟩
      rw [List.mem_filter, List.mem_range] at hk
      rw [I.mem h _ hp, cell_nat W k hk.1]
      have := hk.2
      simp only [beq_iff_eq] at this
      exact this
theorem TInv.empty (I : TInv W Ts) {h : Nat} (hp : 1 ≤ h) : Ts h = .nil ↔ lenW W h = 0 := by
  rw [← I.size h hp]
  cases Ts h <;> simp [Tr.size]
/-- The topmost slot is ahead of all others. -/
theorem TInv.min (I : TInv W Ts) {h : Nat} {x : Int} (hx : (Ts h).top = some x) : ∃ k : Nat, x = k ∧ IsMin W h k := by
  obtain ⟨h1, _, _, k, h2, h3, h4⟩ := I.in' (Tr.top_in hx)
  refine ⟨k, h2, ⟨h3, by omega, by omega, fun j hj hh hne => ?_⟩⟩
  have hm : (j : Int) ∈ (Ts h).slots := (I.mem h j h1).2 (by rw [cell_nat W j hj]; show homeAt W j = h; omega)
  have hin := (I.in' hm).2.2.1
  have hin2 := (I.in' (Tr.top_in hx)).2.2.1
  obtain ⟨l, r, e⟩ := Tr.top_node hx
  have hk := I.ok h
  rw [e] at hk hm
  simp only [Tr.slots, List.mem_cons, List.mem_append] at hm
  have h6 : aheadW W j x = false := by
    rcases hm with hm | hm | hm
    · exact absurd (show j = k by omega) hne
    · exact hk.1 j hm
    · exact hk.2.1 j hm
  have h7 := dahead_total hin hin2 (fun e2 : (j : Int) = x => hne (by omega)) h6
  rw [h2] at h7
  exact h7
theorem tinv_new (n : Nat) : TInv (newW n) (fun _ => .nil) := by
  refine ⟨fun h x hp => ?_, rfl, fun _ => List.nodup_nil, fun _ => trivial⟩
  simp only [Tr.slots, List.not_mem_nil, false_iff]
  intro e
  obtain ⟨k, _, h3, h4, _⟩ := dcell_in hp e
  simp only [newW, List.length_replicate] at h3
  simp [homeAt, newW, List.getD_eq_getElem?_getD, h3, CellD.off] at h4
  omega
theorem TInv.congr {W' : WS} (I : TInv W Ts) (h1 : W'.cells = W.cells) : TInv W' Ts :=
  ⟨fun h x hp => by rw [dcells_eq h1]; exact I.mem h x hp, I.zero, I.nodup, fun h => tok_same (I.ok h) fun x _ => dcells_eq h1 x⟩
/-- One slot comes in. -/
theorem tinv_put (I : TInv W Ts) {h : Nat} {x k s : Int} (hp : putB W h x = true) (h1 : 1 ≤ h) :
    (∀ g, x ∉ (Ts g).slots) ∧ Tr.Ok (aheadW (putW W h x k s)) (Ts h) ∧ (∀ y ∈ (Ts h).slots, inW (putW W h x k s) y = true) ∧ inW (putW W h x k s) x = true ∧
    ∀ T, Tr.Ok (aheadW (putW W h x k s)) T → T.slots.Perm ((Ts h).slots ++ [x]) → TInv (putW W h x k s) (updT Ts h T) := by
  have hp' := hp
  simp only [putB, Bool.and_eq_true, Bool.not_eq_true'] at hp
  obtain ⟨_, h2, h3⟩ := hp
  obtain ⟨x', e, hx⟩ := slot_nat h2
  subst e
  have h0 : (cellW W x').home = 0 := by unfold inW at h3; simpa using h3
  have e1 : putW W h x' k s = ⟨W.heaps, W.cells.set x' ⟨h, k, s⟩⟩ := by simp [putW, hp']
  have hc : ∀ y, cellW (putW W h x' k s) y = if y = (x' : Int) then ⟨h, k, s⟩ else cellW W y := fun y => by rw [e1]; exact dcell_set W hx _ y
  have hnot : ∀ g, (x' : Int) ∉ (Ts g).slots := fun g hm => by
    have := I.in' hm
    omega
  have hsame : ∀ g, ∀ y ∈ (Ts g).slots, cellW (putW W h x' k s) y = cellW W y := fun g y hy => by
    rw [hc, if_neg (fun e : y = x' => hnot g (by rw [← e]; exact hy))]
  have hnd : ((Ts h).slots ++ [(x' : Int)]).Nodup := by
    rw [List.nodup_append]
    exact ⟨I.nodup h, by simp, fun a ha b hb e => hnot h (by rw [← List.mem_singleton.1 hb, ← e]; exact ha)⟩
  refine ⟨hnot, tok_same (I.ok h) (hsame h), fun y hy => ?_, ?_, fun T H Pm => ⟨fun g y hg => ?_, ?_, fun g => ?_, fun g => ?_⟩⟩
  · unfold inW; rw [hsame h y hy]; exact (I.in' hy).2.2.1
  · unfold inW; rw [hc, if_pos rfl]; exact bne_iff_ne.2 (by show h ≠ 0; omega)
  · rw [hc]
    unfold updT
    by_cases e : g = h
    · subst e
      rw [if_pos rfl, Pm.mem_iff, List.mem_append, List.mem_singleton, I.mem g y hg]
      by_cases e2 : y = x'
      · rw [if_pos e2]; simp [e2]
      · rw [if_neg e2]; simp [e2]
    · rw [if_neg e, I.mem g y hg]
      by_cases e2 : y = x'
      · rw [if_pos e2, e2, h0]; constructor
        · intro h; omega
        · intro h5; exact absurd h5.symm e
      · rw [if_neg e2]
  · unfold updT; rw [if_neg (by omega)]; exact I.zero
  · unfold updT
    by_cases e : g = h
    · rw [if_pos e]; exact Pm.nodup_iff.2 hnd
    · rw [if_neg e]; exact I.nodup g
  · unfold updT
    by_cases e : g = h
    · rw [if_pos e]; exact H
    · rw [if_neg e]; exact tok_same (I.ok g) (hsame g)
end
end Go.Proofs.YtkcicnflcilekaaGreat

namespace Go.Proofs.YtkcicnflcilekaaGreat

/-- What is topmost in each heap. -/
def topsT (Ts : Nat → Tr) (h : Int) : Option Int := if 0 ≤ h then (Ts h.toNat).top else none
theorem topsT_nat (Ts : Nat → Tr) (h : Nat) : topsT Ts h = (Ts h).top := by simp [topsT]
theorem topsT_upd (Ts : Nat → Tr) (h : Nat) (T : Tr) : topsT (updT Ts h T) = setZ (topsT Ts) h T.top := by
  funext i
  unfold topsT setZ updT
  by_cases e : i = h
  · subst e; simp
  · rw [if_neg e]
    by_cases hi : 0 ≤ i
    · have : i.toNat ≠ h := by omega
      simp [hi, this]
    · simp [hi]
/-- How many heaps have something in them. -/
def cntT (Ts : Nat → Tr) : Nat := (List.range 65537).countP fun h => (Ts h).top.isSome
theorem cntT_le (Ts : Nat → Tr) : cntT Ts ≤ 65537 := by
  have := List.countP_le_length (p := fun h => (Ts h).top.isSome) (l := List.range 65537)
  rw [List.length_range] at this
  exact this
theorem count_range (p p' : Nat → Bool) (h : Nat) (hp : ∀ i, i ≠ h → p' i = p i) : ∀ N, h < N → (List.range N).countP p' + (if p h then 1 else 0) = (List.range N).countP p + (if p' h then 1 else 0) := by
  have hlow : ∀ N, N ≤ h → (List.range N).countP p' = (List.range N).countP p := fun N hN => List.countP_congr fun i hi => by
    rw [List.mem_range] at hi
    rw [hp i (by omega)]
  intro N
  induction N with
  | zero => intro hN; omega
  | succ N ih =>
    intro hN
    rw [List.range_succ, List.countP_append, List.countP_append]
    simp only [List.countP_singleton]
    by_cases e : N = h
    · subst e
      rw [hlow N (Nat.le_refl _)]
      omega
    · have := ih (by omega)
      rw [hp N e]
      omega
theorem cntT_upd (Ts : Nat → Tr) {h : Nat} (hh : h < 65537) (T : Tr) : cntT (updT Ts h T) + (if (Ts h).top.isSome then 1 else 0) = cntT Ts + (if T.top.isSome then 1 else 0) := by
  have := count_range (fun h => (Ts h).top.isSome) (fun i => (updT Ts h T i).top.isSome) h (fun i hi => by rw [updT_ne _ _ hi]) 65537 hh
  simp only [updT_at] at this
  exact this
theorem cntT_put (Ts : Nat → Tr) {h : Nat} (hh : h < 65537) {T : Tr} (hT : T.top.isSome = true) : (if (topsT Ts h).isSome then cntT Ts else cntT Ts + 1) = cntT (updT Ts h T) := by
  have := cntT_upd Ts hh T
  rw [hT] at this
  rw [topsT_nat]
  cases h2 : (Ts h).top.isSome
  · rw [h2] at this; simp only [Bool.false_eq_true, if_false, if_true] at this ⊢; omega
  · rw [h2] at this; simp only [if_true] at this ⊢; omega
theorem lput_len (W : WS) (y x k q : Int) : (putW W y x k q).cells.length = W.cells.length := by
  unfold putW; split
  · simp
  · rfl
theorem in_n {W : WS} {n : Nat} (hW : W.cells.length = n) {x : Int} (h : inW W x = true) : ∃ i : Nat, x = i ∧ i < n := by
  obtain ⟨i, rfl, hi, _⟩ := in_nat h
  exact ⟨i, rfl, by omega⟩
theorem in_int64 {W : WS} (hf : W.Fit) {x : Int} (h : inW W x = true) : inInt x := by
  obtain ⟨i, rfl, hi, _⟩ := in_nat h
  have := hf.cap
  exact ⟨by omega, by omega⟩
end Go.Proofs.YtkcicnflcilekaaGreat

namespace Go.Proofs.YtkcicnflcilekaaGreat
open Go.RowKit

/-- What is next to a thing: above it, at its left, at its right; -1 is nothing. -/
structure Th where
  up : Int
  l : Int
  r : Int
def thC (t : Th) : List Value := [.int .i64 t.up, .int .i64 t.l, .int .i64 t.r]
theorem thC_len (t : Th) : (thC t).length = 3 := rfl
def Th.no : Th := ⟨-1, -1, -1⟩
def oI (o : Option Int) : Int := o.getD (-1)
def thOf (L : List Hg) (x : Int) : Th := ⟨oI (upL L x), oI (kidL L x false), oI (kidL L x true)⟩
def rawOf (n : Nat) (L : List Hg) : List Th := (List.range n).map fun i : Nat => thOf L i
theorem raw_len (n : Nat) (L : List Hg) : (rawOf n L).length = n := by simp [rawOf]
theorem raw_at {n : Nat} (L : List Hg) {i : Nat} (h : i < n) (d : Th) : (rawOf n L).getD i d = thOf L i := by
  simp [rawOf, List.getD_eq_getElem?_getD, h]
theorem th_ext {a b : List Th} {n : Nat} (ha : a.length = n) (hb : b.length = n) (h : ∀ i, i < n → a.getD i .no = b.getD i .no) : a = b := by
  apply List.ext_getElem (ha.trans hb.symm)
  intro i h1 h2
  have := h i (by omega)
  simpa [List.getD_eq_getElem?_getD, h1, h2] using this
theorem raw_new (n : Nat) : rawOf n [] = List.replicate n .no := by
  refine th_ext (raw_len _ _) (by simp) (fun i hi => ?_)
  rw [raw_at _ hi]
  simp [List.getD_eq_getElem?_getD, hi, thOf, upL, kidL, oI, Th.no]
/-- Another child on a side. -/
def Th.kid (t : Th) (s : Bool) (x : Int) : Th := if s then ⟨t.up, t.l, x⟩ else ⟨t.up, x, t.r⟩
theorem thC_up (t : Th) (x : Int) : thC ⟨x, t.l, t.r⟩ = (thC t).set 0 (.int .i64 x) := rfl
theorem thC_kid (t : Th) (s : Bool) (x : Int) : thC (t.kid s x) = (thC t).set (1 + s.toNat) (.int .i64 x) := by cases s <;> rfl
theorem th_set_up (l : List Th) (i : Nat) (hi : i < l.length) (x : Int) : (cellsBy thC l).set (i * 3) (.int .i64 x) = cellsBy thC (l.set i ⟨x, (l.getD i .no).l, (l.getD i .no).r⟩) := by
  have := cellsBy_set thC 3 thC_len .no l i 0 (.int .i64 x) _ hi (by omega) (thC_up _ x)
  rwa [Nat.add_zero] at this
theorem th_set_kid (l : List Th) (i : Nat) (hi : i < l.length) (s : Bool) (x : Int) : (cellsBy thC l).set (i * 3 + (1 + s.toNat)) (.int .i64 x) = cellsBy thC (l.set i ((l.getD i .no).kid s x)) :=
  cellsBy_set thC 3 thC_len .no l i (1 + s.toNat) (.int .i64 x) _ hi (by cases s <;> simp) (thC_kid _ s x)
section
variable {n : Nat} {L : List Hg}
theorem up_in (I : GInv n L) {x p : Int} (h : upL L x = some p) : inN n x ∧ inN n p := by
  obtain ⟨g, hg, rfl, rfl⟩ := upL_some h
  exact ⟨(I.rng g hg).2, (I.rng g hg).1⟩
theorem up_out (I : GInv n L) {x : Int} (h : ¬ inN n x) : upL L x = none := by
  cases e : upL L x with
  | none => rfl
  | some p => exact absurd (up_in I e).1 h
theorem kid_out (I : GInv n L) {x : Int} (r : Bool) (h : ¬ inN n x) : kidL L x r = none := by
  cases e : kidL L x r with
  | none => rfl
  | some p => exact absurd (kid_in I e).2 h
theorem oI_some {o : Option Int} {x : Int} (hx : inN n x) : oI o = x ↔ o = some x := by
  unfold inN at hx
  cases o with
  | none => simp [oI]; omega
  | some y => simp [oI]
/-- Hung. -/
theorem raw_hang {p x : Nat} {s : Bool} (hp : p < n) (hx : x < n) (hne : p ≠ x) (hu : upL L x = none) (hk : kidL L p s = none) :
    ((rawOf n L).set p ((thOf L p).kid s x)).set x ⟨p, (thOf L x).l, (thOf L x).r⟩ = rawOf n (L ++ [⟨p, x, s⟩]) := by
  refine th_ext (by simp [raw_len]) (raw_len _ _) (fun i hi => ?_)
  rw [getD_set' _ _ _ _ _ (by rw [List.length_set, raw_len]; exact hx), getD_set' _ _ _ _ _ (by rw [raw_len]; exact hp), raw_at _ hi, raw_at _ hi]
  have e1 : ∀ y, upL (L ++ [⟨p, x, s⟩]) y = (upL L y).or (if (x : Int) = y then some (p : Int) else none) := up_append L ⟨p, x, s⟩
  have e2 : ∀ q r, kidL (L ++ [⟨p, x, s⟩]) q r = (kidL L q r).or (if (p : Int) = q ∧ s = r then some (x : Int) else none) := kid_append L ⟨p, x, s⟩
  unfold thOf
  rw [e1, e2, e2]
  by_cases h1 : x = i
  · subst h1
    have h2 : (p : Int) ≠ x := by omega
    simp [hu, h2, oI]
  · have h1' : (x : Int) ≠ i := by omega
    by_cases h3 : p = i
    · subst h3
      cases s <;> simp [h1, h1', hk, oI, Th.kid]
    · have h3' : (p : Int) ≠ i := by omega
      simp [h1, h1', h3, h3']
/-- Cut: each side of the one above on which it is, and its way up. -/
theorem raw_cut (I : GInv n L) {p x : Nat} (hp : p < n) (hx : x < n) (hne : p ≠ x) (hu : upL L x = some (p : Int)) :
    ((rawOf n L).set p ⟨oI (upL L p), (if kidL L p false = some (x : Int) then -1 else oI (kidL L p false)), (if kidL L p true = some (x : Int) then -1 else oI (kidL L p true))⟩).set x ⟨-1, oI (kidL L x false), oI (kidL L x true)⟩ = rawOf n (cutL L x) := by
  refine th_ext (by simp [raw_len]) (raw_len _ _) (fun i hi => ?_)
  rw [getD_set' _ _ _ _ _ (by rw [List.length_set, raw_len]; exact hx), getD_set' _ _ _ _ _ (by rw [raw_len]; exact hp), raw_at _ hi, raw_at _ hi]
  unfold thOf
  have hk : ∀ q r, kidL L q r = some (x : Int) → q = (p : Int) := fun q r h => by
    have := I.up_kid.2 ⟨r, h⟩
    rw [hu] at this; injection this with this; exact this.symm
  rw [up_cut, kid_cut I, kid_cut I]
  by_cases h1 : x = i
  · subst h1
    have h2 : ∀ r, kidL L x r ≠ some (x : Int) := fun r h => hne (by have := hk _ _ h; omega)
    simp [h2, oI]
  · have h1' : (i : Int) ≠ x := by omega
    by_cases h3 : p = i
    · subst h3
      by_cases h4 : kidL L p false = some (x : Int) <;> by_cases h5 : kidL L p true = some (x : Int) <;> simp [h1, h1', h4, h5, oI]
    · have h2 : ∀ r, kidL L i r ≠ some (x : Int) := fun r h => h3 (by have := hk _ _ h; omega)
      simp [h1, h1', h3, h2]
theorem cut_same (_I : GInv n L) {x : Int} (hu : upL L x = none) : cutL L x = L := by
  unfold cutL
  rw [List.filter_eq_self]
  intro g hg
  have := upL_none.1 hu g hg
  simpa using this
/-- Turned. -/
theorem raw_turn (L : List Hg) {p : Nat} (hp : p < n) :
    (rawOf n L).set p ⟨oI (upL L p), oI (kidL L p true), oI (kidL L p false)⟩ = rawOf n (turnL L p) := by
  refine th_ext (by simp [raw_len]) (raw_len _ _) (fun i hi => ?_)
  rw [getD_set' _ _ _ _ _ (by rw [raw_len]; exact hp), raw_at _ hi, raw_at _ hi]
  unfold thOf
  rw [up_turn, kid_turn, kid_turn]
  by_cases h3 : p = i
  · subst h3; simp
  · have h3' : (i : Int) ≠ p := by omega
    simp [h3, h3']
theorem turn_same (I : GInv n L) {p : Int} (hp : ¬ inN n p) : turnL L p = L := by
  unfold turnL
  conv => rhs; rw [← List.map_id L]
  apply List.map_congr_left
  intro g hg
  have : (g.p == p) = false := by
    rw [beq_eq_false_iff_ne]
    rintro rfl
    exact hp (I.rng g hg).1
  rw [this]; rfl
end
end Go.Proofs.YtkcicnflcilekaaGreat
