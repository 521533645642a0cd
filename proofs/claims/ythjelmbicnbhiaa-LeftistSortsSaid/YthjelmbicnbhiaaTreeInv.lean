/- Merged of TrZip, TreeInv. -/
import Derived.Test.YthjelmbicnbhiaaTrMath
import Derived.Test.YthjelmbicnbhiaaDaryInv
namespace Go.Proofs.Ythjelmbicnbhiaa

theorem rep_top {kid : Int → Bool → Option Int} : ∀ {t : Tr} {o : Option Int}, RepT kid o t → o = t.top
  | .nil, _, h => h
  | .node _ _ _, _, h => h.1
/-- What is above a place: is it at the right, what is above, and the other child. -/
structure Fr where
  s : Bool
  x : Int
  o : Tr
namespace Tr
def sit (f : Fr) (t : Tr) : Tr := if f.s then node f.x f.o t else node f.x t f.o
def fillZ : List Fr → Tr → Tr
  | [], t => t
  | f :: z, t => fillZ z (sit f t)
def zs : List Fr → List Int
  | [] => []
  | f :: z => f.x :: (f.o.slots ++ zs z)
theorem sit_perm (f : Fr) (t : Tr) : (sit f t).slots.Perm (f.x :: (t.slots ++ f.o.slots)) := by
  unfold sit; split
  · exact List.perm_append_comm.cons _
  · exact List.Perm.refl _
theorem sit_top (f : Fr) (t : Tr) : (sit f t).top = some f.x := by unfold sit; split <;> rfl
theorem fillZ_perm : ∀ (z : List Fr) (t : Tr), (fillZ z t).slots.Perm (t.slots ++ zs z)
  | [], t => by simp [fillZ, zs]
  | f :: z, t => by
    have h1 := fillZ_perm z (sit f t)
    have h2 := sit_perm f t
    rw [List.perm_iff_count] at *
    intro y
    have h1 := h1 y
    have h2 := h2 y
    simp only [fillZ, zs, List.count_append, List.count_cons] at h1 h2 ⊢
    omega
theorem zip_all : ∀ (T : Tr) (x : Int) (z : List Fr), x ∈ T.slots → ∃ z' l r, fillZ z T = fillZ z' (node x l r)
  | nil, x, z, h => by simp [slots] at h
  | node y a b, x, z, h => by
    simp only [slots, List.mem_cons, List.mem_append] at h
    rcases h with h | h | h
    · subst h; exact ⟨z, a, b, rfl⟩
    · exact zip_all a x (⟨false, y, b⟩ :: z) h
    · exact zip_all b x (⟨true, y, a⟩ :: z) h
theorem zip_ex {T : Tr} {x : Int} (h : x ∈ T.slots) : ∃ z l r, T = fillZ z (node x l r) := zip_all T x [] h
theorem zip_top : ∀ (z : List Fr) (f : Fr) (t u : Tr), (fillZ (f :: z) t).top = (fillZ (f :: z) u).top
  | [], f, t, u => (sit_top f t).trans (sit_top f u).symm
  | g :: z, f, t, u => zip_top z g (sit f t) (sit f u)
theorem zip_top_in : ∀ (z : List Fr) (f : Fr) (t : Tr), ∃ y ∈ zs (f :: z), (fillZ (f :: z) t).top = some y
  | [], f, t => ⟨f.x, by simp [zs], sit_top f t⟩
  | g :: z, f, t => by
    obtain ⟨y, h1, h2⟩ := zip_top_in z g (sit f t)
    exact ⟨y, by rw [zs]; exact List.mem_cons_of_mem _ (List.mem_append_right _ h1), h2⟩
theorem top_in {t : Tr} {x : Int} (h : t.top = some x) : x ∈ t.slots := by
  cases t with
  | nil => cases h
  | node y a b => cases h; simp [slots]
theorem top_node {t : Tr} {x : Int} (h : t.top = some x) : ∃ l r, t = node x l r := by
  cases t with
  | nil => cases h
  | node y a b => cases h; exact ⟨a, b, rfl⟩
end Tr
/-- What hangs where, above a place in which o hangs (none: nothing hangs there); root: what is topmost. -/
def RepZ (kid : Int → Bool → Option Int) (root : Option Int) : List Fr → Option Int → Prop
  | [], o => o = root
  | f :: z, o => kid f.x f.s = o ∧ RepT kid (kid f.x (!f.s)) f.o ∧ RepZ kid root z (some f.x)
theorem rep_sit {kid : Int → Bool → Option Int} {f : Fr} {t : Tr} {o : Option Int} : RepT kid o (Tr.sit f t) ↔ o = some f.x ∧ RepT kid (kid f.x f.s) t ∧ RepT kid (kid f.x (!f.s)) f.o := by
  obtain ⟨s, x, u⟩ := f
  cases s
  · exact Iff.rfl
  · exact ⟨fun ⟨h1, h2, h3⟩ => ⟨h1, h3, h2⟩, fun ⟨h1, h3, h2⟩ => ⟨h1, h2, h3⟩⟩
theorem rep_fill {kid : Int → Bool → Option Int} {root : Option Int} : ∀ {z : List Fr} {t : Tr}, RepT kid root (Tr.fillZ z t) ↔ RepT kid t.top t ∧ RepZ kid root z t.top
  | [], t => ⟨fun h => by have e := rep_top h; subst e; exact ⟨h, rfl⟩, fun ⟨h1, h2⟩ => by rw [← show t.top = root from h2]; exact h1⟩
  | f :: z, t => by
    show RepT kid root (Tr.fillZ z (Tr.sit f t)) ↔ _
    rw [rep_fill (z := z), rep_sit, Tr.sit_top]
    constructor
    · rintro ⟨⟨_, h1, h2⟩, h3⟩
      have e := rep_top h1
      rw [e] at h1
      exact ⟨h1, e, h2, h3⟩
    · rintro ⟨h1, h2, h3, h4⟩
      exact ⟨⟨rfl, by rw [h2]; exact h1, h3⟩, h4⟩
theorem repZ_congr {kid kid' : Int → Bool → Option Int} {root : Option Int} : ∀ {z : List Fr} {o : Option Int}, (∀ x ∈ Tr.zs z, ∀ s, kid' x s = kid x s) → RepZ kid root z o → RepZ kid' root z o
  | [], _, _, h => h
  | f :: z, o, hk, h => ⟨by rw [hk f.x (by simp [Tr.zs])]; exact h.1, by rw [hk f.x (by simp [Tr.zs])]; exact rep_congr (fun y hy => hk y (by simp [Tr.zs, hy])) h.2.1, repZ_congr (fun y hy => hk y (by simp [Tr.zs, hy])) h.2.2⟩
/-- .. where something else hangs in the place. -/
theorem repZ_place {kid kid' : Int → Bool → Option Int} {root : Option Int} {f : Fr} {z : List Fr} {o : Option Int} (hn : f.x ∉ f.o.slots ∧ f.x ∉ Tr.zs z) (h1 : kid' f.x (!f.s) = kid f.x (!f.s)) (hk : ∀ x, x ≠ f.x → ∀ s, kid' x s = kid x s) (h : RepZ kid root (f :: z) o) : RepZ kid' root (f :: z) (kid' f.x f.s) :=
  ⟨rfl, by rw [h1]; exact rep_congr (fun y hy => hk y fun e => hn.1 (by rw [← e]; exact hy)) h.2.1, repZ_congr (fun y hy => hk y fun e => hn.2 (by rw [← e]; exact hy)) h.2.2⟩
namespace Tr
variable {lt lt' : Int → Int → Bool}
theorem ok_congr : ∀ {t : Tr}, (∀ x ∈ t.slots, ∀ y ∈ t.slots, lt' x y = lt x y) → Ok lt t → Ok lt' t
  | nil, _, _ => trivial
  | node x l r, hk, h => ⟨fun y hy => by rw [hk y (by simp [slots, hy]) x (by simp [slots])]; exact h.1 y hy, fun y hy => by rw [hk y (by simp [slots, hy]) x (by simp [slots])]; exact h.2.1 y hy,
    ok_congr (fun a ha b hb => hk a (by simp [slots, ha]) b (by simp [slots, hb])) h.2.2.1, ok_congr (fun a ha b hb => hk a (by simp [slots, ha]) b (by simp [slots, hb])) h.2.2.2⟩
theorem ok_sit {f : Fr} {t : Tr} : Ok lt (sit f t) ↔ Under lt f.x t ∧ Under lt f.x f.o ∧ Ok lt f.o ∧ Ok lt t := by
  obtain ⟨s, x, u⟩ := f
  cases s
  · exact ⟨fun ⟨h1, h2, h3, h4⟩ => ⟨h1, h2, h4, h3⟩, fun ⟨h1, h2, h3, h4⟩ => ⟨h1, h2, h4, h3⟩⟩
  · exact ⟨fun ⟨h1, h2, h3, h4⟩ => ⟨h2, h1, h3, h4⟩, fun ⟨h1, h2, h3, h4⟩ => ⟨h2, h1, h3, h4⟩⟩
theorem okZ : ∀ {z : List Fr} {t : Tr}, Ok lt (fillZ z t) → Ok lt t
  | [], _, h => h
  | _ :: z, _, h => (ok_sit.1 (okZ (z := z) h)).2.2.2
theorem sit_sub {f : Fr} {t u : Tr} (h : ∀ y ∈ u.slots, y ∈ t.slots) : ∀ y ∈ (sit f u).slots, y ∈ (sit f t).slots := fun y hy => by
  have := (sit_perm f u).mem_iff.1 hy
  refine (sit_perm f t).mem_iff.2 ?_
  simp only [List.mem_cons, List.mem_append] at this ⊢
  rcases this with h1 | h1 | h1
  · exact Or.inl h1
  · exact Or.inr (Or.inl (h y h1))
  · exact Or.inr (Or.inr h1)
/-- Less in the place. -/
theorem ok_fill_sub : ∀ {z : List Fr} {t u : Tr}, Ok lt (fillZ z t) → (∀ y ∈ u.slots, y ∈ t.slots) → Ok lt u → Ok lt (fillZ z u)
  | [], _, _, _, _, h => h
  | f :: z, t, u, h, hs, h2 => by
    have h3 := ok_sit.1 (okZ (z := z) h)
    exact ok_fill_sub (z := z) h (sit_sub hs) (ok_sit.2 ⟨fun y hy => h3.1 y (hs y hy), h3.2.1, h3.2.2.1, h2⟩)
/-- One slot goes further ahead: if it isn't ahead of that above it, nothing is. -/
theorem ok_lower {x : Int} (P : Int → Prop) (neg : ∀ a b c, P a → P b → P c → lt' a b = false → lt' b c = false → lt' a c = false) (same : ∀ a b, a ≠ x → b ≠ x → lt' a b = lt a b) :
    ∀ {z : List Fr} {f : Fr} {t : Tr}, Ok lt (fillZ (f :: z) t) → x ∈ t.slots → x ∉ zs (f :: z) → (∀ y ∈ (fillZ (f :: z) t).slots, P y) → Ok lt' t → lt' x f.x = false → Ok lt' (fillZ (f :: z) t)
  | z, f, t, h, hx, hn, hP, hok, hlt => by
    have h0 : Ok lt (sit f t) := okZ (z := z) h
    have h1 := ok_sit.1 h0
    have hfx : f.x ≠ x := fun e => hn (by rw [← e]; simp [zs])
    have ho : ∀ y ∈ f.o.slots, y ≠ x := fun y hy e => hn (by rw [← e]; simp [zs, hy])
    have hsit : Ok lt' (sit f t) := ok_sit.2 ⟨fun y hy => by
      by_cases e : y = x
      · rw [e]; exact hlt
      · rw [same y f.x e hfx]; exact h1.1 y hy, fun y hy => by rw [same y f.x (ho y hy) hfx]; exact h1.2.1 y hy, ok_congr (fun a ha b hb => same a b (ho a ha) (ho b hb)) h1.2.2.1, hok⟩
    cases z with
    | nil => exact hsit
    | cons g z =>
      have h2 := ok_sit.1 (okZ (z := z) (t := sit g (sit f t)) h)
      have hgx : g.x ≠ x := fun e => hn (by rw [← e]; simp [zs])
      have hmx : x ∈ (fillZ (f :: g :: z) t).slots := (fillZ_perm _ _).mem_iff.2 (List.mem_append_left _ hx)
      have hmf : f.x ∈ (fillZ (f :: g :: z) t).slots := (fillZ_perm _ _).mem_iff.2 (List.mem_append_right _ (by simp [zs]))
      have hmg : g.x ∈ (fillZ (f :: g :: z) t).slots := (fillZ_perm _ _).mem_iff.2 (List.mem_append_right _ (by simp [zs]))
      have h3 : lt' x g.x = false := by
        refine neg x f.x g.x (hP x hmx) (hP _ hmf) (hP _ hmg) hlt ?_
        rw [same f.x g.x hfx hgx]
        exact h2.1 f.x (top_in (sit_top f t))
      exact ok_lower P neg same (z := z) (f := g) (t := sit f t) h ((sit_perm f t).mem_iff.2 (by simp [hx])) (fun hz => hn (by rw [zs]; exact List.mem_cons_of_mem _ (List.mem_append_right _ hz))) hP hsit h3
end Tr
end Go.Proofs.Ythjelmbicnbhiaa

namespace Go.Proofs.Ythjelmbicnbhiaa

/-- The trees Ts are those of the nest W. -/
structure TInv (W : WS) (Ts : Nat → Tr) : Prop where
  mem : ∀ h x, 1 ≤ h → (x ∈ (Ts h).slots ↔ (cellW W x).home = h)
  zero : Ts 0 = .nil
  nodup : ∀ h, (Ts h).slots.Nodup
  ok : ∀ h, Tr.Ok (aheadW W) (Ts h)
def updT (g : Nat → Tr) (h : Nat) (t : Tr) : Nat → Tr := fun i => if i = h then t else g i
theorem updT_at (g : Nat → Tr) (h : Nat) (t : Tr) : updT g h t h = t := by simp [updT]
theorem updT_ne (g : Nat → Tr) {h i : Nat} (t : Tr) (e : i ≠ h) : updT g h t i = g i := by simp [updT, e]
/-- What isn't ahead of what isn't ahead. -/
theorem ahead_neg {W : WS} {x y z : Int} (hx : inW W x = true) (hy : inW W y = true) (_hz : inW W z = true) (h1 : aheadW W x y = false) (h2 : aheadW W y z = false) : aheadW W x z = false := by
  cases h : aheadW W x z with
  | false => rfl
  | true =>
    by_cases e : x = y
    · subst e; rw [h2] at h; cases h
    · have h3 := dahead_trans (dahead_total hx hy e h1) h
      rw [h2] at h3; cases h3
theorem ahead_asym {W : WS} {x y : Int} (h : aheadW W x y = true) : aheadW W y x = false := by
  cases h2 : aheadW W y x with
  | false => rfl
  | true => have := dahead_trans h h2; rw [dahead_irr] at this; cases this
theorem tok_same {W W' : WS} {t : Tr} (hk : Tr.Ok (aheadW W) t) (h : ∀ x ∈ t.slots, cellW W' x = cellW W x) : Tr.Ok (aheadW W') t :=
  Tr.ok_congr (fun a ha b hb => dahead_same (h a ha) (h b hb)) hk
section
variable {W : WS} {Ts : Nat → Tr}
theorem TInv.in' (I : TInv W Ts) {h : Nat} {x : Int} (hx : x ∈ (Ts h).slots) : 1 ≤ h ∧ (cellW W x).home = h ∧ inW W x = true ∧ ∃ k : Nat, x = k ∧ k < W.cells.length ∧ homeAt W k = h := by
  by_cases e : h = 0
  · subst e; rw [I.zero] at hx; simp [Tr.slots] at hx
  · have h1 := (I.mem h x (by omega)).1 hx
    obtain ⟨k, h2, h3, h4, h5⟩ := dcell_in (by omega) h1
    exact ⟨by omega, h1, h5, k, h2, h3, h4⟩
theorem TInv.one (I : TInv W Ts) {g h : Nat} {x : Int} (h1 : x ∈ (Ts g).slots) (h2 : x ∈ (Ts h).slots) : g = h := by
  rw [← (I.in' h1).2.1, (I.in' h2).2.1]
theorem TInv.home (I : TInv W Ts) {x : Int} (h : inW W x = true) : 1 ≤ (cellW W x).home ∧ x ∈ (Ts (cellW W x).home).slots := by
  have h1 : 1 ≤ (cellW W x).home := by
    unfold inW at h
    have : (cellW W x).home ≠ 0 := by simpa using h
    omega
  exact ⟨h1, (I.mem _ x h1).2 rfl⟩
theorem TInv.size (I : TInv W Ts) (h : Nat) (hp : 1 ≤ h) : (Ts h).size = lenW W h := by
  have hl : lenW W h = ((List.range W.cells.length).filter fun x => homeAt W x == h).length := by
    unfold lenW
    rw [if_pos (by omega), ← List.countP_eq_length_filter]
    have e : W.cells = (List.range W.cells.length).map fun x => W.cells.getD x .off := by
      apply List.ext_getElem
      · simp
      · intro n h1 h2
        simp [List.getD_eq_getElem?_getD, h1]
    conv => lhs; rw [e]
    rw [List.countP_map]
    refine List.countP_congr fun x _ => ?_
    simp only [Function.comp, homeAt, beq_iff_eq]
    omega
  rw [← Tr.size_slots, hl, ← List.length_map (f := fun i : Nat => (i : Int))]
  refine List.Perm.length_eq ((List.perm_ext_iff_of_nodup (I.nodup h) ?_).2 fun x => ?_)
  · rw [List.nodup_iff_pairwise_ne, List.pairwise_map]
    exact (List.nodup_range.filter _).imp (fun h e => h (by omega))
  · rw [List.mem_map]
    constructor
    · intro hx
      obtain ⟨_, _, _, k, h2, h3, h4⟩ := I.in' hx
      exact ⟨k, by rw [List.mem_filter, List.mem_range]; exact ⟨h3, by simp [h4]⟩, h2.symm⟩
    · rintro ⟨k, hk, rfl⟩
      rw [List.mem_filter, List.mem_range] at hk
      rw [I.mem h _ hp, cell_nat W k hk.1]
      have := hk.2
      simp only [beq_iff_eq] at this
      exact this
theorem TInv.empty (I : TInv W Ts) {h : Nat} (hp : 1 ≤ h) : Ts h = .nil ↔ lenW W h = 0 := by
  rw [← I.size h hp]
  cases Ts h <;> simp [Tr.size]
theorem TInv.keyLt (I : TInv W Ts) (hf : W.Fit) {h : Nat} (hn : Ts h ≠ .nil) : 1 ≤ h ∧ h < 65537 := by
  obtain ⟨x, hx⟩ : ∃ x, x ∈ (Ts h).slots := by
    cases e : Ts h with
    | nil => exact absurd e hn
    | node x l r => exact ⟨x, by simp [Tr.slots]⟩
  obtain ⟨h1, _, h3, k, h4, h5, h6⟩ := I.in' hx
  have h7 := hf.home k h5
  have e : (W.cells.getD k .off).home = h := h6
  rw [e] at h7
  rcases h7 with h7 | h7
  · omega
  · obtain ⟨i, hi, _, hl, _⟩ := has_nat h7
    have := hf.len
    exact ⟨h1, by omega⟩
/-- The topmost slot is ahead of all others. -/
theorem TInv.min (I : TInv W Ts) {h : Nat} {x : Int} (hx : (Ts h).top = some x) : ∃ k : Nat, x = k ∧ IsMin W h k := by
  obtain ⟨h1, _, _, k, h2, h3, h4⟩ := I.in' (Tr.top_in hx)
  refine ⟨k, h2, ⟨h3, by omega, by omega, fun j hj hh hne => ?_⟩⟩
  have hm : (j : Int) ∈ (Ts h).slots := (I.mem h j h1).2 (by rw [cell_nat W j hj]; show homeAt W j = h; omega)
  have hin := (I.in' hm).2.2.1
  have hin2 := (I.in' (Tr.top_in hx)).2.2.1
  obtain ⟨l, r, e⟩ := Tr.top_node hx
  have hk := I.ok h
  rw [e] at hk hm
  simp only [Tr.slots, List.mem_cons, List.mem_append] at hm
  have h6 : aheadW W j x = false := by
    rcases hm with hm | hm | hm
    · exact absurd (show j = k by omega) hne
    · exact hk.1 j hm
    · exact hk.2.1 j hm
  have h7 := dahead_total hin hin2 (fun e2 : (j : Int) = x => hne (by omega)) h6
  rw [h2] at h7
  exact h7
theorem tinv_new (n : Nat) : TInv (newW n) (fun _ => .nil) := by
  refine ⟨fun h x hp => ?_, rfl, fun _ => List.nodup_nil, fun _ => trivial⟩
  simp only [Tr.slots, List.not_mem_nil, false_iff]
  intro e
  obtain ⟨k, _, h3, h4, _⟩ := dcell_in hp e
  simp only [newW, List.length_replicate] at h3
  simp [homeAt, newW, List.getD_eq_getElem?_getD, h3, CellD.off] at h4
  omega
theorem TInv.congr {W' : WS} (I : TInv W Ts) (h1 : W'.cells = W.cells) : TInv W' Ts :=
  ⟨fun h x hp => by rw [dcells_eq h1]; exact I.mem h x hp, I.zero, I.nodup, fun h => tok_same (I.ok h) fun x _ => dcells_eq h1 x⟩
/-- One slot comes in. -/
theorem tinv_put (I : TInv W Ts) {h : Nat} {x k s : Int} (hp : putB W h x = true) (h1 : 1 ≤ h) :
    (∀ g, x ∉ (Ts g).slots) ∧ Tr.Ok (aheadW (putW W h x k s)) (Ts h) ∧ (∀ y ∈ (Ts h).slots, inW (putW W h x k s) y = true) ∧ inW (putW W h x k s) x = true ∧
    ∀ T, Tr.Ok (aheadW (putW W h x k s)) T → T.slots.Perm ((Ts h).slots ++ [x]) → TInv (putW W h x k s) (updT Ts h T) := by
  have hp' := hp
  simp only [putB, Bool.and_eq_true, Bool.not_eq_true'] at hp
  obtain ⟨_, h2, h3⟩ := hp
  obtain ⟨x', e, hx⟩ := slot_nat h2
  subst e
  have h0 : (cellW W x').home = 0 := by unfold inW at h3; simpa using h3
  have e1 : putW W h x' k s = ⟨W.heaps, W.cells.set x' ⟨h, k, s⟩⟩ := by simp [putW, hp']
  have hc : ∀ y, cellW (putW W h x' k s) y = if y = (x' : Int) then ⟨h, k, s⟩ else cellW W y := fun y => by rw [e1]; exact dcell_set W hx _ y
  have hnot : ∀ g, (x' : Int) ∉ (Ts g).slots := fun g hm => by
    have := I.in' hm
    omega
  have hsame : ∀ g, ∀ y ∈ (Ts g).slots, cellW (putW W h x' k s) y = cellW W y := fun g y hy => by
    rw [hc, if_neg (fun e : y = x' => hnot g (by rw [← e]; exact hy))]
  have hnd : ((Ts h).slots ++ [(x' : Int)]).Nodup := by
    rw [List.nodup_append]
    exact ⟨I.nodup h, by simp, fun a ha b hb e => hnot h (by rw [← List.mem_singleton.1 hb, ← e]; exact ha)⟩
  refine ⟨hnot, tok_same (I.ok h) (hsame h), fun y hy => ?_, ?_, fun T H Pm => ⟨fun g y hg => ?_, ?_, fun g => ?_, fun g => ?_⟩⟩
  · unfold inW; rw [hsame h y hy]; exact (I.in' hy).2.2.1
  · unfold inW; rw [hc, if_pos rfl]; exact bne_iff_ne.2 (by show h ≠ 0; omega)
  · rw [hc]
    unfold updT
    by_cases e : g = h
    · subst e
      rw [if_pos rfl, Pm.mem_iff, List.mem_append, List.mem_singleton, I.mem g y hg]
      by_cases e2 : y = x'
      · rw [if_pos e2]; simp [e2]
      · rw [if_neg e2]; simp [e2]
    · rw [if_neg e, I.mem g y hg]
      by_cases e2 : y = x'
      · rw [if_pos e2, e2, h0]; constructor
        · intro h; omega
        · intro h5; exact absurd h5.symm e
      · rw [if_neg e2]
  · unfold updT; rw [if_neg (by omega)]; exact I.zero
  · unfold updT
    by_cases e : g = h
    · rw [if_pos e]; exact Pm.nodup_iff.2 hnd
    · rw [if_neg e]; exact I.nodup g
  · unfold updT
    by_cases e : g = h
    · rw [if_pos e]; exact H
    · rw [if_neg e]; exact tok_same (I.ok g) (hsame g)
/-- One slot comes out. -/
theorem tinv_drop (I : TInv W Ts) {h : Nat} {x : Int} (hx : x ∈ (Ts h).slots) : ∀ T, Tr.Ok (aheadW W) T → (x :: T.slots).Perm (Ts h).slots → TInv (dropW W x) (updT Ts h T) := by
  obtain ⟨h1, hh, hin, x', e, hxl, hx2⟩ := I.in' hx
  subst e
  have e1 : dropW W x' = ⟨W.heaps, W.cells.set x' .off⟩ := by simp [dropW, hin]
  have hc : ∀ y, cellW (dropW W x') y = if y = (x' : Int) then .off else cellW W y := fun y => by rw [e1]; exact dcell_set W hxl _ y
  intro T H Pm
  have hnd := Pm.nodup_iff.2 (I.nodup h)
  rw [List.nodup_cons] at hnd
  have hym : ∀ y, y ∈ T.slots ↔ y ∈ (Ts h).slots ∧ y ≠ x' := fun y => by
    rw [← Pm.mem_iff, List.mem_cons]
    constructor
    · intro hy; exact ⟨Or.inr hy, fun e => hnd.1 (by rw [← e]; exact hy)⟩
    · rintro ⟨h2 | h2, h3⟩
      · exact absurd h2 h3
      · exact h2
  have hother : ∀ g, g ≠ h → (x' : Int) ∉ (Ts g).slots := fun g hg hm => hg (I.one hm hx)
  refine ⟨fun g y hg => ?_, ?_, fun g => ?_, fun g => ?_⟩
  · rw [hc]
    unfold updT
    by_cases e : g = h
    · subst e
      rw [if_pos rfl, hym, I.mem g y hg]
      by_cases e2 : y = x'
      · rw [if_pos e2]; show _ ↔ (0 : Nat) = g
        constructor
        · intro h; exact absurd e2 h.2
        · intro h; omega
      · rw [if_neg e2]; simp [e2]
    · rw [if_neg e, I.mem g y hg]
      by_cases e2 : y = x'
      · rw [if_pos e2]; show _ ↔ (0 : Nat) = g
        constructor
        · intro h5; rw [e2, hh] at h5; exact absurd h5.symm e
        · intro h; omega
      · rw [if_neg e2]
  · unfold updT; rw [if_neg (by omega)]; exact I.zero
  · unfold updT
    by_cases e : g = h
    · rw [if_pos e]; exact hnd.2
    · rw [if_neg e]; exact I.nodup g
  · unfold updT
    by_cases e : g = h
    · rw [if_pos e]; exact tok_same H fun y hy => by rw [hc, if_neg ((hym y).1 hy).2]
    · rw [if_neg e]; exact tok_same (I.ok g) fun y hy => by rw [hc, if_neg (fun e2 : y = x' => hother g e (by rw [← e2]; exact hy))]
/-- A slot's entry becomes another one. -/
theorem tinv_lower (I : TInv W Ts) {x k s : Int} (hb : lowerB W x k s = true) : ∃ h : Nat, 1 ≤ h ∧ x ∈ (Ts h).slots ∧ (cellW W x).home = h ∧ (∀ y, inW (lowerW W x k s) y = inW W y) ∧
    (∀ a b, a ≠ x → b ≠ x → aheadW (lowerW W x k s) a b = aheadW W a b) ∧ (∀ y, y ∈ (Ts h).slots → y ≠ x → aheadW W y x = false → aheadW (lowerW W x k s) y x = false) ∧
    ∀ T, Tr.Ok (aheadW (lowerW W x k s)) T → T.slots.Perm (Ts h).slots → TInv (lowerW W x k s) (updT Ts h T) := by
  have hb' := hb
  simp only [lowerB, Bool.and_eq_true, Bool.not_eq_true'] at hb
  obtain ⟨x', e, hx, hne⟩ := in_nat hb.1
  subst e
  obtain ⟨h, hh⟩ : ∃ h, h = (cellW W x').home := ⟨_, rfl⟩
  have h1 : 1 ≤ h := by
    have h2 := hb.1; unfold inW at h2; rw [← hh] at h2
    have : h ≠ 0 := by simpa using h2
    omega
  have hm := (I.mem h x' h1).2 hh.symm
  have e1 : lowerW W x' k s = ⟨W.heaps, W.cells.set x' ⟨h, k, s⟩⟩ := by simp only [lowerW, hb', if_true, Int.toNat_natCast, hh]
  have hc : ∀ y, cellW (lowerW W x' k s) y = if y = (x' : Int) then ⟨h, k, s⟩ else cellW W y := fun y => by rw [e1]; exact dcell_set W hx _ y
  have hhome : ∀ y, (cellW (lowerW W x' k s) y).home = (cellW W y).home := fun y => by
    rw [hc]; split
    · rename_i e; rw [e]; exact hh
    · rfl
  have hinS : ∀ y, inW (lowerW W x' k s) y = inW W y := fun y => by unfold inW; rw [hhome]
  have hsm : ∀ a b : Int, a ≠ x' → b ≠ x' → aheadW (lowerW W x' k s) a b = aheadW W a b := fun a b ha hb => dahead_same (by rw [hc, if_neg ha]) (by rw [hc, if_neg hb])
  have hmore : ∀ b : Int, b ≠ x' → aheadW W x' b = true → aheadW (lowerW W x' k s) x' b = true := fun b hbx h2 => by
    unfold aheadW at h2 ⊢
    rw [hinS, hinS]
    simp only [Bool.and_eq_true] at h2 ⊢
    refine ⟨h2.1, ?_⟩
    have a := (ahead_iff _ _ _ _).1 h2.2
    rw [ahead_iff, hc, if_pos rfl, hc, if_neg hbx]
    have hl := hb.2
    have hl2 : ¬ ((cellW W x').key < k ∨ ((cellW W x').key = k ∧ (cellW W x').seq < s)) := fun e => by
      have : lessB (cellW W x').key (cellW W x').seq k s = true := by
        simp only [lessB, Bool.or_eq_true, Bool.and_eq_true, decide_eq_true_eq, beq_iff_eq]; exact e
      rw [this] at hl; cases hl
    show k < _ ∨ (k = _ ∧ (s < _ ∨ (s = _ ∧ _)))
    omega
  refine ⟨h, h1, hm, hh.symm, hinS, hsm, fun y hy hyx h2 => ?_, fun T H Pm => ⟨fun g y hg => ?_, ?_, fun g => ?_, fun g => ?_⟩⟩
  · exact ahead_asym (hmore y hyx (dahead_total (I.in' hy).2.2.1 hb.1 hyx h2))
  · rw [hhome]
    unfold updT
    by_cases e : g = h
    · subst e; rw [if_pos rfl, Pm.mem_iff]; exact I.mem g y hg
    · rw [if_neg e]; exact I.mem g y hg
  · unfold updT; rw [if_neg (by omega)]; exact I.zero
  · unfold updT
    by_cases e : g = h
    · rw [if_pos e]; exact Pm.nodup_iff.2 (I.nodup h)
    · rw [if_neg e]; exact I.nodup g
  · unfold updT
    by_cases e : g = h
    · rw [if_pos e]; exact H
    · rw [if_neg e]; exact tok_same (I.ok g) fun y hy => by rw [hc, if_neg (fun e2 : y = x' => e (I.one (by rw [← e2]; exact hy) hm))]
/-- Two heaps become one. -/
theorem tinv_join (I : TInv W Ts) {a b : Nat} (hb : joinBW W a b = true) (ha1 : 1 ≤ a) (hb1 : 1 ≤ b) :
    a ≠ b ∧ aheadW (joinW W a b) = aheadW W ∧ (∀ y, inW (joinW W a b) y = inW W y) ∧ (∀ y ∈ (Ts a).slots, y ∉ (Ts b).slots) ∧ ∀ T, Tr.Ok (aheadW W) T → T.slots.Perm ((Ts a).slots ++ (Ts b).slots) → TInv (joinW W a b) (updT (updT Ts b .nil) a T) := by
  have hb' := hb
  simp only [joinBW, Bool.and_eq_true, decide_eq_true_eq] at hb
  have hne : a ≠ b := fun e => hb.2.2 (by rw [e])
  have e1 : joinW W a b = ⟨W.heaps.set b false, W.cells.map fun c => if c.home = b then ⟨a, c.key, c.seq⟩ else c⟩ := by simp [joinW, hb']
  have hc : ∀ y, cellW (joinW W a b) y = if (cellW W y).home = b then ⟨a, (cellW W y).key, (cellW W y).seq⟩ else cellW W y := fun y => by
    by_cases hx : 0 ≤ y ∧ y < W.cells.length
    · obtain ⟨j, rfl⟩ : ∃ j : Nat, y = j := ⟨y.toNat, by omega⟩
      have hj : j < W.cells.length := by omega
      rw [cell_nat W j hj, e1, cell_nat _ j (by show j < (W.cells.map _).length; rw [List.length_map]; exact hj)]
      simp [List.getD_eq_getElem?_getD, hj]
    · have h2 : cellW (joinW W a b) y = .off := by
        rw [e1]
        exact dcell_off (by show ¬ (0 ≤ y ∧ y < ((W.cells.map _).length : Int)); rw [List.length_map]; exact hx)
      rw [h2, dcell_off hx, if_neg (by show ¬ (0 : Nat) = b; omega)]
  have hin : ∀ y, inW (joinW W a b) y = inW W y := fun y => by
    unfold inW
    rw [hc]
    split
    · rename_i e
      rw [e]
      have h1 : (a != 0) = true := bne_iff_ne.2 (by omega)
      have h2 : (b != 0) = true := bne_iff_ne.2 (by omega)
      show (a != 0) = (b != 0)
      rw [h1, h2]
    · rfl
  have hk : ∀ y, (cellW (joinW W a b) y).key = (cellW W y).key ∧ (cellW (joinW W a b) y).seq = (cellW W y).seq := fun y => by rw [hc]; split <;> exact ⟨rfl, rfl⟩
  have hah : aheadW (joinW W a b) = aheadW W := by
    funext x y
    unfold aheadW aheadC
    rw [hin, hin, (hk x).1, (hk x).2, (hk y).1, (hk y).2]
  have hapart : ∀ y ∈ (Ts a).slots, y ∉ (Ts b).slots := fun y h1 h2 => hne (I.one h1 h2)
  have hnd : ((Ts a).slots ++ (Ts b).slots).Nodup := by
    rw [List.nodup_append]
    exact ⟨I.nodup a, I.nodup b, fun x hx y hy e => hapart x hx (by rw [e]; exact hy)⟩
  refine ⟨hne, hah, hin, hapart, fun T H Pm => ⟨fun g y hg => ?_, ?_, fun g => ?_, fun g => ?_⟩⟩
  · have hm : (cellW (joinW W a b) y).home = if (cellW W y).home = b then a else (cellW W y).home := by rw [hc]; split <;> rfl
    rw [hm]
    unfold updT
    by_cases e2 : g = a
    · rw [if_pos e2, e2, Pm.mem_iff, List.mem_append, I.mem a y ha1, I.mem b y hb1]
      split
      · rename_i h2; simp [h2]
      · rename_i h2; simp [h2]
    · rw [if_neg e2]
      by_cases e : g = b
      · rw [if_pos e, e]
        constructor
        · intro h; simp [Tr.slots] at h
        · intro h
          split at h
          · exact absurd h hne
          · rename_i h2; exact absurd h h2
      · rw [if_neg e, I.mem g y hg]
        split
        · rename_i h2
          constructor
          · intro h; exact absurd (h.symm.trans h2) e
          · intro h; exact absurd h.symm e2
        · rfl
  · unfold updT; rw [if_neg (by omega), if_neg (by omega)]; exact I.zero
  · unfold updT
    split
    · exact Pm.nodup_iff.2 hnd
    · split
      · exact List.nodup_nil
      · exact I.nodup g
  · rw [hah]
    unfold updT
    split
    · exact H
    · split
      · trivial
      · exact I.ok g
end
end Go.Proofs.Ythjelmbicnbhiaa
