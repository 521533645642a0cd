/- Merged of SkewMath, TrZip, SkewPotMath. -/
import Derived.Test.YtehoejoeoaimjaaTrMath
namespace Go.Proofs.Ytehoejoeoaimjaa
namespace Tr
/-- How many are heavier at the right. -/
def pot : Tr → Nat
  | nil => 0
  | node _ l r => pot l + pot r + (if size l < size r then 1 else 0)
/-- How many on the way to the right aren't. -/
def light : Tr → Nat
  | nil => 0
  | node _ l r => light r + (if size l < size r then 0 else 1)
/-- Merged: the children of each one that is met change sides. The fuel: both ways to the right together. -/
def melt (lt : Int → Int → Bool) : Nat → Tr → Tr → Tr × Nat
  | 0, a, _ => (a, 0)
  | _ + 1, nil, b => (b, 0)
  | _ + 1, a, nil => (a, 0)
  | f + 1, node x l r, node y l' r' =>
    if lt x y then (node x (melt lt f r (node y l' r')).1 l, (melt lt f r (node y l' r')).2 + 1)
    else (node y (melt lt f r' (node x l r)).1 l', (melt lt f r' (node x l r)).2 + 1)
def merge (lt : Int → Int → Bool) (a b : Tr) : Tr := (melt lt (spine a + spine b + 1) a b).1
def asked (lt : Int → Int → Bool) (a b : Tr) : Nat := (melt lt (spine a + spine b + 1) a b).2
theorem light_le : ∀ t : Tr, 2 ^ light t ≤ size t + 1
  | nil => by simp [light, size]
  | node x l r => by
    have h := light_le r
    simp only [light, size]
    split
    · simp only [Nat.add_zero]; omega
    · rw [Nat.pow_succ]; omega
theorem light_lt {t : Tr} {b : Nat} (h : size t < 2 ^ b) : light t ≤ b := by
  have h1 := light_le t
  apply Nat.le_of_not_lt
  intro h2
  have h3 : 2 ^ (b + 1) ≤ 2 ^ light t := Nat.pow_le_pow_right (by omega) h2
  rw [Nat.pow_succ] at h3
  have : 0 < 2 ^ b := Nat.pow_pos (by omega)
  omega
theorem melt_size (lt : Int → Int → Bool) : ∀ (f : Nat) (a b : Tr), spine a + spine b < f → size (melt lt f a b).1 = size a + size b
  | 0, _, _, h => by omega
  | f + 1, nil, b, _ => by simp [melt, size]
  | f + 1, node x l r, nil, _ => by simp [melt, size]
  | f + 1, node x l r, node y l' r', h => by
    simp only [spine] at h
    have h1 := melt_size lt f r (node y l' r') (by simp only [spine]; omega)
    have h2 := melt_size lt f r' (node x l r) (by simp only [spine]; omega)
    simp only [size] at h1 h2
    unfold melt
    split
    · simp only [size]; omega
    · simp only [size]; omega
theorem melt_perm (lt : Int → Int → Bool) : ∀ (f : Nat) (a b : Tr), spine a + spine b < f → (melt lt f a b).1.slots.Perm (a.slots ++ b.slots)
  | 0, _, _, h => by omega
  | f + 1, nil, b, _ => by simp [melt, slots]
  | f + 1, node x l r, nil, _ => by simp [melt, slots]
  | f + 1, node x l r, node y l' r', h => by
    simp only [spine] at h
    have h1 := melt_perm lt f r (node y l' r') (by simp only [spine]; omega)
    have h2 := melt_perm lt f r' (node x l r) (by simp only [spine]; omega)
    rw [List.perm_iff_count] at *
    intro z
    have h1 := h1 z
    have h2 := h2 z
    unfold melt
    simp only [slots, List.count_append, List.count_cons] at h1 h2 ⊢
    split
    · simp only [slots, List.count_append, List.count_cons]; omega
    · simp only [slots, List.count_append, List.count_cons]; omega
/-- Each question is paid for: by one that isn't heavier at the right any more, or by one on a way that wasn't. -/
theorem melt_pot (lt : Int → Int → Bool) : ∀ (f : Nat) (a b : Tr), spine a + spine b < f → (melt lt f a b).2 + pot (melt lt f a b).1 ≤ pot a + pot b + 2 * (light a + light b)
  | 0, _, _, h => by omega
  | f + 1, nil, b, _ => by simp [melt, pot, light]
  | f + 1, node x l r, nil, _ => by simp only [melt, pot, light]; omega
  | f + 1, node x l r, node y l' r', h => by
    simp only [spine] at h
    have h1 := melt_pot lt f r (node y l' r') (by simp only [spine]; omega)
    have h2 := melt_pot lt f r' (node x l r) (by simp only [spine]; omega)
    have s1 := melt_size lt f r (node y l' r') (by simp only [spine]; omega)
    have s2 := melt_size lt f r' (node x l r) (by simp only [spine]; omega)
    simp only [size] at s1 s2
    unfold melt
    by_cases hxy : lt x y = true
    · simp only [hxy, if_true, pot, light] at h1 ⊢
      rw [s1]
      by_cases c : size l < size r
      · rw [if_neg (by omega : ¬ size r + (size l' + size r' + 1) < size l)]
        simp only [c, if_true] at h1 ⊢
        omega
      · have : (if size r + (size l' + size r' + 1) < size l then 1 else 0) ≤ 1 := by split <;> omega
        simp only [c, if_false] at h1 ⊢
        omega
    · have hxy : lt x y = false := by simpa using hxy
      simp only [hxy, Bool.false_eq_true, if_false, pot, light] at h2 ⊢
      rw [s2]
      by_cases c : size l' < size r'
      · rw [if_neg (by omega : ¬ size r' + (size l + size r + 1) < size l')]
        simp only [c, if_true] at h2 ⊢
        omega
      · have : (if size r' + (size l + size r + 1) < size l' then 1 else 0) ≤ 1 := by split <;> omega
        simp only [c, if_false] at h2 ⊢
        omega
theorem merge_size (lt : Int → Int → Bool) (a b : Tr) : size (merge lt a b) = size a + size b := melt_size lt _ a b (by omega)
theorem merge_perm (lt : Int → Int → Bool) (a b : Tr) : (merge lt a b).slots.Perm (a.slots ++ b.slots) := melt_perm lt _ a b (by omega)
/-- Of trees of less than 2^b slots together. -/
theorem merge_pot (lt : Int → Int → Bool) {a b : Tr} {n : Nat} (h : size a + size b < 2 ^ n) : asked lt a b + pot (merge lt a b) ≤ pot a + pot b + 4 * n := by
  have h1 := melt_pot lt (spine a + spine b + 1) a b (by omega)
  have h2 := light_lt (t := a) (b := n) (by omega)
  have h3 := light_lt (t := b) (b := n) (by omega)
  unfold asked merge
  omega

/-- How many above come to be heavier at the right, where a place loses some. -/
def turned : Way → Tr → Tr → Nat
  | .here, _, _ => 0
  | .left _ c r, t, t' => turned c t t' + (if size r ≤ size (fill c t) ∧ size (fill c t') < size r then 1 else 0)
  | .right _ _ c, t, t' => turned c t t'
theorem turned_le : ∀ (c : Way) (t t' : Tr), 2 ^ turned c t t' ≤ size (fill c t') + 1
  | .here, t, t' => by simp [turned, fill]
  | .left x c r, t, t' => by
    have h := turned_le c t t'
    simp only [turned, fill, size]
    split
    · rw [Nat.pow_succ]; omega
    · simp only [Nat.add_zero]; omega
  | .right x l c, t, t' => by
    have h := turned_le c t t'
    simp only [turned, fill, size]; omega
theorem fill_pot : ∀ (c : Way) {t t' : Tr}, size t' ≤ size t → pot (fill c t') + pot t ≤ pot (fill c t) + pot t' + turned c t t'
  | .here, t, t', h => by simp only [fill, turned]; omega
  | .left x c r, t, t', h => by
    have h1 := fill_pot c h
    have h2 := fill_mono c h
    simp only [fill, pot, turned]
    repeat' split
    all_goals omega
  | .right x l c, t, t', h => by
    have h1 := fill_pot c h
    have h2 := fill_mono c h
    simp only [fill, pot, turned]
    repeat' split
    all_goals omega
/-- What is put in the place of a tree, and is no greater. -/
theorem cut_pot {c : Way} {t t' : Tr} {n : Nat} (h : size t' ≤ size t) (hn : size (fill c t) < 2 ^ n) : pot (fill c t') + pot t ≤ pot (fill c t) + pot t' + n := by
  have h1 := fill_pot c h
  have h2 := turned_le c t t'
  have h3 := fill_mono c h
  have : turned c t t' ≤ n := by
    apply Nat.le_of_not_lt
    intro h4
    have h5 : 2 ^ (n + 1) ≤ 2 ^ turned c t t' := Nat.pow_le_pow_right (by omega) h4
    rw [Nat.pow_succ] at h5
    have : 0 < 2 ^ n := Nat.pow_pos (by omega)
    omega
  omega
theorem pot_le : ∀ t : Tr, pot t ≤ size t
  | nil => Nat.le_refl _
  | node x l r => by
    have h1 := pot_le l
    have h2 := pot_le r
    simp only [pot, size]
    split <;> omega

theorem melt_ok {lt : Int → Int → Bool} (P : Int → Prop) (irr : ∀ x, P x → lt x x = false) (asy : ∀ x y, P x → P y → lt x y = true → lt y x = false)
    (trans : ∀ x y z, P x → P y → P z → lt x y = false → lt y z = false → lt x z = false) :
    ∀ (f : Nat) (a b : Tr), spine a + spine b < f → (∀ z ∈ a.slots, P z) → (∀ z ∈ b.slots, P z) → Ok lt a → Ok lt b → Ok lt (melt lt f a b).1
  | 0, _, _, h, _, _, _, _ => by omega
  | f + 1, nil, b, _, _, _, _, hb => by simpa [melt] using hb
  | f + 1, node x l r, nil, _, _, _, ha, _ => by simpa [melt] using ha
  | f + 1, node x l r, node y l' r', h, pa, pb, ha, hb => by
    simp only [spine] at h
    obtain ⟨a1, a2, a3, a4⟩ := ha
    obtain ⟨b1, b2, b3, b4⟩ := hb
    have px : P x := pa x (by simp [slots])
    have py : P y := pb y (by simp [slots])
    have pl : ∀ z ∈ l.slots, P z := fun z hz => pa z (by simp [slots, hz])
    have pr : ∀ z ∈ r.slots, P z := fun z hz => pa z (by simp [slots, hz])
    have pl' : ∀ z ∈ l'.slots, P z := fun z hz => pb z (by simp [slots, hz])
    have pr' : ∀ z ∈ r'.slots, P z := fun z hz => pb z (by simp [slots, hz])
    unfold melt
    split
    · rename_i hxy
      have h1 := melt_ok P irr asy trans f r (node y l' r') (by simp only [spine]; omega) pr pb a4 ⟨b1, b2, b3, b4⟩
      refine ⟨fun z hz => ?_, a1, h1, a3⟩
      have := (melt_perm lt f r (node y l' r') (by simp only [spine]; omega)).mem_iff.1 hz
      have hyx := asy x y px py hxy
      simp only [slots, List.mem_append, List.mem_cons] at this
      rcases this with h | h | h | h
      · exact a2 z h
      · subst h; exact hyx
      · exact trans z y x (pl' z h) py px (b1 z h) hyx
      · exact trans z y x (pr' z h) py px (b2 z h) hyx
    · rename_i hxy
      have hxy : lt x y = false := by simpa using hxy
      have h1 := melt_ok P irr asy trans f r' (node x l r) (by simp only [spine]; omega) pr' pa b4 ⟨a1, a2, a3, a4⟩
      refine ⟨fun z hz => ?_, b1, h1, b3⟩
      have := (melt_perm lt f r' (node x l r) (by simp only [spine]; omega)).mem_iff.1 hz
      simp only [slots, List.mem_append, List.mem_cons] at this
      rcases this with h | h | h | h
      · exact b2 z h
      · subst h; exact hxy
      · exact trans z x y (pl z h) px py (a1 z h) hxy
      · exact trans z x y (pr z h) px py (a2 z h) hxy
end Tr
end Go.Proofs.Ytehoejoeoaimjaa

namespace Go.Proofs.Ytehoejoeoaimjaa

theorem rep_top {kid : Int → Bool → Option Int} : ∀ {t : Tr} {o : Option Int}, RepT kid o t → o = t.top
  | .nil, _, h => h
  | .node _ _ _, _, h => h.1
/-- What is above a place: is it at the right, what is above, and the other child. -/
structure Fr where
  s : Bool
  x : Int
  o : Tr
namespace Tr
def sit (f : Fr) (t : Tr) : Tr := if f.s then node f.x f.o t else node f.x t f.o
def fillZ : List Fr → Tr → Tr
  | [], t => t
  | f :: z, t => fillZ z (sit f t)
def zs : List Fr → List Int
  | [] => []
  | f :: z => f.x :: (f.o.slots ++ zs z)
theorem sit_perm (f : Fr) (t : Tr) : (sit f t).slots.Perm (f.x :: (t.slots ++ f.o.slots)) := by
  unfold sit; split
  · exact List.perm_append_comm.cons _
  · exact List.Perm.refl _
theorem sit_top (f : Fr) (t : Tr) : (sit f t).top = some f.x := by unfold sit; split <;> rfl
theorem fillZ_perm : ∀ (z : List Fr) (t : Tr), (fillZ z t).slots.Perm (t.slots ++ zs z)
  | [], t => by simp [fillZ, zs]
  | f :: z, t => by
    have h1 := fillZ_perm z (sit f t)
    have h2 := sit_perm f t
    rw [List.perm_iff_count] at *
    intro y
    have h1 := h1 y
    have h2 := h2 y
    simp only [fillZ, zs, List.count_append, List.count_cons] at h1 h2 ⊢
    omega
theorem zip_all : ∀ (T : Tr) (x : Int) (z : List Fr), x ∈ T.slots → ∃ z' l r, fillZ z T = fillZ z' (node x l r)
  | nil, x, z, h => by simp [slots] at h
  | node y a b, x, z, h => by
    simp only [slots, List.mem_cons, List.mem_append] at h
    rcases h with h | h | h
    · subst h; exact ⟨z, a, b, rfl⟩
    · exact zip_all a x (⟨false, y, b⟩ :: z) h
    · exact zip_all b x (⟨true, y, a⟩ :: z) h
theorem zip_ex {T : Tr} {x : Int} (h : x ∈ T.slots) : ∃ z l r, T = fillZ z (node x l r) := zip_all T x [] h
theorem zip_top : ∀ (z : List Fr) (f : Fr) (t u : Tr), (fillZ (f :: z) t).top = (fillZ (f :: z) u).top
  | [], f, t, u => (sit_top f t).trans (sit_top f u).symm
  | g :: z, f, t, u => zip_top z g (sit f t) (sit f u)
theorem zip_top_in : ∀ (z : List Fr) (f : Fr) (t : Tr), ∃ y ∈ zs (f :: z), (fillZ (f :: z) t).top = some y
  | [], f, t => ⟨f.x, by simp [zs], sit_top f t⟩
  | g :: z, f, t => by
    obtain ⟨y, h1, h2⟩ := zip_top_in z g (sit f t)
    exact ⟨y, by rw [zs]; exact List.mem_cons_of_mem _ (List.mem_append_right _ h1), h2⟩
theorem top_in {t : Tr} {x : Int} (h : t.top = some x) : x ∈ t.slots := by
  cases t with
  | nil => cases h
  | node y a b => cases h; simp [slots]
theorem top_node {t : Tr} {x : Int} (h : t.top = some x) : ∃ l r, t = node x l r := by
  cases t with
  | nil => cases h
  | node y a b => cases h; exact ⟨a, b, rfl⟩
end Tr
/-- What hangs where, above a place in which o hangs (none: nothing hangs there); root: what is topmost. -/
def RepZ (kid : Int → Bool → Option Int) (root : Option Int) : List Fr → Option Int → Prop
  | [], o => o = root
  | f :: z, o => kid f.x f.s = o ∧ RepT kid (kid f.x (!f.s)) f.o ∧ RepZ kid root z (some f.x)
theorem rep_sit {kid : Int → Bool → Option Int} {f : Fr} {t : Tr} {o : Option Int} : RepT kid o (Tr.sit f t) ↔ o = some f.x ∧ RepT kid (kid f.x f.s) t ∧ RepT kid (kid f.x (!f.s)) f.o := by
  obtain ⟨s, x, u⟩ := f
  cases s
  · exact Iff.rfl
  · exact ⟨fun ⟨h1, h2, h3⟩ => ⟨h1, h3, h2⟩, fun ⟨h1, h3, h2⟩ => ⟨h1, h2, h3⟩⟩
theorem rep_fill {kid : Int → Bool → Option Int} {root : Option Int} : ∀ {z : List Fr} {t : Tr}, RepT kid root (Tr.fillZ z t) ↔ RepT kid t.top t ∧ RepZ kid root z t.top
  | [], t => ⟨fun h => by have e := rep_top h; subst e; exact ⟨h, rfl⟩, fun ⟨h1, h2⟩ => by rw [← show t.top = root from h2]; exact h1⟩
  | f :: z, t => by
    show RepT kid root (Tr.fillZ z (Tr.sit f t)) ↔ _
    rw [rep_fill (z := z), rep_sit, Tr.sit_top]
    constructor
    · rintro ⟨⟨_, h1, h2⟩, h3⟩
      have e := rep_top h1
      rw [e] at h1
      exact ⟨h1, e, h2, h3⟩
    · rintro ⟨h1, h2, h3, h4⟩
      exact ⟨⟨rfl, by rw [h2]; exact h1, h3⟩, h4⟩
theorem repZ_congr {kid kid' : Int → Bool → Option Int} {root : Option Int} : ∀ {z : List Fr} {o : Option Int}, (∀ x ∈ Tr.zs z, ∀ s, kid' x s = kid x s) → RepZ kid root z o → RepZ kid' root z o
  | [], _, _, h => h
  | f :: z, o, hk, h => ⟨by rw [hk f.x (by simp [Tr.zs])]; exact h.1, by rw [hk f.x (by simp [Tr.zs])]; exact rep_congr (fun y hy => hk y (by simp [Tr.zs, hy])) h.2.1, repZ_congr (fun y hy => hk y (by simp [Tr.zs, hy])) h.2.2⟩
/-- .. where something else hangs in the place. -/
theorem repZ_place {kid kid' : Int → Bool → Option Int} {root : Option Int} {f : Fr} {z : List Fr} {o : Option Int} (hn : f.x ∉ f.o.slots ∧ f.x ∉ Tr.zs z) (h1 : kid' f.x (!f.s) = kid f.x (!f.s)) (hk : ∀ x, x ≠ f.x → ∀ s, kid' x s = kid x s) (h : RepZ kid root (f :: z) o) : RepZ kid' root (f :: z) (kid' f.x f.s) :=
  ⟨rfl, by rw [h1]; exact rep_congr (fun y hy => hk y fun e => hn.1 (by rw [← e]; exact hy)) h.2.1, repZ_congr (fun y hy => hk y fun e => hn.2 (by rw [← e]; exact hy)) h.2.2⟩
namespace Tr
variable {lt lt' : Int → Int → Bool}
theorem ok_congr : ∀ {t : Tr}, (∀ x ∈ t.slots, ∀ y ∈ t.slots, lt' x y = lt x y) → Ok lt t → Ok lt' t
  | nil, _, _ => trivial
  | node x l r, hk, h => ⟨fun y hy => by rw [hk y (by simp [slots, hy]) x (by simp [slots])]; exact h.1 y hy, fun y hy => by rw [hk y (by simp [slots, hy]) x (by simp [slots])]; exact h.2.1 y hy,
    ok_congr (fun a ha b hb => hk a (by simp [slots, ha]) b (by simp [slots, hb])) h.2.2.1, ok_congr (fun a ha b hb => hk a (by simp [slots, ha]) b (by simp [slots, hb])) h.2.2.2⟩
theorem ok_sit {f : Fr} {t : Tr} : Ok lt (sit f t) ↔ Under lt f.x t ∧ Under lt f.x f.o ∧ Ok lt f.o ∧ Ok lt t := by
  obtain ⟨s, x, u⟩ := f
  cases s
  · exact ⟨fun ⟨h1, h2, h3, h4⟩ => ⟨h1, h2, h4, h3⟩, fun ⟨h1, h2, h3, h4⟩ => ⟨h1, h2, h4, h3⟩⟩
  · exact ⟨fun ⟨h1, h2, h3, h4⟩ => ⟨h2, h1, h3, h4⟩, fun ⟨h1, h2, h3, h4⟩ => ⟨h2, h1, h3, h4⟩⟩
theorem okZ : ∀ {z : List Fr} {t : Tr}, Ok lt (fillZ z t) → Ok lt t
  | [], _, h => h
  | _ :: z, _, h => (ok_sit.1 (okZ (z := z) h)).2.2.2
theorem sit_sub {f : Fr} {t u : Tr} (h : ∀ y ∈ u.slots, y ∈ t.slots) : ∀ y ∈ (sit f u).slots, y ∈ (sit f t).slots := fun y hy => by
  have := (sit_perm f u).mem_iff.1 hy
  refine (sit_perm f t).mem_iff.2 ?_
  simp only [List.mem_cons, List.mem_append] at this ⊢
  rcases this with h1 | h1 | h1
  · exact Or.inl h1
  · exact Or.inr (Or.inl (h y h1))
  · exact Or.inr (Or.inr h1)
/-- Less in the place. -/
theorem ok_fill_sub : ∀ {z : List Fr} {t u : Tr}, Ok lt (fillZ z t) → (∀ y ∈ u.slots, y ∈ t.slots) → Ok lt u → Ok lt (fillZ z u)
  | [], _, _, _, _, h => h
  | f :: z, t, u, h, hs, h2 => by
    have h3 := ok_sit.1 (okZ (z := z) h)
    exact ok_fill_sub (z := z) h (sit_sub hs) (ok_sit.2 ⟨fun y hy => h3.1 y (hs y hy), h3.2.1, h3.2.2.1, h2⟩)
/-- One slot goes further ahead: if it isn't ahead of that above it, nothing is. -/
theorem ok_lower {x : Int} (P : Int → Prop) (neg : ∀ a b c, P a → P b → P c → lt' a b = false → lt' b c = false → lt' a c = false) (same : ∀ a b, a ≠ x → b ≠ x → lt' a b = lt a b) :
    ∀ {z : List Fr} {f : Fr} {t : Tr}, Ok lt (fillZ (f :: z) t) → x ∈ t.slots → x ∉ zs (f :: z) → (∀ y ∈ (fillZ (f :: z) t).slots, P y) → Ok lt' t → lt' x f.x = false → Ok lt' (fillZ (f :: z) t)
  | z, f, t, h, hx, hn, hP, hok, hlt => by
    have h0 : Ok lt (sit f t) := okZ (z := z) h
    have h1 := ok_sit.1 h0
    have hfx : f.x ≠ x := fun e => hn (by rw [← e]; simp [zs])
    have ho : ∀ y ∈ f.o.slots, y ≠ x := fun y hy e => hn (by rw [← e]; simp [zs, hy])
    have hsit : Ok lt' (sit f t) := ok_sit.2 ⟨fun y hy => by
      by_cases e : y = x
      · rw [e]; exact hlt
      · rw [same y f.x e hfx]; exact h1.1 y hy, fun y hy => by rw [same y f.x (ho y hy) hfx]; exact h1.2.1 y hy, ok_congr (fun a ha b hb => same a b (ho a ha) (ho b hb)) h1.2.2.1, hok⟩
    cases z with
    | nil => exact hsit
    | cons g z =>
      have h2 := ok_sit.1 (okZ (z := z) (t := sit g (sit f t)) h)
      have hgx : g.x ≠ x := fun e => hn (by rw [← e]; simp [zs])
      have hmx : x ∈ (fillZ (f :: g :: z) t).slots := (fillZ_perm _ _).mem_iff.2 (List.mem_append_left _ hx)
      have hmf : f.x ∈ (fillZ (f :: g :: z) t).slots := (fillZ_perm _ _).mem_iff.2 (List.mem_append_right _ (by simp [zs]))
      have hmg : g.x ∈ (fillZ (f :: g :: z) t).slots := (fillZ_perm _ _).mem_iff.2 (List.mem_append_right _ (by simp [zs]))
      have h3 : lt' x g.x = false := by
        refine neg x f.x g.x (hP x hmx) (hP _ hmf) (hP _ hmg) hlt ?_
        rw [same f.x g.x hfx hgx]
        exact h2.1 f.x (top_in (sit_top f t))
      exact ok_lower P neg same (z := z) (f := g) (t := sit f t) h ((sit_perm f t).mem_iff.2 (by simp [hx])) (fun hz => hn (by rw [zs]; exact List.mem_cons_of_mem _ (List.mem_append_right _ hz))) hP hsit h3
end Tr
end Go.Proofs.Ytehoejoeoaimjaa

namespace Go.Proofs.Ytehoejoeoaimjaa
namespace Tr
/-- The way to a place, told from below, behind another one. -/
def wayZ : List Fr → Way → Way
  | [], c => c
  | f :: z, c => wayZ z (if f.s then .right f.x f.o c else .left f.x c f.o)
theorem fill_wayZ : ∀ (z : List Fr) (c : Way) (t : Tr), fill (wayZ z c) t = fillZ z (fill c t)
  | [], _, _ => rfl
  | f :: z, c, t => by
    obtain ⟨s, x, o⟩ := f
    cases s
    · exact fill_wayZ z (.left x c o) t
    · exact fill_wayZ z (.right x o c) t
/-- What is put in a place, and is no greater. -/
theorem zip_pot {z : List Fr} {t t' : Tr} {n : Nat} (h : size t' ≤ size t) (hn : size (fillZ z t) < 2 ^ n) : pot (fillZ z t') + pot t ≤ pot (fillZ z t) + pot t' + n := by
  have e : ∀ u, fill (wayZ z .here) u = fillZ z u := fun u => fill_wayZ z .here u
  have := cut_pot (c := wayZ z .here) (t := t) (t' := t') (n := n) h (by rw [e]; exact hn)
  rw [e, e] at this
  exact this
theorem zip_size (z : List Fr) (t : Tr) : size (fillZ z t) = size t + (zs z).length := by
  have := (fillZ_perm z t).length_eq
  rw [List.length_append, size_slots, size_slots] at this
  exact this
/-- A slot comes out, and its trees, merged, to its place. -/
theorem del_pot (lt : Int → Int → Bool) {z : List Fr} {x : Int} {l r : Tr} {n : Nat} (hn : size (fillZ z (node x l r)) < 2 ^ n) : asked lt l r + pot (fillZ z (merge lt l r)) ≤ pot (fillZ z (node x l r)) + 5 * n := by
  have hs := zip_size z (node x l r)
  have h1 := merge_pot lt (a := l) (b := r) (n := n) (by simp only [size] at hs; omega)
  have h2 := zip_pot (z := z) (t := node x l r) (t' := merge lt l r) (n := n) (by rw [merge_size]; simp only [size]; omega) hn
  have h3 : pot l + pot r ≤ pot (node x l r) := by simp only [pot]; omega
  omega
/-- A slot comes off with all below it, and is merged with what is left. -/
theorem dec_pot (lt : Int → Int → Bool) {z : List Fr} {t : Tr} {n : Nat} (hn : size (fillZ z t) < 2 ^ n) : asked lt (fillZ z nil) t + pot (merge lt (fillZ z nil) t) ≤ pot (fillZ z t) + 5 * n ∧ asked lt t (fillZ z nil) + pot (merge lt t (fillZ z nil)) ≤ pot (fillZ z t) + 5 * n := by
  have hs := zip_size z t
  have hs2 := zip_size z nil
  have e : size nil = 0 := rfl
  have h1 := merge_pot lt (a := fillZ z nil) (b := t) (n := n) (by omega)
  have h1' := merge_pot lt (a := t) (b := fillZ z nil) (n := n) (by omega)
  have h2 := zip_pot (z := z) (t := t) (t' := nil) (n := n) (by omega) hn
  have h3 : pot nil = 0 := rfl
  omega
end Tr
/-! ### all heaps of a nest together -/
def sumT (f : Tr → Nat) (Ts : Nat → Tr) : Nat := ((List.range 65537).map fun h => f (Ts h)).sum
theorem sum_range (p p' : Nat → Nat) (h : Nat) (hp : ∀ i, i ≠ h → p' i = p i) : ∀ N, h < N → ((List.range N).map p').sum + p h = ((List.range N).map p).sum + p' h := by
  have hlow : ∀ N, N ≤ h → ((List.range N).map p') = ((List.range N).map p) := fun N hN => List.map_congr_left fun i hi => by
    rw [List.mem_range] at hi
    exact hp i (by omega)
  intro N
  induction N with
  | zero => intro hN; omega
  | succ N ih =>
    intro hN
    rw [List.range_succ, List.map_append, List.map_append, List.sum_append, List.sum_append]
    simp only [List.map_cons, List.map_nil, List.sum_cons, List.sum_nil]
    by_cases e : N = h
    · subst e
      rw [hlow N (Nat.le_refl _)]
      omega
    · have := ih (by omega)
      rw [hp N e]
      omega
/-- One heap's tree becomes another one. -/
theorem sumT_upd (f : Tr → Nat) (Ts Ts' : Nat → Tr) {h : Nat} (hh : h < 65537) {T : Tr} (h1 : Ts' h = T) (h2 : ∀ i, i ≠ h → Ts' i = Ts i) : sumT f Ts' + f (Ts h) = sumT f Ts + f T := by
  have := sum_range (fun h => f (Ts h)) (fun h => f (Ts' h)) h (fun i hi => by rw [h2 i hi]) 65537 hh
  rw [h1] at this
  exact this
theorem sumT_nil (f : Tr → Nat) (hf : f .nil = 0) : sumT f (fun _ => .nil) = 0 := by
  unfold sumT
  generalize List.range 65537 = l
  induction l with
  | nil => rfl
  | cons a r ih => rw [List.map_cons, List.sum_cons, ih]; exact hf
theorem le_sumT (f : Tr → Nat) (Ts : Nat → Tr) {h : Nat} (hh : h < 65537) : f (Ts h) ≤ sumT f Ts := by
  have := sum_range (fun h => f (Ts h)) (fun i => if i = h then 0 else f (Ts i)) h (fun i hi => by rw [if_neg hi]) 65537 hh
  simp only [if_true] at this
  unfold sumT
  omega
end Go.Proofs.Ytehoejoeoaimjaa
