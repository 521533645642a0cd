/- Merged of SkewInv, SkewDown. -/
import Derived.Test.YtkcicnflcilekaaGreatLeftistInv
import Derived.Test.YtkcicnflcilekaaGreatSpineRowMath
import Derived.Test.YtkcicnflcilekaaGreatSkewPotMath
import Derived.Test.YtkcicnflcilekaaGreatCells2
namespace Go.Proofs.YtkcicnflcilekaaGreat

/-- A tree by itself: what hangs where is it, and its topmost hangs below nothing. -/
structure KStands (L : List Hg) (t : Tr) : Prop where
  rep : RepT (kidL L) t.top t
  root : ∀ x, t.top = some x → upL L x = none
  nodup : t.slots.Nodup
/-- All but the slots S hang as they did. -/
structure KSame (S : List Int) (L L' : List Hg) : Prop where
  kid : ∀ z, z ∉ S → ∀ s, kidL L' z s = kidL L z s
  up : ∀ z, z ∉ S → upL L' z = upL L z
section
variable {S S' : List Int} {L L' L'' : List Hg} {t : Tr}
theorem KSame.refl (S : List Int) (L : List Hg) : KSame S L L := ⟨fun _ _ _ => rfl, fun _ _ => rfl⟩
theorem KSame.trans (h : KSame S L L') (h2 : KSame S L' L'') : KSame S L L'' :=
  ⟨fun z hz s => (h2.kid z hz s).trans (h.kid z hz s), fun z hz => (h2.up z hz).trans (h.up z hz)⟩
theorem KSame.mono (h : KSame S L L') (hs : ∀ z ∈ S, z ∈ S') : KSame S' L L' :=
  ⟨fun z hz => h.kid z fun h => hz (hs z h), fun z hz => h.up z fun h => hz (hs z h)⟩
theorem KStands.nil (L : List Hg) : KStands L .nil := ⟨rfl, fun x h => (by cases h), List.nodup_nil⟩
theorem KStands.same (h : KStands L t) (hs : KSame S L L') (hd : ∀ x ∈ t.slots, x ∉ S) : KStands L' t :=
  ⟨rep_congr (fun x hx s => hs.kid x (hd x hx) s) h.rep, fun x hx => by rw [hs.up x (hd x (Tr.top_in hx))]; exact h.root x hx, h.nodup⟩
theorem KStands.rep' (h : KStands L t) {x : Int} (hx : t.top = some x) : RepT (kidL L) (some x) t := by rw [← hx]; exact h.rep
/-- All trees stand; what is in none hangs nowhere. -/
structure KInv (Ts : Nat → Tr) (L : List Hg) : Prop where
  all : ∀ h, KStands L (Ts h)
  alone : ∀ x, (∀ h, x ∉ (Ts h).slots) → upL L x = none ∧ ∀ s, kidL L x s = none
theorem kinv_new : KInv (fun _ => .nil) [] := ⟨fun _ => KStands.nil _, fun _ _ => ⟨rfl, fun _ => rfl⟩⟩
theorem KInv.change {Ts Ts' : Nat → Tr} (I : KInv Ts L) (hs : KSame S L L') (h1 : ∀ g, KStands L' (Ts' g) ∨ (Ts' g = Ts g ∧ ∀ x ∈ (Ts g).slots, x ∉ S))
    (h2 : ∀ x ∈ S, (∃ g, x ∈ (Ts' g).slots) ∨ (upL L' x = none ∧ ∀ s, kidL L' x s = none)) (h3 : ∀ g x, x ∈ (Ts g).slots → x ∉ S → ∃ g', x ∈ (Ts' g').slots) : KInv Ts' L' := by
  refine ⟨fun g => ?_, fun x hx => ?_⟩
  · rcases h1 g with h | ⟨h, hd⟩
    · exact h
    · rw [h]; exact (I.all g).same hs hd
  · by_cases hS : x ∈ S
    · rcases h2 x hS with ⟨g, hg⟩ | h
      · exact absurd hg (hx g)
      · exact h
    · have h4 := I.alone x fun g hg => by
        obtain ⟨g', hg'⟩ := h3 g x hg hS
        exact hx g' hg'
      exact ⟨by rw [hs.up x hS]; exact h4.1, fun s => by rw [hs.kid x hS s]; exact h4.2 s⟩
/-- One heap's tree becomes another one. -/
theorem KInv.upd {Ts : Nat → Tr} (I : KInv Ts L) (h : Nat) {T : Tr} (hs : KSame S L L') (hT : KStands L' T) (hd : ∀ g, g ≠ h → ∀ x ∈ (Ts g).slots, x ∉ S)
    (h2 : ∀ x ∈ S, x ∈ T.slots ∨ (upL L' x = none ∧ ∀ s, kidL L' x s = none)) (h3 : ∀ x ∈ (Ts h).slots, x ∈ S) : KInv (updT Ts h T) L' := by
  refine I.change hs (fun g => ?_) (fun x hx => ?_) (fun g x hg hx => ?_)
  · by_cases e : g = h
    · left; rw [e, updT_at]; exact hT
    · right; rw [updT_ne _ _ e]; exact ⟨rfl, hd g e⟩
  · rcases h2 x hx with h4 | h4
    · exact Or.inl ⟨h, by rw [updT_at]; exact h4⟩
    · exact Or.inr h4
  · by_cases e : g = h
    · rw [e] at hg; exact absurd (h3 x hg) hx
    · exact ⟨g, by rw [updT_ne _ _ e]; exact hg⟩
end
namespace Tr
/-- The topmost is the same, whatever is below a slot. -/
theorem zip_node : ∀ (z : List Fr) (a : Int) (l r l' r' : Tr), (fillZ z (node a l r)).top = (fillZ z (node a l' r')).top
  | [], _, _, _, _, _ => rfl
  | f :: z, _, _, _, _, _ => zip_top z f _ _
theorem node_out {z : List Fr} {a : Int} {l r : Tr} (h : (fillZ z (node a l r)).slots.Nodup) : a ∉ l.slots ∧ a ∉ r.slots ∧ a ∉ zs z ∧ (l.slots ++ r.slots).Nodup ∧ (zs z).Nodup ∧ (∀ y ∈ l.slots, y ∉ zs z) ∧ ∀ y ∈ r.slots, y ∉ zs z := by
  have h1 := (fillZ_perm z (node a l r)).nodup_iff.1 h
  rw [List.nodup_append, slots, List.nodup_cons, List.mem_append] at h1
  obtain ⟨⟨h2, h3⟩, h4, h5⟩ := h1
  exact ⟨fun h => h2 (Or.inl h), fun h => h2 (Or.inr h), fun h => h5 a (by simp) a h rfl, h3, h4, fun y hy hz => h5 y (by simp [hy]) y hz rfl, fun y hy hz => h5 y (by simp [hy]) y hz rfl⟩
end Tr
section
variable {n : Nat} {L : List Hg}
/-- A slot's children change sides. -/
theorem ks_turn {z : List Fr} {a : Int} {l r : Tr} (h : KStands L (Tr.fillZ z (.node a l r))) : KStands (turnL L a) (Tr.fillZ z (.node a r l)) ∧ KSame [a] L (turnL L a) := by
  have hrep := rep_fill.1 h.rep
  obtain ⟨nl, nr, nz, _, _, _, _⟩ := Tr.node_out h.nodup
  have hk : ∀ y, y ≠ a → ∀ s, kidL (turnL L a) y s = kidL L y s := fun y hy s => by rw [kid_turn, if_neg hy]
  have hS : KSame [a] L (turnL L a) := ⟨fun y hy s => hk y (fun e => hy (by simp [e])) s, fun y _ => up_turn L a y⟩
  have et := Tr.zip_node z a l r r l
  refine ⟨⟨?_, fun x hx => ?_, ?_⟩, hS⟩
  · rw [← et]
    refine rep_fill.2 ⟨⟨rfl, ?_, ?_⟩, repZ_congr (fun y hy => hk y fun e => nz (by rw [← e]; exact hy)) hrep.2⟩
    · rw [kid_turn, if_pos rfl]
      exact rep_congr (fun y hy => hk y fun e => nr (by rw [← e]; exact hy)) hrep.1.2.2
    · rw [kid_turn, if_pos rfl]
      exact rep_congr (fun y hy => hk y fun e => nl (by rw [← e]; exact hy)) hrep.1.2.1
  · rw [← et] at hx
    rw [up_turn]; exact h.root x hx
  · have p1 := Tr.fillZ_perm z (.node a l r)
    have p2 := Tr.fillZ_perm z (.node a r l)
    refine (List.Perm.trans p2 ((List.Perm.append_right _ ?_).trans p1.symm)).nodup_iff.2 h.nodup
    exact (List.perm_append_comm).cons _
/-- What hangs below the frame g comes off. -/
theorem ks_cut (I : GInv n L) {g : Fr} {z : List Fr} {t : Tr} {x : Int} (h : KStands L (Tr.fillZ (g :: z) t)) (hx : t.top = some x) :
    upL L x = some g.x ∧ kidL L g.x g.s = some x ∧ KStands (cutL L x) (Tr.fillZ (g :: z) .nil) ∧ KStands (cutL L x) t ∧ KSame [g.x, x] L (cutL L x) := by
  have hrep := rep_fill.1 h.rep
  rw [hx] at hrep
  obtain ⟨nf, nt, nz, hap⟩ := frame_out h.nodup
  obtain ⟨k1, k2, k3, k4, k5, k6⟩ := cut_frame I hrep.2 nf
  have et := Tr.zip_top z g t .nil
  have hnd := (Tr.fillZ_perm (g :: z) t).nodup_iff.1 h.nodup
  refine ⟨up_frame I hrep.2, hrep.2.1, ⟨?_, fun y hy => ?_, ?_⟩, ⟨?_, fun y hy => ?_, (List.nodup_append.1 hnd).1⟩, ⟨fun y hy => k6 y fun e => hy (by simp [e]), fun y hy => k5 y fun e => hy (by simp [e])⟩⟩
  · rw [← et]
    exact rep_fill.2 ⟨rfl, k1, k2, k3⟩
  · rw [← et] at hy
    by_cases e : y = x
    · rw [e]; exact k4
    · rw [k5 y e]; exact h.root y hy
  · have p := Tr.fillZ_perm (g :: z) .nil
    exact p.nodup_iff.2 nz
  · rw [hx]
    exact rep_congr (fun y hy => k6 y fun e => nt (by rw [← e]; exact hy)) hrep.1
  · rw [hx] at hy
    cases hy
    exact k4
/-- A tree is hung below the frame g, where nothing is. -/
theorem ks_hang (I : GInv n L) {g : Fr} {z : List Fr} {M : Tr} {m : Int} (h : KStands L (Tr.fillZ (g :: z) .nil)) (hM : KStands L M) (hm : M.top = some m) (hd : ∀ y ∈ Tr.zs (g :: z), y ∉ M.slots) (hg : inN n g.x) (hmn : inN n m) :
    hangB n L g.x m g.s = true ∧ ¬ aboveL L m g.x ∧ KStands (hangL n L g.x m g.s) (Tr.fillZ (g :: z) M) ∧ KSame [g.x, m] L (hangL n L g.x m g.s) := by
  have hrep := rep_fill.1 h.rep
  obtain ⟨nf, nt, nz, hap⟩ := frame_out h.nodup
  have hk : kidL L g.x g.s = none := hrep.2.1
  have hgM : g.x ∉ M.slots := hd g.x (by simp [Tr.zs])
  have hmM := Tr.top_in hm
  have hxm : g.x ≠ m := fun e => hgM (by rw [e]; exact hmM)
  have hum := hM.root m hm
  have hB : hangB n L g.x m g.s = true := by
    unfold hangB
    rw [hum, hk, has_in.2 hg, has_in.2 hmn]
    simp [hxm]
  have hL : hangL n L g.x m g.s = L ++ [⟨g.x, m, g.s⟩] := by unfold hangL; rw [if_pos hB]
  have hab : ¬ aboveL L m g.x := fun h => by
    have h1 := (mem_all I hmn).2 h
    have h2 := rep_all I (hM.rep' hm) (fun y hy => by cases hy; exact hmn)
    exact hgM (by rw [← h2]; exact h1)
  rw [hL]
  have hkids := hang_kids (m := m) hk
  have hups := hang_ups (a := g.x) (s := g.s) hum
  have hko : ∀ y, y ≠ g.x → ∀ s, kidL (L ++ [⟨g.x, m, g.s⟩]) y s = kidL L y s := fun y hy s => by rw [hkids, if_neg (fun h => hy h.1)]
  have huo : ∀ y, y ≠ m → upL (L ++ [⟨g.x, m, g.s⟩]) y = upL L y := fun y hy => by rw [hups, if_neg hy]
  have et := Tr.zip_top z g .nil M
  refine ⟨hB, hab, ⟨?_, fun y hy => ?_, ?_⟩, ⟨fun y hy => hko y fun e => hy (by simp [e]), fun y hy => huo y fun e => hy (by simp [e])⟩⟩
  · rw [← et]
    refine rep_fill.2 ⟨?_, ?_⟩
    · exact rep_congr (fun y hy => hko y fun e => hgM (by rw [← e]; exact hy)) hM.rep
    · rw [hm]
      have h2 := repZ_place (kid' := kidL (L ++ [⟨g.x, m, g.s⟩])) nf (by rw [hkids, if_neg (by cases g.s <;> simp)]) hko hrep.2
      rw [hkids, if_pos ⟨rfl, rfl⟩] at h2
      exact h2
  · rw [← et] at hy
    have h1 := h.root y hy
    obtain ⟨y', e1, h2⟩ := Tr.zip_top_in z g .nil
    have e2 : y = y' := by rw [hy] at h2; injection h2
    subst e2
    rw [huo y fun e => hd y e1 (by rw [e]; exact hmM)]
    exact h1
  · refine (Tr.fillZ_perm (g :: z) M).nodup_iff.2 ?_
    rw [List.nodup_append]
    exact ⟨hM.nodup, nz, fun a ha b hb e => hd b hb (by rw [← e]; exact ha)⟩
end
end Go.Proofs.YtkcicnflcilekaaGreat

namespace Go.Proofs.YtkcicnflcilekaaGreat
namespace Tr
variable {lt : Int → Int → Bool}
theorem merge_nil (b : Tr) : merge lt .nil b = b ∧ asked lt .nil b = 0 := by unfold merge asked; simp [melt]
theorem merge_yes {x y : Int} {l r l' r' : Tr} (h : lt x y = true) : merge lt (.node x l r) (.node y l' r') = .node x (merge lt r (.node y l' r')) l ∧ asked lt (.node x l r) (.node y l' r') = asked lt r (.node y l' r') + 1 := by
  have e : spine (.node x l r) + spine (.node y l' r') + 1 = (spine r + spine (.node y l' r') + 1) + 1 := by simp only [spine]; omega
  unfold merge asked
  rw [e]
  simp [melt, h]
theorem merge_no {x y : Int} {l r l' r' : Tr} (h : lt x y = false) : merge lt (.node x l r) (.node y l' r') = .node y (merge lt r' (.node x l r)) l' ∧ asked lt (.node x l r) (.node y l' r') = asked lt r' (.node x l r) + 1 := by
  have e : spine (.node x l r) + spine (.node y l' r') + 1 = (spine r' + spine (.node x l r) + 1) + 1 := by simp only [spine]; omega
  unfold merge asked
  rw [e]
  simp [melt, h]
theorem merge_ok (P : Int → Prop) (irr : ∀ x, P x → lt x x = false) (asy : ∀ x y, P x → P y → lt x y = true → lt y x = false) (trans : ∀ x y z, P x → P y → P z → lt x y = false → lt y z = false → lt x z = false)
    {a b : Tr} (pa : ∀ z ∈ a.slots, P z) (pb : ∀ z ∈ b.slots, P z) (ha : Ok lt a) (hb : Ok lt b) : Ok lt (merge lt a b) :=
  melt_ok P irr asy trans _ a b (by omega) pa pb ha hb
/-- How much a slot has below it, itself too. -/
def sub : Tr → Int → Nat
  | nil, _ => 0
  | node x l r, a => if x = a then size l + size r + 1 else max (sub l a) (sub r a)
theorem sub_out : ∀ {t : Tr} {a : Int}, a ∉ t.slots → sub t a = 0
  | nil, _, _ => rfl
  | node x l r, a, h => by
    simp only [slots, List.mem_cons, List.mem_append] at h
    unfold sub
    rw [if_neg (fun e => h (Or.inl e.symm)), sub_out (fun e => h (Or.inr (Or.inl e))), sub_out (fun e => h (Or.inr (Or.inr e)))]
    rfl
theorem sub_sit {f : Fr} {t : Tr} {a : Int} (h : a ∉ zs [f]) : sub (sit f t) a = sub t a := by
  obtain ⟨s, x, o⟩ := f
  simp only [zs, List.mem_cons, List.mem_append, List.not_mem_nil, or_false] at h
  have h1 : x ≠ a := fun e => h (Or.inl e.symm)
  have h2 := sub_out (t := o) (fun e => h (Or.inr e))
  cases s
  · show (if x = a then size t + size o + 1 else max (sub t a) (sub o a)) = _
    rw [if_neg h1, h2, Nat.max_zero]
  · show (if x = a then size o + size t + 1 else max (sub o a) (sub t a)) = _
    rw [if_neg h1, h2, Nat.zero_max]
theorem sub_fill : ∀ {z : List Fr} {t : Tr} {a : Int}, a ∉ zs z → sub (fillZ z t) a = sub t a
  | [], _, _, _ => rfl
  | f :: z, t, a, h => by
    have h1 : a ∉ zs [f] ∧ a ∉ zs z := by
      simp only [zs, List.mem_cons, List.mem_append, List.not_mem_nil, or_false] at h ⊢
      exact ⟨fun e => h (by rcases e with e | e; exact Or.inl e; exact Or.inr (Or.inl e)), fun e => h (Or.inr (Or.inr e))⟩
    show sub (fillZ z (sit f t)) a = _
    rw [sub_fill h1.2, sub_sit h1.1]
theorem sub_node (x : Int) (l r : Tr) : sub (node x l r) x = size l + size r + 1 := by unfold sub; rw [if_pos rfl]
end Tr
/-- Steps more, as far as they are counted. -/
def stp (s : Int) (k : Nat) : Int := min (s + k) 4611686018427387904
theorem stp_zero {s : Int} (h : s ≤ 4611686018427387904) : stp s 0 = s := by unfold stp; omega
theorem stp_one {s : Int} (h : 0 ≤ s ∧ s ≤ 4611686018427387904) (k : Nat) : addI (stp s k) 1 = stp s (k + 1) := by
  unfold addI stp
  repeat' split
  all_goals omega
/-- Of two slots one is ahead. -/
theorem ahead_flip {W : WS} {a b : Int} (ha : inW W a = true) (hb : inW W b = true) (hne : a ≠ b) : aheadW W a b = !aheadW W b a := by
  cases h : aheadW W b a
  · exact dahead_total hb ha (fun e => hne e.symm) h
  · exact ahead_asym h
theorem kmerge_ok {W : WS} {a b : Tr} (ha : ∀ z ∈ a.slots, inW W z = true) (hb : ∀ z ∈ b.slots, inW W z = true) (ka : Tr.Ok (aheadW W) a) (kb : Tr.Ok (aheadW W) b) : Tr.Ok (aheadW W) (Tr.merge (aheadW W) a b) :=
  Tr.merge_ok (fun z => inW W z = true) (fun x _ => dahead_irr W x) (fun _ _ _ _ h => ahead_asym h) (fun _ _ _ h1 h2 h3 => ahead_neg h1 h2 h3) ha hb ka kb
/-- Two trees that stand by themselves. -/
structure KTwo (W : WS) (n : Nat) (L : List Hg) (ta tb : Tr) : Prop where
  cells : W.cells.length = n
  sa : KStands L ta
  sb : KStands L tb
  apart : ∀ x ∈ ta.slots, x ∉ tb.slots
  ins : ∀ x ∈ ta.slots ++ tb.slots, inW W x = true
/-- How far down a merge has come: a is ahead of all that is left, of which X is the other tree; T is what comes of it, by K questions. -/
structure KDown (W : WS) (n : Nat) (L0 : List Hg) (S : List Int) (T : Tr) (K : Nat) (L : List Hg) (z : List Fr) (a : Int) (l r X : Tr) (b : Int) (k : Nat) : Prop where
  cells : W.cells.length = n
  st : KStands L (Tr.fillZ z (.node a l r))
  sx : KStands L X
  top : X.top = some b
  same : KSame S L0 L
  mem : ∀ y ∈ (Tr.fillZ z (.node a l r)).slots ++ X.slots, y ∈ S
  ins : ∀ y ∈ S, inW W y = true
  apart : ∀ y ∈ (Tr.fillZ z (.node a l r)).slots, y ∉ X.slots
  goal : Tr.fillZ z (.node a (Tr.merge (aheadW W) r X) l) = T
  paid : k + Tr.asked (aheadW W) r X = K
section
variable {W : WS} {n : Nat} {L0 L : List Hg} {S : List Int} {T : Tr} {K k : Nat} {z : List Fr} {a b : Int} {l r X : Tr}
theorem KDown.inn (D : KDown W n L0 S T K L z a l r X b k) {y : Int} (hy : y ∈ S) : inN n y := by
  obtain ⟨i, rfl, hi⟩ := in_n D.cells (D.ins y hy)
  exact ⟨by omega, by omega⟩
theorem KDown.ain (D : KDown W n L0 S T K L z a l r X b k) : a ∈ S ∧ b ∈ S := by
  refine ⟨D.mem a (List.mem_append_left _ ((Tr.fillZ_perm _ _).mem_iff.2 (List.mem_append_left _ (by simp [Tr.slots])))), D.mem b (List.mem_append_right _ (Tr.top_in D.top))⟩
theorem KDown.size (D : KDown W n L0 S T K L z a l r X b k) : T.sub a = Tr.size (Tr.merge (aheadW W) r X) + Tr.size l + 1 := by
  rw [← D.goal, Tr.sub_fill (Tr.node_out D.st.nodup).2.2.1, Tr.sub_node]
/-- A slot's children have changed sides, and nothing is at the left: the other tree comes there. -/
theorem down_end (I : GInv n L) (D : KDown W n L0 S T K L z a l .nil X b k) : kidL (turnL L a) a false = none ∧ hangB n (turnL L a) a b false = true ∧ ¬ aboveL (turnL L a) b a ∧ KStands (hangL n (turnL L a) a b false) T ∧ KSame S L0 (hangL n (turnL L a) a b false) ∧ k = K := by
  obtain ⟨h1, h2⟩ := ks_turn D.st
  have ha := D.ain
  have hout : ∀ y ∈ X.slots, y ∉ [a] := fun y hy e => by
    rw [List.mem_singleton] at e
    exact D.apart a ((Tr.fillZ_perm _ _).mem_iff.2 (List.mem_append_left _ (by simp [Tr.slots]))) (by rw [← e]; exact hy)
  have h3 : KStands (turnL L a) (Tr.fillZ (⟨false, a, l⟩ :: z) .nil) := h1
  have h4 := ks_hang (inv_turn I a) h3 (D.sx.same h2 hout) D.top (fun y hy => ?_) (D.inn ha.1) (D.inn ha.2)
  · obtain ⟨h5, h6, h7, h8⟩ := h4
    have e := (Tr.merge_nil (lt := aheadW W) X)
    have hg := D.goal
    have hp := D.paid
    rw [e.1] at hg
    rw [e.2] at hp
    refine ⟨rep_top (rep_fill.1 h1.rep).1.2.1, h5, h6, by rw [← hg]; exact h7, D.same.trans ((h2.mono fun y hy => ?_).trans (h8.mono fun y hy => ?_)), hp⟩
    · rw [List.mem_singleton] at hy; rw [hy]; exact ha.1
    · simp only [List.mem_cons, List.not_mem_nil, or_false] at hy
      rcases hy with e | e
      · rw [e]; exact ha.1
      · rw [e]; exact ha.2
  · refine D.apart y ((Tr.fillZ_perm _ _).mem_iff.2 ?_)
    simp only [Tr.zs, Tr.slots, List.mem_cons, List.mem_append] at hy ⊢
    rcases hy with h | h | h
    · exact Or.inl (Or.inl h)
    · exact Or.inl (Or.inr (Or.inl h))
    · exact Or.inr h
/-- .. and something is there: it comes off. -/
structure KOff (W : WS) (n : Nat) (L0 : List Hg) (S : List Int) (T : Tr) (K : Nat) (L : List Hg) (z : List Fr) (a : Int) (l r X : Tr) (y b : Int) (k : Nat) : Prop where
  cells : W.cells.length = n
  st : KStands L (Tr.fillZ (⟨false, a, l⟩ :: z) .nil)
  sr : KStands L r
  sx : KStands L X
  topr : r.top = some y
  topx : X.top = some b
  same : KSame S L0 L
  mem : ∀ y ∈ Tr.zs (⟨false, a, l⟩ :: z) ++ (r.slots ++ X.slots), y ∈ S
  ins : ∀ y ∈ S, inW W y = true
  nodup : (Tr.zs (⟨false, a, l⟩ :: z) ++ (r.slots ++ X.slots)).Nodup
  goal : Tr.fillZ z (.node a (Tr.merge (aheadW W) r X) l) = T
  paid : k + Tr.asked (aheadW W) r X = K
theorem down_cut (I : GInv n L) (D : KDown W n L0 S T K L z a l r X b k) {y : Int} (hr : r.top = some y) : kidL (turnL L a) a false = some y ∧ KOff W n L0 S T K (cutL (turnL L a) y) z a l r X y b k := by
  obtain ⟨h1, h2⟩ := ks_turn D.st
  have h3 : KStands (turnL L a) (Tr.fillZ (⟨false, a, l⟩ :: z) r) := h1
  obtain ⟨_, h4, h5, h6, h7⟩ := ks_cut (inv_turn I a) h3 hr
  have ha := D.ain
  have hpm := Tr.fillZ_perm z (.node a l r)
  have hyr := Tr.top_in hr
  have hyT : y ∈ (Tr.fillZ z (.node a l r)).slots := hpm.mem_iff.2 (List.mem_append_left _ (by simp [Tr.slots, hyr]))
  have haT : a ∈ (Tr.fillZ z (.node a l r)).slots := hpm.mem_iff.2 (List.mem_append_left _ (by simp [Tr.slots]))
  have hpm2 : (Tr.zs (⟨false, a, l⟩ :: z) ++ (r.slots ++ X.slots)).Perm ((Tr.fillZ z (.node a l r)).slots ++ X.slots) := by
    rw [List.perm_iff_count] at *
    intro q
    have := hpm q
    simp only [Tr.zs, Tr.slots, List.count_append, List.count_cons] at this ⊢
    omega
  refine ⟨h4, D.cells, h5, h6, ((D.sx.same h2 fun q hq e => ?_).same h7 fun q hq e => ?_), hr, D.top, D.same.trans ((h2.mono fun q hq => ?_).trans (h7.mono fun q hq => ?_)), fun q hq => D.mem q (hpm2.mem_iff.1 hq), D.ins, hpm2.nodup_iff.2 ?_, D.goal, D.paid⟩
  · rw [List.mem_singleton] at e; exact D.apart a haT (by rw [← e]; exact hq)
  · simp only [List.mem_cons, List.not_mem_nil, or_false] at e
    rcases e with e | e
    · exact D.apart a haT (by rw [← e]; exact hq)
    · exact D.apart y hyT (by rw [← e]; exact hq)
  · rw [List.mem_singleton] at hq; rw [hq]; exact ha.1
  · simp only [List.mem_cons, List.not_mem_nil, or_false] at hq
    rcases hq with e | e
    · rw [e]; exact ha.1
    · rw [e]; exact D.mem y (List.mem_append_left _ hyT)
  · rw [List.nodup_append]
    exact ⟨D.st.nodup, D.sx.nodup, fun p hp q hq e => D.apart p hp (by rw [e]; exact hq)⟩
theorem KOff.yin {y : Int} (D : KOff W n L0 S T K L z a l r X y b k) : a ∈ S ∧ y ∈ S ∧ b ∈ S ∧ y ≠ b := by
  have h1 := Tr.top_in D.topr
  have h2 := Tr.top_in D.topx
  refine ⟨D.mem a (by simp [Tr.zs]), D.mem y (by simp [h1]), D.mem b (by simp [h2]), fun e => ?_⟩
  have h3 := (List.nodup_append.1 (List.nodup_append.1 D.nodup).2.1).2.2
  exact h3 y h1 b h2 e
/-- The one of the two that is ahead is hung there; the other one is what is left. -/
theorem down_next {y : Int} (I : GInv n L) (D : KOff W n L0 S T K L z a l r X y b k) : ∃ (wn lo : Int) (l' r' X' : Tr), wn = (if aheadW W b y then b else y) ∧ lo = (if aheadW W b y then y else b) ∧
    hangB n L a wn false = true ∧ ¬ aboveL L wn a ∧ KDown W n L0 S T K (hangL n L a wn false) (⟨false, a, l⟩ :: z) wn l' r' X' lo (k + 1) ∧ T.sub wn < T.sub a := by
  obtain ⟨ha, hy, hb, hyb⟩ := D.yin
  have hinn : ∀ q ∈ S, inN n q := fun q hq => by
    obtain ⟨i, rfl, hi⟩ := in_n D.cells (D.ins q hq)
    exact ⟨by omega, by omega⟩
  obtain ⟨rl, rr, er⟩ := Tr.top_node D.topr
  obtain ⟨xl, xr, ex⟩ := Tr.top_node D.topx
  have hf := ahead_flip (D.ins y hy) (D.ins b hb) hyb
  have hnd := D.nodup
  rw [List.nodup_append, List.nodup_append] at hnd
  obtain ⟨n1, ⟨n2, n3, n4⟩, n5⟩ := hnd
  have hS := D.same
  have key : ∀ (wn lo : Int) (A X' : Tr), A.top = some wn → X'.top = some lo → KStands L A → KStands L X' → (∀ q ∈ A.slots, q ∈ r.slots ++ X.slots) → (∀ q ∈ X'.slots, q ∈ r.slots ++ X.slots) → (∀ q ∈ A.slots, q ∉ X'.slots) → wn ∈ S →
      (∀ l' r', A = .node wn l' r' → Tr.merge (aheadW W) r X = .node wn (Tr.merge (aheadW W) r' X') l' ∧ Tr.asked (aheadW W) r X = Tr.asked (aheadW W) r' X' + 1) →
      ∃ l' r', hangB n L a wn false = true ∧ ¬ aboveL L wn a ∧ KDown W n L0 S T K (hangL n L a wn false) (⟨false, a, l⟩ :: z) wn l' r' X' lo (k + 1) ∧ T.sub wn < T.sub a := by
    intro wn lo A X' tA tX sA sX mA mX hap hw hm
    obtain ⟨l', r', rfl⟩ := Tr.top_node tA
    obtain ⟨e1, e2⟩ := hm l' r' rfl
    obtain ⟨g1, g2, g3, g4⟩ := ks_hang I (g := ⟨false, a, l⟩) (z := z) D.st sA tA (fun q hq hm => n5 q hq q (mA q hm) rfl) (hinn a ha) (hinn wn hw)
    have hmem : ∀ q ∈ (Tr.fillZ (⟨false, a, l⟩ :: z) (.node wn l' r')).slots, q ∈ (Tr.node wn l' r').slots ∨ q ∈ Tr.zs (⟨false, a, l⟩ :: z) := fun q hq => List.mem_append.1 ((Tr.fillZ_perm _ _).mem_iff.1 hq)
    have hapX : ∀ q ∈ X'.slots, q ∉ [a, wn] := fun q hq e => by
      simp only [List.mem_cons, List.not_mem_nil, or_false] at e
      rcases e with e | e
      · exact n5 a (by simp [Tr.zs]) q (mX q hq) e.symm
      · exact hap wn (by simp [Tr.slots]) (by rw [← e]; exact hq)
    have DD : KDown W n L0 S T K (hangL n L a wn false) (⟨false, a, l⟩ :: z) wn l' r' X' lo (k + 1) := by
      refine ⟨D.cells, g3, sX.same g4 hapX, tX, hS.trans (g4.mono fun q hq => ?_), fun q hq => ?_, D.ins, fun q hq hm => ?_, ?_, ?_⟩
      · simp only [List.mem_cons, List.not_mem_nil, or_false] at hq
        rcases hq with e | e
        · rw [e]; exact ha
        · rw [e]; exact hw
      · rcases List.mem_append.1 hq with h | h
        · rcases hmem q h with h | h
          · exact D.mem q (List.mem_append_right _ (mA q h))
          · exact D.mem q (List.mem_append_left _ h)
        · exact D.mem q (List.mem_append_right _ (mX q h))
      · rcases hmem q hq with h | h
        · exact hap q h hm
        · exact n5 q h q (mX q hm) rfl
      · rw [← D.goal, e1]; rfl
      · have := D.paid; omega
    refine ⟨l', r', g1, g2, DD, ?_⟩
    have s1 := DD.size
    have s2 : T.sub a = Tr.size (Tr.merge (aheadW W) r X) + Tr.size l + 1 := by
      have hz : a ∉ Tr.zs z := by
        have := n1
        rw [Tr.zs, List.nodup_cons, List.mem_append] at this
        exact fun h => this.1 (Or.inr h)
      rw [← D.goal, Tr.sub_fill hz, Tr.sub_node]
    rw [s1, s2, e1]
    simp only [Tr.size]
    omega
  cases hB : aheadW W b y
  · have hyb2 : aheadW W y b = true := by rw [hf, hB]; rfl
    obtain ⟨l', r', h1, h2, h3, h4⟩ := key y b r X D.topr D.topx D.sr D.sx (fun q h => List.mem_append_left _ h) (fun q h => List.mem_append_right _ h) (fun q h1 h2 => n4 q h1 q h2 rfl) hy (fun l' r' e => by rw [e, ex]; exact Tr.merge_yes hyb2)
    exact ⟨y, b, l', r', X, rfl, rfl, h1, h2, h3, h4⟩
  · have hyb2 : aheadW W y b = false := by rw [hf, hB]; rfl
    obtain ⟨l', r', h1, h2, h3, h4⟩ := key b y X r D.topx D.topr D.sx D.sr (fun q h => List.mem_append_right _ h) (fun q h => List.mem_append_left _ h) (fun q h1 h2 => n4 q h2 q h1 rfl) hb (fun l' r' e => by rw [e, er]; exact Tr.merge_no hyb2)
    exact ⟨b, y, l', r', r, rfl, rfl, h1, h2, h3, h4⟩
/-- Ahead of the first round. -/
theorem down_start {ta tb : Tr} (H : KTwo W n L ta tb) (ea : ta.top = some a) (eb : tb.top = some b) : ∃ (wn lo : Int) (l r X : Tr), wn = (if aheadW W b a then b else a) ∧ lo = (if aheadW W b a then a else b) ∧
    KDown W n L (ta.slots ++ tb.slots) (Tr.merge (aheadW W) ta tb) (Tr.asked (aheadW W) ta tb) L [] wn l r X lo 1 ∧ (Tr.merge (aheadW W) ta tb).top = some wn := by
  obtain ⟨l, r, rfl⟩ := Tr.top_node ea
  obtain ⟨l2, r2, rfl⟩ := Tr.top_node eb
  have hab : a ≠ b := fun e => H.apart a (by simp [Tr.slots]) (by rw [e]; simp [Tr.slots])
  have hf := ahead_flip (H.ins a (by simp [Tr.slots])) (H.ins b (by simp [Tr.slots])) hab
  cases hB : aheadW W b a
  · have h2 : aheadW W a b = true := by rw [hf, hB]; rfl
    obtain ⟨e1, e2⟩ := Tr.merge_yes (l := l) (r := r) (l' := l2) (r' := r2) h2
    refine ⟨a, b, l, r, .node b l2 r2, rfl, rfl, ⟨H.cells, H.sa, H.sb, rfl, KSame.refl _ _, fun y hy => hy, H.ins, H.apart, ?_, ?_⟩, ?_⟩
    · rw [e1]; rfl
    · rw [e2]; omega
    · rw [e1]; rfl
  · have h2 : aheadW W a b = false := by rw [hf, hB]; rfl
    obtain ⟨e1, e2⟩ := Tr.merge_no (l := l) (r := r) (l' := l2) (r' := r2) h2
    refine ⟨b, a, l2, r2, .node a l r, rfl, rfl, ⟨H.cells, H.sb, H.sa, rfl, KSame.refl _ _, fun y hy => ?_, H.ins, fun y h1 h2 => H.apart y h2 h1, ?_, ?_⟩, ?_⟩
    · exact (List.mem_append.1 hy).elim (fun h => List.mem_append_right _ h) (fun h => List.mem_append_left _ h)
    · rw [e1]; rfl
    · rw [e2]; omega
    · rw [e1]; rfl
end
end Go.Proofs.YtkcicnflcilekaaGreat
