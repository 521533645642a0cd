/- Merged of TopsMath, SkewInv, Less. -/
import Derived.Test.YtehoejoeoaimjaaZMap
import Derived.Test.YtehoejoeoaimjaaSpineObj
import Derived.Test.YtehoejoeoaimjaaTrHang
import Derived.Test.YtehoejoeoaimjaaLaw
import Derived.Test.YtehoejoeoaimjaaNestMath
import Derived.Test.YtehoejoeoaimjaaChecked
import Derived.WalkLawsBesides
import Derived.WalkSpells
import Derived.IntWalk
import Derived.StillTailTactics
import Derived.BigRegion
namespace Go.Proofs.Ytehoejoeoaimjaa

/-- What is topmost in each heap. -/
def topsT (Ts : Nat → Tr) (h : Int) : Option Int := if 0 ≤ h then (Ts h.toNat).top else none
theorem topsT_nat (Ts : Nat → Tr) (h : Nat) : topsT Ts h = (Ts h).top := by simp [topsT]
theorem topsT_upd (Ts : Nat → Tr) (h : Nat) (T : Tr) : topsT (updT Ts h T) = setZ (topsT Ts) h T.top := by
  funext i
  unfold topsT setZ updT
  by_cases e : i = h
  · subst e; simp
  · rw [if_neg e]
    by_cases hi : 0 ≤ i
    · have : i.toNat ≠ h := by omega
      simp [hi, this]
    · simp [hi]
/-- How many heaps have something in them. -/
def cntT (Ts : Nat → Tr) : Nat := (List.range 65537).countP fun h => (Ts h).top.isSome
theorem cntT_le (Ts : Nat → Tr) : cntT Ts ≤ 65537 := by
  have := List.countP_le_length (p := fun h => (Ts h).top.isSome) (l := List.range 65537)
  rw [List.length_range] at this
  exact this
theorem count_range (p p' : Nat → Bool) (h : Nat) (hp : ∀ i, i ≠ h → p' i = p i) : ∀ N, h < N → (List.range N).countP p' + (if p h then 1 else 0) = (List.range N).countP p + (if p' h then 1 else 0) := by
  have hlow : ∀ N, N ≤ h → (List.range N).countP p' = (List.range N).countP p := fun N hN => List.countP_congr fun i hi => by
    rw [List.mem_range] at hi
    rw [hp i (by omega)]
  intro N
  induction N with
  | zero => intro hN; omega
  | succ N ih =>
    intro hN
    rw [List.range_succ, List.countP_append, List.countP_append]
    simp only [List.countP_singleton]
    by_cases e : N = h
    · subst e
      rw [hlow N (Nat.le_refl _)]
      omega
    · have := ih (by omega)
      rw [hp N e]
      omega
theorem cntT_upd (Ts : Nat → Tr) {h : Nat} (hh : h < 65537) (T : Tr) : cntT (updT Ts h T) + (if (Ts h).top.isSome then 1 else 0) = cntT Ts + (if T.top.isSome then 1 else 0) := by
  have := count_range (fun h => (Ts h).top.isSome) (fun i => (updT Ts h T i).top.isSome) h (fun i hi => by rw [updT_ne _ _ hi]) 65537 hh
  simp only [updT_at] at this
  exact this
theorem cntT_put (Ts : Nat → Tr) {h : Nat} (hh : h < 65537) {T : Tr} (hT : T.top.isSome = true) : (if (topsT Ts h).isSome then cntT Ts else cntT Ts + 1) = cntT (updT Ts h T) := by
  have := cntT_upd Ts hh T
  rw [hT] at this
  rw [topsT_nat]
  cases h2 : (Ts h).top.isSome
  · rw [h2] at this; simp only [Bool.false_eq_true, if_false, if_true] at this ⊢; omega
  · rw [h2] at this; simp only [if_true] at this ⊢; omega
theorem cntT_del (Ts : Nat → Tr) {h : Nat} (hh : h < 65537) : (if (topsT Ts h).isSome then cntT Ts - 1 else cntT Ts) = cntT (updT Ts h .nil) := by
  have := cntT_upd Ts hh .nil
  have e : Tr.nil.top.isSome = false := rfl
  rw [e] at this
  rw [topsT_nat]
  cases h2 : (Ts h).top.isSome
  · rw [h2] at this; simp only [Bool.false_eq_true, if_false] at this ⊢; omega
  · rw [h2] at this; simp only [Bool.false_eq_true, if_false, if_true] at this ⊢; omega
/-- .. where what is topmost stays. -/
theorem tops_same (Ts : Nat → Tr) {h : Nat} {T : Tr} (e : T.top = (Ts h).top) : topsT (updT Ts h T) = topsT Ts ∧ cntT (updT Ts h T) = cntT Ts := by
  have h1 : ∀ i, (updT Ts h T i).top = (Ts i).top := fun i => by
    by_cases e2 : i = h
    · rw [e2, updT_at, e]
    · rw [updT_ne _ _ e2]
  refine ⟨?_, ?_⟩
  · funext i; unfold topsT; simp only [h1]
  · unfold cntT; simp only [h1]
theorem updT_same (Ts : Nat → Tr) (h : Nat) : updT Ts h (Ts h) = Ts := by
  funext i; unfold updT; split
  · rename_i e; rw [e]
  · rfl
theorem updT_twice (Ts : Nat → Tr) (h : Nat) (a b : Tr) : updT (updT Ts h a) h b = updT Ts h b := by
  funext i; unfold updT; split <;> rfl
theorem lput_len (W : WS) (y x k q : Int) : (putW W y x k q).cells.length = W.cells.length := by
  unfold putW; split
  · simp
  · rfl
theorem ldrop_len (W : WS) (x : Int) : (dropW W x).cells.length = W.cells.length := by
  unfold dropW; split
  · simp
  · rfl
theorem llower_len (W : WS) (x k q : Int) : (lowerW W x k q).cells.length = W.cells.length := by
  unfold lowerW; split
  · simp
  · rfl
theorem ljoin_len (W : WS) (a b : Int) : (joinW W a b).cells.length = W.cells.length := by
  unfold joinW; split
  · simp
  · rfl
theorem in_n {W : WS} {n : Nat} (hW : W.cells.length = n) {x : Int} (h : inW W x = true) : ∃ i : Nat, x = i ∧ i < n := by
  obtain ⟨i, rfl, hi, _⟩ := in_nat h
  exact ⟨i, rfl, by omega⟩
theorem in_int64 {W : WS} (hf : W.Fit) {x : Int} (h : inW W x = true) : inInt x := by
  obtain ⟨i, rfl, hi, _⟩ := in_nat h
  have := hf.cap
  exact ⟨by omega, by omega⟩
end Go.Proofs.Ytehoejoeoaimjaa

namespace Go.Proofs.Ytehoejoeoaimjaa

/-- A tree by itself: what hangs where is it, and its topmost hangs below nothing. -/
structure KStands (L : List Hg) (t : Tr) : Prop where
  rep : RepT (kidL L) t.top t
  root : ∀ x, t.top = some x → upL L x = none
  nodup : t.slots.Nodup
/-- All but the slots S hang as they did. -/
structure KSame (S : List Int) (L L' : List Hg) : Prop where
  kid : ∀ z, z ∉ S → ∀ s, kidL L' z s = kidL L z s
  up : ∀ z, z ∉ S → upL L' z = upL L z
section
variable {S S' : List Int} {L L' L'' : List Hg} {t : Tr}
theorem KSame.refl (S : List Int) (L : List Hg) : KSame S L L := ⟨fun _ _ _ => rfl, fun _ _ => rfl⟩
theorem KSame.trans (h : KSame S L L') (h2 : KSame S L' L'') : KSame S L L'' :=
  ⟨fun z hz s => (h2.kid z hz s).trans (h.kid z hz s), fun z hz => (h2.up z hz).trans (h.up z hz)⟩
theorem KSame.mono (h : KSame S L L') (hs : ∀ z ∈ S, z ∈ S') : KSame S' L L' :=
  ⟨fun z hz => h.kid z fun h => hz (hs z h), fun z hz => h.up z fun h => hz (hs z h)⟩
theorem KStands.nil (L : List Hg) : KStands L .nil := ⟨rfl, fun x h => (by cases h), List.nodup_nil⟩
theorem KStands.same (h : KStands L t) (hs : KSame S L L') (hd : ∀ x ∈ t.slots, x ∉ S) : KStands L' t :=
  ⟨rep_congr (fun x hx s => hs.kid x (hd x hx) s) h.rep, fun x hx => by rw [hs.up x (hd x (Tr.top_in hx))]; exact h.root x hx, h.nodup⟩
theorem KStands.rep' (h : KStands L t) {x : Int} (hx : t.top = some x) : RepT (kidL L) (some x) t := by rw [← hx]; exact h.rep
/-- All trees stand; what is in none hangs nowhere. -/
structure KInv (Ts : Nat → Tr) (L : List Hg) : Prop where
  all : ∀ h, KStands L (Ts h)
  alone : ∀ x, (∀ h, x ∉ (Ts h).slots) → upL L x = none ∧ ∀ s, kidL L x s = none
theorem kinv_new : KInv (fun _ => .nil) [] := ⟨fun _ => KStands.nil _, fun _ _ => ⟨rfl, fun _ => rfl⟩⟩
theorem KInv.change {Ts Ts' : Nat → Tr} (I : KInv Ts L) (hs : KSame S L L') (h1 : ∀ g, KStands L' (Ts' g) ∨ (Ts' g = Ts g ∧ ∀ x ∈ (Ts g).slots, x ∉ S))
    (h2 : ∀ x ∈ S, (∃ g, x ∈ (Ts' g).slots) ∨ (upL L' x = none ∧ ∀ s, kidL L' x s = none)) (h3 : ∀ g x, x ∈ (Ts g).slots → x ∉ S → ∃ g', x ∈ (Ts' g').slots) : KInv Ts' L' := by
  refine ⟨fun g => ?_, fun x hx => ?_⟩
  · rcases h1 g with h | ⟨h, hd⟩
    · exact h
    · rw [h]; exact (I.all g).same hs hd
  · by_cases hS : x ∈ S
    · rcases h2 x hS with ⟨g, hg⟩ | h
      · exact absurd hg (hx g)
      · exact h
    · have h4 := I.alone x fun g hg => by
        obtain ⟨g', hg'⟩ := h3 g x hg hS
        exact hx g' hg'
      exact ⟨by rw [hs.up x hS]; exact h4.1, fun s => by rw [hs.kid x hS s]; exact h4.2 s⟩
/-- One heap's tree becomes another one. -/
theorem KInv.upd {Ts : Nat → Tr} (I : KInv Ts L) (h : Nat) {T : Tr} (hs : KSame S L L') (hT : KStands L' T) (hd : ∀ g, g ≠ h → ∀ x ∈ (Ts g).slots, x ∉ S)
    (h2 : ∀ x ∈ S, x ∈ T.slots ∨ (upL L' x = none ∧ ∀ s, kidL L' x s = none)) (h3 : ∀ x ∈ (Ts h).slots, x ∈ S) : KInv (updT Ts h T) L' := by
  refine I.change hs (fun g => ?_) (fun x hx => ?_) (fun g x hg hx => ?_)
  · by_cases e : g = h
    · left; rw [e, updT_at]; exact hT
    · right; rw [updT_ne _ _ e]; exact ⟨rfl, hd g e⟩
  · rcases h2 x hx with h4 | h4
    · exact Or.inl ⟨h, by rw [updT_at]; exact h4⟩
    · exact Or.inr h4
  · by_cases e : g = h
    · rw [e] at hg; exact absurd (h3 x hg) hx
    · exact ⟨g, by rw [updT_ne _ _ e]; exact hg⟩
end
namespace Tr
/-- The topmost is the same, whatever is below a slot. -/
theorem zip_node : ∀ (z : List Fr) (a : Int) (l r l' r' : Tr), (fillZ z (node a l r)).top = (fillZ z (node a l' r')).top
  | [], _, _, _, _, _ => rfl
  | f :: z, _, _, _, _, _ => zip_top z f _ _
theorem node_out {z : List Fr} {a : Int} {l r : Tr} (h : (fillZ z (node a l r)).slots.Nodup) : a ∉ l.slots ∧ a ∉ r.slots ∧ a ∉ zs z ∧ (l.slots ++ r.slots).Nodup ∧ (zs z).Nodup ∧ (∀ y ∈ l.slots, y ∉ zs z) ∧ ∀ y ∈ r.slots, y ∉ zs z := by
  have h1 := (fillZ_perm z (node a l r)).nodup_iff.1 h
  rw [List.nodup_append, slots, List.nodup_cons, List.mem_append] at h1
  obtain ⟨⟨h2, h3⟩, h4, h5⟩ := h1
  exact ⟨fun h => h2 (Or.inl h), fun h => h2 (Or.inr h), fun h => h5 a (by simp) a h rfl, h3, h4, fun y hy hz => h5 y (by simp [hy]) y hz rfl, fun y hy hz => h5 y (by simp [hy]) y hz rfl⟩
end Tr
section
variable {n : Nat} {L : List Hg}
/-- A slot's children change sides. -/
theorem ks_turn {z : List Fr} {a : Int} {l r : Tr} (h : KStands L (Tr.fillZ z (.node a l r))) : KStands (turnL L a) (Tr.fillZ z (.node a r l)) ∧ KSame [a] L (turnL L a) := by
  have hrep := rep_fill.1 h.rep
  obtain ⟨nl, nr, nz, _, _, _, _⟩ := Tr.node_out h.nodup
  have hk : ∀ y, y ≠ a → ∀ s, kidL (turnL L a) y s = kidL L y s := fun y hy s => by rw [kid_turn, if_neg hy]
  have hS : KSame [a] L (turnL L a) := ⟨fun y hy s => hk y (fun e => hy (by simp [e])) s, fun y _ => up_turn L a y⟩
  have et := Tr.zip_node z a l r r l
  refine ⟨⟨?_, fun x hx => ?_, ?_⟩, hS⟩
  · rw [← et]
    refine rep_fill.2 ⟨⟨rfl, ?_, ?_⟩, repZ_congr (fun y hy => hk y fun e => nz (by rw [← e]; exact hy)) hrep.2⟩
    · rw [kid_turn, if_pos rfl]
      exact rep_congr (fun y hy => hk y fun e => nr (by rw [← e]; exact hy)) hrep.1.2.2
    · rw [kid_turn, if_pos rfl]
      exact rep_congr (fun y hy => hk y fun e => nl (by rw [← e]; exact hy)) hrep.1.2.1
  · rw [← et] at hx
    rw [up_turn]; exact h.root x hx
  · have p1 := Tr.fillZ_perm z (.node a l r)
    have p2 := Tr.fillZ_perm z (.node a r l)
    refine (List.Perm.trans p2 ((List.Perm.append_right _ ?_).trans p1.symm)).nodup_iff.2 h.nodup
    exact (List.perm_append_comm).cons _
/-- What hangs below the frame g comes off. -/
theorem ks_cut (I : GInv n L) {g : Fr} {z : List Fr} {t : Tr} {x : Int} (h : KStands L (Tr.fillZ (g :: z) t)) (hx : t.top = some x) :
    upL L x = some g.x ∧ kidL L g.x g.s = some x ∧ KStands (cutL L x) (Tr.fillZ (g :: z) .nil) ∧ KStands (cutL L x) t ∧ KSame [g.x, x] L (cutL L x) := by
  have hrep := rep_fill.1 h.rep
  rw [hx] at hrep
  obtain ⟨nf, nt, nz, hap⟩ := frame_out h.nodup
  obtain ⟨k1, k2, k3, k4, k5, k6⟩ := cut_frame I hrep.2 nf
  have et := Tr.zip_top z g t .nil
  have hnd := (Tr.fillZ_perm (g :: z) t).nodup_iff.1 h.nodup
  refine ⟨up_frame I hrep.2, hrep.2.1, ⟨?_, fun y hy => ?_, ?_⟩, ⟨?_, fun y hy => ?_, (List.nodup_append.1 hnd).1⟩, ⟨fun y hy => k6 y fun e => hy (by simp [e]), fun y hy => k5 y fun e => hy (by simp [e])⟩⟩
  · rw [← et]
    exact rep_fill.2 ⟨rfl, k1, k2, k3⟩
  · rw [← et] at hy
    by_cases e : y = x
    · rw [e]; exact k4
    · rw [k5 y e]; exact h.root y hy
  · have p := Tr.fillZ_perm (g :: z) .nil
    exact p.nodup_iff.2 nz
  · rw [hx]
    exact rep_congr (fun y hy => k6 y fun e => nt (by rw [← e]; exact hy)) hrep.1
  · rw [hx] at hy
    cases hy
    exact k4
theorem zs_nil (z : List Fr) (y : Int) : y ∈ (Tr.fillZ z .nil).slots ↔ y ∈ Tr.zs z := by
  rw [(Tr.fillZ_perm z .nil).mem_iff]; simp [Tr.slots]
/-- A tree is hung below the frame g, where nothing is. -/
theorem ks_hang (I : GInv n L) {g : Fr} {z : List Fr} {M : Tr} {m : Int} (h : KStands L (Tr.fillZ (g :: z) .nil)) (hM : KStands L M) (hm : M.top = some m) (hd : ∀ y ∈ Tr.zs (g :: z), y ∉ M.slots) (hg : inN n g.x) (hmn : inN n m) :
    hangB n L g.x m g.s = true ∧ ¬ aboveL L m g.x ∧ KStands (hangL n L g.x m g.s) (Tr.fillZ (g :: z) M) ∧ KSame [g.x, m] L (hangL n L g.x m g.s) := by
  have hrep := rep_fill.1 h.rep
  obtain ⟨nf, nt, nz, hap⟩ := frame_out h.nodup
  have hk : kidL L g.x g.s = none := hrep.2.1
  have hgM : g.x ∉ M.slots := hd g.x (by simp [Tr.zs])
  have hmM := Tr.top_in hm
  have hxm : g.x ≠ m := fun e => hgM (by rw [e]; exact hmM)
  have hum := hM.root m hm
  have hB : hangB n L g.x m g.s = true := by
    unfold hangB
    rw [hum, hk, has_in.2 hg, has_in.2 hmn]
    simp [hxm]
  have hL : hangL n L g.x m g.s = L ++ [⟨g.x, m, g.s⟩] := by unfold hangL; rw [if_pos hB]
  have hab : ¬ aboveL L m g.x := fun h => by
    have h1 := (mem_all I hmn).2 h
    have h2 := rep_all I (hM.rep' hm) (fun y hy => by cases hy; exact hmn)
    exact hgM (by rw [← h2]; exact h1)
  rw [hL]
  have hkids := hang_kids (m := m) hk
  have hups := hang_ups (a := g.x) (s := g.s) hum
  have hko : ∀ y, y ≠ g.x → ∀ s, kidL (L ++ [⟨g.x, m, g.s⟩]) y s = kidL L y s := fun y hy s => by rw [hkids, if_neg (fun h => hy h.1)]
  have huo : ∀ y, y ≠ m → upL (L ++ [⟨g.x, m, g.s⟩]) y = upL L y := fun y hy => by rw [hups, if_neg hy]
  have et := Tr.zip_top z g .nil M
  refine ⟨hB, hab, ⟨?_, fun y hy => ?_, ?_⟩, ⟨fun y hy => hko y fun e => hy (by simp [e]), fun y hy => huo y fun e => hy (by simp [e])⟩⟩
  · rw [← et]
    refine rep_fill.2 ⟨?_, ?_⟩
    · exact rep_congr (fun y hy => hko y fun e => hgM (by rw [← e]; exact hy)) hM.rep
    · rw [hm]
      have h2 := repZ_place (kid' := kidL (L ++ [⟨g.x, m, g.s⟩])) nf (by rw [hkids, if_neg (by cases g.s <;> simp)]) hko hrep.2
      rw [hkids, if_pos ⟨rfl, rfl⟩] at h2
      exact h2
  · rw [← et] at hy
    have h1 := h.root y hy
    obtain ⟨y', e1, h2⟩ := Tr.zip_top_in z g .nil
    have e2 : y = y' := by rw [hy] at h2; injection h2
    subst e2
    rw [huo y fun e => hd y e1 (by rw [e]; exact hmM)]
    exact h1
  · refine (Tr.fillZ_perm (g :: z) M).nodup_iff.2 ?_
    rw [List.nodup_append]
    exact ⟨hM.nodup, nz, fun a ha b hb e => hd b hb (by rw [← e]; exact ha)⟩
end
end Go.Proofs.Ytehoejoeoaimjaa

namespace Go.Proofs.Ytehoejoeoaimjaa
open Go.RowKit Go.Sort

theorem less_any (k1 s1 k2 s2 : Int) (w : World) :
    Calls Try.prog 94 #[.agg #[.int .i64 k1, .int .u64 s1], .agg #[.int .i64 k2, .int .u64 s2]] w fun e w' => e = .returned (.bool (lessB k1 s1 k2 s2)) ∧ Below w.heap.size w w' := by
  by_cases hk : k1 = k2
  · subst hk
    go_enter Try.func94, Try.ntmps94
    go_wp2
    go_ret
    exact ⟨ret_bool (lessB_same _ _ _).symm, ((Below.refl _ _).alloc (Nat.le_refl _) _).alloc (by simp) _⟩
  · have hk1 : (k1 == k2) = false := by simpa using hk
    have hk2 : (k1 != k2) = true := by simpa using hk
    have HL := Lib.hid (lessB_other hk s1 s2)
    clear hk
    go_enter Try.func94, Try.ntmps94
    go_wp2
    go_ret
    exact ⟨ret_bool HL.out.symm, ((Below.refl _ _).alloc (Nat.le_refl _) _).alloc (by simp) _⟩
theorem refLess_any (k1 s1 k2 s2 : Int) (w : World) :
    Calls Try.prog 55 #[.agg #[.int .i64 k1, .int .u64 s1], .agg #[.int .i64 k2, .int .u64 s2]] w fun e w' => e = .returned (.bool (lessB k1 s1 k2 s2)) ∧ Below w.heap.size w w' := by
  by_cases hk : k1 = k2
  · subst hk
    go_enter Try.func55, Try.ntmps55
    go_wp2
    go_ret
    exact ⟨ret_bool (lessB_same _ _ _).symm, ((Below.refl _ _).alloc (Nat.le_refl _) _).alloc (by simp) _⟩
  · have hk1 : (k1 == k2) = false := by simpa using hk
    have hk2 : (k1 != k2) = true := by simpa using hk
    have HL := Lib.hid (lessB_other hk s1 s2)
    clear hk
    go_enter Try.func55, Try.ntmps55
    go_wp2
    go_ret
    exact ⟨ret_bool HL.out.symm, ((Below.refl _ _).alloc (Nat.le_refl _) _).alloc (by simp) _⟩

/-- What a meter shows, when some are counted. -/
def addI (s n : Int) : Int := if n ≤ 0 then s else if 4611686018427387904 - s ≤ n then 4611686018427387904 else s + n
theorem add_range {s : Int} (hs : 0 ≤ s ∧ s ≤ 4611686018427387904) (n : Int) : 0 ≤ addI s n ∧ addI s n ≤ 4611686018427387904 := by
  unfold addI; repeat' split
  all_goals omega
theorem add_one {s : Int} (hs : s < 4611686018427387904) : addI s 1 = s + 1 := by
  unfold addI; repeat' split
  all_goals omega
theorem meter_steps (b o : Nat) (s : Int) (w : World) (hc : w.cell? ⟨b, o, none⟩ = some (.int .i64 s)) :
    Calls Try.prog 12 #[.pointer (some ⟨b, o, none⟩)] w fun e w' => e = .returned (.int .i64 s) ∧ w = w' := by
  go_enter Try.func12, Try.ntmps12
  go_wp2
  go_ret
  exact ⟨rfl, rfl⟩
theorem meter_count (b o : Nat) (s n : Int) (hs : 0 ≤ s ∧ s ≤ 4611686018427387904) (w : World) (hc : w.cell? ⟨b, o, none⟩ = some (.int .i64 s)) (hf : w.frozen? ⟨b, o, none⟩ = false) :
    Calls Try.prog 93 #[.pointer (some ⟨b, o, none⟩), .int .i64 n] w fun e w' => e = .returned (.tuple #[]) ∧ Wrote ⟨b, o, none⟩ (.int .i64 (addI s n)) w w' := by
  obtain ⟨hs0, hs1⟩ := hs
  by_cases hn : n < 0
  · have hw : Wrote ⟨b, o, none⟩ (.int .i64 (addI s n)) w w := by
      have : addI s n = s := by unfold addI; rw [if_pos (by omega)]
      rw [this]
      exact wrote_same hc
    go_enter Try.func93, Try.ntmps93
    go_wp2
    refine bodyPost_ret (results_none rfl _ _ _) rfl ?_
    exact ⟨rfl, hw⟩
  · have HA : Hid (s + (if 4611686018427387904 - s < n then 4611686018427387904 - s else n) = addI s n) := by
      have : s + (if 4611686018427387904 - s < n then 4611686018427387904 - s else n) = addI s n := by
        unfold addI
        repeat' split
        all_goals omega
      exact Lib.hid this
    go_enter Try.func93, Try.ntmps93
    go_wp2
    go_region
    go_end0
    exact ⟨rfl, by rw [← HA.out]; exact ⟨rfl, rfl, rfl, rfl⟩⟩
end Go.Proofs.Ytehoejoeoaimjaa
