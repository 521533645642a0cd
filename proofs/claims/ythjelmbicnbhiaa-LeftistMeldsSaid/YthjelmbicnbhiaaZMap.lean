/- Merged of LeftistMendMath, LeftistTakeMath, ZMap. -/
import Derived.Test.YthjelmbicnbhiaaSpineLists
import Derived.Test.YthjelmbicnbhiaaStage
namespace Go.Proofs.Ythjelmbicnbhiaa

/-- All is settled but the slot x, whose trees are a and b, and what is above it; told is what was there when all was settled; G what will be. -/
structure MendAt (n : Nat) (L : List Hg) (R : List Int) (root : Option Int) (z : List Fr) (x : Int) (a b told G : Tr) : Prop where
  ha : RepT (kidL L) (kidL L x false) a
  hb : RepT (kidL L) (kidL L x true) b
  hz : RepZ (kidL L) root z (some x)
  top : ∀ y, root = some y → upL L y = none
  ra : Tr.Ranked (rkL R) a
  rb : Tr.Ranked (rkL R) b
  rz : Tr.RankZ (rkL R) z told
  rx : rkL R x = Tr.spine told
  lef : Tr.Lef (Tr.fillZ z told)
  fa : Tr.Lef a
  fb : Tr.Lef b
  nd : (x :: (a.slots ++ b.slots) ++ Tr.zs z).Nodup
  ins : ∀ y ∈ x :: (a.slots ++ b.slots) ++ Tr.zs z, inN n y
  goal : G = Tr.lfillZ z (Tr.mk x a b)
section
variable {n : Nat} {L : List Hg} {R : List Int} {root : Option Int} {z : List Fr} {x : Int} {a b told G : Tr}
theorem MendAt.bound (M : MendAt n L R root z x a b told G) (hn : n ≤ 65536) : ∀ sd, -65536 ≤ oR R (kidL L x sd) ∧ oR R (kidL L x sd) ≤ 65536 := fun sd => by
  have h := nodup_int n _ M.nd M.ins
  simp only [List.length_append, List.length_cons, Tr.size_slots] at h
  have h1 := Tr.spine_size a
  have h2 := Tr.spine_size b
  cases sd
  · rw [oR_spine M.ha M.ra]; omega
  · rw [oR_spine M.hb M.rb]; omega
theorem repZ_top {kid : Int → Bool → Option Int} {root : Option Int} : ∀ {z : List Fr} {x : Int} {t : Tr}, RepZ kid root z (some x) → t.top = some x → (Tr.lfillZ z t).top = root
  | [], _, _, h, e => e.trans h
  | f :: z, _, t, h, _ => repZ_top (z := z) (x := f.x) (t := Tr.lsit f t) h.2.2 (Tr.lsit_top f t)
/-- What is settled now. -/
theorem MendAt.settled (M : MendAt n L R root z x a b told G) (hR : R.length = n) :
    ∃ i : Nat, x = i ∧ i < n ∧ setR L R x = Tr.spine (Tr.mk x a b) ∧ RepT (kidL (setL L R x)) (some x) (Tr.mk x a b) ∧ Tr.Ranked (rkL (R.set i (setR L R x))) (Tr.mk x a b) ∧ (∀ y, upL (setL L R x) y = upL L y) ∧
    SameL [x] L (setL L R x) (rkL R) (rkL (R.set i (setR L R x))) ∧ RepZ (kidL (setL L R x)) root z (some x) ∧ (∀ u : Tr, Tr.RankZ (rkL R) z u → Tr.RankZ (rkL (R.set i (setR L R x))) z u) := by
  have hx := M.ins x (by simp)
  obtain ⟨i, e⟩ : ∃ i : Nat, x = i := ⟨x.toNat, by have := hx.1; omega⟩
  subst e
  have hi : i < n := by have := hx.2; omega
  have nd := M.nd
  rw [List.cons_append, List.nodup_cons, List.mem_append, List.mem_append] at nd
  obtain ⟨s1, s2, s3, s4, s5⟩ := set_tree hR hi M.ha M.hb M.ra M.rb (fun h => nd.1 (Or.inl (Or.inl h))) (fun h => nd.1 (Or.inl (Or.inr h)))
  have hz : ∀ y ∈ Tr.zs z, y ≠ (i : Int) := fun y hy e => nd.1 (Or.inr (by rw [← e]; exact hy))
  exact ⟨i, rfl, hi, s1, s2, s3, s4, ⟨fun y hy s => (s5 y fun e => hy (by simp [e])).1 s, fun y _ => s4 y, fun y hy => (s5 y fun e => hy (by simp [e])).2⟩, repZ_congr (fun y hy s => (s5 y (hz y hy)).1 s) M.hz, fun u hu => Tr.rankZ_congr (fun y hy => (s5 y (hz y hy)).2) hu⟩
theorem stands_fill {L : List Hg} {R : List Int} {t : Tr} (h1 : RepT (kidL L) (some x) t) (et : t.top = some x) (h2 : RepZ (kidL L) root z (some x)) (h3 : Tr.Ranked (rkL R) t) (h4 : Tr.RankZ (rkL R) z t) (h5 : Tr.Lef (Tr.fillZ z t)) (h6 : ∀ y, root = some y → upL L y = none) (h7 : (t.slots ++ Tr.zs z).Nodup) : Stands L (rkL R) (Tr.fillZ z t) := by
  have hr : RepT (kidL L) root (Tr.fillZ z t) := rep_fill.2 ⟨by rw [et]; exact h1, by rw [et]; exact h2⟩
  have e := rep_top hr
  exact ⟨by rw [← e]; exact hr, Tr.ranked_fill.2 ⟨h3, h4⟩, h5, fun y hy => h6 y (by rw [e]; exact hy), (Tr.fillZ_perm _ _).nodup_iff.2 h7⟩
/-- The rank is as it was: all is settled. -/
theorem MendAt.stop (M : MendAt n L R root z x a b told G) (hR : R.length = n) (hs : (setR L R x != rkL R x) = false) {i : Nat} (hi : x = i) : Stands (setL L R x) (rkL (R.set i (setR L R x))) G := by
  obtain ⟨j, e, _, s1, s2, s3, s4, _, s6, s7⟩ := M.settled hR
  have : i = j := by omega
  subst this
  have hs' : setR L R x = rkL R x := by simpa using hs
  have hsp : Tr.spine (Tr.mk x a b) = Tr.spine told := by have := M.rx; omega
  have hlf := Tr.lfillZ_same (z := z) M.lef hsp
  rw [M.goal]
  have hl := Tr.lfillZ_lef M.lef (Tr.mk_lef (x := x) M.fa M.fb)
  rw [hlf] at hl ⊢
  exact stands_fill s2 (Tr.mk_top _ _ _) s6 s3 (s7 _ (Tr.rankZ_same hsp M.rz)) hl (fun y hy => by rw [s4]; exact M.top y hy) (((Tr.mk_perm x a b).append_right _).nodup_iff.2 M.nd)
/-- Nothing is above: all is settled. -/
theorem MendAt.done (M : MendAt n L R root [] x a b told G) (hR : R.length = n) {i : Nat} (hi : x = i) : upL (setL L R x) x = none ∧ Stands (setL L R x) (rkL (R.set i (setR L R x))) G := by
  obtain ⟨j, e, _, s1, s2, s3, s4, _, s6, s7⟩ := M.settled hR
  have : i = j := by omega
  subst this
  refine ⟨by rw [s4]; exact M.top x M.hz.symm, ?_⟩
  rw [M.goal]
  exact stands_fill (z := []) s2 (Tr.mk_top _ _ _) s6 s3 trivial (Tr.mk_lef M.fa M.fb) (fun y hy => by rw [s4]; exact M.top y hy) (((Tr.mk_perm x a b).append_right _).nodup_iff.2 M.nd)
/-- What is above is the next one. -/
theorem MendAt.on {f : Fr} (I : GInv n (setL L R x)) (M : MendAt n L R root (f :: z) x a b told G) (hR : R.length = n) {i : Nat} (hi : x = i) : upL (setL L R x) x = some f.x ∧ ∃ a' b', MendAt n (setL L R x) (R.set i (setR L R x)) root z f.x a' b' (Tr.sit f told) G := by
  obtain ⟨j, e, hj, s1, s2, s3, s4, s5, s6, s7⟩ := M.settled hR
  have : i = j := by omega
  subst this
  have hr := s7 _ M.rz
  have hmp := Tr.mk_perm x a b
  have hlef : Tr.Lef f.o := (Tr.sit_lef (Tr.lefZ (z := z) M.lef)).1
  have hfo := s6.2.1
  have hfk : RepT (kidL (setL L R x)) (kidL (setL L R x) f.x f.s) (Tr.mk x a b) := by rw [s6.1]; exact s2
  have hml : Tr.Lef (Tr.mk x a b) := Tr.mk_lef M.fa M.fb
  have pm : (f.x :: ((Tr.mk x a b).slots ++ f.o.slots) ++ Tr.zs z).Perm (x :: (a.slots ++ b.slots) ++ Tr.zs (f :: z)) := by
    rw [List.perm_iff_count] at hmp ⊢
    intro y
    have := hmp y
    simp only [Tr.zs, List.count_append, List.count_cons] at this ⊢
    omega
  refine ⟨I.up_kid.2 ⟨f.s, s6.1⟩, ?_⟩
  have hgoal : ∀ a' b', (if f.s then (f.o, Tr.mk x a b) else (Tr.mk x a b, f.o)) = (a', b') → G = Tr.lfillZ z (Tr.mk f.x a' b') := fun a' b' he => by
    rw [M.goal]
    show Tr.lfillZ z (Tr.lsit f _) = _
    unfold Tr.lsit
    cases hs : f.s
    · rw [hs] at he; cases he; rfl
    · rw [hs] at he; cases he; rfl
  have htop : ∀ y, root = some y → upL (setL L R x) y = none := fun y hy => by rw [s4]; exact M.top y hy
  obtain ⟨s, p, o⟩ := f
  cases s
  · exact ⟨Tr.mk x a b, o, hfk, hfo, s6.2.2, htop, s3, hr.2.1, hr.2.2, hr.1, M.lef, hml, hlef, pm.nodup_iff.2 M.nd, fun y hy => M.ins y (pm.mem_iff.1 hy), hgoal _ _ rfl⟩
  · have pm2 : (p :: (o.slots ++ (Tr.mk x a b).slots) ++ Tr.zs z).Perm (x :: (a.slots ++ b.slots) ++ Tr.zs (⟨true, p, o⟩ :: z)) := ((List.perm_append_comm.cons _).append_right _).trans pm
    exact ⟨o, Tr.mk x a b, hfo, hfk, s6.2.2, htop, hr.2.1, s3, hr.2.2, hr.1, M.lef, hlef, hml, pm2.nodup_iff.2 M.nd, fun y hy => M.ins y (pm2.mem_iff.1 hy), hgoal _ _ rfl⟩
end
end Go.Proofs.Ythjelmbicnbhiaa

namespace Go.Proofs.Ythjelmbicnbhiaa

theorem repZ_root {kid : Int → Bool → Option Int} {root : Option Int} : ∀ {z : List Fr} {x : Int}, RepZ kid root z (some x) → ∃ y, root = some y ∧ y ∈ x :: Tr.zs z
  | [], x, h => ⟨x, h.symm, by simp⟩
  | f :: z, x, h => by
    obtain ⟨y, h1, h2⟩ := repZ_root (z := z) h.2.2
    refine ⟨y, h1, ?_⟩
    simp only [Tr.zs, List.mem_cons, List.mem_append] at h2 ⊢
    rcases h2 with h2 | h2
    · exact Or.inr (Or.inl h2)
    · exact Or.inr (Or.inr (Or.inr h2))
section
variable {n : Nat} {L : List Hg} {R : List Int} {root : Option Int} {z : List Fr} {f : Fr} {x m : Int} {O M t : Tr}
/-- What hangs below the frame f comes off. -/
theorem cut_frame (I : GInv n L) (hz : RepZ (kidL L) root (f :: z) (some x)) (nf : f.x ∉ f.o.slots ∧ f.x ∉ Tr.zs z) :
    kidL (cutL L x) f.x f.s = none ∧ RepT (kidL (cutL L x)) (kidL (cutL L x) f.x (!f.s)) f.o ∧ RepZ (kidL (cutL L x)) root z (some f.x) ∧ upL (cutL L x) x = none ∧ (∀ y, y ≠ x → upL (cutL L x) y = upL L y) ∧ ∀ y, y ≠ f.x → ∀ s, kidL (cutL L x) y s = kidL L y s := by
  have hc := cut_kids I hz.1
  have hk : ∀ y, y ≠ f.x → ∀ s, kidL (cutL L x) y s = kidL L y s := fun y hy s => by rw [hc, if_neg (fun h => hy h.1)]
  refine ⟨by rw [hc, if_pos ⟨rfl, rfl⟩], ?_, repZ_congr (fun y hy s => hk y (fun e => nf.2 (by rw [← e]; exact hy)) s) hz.2.2, by rw [up_cut, if_pos rfl], fun y hy => by rw [up_cut, if_neg hy], hk⟩
  have e : kidL (cutL L x) f.x (!f.s) = kidL L f.x (!f.s) := by rw [hc, if_neg (by cases f.s <;> simp)]
  rw [e]
  exact rep_congr (fun y hy s => hk y (fun e => nf.1 (by rw [← e]; exact hy)) s) hz.2.1
/-- Nothing comes to its place. -/
theorem bare_mend (hk : kidL L f.x f.s = none) (ho : RepT (kidL L) (kidL L f.x (!f.s)) f.o) (hz : RepZ (kidL L) root z (some f.x)) (htop : ∀ y, root = some y → upL L y = none) (rO : Tr.Ranked (rkL R) f.o)
    (rz : Tr.RankZ (rkL R) (f :: z) t) (lef : Tr.Lef (Tr.fillZ (f :: z) t)) (nd : (Tr.zs (f :: z)).Nodup) (ins : ∀ y ∈ Tr.zs (f :: z), inN n y) :
    ∃ a b, MendAt n L R root z f.x a b (Tr.sit f t) (Tr.lfillZ (f :: z) .nil) := by
  have fo := (Tr.sit_lef (Tr.lefZ (z := z) lef)).1
  obtain ⟨s, p, o⟩ := f
  cases s
  · exact ⟨.nil, o, hk, ho, hz, htop, trivial, rO, rz.2.2, rz.1, lef, trivial, fo, by simpa [Tr.zs, Tr.slots] using nd, fun y hy => ins y (by simpa [Tr.zs, Tr.slots] using hy), rfl⟩
  · exact ⟨o, .nil, ho, hk, hz, htop, rO, trivial, rz.2.2, rz.1, lef, fo, trivial, by simpa [Tr.zs, Tr.slots] using nd, fun y hy => ins y (by simpa [Tr.zs, Tr.slots] using hy), rfl⟩
/-- A tree comes to its place, or to the other one, if that is free. -/
theorem hang_mend (I : GInv n L) {sd : Bool} (hk : kidL L f.x sd = none) (ho : RepT (kidL L) (kidL L f.x (!sd)) O) (hM : Stands L (rkL R) M) (hm : M.top = some m) (hz : RepZ (kidL L) root z (some f.x)) (htop : ∀ y, root = some y → upL L y = none)
    (rO : Tr.Ranked (rkL R) O) (fO : Tr.Lef O) (rz : Tr.RankZ (rkL R) (f :: z) t) (lef : Tr.Lef (Tr.fillZ (f :: z) t)) (nd : (f.x :: (O.slots ++ M.slots) ++ Tr.zs z).Nodup) (ins : ∀ y ∈ f.x :: (O.slots ++ M.slots) ++ Tr.zs z, inN n y)
    (hG : (if sd then Tr.mk f.x O M else Tr.mk f.x M O) = Tr.lsit f M) :
    hangB n L f.x m sd = true ∧ (¬ aboveL L m f.x) ∧ (∀ y, y ≠ m → upL (hangL n L f.x m sd) y = upL L y) ∧ (∀ y, y ≠ f.x → ∀ s, kidL (hangL n L f.x m sd) y s = kidL L y s) ∧ ∃ a b, MendAt n (hangL n L f.x m sd) R root z f.x a b (Tr.sit f t) (Tr.lfillZ (f :: z) M) := by
  have nd' := nd
  rw [List.cons_append, List.nodup_cons, List.mem_append, List.mem_append, List.nodup_append] at nd
  obtain ⟨nx, nOM, nz, hOz⟩ := nd
  have hmM := Tr.top_in hm
  have hxm : f.x ≠ m := fun e => nx (Or.inl (Or.inr (by rw [e]; exact hmM)))
  have hum := hM.root m hm
  have hxn := ins f.x (by simp)
  have hmn := ins m (by simp [hmM])
  have hB : hangB n L f.x m sd = true := by
    unfold hangB
    rw [hum, hk, has_in.2 hxn, has_in.2 hmn]
    simp [hxm]
  have hL : hangL n L f.x m sd = L ++ [⟨f.x, m, sd⟩] := by unfold hangL; rw [if_pos hB]
  have hab : ¬ aboveL L m f.x := fun h => by
    have h1 := (mem_all I hmn).2 h
    have h2 := rep_all I (hM.rep' hm) (fun y hy => by cases hy; exact hmn)
    exact nx (Or.inl (Or.inr (by rw [← h2]; exact h1)))
  rw [hL]
  have hkids := hang_kids (m := m) hk
  have hups := hang_ups (a := f.x) (s := sd) hum
  have hko : ∀ y, y ≠ f.x → ∀ s, kidL (L ++ [⟨f.x, m, sd⟩]) y s = kidL L y s := fun y hy s => by rw [hkids, if_neg (fun h => hy h.1)]
  have huo : ∀ y, y ≠ m → upL (L ++ [⟨f.x, m, sd⟩]) y = upL L y := fun y hy => by rw [hups, if_neg hy]
  refine ⟨hB, hab, huo, hko, ?_⟩
  have e1 : kidL (L ++ [⟨f.x, m, sd⟩]) f.x sd = some m := by rw [hkids, if_pos ⟨rfl, rfl⟩]
  have e2 : kidL (L ++ [⟨f.x, m, sd⟩]) f.x (!sd) = kidL L f.x (!sd) := by rw [hkids, if_neg (by cases sd <;> simp)]
  have hO' : RepT (kidL (L ++ [⟨f.x, m, sd⟩])) (kidL (L ++ [⟨f.x, m, sd⟩]) f.x (!sd)) O := by
    rw [e2]; exact rep_congr (fun y hy => hko y fun e => nx (Or.inl (Or.inl (by rw [← e]; exact hy)))) ho
  have hM' : RepT (kidL (L ++ [⟨f.x, m, sd⟩])) (kidL (L ++ [⟨f.x, m, sd⟩]) f.x sd) M := by
    rw [e1]; exact rep_congr (fun y hy => hko y fun e => nx (Or.inl (Or.inr (by rw [← e]; exact hy)))) (hM.rep' hm)
  have hz' : RepZ (kidL (L ++ [⟨f.x, m, sd⟩])) root z (some f.x) := repZ_congr (fun y hy => hko y fun e => nx (Or.inr (by rw [← e]; exact hy))) hz
  have htop' : ∀ y, root = some y → upL (L ++ [⟨f.x, m, sd⟩]) y = none := fun y hy => by
    obtain ⟨y', h1, h2⟩ := repZ_root hz
    obtain rfl : y' = y := by rw [h1] at hy; injection hy
    rw [huo y' (fun e => ?_)]
    · exact htop y' h1
    · rcases List.mem_cons.1 h2 with h3 | h3
      · exact hxm (by rw [← h3]; exact e)
      · exact hOz m (List.mem_append_right _ hmM) m (by rw [← e]; exact h3) rfl
  have pm : (f.x :: (M.slots ++ O.slots) ++ Tr.zs z).Perm (f.x :: (O.slots ++ M.slots) ++ Tr.zs z) := (List.perm_append_comm.cons _).append_right _
  cases sd
  · exact ⟨M, O, hM', hO', hz', htop', hM.rank, rO, rz.2.2, rz.1, lef, hM.lef, fO, pm.nodup_iff.2 nd', fun y hy => ins y (pm.mem_iff.1 hy), by show Tr.lfillZ z (Tr.lsit f M) = _; rw [← hG]; rfl⟩
  · exact ⟨O, M, hO', hM', hz', htop', rO, hM.rank, rz.2.2, rz.1, lef, fO, hM.lef, nd', ins, by show Tr.lfillZ z (Tr.lsit f M) = _; rw [← hG]; rfl⟩
end
end Go.Proofs.Ythjelmbicnbhiaa

namespace Go.Proofs.Ythjelmbicnbhiaa
open Go.RowKit Go.Sort

/-- What a map holds at a key, if it has it, and how many keys it has. -/
structure ZMapIs (D : DataW Unit) (f : Int → Option Int) (n : Nat) : Prop where
  at' : ∀ h : Int, D.atKey (.int .i64 h) (.lit (.int .i64 0)) = .lit (.int .i64 ((f h).getD 0))
  has' : ∀ h : Int, Maps.has D (.int .i64 h) = (f h).isSome
  tidy : Maps.Tidy D
  size : Maps.size D = n
def setZ (f : Int → Option Int) (k : Int) (o : Option Int) : Int → Option Int := fun h => if h = k then o else f h
theorem setZ_same (f : Int → Option Int) (k : Int) (o : Option Int) : setZ f k o k = o := by simp [setZ]
theorem setZ_other (f : Int → Option Int) {k h : Int} (o : Option Int) (hn : h ≠ k) : setZ f k o h = f h := by simp [setZ, hn]
theorem setZ_set (f : Int → Option Int) (k : Int) (o p : Option Int) : setZ (setZ f k o) k p = setZ f k p := by
  funext h; unfold setZ; split <;> rfl
theorem ZMapIs.empty : ZMapIs (.map []) (fun _ => none) 0 := ⟨fun _ => rfl, fun _ => rfl, ⟨[], rfl, List.Pairwise.nil⟩, rfl⟩
theorem ZMapIs.put {D : DataW Unit} {f : Int → Option Int} {n : Nat} (h : ZMapIs D f n) (k v : Int) : ZMapIs (D.put (.int .i64 k) (.lit (.int .i64 v))) (setZ f k (some v)) (if (f k).isSome then n else n + 1) := by
  have hk : WideAt.IsKeyLit (.int .i64 k) := trivial
  have hm := h.tidy.isMap
  refine ⟨fun x => ?_, fun x => ?_, h.tidy.put hk _, ?_⟩
  · by_cases hx : x = k
    · subst hx
      rw [Maps.atKey_put_same hm hk, setZ_same]; rfl
    · rw [Maps.atKey_put_other (by simpa using hx), h.at', setZ_other _ _ hx]
  · by_cases hx : x = k
    · subst hx
      rw [Maps.has_put_same hm hk, setZ_same]; rfl
    · rw [Maps.has_put_other (by simpa using hx), h.has', setZ_other _ _ hx]
  · rw [Maps.size_put h.tidy, h.has', h.size]
theorem ZMapIs.del {D : DataW Unit} {f : Int → Option Int} {n : Nat} (h : ZMapIs D f n) (k : Int) : ZMapIs (D.del (.int .i64 k)) (setZ f k none) (if (f k).isSome then n - 1 else n) := by
  refine ⟨fun x => ?_, fun x => ?_, h.tidy.del _, ?_⟩
  · by_cases hx : x = k
    · subst hx
      rw [Maps.atKey_del_same, setZ_same]; rfl
    · rw [Maps.atKey_del_other (by simpa using hx), h.at', setZ_other _ _ hx]
  · by_cases hx : x = k
    · subst hx
      rw [Maps.has_del_same, setZ_same]; rfl
    · rw [Maps.has_del_other (by simpa using hx), h.has', setZ_other _ _ hx]
  · have h1 := Maps.size_del (k := .int .i64 k) h.tidy
    rw [h.has', h.size] at h1
    split
    · rename_i e; rw [if_pos e] at h1; omega
    · rename_i e; rw [if_neg e] at h1; omega
/-- At block b lies a map of integers that holds f, of n keys. -/
def Ob.zmap (P : Program) (k e : TypeId) (b : Nat) (f : Int → Option Int) (n : Nat) : Ob where
  holds w F := (∃ D, w.ownsMap (H := Unit) P k (plainElem P e) b n D ∧ ZMapIs D f n) ∧ F = (· = b)
  keeps := by
    rintro w w' F G ⟨⟨D, h, hm⟩, rfl⟩ kp hg
    refine ⟨⟨D, ?_, hm⟩, rfl⟩
    have hlt := h.lt
    obtain ⟨es, clock, hb, r⟩ := h
    exact ⟨es, clock, by rw [kp.block b hlt (hg b rfl)]; exact hb, r⟩
  lt := by rintro w F ⟨⟨D, h, _⟩, rfl⟩ k rfl; exact h.lt
namespace Stage
variable {F0 : Nat → Prop} {W w w' : World} {l : List Ob} {P : Program} {t k e : TypeId} {b n : Nat} {f : Int → Option Int}
theorem newZMap (h : Stage F0 W l w) (P : Program) (k e : TypeId) {b : Nat} (hb : w.heap.size = b) : Stage F0 W (l ++ [Ob.zmap P k e b (fun _ => none) 0]) (w.alloc (.map #[] 0)) := by
  subst hb
  exact h.add ((Below.refl _ _).alloc (Nat.le_refl _) _) ⟨⟨_, World.ownsMap_made w P k _, ZMapIs.empty⟩, rfl⟩ (fun _ hk => Nat.le_of_eq hk.symm)
/-- 'm[k]': an equation that the walk takes. -/
theorem lookZ (h : Stage F0 W l w) (i : Nat) (hi : l[i]? = some (Ob.zmap P k e b f n)) (ht : P.underlying t = some (.map k e)) (hk : P.underlying k = some (.int .i64)) (he : P.underlying e = some (.int .i64)) (hz : (zeroValue e).run P w = .ok (.int .i64 0) w)
    (x : Int) (hx : -9223372036854775808 ≤ x ∧ x ≤ 9223372036854775807) : (Instr.lookup t (.map (some b)) (.int .i64 x) false).run P w = .ok (.int .i64 ((f x).getD 0)) w := by
  obtain ⟨_, ⟨D, hown, hm⟩, _⟩ := h.get hi
  obtain ⟨c, hrun, hat, _⟩ := hown.lookup_int (Maps.int_keyed hk) ht he hz (Maps.keyOf_int_mk hk (wf_i64' hx))
  rw [hm.at' x] at hat
  injection hat with hat
  injection hat with _ hat
  rw [hrun, hat]
/-- 'v, ok := m[k]'. -/
theorem lookOkZ (h : Stage F0 W l w) (i : Nat) (hi : l[i]? = some (Ob.zmap P k e b f n)) (ht : P.underlying t = some (.map k e)) (hk : P.underlying k = some (.int .i64)) (he : P.underlying e = some (.int .i64)) (hz : (zeroValue e).run P w = .ok (.int .i64 0) w)
    (x : Int) (hx : -9223372036854775808 ≤ x ∧ x ≤ 9223372036854775807) : (Instr.lookup t (.map (some b)) (.int .i64 x) true).run P w = .ok (.tuple #[.int .i64 ((f x).getD 0), .bool (f x).isSome]) w := by
  obtain ⟨_, ⟨D, hown, hm⟩, _⟩ := h.get hi
  obtain ⟨v, ps, hrun, hv⟩ := hown.look_ok (Maps.int_keyed hk) ht hz (plainElem_int he (by decide)) (Maps.keyOf_int_mk hk (wf_i64' hx))
  rw [hm.at' x] at hv
  obtain ⟨c, rfl, hc, _⟩ := plainElem_int_inv he hv
  simp only [Prod.mk.injEq, DataW.lit.injEq, Lit.int.injEq, true_and] at hc
  rw [hrun, hm.has' x, hc.1]
/-- 'len(m)'. -/
theorem lenZ (h : Stage F0 W l w) (i : Nat) (hi : l[i]? = some (Ob.zmap P k e b f n)) (ht : P.underlying t = some (.map k e)) (ty : TypeId) : (Builtin.len_ #[t] ty #[.map (some b)]).run P w = .ok (.int .i64 n) w := by
  obtain ⟨_, ⟨D, hown, hm⟩, _⟩ := h.get hi
  rw [hown.len ht ty, hm.size]
/-- 'm[k] = v' at the operation. -/
theorem wp_putZ {ops : Array Oper} {rest : List Oper} {o : Oper} {a : Act} {Q : Exit → Act → World → Prop} (h : Stage F0 W l w) (i : Nat) (hi : l[i]? = some (Ob.zmap P k e b f n)) (hg : o.guard = none) (m x v : Operand) (hop : o.op = Op.mapUpdate t m x v)
    (ht : P.underlying t = some (.map k e)) (hk : P.underlying k = some (.int .i64)) (he : P.underlying e = some (.int .i64)) (hM : n < maxLen)
    (hm : a.eval m = .map (some b)) (key val : Int) (hx : a.eval x = .int .i64 key) (hv : a.eval v = .int .i64 val) (hkey : -9223372036854775808 ≤ key ∧ key ≤ 9223372036854775807) (hval : -9223372036854775808 ≤ val ∧ val ≤ 9223372036854775807)
    (hK : ∀ w', Stage F0 W (l.set i (Ob.zmap P k e b (setZ f key (some val)) (if (f key).isSome then n else n + 1))) w' → wpList P ops Q rest (a.put o.dst undef) w') : wpList P ops Q (o :: rest) a w := by
  obtain ⟨_, ⟨D, hown, hmi⟩, _⟩ := h.get hi
  refine wpList_mapUpdate_own w hg m x v t hop k e (Maps.int_keyed hk) ht _ b n D hm hown hM _ _ _ hx hv (Maps.keyOf_int_mk hk (wf_i64' hkey)) _ [] (plainElem_int he (wf_i64' hval)) fun w' h1 h2 => hK w' ?_
  have h3 := hmi.put key val
  exact h.moved hi fun F hF => ⟨(· = b), ⟨⟨_, owns_tight h1 (Nat.le_of_eq h3.size), h3⟩, rfl⟩, by
    have e2 : F = (· = b) := hF.2
    subst e2
    exact ⟨keeps_of_grown h2, fun k hk => Or.inl hk⟩⟩
/-- 'delete(m, k)' at the operation. -/
theorem wp_deleteZ {ops : Array Oper} {rest : List Oper} {o : Oper} {a : Act} {Q : Exit → Act → World → Prop} (h : Stage F0 W l w) (i : Nat) (hi : l[i]? = some (Ob.zmap P k e b f n)) (hg : o.guard = none) (m x : Operand) (hop : o.op = Op.call { callee := Callee.builtin Builtin.delete, args := #[m, x], argTypes := #[t, k] })
    (ht : P.underlying t = some (.map k e)) (hk : P.underlying k = some (.int .i64))
    (hm : a.eval m = .map (some b)) (key : Int) (hx : a.eval x = .int .i64 key) (hkey : -9223372036854775808 ≤ key ∧ key ≤ 9223372036854775807)
    (hK : ∀ w', Stage F0 W (l.set i (Ob.zmap P k e b (setZ f key none) (if (f key).isSome then n - 1 else n))) w' → wpList P ops Q rest (a.put o.dst (.tuple #[])) w') : wpList P ops Q (o :: rest) a w := by
  obtain ⟨_, ⟨D, hown, hmi⟩, _⟩ := h.get hi
  refine wpList_delete_own w hg m x t k hop e (Maps.int_keyed hk) ht _ b n D hm hown _ _ hx (Maps.keyOf_int_mk hk (wf_i64' hkey)) fun w' h1 h2 => hK w' ?_
  have h3 := hmi.del key
  exact h.moved hi fun F hF => ⟨(· = b), ⟨⟨_, owns_tight h1 (Nat.le_of_eq h3.size), h3⟩, rfl⟩, by
    have e2 : F = (· = b) := hF.2
    subst e2
    exact ⟨keeps_of_grown h2.grown, fun k hk => Or.inl hk⟩⟩
end Stage
end Go.Proofs.Ythjelmbicnbhiaa
