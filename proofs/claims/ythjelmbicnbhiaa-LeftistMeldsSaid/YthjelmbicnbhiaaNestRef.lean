/- Merged of LeftistRemove, NestRef. -/
import Derived.Test.YthjelmbicnbhiaaLeftistGather
import Derived.Test.YthjelmbicnbhiaaSpineObj
import Derived.Test.YthjelmbicnbhiaaNestMath
import Derived.Test.YthjelmbicnbhiaaLess
import Derived.Deep.RegionLaw
import Derived.Deep.RegionHeld3
import Derived.Deep.DeepCutAuto
namespace Go.Proofs.Ythjelmbicnbhiaa
open Go.RowKit Go.Sort

/-- The slot hangs below the frame g no more; what was below it is M. -/
structure OffAt (n : Nat) (L : List Hg) (R : List Int) (g : Fr) (z : List Fr) (x : Int) (l r M : Tr) (L2 : List Hg) (R2 : List Int) : Prop where
  free : kidL L2 g.x g.s = none
  other : RepT (kidL L2) (kidL L2 g.x (!g.s)) g.o
  above : RepZ (kidL L2) (Tr.fillZ (g :: z) (.node x l r)).top z (some g.x)
  top : ∀ y, (Tr.fillZ (g :: z) (.node x l r)).top = some y → upL L2 y = none
  ro : Tr.Ranked (rkL R2) g.o
  rz : Tr.RankZ (rkL R2) (g :: z) (.node x l r)
  lef : Tr.Lef (Tr.fillZ (g :: z) (.node x l r))
  sm : Stands L2 (rkL R2) M
  kids : ∀ sd, kidL L2 x sd = none
  up : upL L2 x = none
  same : SameL (Tr.fillZ (g :: z) (.node x l r)).slots L L2 (rkL R) (rkL R2)
  rows : R2.length = n
section
variable {W : WS} {n : Nat} {L L1 : List Hg} {R R1 : List Int} {x : Int} {l r M : Tr} {s s1 : Int} {g : Fr} {z : List Fr}
theorem off_at (hS : Stands L (rkL R) (Tr.fillZ (g :: z) (.node x l r))) (G : Gone W n L R x l r M s L1 R1 s1) (I1 : GInv n L1) (I : GInv n L) : upL L1 x = some g.x ∧ OffAt n L R g z x l r M (cutL L1 x) R1 := by
  have hrep := rep_fill.1 hS.rep
  have hrk := Tr.ranked_fill.1 hS.rank
  obtain ⟨nf, nt, nz, hap⟩ := frame_out hS.nodup
  have hmem : ∀ y, y ∈ (Tr.fillZ (g :: z) (.node x l r)).slots ↔ y ∈ x :: (l.slots ++ r.slots) ∨ y ∈ Tr.zs (g :: z) := fun y => by rw [(Tr.fillZ_perm _ _).mem_iff, List.mem_append]; rfl
  have hout : ∀ y ∈ Tr.zs (g :: z), y ∉ x :: (l.slots ++ r.slots) := fun y hy h => hap y h hy
  have hzR : RepZ (kidL L1) (Tr.fillZ (g :: z) (.node x l r)).top (g :: z) (some x) := repZ_congr (fun y hy sd => G.same.kid y (hout y hy) sd) hrep.2
  have hup : upL L1 x = some g.x := by rw [G.up]; exact up_frame I hrep.2
  obtain ⟨k1, k2, k3, k4, k5, k6⟩ := cut_frame I1 hzR nf
  have hrz : Tr.RankZ (rkL R1) (g :: z) (.node x l r) := Tr.rankZ_congr (fun y hy => G.same.rk y (hout y hy)) hrk.2
  have hxg : x ≠ g.x := fun e => nt (by rw [← e]; simp [Tr.slots])
  have hMx : ∀ y ∈ M.slots, y ≠ x ∧ y ≠ g.x := fun y hy => by
    have h1 := G.perm.mem_iff.1 hy
    refine ⟨fun e => ?_, fun e => nt (by rw [← e]; exact List.mem_cons_of_mem _ h1)⟩
    have h2 := (List.nodup_append.1 ((Tr.fillZ_perm (g :: z) _).nodup_iff.1 hS.nodup)).1
    rw [Tr.slots, List.nodup_cons] at h2
    exact h2.1 (by rw [← e]; exact h1)
  have hsame : SameL (x :: Tr.zs (g :: z)) L1 (cutL L1 x) (rkL R1) (rkL R1) := ⟨fun y hy => k6 y fun e => hy (by simp [e, Tr.zs]), fun y hy => k5 y fun e => hy (by simp [e]), fun _ _ => rfl⟩
  refine ⟨hup, k1, k2, k3, fun y hy => ?_, hrz.2.1, hrz, hS.lef, ⟨rep_congr (fun y hy => k6 y (hMx y hy).2) G.sm.rep, G.sm.rank, G.sm.lef, fun y hy => by rw [k5 y (hMx y (Tr.top_in hy)).1]; exact G.sm.root y hy, G.sm.nodup⟩, fun sd => by rw [k6 x hxg]; exact G.kids sd, k4, ?_, G.rows⟩
  · by_cases e : y = x
    · rw [e]; exact k4
    · rw [k5 y e]
      have h1 := hS.root y hy
      obtain ⟨y', e1, h2⟩ := Tr.zip_top_in z g (.node x l r)
      have e2 : y = y' := by rw [hy] at h2; injection h2
      subst e2
      rw [G.same.up y (hout y e1)]
      exact h1
  · refine (G.same.mono fun y hy => (hmem y).2 (Or.inl hy)).trans (hsame.mono fun y hy => ?_)
    rcases List.mem_cons.1 hy with e | e
    · exact (hmem y).2 (Or.inl (by simp [e]))
    · exact (hmem y).2 (Or.inr e)
/-- Behind the settling of what is above. -/
theorem off_done {L3 L4 : List Hg} {R4 : List Int} {m : Int} (hS : (Tr.fillZ (g :: z) (.node x l r)).slots.Nodup) (O : OffAt n L R g z x l r M L1 R1) (h3 : ∀ y, y ≠ g.x → ∀ sd, kidL L3 y sd = kidL L1 y sd) (h4 : ∀ y, y ≠ m → upL L3 y = upL L1 y) (hm : m ∈ (Tr.fillZ (g :: z) (.node x l r)).slots ∧ m ≠ x)
    (h5 : SameL (Tr.zs (g :: z)) L3 L4 (rkL R1) (rkL R4)) (h6 : ∀ y, upL L4 y = upL L3 y) : (upL L4 x = none ∧ ∀ sd, kidL L4 x sd = none) ∧ SameL (Tr.fillZ (g :: z) (.node x l r)).slots L L4 (rkL R) (rkL R4) := by
  obtain ⟨nf, nt, nz, hap⟩ := frame_out hS
  have hxg : x ≠ g.x := fun e => nt (by rw [← e]; simp [Tr.slots])
  have hmem : ∀ y, y ∈ Tr.zs (g :: z) → y ∈ (Tr.fillZ (g :: z) (.node x l r)).slots := fun y hy => (Tr.fillZ_perm _ _).mem_iff.2 (List.mem_append_right _ hy)
  refine ⟨⟨?_, fun sd => ?_⟩, O.same.trans (SameL.trans (L' := L3) (r' := rkL R1) ⟨fun y hy => h3 y fun e => hy (hmem y (by simp [e, Tr.zs])), fun y hy => h4 y fun e => hy (by rw [e]; exact hm.1), fun _ _ => rfl⟩ (h5.mono hmem))⟩
  · rw [h6, h4 x (fun e => hm.2 e.symm)]; exact O.up
  · rw [h5.kid x (hap x (by simp [Tr.slots])), h3 x hxg]; exact O.kids sd
end
section
variable {n : Nat} {L L2 : List Hg} {R R2 : List Int} {x m : Int} {l r M : Tr} {g : Fr} {z : List Fr}
theorem off_nodup (hS : (Tr.fillZ (g :: z) (.node x l r)).slots.Nodup) (hM : M.slots.Nodup) (hp : M.slots.Perm (l.slots ++ r.slots)) : (g.x :: (g.o.slots ++ M.slots) ++ Tr.zs z).Nodup ∧ ∀ y, y ∈ g.x :: (g.o.slots ++ M.slots) ++ Tr.zs z → y ∈ (Tr.fillZ (g :: z) (.node x l r)).slots := by
  obtain ⟨nf, nt, nz, hap⟩ := frame_out hS
  have hq : ∀ y ∈ M.slots, y ∈ (Tr.node x l r).slots := fun y hy => by rw [Tr.slots]; exact List.mem_cons_of_mem _ (hp.mem_iff.1 hy)
  have hn : (M.slots ++ Tr.zs (g :: z)).Nodup := by
    rw [List.nodup_append]
    exact ⟨hM, nz, fun a ha b hb e => hap a (hq a ha) (by rw [e]; exact hb)⟩
  have pm : (g.x :: (g.o.slots ++ M.slots) ++ Tr.zs z).Perm (M.slots ++ Tr.zs (g :: z)) := by
    rw [List.perm_iff_count]
    intro y
    simp only [Tr.zs, List.count_append, List.count_cons]
    omega
  refine ⟨pm.nodup_iff.2 hn, fun y hy => ?_⟩
  rcases List.mem_append.1 (pm.mem_iff.1 hy) with h | h
  · exact (Tr.fillZ_perm _ _).mem_iff.2 (List.mem_append_left _ (hq y h))
  · exact (Tr.fillZ_perm _ _).mem_iff.2 (List.mem_append_right _ h)
/-- What was below the slot comes to the right, where that is free. -/
theorem off_right (I : GInv n L2) (O : OffAt n L R g z x l r M L2 R2) (hS : (Tr.fillZ (g :: z) (.node x l r)).slots.Nodup) (hin : ∀ y ∈ (Tr.fillZ (g :: z) (.node x l r)).slots, inN n y) (hp : M.slots.Perm (l.slots ++ r.slots)) (hm : M.top = some m) (hk : kidL L2 g.x true = none) :
    hangB n L2 g.x m true = true ∧ (¬ aboveL L2 m g.x) ∧ (∀ y, y ≠ m → upL (hangL n L2 g.x m true) y = upL L2 y) ∧ (∀ y, y ≠ g.x → ∀ s, kidL (hangL n L2 g.x m true) y s = kidL L2 y s) ∧ ∃ a b, MendAt n (hangL n L2 g.x m true) R2 (Tr.fillZ (g :: z) (.node x l r)).top z g.x a b (Tr.sit g (.node x l r)) (Tr.lfillZ (g :: z) M) := by
  obtain ⟨h1, h2⟩ := off_nodup hS O.sm.nodup hp
  have fo := (Tr.sit_lef (Tr.lefZ (z := z) O.lef)).1
  have hoth := O.other
  have hro := O.ro
  cases hs : g.s
  · rw [hs] at hoth
    have hon : g.o = .nil := by
      have e := rep_top hoth
      have e2 : kidL L2 g.x (!false) = none := hk
      rw [e2] at e
      cases ho : g.o with
      | nil => rfl
      | node a b d => rw [ho] at e; cases e
    rw [hon] at h1 h2
    refine hang_mend (sd := true) (O := .nil) I hk ?_ O.sm hm O.above O.top trivial trivial O.rz O.lef h1 (fun y hy => hin y (h2 y hy)) ?_
    · have := O.free; rw [hs] at this; exact this
    · unfold Tr.lsit; rw [hs, hon]; exact Tr.mk_flip _ _
  · rw [hs] at hoth
    exact hang_mend (sd := true) (O := g.o) I hk hoth O.sm hm O.above O.top hro fo O.rz O.lef h1 (fun y hy => hin y (h2 y hy)) (by unfold Tr.lsit; rw [hs])
/-- .. or to the left. -/
theorem off_left (I : GInv n L2) (O : OffAt n L R g z x l r M L2 R2) (hS : (Tr.fillZ (g :: z) (.node x l r)).slots.Nodup) (hin : ∀ y ∈ (Tr.fillZ (g :: z) (.node x l r)).slots, inN n y) (hp : M.slots.Perm (l.slots ++ r.slots)) (hm : M.top = some m) (hk : kidL L2 g.x true ≠ none) :
    hangB n L2 g.x m true = false ∧ hangB n L2 g.x m false = true ∧ (¬ aboveL L2 m g.x) ∧ (∀ y, y ≠ m → upL (hangL n L2 g.x m false) y = upL L2 y) ∧ (∀ y, y ≠ g.x → ∀ s, kidL (hangL n L2 g.x m false) y s = kidL L2 y s) ∧ ∃ a b, MendAt n (hangL n L2 g.x m false) R2 (Tr.fillZ (g :: z) (.node x l r)).top z g.x a b (Tr.sit g (.node x l r)) (Tr.lfillZ (g :: z) M) := by
  obtain ⟨h1, h2⟩ := off_nodup hS O.sm.nodup hp
  have fo := (Tr.sit_lef (Tr.lefZ (z := z) O.lef)).1
  have hfree := O.free
  have hoth := O.other
  refine ⟨?_, ?_⟩
  · unfold hangB
    have : (kidL L2 g.x true).isNone = false := by
      cases h : kidL L2 g.x true with
      | none => exact absurd h hk
      | some y => rfl
    rw [this, Bool.and_false]
  · cases hs : g.s
    · rw [hs] at hfree hoth
      exact hang_mend (sd := false) (O := g.o) I hfree hoth O.sm hm O.above O.top O.ro fo O.rz O.lef h1 (fun y hy => hin y (h2 y hy)) (by unfold Tr.lsit; rw [hs])
    · rw [hs] at hfree
      exact absurd hfree hk
end
section
variable {F0 : Nat → Prop} {W0 w : World} {f c t n : Nat} {v : Value} {W : WS} {s : Int} {L : List Hg} {R : List Int} {q : List Ob}
def RemovePost (F0 : Nat → Prop) (W0 : World) (f c t : Nat) (v : Value) (n : Nat) (W : WS) (s : Int) (L : List Hg) (R : List Int) (q : List Ob) (z : List Fr) (x : Int) (l r : Tr) (e : Ending) (w' : World) : Prop :=
  ∃ (M : Tr) (L' : List Hg) (R' : List Int) (s' : Int), e = .returned (.tuple #[.int .i64 (M.top.getD 0), .bool M.top.isSome]) ∧ R'.length = n ∧ M.slots.Perm (l.slots ++ r.slots) ∧ Tr.Ok (aheadW W) M ∧ Stands L' (rkL R') (Tr.lfillZ z M) ∧ (upL L' x = none ∧ ∀ sd, kidL L' x sd = none) ∧
    SameL (Tr.fillZ z (.node x l r)).slots L L' (rkL R) (rkL R') ∧ (s ≤ s' ∧ s' ≤ s + (Tr.spine l + Tr.spine r : Nat)) ∧ Stage F0 W0 (forestParts f c t v n W s' L' R' ++ q) w'
set_option maxRecDepth 100000 in
set_option maxHeartbeats 2000000 in
theorem remove_st {z : List Fr} {x : Int} {l r : Tr} (h : Stage F0 W0 (forestParts f c t v n W s L R ++ q) w) (hR : R.length = n) (hW : W.cells.length = n) (hS : Stands L (rkL R) (Tr.fillZ z (.node x l r))) (hk : Tr.Ok (aheadW W) (Tr.fillZ z (.node x l r))) (hin : ∀ y ∈ (Tr.fillZ z (.node x l r)).slots, inW W y = true) :
    Calls Try.prog 118 #[.pointer (some ⟨f, 0, none⟩), .int .i64 x] w (RemovePost F0 W0 f c t v n W s L R q z x l r) := by
  obtain ⟨I, hn⟩ := fo_inv h
  have hat := hS.at'
  have hnd := (List.nodup_append.1 ((Tr.fillZ_perm z _).nodup_iff.1 hS.nodup)).1
  have hmem : ∀ y, y ∈ x :: (l.slots ++ r.slots) → y ∈ (Tr.fillZ z (.node x l r)).slots := fun y hy => (Tr.fillZ_perm _ _).mem_iff.2 (List.mem_append_left _ hy)
  have hinN : ∀ y ∈ (Tr.fillZ z (.node x l r)).slots, inN n y := fun y hy => by
    obtain ⟨i, rfl, hi⟩ := in_n hW (hin y hy)
    exact ⟨by omega, by omega⟩
  have hG := gather_st h ⟨hR, hW, hat.1, hat.2.1, hat.2.2.2.1, hat.2.2.2.2.1, Tr.lefZ hS.lef, Tr.okZ hk, hnd, fun y hy => hin y (hmem y hy)⟩
  clear hat hnd h hR hW hk
  unfold RemovePost
  go_enter Try.func118, Try.ntmps118
  go_wp2_with fail
  refine hG.mono ?_
  rintro e w1 ⟨M, L1, R1, s1, rfl, G, h1⟩
  clear hG
  obtain ⟨I1, _⟩ := fo_inv h1
  have hC := fo_cut h1 x
  have c1 := fo_c1 h1
  cases z with
  | nil =>
    have hu : upL L1 x = none := by rw [G.up]; exact hS.root x rfl
    rw [hu, cut_same I1 hu] at hC
    replace hC : Calls Try.prog 79 #[.pointer (some ⟨t, 0, none⟩), .int .i64 x] w1 fun e w' => e = .returned (.tuple #[.int .i64 0, .bool false]) ∧ Stage F0 W0 (forestParts f c t v n W s1 L1 R1 ++ q) w' := hC
    have hkid := G.kids
    have hsame : SameL (Tr.fillZ [] (.node x l r)).slots L L1 (rkL R) (rkL R1) := G.same
    have hfin := show R1.length = n ∧ M.slots.Perm (l.slots ++ r.slots) ∧ Tr.Ok (aheadW W) M ∧ Stands L1 (rkL R1) (Tr.lfillZ [] M) ∧ (upL L1 x = none ∧ ∀ sd, kidL L1 x sd = none) ∧ SameL (Tr.fillZ [] (.node x l r)).slots L L1 (rkL R) (rkL R1) ∧ (s ≤ s1 ∧ s1 ≤ s + (Tr.spine l + Tr.spine r : Nat)) from ⟨G.rows, G.perm, G.ok, G.sm, ⟨hu, hkid⟩, hsame, G.steps⟩
    clear h1 G hkid hsame hu hS hinN hin
    generalize hm : M.top.getD 0 = mv
    generalize hb : M.top.isSome = mb
    go_wp2_with fail
    refine hC.mono ?_
    rintro e w2 ⟨rfl, h2⟩
    clear hC
    go_wp2_with fail
    refine bodyPost_ret (v := .tuple #[.int .i64 mv, .bool mb]) (by simp [results, Try.results118, go_sem]) rfl ⟨M, L1, R1, s1, by rw [hm, hb], hfin.1, hfin.2.1, hfin.2.2.1, hfin.2.2.2.1, hfin.2.2.2.2.1, hfin.2.2.2.2.2.1, hfin.2.2.2.2.2.2, h2⟩
  | cons g z =>
    obtain ⟨hu, O⟩ := off_at hS G I1 I
    obtain ⟨nf, nt, nz, hap⟩ := frame_out hS.nodup
    have hsp := G.steps
    have hok := G.ok
    have hperm := G.perm
    rw [hu] at hC
    replace hC : Calls Try.prog 79 #[.pointer (some ⟨t, 0, none⟩), .int .i64 x] w1 fun e w' => e = .returned (.tuple #[.int .i64 g.x, .bool true]) ∧ Stage F0 W0 (forestParts f c t v n W s1 (cutL L1 x) R1 ++ q) w' := hC
    have hgz : ∀ y ∈ g.x :: Tr.zs z, y ∈ Tr.zs (g :: z) := fun y hy => by
      simp only [Tr.zs, List.mem_cons, List.mem_append] at hy ⊢
      rcases hy with e | e
      · exact Or.inl e
      · exact Or.inr (Or.inr e)
    have hzin : ∀ y ∈ Tr.zs (g :: z), inN n y := fun y hy => hinN y ((Tr.fillZ_perm _ _).mem_iff.2 (List.mem_append_right _ hy))
    have hMin : ∀ y ∈ M.slots, y ∈ (Tr.fillZ (g :: z) (.node x l r)).slots ∧ y ≠ x := fun y hy => by
      have h1 := hperm.mem_iff.1 hy
      refine ⟨hmem y (List.mem_cons_of_mem _ h1), fun e => ?_⟩
      have h2 := (List.nodup_append.1 ((Tr.fillZ_perm (g :: z) _).nodup_iff.1 hS.nodup)).1
      rw [Tr.slots, List.nodup_cons] at h2
      exact h2.1 (by rw [← e]; exact h1)
    have hgx : g.x ∈ (Tr.fillZ (g :: z) (.node x l r)).slots ∧ g.x ≠ x := ⟨(Tr.fillZ_perm _ _).mem_iff.2 (List.mem_append_right _ (by simp [Tr.zs])), fun e => nt (by rw [e]; simp [Tr.slots])⟩
    have hnd := hS.nodup
    generalize hmv : M.top.getD 0 = mv
    generalize hmb : M.top.isSome = mb
    have hret : (.tuple #[.int .i64 mv, .bool mb] : Value) = .tuple #[.int .i64 (M.top.getD 0), .bool M.top.isSome] := by rw [hmv, hmb]
    replace hmv := Lib.hid hmv
    replace hmb := Lib.hid hmb
    replace hret := Lib.hid hret
    clear hu G h1 I1 hS I hin
    go_wp2_with fail
    refine hC.mono ?_
    rintro e w2 ⟨rfl, h2⟩
    clear hC c1
    have c1 := fo_c1 h2
    obtain ⟨I2, _⟩ := fo_inv h2
    generalize cutL L1 x = L2 at *
    cases hm : M.top with
    | none =>
      obtain rfl : mb = false := by rw [← hmb.out, hm]; rfl
      clear hmb hmv
      obtain rfl : M = .nil := by cases M with
        | nil => rfl
        | node a b d => cases hm
      obtain ⟨a, b, hM⟩ := bare_mend O.free O.other O.above O.top O.ro O.rz O.lef nz hzin
      have hMd := mend_st h2 O.rows hM hgz
      have hdn := fun {L4 R4} => off_done (L3 := L2) (L4 := L4) (R4 := R4) hnd O (fun _ _ _ => rfl) (fun _ _ => rfl) hgx
      clear hm h2 hM hgz
      generalize g.x = p at *
      go_wp2_with fail
      refine hMd.mono ?_
      rintro e w3 ⟨rfl, L4, R4, m1, m2, m3, m4, h4⟩
      clear hMd
      go_wp2_with fail
      exact bodyPost_ret (v := .tuple #[.int .i64 mv, .bool false]) (by simp [results, Try.results118, go_sem]) rfl ⟨.nil, L4, R4, s1, by rw [hret.out], m1, hperm, hok, m2, (hdn m3 m4).1, (hdn m3 m4).2, hsp, h4⟩
    | some m =>
      obtain rfl : mb = true := by rw [← hmb.out, hm]; rfl
      obtain rfl : mv = m := by rw [← hmv.out, hm]; rfl
      clear hmb hmv
      have hmM := hMin mv (Tr.top_in hm)
      by_cases hkr : kidL L2 g.x true = none
      · obtain ⟨e1, e2, e3, e4, a, b, hM⟩ := off_right I2 O hnd hinN hperm hm hkr
        have hH := fo_hang h2 g.x mv true (Or.inl e2)
        rw [e1] at hH
        have hMd := fun (w3 : World) (h3 : Stage F0 W0 (forestParts f c t v n W s1 (hangL n L2 g.x mv true) R1 ++ q) w3) => mend_st h3 O.rows hM hgz
        have hdn := fun {L4 R4} => off_done (L4 := L4) (R4 := R4) hnd O e4 e3 hmM
        clear hm h2 hM hgz e1 e2 e3 e4 hkr
        generalize hangL n L2 g.x mv true = L3 at *
        generalize g.x = p at *
        go_wp2_with fail
        refine hH.mono ?_
        rintro e w3 ⟨rfl, h3⟩
        clear hH
        replace hMd := hMd w3 h3
        go_wp2_with fail
        refine hMd.mono ?_
        rintro e w4 ⟨rfl, L4, R4, m1, m2, m3, m4, h4⟩
        clear hMd
        go_wp2_with fail
        exact bodyPost_ret (v := .tuple #[.int .i64 mv, .bool true]) (by simp [results, Try.results118, go_sem]) rfl ⟨M, L4, R4, s1, by rw [hret.out], m1, hperm, hok, m2, (hdn m3 m4).1, (hdn m3 m4).2, hsp, h4⟩
      · obtain ⟨e0, e1, e2, e3, e4, a, b, hM⟩ := off_left I2 O hnd hinN hperm hm hkr
        have hH := fo_hang h2 g.x mv true (Or.inl e2)
        have hL3 : hangL n L2 g.x mv true = L2 := by unfold hangL; rw [e0]; rfl
        rw [e0, hL3] at hH
        have hH2 := fun (w3 : World) (h3 : Stage F0 W0 (forestParts f c t v n W s1 L2 R1 ++ q) w3) => fo_hang h3 g.x mv false (Or.inl e2)
        rw [e1] at hH2
        have hMd := fun (w3 : World) (h3 : Stage F0 W0 (forestParts f c t v n W s1 (hangL n L2 g.x mv false) R1 ++ q) w3) => mend_st h3 O.rows hM hgz
        have hdn := fun {L4 R4} => off_done (L4 := L4) (R4 := R4) hnd O e4 e3 hmM
        clear hm h2 hM hgz e0 e1 e2 e3 e4 hkr hL3
        generalize hangL n L2 g.x mv false = L3 at *
        generalize g.x = p at *
        go_wp2_with fail
        refine hH.mono ?_
        rintro e w3 ⟨rfl, h3⟩
        clear hH c1
        replace hH2 := hH2 w3 h3
        have c1 := fo_c1 h3
        go_wp2_with fail
        refine hH2.mono ?_
        rintro e w4 ⟨rfl, h4⟩
        clear hH2 h3
        replace hMd := hMd w4 h4
        go_wp2_with fail
        refine hMd.mono ?_
        rintro e w5 ⟨rfl, L4, R4, m1, m2, m3, m4, h5⟩
        clear hMd
        go_wp2_with fail
        exact bodyPost_ret (v := .tuple #[.int .i64 mv, .bool true]) (by simp [results, Try.results118, go_sem]) rfl ⟨M, L4, R4, s1, by rw [hret.out], m1, hperm, hok, m2, (hdn m3 m4).1, (hdn m3 m4).2, hsp, h5⟩
end
end Go.Proofs.Ythjelmbicnbhiaa

namespace Go.Proofs.Ythjelmbicnbhiaa
open Go.RowKit Go.Sort

def boolC (b : Bool) : List Value := [.bool b]
theorem boolC_len (b : Bool) : (boolC b).length = 1 := rfl
def ncellC (c : CellD) : List Value := [.int .i64 c.home, .int .i64 c.key, .int .u64 c.seq]
theorem ncellC_len (c : CellD) : (ncellC c).length = 3 := rfl
/-- hv and cv are the rows of the nest W; nobody writes them. -/
structure NestAt (w : World) (hv cv : Value) (W : WS) : Prop where
  hrow : w.ownsRow 0 4 1 hv W.heaps.length (cellsBy boolC W.heaps)
  crow : w.ownsRow 0 100 3 cv W.cells.length (cellsBy ncellC W.cells)
  hlen : W.heaps.length ≤ 65537
  clen : W.cells.length ≤ 65536
def nestF (hv cv : Value) : Nat → Prop := fun k => rowF hv k ∨ rowF cv k
theorem NestAt.keeps {G : Nat → Prop} {w w' : World} {hv cv : Value} {W : WS} (h : NestAt w hv cv W) (k : Keeps G w w') (hn : ∀ b, nestF hv cv b → ¬ G b) : NestAt w' hv cv W :=
  ⟨owns_keeps h.hrow k (fun b hb => hn b (Or.inl hb)), owns_keeps h.crow k (fun b hb => hn b (Or.inr hb)), h.hlen, h.clen⟩
theorem NestAt.later {w w' : World} {hv cv : Value} {W : WS} (h : NestAt w hv cv W) (hb : Below w.heap.size w w') : NestAt w' hv cv W :=
  h.keeps (Keeps.of_below_all hb (fun _ => False)) (fun _ _ x => x)
theorem NestAt.lt {w : World} {hv cv : Value} {W : WS} (h : NestAt w hv cv W) : ∀ k, nestF hv cv k → k < w.heap.size := by
  rintro k (hk | hk)
  · exact (h.hrow.lt k hk).2
  · exact (h.crow.lt k hk).2
/-- The document's nest as a thing. -/
def Ob.nest (hv cv : Value) (W : WS) : Ob where
  holds w F := NestAt w hv cv W ∧ F = nestF hv cv
  keeps := by rintro w w' F G ⟨h, rfl⟩ k hn; exact ⟨h.keeps k hn, rfl⟩
  lt := by rintro w F ⟨h, rfl⟩; exact h.lt
section
variable {w : World} {hv cv : Value} {W : WS}
theorem NestAt.hform (h : NestAt w hv cv W) : ∃ a c, hv = .slice a W.heaps.length c ∧ W.heaps.length ≤ c ∧ c ≤ 9223372036854775807 := by
  obtain ⟨a, c, h1, h2, h3⟩ := owns_form h.hrow
  exact ⟨a, c, h1, h2, by unfold maxLen at h3; omega⟩
theorem NestAt.cform (h : NestAt w hv cv W) : ∃ a c, cv = .slice a W.cells.length c ∧ W.cells.length ≤ c ∧ c ≤ 9223372036854775807 := by
  obtain ⟨a, c, h1, h2, h3⟩ := owns_form h.crow
  exact ⟨a, c, h1, h2, by unfold maxLen at h3; omega⟩
theorem NestAt.hcell (h : NestAt w hv cv W) (i : Nat) (hi : i < W.heaps.length) : ∃ g c, hv = .slice (some ⟨g, 0, none⟩) W.heaps.length c ∧ g < w.heap.size ∧ w.cell? ⟨g, i, none⟩ = some (.bool (W.heaps.getD i false)) := by
  obtain ⟨g, c, hv, _, _, _, h4, hc, _⟩ := owns_at boolC_len false h.hrow rfl (by omega)
  refine ⟨g, c, hv, h4, ?_⟩
  have := hc i 0 _ hi (by omega) rfl
  rwa [Nat.mul_one, Nat.add_zero] at this
theorem NestAt.ccell (h : NestAt w hv cv W) (i : Nat) (hi : i < W.cells.length) : ∃ g c, cv = .slice (some ⟨g, 0, none⟩) W.cells.length c ∧ g < w.heap.size ∧
    w.cell? ⟨g, i * 3, none⟩ = some (.int .i64 (W.cells.getD i .off).home) ∧ w.cell? ⟨g, i * 3 + 1, none⟩ = some (.int .i64 (W.cells.getD i .off).key) ∧ w.cell? ⟨g, i * 3 + 2, none⟩ = some (.int .u64 (W.cells.getD i .off).seq) := by
  obtain ⟨g, c, hv, _, _, _, h4, hc, _⟩ := owns_at ncellC_len .off h.crow rfl (by omega)
  exact ⟨g, c, hv, h4, hc i 0 _ hi (by omega) rfl, hc i 1 _ hi (by omega) rfl, hc i 2 _ hi (by omega) rfl⟩

theorem refhas_any (y : Int) (h : NestAt w hv cv W) : Calls Try.prog 60 #[.agg #[hv, cv], .int .i64 y] w fun e w' => e = .returned (.bool (hasW W y)) ∧ Below w.heap.size w w' := by
  have hB : Below w.heap.size w (w.alloc (.cells #[hv, cv] 58)) := (Below.refl _ _).alloc (Nat.le_refl _) _
  obtain ⟨a, c, rfl, h1, h2⟩ := h.hform
  have hl := h.hlen
  by_cases hy : 1 ≤ y
  · by_cases hy2 : y < W.heaps.length
    · obtain ⟨i, rfl⟩ : ∃ i : Nat, y = i := ⟨y.toNat, by omega⟩
      obtain ⟨g, c', hv', hg, hc⟩ := h.hcell i (by omega)
      cases hv'
      have e1 : hasW W i = W.heaps.getD i false := by simp [hasW]; omega
      rw [e1]
      generalize W.heaps.getD i false = z at *
      clear h e1
      generalize W.heaps.length = n at *
      have hi : i < n := by omega
      go_enter Try.func60, Try.ntmps60
      go_wp2
      go_ret
      exact ⟨rfl, hB⟩
    · have e1 : hasW W y = false := by simp [hasW]; omega
      rw [e1]
      clear h e1
      generalize W.heaps.length = n at *
      go_enter Try.func60, Try.ntmps60
      go_wp2
      go_ret
      exact ⟨rfl, hB⟩
  · have e1 : hasW W y = false := by simp [hasW]; omega
    rw [e1]
    clear h e1
    generalize W.heaps.length = n at *
    go_enter Try.func60, Try.ntmps60
    go_wp2
    go_ret
    exact ⟨rfl, hB⟩
theorem refin_any (x : Int) (h : NestAt w hv cv W) : Calls Try.prog 27 #[.agg #[hv, cv], .int .i64 x] w fun e w' => e = .returned (.bool (inW W x)) ∧ Below w.heap.size w w' := by
  have hB : Below w.heap.size w (w.alloc (.cells #[hv, cv] 58)) := (Below.refl _ _).alloc (Nat.le_refl _) _
  obtain ⟨a, c, rfl, h1, h2⟩ := h.cform
  have hl := h.clen
  by_cases hx : 0 ≤ x
  · by_cases hx2 : x < W.cells.length
    · obtain ⟨i, rfl⟩ : ∃ i : Nat, x = i := ⟨x.toNat, by omega⟩
      obtain ⟨g, c', hv', hg, hc, _, _⟩ := h.ccell i (by omega)
      cases hv'
      have e1 : inW W i = decide (0 < (W.cells.getD i .off).home) := by
        rw [inW, cell_nat W i (by omega)]
        by_cases e : (W.cells.getD i .off).home = 0
        · rw [e]; rfl
        · rw [bne_iff_ne.2 e, decide_eq_true (by omega)]
      rw [e1]
      generalize W.cells.getD i .off = z at *
      clear h e1
      generalize W.cells.length = n at *
      have hi : i < n := by omega
      go_enter Try.func27, Try.ntmps27
      go_wp2
      go_ret
      exact ⟨rfl, hB⟩
    · have e1 : inW W x = false := by
        have : slotW W x = false := by simp [slotW]; omega
        rw [inW, cell_off this]; rfl
      rw [e1]
      clear h e1
      generalize W.cells.length = n at *
      go_enter Try.func27, Try.ntmps27
      go_wp2
      go_ret
      exact ⟨rfl, hB⟩
  · have e1 : inW W x = false := by
      have : slotW W x = false := by simp [slotW]; omega
      rw [inW, cell_off this]; rfl
    rw [e1]
    clear h e1
    generalize W.cells.length = n at *
    go_enter Try.func27, Try.ntmps27
    go_wp2
    go_ret
    exact ⟨rfl, hB⟩
end
end Go.Proofs.Ythjelmbicnbhiaa
