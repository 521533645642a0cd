/- Merged of SkewRemove, NestRef. -/
import Derived.Test.YtehoejoeoaimjaaSkewMerge
import Derived.Test.YtehoejoeoaimjaaSpineObj
import Derived.Test.YtehoejoeoaimjaaNestMath
import Derived.Test.YtehoejoeoaimjaaLess
import Derived.Deep.RegionLaw
import Derived.Deep.RegionHeld3
import Derived.Deep.DeepCutAuto
namespace Go.Proofs.Ytehoejoeoaimjaa
open Go.RowKit Go.Sort

section
variable {n : Nat} {L : List Hg}
theorem top_none {t : Tr} (h : t.top = none) : t = .nil := by
  cases t with
  | nil => rfl
  | node _ _ _ => cases h
/-- What hangs below the frame g, if something does, comes off. -/
theorem ks_loose (I : GInv n L) {g : Fr} {z : List Fr} {t : Tr} (h : KStands L (Tr.fillZ (g :: z) t)) :
    kidL L g.x g.s = t.top ∧ KStands (looseL L t.top) (Tr.fillZ (g :: z) .nil) ∧ KStands (looseL L t.top) t ∧ KSame (g.x :: t.slots) L (looseL L t.top) := by
  cases ht : t.top with
  | none =>
    obtain rfl := top_none ht
    exact ⟨(rep_fill.1 h.rep).2.1, h, KStands.nil _, KSame.refl _ _⟩
  | some x =>
    obtain ⟨_, h1, h2, h3, h4⟩ := ks_cut I h ht
    refine ⟨h1, h2, h3, h4.mono fun y hy => ?_⟩
    simp only [List.mem_cons, List.not_mem_nil, or_false] at hy
    rcases hy with e | e
    · rw [e]; exact List.mem_cons_self
    · rw [e]; exact List.mem_cons_of_mem _ (Tr.top_in ht)
/-- A slot with nothing below it hangs nowhere. -/
theorem KStands.bare {x : Int} (h : KStands L (.node x .nil .nil)) : upL L x = none ∧ ∀ sd, kidL L x sd = none :=
  ⟨h.root x rfl, fun sd => by cases sd; exact h.rep.2.1; exact h.rep.2.2⟩
end
/-- What came of a slot's trees. -/
structure KGone (n : Nat) (W : WS) (L : List Hg) (z : List Fr) (x : Int) (l r M : Tr) (L' : List Hg) : Prop where
  rest : KStands L' (Tr.fillZ z (.node x .nil .nil))
  sm : KStands L' M
  same : KSame (x :: (l.slots ++ r.slots)) L L'
section
variable {F0 : Nat → Prop} {W0 w : World} {f c t n : Nat} {W : WS} {s : Int} {L : List Hg} {q : List Ob} {z : List Fr} {x : Int} {l r : Tr}
set_option maxRecDepth 100000 in
set_option maxHeartbeats 2000000 in
theorem kgather_st (h : Stage F0 W0 (skForest f c t n W s L ++ q) w) (hW : W.cells.length = n) (hS : KStands L (Tr.fillZ z (.node x l r))) (hin : ∀ y ∈ l.slots ++ r.slots, inW W y = true) :
    Calls Try.prog 77 #[.pointer (some ⟨f, 0, none⟩), .int .i64 x] w fun e w' => ∃ (L' : List Hg), e = .returned (.tuple #[.int .i64 ((Tr.merge (aheadW W) l r).top.getD 0), .bool (Tr.merge (aheadW W) l r).top.isSome]) ∧
      KGone n W L z x l r (Tr.merge (aheadW W) l r) L' ∧ Stage F0 W0 (skForest f c t n W (stp s (Tr.asked (aheadW W) l r)) L' ++ q) w' := by
  obtain ⟨I, hn⟩ := kf_inv h
  have hst := (kf_fit h).2
  obtain ⟨nl, nr, nz, nlr, _, nlz, nrz⟩ := Tr.node_out hS.nodup
  rw [List.nodup_append] at nlr
  have hS1 : KStands L (Tr.fillZ (⟨false, x, r⟩ :: z) l) := hS
  obtain ⟨a1, a2, a3, a4⟩ := ks_loose I hS1
  have c1 := kf_c1 h
  have hL := kf_left h x
  rw [show kidL L x false = l.top from a1] at hL
  have hO := loosen_st h l.top
  have hI := fun (w1 : World) (h1 : Stage F0 W0 (skForest f c t n W s (looseL L l.top) ++ q) w1) => kf_inv h1
  generalize looseL L l.top = L1 at *
  have hS2 : KStands L1 (Tr.fillZ (⟨true, x, .nil⟩ :: z) r) := a2
  clear hS hS1 a1 a2 I h
  generalize hlt : l.top = lt at *
  generalize hlv : lt.getD 0 = lv at *
  generalize hls : lt.isSome = ls at *
  replace hlv := Lib.hid hlv
  replace hls := Lib.hid hls
  go_enter Try.func77, Try.ntmps77
  go_wp2_with fail
  refine hL.mono ?_
  rintro e w1 ⟨rfl, rfl⟩
  clear hL
  go_wp2_with fail
  refine hO.mono ?_
  rintro e w1 ⟨rfl, h1⟩
  clear hO c1
  obtain ⟨I, _⟩ := hI w1 h1
  clear hI
  obtain ⟨b1, b2, b3, b4⟩ := ks_loose I hS2
  have c1 := kf_c1 h1
  have hR := kf_right h1 x
  rw [show kidL L1 x true = r.top from b1] at hR
  have hO := loosen_st h1 r.top
  have hSl : KStands (looseL L1 r.top) l := a3.same b4 fun y hy hm => by
    rcases List.mem_cons.1 hm with e | e
    · exact nl (show x ∈ l.slots from (show y = x from e) ▸ hy)
    · exact nlr.2.2 y hy y e rfl
  generalize looseL L1 r.top = L2 at *
  have hsame : KSame (x :: (l.slots ++ r.slots)) L L2 := (a4.mono fun y hy => by
    rcases List.mem_cons.1 hy with e | e
    · rw [e]; exact List.mem_cons_self
    · exact List.mem_cons_of_mem _ (List.mem_append_left _ e)).trans (b4.mono fun y hy => by
    rcases List.mem_cons.1 hy with e | e
    · rw [e]; exact List.mem_cons_self
    · exact List.mem_cons_of_mem _ (List.mem_append_right _ e))
  have hrest : KStands L2 (Tr.fillZ z (.node x .nil .nil)) := b2
  clear b1 b2 a3 a4 b4 I h1 hS2 hn
  generalize hrt : r.top = rt at *
  generalize hrv : rt.getD 0 = rv at *
  generalize hrs : rt.isSome = rs at *
  replace hrv := Lib.hid hrv
  replace hrs := Lib.hid hrs
  go_wp2_with fail
  refine hR.mono ?_
  rintro e w2 ⟨rfl, rfl⟩
  clear hR
  go_wp2_with fail
  refine hO.mono ?_
  rintro e w2 ⟨rfl, h2⟩
  clear hO c1
  cases ls
  · obtain rfl : l = .nil := top_none (by rw [hlt]; cases lt with
      | none => rfl
      | some y => have := hls.out; cases this)
    obtain ⟨e1, e2⟩ := Tr.merge_nil (lt := aheadW W) r
    have hend : (.tuple #[.int .i64 rv, .bool rs] : Value) = .tuple #[.int .i64 ((Tr.merge (aheadW W) .nil r).top.getD 0), .bool (Tr.merge (aheadW W) .nil r).top.isSome] := by rw [e1, hrt, hrv.out, hrs.out]
    have hG : KGone n W L z x .nil r (Tr.merge (aheadW W) .nil r) L2 := ⟨hrest, by rw [e1]; exact b3, hsame⟩
    have h3 : Stage F0 W0 (skForest f c t n W (stp s (Tr.asked (aheadW W) .nil r)) L2 ++ q) w2 := by rw [e2, stp_zero hst.2]; exact h2
    replace hend := Lib.hid hend
    clear hlt hlv hls hrt hrv hrs e1 e2 h2
    go_wp2_with fail
    exact bodyPost_ret (v := .tuple #[.int .i64 rv, .bool rs]) (by simp [results, Try.results77, go_sem]) rfl ⟨L2, by rw [hend.out], hG, h3⟩
  · cases rs
    · obtain rfl : r = .nil := top_none (by rw [hrt]; cases rt with
        | none => rfl
        | some y => have := hrs.out; cases this)
      obtain ⟨e1, e2⟩ := Tr.merge_bare (lt := aheadW W) l
      have hend : (.tuple #[.int .i64 lv, .bool true] : Value) = .tuple #[.int .i64 ((Tr.merge (aheadW W) l .nil).top.getD 0), .bool (Tr.merge (aheadW W) l .nil).top.isSome] := by rw [e1, hlt, hlv.out, hls.out]
      have hG : KGone n W L z x l .nil (Tr.merge (aheadW W) l .nil) L2 := ⟨hrest, by rw [e1]; exact hSl, hsame⟩
      have h3 : Stage F0 W0 (skForest f c t n W (stp s (Tr.asked (aheadW W) l .nil)) L2 ++ q) w2 := by rw [e2, stp_zero hst.2]; exact h2
      replace hend := Lib.hid hend
      clear hlt hlv hls hrt hrv hrs e1 e2 h2
      go_wp2_with fail
      exact bodyPost_ret (v := .tuple #[.int .i64 lv, .bool true]) (by simp [results, Try.results77, go_sem]) rfl ⟨L2, by rw [hend.out], hG, h3⟩
    · have el : l.top = some lv := by
        rw [hlt]
        cases lt with
        | none => have := hls.out; cases this
        | some y => have := hlv.out; exact congrArg some this
      have er : r.top = some rv := by
        rw [hrt]
        cases rt with
        | none => have := hrs.out; cases this
        | some y => have := hrv.out; exact congrArg some this
      have hM := kmerge_st h2 ⟨hW, hSl, b3, fun y h1 h2 => nlr.2.2 y h1 y h2 rfl, hin⟩ el er
      clear hlt hlv hls hrt hrv hrs h2 el er hSl b3
      go_wp2_with fail
      refine hM.mono ?_
      rintro e w3 ⟨m, L3, rfl, m1, m2, m3, h3⟩
      have hx : x ∉ l.slots ++ r.slots := fun h => (List.mem_append.1 h).elim nl nr
      have hG : KGone n W L z x l r (Tr.merge (aheadW W) l r) L3 := ⟨hrest.same m3 fun y hy hm => by
        rcases List.mem_append.1 ((Tr.fillZ_perm _ _).mem_iff.1 hy) with h | h
        · simp only [Tr.slots, List.append_nil, List.mem_cons, List.not_mem_nil, or_false] at h
          exact hx (by rw [← h]; exact hm)
        · exact (List.mem_append.1 hm).elim (fun h2 => nlz y h2 h) (fun h2 => nrz y h2 h), m2, hsame.trans (m3.mono fun y hy => List.mem_cons_of_mem _ hy)⟩
      have hend := Lib.hid (show (.tuple #[.int .i64 m, .bool true] : Value) = .tuple #[.int .i64 ((Tr.merge (aheadW W) l r).top.getD 0), .bool (Tr.merge (aheadW W) l r).top.isSome] by rw [m1]; rfl)
      clear hM m1 m2 m3 hrest hsame
      go_wp2_with fail
      exact bodyPost_ret (v := .tuple #[.int .i64 m, .bool true]) (by simp [results, Try.results77, go_sem]) rfl ⟨L3, by rw [hend.out], hG, h3⟩
/-- What came of a tree that a slot came out of. -/
structure KOut (W : WS) (L : List Hg) (z : List Fr) (x : Int) (l r : Tr) (L' : List Hg) : Prop where
  tree : KStands L' (Tr.fillZ z (Tr.merge (aheadW W) l r))
  alone : upL L' x = none ∧ ∀ sd, kidL L' x sd = none
  same : KSame (Tr.fillZ z (.node x l r)).slots L L'
theorem kright {n : Nat} {L : List Hg} {root : Option Int} {g : Fr} {z : List Fr} {x : Int} (_I : GInv n L) (h : RepZ (kidL L) root (g :: z) (some x)) (hx : x ∉ g.o.slots) : (kidL L g.x true == some x) = g.s := by
  obtain ⟨sd, p, o⟩ := g
  cases sd
  · have h2 := rep_top h.2.1
    replace h2 : kidL L p true = o.top := h2
    show (kidL L p true == some x) = false
    rw [h2, beq_eq_false_iff_ne]
    exact fun e => hx (Tr.top_in e)
  · have h1 : kidL L p true = some x := h.1
    show (kidL L p true == some x) = true
    rw [h1]; simp
set_option maxRecDepth 100000 in
set_option maxHeartbeats 2000000 in
theorem kremove_st (h : Stage F0 W0 (skForest f c t n W s L ++ q) w) (hW : W.cells.length = n) (hS : KStands L (Tr.fillZ z (.node x l r))) (hin : ∀ y ∈ (Tr.fillZ z (.node x l r)).slots, inW W y = true) :
    Calls Try.prog 63 #[.pointer (some ⟨f, 0, none⟩), .int .i64 x] w fun e w' => ∃ (L' : List Hg), e = .returned (.tuple #[.int .i64 ((Tr.merge (aheadW W) l r).top.getD 0), .bool (Tr.merge (aheadW W) l r).top.isSome]) ∧
      KOut W L z x l r L' ∧ Stage F0 W0 (skForest f c t n W (stp s (Tr.asked (aheadW W) l r)) L' ++ q) w' := by
  have hmem : ∀ y, y ∈ x :: (l.slots ++ r.slots) → y ∈ (Tr.fillZ z (.node x l r)).slots := fun y hy => (Tr.fillZ_perm _ _).mem_iff.2 (List.mem_append_left _ hy)
  have hmz : ∀ y ∈ Tr.zs z, y ∈ (Tr.fillZ z (.node x l r)).slots := fun y hy => (Tr.fillZ_perm _ _).mem_iff.2 (List.mem_append_right _ hy)
  have hG := kgather_st h hW hS fun y hy => hin y (hmem y (List.mem_cons_of_mem _ hy))
  have hperm := Tr.merge_perm (aheadW W) l r
  obtain ⟨nl, nr, nz, nlr, nzz, nlz, nrz⟩ := Tr.node_out hS.nodup
  have hinn : ∀ y ∈ (Tr.fillZ z (.node x l r)).slots, inN n y := fun y hy => by
    obtain ⟨i, rfl, hi⟩ := in_n hW (hin y hy)
    exact ⟨by omega, by omega⟩
  have hMz : ∀ y ∈ (Tr.merge (aheadW W) l r).slots, y ∉ Tr.zs z ∧ y ≠ x ∧ y ∈ (Tr.fillZ z (.node x l r)).slots := fun y hy => by
    have h1 := hperm.mem_iff.1 hy
    refine ⟨fun h2 => ?_, fun e => ?_, hmem y (List.mem_cons_of_mem _ h1)⟩
    · exact (List.mem_append.1 h1).elim (fun h => nlz y h h2) (fun h => nrz y h h2)
    · rw [e] at h1; exact (List.mem_append.1 h1).elim nl nr
  have hxin : x ∈ (Tr.fillZ z (.node x l r)).slots := hmem x List.mem_cons_self
  clear h hS hin hW hperm
  generalize stp s (Tr.asked (aheadW W) l r) = s1 at *
  have hK : ∀ {L1 L' : List Hg}, KGone n W L z x l r (Tr.merge (aheadW W) l r) L1 → KStands L' (Tr.fillZ z (Tr.merge (aheadW W) l r)) → KStands L' (.node x .nil .nil) → KSame (Tr.fillZ z (.node x l r)).slots L1 L' → KOut W L z x l r L' := fun G h1 h2 h3 =>
    ⟨h1, h2.bare, (G.same.mono hmem).trans h3⟩
  generalize hM : Tr.merge (aheadW W) l r = M at *
  generalize hmv : M.top.getD 0 = mv at *
  generalize hmb : M.top.isSome = mb at *
  replace hmv := Lib.hid hmv
  replace hmb := Lib.hid hmb
  go_enter Try.func63, Try.ntmps63
  go_wp2_with fail
  refine hG.mono ?_
  rintro e w1 ⟨L1, rfl, G, h1⟩
  clear hG
  obtain ⟨I1, _⟩ := kf_inv h1
  have hU := kf_up h1 x
  have c1 := kf_c1 h1
  cases z with
  | nil =>
    have hu : upL L1 x = none := G.rest.root x rfl
    rw [hu] at hU
    replace hU : Calls Try.prog 78 #[.pointer (some ⟨t, 0, none⟩), .int .i64 x] w1 fun e w' => e = .returned (.tuple #[.int .i64 0, .bool false]) ∧ w1 = w' := hU
    have hfin := hK G G.sm G.rest (KSame.refl _ _)
    clear G hu I1 hK
    go_wp2_with fail
    refine hU.mono ?_
    rintro e w2 ⟨rfl, rfl⟩
    clear hU
    go_wp2_with fail
    exact bodyPost_ret (v := .tuple #[.int .i64 mv, .bool mb]) (by simp [results, Try.results63, go_sem]) rfl ⟨L1, rfl, hfin, h1⟩
  | cons g z =>
    have hrest : KStands L1 (Tr.fillZ (g :: z) (.node x .nil .nil)) := G.rest
    obtain ⟨u1, u2, u3, u4, u5⟩ := ks_cut I1 hrest rfl
    have hzr := (rep_fill.1 hrest.rep).2
    have hgo : x ∉ g.o.slots := fun h => nz (by rw [Tr.zs]; exact List.mem_cons_of_mem _ (List.mem_append_left _ h))
    have hQ := isRight_st h1 g.x x
    rw [kright I1 hzr hgo] at hQ
    rw [u1] at hU
    replace hU : Calls Try.prog 78 #[.pointer (some ⟨t, 0, none⟩), .int .i64 x] w1 fun e w' => e = .returned (.tuple #[.int .i64 g.x, .bool true]) ∧ w1 = w' := hU
    have hC := kcut_st h1 x
    have hgz : g.x ∈ Tr.zs (g :: z) := by simp [Tr.zs]
    have hsame1 : KSame (Tr.fillZ (g :: z) (.node x l r)).slots L1 (cutL L1 x) := u5.mono fun y hy => by
      simp only [List.mem_cons, List.not_mem_nil, or_false] at hy
      rcases hy with e | e
      · rw [e]; exact hmz _ hgz
      · rw [e]; exact hxin
    have hM2 : KStands (cutL L1 x) M := G.sm.same u5 fun y hy hm => by
      simp only [List.mem_cons, List.not_mem_nil, or_false] at hm
      rcases hm with e | e
      · exact (hMz y hy).1 (by rw [e]; exact hgz)
      · exact (hMz y hy).2.1 e
    clear hrest hzr hgo h1 u1 u2 u5
    generalize cutL L1 x = L2 at *
    have hH := fun (w3 : World) (h3 : Stage F0 W0 (skForest f c t n W s1 L2 ++ q) w3) m hab => kf_hang h3 g.x m g.s hab
    generalize hgs : g.s = gs at *
    generalize hgx : g.x = p at *
    replace hgs := Lib.hid hgs
    replace hgx := Lib.hid hgx
    go_wp2_with fail
    refine hU.mono ?_
    rintro e w2 ⟨rfl, rfl⟩
    clear hU
    go_wp2_with fail
    refine hQ.mono ?_
    rintro e w2 ⟨rfl, rfl⟩
    clear hQ
    go_wp2_with fail
    refine hC.mono ?_
    rintro e w2 ⟨rfl, h2⟩
    clear hC c1
    have c1 := kf_c1 h2
    cases mb
    · obtain rfl : M = .nil := top_none (by
        cases e : M.top with
        | none => rfl
        | some y => have := hmb.out; rw [e] at this; cases this)
      have hfin := hK G u3 u4 hsame1
      clear hK G u3 u4 hsame1 hM2 hH
      go_wp2_with fail
      exact bodyPost_ret (v := .tuple #[.int .i64 mv, .bool false]) (by simp [results, Try.results63, go_sem]) rfl ⟨L2, rfl, hfin, h2⟩
    · have em : M.top = some mv := by
        cases e : M.top with
        | none => have := hmb.out; rw [e] at this; cases this
        | some y => have := hmv.out; rw [e] at this; exact congrArg some this
      obtain ⟨I2, _⟩ := kf_inv h2
      have hmin := hMz mv (Tr.top_in em)
      obtain ⟨v1, v2, v3, v4⟩ := ks_hang I2 u3 hM2 em (fun y hy hm => (hMz y hm).1 hy) (hinn _ (hmz _ (by simp [Tr.zs]))) (hinn _ hmin.2.2)
      rw [hgs.out, hgx.out] at v1 v3 v4
      rw [hgx.out] at v2
      replace hH := hH w2 h2 mv (Or.inl v2)
      rw [v1] at hH
      have hfin := hK G v3 (u4.same v4 fun y hy hm => (by
        simp only [Tr.slots, List.append_nil, List.mem_cons, List.not_mem_nil, or_false] at hy hm
        rcases hm with e | e
        · exact nz (by rw [← hy, e]; exact hgz)
        · exact hmin.2.1 (by rw [← e, hy]))) (hsame1.trans (v4.mono fun y hy => by
        simp only [List.mem_cons, List.not_mem_nil, or_false] at hy
        rcases hy with e | e
        · rw [e]; exact hmz _ hgz
        · rw [e]; exact hmin.2.2))
      clear hK G u3 u4 hsame1 hM2 em v1 v2 v3 v4 I2
      generalize hangL n L2 p mv gs = L3 at *
      go_wp2_with fail
      refine hH.mono ?_
      rintro e w3 ⟨rfl, h3⟩
      clear hH
      go_wp2_with fail
      exact bodyPost_ret (v := .tuple #[.int .i64 mv, .bool true]) (by simp [results, Try.results63, go_sem]) rfl ⟨L3, rfl, hfin, h3⟩
end
end Go.Proofs.Ytehoejoeoaimjaa

namespace Go.Proofs.Ytehoejoeoaimjaa
open Go.RowKit Go.Sort

def boolC (b : Bool) : List Value := [.bool b]
theorem boolC_len (b : Bool) : (boolC b).length = 1 := rfl
def ncellC (c : CellD) : List Value := [.int .i64 c.home, .int .i64 c.key, .int .u64 c.seq]
theorem ncellC_len (c : CellD) : (ncellC c).length = 3 := rfl
/-- hv and cv are the rows of the nest W; nobody writes them. -/
structure NestAt (w : World) (hv cv : Value) (W : WS) : Prop where
  hrow : w.ownsRow 0 4 1 hv W.heaps.length (cellsBy boolC W.heaps)
  crow : w.ownsRow 0 109 3 cv W.cells.length (cellsBy ncellC W.cells)
  hlen : W.heaps.length ≤ 65537
  clen : W.cells.length ≤ 65536
def nestF (hv cv : Value) : Nat → Prop := fun k => rowF hv k ∨ rowF cv k
theorem NestAt.keeps {G : Nat → Prop} {w w' : World} {hv cv : Value} {W : WS} (h : NestAt w hv cv W) (k : Keeps G w w') (hn : ∀ b, nestF hv cv b → ¬ G b) : NestAt w' hv cv W :=
  ⟨owns_keeps h.hrow k (fun b hb => hn b (Or.inl hb)), owns_keeps h.crow k (fun b hb => hn b (Or.inr hb)), h.hlen, h.clen⟩
theorem NestAt.later {w w' : World} {hv cv : Value} {W : WS} (h : NestAt w hv cv W) (hb : Below w.heap.size w w') : NestAt w' hv cv W :=
  h.keeps (Keeps.of_below_all hb (fun _ => False)) (fun _ _ x => x)
theorem NestAt.lt {w : World} {hv cv : Value} {W : WS} (h : NestAt w hv cv W) : ∀ k, nestF hv cv k → k < w.heap.size := by
  rintro k (hk | hk)
  · exact (h.hrow.lt k hk).2
  · exact (h.crow.lt k hk).2
/-- The document's nest as a thing. -/
def Ob.nest (hv cv : Value) (W : WS) : Ob where
  holds w F := NestAt w hv cv W ∧ F = nestF hv cv
  keeps := by rintro w w' F G ⟨h, rfl⟩ k hn; exact ⟨h.keeps k hn, rfl⟩
  lt := by rintro w F ⟨h, rfl⟩; exact h.lt
section
variable {w : World} {hv cv : Value} {W : WS}
theorem NestAt.hform (h : NestAt w hv cv W) : ∃ a c, hv = .slice a W.heaps.length c ∧ W.heaps.length ≤ c ∧ c ≤ 9223372036854775807 := by
  obtain ⟨a, c, h1, h2, h3⟩ := owns_form h.hrow
  exact ⟨a, c, h1, h2, by unfold maxLen at h3; omega⟩
theorem NestAt.cform (h : NestAt w hv cv W) : ∃ a c, cv = .slice a W.cells.length c ∧ W.cells.length ≤ c ∧ c ≤ 9223372036854775807 := by
  obtain ⟨a, c, h1, h2, h3⟩ := owns_form h.crow
  exact ⟨a, c, h1, h2, by unfold maxLen at h3; omega⟩
theorem NestAt.hcell (h : NestAt w hv cv W) (i : Nat) (hi : i < W.heaps.length) : ∃ g c, hv = .slice (some ⟨g, 0, none⟩) W.heaps.length c ∧ g < w.heap.size ∧ w.cell? ⟨g, i, none⟩ = some (.bool (W.heaps.getD i false)) := by
  obtain ⟨g, c, hv, _, _, _, h4, hc, _⟩ := owns_at boolC_len false h.hrow rfl (by omega)
  refine ⟨g, c, hv, h4, ?_⟩
  have := hc i 0 _ hi (by omega) rfl
  rwa [Nat.mul_one, Nat.add_zero] at this
theorem NestAt.ccell (h : NestAt w hv cv W) (i : Nat) (hi : i < W.cells.length) : ∃ g c, cv = .slice (some ⟨g, 0, none⟩) W.cells.length c ∧ g < w.heap.size ∧
    w.cell? ⟨g, i * 3, none⟩ = some (.int .i64 (W.cells.getD i .off).home) ∧ w.cell? ⟨g, i * 3 + 1, none⟩ = some (.int .i64 (W.cells.getD i .off).key) ∧ w.cell? ⟨g, i * 3 + 2, none⟩ = some (.int .u64 (W.cells.getD i .off).seq) := by
  obtain ⟨g, c, hv, _, _, _, h4, hc, _⟩ := owns_at ncellC_len .off h.crow rfl (by omega)
  exact ⟨g, c, hv, h4, hc i 0 _ hi (by omega) rfl, hc i 1 _ hi (by omega) rfl, hc i 2 _ hi (by omega) rfl⟩

theorem refhas_any (y : Int) (h : NestAt w hv cv W) : Calls Try.prog 51 #[.agg #[hv, cv], .int .i64 y] w fun e w' => e = .returned (.bool (hasW W y)) ∧ Below w.heap.size w w' := by
  have hB : Below w.heap.size w (w.alloc (.cells #[hv, cv] 58)) := (Below.refl _ _).alloc (Nat.le_refl _) _
  obtain ⟨a, c, rfl, h1, h2⟩ := h.hform
  have hl := h.hlen
  by_cases hy : 1 ≤ y
  · by_cases hy2 : y < W.heaps.length
    · obtain ⟨i, rfl⟩ : ∃ i : Nat, y = i := ⟨y.toNat, by omega⟩
      obtain ⟨g, c', hv', hg, hc⟩ := h.hcell i (by omega)
      cases hv'
      have e1 : hasW W i = W.heaps.getD i false := by simp [hasW]; omega
      rw [e1]
      generalize W.heaps.getD i false = z at *
      clear h e1
      generalize W.heaps.length = n at *
      have hi : i < n := by omega
      go_enter Try.func51, Try.ntmps51
      go_wp2
      go_ret
      exact ⟨rfl, hB⟩
    · have e1 : hasW W y = false := by simp [hasW]; omega
      rw [e1]
      clear h e1
      generalize W.heaps.length = n at *
      go_enter Try.func51, Try.ntmps51
      go_wp2
      go_ret
      exact ⟨rfl, hB⟩
  · have e1 : hasW W y = false := by simp [hasW]; omega
    rw [e1]
    clear h e1
    generalize W.heaps.length = n at *
    go_enter Try.func51, Try.ntmps51
    go_wp2
    go_ret
    exact ⟨rfl, hB⟩
theorem refin_any (x : Int) (h : NestAt w hv cv W) : Calls Try.prog 52 #[.agg #[hv, cv], .int .i64 x] w fun e w' => e = .returned (.bool (inW W x)) ∧ Below w.heap.size w w' := by
  have hB : Below w.heap.size w (w.alloc (.cells #[hv, cv] 58)) := (Below.refl _ _).alloc (Nat.le_refl _) _
  obtain ⟨a, c, rfl, h1, h2⟩ := h.cform
  have hl := h.clen
  by_cases hx : 0 ≤ x
  · by_cases hx2 : x < W.cells.length
    · obtain ⟨i, rfl⟩ : ∃ i : Nat, x = i := ⟨x.toNat, by omega⟩
      obtain ⟨g, c', hv', hg, hc, _, _⟩ := h.ccell i (by omega)
      cases hv'
      have e1 : inW W i = decide (0 < (W.cells.getD i .off).home) := by
        rw [inW, cell_nat W i (by omega)]
        by_cases e : (W.cells.getD i .off).home = 0
        · rw [e]; rfl
        · rw [bne_iff_ne.2 e, decide_eq_true (by omega)]
      rw [e1]
      generalize W.cells.getD i .off = z at *
      clear h e1
      generalize W.cells.length = n at *
      have hi : i < n := by omega
      go_enter Try.func52, Try.ntmps52
      go_wp2
      go_ret
      exact ⟨rfl, hB⟩
    · have e1 : inW W x = false := by
        have : slotW W x = false := by simp [slotW]; omega
        rw [inW, cell_off this]; rfl
      rw [e1]
      clear h e1
      generalize W.cells.length = n at *
      go_enter Try.func52, Try.ntmps52
      go_wp2
      go_ret
      exact ⟨rfl, hB⟩
  · have e1 : inW W x = false := by
      have : slotW W x = false := by simp [slotW]; omega
      rw [inW, cell_off this]; rfl
    rw [e1]
    clear h e1
    generalize W.cells.length = n at *
    go_enter Try.func52, Try.ntmps52
    go_wp2
    go_ret
    exact ⟨rfl, hB⟩
end
end Go.Proofs.Ytehoejoeoaimjaa
