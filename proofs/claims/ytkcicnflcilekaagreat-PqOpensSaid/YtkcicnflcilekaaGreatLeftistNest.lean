/- Merged of LeftistMerge, LeftistMend, LeftistTake, LeftistGather, LeftistRemove, ZMapL, LeftistNest. -/
import Derived.Test.YtkcicnflcilekaaGreatSpineRowMath
import Derived.Test.YtkcicnflcilekaaGreatLeftistSettle
import Derived.Test.YtkcicnflcilekaaGreatLeftistInv
import Derived.Test.YtkcicnflcilekaaGreatAsks
import Derived.Lib.Hide
import Derived.Test.YtkcicnflcilekaaGreatPqHeld
namespace Go.Proofs.YtkcicnflcilekaaGreat
open Go.RowKit Go.Sort

/-- Two trees that stand, in none of which a slot is ahead of that above it; what may be said of what came of them. -/
structure Two (W : WS) (n : Nat) (L : List Hg) (R : List Int) (ta tb : Tr) : Prop where
  rows : R.length = n
  cells : W.cells.length = n
  sa : Stands L (rkL R) ta
  sb : Stands L (rkL R) tb
  ka : Tr.Ok (aheadW W) ta
  kb : Tr.Ok (aheadW W) tb
  apart : ∀ x ∈ ta.slots, x ∉ tb.slots
  ins : ∀ x ∈ ta.slots ++ tb.slots, inW W x = true
theorem Two.flip {W : WS} {n : Nat} {L : List Hg} {R : List Int} {ta tb : Tr} (h : Two W n L R ta tb) : Two W n L R tb ta :=
  ⟨h.rows, h.cells, h.sb, h.sa, h.kb, h.ka, fun x h1 h2 => h.apart x h2 h1, fun x hx => h.ins x (by simp only [List.mem_append] at hx ⊢; exact hx.symm)⟩
theorem Two.nodup {W : WS} {n : Nat} {L : List Hg} {R : List Int} {ta tb : Tr} (h : Two W n L R ta tb) : (ta.slots ++ tb.slots).Nodup := by
  rw [List.nodup_append]
  exact ⟨h.sa.nodup, h.sb.nodup, fun a ha b hb e => h.apart a ha (by rw [e]; exact hb)⟩
theorem Two.size {W : WS} {n : Nat} {L : List Hg} {R : List Int} {ta tb : Tr} (h : Two W n L R ta tb) : ta.size + tb.size ≤ n := by
  have := nodup_int n _ h.nodup fun x hx => by
    obtain ⟨i, rfl, hi⟩ := in_n h.cells (h.ins x hx)
    exact ⟨by omega, by omega⟩
  rwa [List.length_append, Tr.size_slots, Tr.size_slots] at this
/-- Where the first one has no right child, and stays on top, the second one comes to hang there. -/
def Exact (W : WS) (ta tb T : Tr) : Prop := ∀ a l b, ta = .node a l .nil → tb.top = some b → aheadW W b a = false → T = Tr.mk a l tb
def MergePost (F0 : Nat → Prop) (W0 : World) (f c t : Nat) (v : Value) (n : Nat) (W : WS) (s : Int) (L : List Hg) (R : List Int) (q : List Ob) (ta tb : Tr) (e : Ending) (w' : World) : Prop :=
  ∃ (T : Tr) (m : Int) (L' : List Hg) (R' : List Int) (s' : Int), e = .returned (.int .i64 m) ∧ T.top = some m ∧ R'.length = n ∧ T.slots.Perm (ta.slots ++ tb.slots) ∧ Tr.Ok (aheadW W) T ∧ Stands L' (rkL R') T ∧ SameL (ta.slots ++ tb.slots) L L' (rkL R) (rkL R') ∧
    (s ≤ s' ∧ s' ≤ s + (Tr.spine ta + Tr.spine tb : Nat) ∧ 0 < s') ∧ Exact W ta tb T ∧ Stage F0 W0 (forestParts f c t v n W s' L' R' ++ q) w'
/-- Ahead of the last two steps: the tree M is to hang at the right of x, whose left tree is l. -/
structure JoinPre (W : WS) (n : Nat) (L : List Hg) (R : List Int) (x : Int) (l r ty : Tr) (s : Int) (M : Tr) (m : Int) (L2 : List Hg) (R2 : List Int) (s2 : Int) : Prop where
  free : kidL L2 x true = none
  left : RepT (kidL L2) (kidL L2 x false) l
  rank : Tr.Ranked (rkL R2) l
  sm : Stands L2 (rkL R2) M
  top : M.top = some m
  up : upL L2 x = none
  rows : R2.length = n
  perm : M.slots.Perm (r.slots ++ ty.slots)
  ok : Tr.Ok (aheadW W) M
  same : SameL ((Tr.node x l r).slots ++ ty.slots) L L2 (rkL R) (rkL R2)
  steps : s ≤ s2 ∧ s2 ≤ s + (Tr.spine r + Tr.spine ty : Nat)
  bare : r = .nil → M = ty
section
variable {W : WS} {n : Nat} {L L' : List Hg} {R R' : List Int} {x y : Int} {l r ty M : Tr} {s s' : Int}
theorem pre_nil (H : Two W n L R (.node x l .nil) ty) (hy : ty.top = some y) : JoinPre W n L R x l .nil ty s ty y L R s where
  free := H.sa.rep.2.2
  left := by have h := H.sa.rep.2.1; exact h
  rank := H.sa.rank.2.1
  sm := H.sb
  top := hy
  up := H.sa.root x rfl
  rows := H.rows
  perm := List.Perm.refl _
  ok := H.kb
  same := SameL.refl _ _ _
  steps := ⟨Int.le_refl _, by omega⟩
  bare := fun _ => rfl
theorem pre_cut (I : GInv n L) (H : Two W n L R (.node x l r) ty) (hr : r.top = some y) : Two W n (cutL L y) R r ty ∧ SameL [x, y] L (cutL L y) (rkL R) (rkL R) ∧ kidL (cutL L y) x true = none ∧ kidL (cutL L y) x false = kidL L x false ∧ upL (cutL L y) x = none := by
  have hk : kidL L x true = some y := by have := rep_top H.sa.rep.2.2; rw [hr] at this; exact this
  have nd := H.sa.nodup
  simp only [Tr.slots, List.nodup_cons, List.mem_append] at nd
  have hxr : x ∉ r.slots := fun h => nd.1 (Or.inr h)
  have hyr := Tr.top_in hr
  have hxy : x ≠ y := fun e => hxr (by rw [e]; exact hyr)
  have ht : RepT (kidL L) (some y) r := by have := H.sa.rep.2.2; rw [hk] at this; exact this
  obtain ⟨o1, o2, o3, o4, o5, o6⟩ := off_tree I hk ht hxr
  have hS : SameL [x, y] L (cutL L y) (rkL R) (rkL R) := ⟨fun z hz s => o6 z (fun e => hz (by simp [e])) s, fun z hz => o5 z fun e => hz (by simp [e]), fun _ _ => rfl⟩
  refine ⟨⟨H.rows, H.cells, ⟨by rw [hr]; exact o3, H.sa.rank.2.2, H.sa.lef.2.2, fun z hz => by rw [hr] at hz; cases hz; exact o4, (List.nodup_append.1 nd.2).2.1⟩, H.sb.same hS fun z hz hm => ?_, H.ka.2.2.2, H.kb, fun z hz => H.apart z (by simp [Tr.slots, hz]), fun z hz => H.ins z ?_⟩, hS, o1, o2, ?_⟩
  · simp only [List.mem_cons, List.not_mem_nil, or_false] at hm
    rcases hm with e | e
    · exact H.apart x (by simp [Tr.slots]) (by rw [← e]; exact hz)
    · exact H.apart y (by simp [Tr.slots, hyr]) (by rw [← e]; exact hz)
  · simp only [Tr.slots, List.mem_cons, List.mem_append] at hz ⊢
    rcases hz with h | h
    · exact Or.inl (Or.inr (Or.inr h))
    · exact Or.inr h
  · rw [o5 x hxy]; exact H.sa.root x rfl
theorem pre_merged {m : Int} (H : Two W n L R (.node x l r) ty) (hr : r.top = some y) (hS : SameL [x, y] L L' (rkL R) (rkL R)) (h1 : kidL L' x true = none) (h2 : kidL L' x false = kidL L x false) (h3 : upL L' x = none)
    {L2 : List Hg} {R2 : List Int} (hm : M.top = some m) (hR : R2.length = n) (hp : M.slots.Perm (r.slots ++ ty.slots)) (hk : Tr.Ok (aheadW W) M) (hM : Stands L2 (rkL R2) M) (hS2 : SameL (r.slots ++ ty.slots) L' L2 (rkL R) (rkL R2)) (hs : s ≤ s' ∧ s' ≤ s + (Tr.spine r + Tr.spine ty : Nat)) :
    JoinPre W n L R x l r ty s M m L2 R2 s' := by
  have nd := H.sa.nodup
  simp only [Tr.slots, List.nodup_cons, List.mem_append] at nd
  have hyr := Tr.top_in hr
  have hx : x ∉ r.slots ++ ty.slots := fun h => by
    rcases List.mem_append.1 h with h | h
    · exact nd.1 (Or.inr h)
    · exact H.apart x (by simp [Tr.slots]) h
  have hl : ∀ z ∈ l.slots, z ∉ r.slots ++ ty.slots := fun z hz h => by
    rcases List.mem_append.1 h with h | h
    · exact (List.nodup_append.1 nd.2).2.2 z hz z h rfl
    · exact H.apart z (by simp [Tr.slots, hz]) h
  have hl2 : ∀ z ∈ l.slots, z ∉ [x, y] := fun z hz h => by
    simp only [List.mem_cons, List.not_mem_nil, or_false] at h
    rcases h with e | e
    · exact nd.1 (Or.inl (by rw [← e]; exact hz))
    · exact (List.nodup_append.1 nd.2).2.2 z hz y hyr e
  refine ⟨by rw [hS2.kid x hx]; exact h1, ?_, ?_, hM, hm, by rw [hS2.up x hx]; exact h3, hR, hp, hk, (hS.mono fun z hz => ?_).trans (hS2.mono fun z hz => ?_), hs, fun e => by rw [e] at hr; cases hr⟩
  · rw [hS2.kid x hx, h2]
    exact rep_congr (fun z hz s => by rw [hS2.kid z (hl z hz), hS.kid z (hl2 z hz)]) H.sa.rep.2.1
  · exact Tr.ranked_congr (fun z hz => hS2.rk z (hl z hz)) H.sa.rank.2.1
  · simp only [List.mem_cons, List.not_mem_nil, or_false] at hz
    rcases hz with e | e
    · simp [Tr.slots, e]
    · simp [Tr.slots, e, hyr]
  · simp only [Tr.slots, List.cons_append, List.mem_cons, List.mem_append] at hz ⊢
    rcases hz with h | h
    · exact Or.inr (Or.inl (Or.inr h))
    · exact Or.inr (Or.inr h)
/-- .. and behind them. -/
theorem post_join {x : Nat} {L2 : List Hg} {R2 : List Int} {s2 m : Int} (I : GInv n L2) (H : Two W n L R (.node x l r) ty) (hy : ty.top = some y) (hyx : aheadW W y x = false) (J : JoinPre W n L R x l r ty s M m L2 R2 s2) :
    hangB n L2 x m true = true ∧ ¬ aboveL L2 m x ∧ (∀ sd, -65536 ≤ oR R2 (kidL (hangL n L2 x m true) x sd) ∧ oR R2 (kidL (hangL n L2 x m true) x sd) ≤ n) ∧ (Tr.mk x l M).slots.Perm ((Tr.node x l r).slots ++ ty.slots) ∧ Tr.Ok (aheadW W) (Tr.mk x l M) ∧
    Stands (setL (hangL n L2 x m true) R2 x) (rkL (R2.set x (setR (hangL n L2 x m true) R2 x))) (Tr.mk x l M) ∧ SameL ((Tr.node x l r).slots ++ ty.slots) L (setL (hangL n L2 x m true) R2 x) (rkL R) (rkL (R2.set x (setR (hangL n L2 x m true) R2 x))) := by
  have hpm : ((x : Int) :: (l.slots ++ M.slots)).Perm ((Tr.node x l r).slots ++ ty.slots) := by
    have := J.perm
    simp only [Tr.slots, List.cons_append, List.append_assoc]
    exact ((J.perm.append_left l.slots)).cons _
  have nd := hpm.nodup_iff.2 H.nodup
  have hm := J.top
  have hin : ∀ z ∈ M.slots, inW W z = true := fun z hz => H.ins z (hpm.mem_iff.1 (by simp [hz]))
  obtain ⟨i, hi, hin2⟩ := in_n H.cells (hin m (Tr.top_in hm))
  obtain ⟨i2, hi2, hx⟩ := in_n H.cells (H.ins x (by simp [Tr.slots]))
  have hxn : x < n := by omega
  have hmn : inN n m := ⟨by omega, by omega⟩
  obtain ⟨j1, j2, j3, j4, j5⟩ := join_tree I J.rows hxn J.free J.left J.sm hm hmn J.up J.rank H.sa.lef.2.1 nd
  have hsz : Tr.size l + Tr.size M ≤ n := by
    have := nodup_int n _ (List.nodup_cons.1 nd).2 fun z hz => by
      obtain ⟨i, rfl, hi⟩ := in_n H.cells (H.ins z (hpm.mem_iff.1 (List.mem_cons_of_mem _ hz)))
      exact ⟨by omega, by omega⟩
    rwa [List.length_append, Tr.size_slots, Tr.size_slots] at this
  refine ⟨j1, j2, fun sd => ⟨by have := (j3 sd).1; omega, by have := (j3 sd).2; omega⟩, (Tr.mk_perm _ _ _).trans hpm, Tr.mk_ok H.ka.1 (fun z hz => ?_) H.ka.2.2.1 J.ok, j4, J.same.trans (j5.mono fun z hz => hpm.mem_iff.1 hz)⟩
  rcases List.mem_append.1 (J.perm.mem_iff.1 hz) with h | h
  · exact H.ka.2.1 z h
  · obtain ⟨l', r', rfl⟩ := Tr.top_node hy
    have hyy : inW W y = true := H.ins y (by simp [Tr.slots])
    simp only [Tr.slots, List.mem_cons, List.mem_append] at h
    have hzy : aheadW W z y = false := by
      rcases h with h | h | h
      · rw [h]; exact dahead_irr W y
      · exact H.kb.1 z h
      · exact H.kb.2.1 z h
    exact ahead_neg (hin z hz) hyy (H.ins x (by simp [Tr.slots])) hzy hyx
end
section
variable {F0 : Nat → Prop} {W0 : World} {f c t n : Nat} {v : Value} {W : WS} {q : List Ob}
set_option maxRecDepth 100000 in
set_option maxHeartbeats 2000000 in
theorem merge_st : ∀ (k : Nat) {w : World} {s : Int} {L : List Hg} {R : List Int} {ta tb : Tr} {a b : Int}, Tr.spine ta + Tr.spine tb ≤ k → Stage F0 W0 (forestParts f c t v n W s L R ++ q) w → Two W n L R ta tb → ta.top = some a → tb.top = some b →
    Calls Tryz.prog 267 #[.pointer (some ⟨f, 0, none⟩), .int .i64 a, .int .i64 b] w (MergePost F0 W0 f c t v n W s L R q ta tb) := by
  intro k
  induction k with
  | zero =>
    intro w s L R ta tb a b hk h H ea eb
    obtain ⟨l, r, rfl⟩ := Tr.top_node ea
    simp [Tr.spine] at hk
  | succ k ih =>
    intro w s L R ta tb a b hk h H ea eb
    have hA := fo_ahead h b a
    have c0 := fo_c0 h
    have hst := (fo_fit h).2
    have hsteps : s ≤ aheadS W s b a ∧ aheadS W s b a ≤ s + 1 ∧ 0 < aheadS W s b a := by
      have e : aheadS W s b a = addI s 1 := by simp [aheadS, H.ins b (List.mem_append_right _ (Tr.top_in eb)), H.ins a (List.mem_append_left _ (Tr.top_in ea))]
      rw [e]
      unfold addI
      repeat' split
      all_goals omega
    have hpick : ∀ B, aheadW W b a = B → ∃ x y tx ty, (x = if B then b else a) ∧ (y = if B then a else b) ∧ Two W n L R tx ty ∧ tx.top = some x ∧ ty.top = some y ∧ aheadW W y x = false ∧ (tx.slots ++ ty.slots).Perm (ta.slots ++ tb.slots) ∧ Tr.spine tx + Tr.spine ty = Tr.spine ta + Tr.spine tb ∧ (B = false → tx = ta ∧ ty = tb) := by
      intro B hB
      cases B
      · exact ⟨a, b, ta, tb, rfl, rfl, H, ea, eb, hB, List.Perm.refl _, rfl, fun _ => ⟨rfl, rfl⟩⟩
      · exact ⟨b, a, tb, ta, rfl, rfl, H.flip, eb, ea, ahead_asym hB, List.perm_append_comm, by omega, fun e => by cases e⟩
    unfold MergePost
    generalize ha1 : aheadS W s b a = s1 at *
    generalize hB : aheadW W b a = B at *
    obtain ⟨x, y, tx, ty, ex, ey, H2, ex2, ey2, hyx, hperm, hsum, hsel⟩ := hpick B rfl
    clear hpick ha1 hst
    go_enter Tryz.func267, Tryz.ntmps267
    go_wp2_with fail
    refine hA.mono ?_
    rintro e w1 ⟨rfl, h1⟩
    clear hA c0 h
    go_upto_if 15 with fail
    go_cut [1, 2] (fun s1 s2 wx => s1 = .int .i64 x ∧ s2 = .int .i64 y ∧ w1 = wx)
    case first =>
      cases B
      · go_wp2_with fail
        go_meet
        exact ⟨by rw [ex]; rfl, by rw [ey]; rfl, rfl⟩
      · go_wp2_with fail
        go_meet
        exact ⟨by rw [ex]; rfl, by rw [ey]; rfl, rfl⟩
    case rest =>
      obtain ⟨rfl, rfl, rfl⟩ := hcut
      have hex := Lib.hid (show ∀ a' l' b', ta = .node a' l' .nil → tb.top = some b' → aheadW W b' a' = false → tx = ta ∧ ty = tb from fun a' l' b' e1 e2 e3 => by
        have e4 : a = a' := by rw [e1] at ea; injection ea with ea; exact ea.symm
        have e5 : b = b' := by rw [eb] at e2; injection e2
        subst e4 e5
        exact hsel (by rw [← hB]; exact e3))
      clear ex ey hB ea eb H hsel
      obtain ⟨l, r, rfl⟩ := Tr.top_node ex2
      clear ex2
      obtain ⟨I, hn⟩ := fo_inv h1
      have hRt := fo_right h1 x
      have c1 := fo_c1 h1
      have ekr := rep_top H2.sa.rep.2.2
      rw [show kidL L x true = r.top from ekr] at hRt
      clear ekr
      have hb := H2.size
      have hspine := Lib.hid (show Tr.spine r + 1 + Tr.spine ty = Tr.spine ta + Tr.spine tb from hsum)
      clear hsum
      go_wp2_with fail
      refine hRt.mono ?_
      rintro e w2 ⟨rfl, rfl⟩
      clear hRt
      go_upto_if 27 with fail
      go_cut [2, 7, 8, 18, 24, 25, 26, 27] (fun s2 _ _ _ _ _ _ _ wx => ∃ (M : Tr) (m : Int) (L2 : List Hg) (R2 : List Int) (sx : Int), s2 = .int .i64 m ∧ JoinPre W n L R x l r ty s1 M m L2 R2 sx ∧ Stage F0 W0 (forestParts f c t v n W sx L2 R2 ++ q) wx)
      case first =>
        cases hr : r.top with
        | none =>
          obtain rfl : r = .nil := by cases r with
            | nil => rfl
            | node a b d => cases hr
          go_wp2_with fail
          go_meet
          exact ⟨ty, y, L, R, s1, rfl, pre_nil H2 ey2, h1⟩
        | some z =>
          obtain ⟨H3, hS, k1, k2, k3⟩ := pre_cut I H2 hr
          have hC := fo_cut h1 z
          go_wp2_with fail
          refine hC.mono ?_
          rintro e w3 ⟨rfl, h3⟩
          clear hC h1
          have hM := ih (by have := hspine.out; omega) h3 H3 hr ey2
          go_wp2_with fail
          refine hM.mono ?_
          rintro e w4 ⟨T, m, L', R', s', rfl, m1, m2, m3, m4, m5, m6, m7, _, h4⟩
          go_wp2_with fail
          go_meet
          exact ⟨T, m, L', R', s', rfl, pre_merged H2 hr hS k1 k2 k3 m1 m2 m3 m4 m5 m6 ⟨m7.1, m7.2.1⟩, h4⟩
      case rest =>
        obtain ⟨M, m, L2, R2, sx, rfl, J, h2⟩ := hcut
        clear h1 c1
        obtain ⟨x', rfl, hx'⟩ := in_n H2.cells (H2.ins x (by simp [Tr.slots]))
        obtain ⟨I2, _⟩ := fo_inv h2
        obtain ⟨j1, j2, j3, j4, j5, j6, j7⟩ := post_join I2 H2 ey2 hyx J
        have hH := fo_hang h2 x' m true (Or.inl j2)
        have c1 := fo_c1 h2
        rw [j1] at hH
        have hfin : MergePost F0 W0 f c t v n W s L R q ta tb = MergePost F0 W0 f c t v n W s L R q ta tb := rfl
        have hst : s ≤ sx ∧ sx ≤ s + (Tr.spine ta + Tr.spine tb : Nat) ∧ 0 < sx := by
          have := J.steps
          have := hspine.out
          omega
        have hj4 := j4.trans hperm
        have hj7 := j7.mono fun z hz => hperm.mem_iff.1 hz
        clear j4 j7 j2 hperm hspine hb
        go_wp2_with fail
        refine hH.mono ?_
        rintro e w3 ⟨rfl, h3⟩
        clear hH h2
        have hSt := settle_st h3 J.rows x' hx' (fun sd => ⟨(j3 sd).1, by have := (j3 sd).2; omega⟩)
        have hlen : (R2.set x' (setR (hangL n L2 x' m true) R2 x')).length = n := by rw [List.length_set]; exact J.rows
        clear j3
        generalize setL (hangL n L2 x' m true) R2 x' = L4 at *
        generalize R2.set x' (setR (hangL n L2 x' m true) R2 x') = R4 at *
        go_wp2_with fail
        refine hSt.mono ?_
        rintro e w4 ⟨rfl, h4⟩
        clear hSt h3
        go_wp2_with fail
        go_ret
        exact ⟨Tr.mk x' l M, x', L4, R4, sx, rfl, Tr.mk_top _ _ _, hlen, hj4, j5, j6, hj7, hst, fun a' l' b' e1 e2 e3 => (by
          obtain ⟨e4, e5⟩ := hex.out a' l' b' e1 e2 e3
          rw [e1] at e4
          injection e4 with e6 e7 e8
          rw [J.bare e8, e5, e6, e7]), h4⟩
end
end Go.Proofs.YtkcicnflcilekaaGreat

namespace Go.Proofs.YtkcicnflcilekaaGreat
open Go.RowKit Go.Sort

section
variable {F0 : Nat → Prop} {W0 w : World} {f c t n : Nat} {v : Value} {W : WS} {s : Int} {L : List Hg} {R : List Int} {q : List Ob}
end
end Go.Proofs.YtkcicnflcilekaaGreat

namespace Go.Proofs.YtkcicnflcilekaaGreat
open Go.RowKit Go.Sort

section
variable {F0 : Nat → Prop} {W0 w : World} {f c t n : Nat} {v : Value} {W : WS} {s : Int} {L : List Hg} {R : List Int} {q : List Ob}
end
end Go.Proofs.YtkcicnflcilekaaGreat

namespace Go.Proofs.YtkcicnflcilekaaGreat
open Go.RowKit Go.Sort

section
variable {W : WS} {n : Nat} {L : List Hg} {R : List Int} {x y y2 : Int} {l r : Tr} {s : Int}
end
section
variable {F0 : Nat → Prop} {W0 w : World} {f c t n : Nat} {v : Value} {W : WS} {s : Int} {L : List Hg} {R : List Int} {q : List Ob}
end
end Go.Proofs.YtkcicnflcilekaaGreat

namespace Go.Proofs.YtkcicnflcilekaaGreat
open Go.RowKit Go.Sort

section
variable {W : WS} {n : Nat} {L L1 : List Hg} {R R1 : List Int} {x : Int} {l r M : Tr} {s s1 : Int} {g : Fr} {z : List Fr}
end
section
variable {n : Nat} {L L2 : List Hg} {R R2 : List Int} {x m : Int} {l r M : Tr} {g : Fr} {z : List Fr}
end
section
variable {F0 : Nat → Prop} {W0 w : World} {f c t n : Nat} {v : Value} {W : WS} {s : Int} {L : List Hg} {R : List Int} {q : List Ob}
end
end Go.Proofs.YtkcicnflcilekaaGreat

namespace Go.Proofs.YtkcicnflcilekaaGreat
open Go.RowKit Go.Sort

namespace Stage
variable {F0 : Nat → Prop} {W w : World} {l : List Ob} {P : Program} {t k e : TypeId} {b n : Nat} {f : Int → Option Int}
/-- 'm[k] = v' at the operation. -/
theorem wp_putZL {ops : Array Oper} {rest : List Oper} {o : Oper} {a : Act} {Q : Exit → Act → World → Prop} (n' : Nat) (f' : Int → Option Int) (h : Stage F0 W l w) (i : Nat) (hi : l[i]? = some (Ob.zmap P k e b f n)) (hg : o.guard = none) (m x v : Operand) (hop : o.op = Op.mapUpdate t m x v)
    (ht : P.underlying t = some (.map k e)) (hk : P.underlying k = some (.int .i64)) (he : P.underlying e = some (.int .i64)) (hM : n < maxLen)
    (hm : a.eval m = .map (some b)) (key val : Int) (hx : a.eval x = .int .i64 key) (hv : a.eval v = .int .i64 val) (hkey : -9223372036854775808 ≤ key ∧ key ≤ 9223372036854775807) (hval : -9223372036854775808 ≤ val ∧ val ≤ 9223372036854775807)
    (hn : Hid ((if (f key).isSome then n else n + 1) = n')) (hf : Hid (setZ f key (some val) = f'))
    (hK : ∀ w', Stage F0 W (l.set i (Ob.zmap P k e b f' n')) w' → wpList P ops Q rest (a.put o.dst undef) w') : wpList P ops Q (o :: rest) a w :=
  h.wp_putZ i hi hg m x v hop ht hk he hM hm key val hx hv hkey hval fun w' hs => hK w' (by rw [← hn.out, ← hf.out]; exact hs)
end Stage
end Go.Proofs.YtkcicnflcilekaaGreat

namespace Go.Proofs.YtkcicnflcilekaaGreat
open Go.RowKit Go.Sort

def leftParts (p f c t bm : Nat) (v : Value) (n : Nat) (W : WS) (s : Int) (L : List Hg) (R : List Int) (Ts : Nat → Tr) : List Ob :=
  forestParts f c t v n W s L R ++ [Ob.box p #[ptrV c, ptrV f, .map (some bm)] 200, Ob.zmap Tryz.prog 3 3 bm (topsT Ts) (cntT Ts)]
/-- A nest of leftist trees at p, whose cells are at c. -/
def Ob.leftist (p c : Nat) (W : WS) (s : Int) (Ts : Nat → Tr) : Ob where
  holds w F := ∃ f t bm v n L R, TInv W Ts ∧ LefInv Ts L (rkL R) ∧ R.length = n ∧ W.cells.length = n ∧ W.Fit ∧ (0 ≤ s ∧ s ≤ 4611686018427387904) ∧ (Ob.group (leftParts p f c t bm v n W s L R Ts)).holds w F
  keeps := fun ⟨f, t, bm, v, n, L, R, h1, h2, h3, h4, h5, h6, h⟩ k hn => ⟨f, t, bm, v, n, L, R, h1, h2, h3, h4, h5, h6, (Ob.group _).keeps h k hn⟩
  lt := fun ⟨_, _, _, _, _, _, _, _, _, _, _, _, _, h⟩ => (Ob.group _).lt h
/-- At p lies a pointer to the cells at c. -/
def leftH (p c : Nat) (w : World) : Prop := w.cell? ⟨p, 0, none⟩ = some (ptrV c)
section
variable {F0 : Nat → Prop} {W0 w : World} {p f c t bm n : Nat} {v : Value} {W : WS} {s : Int} {L : List Hg} {R : List Int} {Ts : Nat → Tr}
theorem le_p0 (h : Stage F0 W0 (leftParts p f c t bm v n W s L R Ts) w) : w.cell? ⟨p, 0, none⟩ = some (ptrV c) := h.cell 4 rfl rfl
theorem le_p1 (h : Stage F0 W0 (leftParts p f c t bm v n W s L R Ts) w) : w.cell? ⟨p, 1, none⟩ = some (ptrV f) := h.cell 4 rfl rfl
theorem le_p2 (h : Stage F0 W0 (leftParts p f c t bm v n W s L R Ts) w) : w.cell? ⟨p, 2, none⟩ = some (.map (some bm)) := h.cell 4 rfl rfl
theorem lzero_int (w : World) : (zeroValue 3).run Tryz.prog w = .ok (.int .i64 0) w := by kernel_rfl
theorem le_look (h : Stage F0 W0 (leftParts p f c t bm v n W s L R Ts) w) (y : Int) (hy : inInt y) : (Instr.lookup 185 (.map (some bm)) (.int .i64 y) true).run Tryz.prog w = .ok (.tuple #[.int .i64 ((topsT Ts y).getD 0), .bool (topsT Ts y).isSome]) w :=
  h.lookOkZ 5 rfl Tryz.underlying185 Tryz.underlying3 Tryz.underlying3 (lzero_int w) y hy
/-- A tree comes into a heap. -/
def AddPost (F0 : Nat → Prop) (W0 : World) (p f c t bm : Nat) (v : Value) (n : Nat) (W : WS) (s : Int) (L : List Hg) (R : List Int) (Ts : Nat → Tr) (h : Nat) (tb : Tr) (e : Ending) (w' : World) : Prop :=
  ∃ (T : Tr) (L' : List Hg) (R' : List Int) (s' : Int), e = .returned (.tuple #[]) ∧ R'.length = n ∧ T.slots.Perm ((Ts h).slots ++ tb.slots) ∧ Tr.Ok (aheadW W) T ∧ Stands L' (rkL R') T ∧ SameL ((Ts h).slots ++ tb.slots) L L' (rkL R) (rkL R') ∧
    (s ≤ s' ∧ s' ≤ s + (Tr.spine (Ts h) + Tr.spine tb : Nat) ∧ (Ts h = .nil → s' = s) ∧ (Ts h ≠ .nil → 0 < s')) ∧ (Ts h = .nil → T = tb) ∧ Exact W (Ts h) tb T ∧ Stage F0 W0 (leftParts p f c t bm v n W s' L' R' (updT Ts h T)) w'
set_option maxRecDepth 100000 in
set_option maxHeartbeats 1000000 in
theorem add_le (hs : Stage F0 W0 (leftParts p f c t bm v n W s L R Ts) w) {h : Nat} (hh : h < 65537) {tb : Tr} {x : Int} (hx : tb.top = some x) (H : Two W n L R (Ts h) tb) :
    Calls Tryz.prog 261 #[.pointer (some ⟨p, 0, none⟩), .int .i64 h, .int .i64 x] w (AddPost F0 W0 p f c t bm v n W s L R Ts h tb) := by
  have p1 := le_p1 hs
  have p2 := le_p2 hs
  have hl := le_look hs h ⟨by omega, by omega⟩
  have hf := (fo_fit (q := [_, _]) hs).1
  have hcnt : cntT Ts < maxLen := by have := cntT_le Ts; unfold maxLen; omega
  rw [topsT_nat] at hl
  unfold AddPost
  cases ht : (Ts h).top with
  | none =>
    have hnil : Ts h = .nil := by cases e : Ts h with
      | nil => rfl
      | node a b d => rw [e] at ht; cases ht
    rw [ht] at hl
    replace hl : (Instr.lookup 185 (.map (some bm)) (.int .i64 h) true).run Tryz.prog w = .ok (.tuple #[.int .i64 0, .bool false]) w := hl
    have hx64 : inInt x := in_int64 hf (H.ins x (by simp [Tr.top_in hx]))
    have hn1 := Lib.hid (cntT_put Ts hh (T := tb) (by rw [hx]; rfl))
    have hf1 := Lib.hid (show setZ (topsT Ts) h (some x) = topsT (updT Ts h tb) by rw [topsT_upd, hx])
    have hpm : tb.slots.Perm ((Ts h).slots ++ tb.slots) := by rw [hnil]; exact List.Perm.refl _
    replace hnil := Lib.hid hnil
    clear ht
    go_enter Tryz.func261, Tryz.ntmps261
    go_wp2_with (at_mapUpdate; refine Stage.wp_putZL (cntT (updT Ts h tb)) (topsT (updT Ts h tb)) hs 5 rfl rfl _ _ _ rfl Tryz.underlying185 Tryz.underlying3 Tryz.underlying3 hcnt rfl h x rfl rfl ⟨by omega, by omega⟩ hx64 hn1 hf1 ?_)
    intro w1 h1
    replace h1 : Stage F0 W0 (leftParts p f c t bm v n W s L R (updT Ts h tb)) w1 := h1
    go_wp2_with fail
    go_end0
    exact ⟨tb, L, R, s, rfl, H.rows, hpm, H.kb, H.sb, SameL.refl _ _ _, ⟨Int.le_refl _, by omega, fun _ => rfl, fun e => absurd hnil.out e⟩, fun _ => rfl, fun a l b e _ _ => (by rw [hnil.out] at e; cases e), h1⟩
  | some y =>
    have hne : Ts h ≠ .nil := fun e => by rw [e] at ht; cases ht
    have hne2 := Lib.hid hne
    rw [ht] at hl
    replace hl : (Instr.lookup 185 (.map (some bm)) (.int .i64 h) true).run Tryz.prog w = .ok (.tuple #[.int .i64 y, .bool true]) w := hl
    have hM := merge_st (q := [_, _]) _ (Nat.le_refl _) hs H ht hx
    go_enter Tryz.func261, Tryz.ntmps261
    go_wp2_with fail
    refine hM.mono ?_
    rintro e w1 ⟨T, m, L', R', s', rfl, m1, m2, m3, m4, m5, m6, m7, m8, h1⟩
    replace h1 : Stage F0 W0 (leftParts p f c t bm v n W s' L' R' Ts) w1 := h1
    clear hM hs hl p1 p2
    have p2 := le_p2 h1
    have hm64 : inInt m := in_int64 hf (H.ins m (m3.mem_iff.1 (Tr.top_in m1)))
    have hn1 := Lib.hid (cntT_put Ts hh (T := T) (by rw [m1]; rfl))
    have hf1 := Lib.hid (show setZ (topsT Ts) h (some m) = topsT (updT Ts h T) by rw [topsT_upd, m1])
    have hst := Lib.hid (show s ≤ s' ∧ s' ≤ s + (Tr.spine (Ts h) + Tr.spine tb : Nat) ∧ (Ts h = .nil → s' = s) ∧ (Ts h ≠ .nil → 0 < s') from ⟨m7.1, m7.2.1, fun e => absurd e hne, fun _ => m7.2.2⟩)
    clear ht hne m7
    go_wp2_with (at_mapUpdate; refine Stage.wp_putZL (cntT (updT Ts h T)) (topsT (updT Ts h T)) h1 5 rfl rfl _ _ _ rfl Tryz.underlying185 Tryz.underlying3 Tryz.underlying3 hcnt rfl h m rfl rfl ⟨by omega, by omega⟩ hm64 hn1 hf1 ?_)
    intro w2 h2
    replace h2 : Stage F0 W0 (leftParts p f c t bm v n W s' L' R' (updT Ts h T)) w2 := h2
    go_wp2_with fail
    go_end0
    exact ⟨T, L', R', s', rfl, m2, m3, m4, m5, m6, hst.out, fun e => absurd e hne2.out, m8, h2⟩
end
end Go.Proofs.YtkcicnflcilekaaGreat
