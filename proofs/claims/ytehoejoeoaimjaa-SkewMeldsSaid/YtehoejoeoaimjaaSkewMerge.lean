/- Merged of SkewObj, SkewMerge. -/
import Derived.Test.YtehoejoeoaimjaaSkewDown
import Derived.Test.YtehoejoeoaimjaaCells5
import Derived.Deep.QuietTactic
import Derived.BigQuiet
namespace Go.Proofs.Ytehoejoeoaimjaa
open Go.RowKit Go.Sort

theorem ahead_step {W : WS} {a b : Int} (ha : inW W a = true) (hb : inW W b = true) {s : Int} (h : 0 ≤ s ∧ s ≤ 4611686018427387904) (k : Nat) : aheadS W (stp s k) a b = stp s (k + 1) := by
  rw [← stp_one h k]
  simp [aheadS, ha, hb]
def skForest (f c t n : Nat) (W : WS) (s : Int) (L : List Hg) : List Ob :=
  [Ob.box f #[ptrV c, ptrV t] 99, Ob.cells c W s, Ob.spine t n L]
section
variable {F0 : Nat → Prop} {W0 w : World} {f c t n : Nat} {W : WS} {s : Int} {L : List Hg} {q : List Ob}
theorem kf_c0 (h : Stage F0 W0 (skForest f c t n W s L ++ q) w) : w.cell? ⟨f, 0, none⟩ = some (ptrV c) := h.cell 0 rfl rfl
theorem kf_c1 (h : Stage F0 W0 (skForest f c t n W s L ++ q) w) : w.cell? ⟨f, 1, none⟩ = some (ptrV t) := h.cell 0 rfl rfl
theorem kf_inv (h : Stage F0 W0 (skForest f c t n W s L ++ q) w) : GInv n L ∧ n ≤ 65536 := by
  obtain ⟨G, _, I, hn, _⟩ := h.get (i := 2) rfl
  exact ⟨I, hn⟩
theorem kf_fit (h : Stage F0 W0 (skForest f c t n W s L ++ q) w) : W.Fit ∧ 0 ≤ s ∧ s ≤ 4611686018427387904 := by
  obtain ⟨G, ho⟩ := h.get (i := 1) rfl
  exact ⟨Ob.cells.fit ho, Ob.cells.steps ho⟩
theorem kf_left (h : Stage F0 W0 (skForest f c t n W s L ++ q) w) (x : Int) : Calls Try.prog 86 #[.pointer (some ⟨t, 0, none⟩), .int .i64 x] w fun e w' => e = .returned (.tuple #[.int .i64 ((kidL L x false).getD 0), .bool (kidL L x false).isSome]) ∧ w = w' :=
  h.ask 2 rfl fun _ ⟨_, I, hn, ho⟩ => sp_left (q := []) (Ob.group.open ho) I hn x
theorem kf_right (h : Stage F0 W0 (skForest f c t n W s L ++ q) w) (x : Int) : Calls Try.prog 88 #[.pointer (some ⟨t, 0, none⟩), .int .i64 x] w fun e w' => e = .returned (.tuple #[.int .i64 ((kidL L x true).getD 0), .bool (kidL L x true).isSome]) ∧ w = w' :=
  h.ask 2 rfl fun _ ⟨_, I, hn, ho⟩ => sp_right (q := []) (Ob.group.open ho) I hn x
theorem kf_up (h : Stage F0 W0 (skForest f c t n W s L ++ q) w) (x : Int) : Calls Try.prog 78 #[.pointer (some ⟨t, 0, none⟩), .int .i64 x] w fun e w' => e = .returned (.tuple #[.int .i64 ((upL L x).getD 0), .bool (upL L x).isSome]) ∧ w = w' :=
  h.ask 2 rfl fun _ ⟨_, I, hn, ho⟩ => sp_up (q := []) (Ob.group.open ho) I hn x
theorem kf_turn (h : Stage F0 W0 (skForest f c t n W s L ++ q) w) (x : Int) : Calls Try.prog 84 #[.pointer (some ⟨t, 0, none⟩), .int .i64 x] w fun e w' => e = .returned (.bool (hasN n x)) ∧ Stage F0 W0 (skForest f c t n W s (turnL L x) ++ q) w' :=
  h.call 2 rfl fun _ ho => turn_sp x ho
theorem kf_cutT (h : Stage F0 W0 (skForest f c t n W s L ++ q) w) (x : Int) : Calls Try.prog 90 #[.pointer (some ⟨t, 0, none⟩), .int .i64 x] w fun e w' => e = .returned (.tuple #[.int .i64 ((upL L x).getD 0), .bool (upL L x).isSome]) ∧ Stage F0 W0 (skForest f c t n W s (cutL L x) ++ q) w' :=
  h.call 2 rfl fun _ ho => cut_sp x ho
theorem kf_hang (h : Stage F0 W0 (skForest f c t n W s L ++ q) w) (a x : Int) (r : Bool) (ha : ¬ aboveL L x a ∨ x = a) : Calls Try.prog 75 #[.pointer (some ⟨t, 0, none⟩), .int .i64 a, .int .i64 x, .bool r] w fun e w' => e = .returned (.bool (hangB n L a x r)) ∧ Stage F0 W0 (skForest f c t n W s (hangL n L a x r) ++ q) w' :=
  h.call 2 rfl fun _ ho => hang_sp a x r ha ho
theorem kf_ahead (h : Stage F0 W0 (skForest f c t n W s L ++ q) w) (a b : Int) : Calls Try.prog 83 #[.pointer (some ⟨c, 0, none⟩), .int .i64 a, .int .i64 b] w fun e w' => e = .returned (.bool (aheadW W a b)) ∧ Stage F0 W0 (skForest f c t n W (aheadS W s a b) L ++ q) w' :=
  h.call 1 rfl fun _ ho => ahead_cl a b ho
/-- The slot that is ahead, and the other one. -/
theorem order_st (h : Stage F0 W0 (skForest f c t n W s L ++ q) w) (a b : Int) : Calls Try.prog 73 #[.pointer (some ⟨f, 0, none⟩), .int .i64 a, .int .i64 b] w fun e w' => e = .returned (.tuple #[.int .i64 (if aheadW W b a then b else a), .int .i64 (if aheadW W b a then a else b)]) ∧ Stage F0 W0 (skForest f c t n W (aheadS W s b a) L ++ q) w' := by
  have c0 := kf_c0 h
  have hA := kf_ahead h b a
  generalize aheadS W s b a = s1 at *
  clear h
  cases hB : aheadW W b a
  · rw [hB] at hA
    clear hB
    go_enter Try.func73, Try.ntmps73
    go_wp2_with fail
    refine hA.mono ?_
    rintro e w1 ⟨rfl, h1⟩
    go_wp2_with fail
    exact bodyPost_ret (v := .tuple #[.int .i64 a, .int .i64 b]) (by simp [results, Try.results73, go_sem]) rfl ⟨rfl, h1⟩
  · rw [hB] at hA
    clear hB
    go_enter Try.func73, Try.ntmps73
    go_wp2_with fail
    refine hA.mono ?_
    rintro e w1 ⟨rfl, h1⟩
    go_wp2_with fail
    exact bodyPost_ret (v := .tuple #[.int .i64 b, .int .i64 a]) (by simp [results, Try.results73, go_sem]) rfl ⟨rfl, h1⟩
theorem kcut_st (h : Stage F0 W0 (skForest f c t n W s L ++ q) w) (x : Int) : Calls Try.prog 80 #[.pointer (some ⟨f, 0, none⟩), .int .i64 x] w fun e w' => e = .returned (.tuple #[]) ∧ Stage F0 W0 (skForest f c t n W s (cutL L x) ++ q) w' := by
  have c1 := kf_c1 h
  have hC := kf_cutT h x
  clear h
  generalize (upL L x).getD 0 = u at *
  generalize (upL L x).isSome = b at *
  go_enter Try.func80, Try.ntmps80
  go_wp2_with fail
  refine hC.mono ?_
  rintro e w1 ⟨rfl, h1⟩
  go_wp2_with fail
  go_end0
  exact ⟨rfl, h1⟩
/-- What is left, where a child comes off, if there is one. -/
def looseL (L : List Hg) (o : Option Int) : List Hg := o.elim L (cutL L)
theorem loosen_st (h : Stage F0 W0 (skForest f c t n W s L ++ q) w) (o : Option Int) : Calls Try.prog 85 #[.pointer (some ⟨f, 0, none⟩), .int .i64 (o.getD 0), .bool o.isSome] w fun e w' => e = .returned (.tuple #[.int .i64 (o.getD 0), .bool o.isSome]) ∧ Stage F0 W0 (skForest f c t n W s (looseL L o) ++ q) w' := by
  cases o with
  | none =>
    show Calls Try.prog 85 #[.pointer (some ⟨f, 0, none⟩), .int .i64 0, .bool false] w fun e w' => e = .returned (.tuple #[.int .i64 0, .bool false]) ∧ Stage F0 W0 (skForest f c t n W s L ++ q) w'
    go_enter Try.func85, Try.ntmps85
    go_wp2_with fail
    exact bodyPost_ret (v := .tuple #[.int .i64 0, .bool false]) (by simp [results, Try.results85, go_sem]) rfl ⟨rfl, h⟩
  | some y =>
    show Calls Try.prog 85 #[.pointer (some ⟨f, 0, none⟩), .int .i64 y, .bool true] w fun e w' => e = .returned (.tuple #[.int .i64 y, .bool true]) ∧ Stage F0 W0 (skForest f c t n W s (cutL L y) ++ q) w'
    have hC := kcut_st h y
    clear h
    go_enter Try.func85, Try.ntmps85
    go_wp2_with fail
    refine hC.mono ?_
    rintro e w1 ⟨rfl, h1⟩
    go_wp2_with fail
    exact bodyPost_ret (v := .tuple #[.int .i64 y, .bool true]) (by simp [results, Try.results85, go_sem]) rfl ⟨rfl, h1⟩
/-- A slot's children change sides; that which is at the left now comes off. -/
theorem kturn_st (h : Stage F0 W0 (skForest f c t n W s L ++ q) w) (x : Int) : Calls Try.prog 74 #[.pointer (some ⟨f, 0, none⟩), .int .i64 x] w fun e w' => e = .returned (.tuple #[.int .i64 ((kidL (turnL L x) x false).getD 0), .bool (kidL (turnL L x) x false).isSome]) ∧ Stage F0 W0 (skForest f c t n W s (looseL (turnL L x) (kidL (turnL L x) x false)) ++ q) w' := by
  have c1 := kf_c1 h
  have hT := kf_turn h x
  have hL := fun (w1 : World) (h1 : Stage F0 W0 (skForest f c t n W s (turnL L x) ++ q) w1) => kf_left h1 x
  have hO := fun (w1 : World) (h1 : Stage F0 W0 (skForest f c t n W s (turnL L x) ++ q) w1) => loosen_st h1 (kidL (turnL L x) x false)
  clear h
  generalize hasN n x = b at *
  generalize looseL (turnL L x) (kidL (turnL L x) x false) = L2 at *
  generalize (kidL (turnL L x) x false).getD 0 = y at *
  generalize (kidL (turnL L x) x false).isSome = d at *
  generalize turnL L x = L1 at *
  go_enter Try.func74, Try.ntmps74
  go_wp2_with fail
  refine hT.mono ?_
  rintro e w1 ⟨rfl, h1⟩
  clear hT c1
  have c1 := kf_c1 h1
  replace hL := hL w1 h1
  replace hO := hO w1 h1
  clear h1
  go_wp2_with fail
  refine hL.mono ?_
  rintro e w2 ⟨rfl, rfl⟩
  clear hL
  go_wp2_with fail
  refine hO.mono ?_
  rintro e w2 ⟨rfl, h2⟩
  go_wp2_with fail
  exact bodyPost_ret (v := .tuple #[.int .i64 y, .bool d]) (by simp [results, Try.results74, go_sem]) rfl ⟨rfl, h2⟩
/-- Is it the right child? -/
theorem isRight_st (h : Stage F0 W0 (skForest f c t n W s L ++ q) w) (p x : Int) : Calls Try.prog 79 #[.pointer (some ⟨f, 0, none⟩), .int .i64 p, .int .i64 x] w fun e w' => e = .returned (.bool (kidL L p true == some x)) ∧ w = w' := by
  have c1 := kf_c1 h
  have hR := kf_right h p
  clear h
  cases ho : kidL L p true with
  | none =>
    rw [ho] at hR
    replace hR : Calls Try.prog 88 #[.pointer (some ⟨t, 0, none⟩), .int .i64 p] w fun e w' => e = .returned (.tuple #[.int .i64 0, .bool false]) ∧ w = w' := hR
    clear ho
    go_enter Try.func79, Try.ntmps79
    go_wp2_with fail
    refine hR.mono ?_
    rintro e w1 ⟨rfl, rfl⟩
    go_wp2_with fail
    go_ret
    exact ⟨rfl, rfl⟩
  | some y =>
    rw [ho] at hR
    replace hR : Calls Try.prog 88 #[.pointer (some ⟨t, 0, none⟩), .int .i64 p] w fun e w' => e = .returned (.tuple #[.int .i64 y, .bool true]) ∧ w = w' := hR
    clear ho
    have e : (some y == some x) = (y == x) := rfl
    rw [e]
    clear e
    go_enter Try.func79, Try.ntmps79
    go_wp2_with fail
    refine hR.mono ?_
    rintro e w1 ⟨rfl, rfl⟩
    go_wp2_with fail
    go_ret
    exact ⟨rfl, rfl⟩
theorem krises_no (h : Stage F0 W0 (skForest f c t n W s L ++ q) w) (x : Int) (hu : upL L x = none) : Calls Try.prog 116 #[.pointer (some ⟨f, 0, none⟩), .int .i64 x] w fun e w' => e = .returned (.bool false) ∧ w = w' := by
  have hU := kf_up h x
  rw [hu] at hU
  replace hU : Calls Try.prog 78 #[.pointer (some ⟨t, 0, none⟩), .int .i64 x] w fun e w' => e = .returned (.tuple #[.int .i64 0, .bool false]) ∧ w = w' := hU
  have c1 := kf_c1 h
  clear h hu
  go_enter Try.func116, Try.ntmps116
  go_wp2_with fail
  refine hU.mono ?_
  rintro e w1 ⟨rfl, rfl⟩
  go_wp2_with fail
  go_ret
  exact ⟨rfl, rfl⟩
theorem krises_yes (h : Stage F0 W0 (skForest f c t n W s L ++ q) w) (x p : Int) (hu : upL L x = some p) : Calls Try.prog 116 #[.pointer (some ⟨f, 0, none⟩), .int .i64 x] w fun e w' => e = .returned (.bool (aheadW W x p)) ∧ Stage F0 W0 (skForest f c t n W (aheadS W s x p) L ++ q) w' := by
  have hU := kf_up h x
  rw [hu] at hU
  replace hU : Calls Try.prog 78 #[.pointer (some ⟨t, 0, none⟩), .int .i64 x] w fun e w' => e = .returned (.tuple #[.int .i64 p, .bool true]) ∧ w = w' := hU
  have c0 := kf_c0 h
  have c1 := kf_c1 h
  have hA := kf_ahead h x p
  clear h hu
  go_enter Try.func116, Try.ntmps116
  go_wp2_with fail
  refine hU.mono ?_
  rintro e w1 ⟨rfl, rfl⟩
  go_wp2_with fail
  refine hA.mono ?_
  rintro e w1 ⟨rfl, h1⟩
  go_wp2_with fail
  go_ret
  exact ⟨rfl, h1⟩
end
end Go.Proofs.Ytehoejoeoaimjaa

namespace Go.Proofs.Ytehoejoeoaimjaa
open Go.RowKit Go.Sort

/-- A slot of a frame, as a number. -/
def kint : Value → Int
  | .int _ z => z
  | _ => 0
def KMergePost (F0 : Nat → Prop) (W0 : World) (f c t n : Nat) (W : WS) (s : Int) (L : List Hg) (q : List Ob) (ta tb : Tr) (e : Ending) (w' : World) : Prop :=
  ∃ (m : Int) (L' : List Hg), e = .returned (.int .i64 m) ∧ (Tr.merge (aheadW W) ta tb).top = some m ∧ KStands L' (Tr.merge (aheadW W) ta tb) ∧ KSame (ta.slots ++ tb.slots) L L' ∧ Stage F0 W0 (skForest f c t n W (stp s (Tr.asked (aheadW W) ta tb)) L' ++ q) w'
section
variable {F0 : Nat → Prop} {W0 w : World} {f c t n : Nat} {W : WS} {s : Int} {L : List Hg} {q : List Ob} {ta tb : Tr}
set_option maxRecDepth 100000 in
set_option maxHeartbeats 2000000 in
theorem kmerge_st {a b : Int} (h : Stage F0 W0 (skForest f c t n W s L ++ q) w) (H : KTwo W n L ta tb) (ea : ta.top = some a) (eb : tb.top = some b) :
    Calls Try.prog 61 #[.pointer (some ⟨f, 0, none⟩), .int .i64 a, .int .i64 b] w (KMergePost F0 W0 f c t n W s L q ta tb) := by
  have hst := (kf_fit h).2
  have hO := order_st h a b
  obtain ⟨wn, lo, l, r, X, e1, e2, D, hT⟩ := down_start H ea eb
  have hin1 := H.ins b (List.mem_append_right _ (Tr.top_in eb))
  have hin2 := H.ins a (List.mem_append_left _ (Tr.top_in ea))
  have hs1 := ahead_step hin1 hin2 hst 0
  rw [stp_zero hst.2] at hs1
  rw [← e1, ← e2, hs1] at hO
  clear e1 e2 hin1 hin2 hs1 H h ea eb
  unfold KMergePost
  generalize ta.slots ++ tb.slots = S at *
  generalize Tr.merge (aheadW W) ta tb = T at *
  generalize Tr.asked (aheadW W) ta tb = K at *
  go_enter Try.func61, Try.ntmps61
  go_wp2_with fail
  refine hO.mono ?_
  rintro e w1 ⟨rfl, h1⟩
  clear hO
  go_wp2_with fail
  go_loopw [1, 2] (fun u v wr => ∃ (z : List Fr) (a : Int) (l r X : Tr) (b : Int) (k : Nat) (L1 : List Hg), u = .int .i64 a ∧ v = .int .i64 b ∧ KDown W n L S T K L1 z a l r X b k ∧ Stage F0 W0 (skForest f c t n W (stp s k) L1 ++ q) wr) (fun u _ _ => T.sub (kint u))
  case atStart => exact ⟨[], wn, l, r, X, lo, 1, L, rfl, rfl, D, h1⟩
  case round =>
    clear D h1
    obtain ⟨z, a, l, r, X, b, k, L1, rfl, rfl, D, h1⟩ := hrel
    have hT1 := kturn_st h1 a
    obtain ⟨I, hn⟩ := kf_inv h1
    cases hr : r.top with
    | none =>
      obtain rfl : r = .nil := by cases r with
        | nil => rfl
        | node _ _ _ => cases hr
      obtain ⟨g1, g2, g3, g4, g5, g6⟩ := down_end I D
      rw [g1] at hT1
      replace hT1 : Calls Try.prog 74 #[.pointer (some ⟨f, 0, none⟩), .int .i64 a] wr fun e w' => e = .returned (.tuple #[.int .i64 0, .bool false]) ∧ Stage F0 W0 (skForest f c t n W (stp s k) (turnL L1 a) ++ q) w' := hT1
      subst g6
      clear g1 hr D I hn h1
      generalize turnL L1 a = L2 at *
      go_wp2_with fail
      refine hT1.mono ?_
      rintro e w2 ⟨rfl, h2⟩
      clear hT1
      have c1 := kf_c1 h2
      have hH := kf_hang h2 a b false (Or.inl g3)
      rw [g2] at hH
      clear g2 g3 h2
      generalize hangL n L2 a b false = L3 at *
      go_wp2_with fail
      refine hH.mono ?_
      rintro e w3 ⟨rfl, h3⟩
      clear hH
      go_wp2_with fail
      go_ret
      exact ⟨wn, L3, rfl, hT, g4, g5, h3⟩
    | some y =>
      obtain ⟨g1, O⟩ := down_cut I D hr
      rw [g1] at hT1
      replace hT1 : Calls Try.prog 74 #[.pointer (some ⟨f, 0, none⟩), .int .i64 a] wr fun e w' => e = .returned (.tuple #[.int .i64 y, .bool true]) ∧ Stage F0 W0 (skForest f c t n W (stp s k) (cutL (turnL L1 a) y) ++ q) w' := hT1
      clear g1 hr D I hn h1
      generalize cutL (turnL L1 a) y = L2 at *
      go_wp2_with fail
      refine hT1.mono ?_
      rintro e w2 ⟨rfl, h2⟩
      clear hT1
      obtain ⟨I, hn⟩ := kf_inv h2
      obtain ⟨wn2, lo2, l2, r2, X2, e1, e2, g2, g3, D2, g4⟩ := down_next I O
      have hO := order_st h2 y b
      have hs1 := ahead_step (O.ins b O.yin.2.2.1) (O.ins y O.yin.2.1) hst k
      rw [← e1, ← e2, hs1] at hO
      clear e1 e2 hs1 O I hn h2
      go_wp2_with fail
      refine hO.mono ?_
      rintro e w3 ⟨rfl, h3⟩
      clear hO
      have c1 := kf_c1 h3
      have hH := kf_hang h3 a wn2 false (Or.inl g3)
      rw [g2] at hH
      clear g2 g3 h3
      generalize hangL n L2 a wn2 false = L3 at *
      go_wp2_with fail
      refine hH.mono ?_
      rintro e w4 ⟨rfl, h4⟩
      clear hH
      go_wp2_with fail
      go_roundw
      case rel => exact ⟨_, wn2, l2, r2, X2, lo2, k + 1, L3, rfl, rfl, D2, h4⟩
      case measure => exact g4
end
end Go.Proofs.Ytehoejoeoaimjaa
