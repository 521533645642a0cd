/- Merged of SkewObj, SkewMerge, SkewRemove, SkewFun, SkewNest, SkewNest2. -/
import Derived.Test.YtkcicnflcilekaaGreatSkewDown
import Derived.Test.YtkcicnflcilekaaGreatStageAppend
import Derived.Deep.QuietTactic
import Derived.BigQuiet
import Derived.Test.YtkcicnflcilekaaGreatPqHeld
import Derived.Test.YtkcicnflcilekaaGreatLeftistNest
namespace Go.Proofs.YtkcicnflcilekaaGreat
open Go.RowKit Go.Sort

theorem ahead_step {W : WS} {a b : Int} (ha : inW W a = true) (hb : inW W b = true) {s : Int} (h : 0 ≤ s ∧ s ≤ 4611686018427387904) (k : Nat) : aheadS W (stp s k) a b = stp s (k + 1) := by
  rw [← stp_one h k]
  simp [aheadS, ha, hb]
def skForest (f c t n : Nat) (W : WS) (s : Int) (L : List Hg) : List Ob :=
  [Ob.box f #[ptrV c, ptrV t] 255, Ob.cells c W s, Ob.spine t n L]
section
variable {F0 : Nat → Prop} {W0 w : World} {f c t n : Nat} {W : WS} {s : Int} {L : List Hg} {q : List Ob}
theorem kf_c0 (h : Stage F0 W0 (skForest f c t n W s L ++ q) w) : w.cell? ⟨f, 0, none⟩ = some (ptrV c) := h.cell 0 rfl rfl
theorem kf_c1 (h : Stage F0 W0 (skForest f c t n W s L ++ q) w) : w.cell? ⟨f, 1, none⟩ = some (ptrV t) := h.cell 0 rfl rfl
theorem kf_inv (h : Stage F0 W0 (skForest f c t n W s L ++ q) w) : GInv n L ∧ n ≤ 65536 := by
  obtain ⟨G, _, I, hn, _⟩ := h.get (i := 2) rfl
  exact ⟨I, hn⟩
theorem kf_fit (h : Stage F0 W0 (skForest f c t n W s L ++ q) w) : W.Fit ∧ 0 ≤ s ∧ s ≤ 4611686018427387904 := by
  obtain ⟨G, ho⟩ := h.get (i := 1) rfl
  exact ⟨Ob.cells.fit ho, Ob.cells.steps ho⟩
theorem kf_left (h : Stage F0 W0 (skForest f c t n W s L ++ q) w) (x : Int) : Calls Tryz.prog 274 #[.pointer (some ⟨t, 0, none⟩), .int .i64 x] w fun e w' => e = .returned (.tuple #[.int .i64 ((kidL L x false).getD 0), .bool (kidL L x false).isSome]) ∧ w = w' :=
  h.ask 2 rfl fun _ ⟨_, I, hn, ho⟩ => sp_left (q := []) (Ob.group.open ho) I hn x
theorem kf_turn (h : Stage F0 W0 (skForest f c t n W s L ++ q) w) (x : Int) : Calls Tryz.prog 276 #[.pointer (some ⟨t, 0, none⟩), .int .i64 x] w fun e w' => e = .returned (.bool (hasN n x)) ∧ Stage F0 W0 (skForest f c t n W s (turnL L x) ++ q) w' :=
  h.call 2 rfl fun _ ho => turn_sp x ho
theorem kf_cutT (h : Stage F0 W0 (skForest f c t n W s L ++ q) w) (x : Int) : Calls Tryz.prog 265 #[.pointer (some ⟨t, 0, none⟩), .int .i64 x] w fun e w' => e = .returned (.tuple #[.int .i64 ((upL L x).getD 0), .bool (upL L x).isSome]) ∧ Stage F0 W0 (skForest f c t n W s (cutL L x) ++ q) w' :=
  h.call 2 rfl fun _ ho => cut_sp x ho
theorem kf_hang (h : Stage F0 W0 (skForest f c t n W s L ++ q) w) (a x : Int) (r : Bool) (ha : ¬ aboveL L x a ∨ x = a) : Calls Tryz.prog 269 #[.pointer (some ⟨t, 0, none⟩), .int .i64 a, .int .i64 x, .bool r] w fun e w' => e = .returned (.bool (hangB n L a x r)) ∧ Stage F0 W0 (skForest f c t n W s (hangL n L a x r) ++ q) w' :=
  h.call 2 rfl fun _ ho => hang_sp a x r ha ho
theorem kf_ahead (h : Stage F0 W0 (skForest f c t n W s L ++ q) w) (a b : Int) : Calls Tryz.prog 174 #[.pointer (some ⟨c, 0, none⟩), .int .i64 a, .int .i64 b] w fun e w' => e = .returned (.bool (aheadW W a b)) ∧ Stage F0 W0 (skForest f c t n W (aheadS W s a b) L ++ q) w' :=
  h.call 1 rfl fun _ ho => ahead_cl a b ho
/-- The slot that is ahead, and the other one. -/
theorem order_st (h : Stage F0 W0 (skForest f c t n W s L ++ q) w) (a b : Int) : Calls Tryz.prog 291 #[.pointer (some ⟨f, 0, none⟩), .int .i64 a, .int .i64 b] w fun e w' => e = .returned (.tuple #[.int .i64 (if aheadW W b a then b else a), .int .i64 (if aheadW W b a then a else b)]) ∧ Stage F0 W0 (skForest f c t n W (aheadS W s b a) L ++ q) w' := by
  have c0 := kf_c0 h
  have hA := kf_ahead h b a
  generalize aheadS W s b a = s1 at *
  clear h
  cases hB : aheadW W b a
  · rw [hB] at hA
    clear hB
    go_enter Tryz.func291, Tryz.ntmps291
    go_wp2_with fail
    refine hA.mono ?_
    rintro e w1 ⟨rfl, h1⟩
    go_wp2_with fail
    exact bodyPost_ret (v := .tuple #[.int .i64 a, .int .i64 b]) (by simp [results, Tryz.results291, go_sem]) rfl ⟨rfl, h1⟩
  · rw [hB] at hA
    clear hB
    go_enter Tryz.func291, Tryz.ntmps291
    go_wp2_with fail
    refine hA.mono ?_
    rintro e w1 ⟨rfl, h1⟩
    go_wp2_with fail
    exact bodyPost_ret (v := .tuple #[.int .i64 b, .int .i64 a]) (by simp [results, Tryz.results291, go_sem]) rfl ⟨rfl, h1⟩
theorem kcut_st (h : Stage F0 W0 (skForest f c t n W s L ++ q) w) (x : Int) : Calls Tryz.prog 284 #[.pointer (some ⟨f, 0, none⟩), .int .i64 x] w fun e w' => e = .returned (.tuple #[]) ∧ Stage F0 W0 (skForest f c t n W s (cutL L x) ++ q) w' := by
  have c1 := kf_c1 h
  have hC := kf_cutT h x
  clear h
  generalize (upL L x).getD 0 = u at *
  generalize (upL L x).isSome = b at *
  go_enter Tryz.func284, Tryz.ntmps284
  go_wp2_with fail
  refine hC.mono ?_
  rintro e w1 ⟨rfl, h1⟩
  go_wp2_with fail
  go_end0
  exact ⟨rfl, h1⟩
/-- What is left, where a child comes off, if there is one. -/
def looseL (L : List Hg) (o : Option Int) : List Hg := o.elim L (cutL L)
theorem loosen_st (h : Stage F0 W0 (skForest f c t n W s L ++ q) w) (o : Option Int) : Calls Tryz.prog 293 #[.pointer (some ⟨f, 0, none⟩), .int .i64 (o.getD 0), .bool o.isSome] w fun e w' => e = .returned (.tuple #[.int .i64 (o.getD 0), .bool o.isSome]) ∧ Stage F0 W0 (skForest f c t n W s (looseL L o) ++ q) w' := by
  cases o with
  | none =>
    show Calls Tryz.prog 293 #[.pointer (some ⟨f, 0, none⟩), .int .i64 0, .bool false] w fun e w' => e = .returned (.tuple #[.int .i64 0, .bool false]) ∧ Stage F0 W0 (skForest f c t n W s L ++ q) w'
    go_enter Tryz.func293, Tryz.ntmps293
    go_wp2_with fail
    exact bodyPost_ret (v := .tuple #[.int .i64 0, .bool false]) (by simp [results, Tryz.results293, go_sem]) rfl ⟨rfl, h⟩
  | some y =>
    show Calls Tryz.prog 293 #[.pointer (some ⟨f, 0, none⟩), .int .i64 y, .bool true] w fun e w' => e = .returned (.tuple #[.int .i64 y, .bool true]) ∧ Stage F0 W0 (skForest f c t n W s (cutL L y) ++ q) w'
    have hC := kcut_st h y
    clear h
    go_enter Tryz.func293, Tryz.ntmps293
    go_wp2_with fail
    refine hC.mono ?_
    rintro e w1 ⟨rfl, h1⟩
    go_wp2_with fail
    exact bodyPost_ret (v := .tuple #[.int .i64 y, .bool true]) (by simp [results, Tryz.results293, go_sem]) rfl ⟨rfl, h1⟩
/-- A slot's children change sides; that which is at the left now comes off. -/
theorem kturn_st (h : Stage F0 W0 (skForest f c t n W s L ++ q) w) (x : Int) : Calls Tryz.prog 292 #[.pointer (some ⟨f, 0, none⟩), .int .i64 x] w fun e w' => e = .returned (.tuple #[.int .i64 ((kidL (turnL L x) x false).getD 0), .bool (kidL (turnL L x) x false).isSome]) ∧ Stage F0 W0 (skForest f c t n W s (looseL (turnL L x) (kidL (turnL L x) x false)) ++ q) w' := by
  have c1 := kf_c1 h
  have hT := kf_turn h x
  have hL := fun (w1 : World) (h1 : Stage F0 W0 (skForest f c t n W s (turnL L x) ++ q) w1) => kf_left h1 x
  have hO := fun (w1 : World) (h1 : Stage F0 W0 (skForest f c t n W s (turnL L x) ++ q) w1) => loosen_st h1 (kidL (turnL L x) x false)
  clear h
  generalize hasN n x = b at *
  generalize looseL (turnL L x) (kidL (turnL L x) x false) = L2 at *
  generalize (kidL (turnL L x) x false).getD 0 = y at *
  generalize (kidL (turnL L x) x false).isSome = d at *
  generalize turnL L x = L1 at *
  go_enter Tryz.func292, Tryz.ntmps292
  go_wp2_with fail
  refine hT.mono ?_
  rintro e w1 ⟨rfl, h1⟩
  clear hT c1
  have c1 := kf_c1 h1
  replace hL := hL w1 h1
  replace hO := hO w1 h1
  clear h1
  go_wp2_with fail
  refine hL.mono ?_
  rintro e w2 ⟨rfl, rfl⟩
  clear hL
  go_wp2_with fail
  refine hO.mono ?_
  rintro e w2 ⟨rfl, h2⟩
  go_wp2_with fail
  exact bodyPost_ret (v := .tuple #[.int .i64 y, .bool d]) (by simp [results, Tryz.results292, go_sem]) rfl ⟨rfl, h2⟩
end
end Go.Proofs.YtkcicnflcilekaaGreat

namespace Go.Proofs.YtkcicnflcilekaaGreat
open Go.RowKit Go.Sort

/-- A slot of a frame, as a number. -/
def kint : Value → Int
  | .int _ z => z
  | _ => 0
def KMergePost (F0 : Nat → Prop) (W0 : World) (f c t n : Nat) (W : WS) (s : Int) (L : List Hg) (q : List Ob) (ta tb : Tr) (e : Ending) (w' : World) : Prop :=
  ∃ (m : Int) (L' : List Hg), e = .returned (.int .i64 m) ∧ (Tr.merge (aheadW W) ta tb).top = some m ∧ KStands L' (Tr.merge (aheadW W) ta tb) ∧ KSame (ta.slots ++ tb.slots) L L' ∧ Stage F0 W0 (skForest f c t n W (stp s (Tr.asked (aheadW W) ta tb)) L' ++ q) w'
section
variable {F0 : Nat → Prop} {W0 w : World} {f c t n : Nat} {W : WS} {s : Int} {L : List Hg} {q : List Ob} {ta tb : Tr}
set_option maxRecDepth 100000 in
set_option maxHeartbeats 2000000 in
theorem kmerge_st {a b : Int} (h : Stage F0 W0 (skForest f c t n W s L ++ q) w) (H : KTwo W n L ta tb) (ea : ta.top = some a) (eb : tb.top = some b) :
    Calls Tryz.prog 288 #[.pointer (some ⟨f, 0, none⟩), .int .i64 a, .int .i64 b] w (KMergePost F0 W0 f c t n W s L q ta tb) := by
  have hst := (kf_fit h).2
  have hO := order_st h a b
  obtain ⟨wn, lo, l, r, X, e1, e2, D, hT⟩ := down_start H ea eb
  have hin1 := H.ins b (List.mem_append_right _ (Tr.top_in eb))
  have hin2 := H.ins a (List.mem_append_left _ (Tr.top_in ea))
  have hs1 := ahead_step hin1 hin2 hst 0
  rw [stp_zero hst.2] at hs1
  rw [← e1, ← e2, hs1] at hO
  clear e1 e2 hin1 hin2 hs1 H h ea eb
  unfold KMergePost
  generalize ta.slots ++ tb.slots = S at *
  generalize Tr.merge (aheadW W) ta tb = T at *
  generalize Tr.asked (aheadW W) ta tb = K at *
  go_enter Tryz.func288, Tryz.ntmps288
  go_wp2_with fail
  refine hO.mono ?_
  rintro e w1 ⟨rfl, h1⟩
  clear hO
  go_wp2_with fail
  go_loopw [1, 2] (fun u v wr => ∃ (z : List Fr) (a : Int) (l r X : Tr) (b : Int) (k : Nat) (L1 : List Hg), u = .int .i64 a ∧ v = .int .i64 b ∧ KDown W n L S T K L1 z a l r X b k ∧ Stage F0 W0 (skForest f c t n W (stp s k) L1 ++ q) wr) (fun u _ _ => T.sub (kint u))
  case atStart => exact ⟨[], wn, l, r, X, lo, 1, L, rfl, rfl, D, h1⟩
  case round =>
    clear D h1
    obtain ⟨z, a, l, r, X, b, k, L1, rfl, rfl, D, h1⟩ := hrel
    have hT1 := kturn_st h1 a
    obtain ⟨I, hn⟩ := kf_inv h1
    cases hr : r.top with
    | none =>
      obtain rfl : r = .nil := by cases r with
        | nil => rfl
        | node _ _ _ => cases hr
      obtain ⟨g1, g2, g3, g4, g5, g6⟩ := down_end I D
      rw [g1] at hT1
      replace hT1 : Calls Tryz.prog 292 #[.pointer (some ⟨f, 0, none⟩), .int .i64 a] wr fun e w' => e = .returned (.tuple #[.int .i64 0, .bool false]) ∧ Stage F0 W0 (skForest f c t n W (stp s k) (turnL L1 a) ++ q) w' := hT1
      subst g6
      clear g1 hr D I hn h1
      generalize turnL L1 a = L2 at *
      go_wp2_with fail
      refine hT1.mono ?_
      rintro e w2 ⟨rfl, h2⟩
      clear hT1
      have c1 := kf_c1 h2
      have hH := kf_hang h2 a b false (Or.inl g3)
      rw [g2] at hH
      clear g2 g3 h2
      generalize hangL n L2 a b false = L3 at *
      go_wp2_with fail
      refine hH.mono ?_
      rintro e w3 ⟨rfl, h3⟩
      clear hH
      go_wp2_with fail
      go_ret
      exact ⟨wn, L3, rfl, hT, g4, g5, h3⟩
    | some y =>
      obtain ⟨g1, O⟩ := down_cut I D hr
      rw [g1] at hT1
      replace hT1 : Calls Tryz.prog 292 #[.pointer (some ⟨f, 0, none⟩), .int .i64 a] wr fun e w' => e = .returned (.tuple #[.int .i64 y, .bool true]) ∧ Stage F0 W0 (skForest f c t n W (stp s k) (cutL (turnL L1 a) y) ++ q) w' := hT1
      clear g1 hr D I hn h1
      generalize cutL (turnL L1 a) y = L2 at *
      go_wp2_with fail
      refine hT1.mono ?_
      rintro e w2 ⟨rfl, h2⟩
      clear hT1
      obtain ⟨I, hn⟩ := kf_inv h2
      obtain ⟨wn2, lo2, l2, r2, X2, e1, e2, g2, g3, D2, g4⟩ := down_next I O
      have hO := order_st h2 y b
      have hs1 := ahead_step (O.ins b O.yin.2.2.1) (O.ins y O.yin.2.1) hst k
      rw [← e1, ← e2, hs1] at hO
      clear e1 e2 hs1 O I hn h2
      go_wp2_with fail
      refine hO.mono ?_
      rintro e w3 ⟨rfl, h3⟩
      clear hO
      have c1 := kf_c1 h3
      have hH := kf_hang h3 a wn2 false (Or.inl g3)
      rw [g2] at hH
      clear g2 g3 h3
      generalize hangL n L2 a wn2 false = L3 at *
      go_wp2_with fail
      refine hH.mono ?_
      rintro e w4 ⟨rfl, h4⟩
      clear hH
      go_wp2_with fail
      go_roundw
      case rel => exact ⟨_, wn2, l2, r2, X2, lo2, k + 1, L3, rfl, rfl, D2, h4⟩
      case measure => exact g4
end
end Go.Proofs.YtkcicnflcilekaaGreat

namespace Go.Proofs.YtkcicnflcilekaaGreat
open Go.RowKit Go.Sort

section
variable {n : Nat} {L : List Hg}
theorem top_none {t : Tr} (h : t.top = none) : t = .nil := by
  cases t with
  | nil => rfl
  | node _ _ _ => cases h
end
section
variable {F0 : Nat → Prop} {W0 w : World} {f c t n : Nat} {W : WS} {s : Int} {L : List Hg} {q : List Ob} {z : List Fr} {x : Int} {l r : Tr}
end
end Go.Proofs.YtkcicnflcilekaaGreat

namespace Go.Proofs.YtkcicnflcilekaaGreat

abbrev KG := Int × (Nat → Tr)
noncomputable section
def skIns (W : WS) (y x q r : Int) (g : KG) : KG :=
  if putB W y x = true then (stp g.1 (Tr.asked (aheadW (putW W y x q r)) (g.2 y.toNat) (.node x .nil .nil)), updT g.2 y.toNat (Tr.merge (aheadW (putW W y x q r)) (g.2 y.toNat) (.node x .nil .nil))) else g
end
section
variable {n : Nat} {L : List Hg} {W : WS} {Ts : Nat → Tr}
theorem kstands_one {x : Int} (h : upL L x = none ∧ ∀ sd, kidL L x sd = none) : KStands L (.node x .nil .nil) :=
  ⟨⟨rfl, h.2 false, h.2 true⟩, fun y hy => by cases hy; exact h.1, by simp [Tr.slots]⟩
/-- A slot comes into a heap: what then stands. -/
theorem kinsert_inv {xi : Nat} {i : Nat} {k q : Int} (I : TInv W Ts) (J : KInv Ts L) (hn : W.cells.length = n) (hB : putB W i xi = true) (hi : 1 ≤ i) :
    KTwo (putW W i xi k q) n L (Ts i) (.node xi .nil .nil) ∧ ∀ {L' : List Hg}, KStands L' (Tr.merge (aheadW (putW W i xi k q)) (Ts i) (.node xi .nil .nil)) → KSame ((Ts i).slots ++ (Tr.node (xi : Int) .nil .nil).slots) L L' →
      TInv (putW W i xi k q) (updT Ts i (Tr.merge (aheadW (putW W i xi k q)) (Ts i) (.node xi .nil .nil))) ∧ KInv (updT Ts i (Tr.merge (aheadW (putW W i xi k q)) (Ts i) (.node xi .nil .nil))) L' := by
  obtain ⟨hnot, hok, hin, hinx, hfin⟩ := tinv_put (k := k) (s := q) I hB hi
  have hal := J.alone xi hnot
  have hx1 : (Tr.node (xi : Int) .nil .nil).slots = [(xi : Int)] := rfl
  have hins : ∀ z ∈ (Ts i).slots ++ (Tr.node (xi : Int) .nil .nil).slots, inW (putW W i xi k q) z = true := fun z hz => by
    rcases List.mem_append.1 hz with h | h
    · exact hin z h
    · rw [hx1, List.mem_singleton] at h; rw [h]; exact hinx
  have hok1 : Tr.Ok (aheadW (putW W i xi k q)) (.node (xi : Int) .nil .nil) := ⟨fun _ h => (by cases h), fun _ h => (by cases h), trivial, trivial⟩
  have hkm := kmerge_ok (fun z hz => hins z (List.mem_append_left _ hz)) (fun z hz => hins z (List.mem_append_right _ hz)) hok hok1
  have hp := Tr.merge_perm (aheadW (putW W i xi k q)) (Ts i) (.node (xi : Int) .nil .nil)
  refine ⟨⟨by rw [lput_len]; exact hn, J.all i, kstands_one hal, fun z hz hm => hnot i (by rw [hx1, List.mem_singleton] at hm; rw [← hm]; exact hz), hins⟩, fun {L'} hT hS2 => ⟨hfin _ hkm (by rw [hx1] at hp; exact hp), ?_⟩⟩
  refine J.upd i hS2 hT (fun g hg z hz hm => ?_) (fun z hz => Or.inl (hp.mem_iff.2 hz)) (fun z hz => List.mem_append_left _ hz)
  rcases List.mem_append.1 hm with h | h
  · exact hg (I.one hz h)
  · rw [hx1, List.mem_singleton] at h; exact hnot g (by rw [← h]; exact hz)
end
end Go.Proofs.YtkcicnflcilekaaGreat

namespace Go.Proofs.YtkcicnflcilekaaGreat
open Go.RowKit Go.Sort

def skParts (p f c t bm n : Nat) (W : WS) (s : Int) (L : List Hg) (Ts : Nat → Tr) : List Ob :=
  skForest f c t n W s L ++ [Ob.box p #[ptrV c, ptrV f, .map (some bm)] 206, Ob.zmap Tryz.prog 3 3 bm (topsT Ts) (cntT Ts)]
/-- A nest of skew trees at p, whose cells are at c. -/
def Ob.skew (p c : Nat) (W : WS) (s : Int) (Ts : Nat → Tr) : Ob where
  holds w F := ∃ f t bm n L, TInv W Ts ∧ KInv Ts L ∧ W.cells.length = n ∧ W.Fit ∧ (0 ≤ s ∧ s ≤ 4611686018427387904) ∧ (Ob.group (skParts p f c t bm n W s L Ts)).holds w F
  keeps := fun ⟨f, t, bm, n, L, h1, h2, h3, h4, h5, h⟩ k hn => ⟨f, t, bm, n, L, h1, h2, h3, h4, h5, (Ob.group _).keeps h k hn⟩
  lt := fun ⟨_, _, _, _, _, _, _, _, _, _, h⟩ => (Ob.group _).lt h
/-- At p lies a pointer to the cells at c. -/
def skewH (p c : Nat) (w : World) : Prop := w.cell? ⟨p, 0, none⟩ = some (ptrV c)
section
variable {F0 : Nat → Prop} {W0 w : World} {p f c t bm n : Nat} {W : WS} {s : Int} {L : List Hg} {Ts : Nat → Tr}
theorem sk_p0 (h : Stage F0 W0 (skParts p f c t bm n W s L Ts) w) : w.cell? ⟨p, 0, none⟩ = some (ptrV c) := h.cell 3 rfl rfl
theorem sk_p1 (h : Stage F0 W0 (skParts p f c t bm n W s L Ts) w) : w.cell? ⟨p, 1, none⟩ = some (ptrV f) := h.cell 3 rfl rfl
theorem sk_p2 (h : Stage F0 W0 (skParts p f c t bm n W s L Ts) w) : w.cell? ⟨p, 2, none⟩ = some (.map (some bm)) := h.cell 3 rfl rfl
theorem kzero_int (w : World) : (zeroValue 3).run Tryz.prog w = .ok (.int .i64 0) w := by kernel_rfl
theorem sk_look (h : Stage F0 W0 (skParts p f c t bm n W s L Ts) w) (y : Int) (hy : inInt y) : (Instr.lookup 185 (.map (some bm)) (.int .i64 y) true).run Tryz.prog w = .ok (.tuple #[.int .i64 ((topsT Ts y).getD 0), .bool (topsT Ts y).isSome]) w :=
  h.lookOkZ 4 rfl Tryz.underlying185 Tryz.underlying3 Tryz.underlying3 (kzero_int w) y hy
/-- A tree comes into a heap. -/
def KAddPost (F0 : Nat → Prop) (W0 : World) (p f c t bm n : Nat) (W : WS) (s : Int) (L : List Hg) (Ts : Nat → Tr) (h : Nat) (tb : Tr) (e : Ending) (w' : World) : Prop :=
  ∃ (L' : List Hg), e = .returned (.tuple #[]) ∧ KStands L' (Tr.merge (aheadW W) (Ts h) tb) ∧ KSame ((Ts h).slots ++ tb.slots) L L' ∧
    Stage F0 W0 (skParts p f c t bm n W (stp s (Tr.asked (aheadW W) (Ts h) tb)) L' (updT Ts h (Tr.merge (aheadW W) (Ts h) tb))) w'
set_option maxRecDepth 100000 in
set_option maxHeartbeats 1000000 in
theorem add_sk (hs : Stage F0 W0 (skParts p f c t bm n W s L Ts) w) {h : Nat} (hh : h < 65537) {tb : Tr} {x : Int} (hx : tb.top = some x) (H : KTwo W n L (Ts h) tb) :
    Calls Tryz.prog 285 #[.pointer (some ⟨p, 0, none⟩), .int .i64 h, .int .i64 x] w (KAddPost F0 W0 p f c t bm n W s L Ts h tb) := by
  have p1 := sk_p1 hs
  have p2 := sk_p2 hs
  have hl := sk_look hs h ⟨by omega, by omega⟩
  have hf := (kf_fit (q := [_, _]) hs).1
  have hst := (kf_fit (q := [_, _]) hs).2
  have hcnt : cntT Ts < maxLen := by have := cntT_le Ts; unfold maxLen; omega
  rw [topsT_nat] at hl
  unfold KAddPost
  cases ht : (Ts h).top with
  | none =>
    have hnil : Ts h = .nil := top_none ht
    rw [ht] at hl
    replace hl : (Instr.lookup 185 (.map (some bm)) (.int .i64 h) true).run Tryz.prog w = .ok (.tuple #[.int .i64 0, .bool false]) w := hl
    have hx64 : inInt x := in_int64 hf (H.ins x (by simp [Tr.top_in hx]))
    have hn1 := Lib.hid (cntT_put Ts hh (T := tb) (by rw [hx]; rfl))
    have hf1 := Lib.hid (show setZ (topsT Ts) h (some x) = topsT (updT Ts h tb) by rw [topsT_upd, hx])
    obtain ⟨e1, e2⟩ := Tr.merge_nil (lt := aheadW W) tb
    rw [hnil, e1, e2, stp_zero hst.2]
    have hsb := H.sb
    clear ht hnil e1 e2 H hst
    go_enter Tryz.func285, Tryz.ntmps285
    go_wp2_with (at_mapUpdate; refine Stage.wp_putZL (cntT (updT Ts h tb)) (topsT (updT Ts h tb)) hs 4 rfl rfl _ _ _ rfl Tryz.underlying185 Tryz.underlying3 Tryz.underlying3 hcnt rfl h x rfl rfl ⟨by omega, by omega⟩ hx64 hn1 hf1 ?_)
    intro w1 h1
    replace h1 : Stage F0 W0 (skParts p f c t bm n W s L (updT Ts h tb)) w1 := h1
    go_wp2_with fail
    go_end0
    exact ⟨L, rfl, hsb, KSame.refl _ _, h1⟩
  | some y =>
    rw [ht] at hl
    replace hl : (Instr.lookup 185 (.map (some bm)) (.int .i64 h) true).run Tryz.prog w = .ok (.tuple #[.int .i64 y, .bool true]) w := hl
    have hM := kmerge_st (q := [_, _]) hs H ht hx
    have hp := Tr.merge_perm (aheadW W) (Ts h) tb
    have hins := H.ins
    unfold KMergePost at hM
    clear ht H hx
    generalize Tr.asked (aheadW W) (Ts h) tb = K at *
    generalize Tr.merge (aheadW W) (Ts h) tb = T at *
    generalize stp s K = s' at *
    go_enter Tryz.func285, Tryz.ntmps285
    go_wp2_with fail
    refine hM.mono ?_
    rintro e w1 ⟨m, L', rfl, m1, m2, m3, h1⟩
    replace h1 : Stage F0 W0 (skParts p f c t bm n W s' L' Ts) w1 := h1
    clear hM hs hl p1 p2
    have p2 := sk_p2 h1
    have hm64 : inInt m := in_int64 hf (hins m (hp.mem_iff.1 (Tr.top_in m1)))
    have hn1 := Lib.hid (cntT_put Ts hh (T := T) (by rw [m1]; rfl))
    have hf1 := Lib.hid (show setZ (topsT Ts) h (some m) = topsT (updT Ts h T) by rw [topsT_upd, m1])
    clear m1 hp hins
    go_wp2_with (at_mapUpdate; refine Stage.wp_putZL (cntT (updT Ts h T)) (topsT (updT Ts h T)) h1 4 rfl rfl _ _ _ rfl Tryz.underlying185 Tryz.underlying3 Tryz.underlying3 hcnt rfl h m rfl rfl ⟨by omega, by omega⟩ hm64 hn1 hf1 ?_)
    intro w2 h2
    replace h2 : Stage F0 W0 (skParts p f c t bm n W s' L' (updT Ts h T)) w2 := h2
    go_wp2_with fail
    go_end0
    exact ⟨L', rfl, m2, m3, h2⟩
end
section
variable {w : World} {p c f t bm n : Nat} {W W' : WS} {s s' : Int} {F F0 : Nat → Prop} {L : List Hg} {Ts : Nat → Tr}
theorem skew_close {w' : World} (hs : Stage F w (skParts p f c t bm n W' s' L Ts) w') (hF : ∀ b, F b → b < w.heap.size) (I : TInv W' Ts) (J : KInv Ts L) (hn : W'.cells.length = n) : ∃ F', (Ob.skew p c W' s' Ts).holds w' F' ∧ Moved F F' w w' := by
  obtain ⟨F', h1, m⟩ := hs.close hF
  have h2 := kf_fit (q := [_, _]) hs
  exact ⟨F', ⟨f, t, bm, n, L, I, J, hn, h2.1, h2.2, h1⟩, m⟩
set_option maxRecDepth 100000 in
theorem insert_sk (y x k q : Int) (h : (Ob.skew p c W s Ts).holds w F) : Calls Tryz.prog 280 #[.pointer (some ⟨p, 0, none⟩), .int .i64 y, .int .i64 x, .agg #[.int .i64 k, .int .u64 q]] w fun e w' => e = .returned (.bool (putB W y x)) ∧ ∃ F', (Ob.skew p c (putW W y x k q) (skIns W y x k q (s, Ts)).1 (skIns W y x k q (s, Ts)).2).holds w' F' ∧ Moved F F' w w' := by
  have hF := (Ob.skew p c W s Ts).lt h
  obtain ⟨f, t, bm, n, L, I, J, hn, hf, _, hg⟩ := h
  have hs := Ob.group.open hg
  clear hg
  obtain ⟨w0, hw0, hs0⟩ : ∃ w0, w.alloc (.cells #[.int .i64 k, .int .u64 q] 94) = w0 ∧ Stage F w (skParts p f c t bm n W s L Ts ++ [Ob.box w.heap.size #[.int .i64 k, .int .u64 q] 94]) w0 := ⟨_, rfl, hs.alloc _ _⟩
  have hC := hs0.drew.call 1 rfl (fun _ ho => put_cl y x k q ho)
  have b0 := hs0.cell 5 rfl (o := 0) rfl
  have b1 := hs0.cell 5 rfl (o := 1) rfl
  have p0 := hs0.cell 3 rfl (o := 0) rfl
  cases hB : putB W y x
  · have eW : putW W y x k q = W := by simp [putW, hB]
    have eI : skIns W y x k q (s, Ts) = (s, Ts) := by unfold skIns; rw [hB]; rfl
    rw [hB, eW] at hC
    rw [eI, eW]
    clear hs eI eW
    go_enter Tryz.func280, Tryz.ntmps280
    go_wp2_with fail
    go_still_tail 7, (by kernel_rfl)
    change wpList _ _ _ _ _ w0.drew
    go_wp2_with fail
    refine hC.mono ?_
    rintro e w1 ⟨rfl, hs1⟩
    have hs2 : Stage F w (skParts p f c t bm n W s L Ts) w1 := hs1.take 5
    go_wp2_with fail
    go_ret
    exact ⟨rfl, skew_close hs2 hF I J hn⟩
  · obtain ⟨i, rfl, hi1, hi2⟩ : ∃ i : Nat, y = i ∧ 1 ≤ i ∧ i < 65537 := by
      have hB2 := hB
      simp only [putB, Bool.and_eq_true] at hB2
      obtain ⟨i, rfl, h1, h2, _⟩ := has_nat hB2.1
      have := hf.len
      exact ⟨i, rfl, h1, by omega⟩
    obtain ⟨xi, rfl⟩ : ∃ xi : Nat, x = xi := by
      have hB2 := hB
      simp only [putB, Bool.and_eq_true] at hB2
      obtain ⟨j, e, _⟩ := slot_nat hB2.2.1
      exact ⟨j, e⟩
    obtain ⟨H2, hfin⟩ := kinsert_inv (k := k) (q := q) I J hn hB hi1
    have hnW : (putW W i xi k q).cells.length = n := by rw [lput_len]; exact hn
    have eI : skIns W i xi k q (s, Ts) = (stp s (Tr.asked (aheadW (putW W i xi k q)) (Ts i) (.node xi .nil .nil)), updT Ts i (Tr.merge (aheadW (putW W i xi k q)) (Ts i) (.node xi .nil .nil))) := by
      unfold skIns; rw [if_pos hB]; rfl
    rw [hB] at hC
    rw [eI]
    clear hs eI
    generalize hW1 : putW W i xi k q = W1 at *
    clear hW1
    go_enter Tryz.func280, Tryz.ntmps280
    go_wp2_with fail
    go_still_tail 7, (by kernel_rfl)
    change wpList _ _ _ _ _ w0.drew
    go_wp2_with fail
    refine hC.mono ?_
    rintro e w1 ⟨rfl, hs1⟩
    have hs2 : Stage F w (skParts p f c t bm n W1 s L Ts) w1 := hs1.take 5
    clear hs1 hC b0 b1 p0 hw0 hs0
    have hA := add_sk hs2 hi2 rfl H2
    go_wp2_with fail
    refine hA.mono ?_
    rintro e w3 ⟨L', rfl, m1, m2, hs4⟩
    clear hA hs2 H2
    obtain ⟨I3, J3⟩ := hfin m1 m2
    clear m1 m2 hfin
    go_wp2_with fail
    go_ret
    exact ⟨rfl, skew_close hs4 hF I3 J3 hnW⟩
theorem min_sk (y : Int) (hy : inInt y) (h : (Ob.skew p c W s Ts).holds w F) : Calls Tryz.prog 282 #[.pointer (some ⟨p, 0, none⟩), .int .i64 y] w fun e w' => e = .returned (.tuple #[.int .i64 (minI W y), .bool (minB W y)]) ∧ w = w' := by
  obtain ⟨f, t, bm, n, L, I, J, hn, hf, _, hg⟩ := h
  have hs := Ob.group.open hg
  have hL := sk_look hs y hy
  have p2 := sk_p2 hs
  have e : topsT Ts y = if minB W y then some (minI W y) else none := by
    unfold topsT
    by_cases hp : 1 ≤ y
    · obtain ⟨k, rfl⟩ : ∃ k : Nat, y = k := ⟨y.toNat, by omega⟩
      rw [if_pos (by omega), Int.toNat_natCast]
      cases ht : (Ts k).top with
      | none =>
        obtain ⟨q1, q2⟩ := minI_none (min_none_iff.2 ((I.empty (by omega)).1 (top_none ht)))
        rw [q2]; rfl
      | some x =>
        obtain ⟨m, hm1, hm2⟩ := I.min ht
        obtain ⟨q1, q2⟩ := minI_some (min_of hm2)
        rw [q1, q2, hm1]; rfl
    · have hz : lenW W y = 0 := by simp [lenW, show ¬ 0 < y by omega]
      obtain ⟨q1, q2⟩ := minI_none (min_none_iff.2 hz)
      rw [q2]
      by_cases h0 : y = 0
      · subst h0; simp [I.zero, Tr.top]
      · rw [if_neg (by omega)]; rfl
  have e2 : (topsT Ts y).getD 0 = minI W y ∧ (topsT Ts y).isSome = minB W y := by
    rw [e]
    cases hb : minB W y
    · have : minI W y = 0 := by
        cases hm : minW W y with
        | none => exact (minI_none hm).1
        | some m => rw [(minI_some hm).2] at hb; cases hb
      rw [this]; exact ⟨rfl, rfl⟩
    · exact ⟨rfl, rfl⟩
  rw [e2.1, e2.2] at hL
  clear e e2 hs hg I J
  generalize minI W y = a at *
  generalize minB W y = b at *
  go_enter Tryz.func282, Tryz.ntmps282
  go_wp2_with fail
  exact bodyPost_ret (v := .tuple #[.int .i64 a, .bool b]) (by simp [results, Tryz.results282, go_sem]) rfl ⟨rfl, rfl⟩
end
end Go.Proofs.YtkcicnflcilekaaGreat

namespace Go.Proofs.YtkcicnflcilekaaGreat
open Go.RowKit Go.Sort

section
variable {w : World} {p c f t bm n : Nat} {W W' : WS} {s s' : Int} {F F0 : Nat → Prop} {L : List Hg} {Ts : Nat → Tr}
end
end Go.Proofs.YtkcicnflcilekaaGreat
