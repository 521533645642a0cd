/- Merged of PrObj, PrCalls, StageRange, Iter, PrTwos, PrGather, Tops, PrNest, PrNest2. -/
import Derived.Test.YtkcicnflcilekaaGreatPrTie
import Derived.Test.YtkcicnflcilekaaGreatStageAppend
import Derived.Test.YtkcicnflcilekaaGreatShedList3
import Derived.Test.YtkcicnflcilekaaGreatNames
import Derived.BigRegion
import Derived.StillTailTactics
import Derived.RangeFuncNested
import Derived.RangeFuncBound
import Derived.RangeFuncCalls
import Derived.RangeFuncLeaves
import Derived.Shelf.Abstract
import Derived.Shelf.RegionOpen
import Derived.WalkKit
import Derived.OwnWalkIn
import Derived.TacticsInMore
import Derived.LoopNIn
import Derived.LoopIn
import Derived.BigQuiet
import Derived.Deep.QuietTactic
import Derived.Test.YtkcicnflcilekaaGreatLeftistNest
import Derived.Test.YtkcicnflcilekaaGreatPqHeld
namespace Go.Proofs.YtkcicnflcilekaaGreat
open Go.RowKit Go.Sort

def prF (f c : Nat) (v : Value) (n : Nat) (W : WS) (s : Int) (T : Int → Tie) : List Ob :=
  [Ob.box f #[ptrV c, v] 239, Ob.cells c W s, Ob.row 0 237 3 v n (cellsBy tieC (rawT n T))]
theorem setT_at (T : Int → Tie) (x : Int) (t : Tie) : setT T x t x = t := by simp [setT]
theorem setT_ne (T : Int → Tie) {x y : Int} (t : Tie) (h : y ≠ x) : setT T x t y = T y := by simp [setT, h]
section
variable {F0 : Nat → Prop} {W0 w : World} {f c n : Nat} {v : Value} {W : WS} {s : Int} {T : Int → Tie} {q : List Ob}
theorem pf_c0 (h : Stage F0 W0 (prF f c v n W s T ++ q) w) : w.cell? ⟨f, 0, none⟩ = some (ptrV c) := h.cell 0 rfl rfl
theorem pf_c1 (h : Stage F0 W0 (prF f c v n W s T ++ q) w) : w.cell? ⟨f, 1, none⟩ = some v := h.cell 0 rfl rfl
theorem pf_row (h : Stage F0 W0 (prF f c v n W s T ++ q) w) (hn : 0 < n) : ∃ g k, v = .slice (some ⟨g, 0, none⟩) n k ∧ n ≤ k ∧ k ≤ 9223372036854775807 ∧ g ≠ f ∧
    (∀ i, i < n → w.cell? ⟨g, i * 3, none⟩ = some (.int .i64 (T i).kid) ∧ w.cell? ⟨g, i * 3 + 1, none⟩ = some (.int .i64 (T i).older) ∧ w.cell? ⟨g, i * 3 + 2, none⟩ = some (.int .i64 (T i).back)) ∧ ∀ o, w.frozen? ⟨g, o, none⟩ = false := by
  obtain ⟨g, k, hv, h1, h2, _, h4, hc, hf⟩ := owns_at tieC_len .no (h.owns 2 rfl) (rawT_len n T) hn
  have hne := h.rowNe 2 0 rfl rfl (by decide)
  subst hv
  refine ⟨g, k, rfl, h1, by unfold maxLen at h2; omega, fun e => hne (by rw [← e]; rfl), fun i hi => ?_, hf⟩
  have e := rawT_at T hi .no
  exact ⟨hc i 0 _ hi (by omega) (by rw [e]; rfl), hc i 1 _ hi (by omega) (by rw [e]; rfl), hc i 2 _ hi (by omega) (by rw [e]; rfl)⟩
section
variable {g k x : Nat}
theorem pf_kid (h : Stage F0 W0 (prF f c (.slice (some ⟨g, 0, none⟩) n k) n W s T ++ q) w) (hx : x < n) (y : Int) : Stage F0 W0 (prF f c (.slice (some ⟨g, 0, none⟩) n k) n W s (setT T x ⟨y, (T x).older, (T x).back⟩) ++ q) (w.setCell ⟨g, x * 3, none⟩ (.int .i64 y)) :=
  h.storeRow 2 rfl (x * 3) (.int .i64 y) (tie_kid T hx y)
theorem pf_older (h : Stage F0 W0 (prF f c (.slice (some ⟨g, 0, none⟩) n k) n W s T ++ q) w) (hx : x < n) (y : Int) : Stage F0 W0 (prF f c (.slice (some ⟨g, 0, none⟩) n k) n W s (setT T x ⟨(T x).kid, y, (T x).back⟩) ++ q) (w.setCell ⟨g, x * 3 + 1, none⟩ (.int .i64 y)) :=
  h.storeRow 2 rfl (x * 3 + 1) (.int .i64 y) (tie_older T hx y)
theorem pf_back (h : Stage F0 W0 (prF f c (.slice (some ⟨g, 0, none⟩) n k) n W s T ++ q) w) (hx : x < n) (y : Int) : Stage F0 W0 (prF f c (.slice (some ⟨g, 0, none⟩) n k) n W s (setT T x ⟨(T x).kid, (T x).older, y⟩) ++ q) (w.setCell ⟨g, x * 3 + 2, none⟩ (.int .i64 y)) :=
  h.storeRow 2 rfl (x * 3 + 2) (.int .i64 y) (tie_back T hx y)
end
/-- A root is the newest child of another one. -/
theorem hang_pr (h : Stage F0 W0 (prF f c v n W s T ++ q) w) {K : Int → List Int} (I : FbInv n K) (H : Tied n K T) {p x : Nat} (hp : p < n) (hx : x < n) (tx : fbTop K x) (hne : p ≠ x) :
    Calls Tryz.prog 224 #[.pointer (some ⟨f, 0, none⟩), .int .i64 p, .int .i64 x] w fun e w' => e = .returned (.tuple #[]) ∧ ∃ T', Tied n (fbHang K p (x :: K p)) T' ∧ Stage F0 W0 (prF f c v n W s T' ++ q) w' := by
  obtain ⟨g, k, rfl, h1, h2, hgf, hc, hf⟩ := pf_row h (by omega)
  have c1 := pf_c1 h
  obtain ⟨u0, _, _⟩ := hc p hp
  obtain ⟨_, u1, u2⟩ := hc x hx
  have f0 := hf (p * 3)
  have f1 := hf (x * 3 + 1)
  have f2 := hf (x * 3 + 2)
  have e0 := H.kid p ⟨by omega, by omega⟩
  have hxp : (x : Int) ≠ p := by omega
  have hpx : (p : Int) ≠ x := by omega
  rw [e0] at u0
  by_cases hb : K p = []
  · have eo : hdI (K p) = -1 := (hd_none I).2 hb
    rw [eo] at u0
    have h3 := pf_back (pf_older (pf_kid h hp x) hx (-1)) hx p
    have hT := tied_hang (T' := setT (setT (setT T p ⟨x, (T p).older, (T p).back⟩) x ⟨(T x).kid, -1, (T x).back⟩) x ⟨(T x).kid, -1, p⟩) I H tx hpx
      (fun y => by simp only [setT]; (repeat' split) <;> first | rfl | (simp_all; done) | omega) (fun y => by simp only [setT, eo]; (repeat' split) <;> first | rfl | (simp_all; done) | omega) (fun y => by simp only [setT, eo]; (repeat' split) <;> first | rfl | (simp_all; done) | omega)
    rw [setT_at, setT_ne _ _ hxp] at h3
    dsimp only at h3
    clear h hc hf e0 eo hb H I tx
    go_enter Tryz.func224, Tryz.ntmps224
    go_wp2_with fail
    go_region
    go_wp2_with fail
    go_end0
    exact ⟨rfl, _, hT, h3.drew⟩
  · obtain ⟨m1, m2, m3⟩ := hd_in I hb
    obtain ⟨o, ho⟩ : ∃ o : Nat, hdI (K p) = o := ⟨(hdI (K p)).toNat, by have := m3.1; omega⟩
    have hox : (o : Int) ≠ x := fun e => tx p (by rw [← e, ← ho]; exact m1)
    have hop : (o : Int) ≠ p := by rw [← ho]; exact m2
    have hon : o < n := by rw [ho] at m3; have := m3.2; omega
    have ho1 : ((o : Int) == -1) = false := by simp
    rw [ho] at u0
    obtain ⟨_, _, u3⟩ := hc o hon
    have f3 := hf (o * 3 + 2)
    have h3 := pf_back (pf_back (pf_older (pf_kid h hp x) hx o) hx p).drew hon x
    have hT := tied_hang (T' := setT (setT (setT (setT T p ⟨x, (T p).older, (T p).back⟩) x ⟨(T x).kid, o, (T x).back⟩) x ⟨(T x).kid, o, p⟩) o ⟨(T o).kid, (T o).older, x⟩) I H tx hpx
      (fun y => by simp only [setT]; (repeat' split) <;> first | rfl | (simp_all; done) | omega) (fun y => by simp only [setT, ho]; (repeat' split) <;> first | rfl | (simp_all; done) | omega) (fun y => by simp only [setT, ho]; (repeat' split) <;> first | rfl | (simp_all; done) | omega)
    rw [setT_at, setT_ne _ _ hxp, setT_ne _ _ hox, setT_ne _ _ hox, setT_ne _ _ hop] at h3
    dsimp only at h3
    clear h hc hf e0 hb H I tx m1 m2 m3
    replace ho := Lib.hid ho
    go_enter Tryz.func224, Tryz.ntmps224
    go_wp2_with fail
    go_region
    go_wp2_with fail
    go_end0
    exact ⟨rfl, _, hT, h3⟩

end
end Go.Proofs.YtkcicnflcilekaaGreat

namespace Go.Proofs.YtkcicnflcilekaaGreat
open Go.RowKit Go.Sort

section
variable {F0 : Nat → Prop} {W0 w : World} {f c n : Nat} {v : Value} {W : WS} {s : Int} {T : Int → Tie} {q : List Ob} {K : Int → List Int}
theorem pf_fit {q : List Ob} (h : Stage F0 W0 (prF f c v n W s T ++ q) w) : W.Fit ∧ 0 ≤ s ∧ s ≤ 4611686018427387904 := by
  obtain ⟨G, ho⟩ := h.get (i := 1) rfl
  exact ⟨Ob.cells.fit ho, Ob.cells.steps ho⟩
theorem link_pr (h : Stage F0 W0 (prF f c v n W s T ++ q) w) (I : FbInv n K) (H : Tied n K T) {a b : Nat} (ha : a < n) (hb : b < n) (ta : fbTop K a) (tb : fbTop K b) (hne : a ≠ b) :
    Calls Tryz.prog 219 #[.pointer (some ⟨f, 0, none⟩), .int .i64 a, .int .i64 b] w fun e w' => e = .returned (.int .i64 (linkC W a b)) ∧ ∃ T' s', Tied n (linkP W K a b) T' ∧ Stage F0 W0 (prF f c v n W s' T' ++ q) w' := by
  have c0 := pf_c0 h
  have hA : Calls Tryz.prog 174 #[.pointer (some ⟨c, 0, none⟩), .int .i64 b, .int .i64 a] w fun e w' => e = .returned (.bool (aheadW W b a)) ∧ Stage F0 W0 (prF f c v n W (aheadS W s b a) T ++ q) w' := h.call 1 rfl fun _ ho => ahead_cl b a ho
  unfold linkP linkC linkD
  generalize aheadS W s b a = s1 at *
  clear h
  cases hB : aheadW W b a
  all_goals
    rw [hB] at hA
    simp only [Bool.false_eq_true, if_false, if_true]
    go_enter Tryz.func219, Tryz.ntmps219
    go_wp2_with fail
    refine hA.mono ?_
    rintro e w1 ⟨rfl, h1⟩
    clear hA
  · have hH := hang_pr h1 I H ha hb tb hne
    clear I H ta tb h1
    go_wp2_with fail
    refine hH.mono ?_
    rintro e w2 ⟨rfl, T', hT, h2⟩
    go_wp2_with fail
    go_ret
    exact ⟨rfl, T', s1, hT, h2⟩
  · have hH := hang_pr h1 I H hb ha ta (fun e => hne e.symm)
    clear I H ta tb h1
    go_wp2_with fail
    refine hH.mono ?_
    rintro e w2 ⟨rfl, T', hT, h2⟩
    go_wp2_with fail
    go_ret
    exact ⟨rfl, T', s1, hT, h2⟩
end
end Go.Proofs.YtkcicnflcilekaaGreat

namespace Go.Proofs.YtkcicnflcilekaaGreat
open Go.RowKit Go.Sort

namespace Stage
variable {F0 : Nat → Prop} {W w : World} {l : List Ob}
end Stage
end Go.Proofs.YtkcicnflcilekaaGreat

namespace Go.Proofs.YtkcicnflcilekaaGreat
open Go.RowKit Go.Sort

end Go.Proofs.YtkcicnflcilekaaGreat

namespace Go.Proofs.YtkcicnflcilekaaGreat
open Go.RowKit Go.Sort
attribute [local go_sem] Oper.semAt_some

section
variable {F0 : Nat → Prop} {W0 w : World} {f c n : Nat} {v : Value} {W : WS} {s : Int} {T : Int → Tie} {K : Int → List Int} {R : Nat → Option Int} {x : Int} {h : Nat}
end
end Go.Proofs.YtkcicnflcilekaaGreat

namespace Go.Proofs.YtkcicnflcilekaaGreat
open Go.RowKit Go.Sort
attribute [local go_sem] Oper.semAt_some
section
variable {F0 : Nat → Prop} {W0 w : World} {f c n : Nat} {v : Value} {W : WS} {s : Int} {T : Int → Tie} {K : Int → List Int} {R : Nat → Option Int} {h : Nat}
end
end Go.Proofs.YtkcicnflcilekaaGreat

namespace Go.Proofs.YtkcicnflcilekaaGreat
open Go.RowKit Go.Sort

def topO (R : Nat → Option Int) (h : Int) : Option Int := if 0 ≤ h then R h.toNat else none
def cntR (R : Nat → Option Int) : Nat := (List.range 65537).countP fun h => (R h).isSome
def updR (R : Nat → Option Int) (h : Nat) (o : Option Int) : Nat → Option Int := fun g => if g = h then o else R g
theorem topI_nat (R : Nat → Option Int) (h : Nat) : topO R h = R h := by simp [topO]
theorem topI_upd (R : Nat → Option Int) (h : Nat) (o : Option Int) : setZ (topO R) h o = topO (updR R h o) := by
  funext i
  unfold topO setZ updR
  by_cases e : i = h
  · subst e; simp
  · rw [if_neg e]
    by_cases e2 : 0 ≤ i
    · simp [e2, show ¬ i.toNat = h by omega]
    · simp [e2]
theorem cntR_le (R : Nat → Option Int) : cntR R ≤ 65537 := by
  have := List.countP_le_length (p := fun h => (R h).isSome) (l := List.range 65537)
  rwa [List.length_range] at this
theorem cntR_upd (R : Nat → Option Int) {h : Nat} (o : Option Int) : ∀ N, h < N → (List.range N).countP (fun i => (updR R h o i).isSome) + (if (R h).isSome then 1 else 0) = (List.range N).countP (fun i => (R i).isSome) + (if o.isSome then 1 else 0) := by
  have hlow : ∀ N, N ≤ h → (List.range N).countP (fun i => (updR R h o i).isSome) = (List.range N).countP fun i => (R i).isSome := fun N hN => List.countP_congr fun i hi => by
    rw [List.mem_range] at hi
    simp [updR, show i ≠ h by omega]
  intro N
  induction N with
  | zero => intro h; omega
  | succ N ih =>
    intro hN
    rw [List.range_succ, List.countP_append, List.countP_append]
    simp only [List.countP_cons, List.countP_nil, Nat.zero_add]
    by_cases e : h = N
    · subst e
      rw [hlow h (Nat.le_refl _)]
      simp only [updR, if_true]
      omega
    · have := ih (by omega)
      simp only [updR, if_neg (fun x : N = h => e x.symm)] at this ⊢
      omega
theorem cntR_put (R : Nat → Option Int) {h : Nat} (hh : h < 65537) (x : Int) : (if (topO R h).isSome then cntR R else cntR R + 1) = cntR (updR R h (some x)) := by
  have := cntR_upd R (some x) 65537 hh
  rw [topI_nat]
  unfold cntR
  cases h2 : (R h).isSome <;> simp only [h2, Option.isSome_some, Bool.false_eq_true, if_false, if_true] at this ⊢ <;> omega
abbrev Ob.tops (bm : Nat) (R : Nat → Option Int) : Ob := Ob.zmap Tryz.prog 3 3 bm (topO R) (cntR R)
theorem tzero_int (w : World) : (zeroValue 3).run Tryz.prog w = .ok (.int .i64 0) w := by kernel_rfl
namespace Stage
variable {F0 : Nat → Prop} {W w : World} {l : List Ob} {bm : Nat} {R : Nat → Option Int}
theorem topOk (hs : Stage F0 W l w) (i : Nat) (hi : l[i]? = some (Ob.tops bm R)) (y : Int) (hy : inInt y) : (Instr.lookup 185 (.map (some bm)) (.int .i64 y) true).run Tryz.prog w = .ok (.tuple #[.int .i64 ((topO R y).getD 0), .bool (topO R y).isSome]) w :=
  hs.lookOkZ i hi Tryz.underlying185 Tryz.underlying3 Tryz.underlying3 (tzero_int w) y hy
theorem wp_putTop {ops : Array Oper} {rest : List Oper} {o : Oper} {a : Act} {Q : Exit → Act → World → Prop} (hs : Stage F0 W l w) (i : Nat) (hi : l[i]? = some (Ob.tops bm R)) (hg : o.guard = none) (m x v : Operand) (hop : o.op = Op.mapUpdate 185 m x v)
    (hm : a.eval m = .map (some bm)) (h : Nat) (z : Int) (hh : h < 65537) (hz : inInt z) (hx : a.eval x = .int .i64 h) (hv : a.eval v = .int .i64 z)
    (hK : ∀ w', Stage F0 W (l.set i (Ob.tops bm (updR R h (some z)))) w' → wpList Tryz.prog ops Q rest (a.put o.dst undef) w') : wpList Tryz.prog ops Q (o :: rest) a w :=
  hs.wp_putZL (cntR (updR R h (some z))) (topO (updR R h (some z))) i hi hg m x v hop Tryz.underlying185 Tryz.underlying3 Tryz.underlying3 (by have := cntR_le R; unfold maxLen; omega) hm h z hx hv ⟨by omega, by omega⟩ hz (Lib.hid (cntR_put R hh z)) (Lib.hid (topI_upd R h _)) hK
theorem newTops (hs : Stage F0 W l w) {b : Nat} (hb : w.heap.size = b) : Stage F0 W (l ++ [Ob.tops b fun _ => .none]) (w.alloc (.map #[] 0)) := by
  have h3 := hs.newZMap Tryz.prog 3 3 hb
  have e1 : topO (fun _ => .none) = fun _ => .none := by funext h; unfold topO; split <;> rfl
  have e2 : cntR (fun _ => .none) = 0 := by unfold cntR; rw [List.countP_eq_zero]; intro a _; simp
  unfold Ob.tops
  rw [e1, e2]; exact h3
end Stage
end Go.Proofs.YtkcicnflcilekaaGreat

namespace Go.Proofs.YtkcicnflcilekaaGreat
open Go.RowKit Go.Sort

def prN (p f c bm : Nat) (v : Value) (n : Nat) (W : WS) (s : Int) (T : Int → Tie) (R : Nat → Option Int) : List Ob :=
  prF f c v n W s T ++ [Ob.box p #[ptrV c, ptrV f, .map (some bm)] 187, Ob.tops bm R]
/-- A nest of pairing trees at p, whose cells are at c. -/
def Ob.prn (p c : Nat) (W : WS) (s : Int) : Ob where
  holds w F := ∃ f bm v n K T R, PrMid W K R noE ∧ Tied n K T ∧ W.cells.length = n ∧ W.Fit ∧ (0 ≤ s ∧ s ≤ 4611686018427387904) ∧ (Ob.group (prN p f c bm v n W s T R)).holds w F
  keeps := fun ⟨f, bm, v, n, K, T, R, h1, h2, h3, h4, h5, h⟩ k hn => ⟨f, bm, v, n, K, T, R, h1, h2, h3, h4, h5, (Ob.group _).keeps h k hn⟩
  lt := fun ⟨_, _, _, _, _, _, _, _, _, _, _, _, h⟩ => (Ob.group _).lt h
def prnH (p c : Nat) (w : World) : Prop := w.cell? ⟨p, 0, none⟩ = some (ptrV c)
section
variable {F0 : Nat → Prop} {W0 w : World} {p f c bm n : Nat} {v : Value} {W : WS} {s : Int} {T : Int → Tie} {K : Int → List Int} {R : Nat → Option Int}
theorem pn_p0 (h : Stage F0 W0 (prN p f c bm v n W s T R) w) : w.cell? ⟨p, 0, none⟩ = some (ptrV c) := h.cell 3 rfl rfl
theorem pn_p1 (h : Stage F0 W0 (prN p f c bm v n W s T R) w) : w.cell? ⟨p, 1, none⟩ = some (ptrV f) := h.cell 3 rfl rfl
theorem pn_p2 (h : Stage F0 W0 (prN p f c bm v n W s T R) w) : w.cell? ⟨p, 2, none⟩ = some (.map (some bm)) := h.cell 3 rfl rfl
theorem pr_nat {x : Int} (hx : inW W x = true) (hn : W.cells.length = n) : ∃ i : Nat, x = i ∧ i < n := by
  have := prin_slot hx
  rw [hn] at this
  exact ⟨x.toNat, by have := this.1; omega, by obtain ⟨_, _⟩ := this; omega⟩
def AddPostPr (F0 : Nat → Prop) (W0 : World) (p f c bm : Nat) (v : Value) (n : Nat) (W : WS) (K : Int → List Int) (E : Int → Prop) (e : Ending) (w' : World) : Prop :=
  ∃ K' T' R' s', e = .returned (.tuple #[]) ∧ PrMid W K' R' E ∧ (∀ y, E y → K' y = K y) ∧ Tied n K' T' ∧ Stage F0 W0 (prN p f c bm v n W s' T' R') w'
/-- A root comes to its heap's tree. -/
theorem add_pr (hs : Stage F0 W0 (prN p f c bm v n W s T R) w) (H : Tied n K T) (hn : W.cells.length = n) {E : Int → Prop} {h : Nat} {t : Int} (I : PrMid W K R fun y => y = t ∨ E y) (ht : ¬ E t) (hh : (cellW W t).home = h) (hf : W.Fit) :
    Calls Tryz.prog 216 #[.pointer (some ⟨p, 0, none⟩), .int .i64 h, .int .i64 t] w (AddPostPr F0 W0 p f c bm v n W K E) := by
  have htW := (I.pend t (Or.inl rfl)).1
  obtain ⟨ti, rfl, htn⟩ := pr_nat htW hn
  have hhk : h < 65537 := by
    have := in_home.1 htW
    exact ((homes_all W).keyLt hf (List.ne_nil_of_mem (((homes_all W).mem h ti (by omega)).2 hh))).2
  have hcap : n ≤ 65536 := by rw [← hn]; exact hf.cap
  have p1 := pn_p1 hs
  have p2 := pn_p2 hs
  have hl := hs.topOk 4 rfl h ⟨by omega, by omega⟩
  rw [topI_nat] at hl
  unfold AddPostPr
  cases hR : R h with
  | none =>
    have I2 := I.add0 ht hh hR
    rw [hR] at hl
    replace hl : (Instr.lookup 185 (.map (some bm)) (.int .i64 h) true).run Tryz.prog w = .ok (.tuple #[.int .i64 0, .bool false]) w := hl
    clear hR I htW hh ht
    go_enter Tryz.func216, Tryz.ntmps216
    go_wp2_with (at_mapUpdate; refine Stage.wp_putTop hs 4 rfl rfl _ _ _ rfl rfl h ti hhk ⟨by omega, by omega⟩ rfl rfl ?_)
    intro w1 h1
    go_wp2_with fail
    go_end0
    exact ⟨K, T, _, s, rfl, I2, fun _ _ => rfl, H, h1⟩
  | some a =>
    obtain ⟨⟨hne, haW, _, ta, tt⟩, hC, I2, hE⟩ := I.add1 ht hh hR
    obtain ⟨ai, rfl, han⟩ := pr_nat haW hn
    rw [hR] at hl
    replace hl : (Instr.lookup 185 (.map (some bm)) (.int .i64 h) true).run Tryz.prog w = .ok (.tuple #[.int .i64 ai, .bool true]) w := hl
    have hLk := link_pr (q := [_, _]) hs (hn ▸ I.f.fb) H han htn ta tt (by omega)
    have hCi : inInt (linkC W ai ti) := by rcases hC with e | e <;> rw [e] <;> exact ⟨by omega, by omega⟩
    clear hR I htW hh ht haW hC
    generalize linkC W ai ti = z at *
    go_enter Tryz.func216, Tryz.ntmps216
    go_wp2_with fail
    refine hLk.mono ?_
    rintro e w1 ⟨rfl, T', s', H', h1⟩
    clear hLk hl p1 p2 hs
    replace h1 : Stage F0 W0 (prN p f c bm v n W s' T' R) w1 := h1
    have p2 := pn_p2 h1
    go_wp2_with (at_mapUpdate; refine Stage.wp_putTop h1 4 rfl rfl _ _ _ rfl rfl h z hhk hCi rfl rfl ?_)
    intro w2 h2
    go_wp2_with fail
    go_end0
    exact ⟨_, T', _, s', rfl, I2, hE, H', h2⟩
end
section
variable {w : World} {p f c bm n : Nat} {v : Value} {W W' : WS} {s : Int} {F : Nat → Prop} {T : Int → Tie} {K : Int → List Int} {R : Nat → Option Int}
theorem prn_close {w' : World} (hs : Stage F w (prN p f c bm v n W' s T R) w') (hF : ∀ b, F b → b < w.heap.size) (I : PrMid W' K R noE) (H : Tied n K T) (hn : W'.cells.length = n) : ∃ s', ∃ F', (Ob.prn p c W' s').holds w' F' ∧ Moved F F' w w' := by
  obtain ⟨F', h1, m⟩ := hs.close hF
  have h2 := pf_fit (q := [_, _]) hs
  exact ⟨s, F', ⟨f, bm, v, n, K, T, R, I, H, hn, h2.1, h2.2, h1⟩, m⟩
set_option maxRecDepth 100000 in
theorem insert_prn (y x k q : Int) (h : (Ob.prn p c W s).holds w F) : Calls Tryz.prog 212 #[.pointer (some ⟨p, 0, none⟩), .int .i64 y, .int .i64 x, .agg #[.int .i64 k, .int .u64 q]] w fun e w' => e = .returned (.bool (putB W y x)) ∧ ∃ s', ∃ F', (Ob.prn p c (putW W y x k q) s').holds w' F' ∧ Moved F F' w w' := by
  have hF := (Ob.prn p c W s).lt h
  obtain ⟨f, bm, v, n, K, T, R, I, H, hn, hf, _, hg⟩ := h
  have hs := Ob.group.open hg
  clear hg
  obtain ⟨w0, hw0, hs0⟩ : ∃ w0, w.alloc (.cells #[.int .i64 k, .int .u64 q] 94) = w0 ∧ Stage F w (prN p f c bm v n W s T R ++ [Ob.box w.heap.size #[.int .i64 k, .int .u64 q] 94]) w0 := ⟨_, rfl, hs.alloc _ _⟩
  have hC := hs0.drew.call 1 rfl (fun _ ho => put_cl y x k q ho)
  have b0 := hs0.cell 5 rfl (o := 0) rfl
  have b1 := hs0.cell 5 rfl (o := 1) rfl
  have p0 := hs0.cell 3 rfl (o := 0) rfl
  cases hB : putB W y x
  · have eW : putW W y x k q = W := by simp [putW, hB]
    rw [hB, eW] at hC
    rw [eW]
    clear hs eW
    go_enter Tryz.func212, Tryz.ntmps212
    go_wp2_with fail
    go_still_tail 7, (by kernel_rfl)
    change wpList _ _ _ _ _ w0.drew
    go_wp2_with fail
    refine hC.mono ?_
    rintro e w1 ⟨rfl, hs1⟩
    have hs2 : Stage F w (prN p f c bm v n W s T R) w1 := hs1.take 5
    go_wp2_with fail
    go_ret
    exact ⟨rfl, prn_close hs2 hF I H hn⟩
  · obtain ⟨i, rfl, hi1, hi2⟩ : ∃ i : Nat, y = i ∧ 1 ≤ i ∧ i < 65537 := by
      have hB2 := hB
      simp only [putB, Bool.and_eq_true] at hB2
      obtain ⟨i, rfl, h1, h2, _⟩ := has_nat hB2.1
      have := hf.len
      exact ⟨i, rfl, h1, by omega⟩
    obtain ⟨I2, hK, hh⟩ := I.put (k := k) (s := q) hB hi1
    have hnW : (putW W i x k q).cells.length = n := by rw [← hn]; unfold putW; split <;> simp
    rw [hB] at hC
    clear hs I
    generalize hW1 : putW W i x k q = W1 at *
    clear hW1
    go_enter Tryz.func212, Tryz.ntmps212
    go_wp2_with fail
    go_still_tail 7, (by kernel_rfl)
    change wpList _ _ _ _ _ w0.drew
    go_wp2_with fail
    refine hC.mono ?_
    rintro e w1 ⟨rfl, hs1⟩
    have hs2 : Stage F w (prN p f c bm v n W1 s T R) w1 := hs1.take 5
    clear hs1 hC b0 b1 p0 hw0 hs0
    have hA := add_pr hs2 H hnW (E := noE) (I2.same fun y => by simp) (fun e => e) hh (pf_fit (q := [_, _]) hs2).1
    go_wp2_with fail
    refine hA.mono ?_
    rintro e w3 ⟨K', T', R', s', rfl, I3, _, H3, hs4⟩
    clear hA hs2
    go_wp2_with fail
    go_ret
    exact ⟨rfl, prn_close hs4 hF I3 H3 hnW⟩
theorem PrMid.first (I : PrMid W K R noE) (y : Int) : (topO R y).getD 0 = minI W y ∧ (topO R y).isSome = minB W y := by
  by_cases hp : 1 ≤ y
  · obtain ⟨k, rfl⟩ : ∃ k : Nat, y = k := ⟨y.toNat, by omega⟩
    rw [topI_nat]
    cases ht : R k with
    | none =>
      obtain ⟨q1, q2⟩ := minI_none (min_none_iff.2 (I.none (by omega) ht))
      rw [q1, q2]; exact ⟨rfl, rfl⟩
    | some x =>
      obtain ⟨m, hm1, hm2⟩ := I.min ht
      obtain ⟨q1, q2⟩ := minI_some (min_of hm2)
      rw [q1, q2, hm1]; exact ⟨rfl, rfl⟩
  · have hz : lenW W y = 0 := by simp [lenW, show ¬ 0 < y by omega]
    obtain ⟨q1, q2⟩ := minI_none (min_none_iff.2 hz)
    have : topO R y = Option.none := by
      unfold topO
      by_cases h0 : y = 0
      · subst h0; exact I.zero
      · rw [if_neg (by omega)]
    rw [q1, q2, this]; exact ⟨rfl, rfl⟩
theorem min_prn (y : Int) (hy : inInt y) (h : (Ob.prn p c W s).holds w F) : Calls Tryz.prog 214 #[.pointer (some ⟨p, 0, none⟩), .int .i64 y] w fun e w' => e = .returned (.tuple #[.int .i64 (minI W y), .bool (minB W y)]) ∧ w = w' := by
  obtain ⟨f, bm, v, n, K, T, R, I, H, hn, hf, _, hg⟩ := h
  have hs := Ob.group.open hg
  have hL := hs.topOk 4 rfl y hy
  have p2 := pn_p2 hs
  rw [(I.first y).1, (I.first y).2] at hL
  clear hs hg I
  generalize minI W y = a at *
  generalize minB W y = b at *
  go_enter Tryz.func214, Tryz.ntmps214
  go_wp2_with fail
  exact bodyPost_ret (v := .tuple #[.int .i64 a, .bool b]) (by simp [results, Tryz.results214, go_sem]) rfl ⟨rfl, rfl⟩
end
end Go.Proofs.YtkcicnflcilekaaGreat

namespace Go.Proofs.YtkcicnflcilekaaGreat
open Go.RowKit Go.Sort
section
variable {w : World} {p f c bm n : Nat} {v : Value} {W W' : WS} {s : Int} {F : Nat → Prop} {T : Int → Tie} {K : Int → List Int} {R : Nat → Option Int}
end
end Go.Proofs.YtkcicnflcilekaaGreat
