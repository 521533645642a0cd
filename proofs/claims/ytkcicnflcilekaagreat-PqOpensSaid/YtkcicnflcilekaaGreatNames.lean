/- Merged of Meth, NamesMath, CellsMath, Names. -/
import Derived.Test.YtkcicnflcilekaaGreatArenaObj
import Derived.Test.YtkcicnflcilekaaGreatProg
import GoSem.ClaimData
import Derived.Test.YtkcicnflcilekaaGreatArena2
import Derived.Test.YtkcicnflcilekaaGreatAppend
import Derived.Test.YtkcicnflcilekaaGreatChecked
import Derived.WalkLawsBesides
import Derived.WalkSpells
import Derived.IntWalk
import Derived.StillTailTactics
import Derived.Deep.AppendLies
import Derived.BigRegion
namespace Go.Proofs.YtkcicnflcilekaaGreat
open Go.RowKit Go.Sort

/-- A function that a call by a name enters, and the receiver that it is handed. -/
structure Fn where
  id : FuncId
  rv : Value
/-- By the name n the value v of type T is called by f, in each world in which H holds. -/
structure Meth (H : World → Prop) (T : TypeId) (v : Value) (n : String) (f : Fn) : Prop where
  find : ∀ w, H w → (method 470 T v n).run Tryz.prog w = .ok (f.id, f.rv) w
  enter : ∀ args w, (callFunc f.id args).run Tryz.prog w = .ok (.enter f.id args) w
def inInt (y : Int) : Prop := -9223372036854775808 ≤ y ∧ y ≤ 9223372036854775807
abbrev ptrV (p : Nat) : Value := .pointer (some ⟨p, 0, none⟩)
namespace Stage
variable {F0 : Nat → Prop} {W w w' : World} {l : List Ob} {P : Program} {f : FuncId} {args : Array Value} {O : Ob} {v : Value}
/-- A call on one thing, which it turns into one of some things. -/
theorem callEx {α : Type} {Q : α → Prop} {O' : α → Ob} (h : Stage F0 W l w) (i : Nat) (hi : l[i]? = some O) (hc : ∀ F, O.holds w F → Calls P f args w fun e w' => e = .returned v ∧ ∃ a, Q a ∧ ∃ F', (O' a).holds w' F' ∧ Moved F F' w w') :
    Calls P f args w fun e w' => e = .returned v ∧ ∃ a, Q a ∧ Stage F0 W (l.set i (O' a)) w' := by
  obtain ⟨hbl, F, h1, h2, h3⟩ := h
  exact (hc (F i) (h1 i O hi)).mono fun e w' ⟨he, a, hq, F', ho, m⟩ => ⟨he, a, hq, swap hbl h1 h2 h3 (Scene.idx hi) ho m⟩
end Stage
end Go.Proofs.YtkcicnflcilekaaGreat

namespace Go.Proofs.YtkcicnflcilekaaGreat

/-- How many may be made; as which each one counts (place 0 stands for no number); how many count as themselves. -/
structure NS where
  most : Nat
  roots : List Nat
  count : Nat
def NS.at (N : NS) (i : Nat) : Nat := N.roots.getD i 0
def madeB (N : NS) (s : Int) : Bool := decide (1 ≤ s ∧ s < N.roots.length)
def hasB (N : NS) (s : Int) : Bool := madeB N s && ((N.at s.toNat : Int) == s)
def selfs (r : List Nat) : Nat := (List.range r.length).countP fun i => decide (1 ≤ i) && r.getD i 0 == i
structure NS.Fit (N : NS) : Prop where
  most : N.most ≤ 65536
  pos : 1 ≤ N.roots.length
  len : N.roots.length ≤ N.most + 1
  zero : N.at 0 = 0
  lt : ∀ i, i < N.roots.length → N.at i < N.roots.length
  idem : ∀ i, i < N.roots.length → N.at (N.at i) = N.at i
  one : ∀ i, 1 ≤ i → i < N.roots.length → 1 ≤ N.at i
  count : N.count = selfs N.roots

theorem getD_snoc {α : Type} (l : List α) (j : Nat) (x d : α) : (l ++ [x]).getD j d = if j = l.length then x else l.getD j d := by
  simp only [List.getD_eq_getElem?_getD, List.getElem?_append]
  by_cases h : j < l.length
  · simp [h]; omega
  · by_cases h2 : j = l.length
    · subst h2; simp
    · have h3 : l.length < j := by omega
      simp only [h, if_false, h2]
      rw [List.getElem?_eq_none (by simp; omega), List.getElem?_eq_none (by omega)]
theorem getD_mapf {α β : Type} (f : α → β) (l : List α) (j : Nat) (d : α) (e : β) (h : j < l.length) : (l.map f).getD j e = f (l.getD j d) := by
  simp [List.getD_eq_getElem?_getD, h]

theorem selfs_snoc (r : List Nat) (h : 1 ≤ r.length) : selfs (r ++ [r.length]) = selfs r + 1 := by
  unfold selfs
  rw [List.length_append, List.length_singleton, List.range_succ, List.countP_append]
  congr 1
  · refine List.countP_congr fun i hi => ?_
    have hi' : i ≠ r.length := by have := List.mem_range.1 hi; omega
    rw [getD_snoc, if_neg hi']
  · simp [h]
theorem selfs_le (r : List Nat) : selfs r ≤ r.length := by
  have := List.countP_le_length (p := fun i => decide (1 ≤ i) && r.getD i 0 == i) (l := List.range r.length)
  simpa [selfs] using this

def newN (most : Nat) : NS := ⟨most, [0], 0⟩
def makeN (N : NS) : NS := ⟨N.most, N.roots ++ [N.roots.length], N.count + 1⟩
theorem new_fit {m : Nat} (h : m ≤ 65536) : (newN m).Fit := by
  refine ⟨h, by simp [newN], by simp [newN], rfl, fun i hi => ?_, fun i hi => ?_, fun i h1 hi => ?_, rfl⟩
  all_goals
    obtain rfl : i = 0 := by simp [newN] at hi; exact hi
    first
    | exact rfl
    | (exact absurd h1 (by omega))
    | (simp [newN, NS.at])
theorem NS.Fit.countLe {N : NS} (h : N.Fit) : N.count ≤ N.roots.length := by rw [h.count]; exact selfs_le _
theorem NS.Fit.lenLe {N : NS} (h : N.Fit) : N.roots.length ≤ 65537 := by have := h.most; have := h.len; omega
theorem make_at (N : NS) (i : Nat) : (makeN N).at i = if i = N.roots.length then N.roots.length else N.at i := getD_snoc _ _ _ _
theorem make_fit {N : NS} (h : N.Fit) (hl : N.roots.length ≤ N.most) : (makeN N).Fit := by
  have hp := h.pos
  have hln : (makeN N).roots.length = N.roots.length + 1 := by simp [makeN]
  refine ⟨h.most, by omega, by rw [hln]; simp [makeN]; omega, ?_, fun i hi => ?_, fun i hi => ?_, fun i h1 hi => ?_, ?_⟩
  · rw [make_at, if_neg (by omega)]; exact h.zero
  · rw [hln] at hi ⊢
    rw [make_at]
    split
    · omega
    · have := h.lt i (by omega); omega
  · rw [hln] at hi
    rw [make_at N i]
    split
    · rw [make_at, if_pos rfl]
    · have := h.lt i (by omega)
      rw [make_at, if_neg (by omega)]
      exact h.idem i (by omega)
  · rw [hln] at hi
    rw [make_at]
    split
    · omega
    · exact h.one i h1 (by omega)
  · show N.count + 1 = _
    rw [h.count]; exact (selfs_snoc _ hp).symm

theorem has_at {N : NS} {s : Int} (h : hasB N s = true) : ∃ i : Nat, s = i ∧ 1 ≤ i ∧ i < N.roots.length ∧ N.at i = i := by
  simp only [hasB, madeB, Bool.and_eq_true, decide_eq_true_eq, beq_iff_eq] at h
  obtain ⟨⟨h1, h2⟩, h3⟩ := h
  exact ⟨s.toNat, by omega, by omega, by omega, by omega⟩
theorem has_of {N : NS} {i : Nat} (h1 : 1 ≤ i) (h2 : i < N.roots.length) (h3 : N.at i = i) : hasB N i = true := by
  simp only [hasB, madeB, Int.toNat_natCast, Bool.and_eq_true, decide_eq_true_eq, beq_iff_eq]
  exact ⟨⟨by omega, by omega⟩, by rw [h3]⟩

/-- The forest in which roots are found: of each place one on the way to its root. d: how far it is from there at most. -/
structure Tree (l : List Nat) (N : NS) (d : Nat → Nat) : Prop where
  len : l.length = N.roots.length
  lt : ∀ i, i < l.length → l.getD i 0 < l.length
  par : ∀ i, i < l.length → N.at (l.getD i 0) = N.at i
  self : ∀ i, i < l.length → l.getD i 0 = i → N.at i = i
  root : ∀ i, i < l.length → l.getD (N.at i) 0 = N.at i
  dep : ∀ i, i < l.length → l.getD i 0 ≠ i → d (l.getD i 0) < d i
theorem tree_new (m : Nat) : Tree [0] (newN m) (fun _ => 0) := by
  refine ⟨rfl, fun i hi => ?_, fun i hi => ?_, fun i hi _ => ?_, fun i hi => ?_, fun i hi h => ?_⟩
  all_goals
    obtain rfl : i = 0 := by simp at hi; exact hi
    first
    | exact rfl
    | (exact absurd rfl h)
    | (simp)
theorem tree_at {l : List Nat} {N : NS} {d : Nat → Nat} (h : Tree l N d) {i : Nat} (hi : i < l.length) : l.getD i 0 = i ↔ N.at i = i :=
  ⟨fun e => h.self i hi e, fun e => by have := h.root i hi; rw [e] at this; exact this⟩
theorem tree_make {l : List Nat} {N : NS} {d : Nat → Nat} (h : Tree l N d) (hN : N.Fit) : Tree (l ++ [l.length]) (makeN N) d := by
  have hl := h.len
  have hln : (l ++ [l.length]).length = l.length + 1 := by simp
  refine ⟨by rw [hln]; simp [makeN, hl], fun i hi => ?_, fun i hi => ?_, fun i hi e => ?_, fun i hi => ?_, fun i hi e => ?_⟩ <;> rw [hln] at hi
  · rw [hln, getD_snoc]
    split
    · omega
    · have := h.lt i (by omega); omega
  · rw [getD_snoc]
    split
    · rename_i e; rw [e]
    · rename_i e
      have := h.lt i (by omega)
      rw [make_at, make_at, if_neg (by omega), if_neg (by omega)]
      exact h.par i (by omega)
  · rw [getD_snoc] at e
    rw [make_at]
    split
    · rename_i e2; exact e2.symm
    · rename_i e2
      rw [if_neg (by omega)] at e
      exact h.self i (by omega) e
  · rw [make_at]
    split
    · rw [getD_snoc, if_pos hl.symm, hl]
    · rename_i e2
      have := hN.lt i (by omega)
      rw [getD_snoc, if_neg (by omega)]
      exact h.root i (by omega)
  · rw [getD_snoc] at e ⊢
    split at e
    · rename_i e2; exact absurd e2.symm e
    · rename_i e2
      rw [if_neg e2]
      exact h.dep i (by omega) e

/-- What Make, Join and Root answer, and what then is. -/
def canMake (N : NS) : Bool := decide (N.roots.length ≤ N.most)
def madeI (N : NS) : Int := if canMake N then N.roots.length else 0
def afterM (N : NS) : NS := if canMake N then makeN N else N
end Go.Proofs.YtkcicnflcilekaaGreat

namespace Go.Proofs.YtkcicnflcilekaaGreat

def absC (N : NS) (c : CellD) : CellD := ⟨N.at c.home, c.key, c.seq⟩
/-- The document's nest that is told. -/
def absW (N : NS) (raw : List CellD) : WS := ⟨(List.range N.roots.length).map (fun i : Nat => hasB N i), raw.map (absC N)⟩
structure RFit (N : NS) (raw : List CellD) : Prop where
  nfit : N.Fit
  most : N.most = 65536
  cap : raw.length ≤ 65536
  home : ∀ c ∈ raw, c.home < N.roots.length ∧ (c.home = 0 → c = .off)
def slotR (raw : List CellD) (x : Int) : Bool := decide (0 ≤ x ∧ x < raw.length)
def rawAt (raw : List CellD) (x : Int) : CellD := if slotR raw x then raw.getD x.toNat .off else .off
section
variable {N : NS} {raw : List CellD}
theorem abs_len : (absW N raw).cells.length = raw.length := by simp [absW]
theorem abs_heaps : (absW N raw).heaps.length = N.roots.length := by simp [absW]
theorem abs_slot (x : Int) : slotW (absW N raw) x = slotR raw x := by simp [slotW, slotR, abs_len]
theorem abs_has (h : Int) : hasW (absW N raw) h = hasB N h := by
  unfold hasW
  rw [abs_heaps]
  by_cases hh : 1 ≤ h ∧ h < N.roots.length
  · obtain ⟨i, rfl⟩ : ∃ i : Nat, h = i := ⟨h.toNat, by omega⟩
    have hi : i < N.roots.length := by omega
    rw [decide_eq_true hh]
    simp [absW, List.getD_eq_getElem?_getD, hi]
  · rw [decide_eq_false hh]
    simp [hasB, madeB, hh]
theorem abs_off (hF : RFit N raw) : absC N .off = .off := by simp [absC, CellD.off, hF.nfit.zero]
theorem raw_mem (i : Nat) (hi : i < raw.length) : raw.getD i .off ∈ raw := by simp [List.getD_eq_getElem?_getD, hi]
theorem abs_getD (i : Nat) (hi : i < raw.length) : (absW N raw).cells.getD i .off = absC N (raw.getD i .off) := getD_mapf (absC N) raw i .off .off hi
theorem abs_cell (hF : RFit N raw) (x : Int) : cellW (absW N raw) x = absC N (rawAt raw x) := by
  unfold cellW rawAt
  rw [abs_slot]
  cases hs : slotR raw x
  · simp [abs_off hF]
  · simp only [slotR, decide_eq_true_eq] at hs
    simp only [if_true]
    exact abs_getD _ (by omega)
theorem raw_home (hF : RFit N raw) (x : Int) : (rawAt raw x).home < N.roots.length ∧ ((rawAt raw x).home = 0 → rawAt raw x = .off) := by
  unfold rawAt
  split
  · rename_i hs
    simp only [slotR, decide_eq_true_eq] at hs
    exact hF.home _ (raw_mem _ (by omega))
  · exact ⟨by have := hF.nfit.pos; simp [CellD.off]; omega, fun _ => rfl⟩
theorem at_zero (hF : RFit N raw) {i : Nat} (hi : i < N.roots.length) : N.at i = 0 ↔ i = 0 := by
  constructor
  · intro h
    by_cases e : i = 0
    · exact e
    · have := hF.nfit.one i (by omega) hi; omega
  · rintro rfl; exact hF.nfit.zero
theorem abs_in (hF : RFit N raw) (x : Int) : inW (absW N raw) x = ((rawAt raw x).home != 0) := by
  unfold inW
  rw [abs_cell hF]
  have h1 := raw_home hF x
  have h2 := at_zero hF h1.1
  simp only [absC]
  by_cases e : (rawAt raw x).home = 0
  · simp [e, hF.nfit.zero]
  · have : N.at (rawAt raw x).home ≠ 0 := fun e2 => e (h2.1 e2)
    rw [bne_iff_ne.2 this, bne_iff_ne.2 e]
theorem abs_fit (hF : RFit N raw) : (absW N raw).Fit := by
  refine ⟨by rw [abs_heaps]; exact hF.nfit.pos, by rw [abs_heaps]; exact hF.nfit.lenLe, ?_, by rw [abs_len]; exact hF.cap, fun i hi => ?_, fun i hi h0 => ?_⟩
  · have := hF.nfit.pos
    have e : hasB N ((0 : Nat) : Int) = false := by simp [hasB, madeB]
    show ((List.range N.roots.length).map (fun i : Nat => hasB N i)).getD 0 false = false
    rw [List.getD_eq_getElem?_getD, List.getElem?_map, List.getElem?_range (by omega)]
    simpa using e
  · rw [abs_len] at hi
    rw [abs_getD i hi, abs_has]
    have h1 := hF.home _ (raw_mem i hi)
    by_cases e : (raw.getD i .off).home = 0
    · exact Or.inl (by show N.at (raw.getD i .off).home = 0; rw [e]; exact hF.nfit.zero)
    · refine Or.inr ?_
      exact has_of (hF.nfit.one _ (by omega) h1.1) (hF.nfit.lt _ h1.1) (hF.nfit.idem _ h1.1)
  · rw [abs_len] at hi
    rw [abs_getD i hi] at h0 ⊢
    have h1 := hF.home _ (raw_mem i hi)
    have e := (at_zero hF h1.1).1 h0
    rw [h1.2 e, abs_off hF]

/-! ### what each call turns -/
theorem abs_new {n : Nat} : absW (newN 65536) (List.replicate n .off) = newW n := by
  simp only [absW, newW, newN]
  congr 1
  simp [absC, CellD.off, NS.at]
theorem new_rfit {n : Nat} (h : n ≤ 65536) : RFit (newN 65536) (List.replicate n .off) :=
  ⟨new_fit (Nat.le_refl _), rfl, by simpa using h, fun c hc => by rw [List.eq_of_mem_replicate hc]; exact ⟨by decide, fun _ => rfl⟩⟩
theorem abs_canMake (hF : RFit N raw) : canMakeW (absW N raw) = canMake N := by simp [canMakeW, canMake, abs_heaps, hF.most]
theorem abs_made (hF : RFit N raw) : madeW (absW N raw) = madeI N := by simp only [madeW, madeI, abs_canMake hF, abs_heaps]
theorem make_has (N : NS) (hN : N.Fit) (i : Nat) : hasB (makeN N) i = if i = N.roots.length then true else hasB N i := by
  have hl : (makeN N).roots.length = N.roots.length + 1 := by simp [makeN]
  unfold hasB madeB
  rw [hl, Int.toNat_natCast, make_at]
  have := hN.pos
  by_cases e : i = N.roots.length
  · subst e
    simp
    omega
  · simp only [if_neg e]
    congr 2
    apply propext
    omega
theorem abs_make (hF : RFit N raw) : absW (afterM N) raw = makeW (absW N raw) ∧ RFit (afterM N) raw := by
  unfold afterM makeW
  rw [abs_canMake hF]
  cases hc : canMake N
  · exact ⟨rfl, hF⟩
  · simp only [if_true]
    have hlen : (makeN N).roots.length = N.roots.length + 1 := by simp [makeN]
    refine ⟨?_, make_fit hF.nfit (by simpa [canMake] using hc), hF.most, hF.cap, fun c h => ⟨by have := (hF.home c h).1; omega, (hF.home c h).2⟩⟩
    simp only [absW]
    congr 1
    · rw [hlen, List.range_succ, List.map_append]
      congr 1
      · refine List.map_congr_left fun i hi => ?_
        have := List.mem_range.1 hi
        rw [make_has N hF.nfit, if_neg (by omega)]
      · simp [make_has N hF.nfit]
    · refine List.map_congr_left fun c h => ?_
      have := (hF.home c h).1
      simp only [absC, make_at, if_neg (show c.home ≠ N.roots.length by omega)]
theorem abs_set (c : CellD) (x : Nat) : (⟨(absW N raw).heaps, (absW N raw).cells.set x (absC N c)⟩ : WS) = absW N (raw.set x c) := by simp [absW, List.map_set]
theorem set_rfit (hF : RFit N raw) (c : CellD) (x : Nat) (h : c.home < N.roots.length ∧ (c.home = 0 → c = .off)) : RFit N (raw.set x c) :=
  ⟨hF.nfit, hF.most, by rw [List.length_set]; exact hF.cap, fun d hd => by
    rcases List.mem_or_eq_of_mem_set hd with h1 | rfl
    · exact hF.home d h1
    · exact h⟩
theorem abs_put (hF : RFit N raw) {h x k s : Int} (hp : putB (absW N raw) h x = true) : ∃ i j : Nat, h = i ∧ x = j ∧ 1 ≤ i ∧ i < N.roots.length ∧ j < raw.length ∧ putW (absW N raw) h x k s = absW N (raw.set j ⟨i, k, s⟩) ∧ RFit N (raw.set j ⟨i, k, s⟩) ∧
    ∀ y : Int, (lenW (putW (absW N raw) h x k s) y : Int) = if y = i then (lenW (absW N raw) i : Int) + 1 else lenW (absW N raw) y := by
  have hp' := hp
  simp only [putB, Bool.and_eq_true, Bool.not_eq_true'] at hp
  obtain ⟨h1, h2, h3⟩ := hp
  rw [abs_has] at h1
  obtain ⟨i, rfl, i1, i2, i3⟩ := has_at h1
  obtain ⟨j, rfl, hj⟩ := slot_nat h2
  have hj' := hj
  rw [abs_len] at hj
  have e : absC N ⟨i, k, s⟩ = ⟨i, k, s⟩ := by simp [absC, i3]
  have e2 : putW (absW N raw) i j k s = absW N (raw.set j ⟨i, k, s⟩) := by
    rw [← abs_set, e]
    simp [putW, hp']
  refine ⟨i, j, rfl, rfl, i1, i2, hj, e2, set_rfit hF _ _ ⟨i2, fun e => by simp at e; omega⟩, fun y => ?_⟩
  have ho : ((absW N raw).cells.getD j .off).home = 0 := by simpa [inW, cell_nat _ j hj'] using h3
  have := len_put (W := absW N raw) (h := i) (x := j) (k := k) (s := s) i1 hj' ho y
  simpa [putW, hp'] using this
end
end Go.Proofs.YtkcicnflcilekaaGreat

namespace Go.Proofs.YtkcicnflcilekaaGreat
open Go.RowKit Go.Sort

def cellsN (l : List Nat) : List Value := l.map fun n : Nat => .int .i64 n
theorem cellsN_get (l : List Nat) (i : Nat) (h : i < l.length) : (cellsN l)[i]? = some (.int .i64 (l.getD i 0)) := by
  simp [cellsN, List.getD_eq_getElem?_getD, h]

/-- The names N lie at block p; v is the row, l what it holds. -/
structure NmAt (w : World) (B p : Nat) (v : Value) (l : List Nat) (N : NS) : Prop where
  blk : Blk w p #[.int .i64 N.most, v, .int .i64 N.count] 257
  row : w.ownsRow B 3 1 v l.length (cellsN l)
  base : B ≤ p
  apart : ∀ k, rowF v k → k ≠ p
def nmF (p : Nat) (v : Value) : Nat → Prop := fun k => k = p ∨ rowF v k
theorem NmAt.lt {w : World} {B p : Nat} {v : Value} {l : List Nat} {N : NS} (h : NmAt w B p v l N) : ∀ k, nmF p v k → B ≤ k ∧ k < w.heap.size := by
  rintro k (rfl | hk)
  · exact ⟨h.base, blk_lt h.blk⟩
  · exact h.row.lt k hk
theorem NmAt.keeps {G : Nat → Prop} {w w' : World} {B p : Nat} {v : Value} {l : List Nat} {N : NS} (h : NmAt w B p v l N) (k : Keeps G w w') (hn : ∀ b, nmF p v b → ¬ G b) : NmAt w' B p v l N :=
  ⟨k.blk h.blk (hn p (Or.inl rfl)), owns_keeps h.row k (fun b hb => hn b (Or.inr hb)), h.base, h.apart⟩
theorem NmAt.later {w w' : World} {B p : Nat} {v : Value} {l : List Nat} {N : NS} (h : NmAt w B p v l N) (hb : Below w.heap.size w w') : NmAt w' B p v l N :=
  h.keeps (Keeps.of_below_all hb (fun _ => False)) (fun _ _ x => x)
theorem NmAt.c0 {w : World} {B p : Nat} {v : Value} {l : List Nat} {N : NS} (h : NmAt w B p v l N) : w.cell? ⟨p, 0, none⟩ = some (.int .i64 N.most) := blk_cell h.blk rfl
theorem NmAt.c1 {w : World} {B p : Nat} {v : Value} {l : List Nat} {N : NS} (h : NmAt w B p v l N) : w.cell? ⟨p, 1, none⟩ = some v := blk_cell h.blk rfl
theorem NmAt.c2 {w : World} {B p : Nat} {v : Value} {l : List Nat} {N : NS} (h : NmAt w B p v l N) : w.cell? ⟨p, 2, none⟩ = some (.int .i64 N.count) := blk_cell h.blk rfl
theorem NmAt.free {w : World} {B p : Nat} {v : Value} {l : List Nat} {N : NS} (h : NmAt w B p v l N) (o : Nat) : w.frozen? ⟨p, o, none⟩ = false := blk_free h.blk o
/-- At p lie the names N; their blocks are F, all from B on. -/
def NR (w : World) (B p : Nat) (F : Nat → Prop) (N : NS) : Prop := N.Fit ∧ ∃ v l d, NmAt w B p v l N ∧ Tree l N d ∧ F = nmF p v
theorem NR.lt {w : World} {B p : Nat} {F : Nat → Prop} {N : NS} (h : NR w B p F N) : ∀ k, F k → B ≤ k ∧ k < w.heap.size := by
  obtain ⟨_, v, l, d, h, _, rfl⟩ := h; exact h.lt
theorem NR.keeps {G : Nat → Prop} {w w' : World} {B p : Nat} {F : Nat → Prop} {N : NS} (h : NR w B p F N) (k : Keeps G w w') (hn : ∀ b, F b → ¬ G b) : NR w' B p F N := by
  obtain ⟨hN, v, l, d, h, ht, rfl⟩ := h; exact ⟨hN, v, l, d, h.keeps k hn, ht, rfl⟩
theorem NR.later {w w' : World} {B p : Nat} {F : Nat → Prop} {N : NS} (h : NR w B p F N) (hb : Below w.heap.size w w') : NR w' B p F N := h.keeps (Keeps.of_below_all hb (fun _ => False)) (fun _ _ x => x)
def MovedPost (w : World) (B p : Nat) (F : Nat → Prop) (N' : NS) (v : Value) (e : Ending) (w' : World) : Prop :=
  e = .returned v ∧ ∃ F', NR w' B p F' N' ∧ Moved F F' w w'

theorem last_any (p n c : Nat) (a : Option Addr) (hn : 1 ≤ n ∧ n ≤ 65537) (w : World) (h1 : w.cell? ⟨p, 1, none⟩ = some (.slice a n c)) :
    Calls Tryz.prog 167 #[.pointer (some ⟨p, 0, none⟩)] w fun e w' => e = .returned (.int .i64 ((n : Int) - 1)) ∧ w = w' := by
  obtain ⟨hn1, hn2⟩ := hn
  have e1 : IntKind.i64.wrap ((n : Int) - 1) = (n : Int) - 1 := IntWalk.i64_in _ (by omega)
  go_enter Tryz.func167, Tryz.ntmps167
  go_wp2
  go_ret
  exact ⟨rfl, rfl⟩
theorem made_any (p n c : Nat) (a : Option Addr) (s : Int) (hn : 1 ≤ n ∧ n ≤ 65537) (w : World) (h1 : w.cell? ⟨p, 1, none⟩ = some (.slice a n c)) :
    Calls Tryz.prog 166 #[.pointer (some ⟨p, 0, none⟩), .int .i64 s] w fun e w' => e = .returned (.bool (decide (1 ≤ s ∧ s < n))) ∧ w = w' := by
  by_cases hs : 1 ≤ s
  · have hb : decide (1 ≤ s ∧ s < n) = decide (s ≤ (n : Int) - 1) := by
      congr 1; apply propext; omega
    rw [hb]
    clear hb
    go_enter Tryz.func166, Tryz.ntmps166
    go_wp2_with fail
    refine (last_any p n c a hn w h1).mono ?_
    rintro e w1 ⟨rfl, rfl⟩
    go_wp2
    go_ret
    exact ⟨rfl, rfl⟩
  · have hb : decide (1 ≤ s ∧ s < n) = false := by simp [hs]
    rw [hb]
    clear hb
    go_enter Tryz.func166, Tryz.ntmps166
    go_wp2
    go_ret
    exact ⟨rfl, rfl⟩
theorem NmAt.slice {w : World} {B p : Nat} {v : Value} {l : List Nat} {N : NS} (h : NmAt w B p v l N) (ht : l.length = N.roots.length) (hN : N.Fit) :
    ∃ g c, v = .slice (some ⟨g, 0, none⟩) l.length c ∧ l.length ≤ c ∧ c ≤ maxLen ∧ g ≠ p ∧ g < w.heap.size ∧ ∀ i, i < l.length → w.cell? ⟨g, i, none⟩ = some (.int .i64 (l.getD i 0)) := by
  have hp := hN.pos
  obtain ⟨g, c, hv, hc, hm, _, hg, hcell⟩ := owns_slice h.row (by omega)
  refine ⟨g, c, hv, hc, hm, h.apart g (by rw [hv]; rfl), hg, fun i hi => hcell _ _ (cellsN_get l i hi)⟩
theorem made_nm {B p : Nat} {F : Nat → Prop} {N : NS} (s : Int) {w : World} (h : NR w B p F N) :
    Calls Tryz.prog 166 #[.pointer (some ⟨p, 0, none⟩), .int .i64 s] w fun e w' => e = .returned (.bool (madeB N s)) ∧ w = w' := by
  obtain ⟨hN, v, l, d, h, ht, rfl⟩ := h
  obtain ⟨g, c, rfl, _⟩ := h.slice ht.len hN
  have hl := ht.len
  have := hN.pos
  have := hN.lenLe
  refine (made_any p l.length c _ s (by omega) w h.c1).mono ?_
  rintro e w' ⟨rfl, rfl⟩
  exact ⟨by rw [hl]; rfl, rfl⟩
theorem last_nm {B p : Nat} {F : Nat → Prop} {N : NS} {w : World} (h : NR w B p F N) :
    Calls Tryz.prog 167 #[.pointer (some ⟨p, 0, none⟩)] w fun e w' => e = .returned (.int .i64 ((N.roots.length : Int) - 1)) ∧ w = w' := by
  obtain ⟨hN, v, l, d, h, ht, rfl⟩ := h
  obtain ⟨g, c, rfl, _⟩ := h.slice ht.len hN
  have hl := ht.len
  have := hN.pos
  have := hN.lenLe
  rw [← hl]
  exact last_any p l.length c _ (by omega) w h.c1
theorem has_nm {B p : Nat} {F : Nat → Prop} {N : NS} (s : Int) {w : World} (h : NR w B p F N) :
    Calls Tryz.prog 151 #[.pointer (some ⟨p, 0, none⟩), .int .i64 s] w fun e w' => e = .returned (.bool (hasB N s)) ∧ w = w' := by
  have hmd := made_nm s h
  obtain ⟨hN, v, l, d, h, ht, rfl⟩ := h
  obtain ⟨g, c, rfl, hc, hm, hgp, hg, hcell⟩ := h.slice ht.len hN
  have c1 := h.c1
  have hl := ht.len
  cases hmb : madeB N s
  · have HA : hasB N s = false := by simp [hasB, hmb]
    rw [HA]
    rw [hmb] at hmd
    clear HA hmb
    go_enter Tryz.func151, Tryz.ntmps151
    go_wp2_with fail
    refine hmd.mono ?_
    rintro e w1 ⟨rfl, rfl⟩
    go_wp2
    go_ret
    exact ⟨rfl, rfl⟩
  · obtain ⟨i, rfl⟩ : ∃ i : Nat, s = i := ⟨s.toNat, by simp [madeB] at hmb; omega⟩
    have hi : i < l.length := by simp [madeB] at hmb; omega
    have hlen : l.length ≤ 65537 := by have := hN.lenLe; omega
    have ci := hcell i hi
    have ha := tree_at ht hi
    have HA : hasB N i = ((l.getD i 0 : Int) == i) := by
      simp only [hasB, hmb, Bool.true_and, Int.toNat_natCast]
      rw [Bool.eq_iff_iff]
      simp only [beq_iff_eq, Int.natCast_inj]
      exact ha.symm
    rw [HA]
    rw [hmb] at hmd
    unfold maxLen at hm
    clear HA hmb ha hcell
    generalize l.getD i 0 = x at *
    go_enter Tryz.func151, Tryz.ntmps151
    go_wp2_with fail
    refine hmd.mono ?_
    rintro e w1 ⟨rfl, rfl⟩
    clear hmd
    go_wp2
    go_ret
    exact ⟨rfl, rfl⟩
end Go.Proofs.YtkcicnflcilekaaGreat
