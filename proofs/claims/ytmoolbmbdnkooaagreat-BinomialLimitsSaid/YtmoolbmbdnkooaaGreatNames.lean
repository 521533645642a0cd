/- Merged of CellsMath, Names. -/
import Derived.Test.YtmoolbmbdnkooaaGreatNamesMath
import Derived.Test.YtmoolbmbdnkooaaGreatNestMath
import Derived.Test.YtmoolbmbdnkooaaGreatBox
import Derived.Test.YtmoolbmbdnkooaaGreatChecked
import Derived.WalkLawsBesides
import Derived.WalkSpells
import Derived.IntWalk
import Derived.StillTailTactics
import Derived.Deep.AppendLies
import Derived.BigRegion
namespace Go.Proofs.YtmoolbmbdnkooaaGreat

def absC (N : NS) (c : CellD) : CellD := ⟨N.at c.home, c.key, c.seq⟩
/-- The document's nest that is told. -/
def absW (N : NS) (raw : List CellD) : WS := ⟨(List.range N.roots.length).map (fun i : Nat => hasB N i), raw.map (absC N)⟩
structure RFit (N : NS) (raw : List CellD) : Prop where
  nfit : N.Fit
  most : N.most = 65536
  cap : raw.length ≤ 65536
  home : ∀ c ∈ raw, c.home < N.roots.length ∧ (c.home = 0 → c = .off)
def slotR (raw : List CellD) (x : Int) : Bool := decide (0 ≤ x ∧ x < raw.length)
def rawAt (raw : List CellD) (x : Int) : CellD := if slotR raw x then raw.getD x.toNat .off else .off
section
variable {N : NS} {raw : List CellD}
theorem abs_len : (absW N raw).cells.length = raw.length := by simp [absW]
theorem abs_heaps : (absW N raw).heaps.length = N.roots.length := by simp [absW]
theorem abs_slot (x : Int) : slotW (absW N raw) x = slotR raw x := by simp [slotW, slotR, abs_len]
theorem abs_has (h : Int) : hasW (absW N raw) h = hasB N h := by
  unfold hasW
  rw [abs_heaps]
  by_cases hh : 1 ≤ h ∧ h < N.roots.length
  · obtain ⟨i, rfl⟩ : ∃ i : Nat, h = i := ⟨h.toNat, by omega⟩
    have hi : i < N.roots.length := by omega
    rw [decide_eq_true hh]
    simp [absW, List.getD_eq_getElem?_getD, hi]
  · rw [decide_eq_false hh]
    simp [hasB, madeB, hh]
theorem abs_off (hF : RFit N raw) : absC N .off = .off := by simp [absC, CellD.off, hF.nfit.zero]
theorem raw_mem (i : Nat) (hi : i < raw.length) : raw.getD i .off ∈ raw := by simp [List.getD_eq_getElem?_getD, hi]
theorem abs_getD (i : Nat) (hi : i < raw.length) : (absW N raw).cells.getD i .off = absC N (raw.getD i .off) := getD_mapf (absC N) raw i .off .off hi
theorem abs_cell (hF : RFit N raw) (x : Int) : cellW (absW N raw) x = absC N (rawAt raw x) := by
  unfold cellW rawAt
  rw [abs_slot]
  cases hs : slotR raw x
  · simp [abs_off hF]
  · simp only [slotR, decide_eq_true_eq] at hs
    simp only [if_true]
    exact abs_getD _ (by omega)
theorem raw_home (hF : RFit N raw) (x : Int) : (rawAt raw x).home < N.roots.length ∧ ((rawAt raw x).home = 0 → rawAt raw x = .off) := by
  unfold rawAt
  split
  · rename_i hs
    simp only [slotR, decide_eq_true_eq] at hs
    exact hF.home _ (raw_mem _ (by omega))
  · exact ⟨by have := hF.nfit.pos; simp [CellD.off]; omega, fun _ => rfl⟩
theorem at_zero (hF : RFit N raw) {i : Nat} (hi : i < N.roots.length) : N.at i = 0 ↔ i = 0 := by
  constructor
  · intro h
    by_cases e : i = 0
    · exact e
    · have := hF.nfit.one i (by omega) hi; omega
  · rintro rfl; exact hF.nfit.zero
theorem abs_in (hF : RFit N raw) (x : Int) : inW (absW N raw) x = ((rawAt raw x).home != 0) := by
  unfold inW
  rw [abs_cell hF]
  have h1 := raw_home hF x
  have h2 := at_zero hF h1.1
  simp only [absC]
  by_cases e : (rawAt raw x).home = 0
  · simp [e, hF.nfit.zero]
  · have : N.at (rawAt raw x).home ≠ 0 := fun e2 => e (h2.1 e2)
    rw [bne_iff_ne.2 this, bne_iff_ne.2 e]
theorem abs_home (hF : RFit N raw) (x : Int) : rootI N ((rawAt raw x).home : Int) = (cellW (absW N raw) x).home ∧ madeB N ((rawAt raw x).home : Int) = inW (absW N raw) x := by
  have h1 := raw_home hF x
  rw [abs_in hF, abs_cell hF]
  by_cases e : (rawAt raw x).home = 0
  · have : madeB N 0 = false := by simp [madeB]
    simp [rootI, e, this, absC, hF.nfit.zero]
  · have : madeB N ((rawAt raw x).home : Int) = true := by simp [madeB]; omega
    simp [rootI, this, e, absC]
theorem abs_fit (hF : RFit N raw) : (absW N raw).Fit := by
  refine ⟨by rw [abs_heaps]; exact hF.nfit.pos, by rw [abs_heaps]; exact hF.nfit.lenLe, ?_, by rw [abs_len]; exact hF.cap, fun i hi => ?_, fun i hi h0 => ?_⟩
  · have := hF.nfit.pos
    have e : hasB N ((0 : Nat) : Int) = false := by simp [hasB, madeB]
    show ((List.range N.roots.length).map (fun i : Nat => hasB N i)).getD 0 false = false
    rw [List.getD_eq_getElem?_getD, List.getElem?_map, List.getElem?_range (by omega)]
    simpa using e
  · rw [abs_len] at hi
    rw [abs_getD i hi, abs_has]
    have h1 := hF.home _ (raw_mem i hi)
    by_cases e : (raw.getD i .off).home = 0
    · exact Or.inl (by show N.at (raw.getD i .off).home = 0; rw [e]; exact hF.nfit.zero)
    · refine Or.inr ?_
      exact has_of (hF.nfit.one _ (by omega) h1.1) (hF.nfit.lt _ h1.1) (hF.nfit.idem _ h1.1)
  · rw [abs_len] at hi
    rw [abs_getD i hi] at h0 ⊢
    have h1 := hF.home _ (raw_mem i hi)
    have e := (at_zero hF h1.1).1 h0
    rw [h1.2 e, abs_off hF]

/-! ### what each call turns -/
theorem abs_new {n : Nat} : absW (newN 65536) (List.replicate n .off) = newW n := by
  simp only [absW, newW, newN]
  congr 1
  simp [absC, CellD.off, NS.at]
theorem new_rfit {n : Nat} (h : n ≤ 65536) : RFit (newN 65536) (List.replicate n .off) :=
  ⟨new_fit (Nat.le_refl _), rfl, by simpa using h, fun c hc => by rw [List.eq_of_mem_replicate hc]; exact ⟨by decide, fun _ => rfl⟩⟩
theorem abs_canMake (hF : RFit N raw) : canMakeW (absW N raw) = canMake N := by simp [canMakeW, canMake, abs_heaps, hF.most]
theorem abs_made (hF : RFit N raw) : madeW (absW N raw) = madeI N := by simp only [madeW, madeI, abs_canMake hF, abs_heaps]
theorem make_has (N : NS) (hN : N.Fit) (i : Nat) : hasB (makeN N) i = if i = N.roots.length then true else hasB N i := by
  have hl : (makeN N).roots.length = N.roots.length + 1 := by simp [makeN]
  unfold hasB madeB
  rw [hl, Int.toNat_natCast, make_at]
  have := hN.pos
  by_cases e : i = N.roots.length
  · subst e
    simp
    omega
  · simp only [if_neg e]
    congr 2
    apply propext
    omega
theorem abs_make (hF : RFit N raw) : absW (afterM N) raw = makeW (absW N raw) ∧ RFit (afterM N) raw := by
  unfold afterM makeW
  rw [abs_canMake hF]
  cases hc : canMake N
  · exact ⟨rfl, hF⟩
  · simp only [if_true]
    have hlen : (makeN N).roots.length = N.roots.length + 1 := by simp [makeN]
    refine ⟨?_, make_fit hF.nfit (by simpa [canMake] using hc), hF.most, hF.cap, fun c h => ⟨by have := (hF.home c h).1; omega, (hF.home c h).2⟩⟩
    simp only [absW]
    congr 1
    · rw [hlen, List.range_succ, List.map_append]
      congr 1
      · refine List.map_congr_left fun i hi => ?_
        have := List.mem_range.1 hi
        rw [make_has N hF.nfit, if_neg (by omega)]
      · simp [make_has N hF.nfit]
    · refine List.map_congr_left fun c h => ?_
      have := (hF.home c h).1
      simp only [absC, make_at, if_neg (show c.home ≠ N.roots.length by omega)]
theorem abs_set (c : CellD) (x : Nat) : (⟨(absW N raw).heaps, (absW N raw).cells.set x (absC N c)⟩ : WS) = absW N (raw.set x c) := by simp [absW, List.map_set]
theorem set_rfit (hF : RFit N raw) (c : CellD) (x : Nat) (h : c.home < N.roots.length ∧ (c.home = 0 → c = .off)) : RFit N (raw.set x c) :=
  ⟨hF.nfit, hF.most, by rw [List.length_set]; exact hF.cap, fun d hd => by
    rcases List.mem_or_eq_of_mem_set hd with h1 | rfl
    · exact hF.home d h1
    · exact h⟩
theorem abs_put (hF : RFit N raw) {h x k s : Int} (hp : putB (absW N raw) h x = true) : ∃ i j : Nat, h = i ∧ x = j ∧ 1 ≤ i ∧ i < N.roots.length ∧ j < raw.length ∧ putW (absW N raw) h x k s = absW N (raw.set j ⟨i, k, s⟩) ∧ RFit N (raw.set j ⟨i, k, s⟩) ∧
    ∀ y : Int, (lenW (putW (absW N raw) h x k s) y : Int) = if y = i then (lenW (absW N raw) i : Int) + 1 else lenW (absW N raw) y := by
  have hp' := hp
  simp only [putB, Bool.and_eq_true, Bool.not_eq_true'] at hp
  obtain ⟨h1, h2, h3⟩ := hp
  rw [abs_has] at h1
  obtain ⟨i, rfl, i1, i2, i3⟩ := has_at h1
  obtain ⟨j, rfl, hj⟩ := slot_nat h2
  have hj' := hj
  rw [abs_len] at hj
  have e : absC N ⟨i, k, s⟩ = ⟨i, k, s⟩ := by simp [absC, i3]
  have e2 : putW (absW N raw) i j k s = absW N (raw.set j ⟨i, k, s⟩) := by
    rw [← abs_set, e]
    simp [putW, hp']
  refine ⟨i, j, rfl, rfl, i1, i2, hj, e2, set_rfit hF _ _ ⟨i2, fun e => by simp at e; omega⟩, fun y => ?_⟩
  have ho : ((absW N raw).cells.getD j .off).home = 0 := by simpa [inW, cell_nat _ j hj'] using h3
  have := len_put (W := absW N raw) (h := i) (x := j) (k := k) (s := s) i1 hj' ho y
  simpa [putW, hp'] using this
theorem abs_drop (hF : RFit N raw) {x : Int} (hp : inW (absW N raw) x = true) : ∃ j r : Nat, x = j ∧ j < raw.length ∧ 1 ≤ r ∧ r < N.roots.length ∧ r = (cellW (absW N raw) x).home ∧ dropW (absW N raw) x = absW N (raw.set j .off) ∧ RFit N (raw.set j .off) ∧
    ∀ y : Int, (lenW (dropW (absW N raw) x) y : Int) = if y = r then (lenW (absW N raw) r : Int) - 1 else lenW (absW N raw) y := by
  obtain ⟨j, rfl, hj, ho⟩ := in_nat hp
  have hj' := hj
  rw [abs_len] at hj
  have h1 := hF.home _ (raw_mem j hj)
  have e0 := abs_getD (N := N) (raw := raw) j hj
  have e2 : dropW (absW N raw) j = absW N (raw.set j .off) := by
    rw [← abs_set, abs_off hF]
    simp [dropW, hp]
  refine ⟨j, ((absW N raw).cells.getD j .off).home, rfl, hj, by omega, ?_, by rw [cell_nat _ j hj'], e2, set_rfit hF _ _ ⟨by have := hF.nfit.pos; simp [CellD.off]; omega, fun _ => rfl⟩, fun y => ?_⟩
  · rw [e0]; exact hF.nfit.lt _ h1.1
  · have := len_drop (W := absW N raw) (x := j) hj' ho y
    simpa [dropW, hp] using this
theorem abs_lower (hF : RFit N raw) {x k s : Int} (hp : lowerB (absW N raw) x k s = true) : ∃ j : Nat, x = j ∧ j < raw.length ∧ lowerW (absW N raw) x k s = absW N (raw.set j ⟨(raw.getD j .off).home, k, s⟩) ∧ RFit N (raw.set j ⟨(raw.getD j .off).home, k, s⟩) ∧
    ∀ y : Int, lenW (lowerW (absW N raw) x k s) y = lenW (absW N raw) y := by
  have hp' := hp
  simp only [lowerB, Bool.and_eq_true] at hp
  obtain ⟨j, rfl, hj, ho⟩ := in_nat hp.1
  have hj' := hj
  rw [abs_len] at hj
  have h1 := hF.home _ (raw_mem j hj)
  have e0 := abs_getD (N := N) (raw := raw) j hj
  rw [e0] at ho
  have hz := at_zero hF h1.1
  have e2 : lowerW (absW N raw) j k s = absW N (raw.set j ⟨(raw.getD j .off).home, k, s⟩) := by
    rw [← abs_set]
    simp only [lowerW, hp', if_true, cell_nat _ j hj', e0, absC, Int.toNat_natCast]
  refine ⟨j, rfl, hj, e2, set_rfit hF _ _ ⟨h1.1, fun e => absurd (hz.2 e) ho⟩, fun y => ?_⟩
  have := len_lower (W := absW N raw) (x := j) (k := k) (s := s) hj' y
  simpa [lowerW, hp', cell_nat _ j hj'] using this
theorem abs_joinB (a b : Int) : joinBW (absW N raw) a b = joinB N a b := by
  unfold joinBW joinB
  rw [abs_has, abs_has]
  cases hasB N a <;> cases hasB N b <;> simp
theorem join_has {a b : Nat} (_ha : 1 ≤ a ∧ a < N.roots.length) (ea : N.at a = a) (hab : a ≠ b) (i : Nat) : hasB (joinN N a b) i = if i = b then false else hasB N i := by
  unfold hasB madeB
  rw [join_len, Int.toNat_natCast]
  by_cases hi : 1 ≤ (i : Int) ∧ (i : Int) < N.roots.length
  · rw [decide_eq_true hi, join_at _ _ _ _ (by omega)]
    by_cases e : i = b
    · subst e
      rw [if_pos rfl]
      simp only [Bool.true_and, beq_eq_false_iff_ne, ne_eq]
      split
      · omega
      · rename_i h; omega
    · rw [if_neg e]
      simp only [Bool.true_and]
      by_cases e2 : N.at i = b
      · rw [if_pos e2, e2]
        have h1 : ((b : Int) == i) = false := by simp; omega
        have h2 : ((a : Int) == i) = false := by
          simp only [beq_eq_false_iff_ne, ne_eq]
          intro e3
          have e4 : a = i := by omega
          rw [← e4, ea] at e2
          exact hab e2
        rw [h1, h2]
      · rw [if_neg e2]
  · rw [decide_eq_false hi]
    simp
theorem abs_join (hF : RFit N raw) {a b : Int} (hp : joinB N a b = true) : ∃ i j : Nat, a = i ∧ b = j ∧ i ≠ j ∧ (1 ≤ i ∧ i < N.roots.length) ∧ (1 ≤ j ∧ j < N.roots.length) ∧ joinW (absW N raw) a b = absW (afterJ N a b) raw ∧ RFit (afterJ N a b) raw ∧
    ∀ y : Int, (lenW (joinW (absW N raw) a b) y : Int) = if y = i then (lenW (absW N raw) i : Int) + lenW (absW N raw) j else if y = j then 0 else lenW (absW N raw) y := by
  have hp' := (abs_joinB (raw := raw) a b).trans hp
  obtain ⟨i, j, rfl, rfl, hij, hi, hj, ei, ej⟩ := joinB_at hp
  have hf := join_fit hF.nfit hi hj ei ej hij
  have ea : afterJ N i j = joinN N i j := by simp [afterJ, hp]
  rw [ea]
  refine ⟨i, j, rfl, rfl, hij, hi, hj, ?_, ⟨hf.1, hF.most, hF.cap, fun c h => by rw [join_len]; exact hF.home c h⟩, fun y => ?_⟩
  · unfold joinW
    rw [if_pos hp']
    simp only [Int.toNat_natCast, absW]
    congr 1
    · rw [join_len]
      apply List.ext_getElem
      · simp
      · intro n h1 h2
        rw [List.getElem_set]
        simp only [List.getElem_map, List.getElem_range]
        rw [join_has hi ei hij]
        by_cases e : j = n
        · subst e; simp
        · rw [if_neg e, if_neg (fun e2 => e e2.symm)]
    · rw [List.map_map]
      refine List.map_congr_left fun c h => ?_
      have := (hF.home c h).1
      simp only [Function.comp, absC, join_at _ _ _ _ this]
      split <;> simp_all
  · have := len_join (W := absW N raw) hi.1 hj.1 hij ((absW N raw).heaps.set j false) y
    simpa [joinW, hp'] using this
end
end Go.Proofs.YtmoolbmbdnkooaaGreat

namespace Go.Proofs.YtmoolbmbdnkooaaGreat
open Go.RowKit Go.Sort

def cellsN (l : List Nat) : List Value := l.map fun n : Nat => .int .i64 n
theorem cellsN_length (l : List Nat) : (cellsN l).length = l.length := by simp [cellsN]
theorem cellsN_get (l : List Nat) (i : Nat) (h : i < l.length) : (cellsN l)[i]? = some (.int .i64 (l.getD i 0)) := by
  simp [cellsN, List.getD_eq_getElem?_getD, h]
theorem cellsN_set (l : List Nat) (i n : Nat) : (cellsN l).set i (.int .i64 n) = cellsN (l.set i n) := by
  simp [cellsN, List.map_set]

/-- The names N lie at block p; v is the row, l what it holds. -/
structure NmAt (w : World) (B p : Nat) (v : Value) (l : List Nat) (N : NS) : Prop where
  blk : Blk w p #[.int .i64 N.most, v, .int .i64 N.count] 87
  row : w.ownsRow B 3 1 v l.length (cellsN l)
  base : B ≤ p
  apart : ∀ k, rowF v k → k ≠ p
def nmF (p : Nat) (v : Value) : Nat → Prop := fun k => k = p ∨ rowF v k
theorem NmAt.lt {w : World} {B p : Nat} {v : Value} {l : List Nat} {N : NS} (h : NmAt w B p v l N) : ∀ k, nmF p v k → B ≤ k ∧ k < w.heap.size := by
  rintro k (rfl | hk)
  · exact ⟨h.base, blk_lt h.blk⟩
  · exact h.row.lt k hk
theorem NmAt.keeps {G : Nat → Prop} {w w' : World} {B p : Nat} {v : Value} {l : List Nat} {N : NS} (h : NmAt w B p v l N) (k : Keeps G w w') (hn : ∀ b, nmF p v b → ¬ G b) : NmAt w' B p v l N :=
  ⟨k.blk h.blk (hn p (Or.inl rfl)), owns_keeps h.row k (fun b hb => hn b (Or.inr hb)), h.base, h.apart⟩
theorem NmAt.later {w w' : World} {B p : Nat} {v : Value} {l : List Nat} {N : NS} (h : NmAt w B p v l N) (hb : Below w.heap.size w w') : NmAt w' B p v l N :=
  h.keeps (Keeps.of_below_all hb (fun _ => False)) (fun _ _ x => x)
theorem NmAt.c0 {w : World} {B p : Nat} {v : Value} {l : List Nat} {N : NS} (h : NmAt w B p v l N) : w.cell? ⟨p, 0, none⟩ = some (.int .i64 N.most) := blk_cell h.blk rfl
theorem NmAt.c1 {w : World} {B p : Nat} {v : Value} {l : List Nat} {N : NS} (h : NmAt w B p v l N) : w.cell? ⟨p, 1, none⟩ = some v := blk_cell h.blk rfl
theorem NmAt.c2 {w : World} {B p : Nat} {v : Value} {l : List Nat} {N : NS} (h : NmAt w B p v l N) : w.cell? ⟨p, 2, none⟩ = some (.int .i64 N.count) := blk_cell h.blk rfl
theorem NmAt.free {w : World} {B p : Nat} {v : Value} {l : List Nat} {N : NS} (h : NmAt w B p v l N) (o : Nat) : w.frozen? ⟨p, o, none⟩ = false := blk_free h.blk o
/-- At p lie the names N; their blocks are F, all from B on. -/
def NR (w : World) (B p : Nat) (F : Nat → Prop) (N : NS) : Prop := N.Fit ∧ ∃ v l d, NmAt w B p v l N ∧ Tree l N d ∧ F = nmF p v
theorem NR.lt {w : World} {B p : Nat} {F : Nat → Prop} {N : NS} (h : NR w B p F N) : ∀ k, F k → B ≤ k ∧ k < w.heap.size := by
  obtain ⟨_, v, l, d, h, _, rfl⟩ := h; exact h.lt
theorem NR.fit {w : World} {B p : Nat} {F : Nat → Prop} {N : NS} (h : NR w B p F N) : N.Fit := h.1
theorem NR.keeps {G : Nat → Prop} {w w' : World} {B p : Nat} {F : Nat → Prop} {N : NS} (h : NR w B p F N) (k : Keeps G w w') (hn : ∀ b, F b → ¬ G b) : NR w' B p F N := by
  obtain ⟨hN, v, l, d, h, ht, rfl⟩ := h; exact ⟨hN, v, l, d, h.keeps k hn, ht, rfl⟩
theorem NR.later {w w' : World} {B p : Nat} {F : Nat → Prop} {N : NS} (h : NR w B p F N) (hb : Below w.heap.size w w') : NR w' B p F N := h.keeps (Keeps.of_below_all hb (fun _ => False)) (fun _ _ x => x)
theorem NR.alloc {w : World} {B p : Nat} {F : Nat → Prop} {N : NS} (h : NR w B p F N) (o : Obj) : NR (w.alloc o) B p F N := h.later ((Below.refl _ _).alloc (Nat.le_refl _) o)
def MovedPost (w : World) (B p : Nat) (F : Nat → Prop) (N' : NS) (v : Value) (e : Ending) (w' : World) : Prop :=
  e = .returned v ∧ ∃ F', NR w' B p F' N' ∧ Moved F F' w w'

theorem last_any (p n c : Nat) (a : Option Addr) (hn : 1 ≤ n ∧ n ≤ 65537) (w : World) (h1 : w.cell? ⟨p, 1, none⟩ = some (.slice a n c)) :
    Calls Tryz.prog 30 #[.pointer (some ⟨p, 0, none⟩)] w fun e w' => e = .returned (.int .i64 ((n : Int) - 1)) ∧ w = w' := by
  obtain ⟨hn1, hn2⟩ := hn
  have e1 : IntKind.i64.wrap ((n : Int) - 1) = (n : Int) - 1 := IntWalk.i64_in _ (by omega)
  go_enter Tryz.func30, Tryz.ntmps30
  go_wp2
  go_ret
  exact ⟨rfl, rfl⟩
theorem made_any (p n c : Nat) (a : Option Addr) (s : Int) (hn : 1 ≤ n ∧ n ≤ 65537) (w : World) (h1 : w.cell? ⟨p, 1, none⟩ = some (.slice a n c)) :
    Calls Tryz.prog 66 #[.pointer (some ⟨p, 0, none⟩), .int .i64 s] w fun e w' => e = .returned (.bool (decide (1 ≤ s ∧ s < n))) ∧ w = w' := by
  by_cases hs : 1 ≤ s
  · have hb : decide (1 ≤ s ∧ s < n) = decide (s ≤ (n : Int) - 1) := by
      congr 1; apply propext; omega
    rw [hb]
    clear hb
    go_enter Tryz.func66, Tryz.ntmps66
    go_wp2_with fail
    refine (last_any p n c a hn w h1).mono ?_
    rintro e w1 ⟨rfl, rfl⟩
    go_wp2
    go_ret
    exact ⟨rfl, rfl⟩
  · have hb : decide (1 ≤ s ∧ s < n) = false := by simp [hs]
    rw [hb]
    clear hb
    go_enter Tryz.func66, Tryz.ntmps66
    go_wp2
    go_ret
    exact ⟨rfl, rfl⟩
theorem NmAt.slice {w : World} {B p : Nat} {v : Value} {l : List Nat} {N : NS} (h : NmAt w B p v l N) (ht : l.length = N.roots.length) (hN : N.Fit) :
    ∃ g c, v = .slice (some ⟨g, 0, none⟩) l.length c ∧ l.length ≤ c ∧ c ≤ maxLen ∧ g ≠ p ∧ g < w.heap.size ∧ ∀ i, i < l.length → w.cell? ⟨g, i, none⟩ = some (.int .i64 (l.getD i 0)) := by
  have hp := hN.pos
  obtain ⟨g, c, hv, hc, hm, _, hg, hcell⟩ := owns_slice h.row (by omega)
  refine ⟨g, c, hv, hc, hm, h.apart g (by rw [hv]; rfl), hg, fun i hi => hcell _ _ (cellsN_get l i hi)⟩
theorem made_nm {B p : Nat} {F : Nat → Prop} {N : NS} (s : Int) {w : World} (h : NR w B p F N) :
    Calls Tryz.prog 66 #[.pointer (some ⟨p, 0, none⟩), .int .i64 s] w fun e w' => e = .returned (.bool (madeB N s)) ∧ w = w' := by
  obtain ⟨hN, v, l, d, h, ht, rfl⟩ := h
  obtain ⟨g, c, rfl, _⟩ := h.slice ht.len hN
  have hl := ht.len
  have := hN.pos
  have := hN.lenLe
  refine (made_any p l.length c _ s (by omega) w h.c1).mono ?_
  rintro e w' ⟨rfl, rfl⟩
  exact ⟨by rw [hl]; rfl, rfl⟩
theorem last_nm {B p : Nat} {F : Nat → Prop} {N : NS} {w : World} (h : NR w B p F N) :
    Calls Tryz.prog 30 #[.pointer (some ⟨p, 0, none⟩)] w fun e w' => e = .returned (.int .i64 ((N.roots.length : Int) - 1)) ∧ w = w' := by
  obtain ⟨hN, v, l, d, h, ht, rfl⟩ := h
  obtain ⟨g, c, rfl, _⟩ := h.slice ht.len hN
  have hl := ht.len
  have := hN.pos
  have := hN.lenLe
  rw [← hl]
  exact last_any p l.length c _ (by omega) w h.c1
theorem has_nm {B p : Nat} {F : Nat → Prop} {N : NS} (s : Int) {w : World} (h : NR w B p F N) :
    Calls Tryz.prog 53 #[.pointer (some ⟨p, 0, none⟩), .int .i64 s] w fun e w' => e = .returned (.bool (hasB N s)) ∧ w = w' := by
  have hmd := made_nm s h
  obtain ⟨hN, v, l, d, h, ht, rfl⟩ := h
  obtain ⟨g, c, rfl, hc, hm, hgp, hg, hcell⟩ := h.slice ht.len hN
  have c1 := h.c1
  have hl := ht.len
  cases hmb : madeB N s
  · have HA : hasB N s = false := by simp [hasB, hmb]
    rw [HA]
    rw [hmb] at hmd
    clear HA hmb
    go_enter Tryz.func53, Tryz.ntmps53
    go_wp2_with fail
    refine hmd.mono ?_
    rintro e w1 ⟨rfl, rfl⟩
    go_wp2
    go_ret
    exact ⟨rfl, rfl⟩
  · obtain ⟨i, rfl⟩ : ∃ i : Nat, s = i := ⟨s.toNat, by simp [madeB] at hmb; omega⟩
    have hi : i < l.length := by simp [madeB] at hmb; omega
    have hlen : l.length ≤ 65537 := by have := hN.lenLe; omega
    have ci := hcell i hi
    have ha := tree_at ht hi
    have HA : hasB N i = ((l.getD i 0 : Int) == i) := by
      simp only [hasB, hmb, Bool.true_and, Int.toNat_natCast]
      rw [Bool.eq_iff_iff]
      simp only [beq_iff_eq, Int.natCast_inj]
      exact ha.symm
    rw [HA]
    rw [hmb] at hmd
    unfold maxLen at hm
    clear HA hmb ha hcell
    generalize l.getD i 0 = x at *
    go_enter Tryz.func53, Tryz.ntmps53
    go_wp2_with fail
    refine hmd.mono ?_
    rintro e w1 ⟨rfl, rfl⟩
    clear hmd
    go_wp2
    go_ret
    exact ⟨rfl, rfl⟩
theorem new_none (n : Int) (w : World) (hn : ¬ (0 ≤ n ∧ n ≤ 65536)) :
    Calls Tryz.prog 22 #[.int .i64 n] w fun e w' => e = .returned (.tuple #[.pointer none, .int .i64 31]) ∧ w = w' := by
  go_enter Tryz.func22, Tryz.ntmps22
  go_wp2
  all_goals first
  | (go_ret2; exact ⟨rfl, rfl⟩)
  | (exfalso; apply hn; simp_all; try omega)
end Go.Proofs.YtmoolbmbdnkooaaGreat
