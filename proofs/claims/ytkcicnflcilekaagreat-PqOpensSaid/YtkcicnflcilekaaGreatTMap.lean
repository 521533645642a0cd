/- Merged of FiFreeMath, FiDelete, FiGathMath, FiCalls, FiJoin, FiPlace, FiRemMath, FiNestMath, FiGather, FiFree, FiRaise, FiSplit, FiRemove, TMap. -/
import Derived.Test.YtkcicnflcilekaaGreatFiObj
import Derived.Test.YtkcicnflcilekaaGreatShedList3
import Derived.Test.YtkcicnflcilekaaGreatStageAppend
import Derived.Test.YtkcicnflcilekaaGreatNames
import Derived.Lib.SliceRun
import Derived.Test.YtkcicnflcilekaaGreatVMap
namespace Go.Proofs.YtkcicnflcilekaaGreat

theorem sub_len : ∀ {m l : List Int}, m.Nodup → (∀ y ∈ m, y ∈ l) → m.length ≤ l.length := fun {m} => by
  induction m with
  | nil => intro l _ _; simp
  | cons a m ih =>
    intro l hd hs
    obtain ⟨h1, h2⟩ := List.nodup_cons.1 hd
    have ha := hs a (by simp)
    have := ih (l := l.erase a) h2 fun y hy => (List.mem_erase_of_ne (show y ≠ a from fun e => h1 (by rw [← e]; exact hy))).2 (hs y (by simp [hy]))
    rw [List.length_erase_of_mem ha] at this
    have := List.length_pos_of_mem ha
    simp only [List.length_cons]
    omega
def looseP (W : WS) (K : Int → List Int) (mk : Int → Bool) (y : Int) : Prop := inW W y = true ∧ (fbTop K y ∨ mk y = true)
noncomputable def potL (W : WS) (K : Int → List Int) (mk : Int → Bool) : List Int := ((List.range W.cells.length).map fun i : Nat => (i : Int)).filter fun y => @decide (looseP W K mk y) (Classical.propDecidable _)
noncomputable def potN (W : WS) (K : Int → List Int) (mk : Int → Bool) : Nat := (potL W K mk).length
theorem potL_nd (W : WS) (K : Int → List Int) (mk : Int → Bool) : (potL W K mk).Nodup := (ints_nodup _).filter _
theorem mem_potL {W : WS} {K : Int → List Int} {mk : Int → Bool} {y : Int} : y ∈ potL W K mk ↔ looseP W K mk y := by
  unfold potL
  rw [List.mem_filter, mem_ints]
  constructor
  · intro h; exact (@decide_eq_true_iff _ (Classical.propDecidable _)).1 h.2
  · intro h; exact ⟨prin_slot h.1, (@decide_eq_true_iff _ (Classical.propDecidable _)).2 h⟩
/-- Who becomes loose costs one, who is loose no more pays one. -/
theorem pot_step {W W' : WS} {K K' : Int → List Int} {mk mk' : Int → Bool} (c d : List Int) (hd : d.Nodup) (h1 : ∀ y, looseP W' K' mk' y → looseP W K mk y ∨ y ∈ c) (h2 : ∀ y ∈ d, looseP W K mk y ∧ ¬ looseP W' K' mk' y) : potN W' K' mk' + d.length ≤ potN W K mk + c.length := by
  have := sub_len (m := d ++ potL W' K' mk') (l := potL W K mk ++ c) (by
    rw [List.nodup_append]
    refine ⟨hd, potL_nd _ _ _, fun a ha b hb e => ?_⟩
    subst e
    exact (h2 a ha).2 (mem_potL.1 hb)) (fun y hy => by
    rw [List.mem_append, mem_potL]
    rcases List.mem_append.1 hy with h | h
    · exact Or.inl (h2 y h).1
    · exact h1 y (mem_potL.1 h))
  rw [List.length_append, List.length_append] at this
  unfold potN
  omega
abbrev lostOf (T : Int → Node) : Int → Bool := fun y => (T y).lost
section
variable {n : Nat} {W : WS} {i : Nat} {a x0 x p : Int} {R0 : Nat → List Int} {K0 : Int → List Int} {P0 : Nat} {K : Int → List Int} {R : Nat → List Int} {T T' T2 : Int → Node} {S S1 : RSt}
end
end Go.Proofs.YtkcicnflcilekaaGreat

namespace Go.Proofs.YtkcicnflcilekaaGreat
open Go.RowKit Go.Sort

section
variable {F0 : Nat → Prop} {W0 w : World} {q : List Ob} {gb cv m nn : Nat} {l : List Int}
end
end Go.Proofs.YtkcicnflcilekaaGreat

namespace Go.Proofs.YtkcicnflcilekaaGreat

def lkC (W : WS) (a b : Int) : Int := if aheadW W b a = true then b else a
def lkD (W : WS) (a b : Int) : Int := if aheadW W b a = true then a else b
section
variable {n : Nat} {W : WS} {i : Nat} {E : Int → Prop} {R0 : Nat → List Int} {Z : Nat} {K : Int → List Int} {R : Nat → List Int} {T T' : Int → Node} {S S' : RSt} {B P : List Int} {x : Int}
end
end Go.Proofs.YtkcicnflcilekaaGreat

namespace Go.Proofs.YtkcicnflcilekaaGreat
open Go.RowKit Go.Sort

section
variable {F0 : Nat → Prop} {W0 w : World} {f c rp n : Nat} {v : Value} {W : WS} {s : Int} {T : Int → Node} {S : RSt} {q : List Ob} {K : Int → List Int} {R : Nat → List Int}
end
end Go.Proofs.YtkcicnflcilekaaGreat

namespace Go.Proofs.YtkcicnflcilekaaGreat
open Go.RowKit Go.Sort

/-- Some trees, as a value: what is topmost and first, and how many they are. -/
abbrev trV (a : Int) (k : Int) : Value := .agg #[.int .i64 a, .int .i64 k]
section
variable {F0 : Nat → Prop} {W0 w : World} {f c rp n : Nat} {v : Value} {W : WS} {s : Int} {T : Int → Node} {S : RSt} {A B : Ob} {K : Int → List Int} {R : Nat → List Int}
/-- The boxes in which the two, and what is answered, lie. -/
theorem join_boxes {l : List Ob} (h : Stage F0 W0 l w) (a ka b kb : Int) : ∃ w1 w2 w3 : World, w.alloc (.cells #[.int .i64 a, .int .i64 ka] 343) = w1 ∧ w1.alloc (.cells #[.int .i64 b, .int .i64 kb] 343) = w2 ∧ w2.alloc (.cells #[.int .i64 0, .int .i64 0] 343) = w3 ∧
    Stage F0 W0 (((l ++ [Ob.box w.heap.size #[.int .i64 a, .int .i64 ka] 343]) ++ [Ob.box w1.heap.size #[.int .i64 b, .int .i64 kb] 343]) ++ [Ob.box w2.heap.size #[.int .i64 0, .int .i64 0] 343]) w3 :=
  ⟨_, _, _, rfl, rfl, rfl, ((h.alloc _ _).alloc _ _).alloc _ _⟩
theorem join_b (h : Stage F0 W0 (fbF f c rp v n W s T S ++ [A, B]) w) (a b : Int) (kb : Nat) : Calls Tryz.prog 237 #[.pointer (some ⟨f, 0, none⟩), trV a 0, trV b kb] w fun e w' => e = .returned (trV b kb) ∧ Stage F0 W0 (fbF f c rp v n W s T S ++ [A, B]) w' := by
  obtain ⟨w1, w2, w3, hw1, hw2, hw3, hs⟩ := join_boxes h a 0 b kb
  have a0 := hs.cell 6 rfl (o := 0) rfl
  have a1 := hs.cell 6 rfl (o := 1) rfl
  have b0 := hs.cell 7 rfl (o := 0) rfl
  have b1 := hs.cell 7 rfl (o := 1) rfl
  have f0 := hs.free 8 rfl 0
  have f1 := hs.free 8 rfl 1
  have r0 := hs.cell 8 rfl (o := 0) rfl
  have r1 := hs.cell 8 rfl (o := 1) rfl
  have hl := hs.lt 8 rfl
  have hs4 := ((hs.store 8 rfl 0 (.int .i64 b)).store 8 rfl 1 (.int .i64 kb))
  have z0 := hs4.cell 8 rfl (o := 0) rfl
  have z1 := hs4.cell 8 rfl (o := 1) rfl
  clear hs h
  unfold trV
  go_enter Tryz.func237, Tryz.ntmps237
  go_wp2_with fail
  exact bodyPost_ret (v := .agg #[.int .i64 b, .int .i64 kb]) (by simp [results, Tryz.results237, go_sem, z0, z1]) rfl ⟨rfl, hs4.take 6⟩
theorem join_ab (h : Stage F0 W0 (fbF f c rp v n W s T S ++ [A, B]) w) (hB : Back n S.f S.g) (a b : Int) (ka kb : Nat) (hka : 0 < ka) (hkb : 0 < kb) (hk : ka + kb ≤ 65536) : Calls Tryz.prog 237 #[.pointer (some ⟨f, 0, none⟩), trV a ka, trV b kb] w fun e w' =>
    e = .returned (trV (lkC W a b) ((ka : Int) + kb)) ∧ Stage F0 W0 (fbF f c rp v n W (aheadS W s b a) T (spliceS n S a b) ++ [A, B]) w' := by
  obtain ⟨w1, w2, w3, hw1, hw2, hw3, hs⟩ := join_boxes h a ka b kb
  have a0 := hs.cell 6 rfl (o := 0) rfl
  have a1 := hs.cell 6 rfl (o := 1) rfl
  have b0 := hs.cell 7 rfl (o := 0) rfl
  have b1 := hs.cell 7 rfl (o := 1) rfl
  have c1 : w3.cell? ⟨f, 1, none⟩ = some (.pointer (some ⟨rp, 0, none⟩)) := hs.cell 0 rfl rfl
  have hka1 : ((ka : Int) == 0) = false := by rw [beq_eq_false_iff_ne]; omega
  have hkb1 : ((kb : Int) == 0) = false := by rw [beq_eq_false_iff_ne]; omega
  have hS := hs.drew.call 3 rfl (fun _ ho => rg_splice hB a b ho)
  have hO : ∀ (w4 : World) (q : List Ob), Stage F0 W0 (fbF f c rp v n W s T (spliceS n S a b) ++ q) w4 → Calls Tryz.prog 240 #[.pointer (some ⟨f, 0, none⟩), .int .i64 a, .int .i64 b] w4 fun e w' => e = .returned (.tuple #[.int .i64 (lkC W a b), .int .i64 (lkD W a b)]) ∧ Stage F0 W0 (fbF f c rp v n W (aheadS W s b a) T (spliceS n S a b) ++ q) w' := fun w4 q h4 => order_fb h4 a b
  clear h
  generalize aheadS W s b a = s1 at *
  generalize lkC W a b = x at *
  generalize lkD W a b = y at *
  generalize spliceS n S a b = S2 at *
  generalize (inR n a && inR n b) = bb at *
  unfold trV
  go_enter Tryz.func237, Tryz.ntmps237
  go_wp2_with fail
  generalize w2.heap.size = bR at *
  generalize w1.heap.size = bB at *
  generalize w.heap.size = bA at *
  go_region_held3 (fun w' => w'.cell? ⟨f, 1, none⟩ = some (.pointer (some ⟨rp, 0, none⟩)) ∧ w'.cell? ⟨bA, 0, none⟩ = some (.int .i64 a) ∧ w'.cell? ⟨bB, 0, none⟩ = some (.int .i64 b)) (first | exact ⟨c1, a0, b0⟩ | exact ⟨c1p, a0p, b0p⟩ | simp [*])
    ((with_reducible refine hS.mono ?_; rintro e w4 ⟨rfl, h4⟩; have c1p : w4.cell? ⟨f, 1, none⟩ = some (.pointer (some ⟨rp, 0, none⟩)) := h4.cell 0 rfl rfl; have a0p := h4.cell 6 rfl (o := 0) rfl; have b0p := h4.cell 7 rfl (o := 0) rfl))
  replace h4 : Stage F0 W0 (fbF f c rp v n W s T S2 ++ [A, B, Ob.box bA #[.int .i64 a, .int .i64 ka] 343, Ob.box bB #[.int .i64 b, .int .i64 kb] 343, Ob.box bR #[.int .i64 0, .int .i64 0] 343]) w4 := h4
  clear hs hS a0 a1 b0 b1 c1 c1p hw1 hw2 hw3
  replace hO := hO _ _ h4
  clear h4
  go_wp2_with fail
  refine hO.mono ?_
  rintro e w5 ⟨rfl, h5⟩
  clear hO
  replace h5 : Stage F0 W0 (fbF f c rp v n W s1 T S2 ++ [A, B, Ob.box bA #[.int .i64 a, .int .i64 ka] 343, Ob.box bB #[.int .i64 b, .int .i64 kb] 343, Ob.box bR #[.int .i64 0, .int .i64 0] 343]) w5 := h5
  have a1 := h5.cell 6 rfl (o := 1) rfl
  have b1 := h5.cell 7 rfl (o := 1) rfl
  have f0 := h5.free 8 rfl 0
  have f1 := h5.free 8 rfl 1
  have r0 := h5.cell 8 rfl (o := 0) rfl
  have r1 := h5.cell 8 rfl (o := 1) rfl
  have hl := h5.lt 8 rfl
  have hw : IntKind.i64.wrap ((ka : Int) + kb) = (ka : Int) + kb := IntWalk.i64_in _ (by omega)
  have hs4 := ((h5.store 8 rfl 0 (.int .i64 x)).store 8 rfl 1 (.int .i64 ((ka : Int) + kb)))
  have z0 := hs4.cell 8 rfl (o := 0) rfl
  have z1 := hs4.cell 8 rfl (o := 1) rfl
  go_wp2_with fail
  exact bodyPost_ret (v := .agg #[.int .i64 x, .int .i64 ((ka : Int) + kb)]) (by simp [results, Tryz.results237, go_sem, z0, z1]) rfl ⟨rfl, hs4.take 6⟩
end
end Go.Proofs.YtkcicnflcilekaaGreat

namespace Go.Proofs.YtkcicnflcilekaaGreat
open Go.RowKit Go.Sort

section
variable {F0 : Nat → Prop} {W0 w : World} {f c rp n : Nat} {v : Value} {W : WS} {s : Int} {T : Int → Node} {S : RSt} {A B C D G L : Ob} {K : Int → List Int} {R : Nat → List Int}
end
end Go.Proofs.YtkcicnflcilekaaGreat

namespace Go.Proofs.YtkcicnflcilekaaGreat

section
variable {n : Nat} {W : WS} {i : Nat} {a x : Int} {R0 : Nat → List Int} {K0 : Int → List Int} {P0 : Nat} {K K' : Int → List Int} {R : Nat → List Int} {T T' : Int → Node} {S S' : RSt}
end
end Go.Proofs.YtkcicnflcilekaaGreat

namespace Go.Proofs.YtkcicnflcilekaaGreat

def BestFi (W : WS) (l : List Int) (b : Int) : Prop := b ∈ l ∧ ∀ y ∈ l, aheadW W y b = false
theorem bestfi_one (W : WS) (x : Int) : BestFi W [x] x := ⟨by simp, fun y hy => by rw [List.mem_singleton.1 hy]; exact dahead_irr W x⟩
theorem bestfi_more {W : WS} {l : List Int} {b x : Int} (hl : ∀ y ∈ l, inW W y = true) (h : BestFi W l b) : BestFi W (l ++ [x]) (lkC W b x) := by
  have hb := hl b h.1
  unfold lkC
  split
  · rename_i e
    refine ⟨by simp, fun y hy => ?_⟩
    rcases List.mem_append.1 hy with h2 | h2
    · exact hm_neg (hl y h2) hb (h.2 y h2) (hm_asym e)
    · rw [List.mem_singleton.1 h2]; exact dahead_irr W x
  · rename_i e
    refine ⟨List.mem_append.2 (Or.inl h.1), fun y hy => ?_⟩
    rcases List.mem_append.1 hy with h2 | h2
    · exact h.2 y h2
    · rw [List.mem_singleton.1 h2]; simpa using e
theorem BestFi.same {W W' : WS} {l : List Int} {b : Int} (h : BestFi W l b) (hs : ∀ y ∈ l, cellW W' y = cellW W y) : BestFi W' l b := ⟨h.1, fun y hy => by rw [dahead_same (hs y hy) (hs b h.1)]; exact h.2 y hy⟩
theorem pot_le {W W' : WS} {K : Int → List Int} {mk : Int → Bool} (h : ∀ y, inW W' y = true → inW W y = true) : potN W' K mk ≤ potN W K mk := by
  have := pot_step (W := W) (W' := W') (K := K) (K' := K) (mk := mk) (mk' := mk) [] [] List.nodup_nil (fun y hy => Or.inl ⟨h y hy.1, hy.2⟩) (fun y hy => by cases hy)
  simpa using this
def updZ (z : Nat → Int) (h : Nat) (a : Int) : Nat → Int := fun g => if g = h then a else z g
theorem updZ_at (z : Nat → Int) (h : Nat) (a : Int) : updZ z h a h = a := if_pos rfl
theorem updZ_off (z : Nat → Int) {h g : Nat} (a : Int) (e : g ≠ h) : updZ z h a g = z g := if_neg e
structure FiOk (n : Nat) (W : WS) (K : Int → List Int) (R : Nat → List Int) (T : Int → Node) (S : RSt) (z : Nat → Int) : Prop where
  len : W.cells.length = n
  mid : FiMid W K R noE
  tied : FTied n K R T S
  deg : ∃ had, FiDeg K had (lostOf T) noE
  best : ∀ h, R h ≠ [] → BestFi W (R h) (z h)
/-- All slots that are in heaps. -/
def allW (W : WS) : List Int := ((List.range W.cells.length).map fun i : Nat => (i : Int)).filter fun y => inW W y
theorem mem_allW {W : WS} {y : Int} : y ∈ allW W ↔ inW W y = true := by
  unfold allW
  rw [List.mem_filter, mem_ints]
  exact ⟨fun h => h.2, fun h => ⟨prin_slot h, h⟩⟩
theorem allW_nd (W : WS) : (allW W).Nodup := (ints_nodup _).filter _
theorem mem_slotsW {W : WS} {i : Nat} {y : Int} (h : y ∈ slotsW W i) : inW W y = true ∧ (cellW W y).home = i := by
  by_cases h0 : i = 0
  · subst h0; unfold slotsW at h; rw [if_pos rfl] at h; cases h
  · have := ((homes_all W).mem i y (by omega)).1 h
    exact ⟨in_home.2 (by omega), this⟩
/-- No more slots than before, but for one. -/
theorem allW_more {W W' : WS} (c : List Int) (h : ∀ y, inW W' y = true → inW W y = true ∨ y ∈ c) : (allW W').length ≤ (allW W).length + c.length := by
  have := sub_len (m := allW W') (l := allW W ++ c) (allW_nd _) fun y hy => List.mem_append.2 ((h y (mem_allW.1 hy)).imp mem_allW.2 id)
  rwa [List.length_append] at this
section
variable {n : Nat} {W : WS} {K : Int → List Int} {R : Nat → List Int} {T : Int → Node} {S : RSt} {z : Nat → Int}
/-- The first root is ahead of all of its heap. -/
theorem FiOk.min (I : FiOk n W K R T S z) {i : Nat} (h0 : R i ≠ []) : ∀ y, inW W y = true → (cellW W y).home = i → aheadW W y (z i) = false := I.mid.min (I.best i h0).1 (I.best i h0).2
/-- .. none, where there is none. -/
theorem FiOk.cells (I : FiOk n W K R T S z) {W' : WS} (h : W'.cells = W.cells) : FiOk n W' K R T S z ∧ potN W' K (lostOf T) ≤ potN W K (lostOf T) := by
  have e1 : ∀ y, cellW W' y = cellW W y := fun y => dcells_eq h y
  refine ⟨⟨by rw [h]; exact I.len, I.mid.cells h, I.tied, I.deg, fun g hg => (I.best g hg).same fun y _ => e1 y⟩, ?_⟩
  have e2 : ∀ y, inW W' y = inW W y := fun y => by unfold inW; rw [e1]
  exact pot_le fun y hy => by rw [← e2]; exact hy
/-- A slot comes in. -/
theorem FiOk.put (I : FiOk n W K R T S z) {x k s : Int} {h : Nat} (hp : putB W h x = true) (h1 : 1 ≤ h) {_T' : Int → Node} {S' : RSt} {a : Int}
    (hTS : (R h = [] ∧ S' = S ∧ a = x) ∨ (R h ≠ [] ∧ S' = spliceS n S (z h) x ∧ a = lkC (putW W h x k s) (z h) x)) :
    FiOk n (putW W h x k s) K (updRF R h (R h ++ [x])) T S' (updZ z h a) ∧ potN (putW W h x k s) K (lostOf T) ≤ potN W K (lostOf T) + 1 ∧ (allW (putW W h x k s)).length ≤ (allW W).length + 1 := by
  obtain ⟨q1, q2, q3, q4, _⟩ := homes_put (k := k) (s := s) (homes_all W) hp h1
  obtain ⟨M1, hK, hh⟩ := I.mid.put (k := k) (s := s) hp h1
  have hl : (putW W h x k s).cells.length = n := by rw [← I.len]; unfold putW; split <;> simp
  have hxn : ∀ g, x ∉ R g := fun g k => by have := (I.mid.is g x k).2.1; rw [q2] at this; cases this
  have hxi : inB n x := by have := prin_slot q3; rwa [hl] at this
  have hxt := (I.mid.f.out q2).1
  have hin : ∀ y, y ≠ x → inW (putW W h x k s) y = inW W y := fun y hy => by unfold inW; rw [q4 y hy]
  have hFb := I.mid.f.fb
  have hro := I.mid.roots
  rw [I.len] at hFb hro
  have M2 := (M1.same (E' := fun y => y = x ∨ noE y) fun y => by simp).add (h := h) (l := R h ++ [x]) (fun e => e) hh List.perm_append_comm
  have hne : ∀ g, ∀ y ∈ R g, y ≠ x := fun g y hy e => hxn g (e ▸ hy)
  refine ⟨⟨hl, M2, ?_, I.deg, fun g hg => ?_⟩, ?_, ?_⟩
  · rcases hTS with ⟨e0, rfl, _⟩ | ⟨e0, rfl, _⟩
    · rw [e0]; exact I.tied.put0 e0 hxi hxt hxn
    · exact I.tied.put hFb hro (I.best h e0).1 hxi hxt hxn List.perm_append_comm
  · by_cases e : g = h
    · subst e
      rw [updR_at, updZ_at]
      rcases hTS with ⟨e0, _, rfl⟩ | ⟨e0, _, rfl⟩
      · rw [e0]; exact bestfi_one _ _
      · exact bestfi_more (fun y hy => by rw [hin y (hne g y hy)]; exact (I.mid.is g y hy).2.1) ((I.best g e0).same fun y hy => q4 y (hne g y hy))
    · rw [updR_off _ _ e] at hg ⊢
      rw [updZ_off _ _ e]
      exact (I.best g hg).same fun y hy => q4 y (hne g y hy)
  · have := pot_step (W := W) (W' := putW W h x k s) (K := K) (K' := K) (mk := lostOf T) (mk' := lostOf T) [x] [] List.nodup_nil (fun y hy => by
      by_cases e : y = x
      · exact Or.inr (by simp [e])
      · exact Or.inl ⟨by rw [← hin y e]; exact hy.1, hy.2⟩) (fun y hy => by cases hy)
    simpa using this
  · exact allW_more [x] fun y hy => by
      by_cases e : y = x
      · exact Or.inr (by simp [e])
      · exact Or.inl (by rw [← hin y e]; exact hy)
end
end Go.Proofs.YtkcicnflcilekaaGreat

namespace Go.Proofs.YtkcicnflcilekaaGreat
open Go.RowKit Go.Sort

section
variable {F0 : Nat → Prop} {W0 w : World} {f c rp n : Nat} {v : Value} {W : WS} {s : Int} {T : Int → Node} {S : RSt} {A B C D : Ob} {K : Int → List Int} {R : Nat → List Int}
end
end Go.Proofs.YtkcicnflcilekaaGreat

namespace Go.Proofs.YtkcicnflcilekaaGreat
open Go.RowKit Go.Sort

section
variable {F0 : Nat → Prop} {W0 w : World} {f c rp n : Nat} {v : Value} {W WL : WS} {s : Int} {T : Int → Node} {S : RSt} {A B C D : Ob} {K : Int → List Int} {R : Nat → List Int}
end
end Go.Proofs.YtkcicnflcilekaaGreat

namespace Go.Proofs.YtkcicnflcilekaaGreat
open Go.RowKit Go.Sort

section
variable {F0 : Nat → Prop} {W0 w : World} {f c rp n : Nat} {v : Value} {W WL : WS} {s : Int} {T : Int → Node} {S : RSt} {A B : Ob} {K : Int → List Int} {R : Nat → List Int}
end
end Go.Proofs.YtkcicnflcilekaaGreat

namespace Go.Proofs.YtkcicnflcilekaaGreat
open Go.RowKit Go.Sort

section
variable {F0 : Nat → Prop} {W0 w : World} {f c rp n : Nat} {v : Value} {W : WS} {s : Int} {T : Int → Node} {S : RSt} {A B C D : Ob} {K : Int → List Int} {R : Nat → List Int}
end
end Go.Proofs.YtkcicnflcilekaaGreat

namespace Go.Proofs.YtkcicnflcilekaaGreat
open Go.RowKit Go.Sort

section
variable {F0 : Nat → Prop} {W0 w : World} {f c rp n : Nat} {v : Value} {W : WS} {s : Int} {T : Int → Node} {S : RSt} {A B : Ob} {K : Int → List Int} {R : Nat → List Int}
end
end Go.Proofs.YtkcicnflcilekaaGreat

namespace Go.Proofs.YtkcicnflcilekaaGreat
open Go.RowKit Go.Sort

structure TMapIs (D : DataW Value) (f : Int → Option Value) (M : Nat) : Prop where
  v : VMapIs D f M
  has' : ∀ h : Int, Maps.has D (.int .i64 h) = (f h).isSome
theorem TMapIs.empty (M : Nat) : TMapIs (.map []) (fun _ => none) M := ⟨VMapIs.empty M, fun _ => rfl⟩
theorem TMapIs.put {D : DataW Value} {f : Int → Option Value} {M : Nat} (h : TMapIs D f M) (k : Nat) (hk : k < M) (u : Value) : TMapIs (D.put (.int .i64 k) (.held u)) (setV f k (some u)) M := by
  have hkey : WideAt.IsKeyLit (.int .i64 (k : Int)) := trivial
  refine ⟨h.v.put k hk u, fun x => ?_⟩
  obtain ⟨⟨_, es, rfl, _, _⟩, h2⟩ := h
  by_cases hx : x = k
  · subst hx
    rw [Maps.has_put_same ⟨_, rfl⟩ hkey]; simp [setV]
  · rw [Maps.has_put_other (by simpa using hx), h2]; simp [setV, hx]
theorem TMapIs.del {D : DataW Value} {f : Int → Option Value} {M : Nat} (h : TMapIs D f M) (k : Int) : TMapIs (D.del (.int .i64 k)) (setV f k none) M := by
  refine ⟨h.v.del k, fun x => ?_⟩
  by_cases hx : x = k
  · subst hx
    rw [Maps.has_del_same]; simp [setV]
  · rw [Maps.has_del_other (by simpa using hx), h.has']; simp [setV, hx]
def Ob.tmap (P : Program) (k : TypeId) (b : Nat) (f : Int → Option Value) (M : Nat) : Ob where
  holds w F := (∃ D, w.ownsMap (H := Value) P k anyElem b M D ∧ TMapIs D f M) ∧ F = (· = b)
  keeps := by
    rintro w w' F G ⟨⟨D, h, hm⟩, rfl⟩ kp hg
    refine ⟨⟨D, ?_, hm⟩, rfl⟩
    have hlt := h.lt
    obtain ⟨es, clock, hb, r⟩ := h
    exact ⟨es, clock, by rw [kp.block b hlt (hg b rfl)]; exact hb, r⟩
  lt := by rintro w F ⟨⟨D, h, _⟩, rfl⟩ k rfl; exact h.lt
namespace Stage
variable {F0 : Nat → Prop} {W w w' : World} {l : List Ob} {P : Program} {t k e : TypeId} {b M : Nat} {f : Int → Option Value}
theorem newTMap (h : Stage F0 W l w) (P : Program) (k : TypeId) (M : Nat) {b : Nat} (hb : w.heap.size = b) : Stage F0 W (l ++ [Ob.tmap P k b (fun _ => Option.none) M]) (w.alloc (.map #[] 0)) := by
  subst hb
  exact h.add ((Below.refl _ _).alloc (Nat.le_refl _) _) ⟨⟨_, (World.ownsMap_made w P k _).mono (Nat.zero_le _), TMapIs.empty M⟩, rfl⟩ (fun _ hk => Nat.le_of_eq hk.symm)
/-- 'm[k]'. -/
theorem lookT (h : Stage F0 W l w) (i : Nat) (hi : l[i]? = some (Ob.tmap P k b f M)) (ht : P.underlying t = some (.map k e)) (hk : P.underlying k = some (.int .i64)) {z : Value} (hz : (zeroValue e).run P w = .ok z w)
    (x : Int) (hx : -9223372036854775808 ≤ x ∧ x ≤ 9223372036854775807) : (Instr.lookup t (.map (some b)) (.int .i64 x) false).run P w = .ok ((f x).getD z) w := by
  obtain ⟨_, ⟨D, hown, hm⟩, _⟩ := h.get hi
  obtain ⟨v, ps, hrun, hv⟩ := hown.lookup (Maps.int_keyed hk) ht hz (zd := .held z) (zp := []) rfl (Maps.keyOf_int_mk hk (wf_i64' hx))
  rw [hm.v.at' x z] at hv
  rw [hrun, anyElem_inv hv]
/-- 'v, ok := m[k]'. -/
theorem lookOkT (h : Stage F0 W l w) (i : Nat) (hi : l[i]? = some (Ob.tmap P k b f M)) (ht : P.underlying t = some (.map k e)) (hk : P.underlying k = some (.int .i64)) {z : Value} (hz : (zeroValue e).run P w = .ok z w)
    (x : Int) (hx : -9223372036854775808 ≤ x ∧ x ≤ 9223372036854775807) : (Instr.lookup t (.map (some b)) (.int .i64 x) true).run P w = .ok (.tuple #[(f x).getD z, .bool (f x).isSome]) w := by
  obtain ⟨_, ⟨D, hown, hm⟩, _⟩ := h.get hi
  obtain ⟨v, ps, hrun, hv⟩ := hown.look_ok (Maps.int_keyed hk) ht hz (zd := .held z) (zp := []) rfl (Maps.keyOf_int_mk hk (wf_i64' hx))
  rw [hm.v.at' x z] at hv
  rw [hrun, anyElem_inv hv, hm.has' x]
/-- 'm[k] = v' at the operation. -/
theorem wp_putT {ops : Array Oper} {rest : List Oper} {o : Oper} {a : Act} {Q : Exit → Act → World → Prop} (h : Stage F0 W l w) (i : Nat) (hi : l[i]? = some (Ob.tmap P k b f M)) (hg : o.guard = Option.none) (m x v : Operand) (hop : o.op = Op.mapUpdate t m x v)
    (ht : P.underlying t = some (.map k e)) (hk : P.underlying k = some (.int .i64)) (hM : M < maxLen)
    (hm : a.eval m = .map (some b)) (key : Nat) (u : Value) (hx : a.eval x = .int .i64 key) (hv : a.eval v = u) (hkey : key < M)
    (hK : ∀ w', Stage F0 W (l.set i (Ob.tmap P k b (setV f key (some u)) M)) w' → wpList P ops Q rest (a.put o.dst undef) w') : wpList P ops Q (o :: rest) a w := by
  obtain ⟨_, ⟨D, hown, hmi⟩, _⟩ := h.get hi
  unfold maxLen at hM
  refine wpList_mapUpdate_own w hg m x v t hop k e (Maps.int_keyed hk) ht _ b M D hm hown (by unfold maxLen; omega) _ _ _ hx hv (Maps.keyOf_int_mk hk (wf_i64' (by omega))) (.held u) [] rfl fun w' h1 h2 => hK w' ?_
  have h3 := hmi.put key hkey u
  exact h.moved hi fun F hF => ⟨(· = b), ⟨⟨_, owns_tightV h1 h3.v.size, h3⟩, rfl⟩, by
    have e2 : F = (· = b) := hF.2
    subst e2
    exact ⟨keeps_of_grown h2, fun k hk => Or.inl hk⟩⟩
/-- 'delete(m, k)' at the operation. -/
theorem wp_deleteT {ops : Array Oper} {rest : List Oper} {o : Oper} {a : Act} {Q : Exit → Act → World → Prop} (h : Stage F0 W l w) (i : Nat) (hi : l[i]? = some (Ob.tmap P k b f M)) (hg : o.guard = Option.none) (m x : Operand) (hop : o.op = Op.call { callee := Callee.builtin Builtin.delete, args := #[m, x], argTypes := #[t, k] })
    (ht : P.underlying t = some (.map k e)) (hk : P.underlying k = some (.int .i64))
    (hm : a.eval m = .map (some b)) (key : Int) (hx : a.eval x = .int .i64 key) (hkey : -9223372036854775808 ≤ key ∧ key ≤ 9223372036854775807)
    (hK : ∀ w', Stage F0 W (l.set i (Ob.tmap P k b (setV f key Option.none) M)) w' → wpList P ops Q rest (a.put o.dst (.tuple #[])) w') : wpList P ops Q (o :: rest) a w := by
  obtain ⟨_, ⟨D, hown, hmi⟩, _⟩ := h.get hi
  refine wpList_delete_own w hg m x t k hop e (Maps.int_keyed hk) ht _ b M D hm hown _ _ hx (Maps.keyOf_int_mk hk (wf_i64' hkey)) fun w' h1 h2 => hK w' ?_
  have h3 := hmi.del key
  exact h.moved hi fun F hF => ⟨(· = b), ⟨⟨_, owns_tightV h1 h3.v.size, h3⟩, rfl⟩, by
    have e2 : F = (· = b) := hF.2
    subst e2
    exact ⟨keeps_of_grown h2.grown, fun k hk => Or.inl hk⟩⟩
end Stage
end Go.Proofs.YtkcicnflcilekaaGreat
