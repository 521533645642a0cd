/- Merged of ShedInv, Ints, ShedList, ShedList2, ShedList3. -/
import Derived.Test.YtkcicnflcilekaaGreatShedHeapMath
import Derived.Test.YtkcicnflcilekaaGreatPqHeld
import Derived.Test.YtkcicnflcilekaaGreatStageAppend
import Derived.Test.YtkcicnflcilekaaGreatProg
import Derived.Test.YtkcicnflcilekaaGreatPqCalls
import Derived.BigRegion
import Derived.StillTailTactics
namespace Go.Proofs.YtkcicnflcilekaaGreat

/-- The lists Ls, and the places pl, are those of the nest W. -/
structure SInv (W : WS) (pl : List Nat) (Ls : Nat → List Nat) : Prop where
  plen : pl.length = W.cells.length
  mem : ∀ h x, 1 ≤ h → (x ∈ Ls h ↔ x < W.cells.length ∧ homeAt W x = h)
  zero : Ls 0 = []
  heap : ∀ h, HeapS 2 (ltW W) (Ls h)
  placed : ∀ h, Placed (Ls h) pl
def updL (g : Nat → List Nat) (h : Nat) (l : List Nat) : Nat → List Nat := fun i => if i = h then l else g i
def updN (g : Nat → Nat) (h : Nat) (q : Nat) : Nat → Nat := fun i => if i = h then q else g i
section
variable {W : WS} {pl : List Nat} {Ls : Nat → List Nat}
theorem SInv.in' (I : SInv W pl Ls) {h x : Nat} (hx : x ∈ Ls h) : 1 ≤ h ∧ x < W.cells.length ∧ homeAt W x = h := by
  by_cases e : h = 0
  · subst e; rw [I.zero] at hx; simp at hx
  · exact ⟨by omega, (I.mem h x (by omega)).1 hx⟩
theorem SInv.allIn (I : SInv W pl Ls) (h : Nat) : AllIn W (Ls h) := fun x hx => by
  obtain ⟨h1, h2, h3⟩ := I.in' hx
  exact ⟨h2, by omega⟩
theorem SInv.strict (I : SInv W pl Ls) (h : Nat) : StrictS (ltW W) (Ls h) := strict_of (pl := pl) (I.allIn h) fun _ _ hi hj e => placed_inj (I.placed h) hi hj e
theorem placed_nodup {xs pl : List Nat} (P : Placed xs pl) : xs.Nodup := by
  refine List.pairwise_iff_getElem.2 fun i j hi hj hij e => ?_
  have := placed_inj P hi hj (by simp [ratS, List.getD_eq_getElem?_getD, hi, hj, e])
  omega
theorem len_range (W : WS) (h : Nat) (hp : 1 ≤ h) : lenW W h = ((List.range W.cells.length).filter fun x => homeAt W x == h).length := by
  unfold lenW
  rw [if_pos (by omega), ← List.countP_eq_length_filter]
  have e : W.cells = (List.range W.cells.length).map fun x => W.cells.getD x .off := by
    apply List.ext_getElem
    · simp
    · intro n h1 h2
      simp [List.getD_eq_getElem?_getD, h1]
  conv => lhs; rw [e]
  rw [List.countP_map]
  refine List.countP_congr fun x _ => ?_
  simp only [Function.comp, homeAt, beq_iff_eq]
  omega
theorem SInv.len (I : SInv W pl Ls) (h : Nat) (hp : 1 ≤ h) : (Ls h).length = lenW W h := by
  rw [len_range W h hp]
  refine List.Perm.length_eq ((List.perm_ext_iff_of_nodup (placed_nodup (I.placed h)) (List.nodup_range.filter _)).2 fun x => ?_)
  rw [I.mem h x hp, List.mem_filter, List.mem_range]
  simp
theorem SInv.lenLe (I : SInv W pl Ls) (hf : W.Fit) (h : Nat) : (Ls h).length ≤ 65536 := by
  by_cases e : h = 0
  · subst e; rw [I.zero]; simp
  · rw [I.len h (by omega)]; exact Nat.le_trans (len_le W h) hf.cap
/-- Who has a list is a heap. -/
theorem SInv.keyLt (I : SInv W pl Ls) (hf : W.Fit) {h : Nat} (hn : Ls h ≠ []) : 1 ≤ h ∧ h < 65537 ∧ hasW W h = true := by
  obtain ⟨x, hx⟩ := List.exists_mem_of_ne_nil _ hn
  obtain ⟨h1, h2, h3⟩ := I.in' hx
  have h4 := hf.home x h2
  have e : (W.cells.getD x .off).home = h := h3
  rw [e] at h4
  rcases h4 with h4 | h4
  · omega
  · obtain ⟨i, hi, _, hl, _⟩ := has_nat h4
    have := hf.len
    exact ⟨h1, by omega, h4⟩
/-- The first of a heap's list is ahead of all others. -/
theorem SInv.min (I : SInv W pl Ls) {h : Nat} (hn : Ls h ≠ []) : IsMin W h (ratS (Ls h) 0) := by
  have hl : 0 < (Ls h).length := List.length_pos_iff.2 hn
  obtain ⟨h1, h2, h3⟩ := I.in' (rat_memS hl)
  have S := I.strict h
  refine ⟨h2, by omega, by omega, fun j hj hh hne => ?_⟩
  obtain ⟨i, hi, rfl⟩ := mem_ratS ((I.mem h j h1).2 ⟨hj, by omega⟩)
  have hi0 : i ≠ 0 := fun e => hne (by rw [e])
  have h5 := heap_topS (by omega) S (I.heap h) i hi
  exact S.total i 0 hi hl hi0 h5
theorem SInv.empty (I : SInv W pl Ls) {h : Nat} (hp : 1 ≤ h) : Ls h = [] ↔ lenW W h = 0 := by
  rw [← I.len h hp]; exact List.length_eq_zero_iff.symm
/-- A new one. -/
theorem sinv_new (n : Nat) : SInv (newW n) (List.replicate n 0) (fun _ => []) := by
  refine ⟨by simp [newW], fun h x hp => ?_, rfl, fun _ => heap_nilS, fun _ i hi => by simp at hi⟩
  simp only [List.not_mem_nil, false_iff, not_and]
  intro hx
  simp only [newW, List.length_replicate] at hx
  simp [homeAt, newW, List.getD_eq_getElem?_getD, hx, CellD.off]
  omega
theorem SInv.congr {W' : WS} (I : SInv W pl Ls) (h1 : W'.cells = W.cells) : SInv W' pl Ls := by
  have e1 : ∀ x, homeAt W' x = homeAt W x := fun x => by unfold homeAt; rw [h1]
  have e2 : ltW W' = ltW W := by
    funext a b
    unfold ltW aheadW inW cellW slotW
    rw [h1]
  exact ⟨by rw [h1]; exact I.plen, fun h x hp => by rw [h1, e1]; exact I.mem h x hp, I.zero, fun h => by rw [e2]; exact I.heap h, I.placed⟩
/-- The order of slots hangs on their entries alone. -/
theorem lt_same {W' : WS} {a b : Nat} (ha : W'.cells.getD a .off = W.cells.getD a .off) (hb : W'.cells.getD b .off = W.cells.getD b .off) (hl : W'.cells.length = W.cells.length) : ltW W' a b = ltW W a b := by
  have hc : ∀ x : Nat, W'.cells.getD x .off = W.cells.getD x .off → cellW W' x = cellW W x := fun x hx => by
    unfold cellW slotW
    rw [hl]
    by_cases h : (0 : Int) ≤ x ∧ (x : Int) < W.cells.length
    · simp only [h, Int.toNat_natCast]; exact hx
    · rw [decide_eq_false h]; rfl
  unfold ltW aheadW inW
  rw [hc a ha, hc b hb]
theorem heap_same {W' : WS} {xs : List Nat} (H : HeapS 2 (ltW W) xs) (h : ∀ x ∈ xs, W'.cells.getD x .off = W.cells.getD x .off) (hl : W'.cells.length = W.cells.length) : HeapS 2 (ltW W') xs := fun i h0 hi => by
  have hp := par_ltS (d := 2) (by omega) h0
  rw [lt_same (h _ (rat_memS hi)) (h _ (rat_memS (Nat.lt_trans hp hi))) hl]
  exact H i h0 hi
/-- One slot comes in. -/
theorem sinv_put (I : SInv W pl Ls) {h x : Nat} {k s : Int} (hp : putB W h x = true) (h1 : 1 ≤ h) : x < W.cells.length ∧ homeAt W x = 0 ∧ putW W h x k s = ⟨W.heaps, W.cells.set x ⟨h, k, s⟩⟩ ∧ (∀ g, x ∉ Ls g) ∧ HeapS 2 (ltW (putW W h x k s)) (Ls h) ∧ AllIn (putW W h x k s) (Ls h ++ [x]) ∧
    ∀ ys pl', HeapS 2 (ltW (putW W h x k s)) ys → ys.Perm (Ls h ++ [x]) → Placed ys pl' → pl'.length = pl.length → (∀ y, y ∉ Ls h ++ [x] → ratS pl' y = ratS pl y) → SInv (putW W h x k s) pl' (updL Ls h ys) := by
  have hp' := hp
  simp only [putB, Bool.and_eq_true, Bool.not_eq_true'] at hp
  obtain ⟨_, h2, h3⟩ := hp
  obtain ⟨x', e, hx⟩ := slot_nat h2
  obtain rfl : x = x' := by omega
  have h0 : homeAt W x = 0 := by simpa [inW, cell_nat _ x hx, homeAt] using h3
  have e1 : putW W h x k s = ⟨W.heaps, W.cells.set x ⟨h, k, s⟩⟩ := by simp [putW, hp']
  rw [e1]
  have hg : ∀ y, (W.cells.set x (⟨h, k, s⟩ : CellD)).getD y .off = if x = y then ⟨h, k, s⟩ else W.cells.getD y .off := fun y => getD_setN _ _ _ _ _ hx
  have hnot : ∀ g, x ∉ Ls g := fun g hm => by
    obtain ⟨_, _, h6⟩ := I.in' hm
    have := (I.in' hm).1
    omega
  have hsame : ∀ g, ∀ y ∈ Ls g, (W.cells.set x (⟨h, k, s⟩ : CellD)).getD y .off = W.cells.getD y .off := fun g y hy => by
    rw [hg, if_neg (fun e : x = y => hnot g (e ▸ hy))]
  have hhome : ∀ y, homeAt ⟨W.heaps, W.cells.set x ⟨h, k, s⟩⟩ y = if x = y then h else homeAt W y := fun y => by
    show ((W.cells.set x _).getD y .off).home = _
    rw [hg]
    split <;> rfl
  have hall : AllIn (⟨W.heaps, W.cells.set x ⟨h, k, s⟩⟩ : WS) (Ls h ++ [x]) := fun y hy => by
    simp only [List.mem_append, List.mem_singleton] at hy
    rw [hhome]
    refine ⟨?_, ?_⟩
    · show y < (W.cells.set x _).length
      rw [List.length_set]
      rcases hy with hy | rfl
      · exact (I.in' hy).2.1
      · exact hx
    · rcases hy with hy | rfl
      · rw [if_neg (fun e : x = y => hnot h (e ▸ hy)), (I.in' hy).2.2]; omega
      · rw [if_pos rfl]; omega
  refine ⟨hx, h0, rfl, hnot, heap_same (I.heap h) (hsame h) (by simp), hall, fun ys pl' H Pm Pp pL pO => ⟨by rw [pL, I.plen]; simp, fun g y hgp => ?_, ?_, fun g => ?_, fun g => ?_⟩⟩
  · show y ∈ updL Ls h ys g ↔ y < (W.cells.set x _).length ∧ _
    rw [List.length_set, hhome]
    unfold updL
    by_cases e : g = h
    · subst e
      rw [if_pos rfl, Pm.mem_iff, List.mem_append, List.mem_singleton, I.mem g y hgp]
      by_cases e2 : x = y
      · subst e2; simp [hx]
      · rw [if_neg e2]
        exact ⟨fun h => h.elim id (fun h => absurd h.symm e2), Or.inl⟩
    · rw [if_neg e, I.mem g y hgp]
      by_cases e2 : x = y
      · subst e2; rw [if_pos rfl, h0]; constructor <;> (intro h; omega)
      · rw [if_neg e2]
  · unfold updL
    rw [if_neg (by omega)]; exact I.zero
  · unfold updL
    by_cases e : g = h
    · rw [if_pos e]; exact H
    · rw [if_neg e]; exact heap_same (I.heap g) (hsame g) (by simp)
  · unfold updL
    by_cases e : g = h
    · rw [if_pos e]; exact Pp
    · rw [if_neg e]
      intro i hi
      have h7 := I.placed g i hi
      have hm : ratS (Ls g) i ∉ Ls h ++ [x] := fun hm => by
        simp only [List.mem_append, List.mem_singleton] at hm
        have a := I.in' (rat_memS hi)
        rcases hm with hm | hm
        · have b := I.in' hm; omega
        · exact hnot g (hm ▸ rat_memS hi)
      rw [pL, pO _ hm]
      exact h7
end
end Go.Proofs.YtkcicnflcilekaaGreat

namespace Go.Proofs.YtkcicnflcilekaaGreat
open Go.RowKit Go.Sort

def intC (x : Int) : List Value := [.int .i64 x]
theorem intC_len : ∀ x, (intC x).length = 1 := fun _ => rfl
theorem intC_set (l : List Int) (i : Nat) (x : Int) : (cellsBy intC l).set i (.int .i64 x) = cellsBy intC (l.set i x) := by
  have e : ∀ m : List Int, cellsBy intC m = m.map fun x : Int => Value.int .i64 x := fun m => by
    induction m with
    | nil => rfl
    | cons a r ih => rw [cellsBy_cons, ih]; rfl
  rw [e, e, List.map_set]
theorem intC_one (u : Value) (l : List Int) (h : u ∈ cellsBy intC l) : ∃ x, u = .int .i64 x := by
  simp only [cellsBy, List.mem_flatMap, intC, List.mem_singleton] at h
  obtain ⟨x, _, rfl⟩ := h
  exact ⟨x, rfl⟩
theorem sinfo_int : (Tryz.prog.info? 3).map (fun i => (i.zero, i.size, i.bytes)) = some (some (.int .i64 0), 1, 8) := by kernel_rfl
theorem szero_int (w : World) : (zeroValue 3).run Tryz.prog w = .ok (.int .i64 0) w := by kernel_rfl
/-- A row of integers that is someone's. -/
abbrev Ob.ints (v : Value) (l : List Int) : Ob := Ob.row 0 3 1 v l.length (cellsBy intC l)
namespace Stage
variable {F0 : Nat → Prop} {W w : World} {l : List Ob} {v : Value} {xs : List Int}
theorem intsForm (h : Stage F0 W l w) (i : Nat) (hi : l[i]? = some (Ob.ints v xs)) : ∃ a c, v = .slice a xs.length c ∧ xs.length ≤ c ∧ c ≤ 9223372036854775807 := by
  obtain ⟨a, c, h1, h2, h3⟩ := owns_form (h.owns i hi)
  exact ⟨a, c, h1, h2, by unfold maxLen at h3; omega⟩
theorem intsAt (h : Stage F0 W l w) (i : Nat) (hi : l[i]? = some (Ob.ints v xs)) (hn : 0 < xs.length) : ∃ g c, v = .slice (some ⟨g, 0, none⟩) xs.length c ∧ xs.length ≤ c ∧ c ≤ 9223372036854775807 ∧ g < w.heap.size ∧ (∀ j, j < xs.length → w.cell? ⟨g, j, none⟩ = some (.int .i64 (xs.getD j 0))) ∧ ∀ o, w.frozen? ⟨g, o, none⟩ = false := by
  obtain ⟨g, c, hv, h1, h2, _, h4, hc, hf⟩ := owns_at intC_len 0 (h.owns i hi) rfl hn
  refine ⟨g, c, hv, h1, by unfold maxLen at h2; omega, h4, fun j hj => ?_, hf⟩
  have := hc j 0 _ hj (by omega) rfl
  rwa [Nat.mul_one, Nat.add_zero] at this
end Stage
end Go.Proofs.YtkcicnflcilekaaGreat

namespace Go.Proofs.YtkcicnflcilekaaGreat
open Go.RowKit Go.Sort

/-- A nest, its cells, where its slots stand, and one of its lists. -/
def handL (p c bm : Nat) (vp : Value) (W : WS) (s : Int) (pl : List Nat) (q : Nat) (v : Value) (xs : List Nat) : List Ob :=
  [Ob.box p #[.pointer (some ⟨c, 0, none⟩), .map (some bm), vp] 210, Ob.cells c W s, Ob.row 0 3 1 vp pl.length (cellsBy natC pl),
   Ob.box q #[.pointer (some ⟨p, 0, none⟩), v] 362, Ob.row 0 3 1 v xs.length (cellsBy natC xs)]
section
variable {F0 : Nat → Prop} {W0 w : World} {p c bm : Nat} {vp : Value} {W : WS} {s : Int} {pl : List Nat} {q : Nat} {v : Value} {xs : List Nat} {r : List Ob}
theorem hand_form (h : Stage F0 W0 (handL p c bm vp W s pl q v xs ++ r) w) : ∃ a cp, v = .slice a xs.length cp ∧ xs.length ≤ cp ∧ cp ≤ 9223372036854775807 := by
  obtain ⟨a, cp, h1, h2, h3⟩ := owns_form (h.owns 4 rfl)
  exact ⟨a, cp, h1, h2, by unfold maxLen at h3; omega⟩
theorem hand_row (h : Stage F0 W0 (handL p c bm vp W s pl q v xs ++ r) w) (hn : 0 < xs.length) : ∃ g cp, v = .slice (some ⟨g, 0, none⟩) xs.length cp ∧ xs.length ≤ cp ∧ cp ≤ 9223372036854775807 ∧ g < w.heap.size ∧ (∀ i, i < xs.length → w.cell? ⟨g, i, none⟩ = some (.int .i64 (ratS xs i))) ∧ ∀ o, w.frozen? ⟨g, o, none⟩ = false := by
  obtain ⟨g, cp, hv, h1, h2, _, h4, hc, hf⟩ := owns_at natC_len 0 (h.owns 4 rfl) rfl hn
  refine ⟨g, cp, hv, h1, by unfold maxLen at h2; omega, h4, fun i hi => ?_, hf⟩
  have := hc i 0 _ hi (by omega) rfl
  rw [Nat.mul_one, Nat.add_zero] at this
  exact this
theorem hand_places (h : Stage F0 W0 (handL p c bm vp W s pl q v xs ++ r) w) (hn : 0 < pl.length) : ∃ g cp, vp = .slice (some ⟨g, 0, none⟩) pl.length cp ∧ pl.length ≤ cp ∧ cp ≤ 9223372036854775807 ∧ g < w.heap.size ∧ (∀ i, i < pl.length → w.cell? ⟨g, i, none⟩ = some (.int .i64 (ratS pl i))) ∧ ∀ o, w.frozen? ⟨g, o, none⟩ = false := by
  obtain ⟨g, cp, hv, h1, h2, _, h4, hc, hf⟩ := owns_at natC_len 0 (h.owns 2 rfl) rfl hn
  refine ⟨g, cp, hv, h1, by unfold maxLen at h2; omega, h4, fun i hi => ?_, hf⟩
  have := hc i 0 _ hi (by omega) rfl
  rw [Nat.mul_one, Nat.add_zero] at this
  exact this
theorem slen_stS (h : Stage F0 W0 (handL p c bm vp W s pl q v xs ++ r) w) : Calls Tryz.prog 304 #[.pointer (some ⟨q, 0, none⟩)] w fun e w' => e = .returned (.int .i64 xs.length) ∧ w = w' := by
  obtain ⟨a, cp, rfl, _, _⟩ := hand_form h
  have k1 := h.cell 3 rfl (o := 1) rfl
  generalize xs.length = n at *
  go_enter Tryz.func304, Tryz.ntmps304
  go_wp2_with fail
  go_ret
  exact ⟨rfl, rfl⟩
set_option maxRecDepth 100000 in
theorem sless_st (h : Stage F0 W0 (handL p c bm vp W s pl q v xs ++ r) w) (i j : Nat) (hi : i < xs.length) (hj : j < xs.length) :
    Calls Tryz.prog 309 #[.pointer (some ⟨q, 0, none⟩), .int .i64 i, .int .i64 j] w fun e w' => e = .returned (.bool (ltW W (ratS xs i) (ratS xs j))) ∧ Stage F0 W0 (handL p c bm vp W (aheadS W s (ratS xs i) (ratS xs j)) pl q v xs ++ r) w' := by
  obtain ⟨g, cp, hv, hc1, hc2, hg, hcell, _⟩ := hand_row h (by omega)
  have q0 := h.cell 3 rfl (o := 0) rfl
  have q1 := h.cell 3 rfl (o := 1) rfl
  have p0 := h.cell 0 rfl (o := 0) rfl
  have u0 := hcell i hi
  have u1 := hcell j hj
  have hA := h.drew.call 1 rfl (fun _ ho => ahead_cl (ratS xs i) (ratS xs j) ho)
  replace hA : Calls Tryz.prog 174 #[.pointer (some ⟨c, 0, none⟩), .int .i64 (ratS xs i), .int .i64 (ratS xs j)] w.drew fun e w' => e = .returned (.bool (ltW W (ratS xs i) (ratS xs j))) ∧ Stage F0 W0 (handL p c bm vp W (aheadS W s (ratS xs i) (ratS xs j)) pl q v xs ++ r) w' := hA
  generalize aheadS W s (ratS xs i) (ratS xs j) = s' at *
  generalize ltW W (ratS xs i) (ratS xs j) = B at *
  generalize ratS xs i = x at *
  generalize ratS xs j = y at *
  subst hv
  have hii : (i : Int) < xs.length := by omega
  have hjj : (j : Int) < xs.length := by omega
  generalize hn : xs.length = n at *
  clear hcell h
  go_enter Tryz.func309, Tryz.ntmps309
  go_wp2_with fail
  go_still_tail 21, (by kernel_rfl)
  change wpList _ _ _ _ _ w.drew
  go_wp2_with fail
  refine hA.mono ?_
  rintro e w1 ⟨rfl, hs1⟩
  go_wp2_with fail
  go_ret
  exact ⟨rfl, hs1⟩
end
end Go.Proofs.YtkcicnflcilekaaGreat

namespace Go.Proofs.YtkcicnflcilekaaGreat
open Go.RowKit Go.Sort

theorem natC_set (l : List Nat) (i x : Nat) : (cellsBy natC l).set i (.int .i64 x) = cellsBy natC (l.set i x) := by
  have e : ∀ m : List Nat, cellsBy natC m = m.map fun x : Nat => Value.int .i64 x := fun m => by
    induction m with
    | nil => rfl
    | cons a r ih => rw [cellsBy_cons, ih]; rfl
  rw [e, e, List.map_set]
section
variable {F0 : Nat → Prop} {W0 w : World} {p c bm : Nat} {vp : Value} {W : WS} {s : Int} {pl : List Nat} {q : Nat} {v : Value} {xs : List Nat} {r : List Ob}
set_option maxRecDepth 100000 in
set_option maxHeartbeats 1000000 in
theorem sswap_st (h : Stage F0 W0 (handL p c bm vp W s pl q v xs ++ r) w) (P : Placed xs pl) (i j : Nat) (hi : i < xs.length) (hj : j < xs.length) (hij : i ≠ j) :
    Calls Tryz.prog 312 #[.pointer (some ⟨q, 0, none⟩), .int .i64 i, .int .i64 j] w fun e w' => e = .returned (.tuple #[]) ∧ Stage F0 W0 (handL p c bm vp W s (swapP xs pl i j) q v (swapLS xs i j) ++ r) w' := by
  obtain ⟨g, cp, rfl, hc1, hc2, hg, hcell, hfree⟩ := hand_row h (by omega)
  have pi := (P i hi).1
  have pj := (P j hj).1
  have q1 := h.cell 3 rfl (o := 1) rfl
  have u0 := hcell i hi
  have u1 := hcell j hj
  have f0 := hfree i
  have f1 := hfree j
  obtain ⟨w1, hw1, hs1⟩ : ∃ w1, ((w.setCell ⟨g, i, none⟩ (.int .i64 (ratS xs j))).setCell ⟨g, j, none⟩ (.int .i64 (ratS xs i))).drew = w1 ∧ Stage F0 W0 (handL p c bm vp W s pl q (.slice (some ⟨g, 0, none⟩) xs.length cp) (swapLS xs i j) ++ r) w1 := by
    refine ⟨_, rfl, ?_⟩
    have hs := ((h.storeRow 4 rfl i (.int .i64 (ratS xs j)) (natC_set xs i _)).storeRow 4 rfl j (.int .i64 (ratS xs i)) (natC_set _ j _)).drew
    unfold handL
    rw [swap_lenS]
    exact hs
  have hii : (i : Int) < xs.length := by omega
  have hjj : (j : Int) < xs.length := by omega
  have hsl := swap_lenS xs i j
  have hr : ∀ k, ratS (swapLS xs i j) k = if k = j then ratS xs i else if k = i then ratS xs j else ratS xs k := rat_swapS hi hj
  have hri : ratS (swapLS xs i j) i = ratS xs j := by
    rw [hr]
    rw [if_neg hij, if_pos rfl]
  have hrj : ratS (swapLS xs i j) j = ratS xs i := by rw [hr, if_pos rfl]
  unfold swapP
  have hji : j ≠ i := fun e => hij e.symm
  clear h P hcell hfree hr
  generalize swapLS xs i j = xs' at *
  generalize ratS xs i = x at *
  generalize ratS xs j = y at *
  generalize hn : xs.length = n at *
  clear hn
  obtain ⟨g2, cp2, hv2, _, _, hg2, hcell2, hfree2⟩ := hand_places hs1 (by omega)
  subst hv2
  obtain ⟨g3, cp3, hv3, hc3, _, hg3, hcell3, _⟩ := hand_row hs1 (by omega)
  rw [hsl] at hv3 hcell3
  cases hv3
  have q0b := hs1.cell 3 rfl (o := 0) rfl
  have q1b := hs1.cell 3 rfl (o := 1) rfl
  have p2b := hs1.cell 0 rfl (o := 2) rfl
  have u0b := hcell3 i hi
  rw [hri] at u0b
  have z0b := hcell2 y pj
  have f0b := hfree2 y
  have hpj : (y : Int) < pl.length := by omega
  obtain ⟨w2, hw2, hs2⟩ : ∃ w2, (w1.setCell ⟨g2, y, none⟩ (.int .i64 i)).drew = w2 ∧ Stage F0 W0 (handL p c bm (.slice (some ⟨g2, 0, none⟩) pl.length cp2) W s (pl.set y i) q (.slice (some ⟨g, 0, none⟩) n cp) xs' ++ r) w2 := by
    refine ⟨_, rfl, ?_⟩
    have hs := (hs1.storeRow 2 rfl y (.int .i64 i) (natC_set pl y _)).drew
    unfold handL
    rw [List.length_set]
    exact hs
  have hl2 : (pl.set y i).length = pl.length := List.length_set
  have hl3 : ((pl.set y i).set x j).length = pl.length := by rw [List.length_set, List.length_set]
  clear hs1 hcell2 hcell3 hfree2
  obtain ⟨g2', cp2', hv2, _, _, hg2, hcell2, hfree2⟩ := hand_places hs2 (by omega)
  rw [hl2] at hv2 hcell2
  cases hv2
  obtain ⟨g3', cp3', hv3, hc3, _, hg3, hcell3, _⟩ := hand_row hs2 (by omega)
  rw [hsl] at hv3 hcell3
  cases hv3
  have q0c := hs2.cell 3 rfl (o := 0) rfl
  have q1c := hs2.cell 3 rfl (o := 1) rfl
  have p2c := hs2.cell 0 rfl (o := 2) rfl
  have u0c := hcell3 j hj
  rw [hrj] at u0c
  have z0c := hcell2 x pi
  have f0c := hfree2 x
  have hpi : (x : Int) < pl.length := by omega
  obtain ⟨w3, hw3, hs3⟩ : ∃ w3, (w2.setCell ⟨g2, x, none⟩ (.int .i64 j)).drew = w3 ∧ Stage F0 W0 (handL p c bm (.slice (some ⟨g2, 0, none⟩) pl.length cp2) W s ((pl.set y i).set x j) q (.slice (some ⟨g, 0, none⟩) n cp) xs' ++ r) w3 := by
    refine ⟨_, rfl, ?_⟩
    unfold handL at hs2
    rw [hl2] at hs2
    have hs := (hs2.storeRow 2 rfl x (.int .i64 j) (natC_set _ x _)).drew
    unfold handL
    rw [hl3]
    exact hs
  clear hs2 hcell2 hcell3 hfree2 hl2 hl3 hsl hri hrj
  generalize (pl.set y i).set x j = pl' at *
  generalize pl.length = n2 at *
  go_enter Tryz.func312, Tryz.ntmps312
  go_wp2_with fail
  go_region
  try rw [hw1]
  clear hw1 u0 u1 f0 f1 q1
  go_wp2_with fail
  go_region
  try rw [hw2]
  clear hw2 u0b z0b f0b q0b q1b p2b
  go_wp2_with fail
  go_region
  try rw [hw3]
  clear hw3 u0c z0c f0c q0c q1c p2c
  go_wp2_with fail
  go_end0
  exact ⟨rfl, hs3⟩
end
end Go.Proofs.YtkcicnflcilekaaGreat

namespace Go.Proofs.YtkcicnflcilekaaGreat
open Go.RowKit Go.Sort

theorem assert_int (v : Value) (w : World) : (Instr.typeAssert (.iface 3 v) 20 3 false).run Tryz.prog w = .ok v w := by kernel_rfl
section
variable {F0 : Nat → Prop} {W0 w : World} {p c bm : Nat} {vp : Value} {W : WS} {s : Int} {pl : List Nat} {q : Nat} {v : Value} {xs : List Nat} {r : List Ob}
set_option maxRecDepth 100000 in
set_option maxHeartbeats 1000000 in
theorem spush_st (h : Stage F0 W0 (handL p c bm vp W s pl q v xs ++ r) w) (hx : xs.length ≤ 65536) (hpl : pl.length ≤ 65536) (x : Nat) (hxp : x < pl.length) :
    Calls Tryz.prog 311 #[.pointer (some ⟨q, 0, none⟩), .iface 3 (.int .i64 x)] w fun e w' => e = .returned (.tuple #[]) ∧ ∃ v', Stage F0 W0 (handL p c bm vp W s (pl.set x xs.length) q v' (xs ++ [x]) ++ r) w' := by
  obtain ⟨g2, cp2, hv2, _, _, hg2, hcell2, hfree2⟩ := hand_places h (by omega)
  subst hv2
  obtain ⟨a, cp, rfl, hc1, hc2⟩ := hand_form h
  have q0 := h.cell 3 rfl (o := 0) rfl
  have q1 := h.cell 3 rfl (o := 1) rfl
  have p2 := h.cell 0 rfl (o := 2) rfl
  have z0 := hcell2 x hxp
  have f0 := hfree2 x
  have hxi : (x : Int) < pl.length := by omega
  obtain ⟨w1, hw1, hs1⟩ : ∃ w1, (w.setCell ⟨g2, x, none⟩ (.int .i64 xs.length)).drew = w1 ∧ Stage F0 W0 (handL p c bm (.slice (some ⟨g2, 0, none⟩) pl.length cp2) W s (pl.set x xs.length) q (.slice a xs.length cp) xs ++ r) w1 := by
    refine ⟨_, rfl, ?_⟩
    have hs := (h.storeRow 2 rfl x (.int .i64 xs.length) (natC_set pl x _)).drew
    unfold handL
    rw [List.length_set]
    exact hs
  have hA := hs1.later (below_alloc1 (o := .cells #[.int .i64 x] 3) (Below.refl _ _))
  generalize hn : xs.length = n at *
  generalize hn2 : pl.length = n2 at *
  have hT := assert_int
  clear h hcell2 hfree2
  have q1b := hs1.cell 3 rfl (o := 1) rfl
  go_enter Tryz.func311, Tryz.ntmps311
  go_wp2_with fail
  go_region
  try rw [hw1]
  clear hw1 q0 q1 p2 z0 f0 hT
  go_wp2_with (at_builtin; refine hA.wp_append 4 (by rw [← hn]; rfl) rfl _ _ 75 rfl (.int .i64 0) 8 Tryz.underlying75 info_int rfl (by decide) (Nat.zero_le _) rfl _ 1 [.int .i64 x] rfl (reads_new w1 #[.int .i64 x] _ 1 1 _ rfl rfl) (by intro u hu; simp at hu; subst hu; rfl) (by unfold maxLen; omega) (by omega) ?_)
  intro v' w2 hs2 _
  obtain ⟨a', cp', hv', _, _⟩ := owns_form (hs2.owns 4 rfl)
  subst hv'
  have e1 : cellsBy natC xs ++ [.int .i64 (x : Int)] = cellsBy natC (xs ++ [x]) := by rw [cellsBy_append, cellsBy_one]; rfl
  rw [e1] at hs2
  have hs3 := hs2.store 3 rfl 1 (.slice a' (n + 1) cp')
  have f1 := hs2.free 3 rfl 1
  have k1 := hs2.cell 3 rfl (o := 1) rfl
  have l3 := hs2.lt 3 rfl
  have hs4 : Stage F0 W0 (handL p c bm (.slice (some ⟨g2, 0, none⟩) n2 cp2) W s (pl.set x n) q (.slice a' (n + 1) cp') (xs ++ [x]) ++ r) (w2.setCell ⟨q, 1, none⟩ (.slice a' (n + 1) cp')) := by
    unfold handL
    rw [List.length_append, hn]
    exact hs3
  clear hA hs1 hs2 hs3 q1b
  go_wp2_with fail
  go_end0
  exact ⟨rfl, _, hs4⟩
end
end Go.Proofs.YtkcicnflcilekaaGreat
