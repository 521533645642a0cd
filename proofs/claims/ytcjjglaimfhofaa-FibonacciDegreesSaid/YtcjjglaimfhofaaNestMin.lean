/- Merged of NestRef8, CellsLooks, NestMin. -/
import Derived.Test.YtcjjglaimfhofaaNestRef7
import Derived.Test.YtcjjglaimfhofaaMeth
import Derived.Test.YtcjjglaimfhofaaNestSortMath
namespace Go.Proofs.Ytcjjglaimfhofaa
open Go.RowKit Go.Sort

/-- One slot, behind a join. -/
def joinC (a b : Nat) (c : CellD) : CellD := if c.home = b then ⟨a, c.key, c.seq⟩ else c
theorem join_list {a b : Nat} {l m : List CellD} (hl : m.length = l.length) (h : ∀ i, i < l.length → m.getD i .off = joinC a b (l.getD i .off)) : m = l.map (joinC a b) := by
  apply List.ext_getElem
  · simpa using hl
  · intro n h1 h2
    have := h n (by omega)
    simp only [List.getD_eq_getElem?_getD] at this
    rw [List.getElem?_eq_getElem h1, List.getElem?_eq_getElem (by omega)] at this
    simpa using this
section
variable {w : World} {hv cv : Value} {W : WS}
theorem refjoin_no (a b : Int) (h : NestAt w hv cv W) (hj : joinBW W a b = false) : Calls Try.prog 45 #[.agg #[hv, cv], .int .i64 a, .int .i64 b] w (NestPost w hv cv W (fun v => .tuple #[v, .bool false])) := by
  obtain ⟨a9, c9, hhv, _, _⟩ := h.hform
  generalize hn9 : W.heaps.length = n9 at hhv
  subst hhv
  obtain ⟨a8, c8, hcv, _, _⟩ := h.cform
  generalize hn8 : W.cells.length = n8 at hcv
  subst hcv
  obtain ⟨V, hV, hs⟩ : ∃ V, (w.alloc (.cells #[.slice a9 n9 c9, .slice a8 n8 c8] 59)).alloc (.cells #[nestZ, nestZ] 59) = V ∧
      Stage (fun _ => False) w [Ob.box w.heap.size #[.slice a9 n9 c9, .slice a8 n8 c8] 59, Ob.box (w.heap.size + 1) #[nestZ, nestZ] 59] V :=
    ⟨_, rfl, ((Stage.start w).alloc _ _).alloc' _ _ (size_alloc _ _)⟩
  have k0 := hs.cell 0 rfl (o := 0) rfl
  have k1 := hs.cell 0 rfl (o := 1) rfl
  have hA := refhas_any a (h.later hs.below)
  cases ha : hasW W a
  · rw [ha] at hA
    clear hj
    go_enter Try.func45, Try.ntmps45
    go_wp2_with fail
    clear hV k0 k1
    refine hA.mono ?_
    rintro e w1 ⟨rfl, hb⟩
    replace hs := hs.later hb
    have k0 := hs.cell 0 rfl (o := 0) rfl
    have k1 := hs.cell 0 rfl (o := 1) rfl
    have z0 := hs.cell 1 rfl (o := 0) rfl
    have z1 := hs.cell 1 rfl (o := 1) rfl
    have g0 := hs.free 1 rfl 0
    have g1 := hs.free 1 rfl 1
    have hs3 := (hs.store 1 rfl 0 (.slice a9 n9 c9)).store 1 rfl 1 (.slice a8 n8 c8)
    go_wp2_with fail
    exact bodyPost_ret (v := .tuple #[.agg #[.slice a9 n9 c9, .slice a8 n8 c8], .bool false]) (by simp [results, Try.results45, go_sem, z0, z1]) rfl ⟨_, _, rfl, hs3.below, h.later hs3.below, fun k hk => Or.inl hk⟩
  · rw [ha] at hA
    cases hb9 : hasW W b
    · clear hj
      go_enter Try.func45, Try.ntmps45
      go_wp2_with fail
      clear hV k0 k1
      refine hA.mono ?_
      rintro e w1 ⟨rfl, hb⟩
      replace hs := hs.later hb
      have k0 := hs.cell 0 rfl (o := 0) rfl
      have k1 := hs.cell 0 rfl (o := 1) rfl
      have hB := refhas_any b (h.later hs.below)
      rw [hb9] at hB
      clear hA hb
      go_wp2_with fail
      clear k0 k1
      refine hB.mono ?_
      rintro e w2 ⟨rfl, hb⟩
      replace hs := hs.later hb
      have k0 := hs.cell 0 rfl (o := 0) rfl
      have k1 := hs.cell 0 rfl (o := 1) rfl
      have z0 := hs.cell 1 rfl (o := 0) rfl
      have z1 := hs.cell 1 rfl (o := 1) rfl
      have g0 := hs.free 1 rfl 0
      have g1 := hs.free 1 rfl 1
      have hs3 := (hs.store 1 rfl 0 (.slice a9 n9 c9)).store 1 rfl 1 (.slice a8 n8 c8)
      go_wp2_with fail
      exact bodyPost_ret (v := .tuple #[.agg #[.slice a9 n9 c9, .slice a8 n8 c8], .bool false]) (by simp [results, Try.results45, go_sem, z0, z1]) rfl ⟨_, _, rfl, hs3.below, h.later hs3.below, fun k hk => Or.inl hk⟩
    · have hab : a = b := by simpa [joinBW, ha, hb9] using hj
      subst hab
      clear hj
      go_enter Try.func45, Try.ntmps45
      go_wp2_with fail
      clear hV k0 k1
      refine hA.mono ?_
      rintro e w1 ⟨rfl, hb⟩
      replace hs := hs.later hb
      have k0 := hs.cell 0 rfl (o := 0) rfl
      have k1 := hs.cell 0 rfl (o := 1) rfl
      have hB := refhas_any a (h.later hs.below)
      rw [hb9] at hB
      clear hA hb
      go_wp2_with fail
      clear k0 k1
      refine hB.mono ?_
      rintro e w2 ⟨rfl, hb⟩
      replace hs := hs.later hb
      have k0 := hs.cell 0 rfl (o := 0) rfl
      have k1 := hs.cell 0 rfl (o := 1) rfl
      have z0 := hs.cell 1 rfl (o := 0) rfl
      have z1 := hs.cell 1 rfl (o := 1) rfl
      have g0 := hs.free 1 rfl 0
      have g1 := hs.free 1 rfl 1
      have hs3 := (hs.store 1 rfl 0 (.slice a9 n9 c9)).store 1 rfl 1 (.slice a8 n8 c8)
      go_wp2_with fail
      exact bodyPost_ret (v := .tuple #[.agg #[.slice a9 n9 c9, .slice a8 n8 c8], .bool false]) (by simp [results, Try.results45, go_sem, z0, z1]) rfl ⟨_, _, rfl, hs3.below, h.later hs3.below, fun k hk => Or.inl hk⟩
theorem refjoin_yes (a b : Nat) (h : NestAt w hv cv W) (hj : joinBW W a b = true) (hab : a ≠ b) (hbl : b < W.heaps.length) : Calls Try.prog 45 #[.agg #[hv, cv], .int .i64 a, .int .i64 b] w (NestPost w hv cv ⟨W.heaps.set b false, W.cells.map (joinC a b)⟩ (fun v => .tuple #[v, .bool true])) := by
  obtain ⟨a9, c9, hhv, b91, b92⟩ := h.hform
  have hl9 := h.hlen
  generalize hn9 : W.heaps.length = n9 at hhv hbl b91 hl9
  subst hhv
  obtain ⟨a8, c8, hcv, b81, b82⟩ := h.cform
  have hl8 := h.clen
  generalize hn8 : W.cells.length = n8 at hcv b81 hl8
  subst hcv
  have ha : hasW W a = true ∧ hasW W b = true := by
    simp only [joinBW, Bool.and_eq_true] at hj
    exact ⟨hj.1, hj.2.1⟩
  have hab' : ((a : Int) == b) = false := by simp; omega
  obtain ⟨V, hV, hs⟩ : ∃ V, (w.alloc (.cells #[.slice a9 n9 c9, .slice a8 n8 c8] 59)).alloc (.cells #[nestZ, nestZ] 59) = V ∧
      Stage (fun _ => False) w [Ob.box w.heap.size #[.slice a9 n9 c9, .slice a8 n8 c8] 59, Ob.box (w.heap.size + 1) #[nestZ, nestZ] 59] V :=
    ⟨_, rfl, ((Stage.start w).alloc _ _).alloc' _ _ (size_alloc _ _)⟩
  have k0 := hs.cell 0 rfl (o := 0) rfl
  have k1 := hs.cell 0 rfl (o := 1) rfl
  have hA := refhas_any (a : Int) (h.later hs.below)
  rw [ha.1] at hA
  go_enter Try.func45, Try.ntmps45
  go_wp2_with fail
  clear hV k0 k1
  refine hA.mono ?_
  rintro e w1 ⟨rfl, hb⟩
  replace hs := hs.later hb
  have k0 := hs.cell 0 rfl (o := 0) rfl
  have k1 := hs.cell 0 rfl (o := 1) rfl
  have hB := refhas_any (b : Int) (h.later hs.below)
  rw [ha.2] at hB
  clear hA hb
  go_wp2_with fail
  clear k0 k1
  refine hB.mono ?_
  rintro e w2 ⟨rfl, hb⟩
  replace hs := hs.later hb
  have k0 := hs.cell 0 rfl (o := 0) rfl
  have k1 := hs.cell 0 rfl (o := 1) rfl
  clear hB hb
  have hsE := hs.emptyRow' 4 1 (b := w2.heap.size) rfl
  have hE := (h.later hsE.below).hrow
  rw [hn9] at hE
  have l0 := hs.lt 0 rfl
  have hVs := hs.size
  go_wp2_with (at_builtin; refine hsE.wp_append 2 rfl rfl _ _ 52 rfl _ 1 Try.underlying52 info_bool rfl (by decide) (Nat.zero_le _) rfl _ n9 _ rfl (reads_own hE) (bools_one _) (by unfold maxLen; omega) (by omega) ?_)
  intro v1 w3 hs1 hv1
  have q1 : ∀ k, rowF v1 k → w.heap.size ≤ k := fun k hk => (hv1 k hk).elim (fun h' => Nat.le_trans hVs (Nat.le_of_eq (show w2.heap.size = k from by simpa [rowF, Value.ownBlock] using h'))) (fun h' => by omega)
  obtain ⟨g, cap, rfl, b1, b2, _, hg, hc, hf⟩ := owns_at boolC_len false (hs1.owns 2 rfl) hn9 (by omega)
  have u0 := hc b 0 _ hbl (by omega) rfl
  rw [Nat.mul_one, Nat.add_zero] at u0
  have f0 := hf b
  unfold maxLen at b2
  have hset : (cellsBy boolC W.heaps).set b (.bool false) = cellsBy boolC (W.heaps.set b false) := by
    have := cellsBy_set boolC 1 boolC_len false W.heaps b 0 (.bool false) false (by omega) (by omega) rfl
    rwa [Nat.mul_one, Nat.add_zero] at this
  obtain ⟨V3, hV3, hs2⟩ : ∃ V3, w3.setCell ⟨g, b, none⟩ (.bool false) = V3 ∧ Stage (fun _ => False) w _ V3 := ⟨_, rfl, hs1.storeRow 2 rfl b (.bool false) hset⟩
  have m0 := hs2.cell 0 rfl (o := 0) rfl
  have m1 := hs2.cell 0 rfl (o := 1) rfl
  have l1 := hs2.lt 0 rfl
  have hsE2 := hs2.emptyRow' 68 3 (b := V3.heap.size) rfl
  have hE2 := (h.later hsE2.below).crow
  rw [hn8] at hE2
  have hVs2 := hs2.size
  clear hsE hE k0 k1 hs hs1 hf hc hv1 hset l0
  go_wp2_with (at_builtin; refine hsE2.wp_append 3 rfl rfl _ _ 57 rfl _ 24 Try.underlying57 info_ncell rfl (by decide) (Nat.zero_le _) rfl _ n8 _ rfl (reads_own hE2) (ncells_one _) (by unfold maxLen; omega) (by omega) ?_)
  clear hV3
  intro v2 w4 hs3 hv2
  have q2 : ∀ k, rowF v2 k → w.heap.size ≤ k := fun k hk => (hv2 k hk).elim (fun h' => Nat.le_trans hVs2 (Nat.le_of_eq (show V3.heap.size = k from by simpa [rowF, Value.ownBlock] using h'))) (fun h' => by omega)
  obtain ⟨a2, c2, rfl, b3, b4⟩ := owns_form (hs3.owns 3 rfl)
  unfold maxLen at b4
  clear hv2 hsE2 hE2 m0 m1 l1 hs2 u0 f0
  replace hs3 : Stage (fun _ => False) w [Ob.box w.heap.size #[.slice a9 n9 c9, .slice a8 n8 c8] 59, Ob.box (w.heap.size + 1) #[nestZ, nestZ] 59, Ob.row 0 4 1 (.slice (some ⟨g, 0, none⟩) n9 cap) n9 (cellsBy boolC (W.heaps.set b false)), Ob.row 0 68 3 (.slice a2 n8 c2) n8 (cellsBy ncellC W.cells)] w4 := hs3
  go_wp2_with fail
  go_loopw [41] (fun i wr => ∃ (k : Nat) (L : List CellD), k ≤ n8 ∧ i = .int .i64 k ∧ L.length = n8 ∧ (∀ i, i < n8 → L.getD i .off = if i < k then joinC a b (W.cells.getD i .off) else W.cells.getD i .off) ∧ Stage (fun _ => False) w [Ob.box w.heap.size #[.slice a9 n9 c9, .slice a8 n8 c8] 59, Ob.box (w.heap.size + 1) #[nestZ, nestZ] 59, Ob.row 0 4 1 (.slice (some ⟨g, 0, none⟩) n9 cap) n9 (cellsBy boolC (W.heaps.set b false)), Ob.row 0 68 3 (.slice a2 n8 c2) n8 (cellsBy ncellC L)] wr) (fun i _ => n8 - (intOf i).toNat)
  case atStart => exact ⟨0, W.cells, Nat.zero_le _, rfl, hn8, fun i _ => by rw [if_neg (by omega)], hs3⟩
  case round =>
    clear hs3
    obtain ⟨k, L, hk, rfl, hL, hLi, hs⟩ := hrel
    by_cases hlt : k < n8
    · have hki : (k : Int) < n8 := by omega
      obtain ⟨g2, c2', hcc, d1, d2, _, hg2, hc, hf⟩ := owns_at ncellC_len .off (hs.owns 3 rfl) hL (by omega)
      cases hcc
      have u0 := hc k 0 _ hlt (by omega) rfl
      have u1 := hc k 1 _ hlt (by omega) rfl
      have u2 := hc k 2 _ hlt (by omega) rfl
      rw [Nat.add_zero] at u0
      have f0 := hf (k * 3)
      have f1 := hf (k * 3 + 1)
      have f2 := hf (k * 3 + 2)
      have hLk := hLi k hlt
      rw [if_neg (by omega)] at hLk
      have hput := ncellC_put L k (by omega)
      have hnext : ∀ M : List CellD, (∀ i, i < n8 → M.getD i .off = if k = i then joinC a b (W.cells.getD k .off) else L.getD i .off) → ∀ i, i < n8 → M.getD i .off = if i < k + 1 then joinC a b (W.cells.getD i .off) else W.cells.getD i .off := fun M hM i hi => by
        rw [hM i hi]
        by_cases e : k = i
        · subst e; rw [if_pos rfl, if_pos (by omega)]
        · rw [if_neg e, hLi i hi]
          by_cases e2 : i < k
          · rw [if_pos e2, if_pos (by omega)]
          · rw [if_neg e2, if_neg (by omega)]
      rw [← hLk] at hnext
      have hgs := fun i (hi : i < n8) x => getD_set' L k i x .off (by omega)
      generalize hcd : L.getD k .off = c at *
      clear hc hf hLk hLi
      by_cases e : c.home = b
      · have e' : ((c.home : Int) == b) = true := by rw [e]; simp
        have hst := ((hs.storeRow 3 rfl (k * 3) (.int .i64 a) rfl).storeRow 3 rfl (k * 3 + 1) (.int .i64 c.key) rfl).storeRow 3 rfl (k * 3 + 2) (.int .u64 c.seq) (hput ⟨a, c.key, c.seq⟩)
        have hn := hnext (L.set k ⟨a, c.key, c.seq⟩) (fun i hi => by rw [hgs i hi]; unfold joinC; rw [if_pos e])
        replace hn := Lib.hid hn
        have hll : (L.set k ⟨a, c.key, c.seq⟩).length = n8 := by rw [List.length_set]; exact hL
        clear hnext hgs hput e hcd
        go_wp2_with fail
        go_roundw
        case rel => exact ⟨k + 1, L.set k ⟨a, c.key, c.seq⟩, by omega, by go_num, hll, hn.out, (hst.alloc _ _).take 4⟩
        case measure => simp [intOf]; omega
      · have e' : ((c.home : Int) == b) = false := by simp; omega
        have hn := hnext L (fun i hi => by
          by_cases e2 : k = i
          · subst e2
            rw [if_pos rfl]
            unfold joinC
            rw [if_neg e]
            exact hcd
          · rw [if_neg e2])
        replace hn := Lib.hid hn
        clear hnext hgs hput e hcd
        go_wp2_with fail
        go_roundw
        case rel => exact ⟨k + 1, L, by omega, by go_num, hL, hn.out, (hs.alloc _ _).take 4⟩
        case measure => simp [intOf]; omega
    · have hki : ¬ (k : Int) < n8 := by omega
      obtain rfl : k = n8 := by omega
      have z0 := hs.cell 1 rfl (o := 0) rfl
      have z1 := hs.cell 1 rfl (o := 1) rfl
      have g0 := hs.free 1 rfl 0
      have g1 := hs.free 1 rfl 1
      have hs4 := (hs.store 1 rfl 0 (.slice (some ⟨g, 0, none⟩) n9 cap)).store 1 rfl 1 (.slice a2 k c2)
      have hm := join_list (a := a) (b := b) (hL.trans hn8.symm) (fun i hi => by
        have := hLi i (by omega)
        rwa [if_pos (by omega)] at this)
      have hrow := hs4.owns 3 rfl
      rw [hm] at hrow
      clear hm hLi
      go_wp2_with fail
      refine bodyPost_ret (v := .tuple #[.agg #[.slice (some ⟨g, 0, none⟩) n9 cap, .slice a2 k c2], .bool true]) (by simp [results, Try.results45, go_sem, z0, z1]) rfl ⟨_, _, rfl, hs4.below, ⟨?_, ?_, ?_, ?_⟩, ?_⟩
      · show World.ownsRow _ _ _ _ _ (W.heaps.set b false).length _
        rw [List.length_set, hn9]
        exact hs4.owns 2 rfl
      · show World.ownsRow _ _ _ _ _ (W.cells.map _).length _
        rw [List.length_map, hn8]
        exact hrow
      · show (W.heaps.set b false).length ≤ _
        rw [List.length_set, hn9]; exact hl9
      · show (W.cells.map _).length ≤ _
        rw [List.length_map, hn8]; exact hl8
      · rintro j (hj | hj)
        · exact Or.inr (q1 j hj)
        · exact Or.inr (q2 j hj)
theorem refjoin_any (a b : Int) (h : NestAt w hv cv W) : Calls Try.prog 45 #[.agg #[hv, cv], .int .i64 a, .int .i64 b] w (NestPost w hv cv (joinW W a b) (fun v => .tuple #[v, .bool (joinBW W a b)])) := by
  cases hj : joinBW W a b
  · have e1 : joinW W a b = W := by simp [joinW, hj]
    rw [e1]
    exact refjoin_no a b h hj
  · have e1 : joinW W a b = ⟨W.heaps.set b.toNat false, W.cells.map (joinC a.toNat b.toNat)⟩ := by unfold joinW; rw [if_pos hj]; rfl
    have hj' := hj
    simp only [joinBW, Bool.and_eq_true, decide_eq_true_eq] at hj'
    obtain ⟨i, rfl, i1, i2, _⟩ := has_nat hj'.1
    obtain ⟨j, rfl, j1, j2, _⟩ := has_nat hj'.2.1
    rw [e1]
    simp only [Int.toNat_natCast]
    exact refjoin_yes i j h hj (by have := hj'.2.2; omega) j2
end
end Go.Proofs.Ytcjjglaimfhofaa

namespace Go.Proofs.Ytcjjglaimfhofaa
open Go.RowKit Go.Sort

/-- The thing O tells where the slots of W are, by these functions. -/
structure Tells (O : Ob) (H : World → Prop) (W : WS) (fE fH fB fL : Fn) : Prop where
  fit : W.Fit
  there : ∀ {w : World} {F : Nat → Prop}, O.holds w F → H w
  entry : ∀ (x : Int) (w : World) (F : Nat → Prop), O.holds w F → Calls Try.prog fE.id #[fE.rv, .int .i64 x] w fun e w' => e = .returned (.tuple #[.agg #[.int .i64 (cellW W x).key, .int .u64 (cellW W x).seq], .bool (inW W x)]) ∧ Below w.heap.size w w'
  home : ∀ (x : Int) (w : World) (F : Nat → Prop), O.holds w F → Calls Try.prog fH.id #[fH.rv, .int .i64 x] w fun e w' => e = .returned (.tuple #[.int .i64 (cellW W x).home, .bool (inW W x)]) ∧ ∃ F', O.holds w' F' ∧ Moved F F' w w'
  has : ∀ (y : Int) (w : World) (F : Nat → Prop), O.holds w F → Calls Try.prog fB.id #[fB.rv, .int .i64 y] w fun e w' => e = .returned (.bool (hasW W y)) ∧ Below w.heap.size w w'
  len : ∀ (y : Int), -9223372036854775808 ≤ y ∧ y ≤ 9223372036854775807 → ∀ (w : World) (F : Nat → Prop), O.holds w F → Calls Try.prog fL.id #[fL.rv, .int .i64 y] w fun e w' => e = .returned (.int .i64 (lenW W y)) ∧ Below w.heap.size w w'
theorem Stage.nestAt {F0 : Nat → Prop} {W0 w : World} {l : List Ob} (h : Stage F0 W0 l w) (i : Nat) {hv cv : Value} {W : WS} (hi : l[i]? = some (Ob.nest hv cv W)) : NestAt w hv cv W := by
  obtain ⟨F, h, _⟩ := h.get hi; exact h
set_option maxHeartbeats 1000000 in
set_option maxRecDepth 100000 in
theorem looks_any {O : Ob} {H : World → Prop} {v : Value} {W : WS} {T : TypeId} {fE fH fB fL : Fn} (hT : Tells O H W fE fH fB fL)
    (mE : Meth H T v "Entry" fE) (mH : Meth H T v "Home" fH) (mB : Meth H T v "Has" fB) (mL : Meth H T v "Len" fL)
    {hv cv : Value} (k y x q r : Int) (hy : -9223372036854775808 ≤ y ∧ y ≤ 9223372036854775807) {F : Nat → Prop} {w : World} (hs : Stage F w [O, Ob.nest hv cv W] w) :
    Calls Try.prog 57 #[.iface T v, .agg #[hv, cv], .agg #[.int .i64 k, .int .i64 y, .int .i64 x, .int .i64 q, .int .u64 r]] w fun e w' => e = .returned (.bool true) ∧ Stage F w [O, Ob.nest hv cv W] w' := by
  have hN := hs.nestAt 1 rfl
  obtain ⟨a9, c9, hhv, _, _⟩ := hN.hform
  generalize hn9 : W.heaps.length = n9 at hhv
  subst hhv
  obtain ⟨a8, c8, hcv, b81, b82⟩ := hN.cform
  have hl8 := hN.clen
  generalize hn8 : W.cells.length = n8 at hcv b81 hl8
  subst hcv
  obtain ⟨V, hV, hs1⟩ : ∃ V, (w.alloc (.cells #[.slice a9 n9 c9, .slice a8 n8 c8] 59)).alloc (.cells #[.int .i64 k, .int .i64 y, .int .i64 x, .int .i64 q, .int .u64 r] 65) = V ∧
      Stage F w [O, Ob.nest (.slice a9 n9 c9) (.slice a8 n8 c8) W, Ob.box w.heap.size #[.slice a9 n9 c9, .slice a8 n8 c8] 59, Ob.box (w.heap.size + 1) #[.int .i64 k, .int .i64 y, .int .i64 x, .int .i64 q, .int .u64 r] 65] V :=
    ⟨_, rfl, (hs.alloc _ _).alloc' _ _ (size_alloc _ _)⟩
  have a2 := hs1.cell 3 rfl (o := 2) rfl
  have hE := hs1.askB 0 rfl (fun F' ho => hT.entry x V F' ho)
  have hH := (hs1.get (i := 0) rfl).elim fun _ h => hT.there h
  have m1 := mE.find _ hH
  have m2 := mE.enter
  clear hN
  go_enter Try.func57, Try.ntmps57
  go_wp2_with fail
  clear hV m1 m2 hH
  refine hE.mono ?_
  rintro e w1 ⟨rfl, hs2⟩
  clear hE a2 hs1
  have hs3 := hs2.alloc #[.int .i64 (cellW W x).key, .int .u64 (cellW W x).seq] 63
  obtain ⟨V1, hV1, hs3⟩ : ∃ V1, w1.alloc (.cells #[.int .i64 (cellW W x).key, .int .u64 (cellW W x).seq] 63) = V1 ∧ Stage F w _ V1 := ⟨_, rfl, hs3⟩
  have a2 := hs3.cell 3 rfl (o := 2) rfl
  have hH := hs3.call 0 rfl (fun F' ho => hT.home x V1 F' ho)
  have hH := (hs3.get (i := 0) rfl).elim fun _ h => hT.there h
  have m1 := mH.find _ hH
  have m2 := mH.enter
  go_wp2_with fail
  clear hV1 m1 m2 hs2 hH
  refine hH.mono ?_
  rintro e w2 ⟨rfl, hs4⟩
  clear hH a2 hs3
  generalize w1.heap.size = b4 at *
  have a2 := hs4.cell 3 rfl (o := 2) rfl
  have n0 := hs4.cell 2 rfl (o := 0) rfl
  have n1 := hs4.cell 2 rfl (o := 1) rfl
  have hI := refin_any x (hs4.nestAt 1 rfl)
  go_wp2_with fail
  clear a2 n0 n1
  refine hI.mono ?_
  rintro e w3 ⟨rfl, hb⟩
  have hs5 := hs4.later hb
  clear hI hb hs4
  have a1 := cell_regrown (hs5.cell 3 rfl (o := 1) rfl)
  have n0 := cell_regrown (hs5.cell 2 rfl (o := 0) rfl)
  have n1 := cell_regrown (hs5.cell 2 rfl (o := 1) rfl)
  have cA : ∀ d' os, Calls Try.prog fB.id #[fB.rv, .int .i64 y] (grow (redrawn w3 d') os) fun e w'' => e = .returned (.bool (hasW W y)) ∧ ∃ p : Regrown, w'' = grow (redrawn w3 p.d) p.os := fun d' os => Calls.regrown_of (by obtain ⟨F', ho⟩ := (hs5.later (below_regrown w3 d' os)).get (i := 0) rfl; exact hT.has y _ F' ho)
  have cB : ∀ d' os, Calls Try.prog fL.id #[fL.rv, .int .i64 y] (grow (redrawn w3 d') os) fun e w'' => e = .returned (.int .i64 (lenW W y)) ∧ ∃ p : Regrown, w'' = grow (redrawn w3 p.d) p.os := fun d' os => Calls.regrown_of (by obtain ⟨F', ho⟩ := (hs5.later (below_regrown w3 d' os)).get (i := 0) rfl; exact hT.len y hy _ F' ho)
  have cC : ∀ d' os, Calls Try.prog 26 #[.agg #[.slice a9 n9 c9, .slice a8 n8 c8], .int .i64 y] (grow (redrawn w3 d') os) fun e w'' => e = .returned (.bool (hasW W y)) ∧ ∃ p : Regrown, w'' = grow (redrawn w3 p.d) p.os := fun d' os => Calls.regrown_of (refhas_any y ((hs5.nestAt 1 rfl).later (below_regrown w3 d' os)))
  have cD : ∀ d' os, Calls Try.prog 24 #[.agg #[.slice a9 n9 c9, .slice a8 n8 c8], .int .i64 y] (grow (redrawn w3 d') os) fun e w'' => e = .returned (.int .i64 (lenW W y)) ∧ ∃ p : Regrown, w'' = grow (redrawn w3 p.d) p.os := fun d' os => Calls.regrown_of (reflen_any y ((hs5.nestAt 1 rfl).later (below_regrown w3 d' os)))
  have hH : ∀ d' os, H (grow (redrawn w3 d') os) := fun d' os => ((hs5.later (below_regrown w3 d' os)).get (i := 0) rfl).elim fun _ h => hT.there h
  have m1 := fun d' os => mB.find _ (hH d' os)
  have m2 := mB.enter
  have m3 := fun d' os => mL.find _ (hH d' os)
  have m4 := mL.enter
  go_wp2_with fail
  refine wp_region_quiet_below (by kernel_rfl) (by kernel_rfl) ?_
  repeat (first | go_big_quiet_step (first | with_reducible exact cA _ _ | with_reducible exact cB _ _ | with_reducible exact cC _ _ | with_reducible exact cD _ _) | quiet_step (fail))
  refine wpQuiet_nil ?_
  intro W3 hw
  replace hw := below_regrown' hw
  have hs6 := hs5.later hw
  clear hH cA cB cC cD m1 m2 m3 m4 a1 n0 n1 hs5 hw
  have e0 := hs6.cell 4 rfl (o := 0) rfl
  have e1 := hs6.cell 4 rfl (o := 1) rfl
  have a2 := hs6.cell 3 rfl (o := 2) rfl
  have n1 := hs6.cell 2 rfl (o := 1) rfl
  cases hin : inW W x
  · have ho := hT.fit.cellOff hin
    rw [ho]
    replace e0 : W3.cell? ⟨b4, 0, none⟩ = some (.int .i64 0) := by rw [ho] at e0; exact e0
    replace e1 : W3.cell? ⟨b4, 1, none⟩ = some (.int .u64 0) := by rw [ho] at e1; exact e1
    have h0 : (CellD.off.home : Int) = 0 := rfl
    clear ho
    go_wp2_with fail
    go_ret
    exact ⟨rfl, hs6.take 2⟩
  · obtain ⟨i, rfl, hi, _⟩ := in_nat hin
    have hc := cell_nat W i hi
    rw [hc] at e0 e1
    rw [hc]
    obtain ⟨g, c8', hcc, hg, u0, u1, u2⟩ := (hs6.nestAt 1 rfl).ccell i hi
    rw [hn8] at hcc
    cases hcc
    generalize W.cells.getD i .off = c at *
    have hi8 : i < n8 := by omega
    clear hc
    go_wp2_with fail
    go_quiet (fail)
    go_wp2_with fail
    go_ret
    exact ⟨rfl, (hs6.drewN _).take 2⟩

end Go.Proofs.Ytcjjglaimfhofaa

namespace Go.Proofs.Ytcjjglaimfhofaa
open Go.RowKit Go.Sort

def minI (W : WS) (h : Int) : Int := match minW W h with | none => 0 | some m => m
def minB (W : WS) (h : Int) : Bool := (minW W h).isSome
theorem minI_some {W : WS} {h : Int} {m : Nat} (e : minW W h = some m) : minI W h = m ∧ minB W h = true := by simp [minI, minB, e]
theorem minI_none {W : WS} {h : Int} (e : minW W h = none) : minI W h = 0 ∧ minB W h = false := by simp [minI, minB, e]
def bestI (W : WS) (h : Int) (k : Nat) : Int := match minTo W h k with | none => -1 | some m => m
theorem best_zero (W : WS) (h : Int) : bestI W h 0 = -1 := rfl
theorem best_lt (W : WS) (h : Int) (k : Nat) (hk : k ≤ W.cells.length) : -1 ≤ bestI W h k ∧ bestI W h k < k := by
  unfold bestI
  cases e : minTo W h k with
  | none => simp only; omega
  | some m => have := (minTo_some k hk m e).1; simp only; omega
theorem best_no {W : WS} {h : Int} {k : Nat} (hc : ¬ (0 < h ∧ ((W.cells.getD k .off).home : Int) = h)) : bestI W h (k + 1) = bestI W h k := by
  unfold bestI
  rw [minTo, if_neg (show ¬ (0 < h ∧ (homeAt W k : Int) = h) from hc)]
theorem best_first {W : WS} {h : Int} {k : Nat} (hc : 0 < h ∧ ((W.cells.getD k .off).home : Int) = h) (hb : bestI W h k < 0) : bestI W h (k + 1) = k := by
  unfold bestI at *
  rw [minTo, if_pos (show 0 < h ∧ (homeAt W k : Int) = h from hc)]
  cases e : minTo W h k with
  | none => rfl
  | some m => rw [e] at hb; simp only at hb; omega
theorem best_next {W : WS} {h : Int} {k : Nat} (hc : 0 < h ∧ ((W.cells.getD k .off).home : Int) = h) (hb : ¬ bestI W h k < 0) : bestI W h (k + 1) = if aheadW W k (bestI W h k) then (k : Int) else bestI W h k := by
  unfold bestI at *
  rw [minTo, if_pos (show 0 < h ∧ (homeAt W k : Int) = h from hc)]
  cases e : minTo W h k with
  | none => rw [e] at hb; simp at hb
  | some m => simp only; cases aheadW W k m <;> rfl
theorem best_end (W : WS) (h : Int) : (bestI W h W.cells.length < 0 → minI W h = 0 ∧ minB W h = false) ∧ (0 ≤ bestI W h W.cells.length → minI W h = bestI W h W.cells.length ∧ minB W h = true) := by
  unfold bestI minI minB minW
  cases e : minTo W h W.cells.length with
  | none => simp
  | some m => simp
section
variable {w : World} {hv cv : Value} {W : WS}
theorem refmin_any (y : Int) (h : NestAt w hv cv W) : Calls Try.prog 42 #[.agg #[hv, cv], .int .i64 y] w fun e w' => e = .returned (.tuple #[.int .i64 (minI W y), .bool (minB W y)]) ∧ Below w.heap.size w w' := by
  obtain ⟨a9, c9, hhv, _, _⟩ := h.hform
  generalize hn9 : W.heaps.length = n9 at hhv
  subst hhv
  obtain ⟨a8, c8, hcv, b81, b82⟩ := h.cform
  have hcl := h.clen
  obtain ⟨f, hf⟩ : ∃ f : Nat → Int, f = bestI W y := ⟨_, rfl⟩
  obtain ⟨g, hg⟩ : ∃ g : Nat → Int → Bool, g = fun (k : Nat) b => aheadW W k b := ⟨_, rfl⟩
  have f0 : f 0 = -1 := by rw [hf]; rfl
  have fle : ∀ k, k ≤ W.cells.length → -1 ≤ f k ∧ f k < k := fun k hk => by rw [hf]; exact best_lt W y k hk
  have fno : ∀ k, ¬ (0 < y ∧ ((W.cells.getD k .off).home : Int) = y) → f (k + 1) = f k := fun k hk => by rw [hf]; exact best_no hk
  have ffirst : ∀ k, (0 < y ∧ ((W.cells.getD k .off).home : Int) = y) → f k < 0 → f (k + 1) = k := fun k hk => by rw [hf]; exact best_first hk
  have fnext : ∀ k, (0 < y ∧ ((W.cells.getD k .off).home : Int) = y) → 0 ≤ f k → f (k + 1) = if g k (f k) then (k : Int) else f k := fun k hk hb => by rw [hf] at hb ⊢; rw [hg]; exact best_next hk (by omega)
  have fend := best_end W y
  rw [← hf] at fend
  generalize minI W y = M at *
  generalize minB W y = B at *
  have hahead : ∀ (w1 : World) (k : Nat) (b : Int), NestAt w1 (.slice a9 n9 c9) cv W → Calls Try.prog 62 #[.agg #[.slice a9 n9 c9, cv], .int .i64 k, .int .i64 b] w1 fun e w' => e = .returned (.bool (g k b)) ∧ Below w1.heap.size w1 w' := fun w1 k b h1 => by rw [hg]; exact refahead_any k b h1
  clear hg hf
  generalize hn8 : W.cells.length = n8 at hcv b81 hcl fle fend
  subst hcv
  obtain ⟨V, hV, hs⟩ : ∃ V, w.alloc (.cells #[.slice a9 n9 c9, .slice a8 n8 c8] 59) = V ∧ Stage (fun _ => False) w [Ob.box w.heap.size #[.slice a9 n9 c9, .slice a8 n8 c8] 59] V := ⟨_, rfl, (Stage.start w).alloc _ _⟩
  have k1 := hs.cell 0 rfl (o := 1) rfl
  go_enter Try.func42, Try.ntmps42
  go_wp2_with fail
  clear hV
  generalize w.heap.size = b0 at *
  go_loopw [6, 12] (fun c i wr => ∃ k : Nat, k ≤ n8 ∧ i = .int .i64 k ∧ c = .int .i64 (f k) ∧ Stage (fun _ => False) w [Ob.box b0 #[.slice a9 n9 c9, .slice a8 n8 c8] 59] wr) (fun _ i _ => n8 - (intOf i).toNat)
  case atStart => exact ⟨0, Nat.zero_le _, rfl, by rw [f0], hs⟩
  case round =>
    clear hs k1
    obtain ⟨k, hk, rfl, rfl, hs⟩ := hrel
    have hfk := fle k hk
    by_cases hlt : k < n8
    · have hki : (k : Int) < n8 := by omega
      obtain ⟨g8, c8', hcc, hg, u0, u1, u2⟩ := (h.later hs.below).ccell k (by omega)
      rw [hn8] at hcc
      cases hcc
      have y2 := fno k
      have y3 := ffirst k
      have y4 := fnext k
      generalize W.cells.getD k .off = d at *
      obtain ⟨w1, hw1, hs1⟩ : ∃ w1, wr.alloc (.cells #[.int .i64 d.home, .int .i64 d.key, .int .u64 d.seq] 68) = w1 ∧ Stage (fun _ => False) w [Ob.box b0 #[.slice a9 n9 c9, .slice (some ⟨g8, 0, none⟩) n8 c8] 59, Ob.box wr.heap.size #[.int .i64 d.home, .int .i64 d.key, .int .u64 d.seq] 68] w1 := ⟨_, rfl, hs.alloc _ _⟩
      have d0 := hs1.cell 1 rfl (o := 0) rfl
      have d1 := hs1.cell 1 rfl (o := 1) rfl
      have d2 := hs1.cell 1 rfl (o := 2) rfl
      have k0 := hs1.cell 0 rfl (o := 0) rfl
      have k1 := hs1.cell 0 rfl (o := 1) rfl
      by_cases hc : 0 < y ∧ (d.home : Int) = y
      · have e' : ((d.home : Int) == y) = true := by simpa using hc.2
        have hy := hc.1
        by_cases hb : f k < 0
        · have q := Lib.hid (y3 hc hb)
          clear y2 y3 y4 hc
          go_wp2_with fail
          go_roundw
          case rel => exact ⟨k + 1, by omega, by go_num, by rw [q.out], hs1.take 1⟩
          case measure => simp [intOf]; omega
        · have q := Lib.hid (y4 hc (by omega))
          have hA := hahead w1 k (f k) (h.later hs1.below)
          clear y2 y3 y4 hc
          go_wp2_with fail
          refine hA.mono ?_
          rintro e w2 ⟨rfl, hb2⟩
          have hs2 := hs1.later hb2
          clear hA hw1
          cases hgk : g k (f k)
          · have q2 := q.out
            rw [hgk] at q2
            replace q2 := Lib.hid q2
            clear q
            go_wp2_with fail
            go_roundw
            case rel => exact ⟨k + 1, by omega, by go_num, by rw [q2.out]; rfl, hs2.take 1⟩
            case measure => simp [intOf]; omega
          · have q2 := q.out
            rw [hgk] at q2
            replace q2 := Lib.hid q2
            clear q
            go_wp2_with fail
            go_roundw
            case rel => exact ⟨k + 1, by omega, by go_num, by rw [q2.out]; rfl, hs2.take 1⟩
            case measure => simp [intOf]; omega
      · have q := Lib.hid (y2 hc)
        clear y2 y3 y4
        by_cases hy : 0 < y
        · have e' : ((d.home : Int) == y) = false := by simpa using fun e => hc ⟨hy, e⟩
          clear hc
          go_wp2_with fail
          go_roundw
          case rel => exact ⟨k + 1, by omega, by go_num, by rw [q.out], hs1.take 1⟩
          case measure => simp [intOf]; omega
        · clear hc
          go_wp2_with fail
          go_roundw
          case rel => exact ⟨k + 1, by omega, by go_num, by rw [q.out], hs1.take 1⟩
          case measure => simp [intOf]; omega
    · have hki : ¬ (k : Int) < n8 := by omega
      obtain rfl : k = n8 := by omega
      by_cases hb : f k < 0
      · obtain ⟨rfl, rfl⟩ := fend.1 hb
        clear fend
        go_wp2_with fail
        exact bodyPost_ret (v := .tuple #[.int .i64 0, .bool false]) (by simp [results, Try.results42, go_sem]) rfl ⟨rfl, hs.below⟩
      · obtain ⟨rfl, rfl⟩ := fend.2 (by omega)
        clear fend
        go_wp2_with fail
        exact bodyPost_ret (v := .tuple #[.int .i64 (f k), .bool true]) (by simp [results, Try.results42, go_sem]) rfl ⟨rfl, hs.below⟩
end
end Go.Proofs.Ytcjjglaimfhofaa
