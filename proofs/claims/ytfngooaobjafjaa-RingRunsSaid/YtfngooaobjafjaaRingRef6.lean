/- What the document's functions on rings return: Part. -/
import Derived.Test.YtfngooaobjafjaaRingRef5
namespace Go.Proofs.Ytfngooaobjafjaa
open Go.RowKit Go.Sort

namespace Stage
variable {F0 : Nat → Prop} {W w : World} {l : List Ob}
/-- One thing more, whoever made it. -/
theorem also {O : Ob} {w' : World} (h : Stage F0 W l w) (h2 : Stage (fun _ => False) w [O] w') : Stage F0 W (l ++ [O]) w' := by
  have hb := h2.below
  obtain ⟨-, G, g1, g2, g3⟩ := h2
  exact h.add hb (g1 0 _ rfl) fun k hk => (g3 0 k hk).1.resolve_left fun x => x
/-- What a new row's tail reads as. -/
theorem tailReads (h : Stage F0 W l w) (i : Nat) {g c : Nat} {s : List Int} (hi : l[i]? = some (Ob.ints (.slice (some ⟨g, 0, none⟩) s.length c) s)) {k : Nat} (hk : k < s.length) :
    RowReads w 1 (.slice (some ⟨g, k, none⟩) (s.length - k) (c - k)) (s.length - k) (cellsBy intC (s.drop k)) := by
  obtain ⟨F, hF⟩ := h.get hi
  obtain ⟨g', o, c', e, _, _, _, hr, _⟩ := (IntsIn.of_ints hF (F := F) fun b hb => hb).drop hk
  injection e with e1 e2 e3
  cases e1
  subst e3
  rw [Nat.zero_add] at hr
  exact hr
/-- 'append(row, x, ..)', x, .. written out in a block just made, in a region that draws its order. -/
theorem step_appendArr {P : Program} {e : TypeId} {v z : Value} {n bytes : Nat} {xs : List Value} {ops : Array Oper} {o : Oper} {a : Act} {K : Act → World → Prop} {Q : Exit → Act → World → Prop} {E : Prop} (hs : Stage F0 W l w) (i : Nat) (hi : l[i]? = some (Ob.row 0 e 1 v n xs)) {b m : Nat} {c : Array Value} (hb : w.heap.size = b) (hgd : o.guard = none) (s x : Operand) (t : TypeId)
    (ho : o.op = .call { callee := .builtin .append, args := #[s, x], argTypes := #[t, t] }) (ht : P.underlying t = some (.slice e)) (hinfo : (P.info? e).map (fun i => (i.zero, i.size, i.bytes)) = some (some z, 1, bytes)) (hzs : z.cells.size = 1)
    (hv : a.eval s = v) (hx : a.eval x = .slice (some ⟨b, 0, none⟩) m m) (hc : c.size = m * 1) (h1 : ∀ u ∈ c.toList, u.oneCell' = true) (h63 : n + m ≤ maxLen) (hbytes : (n + m) * bytes ≤ 140737488355328)
    (hK : ∀ v' w', Stage F0 W (l.set i (Ob.row 0 e 1 v' (n + m) (xs ++ c.toList))) w' → K (a.put o.dst v') w') :
    if Region.wanted o (yielded ops a.tmps) = true then Oper.wp P o a (w.alloc (.cells c e)) K Q else E := by
  subst hb
  have hA := hs.alloc c e
  have hl : l.length < (l ++ [Ob.box w.heap.size c e]).length := by simp
  have hi' : (l ++ [Ob.box w.heap.size c e])[i]? = some (Ob.row 0 e 1 v n xs) := by rw [List.getElem?_append_left (List.getElem?_eq_some_iff.1 hi).1]; exact hi
  have hj : (l ++ [Ob.box w.heap.size c e])[l.length]? = some (Ob.box w.heap.size c e) := by simp
  refine hA.step_append i hi' hgd s x t ho z bytes ht hinfo hzs (by decide) (Nat.zero_le _) hv _ m c.toList hx (reads_box (hA.blk _ hj) 1 m hc) h1 h63 hbytes fun v' w' h2 _ => hK v' w' ?_
  have h3 := h2.take l.length
  have e1 : ((l ++ [Ob.box w.heap.size c e]).set i (Ob.row 0 e 1 v' (n + m) (xs ++ c.toList))).take l.length = l.set i (Ob.row 0 e 1 v' (n + m) (xs ++ c.toList)) := by
    rw [List.set_append_left _ _ (List.getElem?_eq_some_iff.1 hi).1, List.take_append_of_le_length (by simp), List.take_of_length_le (by simp)]
  rw [e1] at h3
  exact h3
theorem oneRow {O : Ob} {a : Value} {s : List Int} (h : Stage F0 W [O, Ob.ints a s] w) : Stage F0 W [O, Ob.rowsAre [(a, s)] [s]] w :=
  rowsAdd (l := [O]) (Z := []) (R := []) (h.rowsNone.select [0, 2, 1] (by decide) rfl)
theorem twoRows {O : Ob} {a c : Value} {s t : List Int} (h : Stage F0 W [O, Ob.ints a s, Ob.ints c t] w) : Stage F0 W [O, Ob.rowsAre [(a, s), (c, t)] [s, t]] w := by
  have h1 := rowsAdd (l := [O, Ob.ints c t]) (Z := []) (R := []) (h.rowsNone.select [0, 2, 3, 1] (by decide) rfl)
  exact rowsAdd (l := [O]) (Z := [(a, s)]) (R := [s]) (h1.select [0, 2, 1] (by decide) rfl)
end Stage
theorem outer_two {v : Value} {Z : List (Value × List Int)} {a c : Value} {s t : List Int} {F0 : Nat → Prop} {W w : World} {l : List Ob} (h : Stage F0 W (Ob.row 0 30 1 v (Z.length + 2) (Z.map Prod.fst ++ [a, c]) :: l) w) : Stage F0 W (Ob.outer v (Z ++ [(a, s), (c, t)]) :: l) w := by
  unfold Ob.outer
  rw [List.length_append, List.map_append]
  exact h
section
variable {w : World} {F : Nat → Prop} {v : Value} {R : List (List Int)}
theorem doc_two {R' : List (List Int)} (h0 : ∀ b, F b → b < w.heap.size) (u a c : Value) (s t : List Int) (Z : List (Value × List Int)) (w' : World) (H : RowsAre w F Z R') (h : Stage (fun _ => False) w [Ob.row 0 30 1 u (Z.length + 2) (Z.map Prod.fst ++ [a, c]), Ob.ints a s, Ob.ints c t] w') :
    ∃ F', (Ob.docL u (R' ++ [s, t])).holds w' F' ∧ Moved F F' w w' :=
  doc_close H h0 (outer_two h).twoRows
theorem doc_one {R' : List (List Int)} (h0 : ∀ b, F b → b < w.heap.size) (u a : Value) (s : List Int) (Z : List (Value × List Int)) (w' : World) (H : RowsAre w F Z R') (h : Stage (fun _ => False) w [Ob.row 0 30 1 u (Z.length + 1) (Z.map Prod.fst ++ [a]), Ob.ints a s] w') :
    ∃ F', (Ob.docL u (R' ++ [s])).holds w' F' ∧ Moved F F' w w' :=
  doc_close H h0 (outer_one h).oneRow
theorem without_few {x y : Int} (hR : R.length ≤ 65536) (Z : List (Value × List Int)) (H : RowsAre w F Z (withoutR R x y)) : Z.length ≤ 65536 := by
  have e : Z.length = (withoutR R x y).length := by rw [H.all, List.length_map]
  rw [e]
  exact Nat.le_trans (List.length_filter_le _ _) hR
theorem doc_stays {w' : World} (h : (Ob.docL v R).holds w F) (hb : Below w.heap.size w w') : ∃ F', (Ob.docL v R).holds w' F' ∧ Moved F F' w w' :=
  ⟨F, (Ob.docL v R).keeps h (Keeps.of_below_all hb (fun _ => False)) fun _ _ x => x, Keeps.of_below_all hb _, fun _ hk => Or.inl hk⟩
/-- New rings, and whether anything was there. -/
def DocPost (w : World) (F : Nat → Prop) (R' : List (List Int)) (ok : Bool) (e : Ending) (w' : World) : Prop := ∃ u F', e = .returned (.tuple #[u, .bool ok]) ∧ (Ob.docL u R').holds w' F' ∧ Moved F F' w w'
set_option maxRecDepth 100000 in
set_option maxHeartbeats 2000000 in
theorem rPart (x : Int) (hR : R.length ≤ 65536) (hlen : ∀ l ∈ R, l.length ≤ 65536) (hfew : (allR R x).length ≤ 65536) (h : (Ob.docL v R).holds w F) :
    Calls Try.prog 23 #[v, .int .i64 x] w (DocPost w F (partR R x) (decide (0 < (allR R x).length))) := by
  have hA := rAll hlen h.2 x
  have hW := fun (L : List Ob) (u : World) (hL : Stage (fun _ => False) w L u) => (rWithout hR h.2 hL.below x x).mono fun e w' (hh : ∃ u' Z, e = .returned u' ∧ RowsAre w F Z (withoutR R x x) ∧ Stage (fun _ => False) u [Ob.outer u' Z] w') => (match hh with | ⟨u', Z, h1, h2, h3⟩ => ⟨u', Z, h1, h2, hL.also h3⟩ : ∃ u' Z, e = .returned u' ∧ RowsAre w F Z (withoutR R x x) ∧ Stage (fun _ => False) w (L ++ [Ob.outer u' Z]) w')
  have hZl := fun (Z : List (Value × List Int)) (H : RowsAre w F Z (withoutR R x x)) => without_few hR Z H
  have hEnd := fun (u a c : Value) (t : List Int) (Z : List (Value × List Int)) (w' : World) (H : RowsAre w F Z (withoutR R x x)) => doc_two h.1 u a c [x] t Z w' H
  have hst := fun (w' : World) (hb : Below w.heap.size w w') => doc_stays h hb
  have hP : partR R x = if (allR R x).length ≤ 1 then R else withoutR R x x ++ [[x], (allR R x).drop 1] := rfl
  obtain ⟨a0, c0, rfl, _, _⟩ := h.2.form
  generalize allR R x = AA at *
  generalize partR R x = PP at *
  generalize hok : decide (0 < AA.length) = ok
  replace hok := Lib.hid hok
  replace hP := Lib.hid hP
  clear h
  go_enter Try.func23, Try.ntmps23
  go_wp2_with fail
  refine hA.mono ?_
  rintro e w1 ⟨u, rfl, hs⟩
  obtain ⟨a, c, rfl, hc1, hc2⟩ := hs.intsForm 0 rfl
  clear hA
  rcases Nat.lt_trichotomy AA.length 1 with h1 | h1 | h1
  · have h0 : AA.length = 0 := by omega
    obtain rfl : ok = false := by rw [← hok.out, h0]; rfl
    clear hok
    replace hP := hP.out
    rw [if_pos (by omega)] at hP
    subst hP
    obtain ⟨F', d1, d2⟩ := hst _ hs.below
    clear hs hst hW hZl hEnd
    rw [h0]
    go_wp2_with fail
    go_ret2
    exact ⟨_, F', rfl, d1, d2⟩
  · obtain rfl : ok = true := by rw [← hok.out, h1]; rfl
    clear hok
    replace hP := hP.out
    rw [if_pos (by omega)] at hP
    subst hP
    obtain ⟨F', d1, d2⟩ := hst _ hs.below
    clear hs hst hW hZl hEnd
    rw [h1]
    go_wp2_with fail
    go_ret2
    exact ⟨_, F', rfl, d1, d2⟩
  · obtain rfl : ok = true := by rw [← hok.out]; simpa using (by omega : 0 < AA.length)
    clear hok
    replace hP := hP.out
    rw [if_neg (by omega)] at hP
    replace hP := Lib.hid hP
    obtain ⟨g, c', e, _⟩ := hs.intsAt 0 rfl (by omega)
    cases e
    have hT := fun (L : List Ob) (u : World) (hL : Stage (fun _ => False) w (Ob.ints (.slice (some ⟨g, 0, none⟩) AA.length c) AA :: L) u) => hL.tailReads 0 rfl h1
    have hdl : (AA.drop 1).length = AA.length - 1 := List.length_drop
    clear hst
    have HC := hs
    clear hs
    have hn0 : (AA.length : Int) ≠ 0 := by omega
    have hn1 : (AA.length : Int) ≠ 1 := by omega
    have hn2 : (1 : Int) ≤ (AA.length : Int) := by omega
    have hn3 : (AA.length : Int) ≤ c := by omega
    have hck : ¬ c = 1 := by omega
    generalize (List.drop 1 AA) = TT at *
    generalize AA.length = n at *
    replace hdl := Lib.hid hdl
    go_wp2_with fail
    go_region_held3 (fun _ => True) (trivial)
      (first
      | (go_at_call 25; (with_reducible refine (hW _ _ (Stage.drew (HC))).mono ?_); rintro e w4 ⟨uD, ZD, rfl, hZD, HN⟩; have hz := hZl _ hZD; have HC := HN)
      | (go_at_call 25; (with_reducible refine (hW _ _ (Stage.drew ((HC).newRow' 3 1 1 #[.int .i64 x] rfl (by decide) rfl))).mono ?_); rintro e w4 ⟨uD, ZD, rfl, hZD, HN⟩; have hz := hZl _ hZD; have HC := HN.select [0, 2, 1] (by decide) rfl)
      | (go_at_call 25; (with_reducible refine (hW _ _ (Stage.drew ((HC).emptyRow' 3 1 rfl))).mono ?_); rintro e w4 ⟨uD, ZD, rfl, hZD, HN⟩; have hz := hZl _ hZD; have HC := HN.select [0, 2, 1] (by decide) rfl)
      | (go_at_call 25; (with_reducible refine (hW _ _ (Stage.drew (((HC).newRow' 3 1 1 #[.int .i64 x] rfl (by decide) rfl).emptyRow' 3 1 (size_alloc _ _)))).mono ?_); rintro e w4 ⟨uD, ZD, rfl, hZD, HN⟩; have hz := hZl _ hZD; have HC := HN.select [0, 3, 2, 1] (by decide) rfl)
      | (go_at_call 25; (with_reducible refine (hW _ _ (Stage.drew (((HC).emptyRow' 3 1 rfl).newRow' 3 1 1 #[.int .i64 x] rfl (by decide) (size_alloc _ _)))).mono ?_); rintro e w4 ⟨uD, ZD, rfl, hZD, HN⟩; have hz := hZl _ hZD; have HC := HN.select [0, 3, 1, 2] (by decide) rfl)
      | ((with_reducible show @ite _ _ _ (Oper.wp _ _ _ w4 _ _) _); have HX := HC; (refine Stage.step_append (v := .slice (some ⟨_, 0, none⟩) 0 0) (n := 0) (xs := []) HX 2 rfl rfl (.tmp 24) (.tmp 26) 30 rfl (.int .i64 0) 8 Try.underlying30 sinfo_int rfl (by decide) (Nat.zero_le _) rfl _ (n - 1) (cellsBy intC TT) rfl (hT _ _ HX) (ints_one _) (by unfold maxLen; omega) (by omega) ?_); intro v1 w6 HN hl6; rw [Nat.zero_add, List.nil_append, ← hdl.out] at HN; obtain ⟨aC, cC, rfl, _, _⟩ := HN.intsForm 2 rfl; have HC := HN)
      | ((with_reducible show @ite _ _ _ (Oper.wp _ _ _ (World.alloc w4 (.cells #[] 3)) _ _) _); have HX := (HC).emptyRow' 3 1 rfl; (refine Stage.step_append (v := .slice (some ⟨_, 0, none⟩) 0 0) (n := 0) (xs := []) HX 2 rfl rfl (.tmp 24) (.tmp 26) 30 rfl (.int .i64 0) 8 Try.underlying30 sinfo_int rfl (by decide) (Nat.zero_le _) rfl _ (n - 1) (cellsBy intC TT) rfl (hT _ _ HX) (ints_one _) (by unfold maxLen; omega) (by omega) ?_); intro v1 w6 HN hl6; rw [Nat.zero_add, List.nil_append, ← hdl.out] at HN; obtain ⟨aC, cC, rfl, _, _⟩ := HN.intsForm 2 rfl; have HC := HN)
      | ((with_reducible show @ite _ _ _ (Oper.wp _ _ _ (World.alloc (World.alloc w4 (.cells #[.int .i64 x] 3)) (.cells #[] 3)) _ _) _); have HX := ((HC).newRow' 3 1 1 #[.int .i64 x] rfl (by decide) rfl).emptyRow' 3 1 (size_alloc _ _); (refine Stage.step_append (v := .slice (some ⟨_, 0, none⟩) 0 0) (n := 0) (xs := []) HX 3 rfl rfl (.tmp 24) (.tmp 26) 30 rfl (.int .i64 0) 8 Try.underlying30 sinfo_int rfl (by decide) (Nat.zero_le _) rfl _ (n - 1) (cellsBy intC TT) rfl (hT _ _ HX) (ints_one _) (by unfold maxLen; omega) (by omega) ?_); intro v1 w6 HN hl6; rw [Nat.zero_add, List.nil_append, ← hdl.out] at HN; obtain ⟨aC, cC, rfl, _, _⟩ := HN.intsForm 3 rfl; have HC := HN.select [0, 1, 3, 2] (by decide) rfl)
      | ((with_reducible show @ite _ _ _ (Oper.wp _ _ _ (World.alloc (World.alloc w4 (.cells #[] 3)) (.cells #[.int .i64 x] 3)) _ _) _); have HX := ((HC).emptyRow' 3 1 rfl).newRow' 3 1 1 #[.int .i64 x] rfl (by decide) (size_alloc _ _); (refine Stage.step_append (v := .slice (some ⟨_, 0, none⟩) 0 0) (n := 0) (xs := []) HX 2 rfl rfl (.tmp 24) (.tmp 26) 30 rfl (.int .i64 0) 8 Try.underlying30 sinfo_int rfl (by decide) (Nat.zero_le _) rfl _ (n - 1) (cellsBy intC TT) rfl (hT _ _ HX) (ints_one _) (by unfold maxLen; omega) (by omega) ?_); intro v1 w6 HN hl6; rw [Nat.zero_add, List.nil_append, ← hdl.out] at HN; obtain ⟨aC, cC, rfl, _, _⟩ := HN.intsForm 2 rfl; have HC := HN)
      | ((with_reducible show @ite _ _ _ (Oper.wp _ _ _ (World.alloc w4 (.cells #[] 3)) _ _) _); have HX := (HC).emptyRow' 3 1 rfl; (refine Stage.step_append (v := .slice (some ⟨_, 0, none⟩) 0 0) (n := 0) (xs := []) HX 3 rfl rfl (.tmp 24) (.tmp 26) 30 rfl (.int .i64 0) 8 Try.underlying30 sinfo_int rfl (by decide) (Nat.zero_le _) rfl _ (n - 1) (cellsBy intC TT) rfl (hT _ _ HX) (ints_one _) (by unfold maxLen; omega) (by omega) ?_); intro v1 w6 HN hl6; rw [Nat.zero_add, List.nil_append, ← hdl.out] at HN; obtain ⟨aC, cC, rfl, _, _⟩ := HN.intsForm 3 rfl; have HC := HN.select [0, 1, 3, 2] (by decide) rfl)
      | ((with_reducible show @ite _ _ _ (Oper.wp _ _ _ (World.alloc w4 (.cells #[.int .i64 x] 3)) _ _) _); have HX := (HC).newRow' 3 1 1 #[.int .i64 x] rfl (by decide) rfl; (refine Stage.step_append (v := .slice (some ⟨_, 0, none⟩) 0 0) (n := 0) (xs := []) HX 2 rfl rfl (.tmp 24) (.tmp 26) 30 rfl (.int .i64 0) 8 Try.underlying30 sinfo_int rfl (by decide) (Nat.zero_le _) rfl _ (n - 1) (cellsBy intC TT) rfl (hT _ _ HX) (ints_one _) (by unfold maxLen; omega) (by omega) ?_); intro v1 w6 HN hl6; rw [Nat.zero_add, List.nil_append, ← hdl.out] at HN; obtain ⟨aC, cC, rfl, _, _⟩ := HN.intsForm 2 rfl; have HC := HN)
      | ((with_reducible show @ite _ _ _ (Oper.wp _ _ _ (World.alloc w6 _) _ _) _); (refine Stage.step_appendArr (v := uD) (n := ZD.length) (xs := ZD.map Prod.fst) (HC) 1 rfl rfl rfl (.tmp 21) (.tmp 28) 34 rfl Try.underlying34 info_ints rfl rfl rfl rfl (by intro u hu; simp at hu; rcases hu with rfl | rfl <;> rfl) (by unfold maxLen; omega) (by omega) ?_); intro v9 w9 hs9; have HF := hs9.select [1, 3, 2] (by decide) rfl)
      | ((with_reducible show @ite _ _ _ (Oper.wp _ _ _ (World.alloc (World.alloc w6 (.cells #[.int .i64 x] 3)) _) _ _) _); (refine Stage.step_appendArr (v := uD) (n := ZD.length) (xs := ZD.map Prod.fst) ((HC).newRow' 3 1 1 #[.int .i64 x] rfl (by decide) rfl) 1 rfl (size_alloc _ _) rfl (.tmp 21) (.tmp 28) 34 rfl Try.underlying34 info_ints rfl rfl rfl rfl (by intro u hu; simp at hu; rcases hu with rfl | rfl <;> rfl) (by unfold maxLen; omega) (by omega) ?_); intro v9 w9 hs9; have HF := hs9.select [1, 3, 2] (by decide) rfl)
      | fail "no arm")
    all_goals
      obtain ⟨F', d1, d2⟩ := hEnd v9 _ _ TT ZD w9 hZD HF
      clear HC HF hT hW hEnd hs9
      go_wp2_with fail
      go_ret2
      exact ⟨_, F', rfl, by rw [hP.out]; exact d1, d2⟩
end
end Go.Proofs.Ytfngooaobjafjaa
