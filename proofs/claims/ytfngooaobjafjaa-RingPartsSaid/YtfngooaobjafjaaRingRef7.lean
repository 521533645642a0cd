/- What the document's functions on rings return: Splice. -/
import Derived.Test.YtfngooaobjafjaaRingRef6
namespace Go.Proofs.Ytfngooaobjafjaa
open Go.RowKit Go.Sort

namespace Stage
variable {F0 : Nat → Prop} {W w : World} {l : List Ob}
theorem restReads (h : Stage F0 W l w) (i : Nat) {g c : Nat} {s : List Int} (hi : l[i]? = some (Ob.ints (.slice (some ⟨g, 0, none⟩) s.length c) s)) {k : Nat} (hk : k ≤ s.length) (hc : s.length ≤ c) :
    RowReads w 1 (.slice (if c = k then some ⟨g, 0, none⟩ else some ⟨g, k, none⟩) (s.length - k) (c - k)) (s.length - k) (cellsBy intC (s.drop k)) := by
  by_cases e : k < s.length
  · rw [if_neg (by omega)]
    exact h.tailReads i hi e
  · obtain rfl : k = s.length := by omega
    rw [List.drop_length, Nat.sub_self]
    refine ⟨rfl, Or.inr ?_⟩
    by_cases e2 : c = s.length
    · rw [if_pos e2]; exact ⟨_, _, rfl, fun j u hj => by cases hj⟩
    · rw [if_neg e2]; exact ⟨_, _, rfl, fun j u hj => by cases hj⟩
theorem midReads (h : Stage F0 W l w) (i : Nat) {g c : Nat} {s : List Int} (hi : l[i]? = some (Ob.ints (.slice (some ⟨g, 0, none⟩) s.length c) s)) {q : Nat} (hq : 1 ≤ q) (hq2 : q < s.length) :
    RowReads w 1 (.slice (some ⟨g, 1, none⟩) (q - 1) (c - 1)) (q - 1) (cellsBy intC ((s.take q).drop 1)) := by
  have hl : ((s.take q).drop 1).length = q - 1 := by rw [List.length_drop, List.length_take, Nat.min_eq_left (by omega)]
  obtain ⟨g', c', e, _, _, _, hc, _⟩ := h.intsAt i hi (by omega)
  injection e with e1 _ _
  cases e1
  refine ⟨by rw [cellsBy_length intC 1 intC_len, hl, Nat.mul_one], Or.inr ⟨_, _, rfl, fun j u hj => ?_⟩⟩
  have hj2 : j < ((s.take q).drop 1).length := by
    have := (List.getElem?_eq_some_iff.1 hj).1
    rwa [cellsBy_length intC 1 intC_len, Nat.mul_one] at this
  have h6 := cellsBy_get intC 1 intC_len 0 ((s.take q).drop 1) j 0 hj2 (by omega)
  rw [Nat.mul_one, Nat.add_zero] at h6
  rw [h6] at hj
  rw [hl] at hj2
  have e : ((s.take q).drop 1).getD j 0 = s.getD (1 + j) 0 := by
    rw [Nat.add_comm 1 j]
    have : j + 1 < q := by omega
    simp [List.getD_eq_getElem?_getD, this]
  rw [e] at hj
  rw [add_at, hc (1 + j) (by omega)]
  exact hj
end Stage
theorem ints_is {v : Value} {n : Nat} {xs : List Value} {s : List Int} (h1 : n = s.length) (h2 : xs = cellsBy intC s) : Ob.row 0 3 1 v n xs = Ob.ints v s := by rw [h1, h2]
section
variable {w : World} {F : Nat → Prop} {v : Value} {R : List (List Int)}
set_option maxRecDepth 100000 in
set_option maxHeartbeats 2000000 in
theorem rSplice (x y : Int) (hR : R.length ≤ 65536) (hlen : ∀ l ∈ R, l.length ≤ 65536) (hfa : (allR R x).length ≤ 65536) (hfb : (allR R y).length ≤ 65536) (hx1 : x ≠ y → y ∈ allR R x → 1 ≤ (allR R x).idxOf y) (h : (Ob.docL v R).holds w F) :
    Calls Try.prog 22 #[v, .int .i64 x, .int .i64 y] w (DocPost w F (spliceR R x y) (decide (0 < (allR R x).length ∧ 0 < (allR R y).length))) := by
  have hA := rAll hlen h.2 x
  have hB := fun (L : List Ob) (u : World) (hL : Stage (fun _ => False) w L u) => (rAll hlen (h.2.later hL.below) y).mono fun e w' (hh : ∃ u', e = .returned u' ∧ Stage (fun _ => False) u [Ob.ints u' (allR R y)] w') => (match hh with | ⟨u', h1, h3⟩ => ⟨u', h1, hL.also h3⟩ : ∃ u', e = .returned u' ∧ Stage (fun _ => False) w (L ++ [Ob.ints u' (allR R y)]) w')
  have hW := fun (L : List Ob) (u : World) (hL : Stage (fun _ => False) w L u) => (rWithout hR h.2 hL.below x y).mono fun e w' (hh : ∃ u' Z, e = .returned u' ∧ RowsAre w F Z (withoutR R x y) ∧ Stage (fun _ => False) u [Ob.outer u' Z] w') => (match hh with | ⟨u', Z, h1, h2, h3⟩ => ⟨u', Z, h1, h2, hL.also h3⟩ : ∃ u' Z, e = .returned u' ∧ RowsAre w F Z (withoutR R x y) ∧ Stage (fun _ => False) w (L ++ [Ob.outer u' Z]) w')
  have hZl := fun (Z : List (Value × List Int)) (H : RowsAre w F Z (withoutR R x y)) => without_few hR Z H
  have hst := fun (w' : World) (hb : Below w.heap.size w w') => doc_stays h hb
  have hE1 := fun (u a : Value) (s : List Int) (Z : List (Value × List Int)) (w' : World) (H : RowsAre w F Z (withoutR R x y)) => doc_one h.1 u a s Z w' H
  have hE2 := fun (u a c : Value) (s t : List Int) (Z : List (Value × List Int)) (w' : World) (H : RowsAre w F Z (withoutR R x y)) => doc_two h.1 u a c s t Z w' H
  have hP : spliceR R x y = if allR R x = [] ∨ allR R y = [] ∨ x = y then R
    else if (allR R x).contains y then withoutR R x y ++ [x :: (allR R x).drop ((allR R x).idxOf y + 1), y :: ((allR R x).take ((allR R x).idxOf y)).drop 1]
    else withoutR R x y ++ [(x :: (allR R y).drop 1) ++ [y] ++ (allR R x).drop 1] := rfl
  obtain ⟨a0, c0, rfl, _, _⟩ := h.2.form
  generalize allR R x = AA at *
  generalize allR R y = BB at *
  generalize spliceR R x y = PP at *
  generalize hok : decide (0 < AA.length ∧ 0 < BB.length) = ok
  replace hok := Lib.hid hok
  replace hP := Lib.hid hP
  replace hx1 := Lib.hid hx1
  clear h
  go_enter Try.func22, Try.ntmps22
  go_wp2_with fail
  refine hA.mono ?_
  rintro e w1 ⟨ua, rfl, hs⟩
  clear hA
  go_wp2_with fail
  have hX := hB _ _ hs
  refine hX.mono ?_
  rintro e w2 ⟨ub, rfl, hs2⟩
  clear hB hs hX
  obtain ⟨aa, ca, rfl, ha1, ha2⟩ := hs2.intsForm 0 rfl
  obtain ⟨ab, cb, rfl, hb1, hb2⟩ := hs2.intsForm 1 rfl
  by_cases hsame : AA.length = 0 ∨ BB.length = 0 ∨ x = y
  · have hPR : PP = R := by
      rw [hP.out, if_pos ?_]
      rcases hsame with h1 | h1 | h1
      · exact Or.inl (List.length_eq_zero_iff.1 h1)
      · exact Or.inr (Or.inl (List.length_eq_zero_iff.1 h1))
      · exact Or.inr (Or.inr h1)
    clear hP
    subst hPR
    obtain ⟨F', d1, d2⟩ := hst _ hs2.below
    clear hs2 hst hW hZl hE1 hE2 hx1
    by_cases hA0 : AA.length = 0
    · obtain rfl : ok = false := by rw [← hok.out, hA0]; simp
      clear hok hsame
      rw [hA0]
      go_wp2_with fail
      go_ret2
      exact ⟨_, F', rfl, d1, d2⟩
    · by_cases hB0 : BB.length = 0
      · obtain rfl : ok = false := by rw [← hok.out, hB0]; simp
        clear hok hsame
        rw [hB0]
        have hna : (AA.length : Int) ≠ 0 := by omega
        generalize AA.length = na at *
        go_wp2_with fail
        go_ret2
        exact ⟨_, F', rfl, d1, d2⟩
      · obtain rfl : ok = true := by rw [← hok.out]; simp; omega
        obtain rfl : x = y := by omega
        clear hok hsame
        have hna : ((AA.length : Int) == 0) = false := by rw [beq_eq_false_iff_ne]; omega
        have hnb : ((BB.length : Int) == 0) = false := by rw [beq_eq_false_iff_ne]; omega
        clear hA0 hB0
        generalize AA.length = na at *
        generalize BB.length = nb at *
        go_wp2_with fail
        go_ret2
        exact ⟨_, F', rfl, d1, d2⟩
  · have hA0 : AA.length ≠ 0 := by omega
    have hB0 : BB.length ≠ 0 := by omega
    have hne : x ≠ y := by omega
    have hxy : (x == y) = false := by simpa using hne
    obtain rfl : ok = true := by rw [← hok.out]; simp; omega
    clear hok hst
    replace hP := hP.out
    have hnone : ¬ (AA = [] ∨ BB = [] ∨ x = y) := fun h => by
      rcases h with h | h | h
      · exact hA0 (by rw [h]; rfl)
      · exact hB0 (by rw [h]; rfl)
      · exact hne h
    rw [if_neg hnone] at hP
    clear hnone
    obtain ⟨ga, ca', e, _⟩ := hs2.intsAt 0 rfl (by omega)
    cases e
    obtain ⟨gb, cb', e, _⟩ := hs2.intsAt 1 rfl (by omega)
    cases e
    have hX := hW _ _ hs2
    have hPl := fun (u : World) (hI : IntsAt u .i64 (some ⟨ga, 0, none⟩) AA) => rPlace AA (some ⟨ga, 0, none⟩) ca ⟨ha1, ha2⟩ hI y
    have hTA := fun (L : List Ob) (u : World) (k : Nat) (hk : k ≤ AA.length) (hL : Stage (fun _ => False) w (Ob.ints (.slice (some ⟨ga, 0, none⟩) AA.length ca) AA :: L) u) => hL.restReads 0 rfl hk ha1
    have hTB := fun (O : Ob) (L : List Ob) (u : World) (hL : Stage (fun _ => False) w (O :: Ob.ints (.slice (some ⟨gb, 0, none⟩) BB.length cb) BB :: L) u) => hL.restReads 1 rfl (k := 1) (by omega) hb1
    have hna : ((AA.length : Int) == 0) = false := by rw [beq_eq_false_iff_ne]; omega
    have hnb : ((BB.length : Int) == 0) = false := by rw [beq_eq_false_iff_ne]; omega
    have hnb1 : (1 : Int) ≤ (BB.length : Int) := by omega
    have hnb2 : (BB.length : Int) ≤ cb := by omega
    have hna1 : (1 : Int) ≤ (AA.length : Int) := by omega
    have hna2 : (AA.length : Int) ≤ ca := by omega
    clear hsame hW
    by_cases hy : y ∈ AA
    · obtain ⟨q, hq⟩ : ∃ q : Nat, AA.idxOf y = q := ⟨_, rfl⟩
      have hq1 := hx1.out hne hy
      have hq2 := List.idxOf_lt_length_of_mem hy
      have hqy : placeI AA y = (q : Int) := by unfold placeI; rw [if_pos hy, hq]
      rw [hqy] at hPl
      rw [if_pos (by simpa using hy)] at hP
      rw [hq] at hq1 hq2 hP
      replace hP := Lib.hid hP
      clear hqy hy hx1 hE1 hTB hq
      have hdB : (AA.drop (q + 1)).length = AA.length - (q + 1) := List.length_drop
      have hdA : ((AA.take q).drop 1).length = q - 1 := by rw [List.length_drop, List.length_take, Nat.min_eq_left (by omega)]
      have hTA1 := fun (L : List Ob) (u : World) => hTA L u (q + 1) (by omega)
      have hTA2 := fun (L : List Ob) (u : World) (hL : Stage (fun _ => False) w (Ob.ints (.slice (some ⟨ga, 0, none⟩) AA.length ca) AA :: L) u) => hL.midReads 0 rfl hq1 hq2
      have hEnd := fun (u a c : Value) (Z : List (Value × List Int)) (w' : World) (H : RowsAre w F Z (withoutR R x y)) (hS : Stage (fun _ => False) w [Ob.row 0 30 1 u (Z.length + 2) (Z.map Prod.fst ++ [a, c]), Ob.row 0 3 1 a (1 + (AA.length - (q + 1))) ([.int .i64 x] ++ cellsBy intC (AA.drop (q + 1))), Ob.row 0 3 1 c q ([.int .i64 y] ++ cellsBy intC ((AA.take q).drop 1))] w') =>
        hE2 u a c (x :: AA.drop (q + 1)) (y :: (AA.take q).drop 1) Z w' H (by
          rw [ints_is (v := a) (s := x :: AA.drop (q + 1)) (by rw [List.length_cons, hdB]; omega) (by rfl), ints_is (v := c) (s := y :: (AA.take q).drop 1) (by rw [List.length_cons, hdA]; omega) (by rfl)] at hS
          exact hS)
      clear hTA hE2 hdB hdA
      have hwr : IntKind.i64.wrap ((q : Int) + 1) = ((q + 1 : Nat) : Int) := IntWalk.i64_in _ (by omega)
      have hq0 : decide ((q : Int) < 0) = false := by simp
      have hq3 : (1 : Int) ≤ (q : Int) := by omega
      have hq4 : ((q + 1 : Nat) : Int) ≤ (AA.length : Int) := by omega
      have hq5 : (q : Int) ≤ (ca : Int) := by omega
      have hck : ¬ ca = 1 := by omega
      have hq6 := Lib.hid (show 1 + (q - 1) = q by omega)
      generalize hk : q + 1 = k at *
      have hq7 : (0 : Int) ≤ (k : Int) := by omega
      replace hk := Lib.hid hk
      go_wp2_with fail
      refine hX.mono ?_
      rintro e w3 ⟨uD, ZD, rfl, hZD, hs3⟩
      have hz := hZl _ hZD
      clear hX hs2 hZl
      have hPx := hPl w3 (hs3.intsAtI 0 rfl)
      clear hPl
      generalize (List.drop k AA) = TA at *
      generalize (List.drop 1 (List.take q AA)) = TB at *
      generalize AA.length = na at *
      generalize hpa : (if ca = k then some (⟨ga, 0, none⟩ : Addr) else some ⟨ga, k, none⟩) = pa at *
      go_wp2_with fail
      refine hPx.mono ?_
      rintro e w4 ⟨rfl, rfl⟩
      clear hPx
      go_wp2_with fail
      go_region_held3 (fun _ => True) (trivial)
        (first
        | ((with_reducible show @ite _ _ _ (Oper.wp _ _ _ (World.drew (World.alloc w3 (.cells #[.int .i64 x] 3))) _ _) _); have HX := ((hs3).newRow' 3 1 1 #[.int .i64 x] rfl (by decide) rfl).drew; (refine Stage.step_append (v := .slice (some ⟨_, 0, none⟩) 1 1) (n := 1) (xs := [.int .i64 x]) HX 3 rfl rfl (.tmp 58) (.tmp 62) 30 rfl (.int .i64 0) 8 Try.underlying30 sinfo_int rfl (by decide) (Nat.zero_le _) rfl _ (na - k) (cellsBy intC TA) rfl (hTA1 _ _ HX) (ints_one _) (by unfold maxLen; omega) (by omega) ?_); intro v6 w6 HN hl6; obtain ⟨aC, cC, rfl, _, _⟩ := owns_form (HN.owns 3 rfl); have HC := HN.select [0, 1, 2, 3] (by decide) rfl)
        | ((with_reducible show @ite _ _ _ (Oper.wp _ _ _ (World.drew (World.alloc (World.alloc w3 (.cells #[.int .i64 x] 3)) (.cells #[.int .i64 y] 3))) _ _) _); have HX := (((hs3).newRow' 3 1 1 #[.int .i64 x] rfl (by decide) rfl).newRow' 3 1 1 #[.int .i64 y] rfl (by decide) (size_alloc _ _)).drew; (refine Stage.step_append (v := .slice (some ⟨_, 0, none⟩) 1 1) (n := 1) (xs := [.int .i64 x]) HX 3 rfl rfl (.tmp 58) (.tmp 62) 30 rfl (.int .i64 0) 8 Try.underlying30 sinfo_int rfl (by decide) (Nat.zero_le _) rfl _ (na - k) (cellsBy intC TA) rfl (hTA1 _ _ HX) (ints_one _) (by unfold maxLen; omega) (by omega) ?_); intro v6 w6 HN hl6; obtain ⟨aC, cC, rfl, _, _⟩ := owns_form (HN.owns 3 rfl); have HC := HN.select [0, 1, 2, 3, 4] (by decide) rfl)
        | ((with_reducible show @ite _ _ _ (Oper.wp _ _ _ (World.drew (World.alloc (World.alloc w3 (.cells #[.int .i64 y] 3)) (.cells #[.int .i64 x] 3))) _ _) _); have HX := (((hs3).newRow' 3 1 1 #[.int .i64 y] rfl (by decide) rfl).newRow' 3 1 1 #[.int .i64 x] rfl (by decide) (size_alloc _ _)).drew; (refine Stage.step_append (v := .slice (some ⟨_, 0, none⟩) 1 1) (n := 1) (xs := [.int .i64 x]) HX 4 rfl rfl (.tmp 58) (.tmp 62) 30 rfl (.int .i64 0) 8 Try.underlying30 sinfo_int rfl (by decide) (Nat.zero_le _) rfl _ (na - k) (cellsBy intC TA) rfl (hTA1 _ _ HX) (ints_one _) (by unfold maxLen; omega) (by omega) ?_); intro v6 w6 HN hl6; obtain ⟨aC, cC, rfl, _, _⟩ := owns_form (HN.owns 4 rfl); have HC := HN.select [0, 1, 2, 4, 3] (by decide) rfl)
        | ((with_reducible show @ite _ _ _ (Oper.wp _ _ _ w6 _ _) _); have HX := HC; (refine Stage.step_append (v := .slice (some ⟨_, 0, none⟩) 1 1) (n := 1) (xs := [.int .i64 y]) HX 4 rfl rfl (.tmp 65) (.tmp 68) 30 rfl (.int .i64 0) 8 Try.underlying30 sinfo_int rfl (by decide) (Nat.zero_le _) rfl _ (q - 1) (cellsBy intC TB) rfl (hTA2 _ _ HX) (ints_one _) (by unfold maxLen; omega) (by omega) ?_); intro v7 w7 HD hl7; rw [hq6.out] at HD; obtain ⟨aD, cD, rfl, _, _⟩ := owns_form (HD.owns 4 rfl))
        | ((with_reducible show @ite _ _ _ (Oper.wp _ _ _ (World.alloc w6 (.cells #[.int .i64 y] 3)) _ _) _); have HX := (HC).newRow' 3 1 1 #[.int .i64 y] rfl (by decide) rfl; (refine Stage.step_append (v := .slice (some ⟨_, 0, none⟩) 1 1) (n := 1) (xs := [.int .i64 y]) HX 4 rfl rfl (.tmp 65) (.tmp 68) 30 rfl (.int .i64 0) 8 Try.underlying30 sinfo_int rfl (by decide) (Nat.zero_le _) rfl _ (q - 1) (cellsBy intC TB) rfl (hTA2 _ _ HX) (ints_one _) (by unfold maxLen; omega) (by omega) ?_); intro v7 w7 HD hl7; rw [hq6.out] at HD; obtain ⟨aD, cD, rfl, _, _⟩ := owns_form (HD.owns 4 rfl))
        | ((with_reducible show @ite _ _ _ (Oper.wp _ _ _ (World.alloc w7 _) _ _) _); (refine Stage.step_appendArr (v := uD) (n := ZD.length) (xs := ZD.map Prod.fst) HD 2 rfl rfl rfl (.tmp 56) (.tmp 70) 34 rfl Try.underlying34 info_ints rfl rfl rfl rfl (by intro u hu; simp at hu; rcases hu with rfl | rfl <;> rfl) (by unfold maxLen; omega) (by omega) ?_); intro v9 w9 hs9; have HF := hs9.select [2, 3, 4] (by decide) rfl)
        | fail "no arm")
      all_goals
        obtain ⟨F', d1, d2⟩ := hEnd v9 _ _ ZD w9 hZD HF
        clear HC HD HF hEnd hs9 hs3
        go_wp2_with fail
        go_ret2
        exact ⟨_, F', rfl, by rw [hP.out]; exact d1, d2⟩
    · have hqy : placeI AA y = -1 := by unfold placeI; rw [if_neg hy]
      rw [hqy] at hPl
      rw [if_neg (by simpa using hy)] at hP
      replace hP := Lib.hid hP
      clear hqy hy hx1 hE2
      have hdB : (BB.drop 1).length = BB.length - 1 := List.length_drop
      have hdA : (AA.drop 1).length = AA.length - 1 := List.length_drop
      have hTA1 := fun (L : List Ob) (u : World) => hTA L u 1 (by omega)
      have hEnd := fun (u a : Value) (Z : List (Value × List Int)) (w' : World) (H : RowsAre w F Z (withoutR R x y)) (hS : Stage (fun _ => False) w [Ob.row 0 30 1 u (Z.length + 1) (Z.map Prod.fst ++ [a]), Ob.row 0 3 1 a (1 + (BB.length - 1) + 1 + (AA.length - 1)) (([.int .i64 x] ++ cellsBy intC (BB.drop 1)) ++ [.int .i64 y] ++ cellsBy intC (AA.drop 1))] w') =>
        hE1 u a ((x :: BB.drop 1) ++ [y] ++ AA.drop 1) Z w' H (by
          rw [ints_is (s := (x :: BB.drop 1) ++ [y] ++ AA.drop 1) (by simp; omega) (by rw [cellsBy_append, cellsBy_append]; rfl)] at hS
          exact hS)
      clear hTA hE1 hdB hdA
      go_wp2_with fail
      refine hX.mono ?_
      rintro e w3 ⟨uD, ZD, rfl, hZD, hs3⟩
      have hz := hZl _ hZD
      clear hX hs2 hZl
      have hPx := hPl w3 (hs3.intsAtI 0 rfl)
      clear hPl
      generalize (List.drop 1 AA) = TA at *
      generalize (List.drop 1 BB) = TB at *
      generalize AA.length = na at *
      generalize BB.length = nb at *
      generalize hpb : (if cb = 1 then some (⟨gb, 0, none⟩ : Addr) else some ⟨gb, 1, none⟩) = pb at *
      generalize hpa : (if ca = 1 then some (⟨ga, 0, none⟩ : Addr) else some ⟨ga, 1, none⟩) = pa at *
      go_wp2_with fail
      refine hPx.mono ?_
      rintro e w4 ⟨rfl, rfl⟩
      clear hPx
      have hs4 := hs3.newRow' 3 1 1 #[.int .i64 x] rfl (by decide) rfl
      go_wp2_with (at_builtin; refine hs4.wp_append 3 rfl rfl _ _ 30 rfl (.int .i64 0) 8 Try.underlying30 sinfo_int rfl (by decide) (Nat.zero_le _) rfl _ (nb - 1) (cellsBy intC TB) rfl (hTB _ _ _ hs4) (ints_one _) (by unfold maxLen; omega) (by omega) ?_; intro v5 w5 hs5 _)
      clear hs3 hs4
      go_wp2_with fail
      go_region_held3 (fun _ => True) (trivial)
        (first
        | ((with_reducible show @ite _ _ _ (Oper.wp _ _ _ (World.drew (World.alloc w5 _)) _ _) _); have HX := (hs5.alloc' #[.int .i64 y] 3 rfl).drew; (refine Stage.step_append (v := v5) (n := 1 + (nb - 1)) HX 3 rfl rfl (.tmp 47) (.tmp 49) 30 rfl (.int .i64 0) 8 Try.underlying30 sinfo_int rfl (by decide) (Nat.zero_le _) rfl _ 1 _ rfl (reads_box (HX.blk 4 rfl) 1 1 rfl) (by intro u hu; simp at hu; subst hu; rfl) (by unfold maxLen; omega) (by omega) ?_); intro v6 w6 HN hl6; have HC := HN.select [0, 1, 2, 3] (by decide) rfl)
        | ((with_reducible show @ite _ _ _ (Oper.wp _ _ _ w6 _ _) _); (refine Stage.step_append (v := v6) (n := 1 + (nb - 1) + 1) HC 3 rfl rfl (.tmp 50) (.tmp 52) 30 rfl (.int .i64 0) 8 Try.underlying30 sinfo_int rfl (by decide) (Nat.zero_le _) rfl _ (na - 1) (cellsBy intC TA) rfl (hTA1 _ _ HC) (ints_one _) (by unfold maxLen; omega) (by omega) ?_); intro v7 w7 HD hl7; obtain ⟨aC, cC, rfl, _, _⟩ := owns_form (HD.owns 3 rfl))
        | ((with_reducible show @ite _ _ _ (Oper.wp _ _ _ (World.alloc w7 _) _ _) _); (refine Stage.step_appendArr (v := uD) (n := ZD.length) (xs := ZD.map Prod.fst) HD 2 rfl rfl rfl (.tmp 46) (.tmp 54) 34 rfl Try.underlying34 info_ints rfl rfl rfl rfl (by intro u hu; simp at hu; subst hu; rfl) (by unfold maxLen; omega) (by omega) ?_); intro v9 w9 hs9; have HF := hs9.select [2, 3] (by decide) rfl)
        | fail "no arm")
      all_goals
        obtain ⟨F', d1, d2⟩ := hEnd v9 _ ZD w9 hZD HF
        clear HC HD HF hEnd hs9 hs5
        go_wp2_with fail
        go_ret2
        exact ⟨_, F', rfl, by rw [hP.out]; exact d1, d2⟩
end
end Go.Proofs.Ytfngooaobjafjaa
