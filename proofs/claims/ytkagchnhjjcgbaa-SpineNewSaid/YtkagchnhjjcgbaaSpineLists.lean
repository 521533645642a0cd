/- What the trees' calls return that only look: Root, Spine, All. -/
import Derived.Test.YtkagchnhjjcgbaaSpineCalls2
import Derived.Test.YtkagchnhjjcgbaaInts
namespace Go.Proofs.Ytkagchnhjjcgbaa
open Go.RowKit Go.Sort

/-- What is topmost; 0, if there is no such thing. -/
def rootI (n : Nat) (L : List Hg) (x : Int) : Int := if hasN n x then rootN L n x else 0
theorem sp_has_no {n : Nat} {x : Int} (h : ¬ inN n x) : hasN n x = false := Bool.eq_false_iff.2 fun e => h (has_in.1 e)
section
variable {w : World} {p n : Nat} {L : List Hg} {F : Nat → Prop}
set_option maxHeartbeats 1000000 in
theorem root_sp (x : Int) (h : (Ob.spine p n L).holds w F) : Calls Try.prog 12 #[.pointer (some ⟨p, 0, none⟩), .int .i64 x] w fun e w' => e = .returned (.tuple #[.int .i64 (rootI n L x), .bool (hasN n x)]) ∧ w = w' := by
  obtain ⟨v, I, hn, hg⟩ := h
  have hs := Ob.group.open hg
  have hH := sp_has (q := []) hs x
  have c0 := sp_c0 (q := []) hs
  have hU := fun y => sp_up (q := []) hs I hn y
  unfold rootI
  by_cases hx : inN n x
  · rw [has_in.2 hx] at hH ⊢
    rw [if_pos rfl]
    have hstop : ∀ j, upL L (stepsL L j x) = none → j ≤ n → rootN L n x = stepsL L j x := fun j h hj => by
      obtain ⟨k, rfl⟩ : ∃ k, n = j + k := ⟨n - j, by omega⟩
      show stepsL L (j + k) x = _
      rw [steps_add, steps_top h]
    have hall : rootN L n x = stepsL L n x := rfl
    have hgo : ∀ j y, upL L (stepsL L j x) = some y → stepsL L (j + 1) x = y := fun j y e => by rw [steps_succ]; unfold stepL; rw [e]; rfl
    have hz := Lib.hid (show stepsL L 0 x = x from rfl)
    obtain ⟨a, c, rfl, hc1, hc2⟩ := sp_form (q := []) hs
    clear hs hg hx I
    generalize rootN L n x = R at *
    generalize stepsL L = st at *
    go_enter Try.func12, Try.ntmps12
    go_wp2_with fail
    refine hH.mono ?_
    rintro e w1 ⟨rfl, rfl⟩
    clear hH
    go_wp2_with fail
    go_loopw [1, 17] (fun y i wr => ∃ j : Nat, i = .int .i64 j ∧ j ≤ n ∧ y = .int .i64 (st j x) ∧ w = wr) (fun _ i _ => n - (intOf i).toNat)
    case atStart => exact ⟨0, rfl, Nat.zero_le _, by rw [hz.out], rfl⟩
    case round =>
      clear hz
      obtain ⟨j, rfl, hj, rfl, rfl⟩ := hrel
      by_cases hjn : j < n
      · have hji : (j : Int) < n := by omega
        have hUj := hU (st j x)
        cases hu : upL L (st j x) with
        | none =>
          rw [hu] at hUj
          have hR := hstop j hu hj
          clear hstop hgo hU hu hall
          generalize st j x = y at *
          subst hR
          go_wp2_with fail
          refine hUj.mono ?_
          rintro e w1 ⟨rfl, rfl⟩
          go_wp2_with fail
          go_ret2
          exact ⟨rfl, rfl⟩
        | some b =>
          rw [hu] at hUj
          have hb := Lib.hid (hgo j b hu)
          clear hstop hgo hU hu hall
          generalize st j x = y at *
          go_wp2_with fail
          refine hUj.mono ?_
          rintro e w1 ⟨rfl, rfl⟩
          go_wp2_with fail
          go_roundw
          case rel => exact ⟨j + 1, by go_num, by omega, by rw [hb.out], trivial⟩
          case measure => simp [intOf]; omega
      · have hji : ¬ (j : Int) < n := by omega
        obtain rfl : j = n := by omega
        subst hall
        clear hstop hgo hU
        generalize hy : st j x = y at *
        replace hy := Lib.hid hy
        go_wp2_with fail
        go_ret2
        exact ⟨by rw [hy.out]; rfl, rfl⟩
  · rw [sp_has_no hx] at hH ⊢
    clear hs hg hU
    go_enter Try.func12, Try.ntmps12
    go_wp2_with fail
    refine hH.mono ?_
    rintro e w1 ⟨rfl, rfl⟩
    go_wp2_with fail
    go_ret2
    exact ⟨rfl, rfl⟩
/-- The right side; none, if there is no such thing. -/
def sideI (n : Nat) (L : List Hg) (x : Int) : List Int := if hasN n x then sideL L n x else []
def allI (n : Nat) (L : List Hg) (x : Int) : List Int := if hasN n x then allL L n x else []
theorem side_le (L : List Hg) : ∀ (k : Nat) (x : Int), (sideL L k x).length ≤ k
  | 0, _ => Nat.le_refl _
  | k + 1, x => by
    rw [sideL, List.length_cons]
    cases kidL L x true with
    | none => simp
    | some c => have := side_le L k c; simp only [Option.elim]; omega
theorem nodup_int (n : Nat) (l : List Int) (hd : l.Nodup) (h : ∀ x ∈ l, inN n x) : l.length ≤ n := by
  have := nodup_bound n (l.map Int.toNat) (by
    rw [List.nodup_iff_pairwise_ne, List.pairwise_map]
    refine hd.imp_of_mem ?_
    intro a b ha hb hne e
    have h1 := h a ha
    have h2 := h b hb
    unfold inN at h1 h2
    omega) (fun y hy => by
      obtain ⟨k, hk, rfl⟩ := List.mem_map.1 hy
      have := h k hk
      unfold inN at this
      omega)
  simpa using this
theorem all_le (I : HInv n L) {x : Int} (hx : inN n x) : (allL L n x).length ≤ n := nodup_int n _ (all_nodup I hx) fun _ h => all_in I hx h
/-- A list that was just made. -/
def ListPost (w : World) (l : List Int) (e : Ending) (w' : World) : Prop := ∃ v, e = .returned v ∧ ∃ G, (Ob.ints v l).holds w' G ∧ (∀ k, G k → w.heap.size ≤ k) ∧ Below w.heap.size w w'
theorem list_close {v : Value} {l : List Int} {w w' : World} (h : Stage (fun _ => False) w [Ob.ints v l] w') : ListPost w l (.returned v) w' := by
  obtain ⟨hk, G, h1, h2, h3⟩ := h
  exact ⟨v, rfl, G 0, h1 0 _ rfl, fun k hb => (h3 0 k hb).1.elim False.elim id, hk.below (Nat.le_refl _) (fun _ h => h.elim)⟩
def lenV (v : Value) : Nat := match v with | .slice _ n _ => n | _ => 0
def curO (L : List Hg) (n : Nat) (o : Option Int) : List Int := o.elim [] (sideL L n)
set_option maxHeartbeats 1000000 in
theorem spine_sp (x : Int) (h : (Ob.spine p n L).holds w F) : Calls Try.prog 14 #[.pointer (some ⟨p, 0, none⟩), .int .i64 x] w (ListPost w (sideI n L x)) := by
  obtain ⟨v, I, hn, hg⟩ := h
  have hs := Ob.group.open hg
  have hH := sp_has (q := []) hs x
  have hU := fun wx (hb : Below w.heap.size w wx) y => sp_right (q := []) (hs.later hb) I hn y
  have hc := fun wx (hb : Below w.heap.size w wx) => sp_c0 (q := []) (hs.later hb)
  have c0 := hc w (Below.refl _ _)
  obtain ⟨o0, ho0⟩ : ∃ o0 : Option Int, hasN n x = o0.isSome ∧ (∀ y, o0 = some y → x = y) ∧ sideI n L x = curO L n o0 ∧ ∀ y, o0 = some y → inN n y := by
    by_cases hx : inN n x
    · exact ⟨some x, has_in.2 hx, fun y e => by cases e; rfl, by unfold sideI; rw [has_in.2 hx]; rfl, fun y e => by cases e; exact hx⟩
    · exact ⟨none, sp_has_no hx, fun y e => (by cases e), by unfold sideI; rw [sp_has_no hx]; rfl, fun y e => by cases e⟩
  obtain ⟨h1, h2, h3, h4⟩ := ho0
  rw [h1] at hH
  rw [h3]
  have hle : (curO L n o0).length ≤ n := by
    cases o0 with
    | none => simp [curO]
    | some y => exact side_le L n y
  have hnext : ∀ y, inN n y → curO L n (some y) = y :: curO L n (kidL L y true) ∧ ∀ z, kidL L y true = some z → inN n z := fun y hy => ⟨side_eq I hy, fun z e => (kid_in I e).1⟩
  have hnone : curO L n none = [] := rfl
  generalize hT : curO L n o0 = T at *
  replace hT := Lib.hid hT
  obtain ⟨a, c, rfl, hc1, hc2⟩ := sp_form (q := []) hs
  have hN := (Stage.start w).nilRow 0 3 1
  replace hN : Stage (fun _ => False) w [Ob.ints (.slice none 0 0) []] w := hN
  clear hs hg I h1 h3
  generalize kidL L = kid at *
  generalize curO L n = cur at *
  go_enter Try.func14, Try.ntmps14
  go_wp2_with fail
  refine hH.mono ?_
  rintro e w1 ⟨rfl, rfl⟩
  clear hH
  go_wp2_with fail
  go_loopw [1, 5, 6] (fun y s b wr => ∃ (o : Option Int) (y0 : Int) (l : List Int) (vs : Value), y = .int .i64 y0 ∧ (∀ z, o = some z → y0 = z ∧ inN n z) ∧ s = vs ∧ b = .bool o.isSome ∧ T = l ++ cur o ∧ Stage (fun _ => False) w [Ob.ints vs l] wr) (fun _ s _ _ => n + 1 - lenV s)
  case atStart => exact ⟨o0, x, [], _, rfl, fun z e => ⟨h2 z e, h4 z e⟩, rfl, rfl, hT.out.symm, hN⟩
  case round =>
    clear hN c0 h2 h4 hT
    obtain ⟨o, y, l, vs, rfl, ho, rfl, rfl, hTl, hN⟩ := hrel
    have c0 := hc wr hN.below
    obtain ⟨a', c', rfl, hv1, hv2⟩ := hN.intsForm 0 rfl
    cases o with
    | none =>
      have hl := list_close hN
      rw [hnone, List.append_nil] at hTl
      subst hTl
      clear hnext hU hc ho hN
      generalize T.length = m at *
      go_wp2_with fail
      go_ret
      exact hl
    | some z =>
      obtain ⟨rfl, hy⟩ := ho z rfl
      obtain ⟨e1, e2⟩ := hnext y hy
      rw [e1] at hTl
      have hlt : l.length < n := by rw [hTl] at hle; simp at hle; omega
      have hli : (l.length : Int) < n := by omega
      have hT2 := Lib.hid (show T = (l ++ [y]) ++ cur (kid y true) by rw [hTl]; simp)
      clear hTl e1 ho
      generalize hm : l.length = m at *
      go_wp2_with (at_builtin; refine hN.wp_appendInt (x := y) 0 rfl rfl rfl _ _ 29 rfl Try.underlying29 sinfo_int rfl rfl (by omega) ?_)
      intro v2 w2 hN2
      replace hN2 : Stage (fun _ => False) w [Ob.ints v2 (l ++ [y])] w2 := hN2
      have hR := hU w2 hN2.below y
      have hlen : (l ++ [y]).length = m + 1 := by simp [hm]
      have hv2 := hN2.intsForm 0 rfl
      rw [hlen] at hv2
      obtain ⟨a2, c2, rfl, _, _⟩ := hv2
      clear hnext hU hc hN hnone hm
      generalize kid y true = o2 at *
      go_wp2_with fail
      refine hR.mono ?_
      rintro e w3 ⟨rfl, rfl⟩
      clear hR
      go_wp2_with fail
      go_roundw
      case rel => exact ⟨o2, _, l ++ [y], _, rfl, fun z e => by subst e; exact ⟨rfl, e2 z rfl⟩, rfl, rfl, hT2.out, hN2⟩
      case measure => simp [lenV]; omega
/-- What a stack of tops has yet to give: the last one first. -/
def restL (L : List Hg) (n : Nat) (s : List Int) : List Int := s.reverse.flatMap (allL L n)
theorem rest_one (L : List Hg) (n : Nat) (x : Int) : restL L n [x] = allL L n x := by simp [restL]
theorem rest_pop (I : HInv n L) {s : List Int} {y : Int} (hy : inN n y) : restL L n (s ++ [y]) = y :: restL L n (s ++ (kidL L y true).toList ++ (kidL L y false).toList) := by
  unfold restL
  rw [List.reverse_append, List.reverse_append, List.reverse_append, List.flatMap_append, List.flatMap_append, List.flatMap_append]
  have e : ∀ o : Option Int, o.toList.reverse.flatMap (allL L n) = o.elim [] (allL L n) := fun o => by cases o <;> simp
  rw [e, e]
  simp only [List.reverse_cons, List.reverse_nil, List.nil_append, List.flatMap_cons, List.flatMap_nil, List.append_nil]
  rw [all_eq I hy]
  simp
theorem rest_pos (I : HInv n L) {s : List Int} (h : ∀ y ∈ s, inN n y) (h0 : s ≠ []) : 0 < (restL L n s).length := by
  obtain ⟨t, y, rfl⟩ : ∃ t y, s = t ++ [y] := ⟨s.dropLast, s.getLast h0, (List.dropLast_concat_getLast h0).symm⟩
  rw [rest_pop I (h y (by simp))]
  simp
theorem rest_mono (I : HInv n L) {s : List Int} (h : ∀ y ∈ s, inN n y) : s.length ≤ (restL L n s).length := by
  unfold restL
  rw [← List.length_reverse]
  have h' : ∀ y ∈ s.reverse, inN n y := fun y hy => h y (by simpa using hy)
  generalize s.reverse = r at h'
  induction r with
  | nil => simp
  | cons a r ih =>
    have := ih (fun y hy => h' y (by simp [hy]))
    rw [List.flatMap_cons, List.length_append, List.length_cons, all_eq I (h' a (by simp)), List.length_cons]
    omega
set_option maxHeartbeats 2000000 in
theorem all_sp (x : Int) (h : (Ob.spine p n L).holds w F) : Calls Try.prog 13 #[.pointer (some ⟨p, 0, none⟩), .int .i64 x] w (ListPost w (allI n L x)) := by
  obtain ⟨v, I, hn, hg⟩ := h
  have hs := Ob.group.open hg
  have hH := sp_has (q := []) hs x
  have hR := fun wx (hb : Below w.heap.size w wx) y => sp_right (q := []) (hs.later hb) I hn y
  have hL := fun wx (hb : Below w.heap.size w wx) y => sp_left (q := []) (hs.later hb) I hn y
  have hc := fun wx (hb : Below w.heap.size w wx) => sp_c0 (q := []) (hs.later hb)
  have hN := (Stage.start w).nilRow 0 3 1
  replace hN : Stage (fun _ => False) w [Ob.ints (.slice none 0 0) []] w := hN
  unfold allI
  by_cases hx : inN n x
  rotate_left
  · rw [sp_has_no hx] at hH ⊢
    have hl := list_close hN
    clear hs hg hR hL hc hN
    go_enter Try.func13, Try.ntmps13
    go_wp2_with fail
    refine hH.mono ?_
    rintro e w1 ⟨rfl, rfl⟩
    go_wp2_with fail
    go_ret
    exact hl
  rw [has_in.2 hx] at hH ⊢
  rw [if_pos rfl]
  have hle := all_le I hx
  have hT := Lib.hid (rest_one L n x)
  generalize allL L n x = T at *
  have hpop := fun s y hy => rest_pop (s := s) (y := y) I hy
  have hpos := fun s h => rest_pos (s := s) I h
  have hmono := fun s h => rest_mono (s := s) I h
  have hnil : restL L n [] = [] := rfl
  have hkin : ∀ y r z, kidL L y r = some z → inN n z := fun y r z e => (kid_in I e).1
  obtain ⟨a, c, rfl, hc1, hc2⟩ := sp_form (q := []) hs
  have hN1 := hN.newRow 3 1 1 #[.int .i64 x] rfl (by decide)
  replace hN1 : Stage (fun _ => False) w [Ob.ints (.slice none 0 0) [], Ob.ints (.slice (some ⟨w.heap.size, 0, none⟩) 1 1) [x]] (w.alloc (.cells #[.int .i64 x] 3)) := hN1
  clear hs hg I hN
  generalize kidL L = kid at *
  generalize restL L n = rest at *
  go_enter Try.func13, Try.ntmps13
  go_wp2_with fail
  refine hH.mono ?_
  rintro e w1 ⟨rfl, rfl⟩
  clear hH
  go_wp2_with fail
  go_loopw [5, 6] (fun s t wr => ∃ (l st : List Int) (vs vt : Value), s = vs ∧ t = vt ∧ (∀ y ∈ st, inN n y) ∧ T = l ++ rest st ∧ Stage (fun _ => False) w [Ob.ints vs l, Ob.ints vt st] wr) (fun s _ _ => n + 1 - lenV s)
  case atStart => exact ⟨[], [x], _, _, rfl, rfl, fun y hy => by simp at hy; subst hy; exact hx, hT.out.symm, hN1⟩
  case round =>
    clear hN1 hT hx
    obtain ⟨l, st, vs, vt, rfl, rfl, hst, hTl, hN⟩ := hrel
    have c0 := hc wr hN.below
    obtain ⟨a1, c1, rfl, hv1, hv2⟩ := hN.intsForm 0 rfl
    by_cases h0 : st = []
    · subst h0
      obtain ⟨a2, c2, rfl, _, _⟩ := hN.intsForm 1 rfl
      have hl := list_close (hN.take 1)
      rw [hnil, List.append_nil] at hTl
      subst hTl
      clear hpop hpos hmono hL hR hc hN hkin
      generalize T.length = m at *
      go_wp2_with fail
      go_ret
      exact hl
    · obtain ⟨s, y, rfl⟩ : ∃ s y, st = s ++ [y] := ⟨st.dropLast, st.getLast h0, (List.dropLast_concat_getLast h0).symm⟩
      have hy : inN n y := hst y (by simp)
      have hs0 : ∀ z ∈ s, inN n z := fun z hz => hst z (by simp [hz])
      have h1 := hpos _ hst h0
      have h2 := hmono _ hst
      have hlen : T.length = l.length + (rest (s ++ [y])).length := by rw [hTl, List.length_append]
      have hlt : l.length < n := by omega
      have hli : (l.length : Int) < n := by omega
      have hsl : s.length ≤ n := by simp at h2; omega
      have hT2 := Lib.hid (show T = (l ++ [y]) ++ rest (s ++ (kid y true).toList ++ (kid y false).toList) by rw [hTl, hpop s y hy]; simp)
      have hk1 := hkin y true
      have hk2 := hkin y false
      obtain ⟨m, hm⟩ : ∃ m, s.length = m := ⟨_, rfl⟩
      have hm1 : (s ++ [y]).length = m + 1 := by simp [hm]
      obtain ⟨g, cp, rfl, hp1, hp2, hgl, hcell, _⟩ := hN.intsAt 1 rfl (by omega)
      have u0 := hcell m (by omega)
      rw [show (s ++ [y]).getD m 0 = y by rw [← hm]; simp [List.getD_eq_getElem?_getD]] at u0
      have hN1 := hN.weaken (i := 1) (O' := Ob.ints (.slice (some ⟨g, 0, none⟩) m cp) s) rfl (fun F ⟨ho, hF⟩ => ⟨by
        have := owns_short ho (m := m) (by omega)
        rw [cellsBy_take intC 1 intC_len, ← hm, List.take_left, hm] at this
        rw [hm]
        exact this, by rw [hF]; rfl⟩)
      replace hN1 : Stage (fun _ => False) w [Ob.ints (.slice a1 l.length c1) l, Ob.ints (.slice (some ⟨g, 0, none⟩) m cp) s] wr := hN1
      have e1 : IntKind.i64.wrap ((m : Int) + 1 - 1) = m := by rw [Int.add_sub_cancel]; exact IntWalk.i64_in _ (by omega)
      rw [hm1] at hp1
      clear hTl hlen h1 h2 hpop hpos hmono hnil hcell hN hkin hst h0
      rw [hm1]
      generalize hl0 : l.length = k at *
      go_wp2_with (at_builtin; refine hN1.wp_appendInt (x := y) 0 rfl rfl rfl _ _ 29 rfl Try.underlying29 sinfo_int rfl rfl (by omega) ?_)
      intro v2 w2 hN2
      replace hN2 : Stage (fun _ => False) w [Ob.ints v2 (l ++ [y]), Ob.ints (.slice (some ⟨g, 0, none⟩) m cp) s] w2 := hN2
      have q1 := hR w2 hN2.below y
      have hk3 : (l ++ [y]).length = k + 1 := by simp [hl0]
      have hf2 := hN2.intsForm 0 rfl
      rw [hk3] at hf2
      obtain ⟨a2, c2, rfl, _, _⟩ := hf2
      clear hN1 hc hR
      generalize hrt : kid y true = o1 at *
      generalize hlt' : kid y false = o2 at *
      clear hrt
      cases o1 with
      | none =>
        go_wp2_with fail
        refine q1.mono ?_
        rintro e w3 ⟨rfl, rfl⟩
        clear q1
        have hM := hN2
        have hin := hs0
        have q2 := hL w2 hM.below y
        rw [hlt'] at q2
        clear hL
        cases o2 with
        | none =>
          go_wp2_with fail
          refine q2.mono ?_
          rintro e w9 ⟨rfl, rfl⟩
          go_wp2_with fail
          go_roundw
          case rel => exact ⟨l ++ [y], s, _, _, rfl, rfl, hin, by rw [hT2.out]; simp, hM⟩
          case measure => simp [lenV]; omega
        | some b2 =>
          go_wp2_with fail
          refine q2.mono ?_
          rintro e w9 ⟨rfl, rfl⟩
          go_wp2_with (at_builtin; refine hM.wp_appendInt (x := b2) 1 rfl rfl rfl _ _ 29 rfl Try.underlying29 sinfo_int rfl rfl (by first | omega | (simp; omega)) ?_)
          intro v8 w8 hM8
          replace hM8 : Stage (fun _ => False) w [Ob.ints (.slice a2 (k + 1) c2) (l ++ [y]), Ob.ints v8 (s ++ [b2])] w8 := hM8
          obtain ⟨a8, c8, rfl, _, _⟩ := hM8.intsForm 1 rfl
          clear hM q2
          go_wp2_with fail
          go_roundw
          case rel => exact ⟨l ++ [y], s ++ [b2], _, _, rfl, rfl, fun z hz => (List.mem_append.1 hz).elim (hin z) (fun h => by rw [List.mem_singleton.1 h]; exact hk2 b2 rfl), by rw [hT2.out]; simp, hM8⟩
          case measure => simp [lenV]; omega
      | some b1 =>
        go_wp2_with fail
        refine q1.mono ?_
        rintro e w3 ⟨rfl, rfl⟩
        clear q1
        go_wp2_with (at_builtin; refine hN2.wp_appendInt (x := b1) 1 rfl rfl rfl _ _ 29 rfl Try.underlying29 sinfo_int rfl rfl (by first | omega | (simp; omega)) ?_)
        intro v7 w7 hM
        replace hM : Stage (fun _ => False) w [Ob.ints (.slice a2 (k + 1) c2) (l ++ [y]), Ob.ints v7 (s ++ [b1])] w7 := hM
        have hin : ∀ z ∈ s ++ [b1], inN n z := fun z hz => (List.mem_append.1 hz).elim (hs0 z) (fun h => by rw [List.mem_singleton.1 h]; exact hk1 b1 rfl)
        have hm7 : (s ++ [b1]).length = m + 1 := by simp [hm]
        have hf7 := hM.intsForm 1 rfl
        rw [hm7] at hf7
        obtain ⟨a7, c7, rfl, _, _⟩ := hf7
        clear hN2
        have q2 := hL w7 hM.below y
        rw [hlt'] at q2
        clear hL
        cases o2 with
        | none =>
          go_wp2_with fail
          refine q2.mono ?_
          rintro e w9 ⟨rfl, rfl⟩
          go_wp2_with fail
          go_roundw
          case rel => exact ⟨l ++ [y], (s ++ [b1]), _, _, rfl, rfl, hin, by rw [hT2.out]; simp, hM⟩
          case measure => simp [lenV]; omega
        | some b2 =>
          go_wp2_with fail
          refine q2.mono ?_
          rintro e w9 ⟨rfl, rfl⟩
          go_wp2_with (at_builtin; refine hM.wp_appendInt (x := b2) 1 rfl rfl rfl _ _ 29 rfl Try.underlying29 sinfo_int rfl rfl (by first | omega | (simp; omega)) ?_)
          intro v8 w8 hM8
          replace hM8 : Stage (fun _ => False) w [Ob.ints (.slice a2 (k + 1) c2) (l ++ [y]), Ob.ints v8 ((s ++ [b1]) ++ [b2])] w8 := by rw [List.append_assoc]; exact hM8
          obtain ⟨a8, c8, rfl, _, _⟩ := hM8.intsForm 1 rfl
          clear hM q2
          go_wp2_with fail
          go_roundw
          case rel => exact ⟨l ++ [y], (s ++ [b1]) ++ [b2], _, _, rfl, rfl, fun z hz => (List.mem_append.1 hz).elim (hin z) (fun h => by rw [List.mem_singleton.1 h]; exact hk2 b2 rfl), by rw [hT2.out]; simp, hM8⟩
          case measure => simp [lenV]; omega
end
end Go.Proofs.Ytkagchnhjjcgbaa
