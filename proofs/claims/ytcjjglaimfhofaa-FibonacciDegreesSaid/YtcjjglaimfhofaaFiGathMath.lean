/- Merged of FiDelete, FiGathMath. -/
import Derived.Test.YtcjjglaimfhofaaRingCalls
import Derived.Test.YtcjjglaimfhofaaMeth
import Derived.Lib.SliceRun
import Derived.Test.YtcjjglaimfhofaaFiFreeMath
namespace Go.Proofs.Ytcjjglaimfhofaa
open Go.RowKit Go.Sort

def keepI (l : List Int) : List Int := l.filter fun y => !(y == -1)
theorem keepI_app (a b : List Int) : keepI (a ++ b) = keepI a ++ keepI b := List.filter_append ..
theorem keepI_none : keepI [-1] = [] := rfl
theorem keepI_one {y : Int} (h : (y == -1) = false) : keepI [y] = [y] := by unfold keepI; rw [List.filter_cons, h]; rfl
theorem keepI_all : ∀ {l : List Int}, (∀ i, i < l.length → l.getD i 0 ≠ -1) → keepI l = l
  | [], _ => rfl
  | x :: l, h => by
    have h0 : x ≠ -1 := h 0 (by simp)
    have h1 := keepI_all (l := l) fun i hi => h (i + 1) (by simpa using hi)
    unfold keepI at h1 ⊢
    rw [List.filter_cons, h1, if_pos (by simpa using h0)]
theorem take_succD {l : List Int} {j : Nat} (h : j < l.length) : l.take (j + 1) = l.take j ++ [l.getD j 0] := by
  rw [List.take_add_one, List.getElem?_eq_getElem h, List.getD_eq_getElem?_getD, List.getElem?_eq_getElem h]; rfl
theorem drop_at {l L : List Int} {j : Nat} (_hl : L.length = l.length) (h : L.drop j = l.drop j) (_hj : j < l.length) : L.getD j 0 = l.getD j 0 ∧ L.drop (j + 1) = l.drop (j + 1) := by
  constructor
  · have h1 : (L.drop j)[0]? = (l.drop j)[0]? := by rw [h]
    rw [List.getElem?_drop, List.getElem?_drop, Nat.add_zero] at h1
    rw [List.getD_eq_getElem?_getD, List.getD_eq_getElem?_getD, h1]
  · have h1 : (L.drop j).drop 1 = (l.drop j).drop 1 := by rw [h]
    rwa [List.drop_drop, List.drop_drop] at h1
section
variable {F0 : Nat → Prop} {W0 w : World} {q : List Ob} {gb cv m nn : Nat} {l : List Int}
theorem isNone (y : Int) (w : World) : Calls Try.prog 100 #[.int .i64 y] w fun e w' => e = .returned (.bool (y == -1)) ∧ w = w' := by
  go_enter Try.func100, Try.ntmps100
  go_wp2_with fail
  go_ret
  exact ⟨rfl, rfl⟩
theorem clear_st : ∀ (m o : Nat) (L : List Int) (w : World), o + m ≤ L.length → Stage F0 W0 (Ob.row 0 3 1 (.slice (some ⟨gb, 0, none⟩) nn cv) nn (cellsBy intC L) :: q) w →
    ∃ L', L'.length = L.length ∧ L'.take o = L.take o ∧ Stage F0 W0 (Ob.row 0 3 1 (.slice (some ⟨gb, 0, none⟩) nn cv) nn (cellsBy intC L') :: q) (w.setCells gb o (List.replicate m (.int .i64 0)))
  | 0, _, L, _, _, hs => ⟨L, rfl, rfl, hs⟩
  | m + 1, o, L, w, hm, hs => by
    have hst := hs.storeRow 0 rfl o (.int .i64 0) (intC_set _ o _)
    obtain ⟨L', h1, h2, h3⟩ := clear_st m (o + 1) (L.set o 0) _ (by simp; omega) hst
    refine ⟨L', by rw [h1, List.length_set], ?_, by rw [List.replicate_succ]; exact h3⟩
    have h4 : (L'.take (o + 1)).take o = ((L.set o 0).take (o + 1)).take o := by rw [h2]
    rw [List.take_take, List.take_take, Nat.min_eq_left (by omega)] at h4
    rw [h4, List.take_set_of_le (Nat.le_refl _)]
/-- Where the first one is that is none. -/
theorem indexNone (a : Option Addr) (c : Nat) (hc : l.length ≤ c ∧ c ≤ 9223372036854775807) (hl : IntsAt w .i64 a l) :
    Calls Try.prog 104 #[.slice a l.length c, .func (Fn.func 100) #[] #[]] w fun e w' =>
      ((∃ j : Nat, e = .returned (.int .i64 j) ∧ j < l.length ∧ l.getD j 0 = -1 ∧ (∀ i, i < j → l.getD i 0 ≠ -1)) ∨ (e = .returned (.int .i64 (-1)) ∧ ∀ i, i < l.length → l.getD i 0 ≠ -1)) ∧ w = w' := by
  obtain ⟨hc1, hc2⟩ := hc
  go_enter Try.func104, Try.ntmps104
  go_wp2_with fail
  go_loopw [8] (fun i wr => ∃ j : Nat, i = .int .i64 j ∧ j ≤ l.length ∧ (∀ i, i < j → l.getD i 0 ≠ -1) ∧ w = wr) (fun i _ => l.length - (intOf i).toNat)
  case atStart => exact ⟨0, rfl, Nat.zero_le _, fun i hi => absurd hi (Nat.not_lt_zero _), rfl⟩
  case round =>
    obtain ⟨j, rfl, hj, hno, rfl⟩ := hrel
    by_cases hjn : j < l.length
    · have hji : (j : Int) < l.length := by omega
      obtain ⟨gb, o, rfl, u0⟩ := hl j hjn
      have hSj := isNone (l.getD j 0) w
      by_cases e : l.getD j 0 = -1
      · have hfin : (∃ j' : Nat, Ending.returned (.int .i64 (j : Int)) = .returned (.int .i64 j') ∧ j' < l.length ∧ l.getD j' 0 = -1 ∧ (∀ i, i < j' → l.getD i 0 ≠ -1)) := ⟨j, rfl, hjn, e, hno⟩
        have e2 : (l.getD j 0 == -1) = true := by simpa using e
        rw [e2] at hSj
        clear e2 e
        clear hl hno
        generalize l.getD j 0 = y at *
        go_wp2_with fail
        refine hSj.mono ?_
        rintro e w1 ⟨rfl, rfl⟩
        go_wp2_with fail
        go_ret
        exact ⟨Or.inl hfin, rfl⟩
      · have hno2 : ∀ i, i < j + 1 → l.getD i 0 ≠ -1 := fun i hi => by
          by_cases e3 : i = j
          · subst e3; exact e
          · exact hno i (by omega)
        have e2 : (l.getD j 0 == -1) = false := by simpa using e
        rw [e2] at hSj
        clear e2 e
        clear hno
        generalize l.getD j 0 = y at *
        go_wp2_with fail
        refine hSj.mono ?_
        rintro e w1 ⟨rfl, rfl⟩
        go_wp2_with fail
        go_roundw
        case rel => exact ⟨j + 1, by go_num, by omega, hno2, trivial⟩
        case measure => simp [intOf]; omega
    · obtain rfl : j = l.length := by omega
      have hfin := hno
      clear hno hl
      go_wp2_with fail
      go_ret
      exact ⟨Or.inr ⟨rfl, hfin⟩, rfl⟩
set_option maxHeartbeats 1000000 in
theorem deleteNone {a : Option Addr} (hne : l ≠ []) (hs : Stage F0 W0 (Ob.ints (.slice a l.length cv) l :: q) w) :
    Calls Try.prog 99 #[.slice a l.length cv, .func (Fn.func 100) #[] #[]] w fun e w' => ∃ v, e = .returned v ∧ Stage F0 W0 (Ob.ints v (keepI l) :: q) w' := by
  obtain ⟨_, _, e9, hc1, hc2⟩ := hs.intsForm 0 rfl
  cases e9
  have hI := indexNone (l := l) _ _ ⟨hc1, hc2⟩ (hs.intsAtI 0 rfl)
  obtain ⟨gb, c9, e9, _⟩ := hs.intsAt 0 rfl (List.length_pos_iff.2 hne)
  cases e9
  go_enter Try.func99, Try.ntmps99
  go_wp2_with fail
  refine hI.mono ?_
  rintro e w1 ⟨hh, rfl⟩
  clear hI
  rcases hh with ⟨j0, rfl, hj0, hat, hno⟩ | ⟨rfl, hall⟩
  · have hn1 : ((j0 : Int) == -1) = false := by rw [beq_eq_false_iff_ne]; omega
    have hn2 : IntKind.i64.wrap ((j0 : Int) + 1) = (j0 : Int) + 1 := IntWalk.i64_in _ (by omega)
    have hk0 : l.take j0 = keepI (l.take (j0 + 1)) := by
      rw [take_succD hj0, keepI_app, hat, keepI_none, List.append_nil, keepI_all fun i hi => ?_]
      rw [List.length_take] at hi
      have := hno i (by omega)
      rwa [List.getD_eq_getElem?_getD, List.getElem?_take_of_lt (by omega), ← List.getD_eq_getElem?_getD]
    clear hno hat
    go_wp2_with fail
    go_loopw [5, 6] (fun i j wr => ∃ (ki kj : Nat) (L : List Int), i = .int .i64 ki ∧ j = .int .i64 kj ∧ ki < kj ∧ kj ≤ l.length ∧ L.length = l.length ∧ L.take ki = keepI (l.take kj) ∧ L.drop kj = l.drop kj ∧ Stage F0 W0 (Ob.row 0 3 1 (.slice (some ⟨gb, 0, none⟩) l.length cv) l.length (cellsBy intC L) :: q) wr) (fun _ j _ => l.length - (intOf j).toNat)
    case atStart => exact ⟨j0, j0 + 1, l, rfl, by go_num, by omega, by omega, rfl, hk0, rfl, hs⟩
    case round =>
      clear hs hk0
      obtain ⟨i, j, L, rfl, rfl, hij, hj, hL, hT, hD, hs⟩ := hrel
      by_cases hlt : j < l.length
      · have hji : (j : Int) < l.length := by omega
        obtain ⟨hv, hD2⟩ := drop_at hL hD hlt
        have hs2 : Stage F0 W0 (Ob.ints (.slice (some ⟨gb, 0, none⟩) L.length cv) L :: q) wr := by
          unfold Ob.ints
          rw [hL]
          exact hs
        obtain ⟨g8, c8, e8, _, _, _, hc8, hfr⟩ := hs2.intsAt 0 rfl (by omega)
        cases e8
        have u1 := hc8 j (by omega)
        have u0 := hc8 i (by omega)
        have hSj := isNone (L.getD j 0) wr
        have hw2 : IntKind.i64.wrap ((i : Int) + 1) = (i : Int) + 1 := IntWalk.i64_in _ (by omega)
        have hw3 : IntKind.i64.wrap ((j : Int) + 1) = (j : Int) + 1 := IntWalk.i64_in _ (by omega)
        have htk : keepI (l.take (j + 1)) = L.take i ++ keepI [L.getD j 0] := by rw [take_succD hlt, keepI_app, hT, hv]
        cases hy : (L.getD j 0 == -1)
        · have hst := hs.storeRow 0 rfl i (.int .i64 (L.getD j 0)) (intC_set _ i _)
          replace hst : Stage F0 W0 (Ob.row 0 3 1 (.slice (some ⟨gb, 0, none⟩) l.length cv) l.length (cellsBy intC (L.set i (L.getD j 0))) :: q) (wr.setCell ⟨gb, i, none⟩ (.int .i64 (L.getD j 0))) := hst
          have hT2 : (L.set i (L.getD j 0)).take (i + 1) = keepI (l.take (j + 1)) := by
            rw [htk, keepI_one hy, take_succD (by rw [List.length_set]; omega), List.take_set_of_le (Nat.le_refl _)]
            congr 2
            rw [List.getD_eq_getElem?_getD, List.getElem?_set_self (by omega)]; rfl
          have hD3 : (L.set i (L.getD j 0)).drop (j + 1) = l.drop (j + 1) := by
            rw [← hD2, List.drop_set_of_lt (by omega)]
          have hL2 : (L.set i (L.getD j 0)).length = l.length := by rw [List.length_set, hL]
          rw [hy] at hSj
          have hfi := hfr i
          clear hs hs2 hc8 hy htk hT hD hfr hv hD2
          generalize hLL : L.set i (L.getD j 0) = L2 at *
          replace hLL := Lib.hid hLL
          generalize L.getD j 0 = y at *
          generalize L.getD i 0 = y0 at *
          go_wp2_with fail
          refine hSj.mono ?_
          rintro e w1 ⟨rfl, rfl⟩
          clear hSj
          go_wp2_with fail
          go_roundw
          case rel => exact ⟨i + 1, j + 1, L2, by go_num, by go_num, by omega, by omega, hL2, hT2, hD3, hst⟩
          case measure => simp [intOf]; omega
        · have hy2 : L.getD j 0 = -1 := by simpa using hy
          have hT2 : L.take i = keepI (l.take (j + 1)) := by rw [htk, hy2, keepI_none, List.append_nil]
          rw [hy] at hSj
          clear hs2 hc8 hy htk hT hD hfr hv u0 hy2
          generalize L.getD j 0 = y at *
          go_wp2_with fail
          refine hSj.mono ?_
          rintro e w1 ⟨rfl, rfl⟩
          clear hSj
          go_wp2_with fail
          go_roundw
          case rel => exact ⟨i, j + 1, L, rfl, by go_num, by omega, by omega, hL, hT2, hD2, hs⟩
          case measure => simp [intOf]; omega
      · obtain rfl : j = l.length := by omega
        rw [List.take_length] at hT
        have hcl : ∀ ty, (Builtin.clear_ #[112] ty #[.slice (some ⟨gb, i, none⟩) (l.length - i) (cv - i)]).run Try.prog wr = .ok (.tuple #[]) (wr.setCells gb i (List.replicate (l.length - i) (.int .i64 0))) := by
          intro ty
          have hs2 : Stage F0 W0 (Ob.ints (.slice (some ⟨gb, 0, none⟩) L.length cv) L :: q) wr := by
            unfold Ob.ints
            rw [hL]
            exact hs
          obtain ⟨g8, c8, e8, _, _, _, hc8, hfr⟩ := hs2.intsAt 0 rfl (by omega)
          cases e8
          exact Lib.run_clear_slice wr 112 3 ty (.int .i64 0) Try.underlying112 szero_int rfl rfl gb i (l.length - i) (cv - i) (by omega) (fun t ht => by rw [hc8 (i + t) (by omega)]; rfl) (fun t ht => hfr _)
        obtain ⟨L', hL', hT', hst⟩ := clear_st (l.length - i) i L wr (by omega) hs
        have hfin : Stage F0 W0 (Ob.ints (.slice (some ⟨gb, 0, none⟩) i cv) (keepI l) :: q) (wr.setCells gb i (List.replicate (l.length - i) (.int .i64 0))) := by
          have hel : (keepI l).length = i := by rw [← hT, List.length_take]; omega
          have hwk := hst.weaken (i := 0) (O' := Ob.ints (.slice (some ⟨gb, 0, none⟩) i cv) (keepI l)) rfl (fun F ⟨ho, hF⟩ => by
            have h1 := owns_short ho (m := i) (by omega)
            have h2 := cellsBy_take intC 1 intC_len L' i
            rw [Nat.mul_one] at h2
            rw [Nat.mul_one, h2, hT', hT] at h1
            refine ⟨?_, hF⟩
            rw [hel]
            exact h1)
          exact hwk
        have hcv : ¬ cv = i := by omega
        have hkc : i < l.length := by omega
        clear hs hst hT hT' hL' hD
        go_wp2_with fail
        go_ret
        exact ⟨_, rfl, hfin⟩
  · have hk := keepI_all hall
    clear hall
    go_wp2_with fail
    go_ret
    exact ⟨_, rfl, by rw [hk]; exact hs⟩
end
end Go.Proofs.Ytcjjglaimfhofaa

namespace Go.Proofs.Ytcjjglaimfhofaa

def lkC (W : WS) (a b : Int) : Int := if aheadW W b a = true then b else a
def lkD (W : WS) (a b : Int) : Int := if aheadW W b a = true then a else b
theorem keepI_set {B : List Int} {j : Nat} (h : j < B.length) (x : Int) : (keepI (B.set j x)).Perm (keepI [x] ++ (keepI (B.take j) ++ keepI (B.drop (j + 1)))) ∧ (keepI B).Perm (keepI [B.getD j 0] ++ (keepI (B.take j) ++ keepI (B.drop (j + 1)))) := by
  have e1 : B = B.take j ++ [B.getD j 0] ++ B.drop (j + 1) := by
    rw [← take_succD h, List.take_append_drop]
  have e2 : B.set j x = B.take j ++ [x] ++ B.drop (j + 1) := by
    rw [List.set_eq_take_append_cons_drop, if_pos h]; simp
  constructor
  · rw [e2, keepI_app, keepI_app]
    exact (List.perm_append_comm.append_right _).trans (by rw [List.append_assoc])
  · conv => lhs; rw [e1]
    rw [keepI_app, keepI_app]
    exact (List.perm_append_comm.append_right _).trans (by rw [List.append_assoc])
theorem mem_keepI {B : List Int} {y : Int} : y ∈ keepI B ↔ y ∈ B ∧ y ≠ -1 := by
  unfold keepI
  rw [List.mem_filter]
  simp
/-- What two to the degrees is, together. -/
def powR (K : Int → List Int) : List Int → Nat
  | [] => 0
  | y :: l => 2 ^ (K y).length + powR K l
theorem powR_perm {K : Int → List Int} {l m : List Int} (h : l.Perm m) : powR K l = powR K m := by
  induction h with
  | nil => rfl
  | cons x _ ih => simp only [powR, ih]
  | swap x y l => simp only [powR]; omega
  | trans _ _ h1 h2 => exact h1.trans h2
theorem powR_same {K K' : Int → List Int} : ∀ {l : List Int}, (∀ y ∈ l, K' y = K y) → powR K' l = powR K l
  | [], _ => rfl
  | y :: l, h => by
    simp only [powR]
    rw [h y (by simp), powR_same fun u hu => h u (by simp [hu])]
structure GathJ (n : Nat) (W : WS) (i : Nat) (E : Int → Prop) (R0 : Nat → List Int) (Z : Nat) (K : Int → List Int) (R : Nat → List Int) (T : Int → Node) (S : RSt) (B P : List Int) : Prop where
  len : W.cells.length = n
  mid : FiMid W K R E
  tied : FTied n K R T S
  deg : ∃ had, FiDeg K had (lostOf T) noE
  off : ∀ g, g ≠ i → R g = R0 g
  perm : (R i).Perm (keepI B ++ P)
  slot : ∀ j, j < B.length → B.getD j 0 ≠ -1 → (K (B.getD j 0)).length = j
  bare : ∀ y, E y → K y = []
  some : R i ≠ []
  pows : powR K (R i) = Z
section
variable {n : Nat} {W : WS} {i : Nat} {E : Int → Prop} {R0 : Nat → List Int} {Z : Nat} {K : Int → List Int} {R : Nat → List Int} {T T' : Int → Node} {S S' : RSt} {B P : List Int} {x : Int}
theorem GathJ.isR (J : GathJ n W i E R0 Z K R T S B P) {y : Int} (hy : y ∈ keepI B ++ P) : y ∈ R i ∧ inB n y ∧ y ≠ -1 := by
  have h1 := J.perm.mem_iff.2 hy
  have h2 := (J.mid.roots.is i y h1).1
  rw [J.len] at h2
  exact ⟨h1, h2, fun e => by have := h2.1; omega⟩
theorem GathJ.grow (J : GathJ n W i E R0 Z K R T S B P) : GathJ n W i E R0 Z K R T S (B ++ [-1]) P := by
  refine ⟨J.len, J.mid, J.tied, J.deg, J.off, by rw [keepI_app, keepI_none, List.append_nil]; exact J.perm, fun j hj hne => ?_, J.bare, J.some, J.pows⟩
  by_cases e : j < B.length
  · have h1 : (B ++ [-1]).getD j 0 = B.getD j 0 := by rw [List.getD_eq_getElem?_getD, List.getElem?_append_left e, ← List.getD_eq_getElem?_getD]
    rw [h1] at hne ⊢
    exact J.slot j e hne
  · have e2 : j = B.length := by simp at hj; omega
    subst e2
    exact absurd (by rw [List.getD_eq_getElem?_getD, List.getElem?_append_right (Nat.le_refl _)]; simp) hne
theorem getD_setI {B : List Int} {j d : Nat} (x : Int) (hd : d < B.length) : (B.set d x).getD j 0 = if j = d then x else B.getD j 0 := by
  rw [List.getD_eq_getElem?_getD, List.getElem?_set]
  by_cases e : d = j
  · subst e; rw [if_pos rfl, if_pos hd, if_pos rfl]; rfl
  · rw [if_neg e, if_neg (fun e2 => e e2.symm), List.getD_eq_getElem?_getD]
/-- It is put where its degree is. -/
theorem GathJ.put (J : GathJ n W i E R0 Z K R T S B (x :: P)) {d : Nat} (hd : d < B.length) (hx : (K x).length = d) (h0 : B.getD d 0 = -1) : GathJ n W i E R0 Z K R T S (B.set d x) P := by
  have hxn := (J.isR (y := x) (by simp)).2.2
  obtain ⟨p1, p2⟩ := keepI_set hd x
  rw [h0, keepI_none, List.nil_append] at p2
  rw [keepI_one (by simpa using hxn)] at p1
  refine ⟨J.len, J.mid, J.tied, J.deg, J.off, J.perm.trans ?_, fun j hj hne => ?_, J.bare, J.some, J.pows⟩
  · have h3 : (keepI (B.set d x)).Perm (x :: keepI B) := p1.trans (p2.symm.cons x)
    exact List.perm_middle.trans (h3.symm.append_right P)
  · rw [getD_setI x hd] at hne ⊢
    rw [List.length_set] at hj
    by_cases e : j = d
    · rw [if_pos e, e]; exact hx
    · rw [if_neg e] at hne ⊢; exact J.slot j hj hne
theorem lk_cases (W : WS) (a b : Int) : (lkC W a b = a ∧ lkD W a b = b ∧ aheadW W b a = false) ∨ (lkC W a b = b ∧ lkD W a b = a ∧ aheadW W a b = false) := by
  unfold lkC lkD
  cases h : aheadW W b a
  · exact Or.inl ⟨rfl, rfl, rfl⟩
  · exact Or.inr ⟨rfl, rfl, hm_asym h⟩
/-- .. or linked with what is there. -/
theorem GathJ.link (J : GathJ n W i E R0 Z K R T S B (x :: P)) {d : Nat} {o : Int} (hd : d < B.length) (hx : (K x).length = d) (h0 : B.getD d 0 = o) (ho : o ≠ -1)
    (H : FTied n (fbHang K (lkC W o x) (lkD W o x :: K (lkC W o x))) (updR R i ((R i).erase (lkD W o x))) T' S') (hL : ∀ y, (T' y).lost = if y = lkD W o x then false else (T y).lost) :
    GathJ n W i E R0 Z (fbHang K (lkC W o x) (lkD W o x :: K (lkC W o x))) (updR R i ((R i).erase (lkD W o x))) T' S' (B.set d (-1)) (lkC W o x :: P) ∧ ((fbHang K (lkC W o x) (lkD W o x :: K (lkC W o x))) (lkC W o x)).length = d + 1 ∧
      potN W (fbHang K (lkC W o x) (lkD W o x :: K (lkC W o x))) (lostOf T') + 1 ≤ potN W K (lostOf T) := by
  have hod := J.slot d hd (by rw [h0]; exact ho)
  rw [h0] at hod
  obtain ⟨p1, p2⟩ := keepI_set hd (-1)
  rw [keepI_none, List.nil_append] at p1
  rw [h0, keepI_one (by simpa using ho)] at p2
  have hB : (keepI B).Perm (o :: keepI (B.set d (-1))) := p2.trans (p1.symm.cons o)
  have hR : (R i).Perm (o :: x :: (keepI (B.set d (-1)) ++ P)) := J.perm.trans ((hB.append_right (x :: P)).trans (List.perm_middle.cons o))
  have hnd := J.mid.nd i
  rw [hR.nodup_iff] at hnd
  have hcd : (R i).Perm (lkD W o x :: lkC W o x :: (keepI (B.set d (-1)) ++ P)) ∧ lkC W o x ≠ lkD W o x ∧ aheadW W (lkD W o x) (lkC W o x) = false ∧ (K (lkC W o x)).length = d ∧ (K (lkD W o x)).length = d ∧ (lkC W o x = o ∨ lkC W o x = x) := by
    have hox : o ≠ x := fun e => by simp [e] at hnd
    rcases lk_cases W o x with ⟨e1, e2, e3⟩ | ⟨e1, e2, e3⟩
    · rw [e1, e2]; exact ⟨hR.trans (List.Perm.swap _ _ _), hox, e3, hod, hx, Or.inl rfl⟩
    · rw [e1, e2]; exact ⟨hR, fun e => hox e.symm, e3, hx, hod, Or.inr rfl⟩
  obtain ⟨hRD, hne, hah, hcl, hdl, hco⟩ := hcd
  generalize lkC W o x = c at *
  generalize lkD W o x = dd at *
  have hdR : dd ∈ R i := hRD.mem_iff.2 (by simp)
  have hcR : c ∈ R i := hRD.mem_iff.2 (by simp)
  obtain ⟨d1, d2, d3, d4, d5⟩ := J.mid.is i dd hdR
  obtain ⟨c1, c2, c3, c4, c5⟩ := J.mid.is i c hcR
  have her : ((R i).erase dd).Perm (c :: (keepI (B.set d (-1)) ++ P)) := by
    have h1 := hRD.erase dd
    rwa [List.erase_cons_head] at h1
  have hat : fbHang K c (dd :: K c) c = dd :: K c := if_pos rfl
  have hoff : ∀ y, y ≠ c → fbHang K c (dd :: K c) y = K y := fun y e => if_neg e
  have hmem : ∀ y p, y ∈ fbHang K c (dd :: K c) p ↔ (p = c ∧ y = dd) ∨ y ∈ K p := fun y p => by
    by_cases e : p = c
    · rw [e, hat, List.mem_cons]; simp
    · rw [hoff p e]; simp [e]
  obtain ⟨had, D⟩ := J.deg
  have hD2 := D.hang (c := c) (d := dd) (l := dd :: K c) d4 hne (List.Perm.refl _) (by omega) false
  have hmid := (J.mid.del (h := i) (t := dd) (l := (R i).erase dd) (List.perm_cons_erase hdR)).hang (c := c) (d := dd) (l := dd :: K c) d5 c2 c4 hne (by rw [c3, d3]) hah (List.Perm.refl _)
  refine ⟨⟨J.len, hmid, H, ⟨_, hD2.marks fun p y _ => ?_⟩, fun g hg => by rw [updR_off _ _ hg]; exact J.off g hg, ?_, fun j hj hjn => ?_, fun y hy => ?_, ?_, ?_⟩, by rw [hat, List.length_cons, hcl], ?_⟩
  · unfold updM
    exact hL y
  · rw [updR_at]
    exact her.trans List.perm_middle.symm
  · rw [List.length_set] at hj
    rw [getD_setI _ hd] at hjn ⊢
    by_cases e : j = d
    · rw [if_pos e] at hjn; exact absurd rfl hjn
    · rw [if_neg e] at hjn ⊢
      have hb1 : B.getD j 0 ∈ keepI (B.set d (-1)) := by
        rw [mem_keepI]
        refine ⟨?_, hjn⟩
        have h1 := getD_setI (B := B) (j := j) (-1) hd
        rw [if_neg e] at h1
        rw [← h1, List.getD_eq_getElem?_getD, List.getElem?_eq_getElem (by rw [List.length_set]; exact hj)]
        exact List.getElem_mem _
      have hbc : B.getD j 0 ≠ c := fun e2 => by
        rw [e2] at hb1
        have := J.mid.nd i
        rw [hRD.nodup_iff, List.nodup_cons, List.nodup_cons] at this
        exact this.2.1 (List.mem_append.2 (Or.inl hb1))
      rw [hoff _ hbc]; exact J.slot j hj hjn
  · rw [hoff y (fun e => c5 (e ▸ hy))]; exact J.bare y hy
  · rw [updR_at]
    intro e0
    rw [e0] at her
    have := her.length_eq
    simp at this
  · rw [updR_at, powR_perm her, ← J.pows, powR_perm hRD]
    have hrest : powR (fbHang K c (dd :: K c)) (keepI (B.set d (-1)) ++ P) = powR K (keepI (B.set d (-1)) ++ P) := powR_same fun y hy => hoff y fun e => by
      have := J.mid.nd i
      rw [hRD.nodup_iff, List.nodup_cons, List.nodup_cons] at this
      exact this.2.1 (e ▸ hy)
    simp only [powR]
    rw [hrest, hat, List.length_cons, hcl, hdl, Nat.pow_succ]
    omega
  · have := pot_step (W := W) (W' := W) (K := K) (K' := fbHang K c (dd :: K c)) (mk := lostOf T) (mk' := lostOf T') [] [dd] (by simp) (fun y hy => by
      refine Or.inl ⟨hy.1, hy.2.imp (fun k p hp => k p ((hmem y p).2 (Or.inr hp))) fun k => ?_⟩
      have k2 : (T' y).lost = true := k
      rw [hL] at k2
      by_cases e : y = dd
      · rw [if_pos e] at k2; cases k2
      · rw [if_neg e] at k2; exact k2) (fun y hy => by
      rw [List.mem_singleton] at hy
      subst hy
      refine ⟨⟨d2, Or.inl d4⟩, fun k => ?_⟩
      rcases k.2 with k | k
      · exact k c ((hmem y c).2 (Or.inl ⟨rfl, rfl⟩))
      · have k2 : (T' y).lost = true := k
        rw [hL, if_pos rfl] at k2
        cases k2)
    simpa using this
/-- Unlike degrees, at last. -/
theorem keep_degs (f : Int → Nat) : ∀ (B : List Int) (k : Nat), (∀ j, j < B.length → B.getD j 0 ≠ -1 → f (B.getD j 0) = k + j) → ((keepI B).map f).Nodup ∧ ∀ y ∈ keepI B, k ≤ f y
  | [], _, _ => ⟨by simp [keepI], fun y hy => by simp [keepI] at hy⟩
  | b :: B, k, h => by
    obtain ⟨h1, h2⟩ := keep_degs f B (k + 1) fun j hj hne => by
      have := h (j + 1) (by simpa using hj) (by simpa using hne)
      simp only [List.getD_cons_succ] at this
      omega
    have e : keepI (b :: B) = keepI [b] ++ keepI B := keepI_app [b] B
    rw [e]
    cases hb : (b == -1)
    · rw [keepI_one hb]
      have hf : f b = k := h 0 (by simp) (by simpa using hb)
      refine ⟨?_, fun y hy => ?_⟩
      · rw [List.map_append, List.map_singleton, List.singleton_append, List.nodup_cons]
        refine ⟨fun hm => ?_, h1⟩
        obtain ⟨y, hy, e2⟩ := List.mem_map.1 hm
        have := h2 y hy
        omega
      · rcases List.mem_append.1 hy with hy | hy
        · rw [List.mem_singleton.1 hy]; omega
        · have := h2 y hy; omega
    · have e0 : b = -1 := by simpa using hb
      rw [e0, keepI_none, List.nil_append]
      exact ⟨h1, fun y hy => by have := h2 y hy; omega⟩
theorem GathJ.done (J : GathJ n W i E R0 Z K R T S B []) : ((R i).map fun y => (K y).length).Nodup ∧ (keepI B).Perm (R i) := by
  have hp := J.perm
  rw [List.append_nil] at hp
  obtain ⟨h1, _⟩ := keep_degs (fun y => (K y).length) B 0 fun j hj hne => by rw [Nat.zero_add]; exact J.slot j hj hne
  exact ⟨(hp.map _).nodup_iff.2 h1, hp.symm⟩
end
end Go.Proofs.Ytcjjglaimfhofaa
