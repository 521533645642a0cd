/- Merged of BinObj, BinLift. -/
import Derived.Test.YtmoolbmbdnkooaaGreatBox
import Derived.Test.YtmoolbmbdnkooaaGreatCarryWhole
import Derived.Test.YtmoolbmbdnkooaaGreatCarryLiftCall
import Derived.Test.YtmoolbmbdnkooaaGreatCells5
import Derived.Deep.RegionHeld3
namespace Go.Proofs.YtmoolbmbdnkooaaGreat
open Go.RowKit Go.Sort

/-- One question which of two slots is ahead. -/
def bR (s s' : Int) : Prop := s ≤ s' ∧ s' ≤ s + 1 ∧ 0 < s'
theorem turns_bR {n : Nat} {s s' : Int} (h : Turns bR n s s') : s ≤ s' ∧ s' ≤ s + n ∧ (0 < n → 0 < s') := by
  induction h with
  | none => exact ⟨Int.le_refl _, by omega, by omega⟩
  | more _ r ih => obtain ⟨r1, r2, r3⟩ := r; exact ⟨by omega, by omega, fun _ => r3⟩
/-- The cells, and two rows that are looked at. -/
def Ob.binAsk (c : Nat) (W : WS) (va vb : Value) (la lb : List Int) (s : Int) : Ob := Ob.group [Ob.cells c W s, Ob.ints va la, Ob.ints vb lb]
theorem bin_asks (c : Nat) (W : WS) (va vb : Value) (la lb : List Int) : Asks (Ob.binAsk c W va vb la lb) bR (fun x => inW W x = true) (aheadW W) (fun _ => True) 34 (ptrV c) ⟨91, ptrV c⟩ where
  there _ := trivial
  meth := ⟨fun w _ => by kernel_rfl, fun args w => by kernel_rfl⟩
  ask := by
    intro s w F a b ha hb h
    have hlt := (Ob.binAsk c W va vb la lb s).lt h
    have hs := Ob.group.open h
    have hr : 0 ≤ s ∧ s ≤ 4611686018427387904 := (hs.get (i := 0) rfl).elim fun _ ho => Ob.cells.steps ho
    refine (hs.call 0 rfl (fun _ ho => ahead_cl a b ho)).mono ?_
    rintro e w' ⟨rfl, h2⟩
    refine ⟨rfl, _, ?_, h2.close hlt⟩
    have e2 : aheadS W s a b = addI s 1 := by simp [aheadS, ha, hb]
    rw [e2]
    unfold bR addI
    repeat' split
    all_goals omega
/-- The forest of cubes, the cells, the block that names both. -/
def binF (f c t n : Nat) (W : WS) (s : Int) (K : Int → List Int) : List Ob := [Ob.forest t n K, Ob.cells c W s, Ob.box f #[ptrV c, ptrV t] 73]
section
variable {F0 F : Nat → Prop} {W0 w : World} {f c t n : Nat} {W : WS} {s : Int} {K : Int → List Int} {q : List Ob} {a b : Option Addr} {ca cb : Nat} {la lb : List Int} {R : Nat → List Int} {h : Nat}
/-- What merge makes. -/
def BinMerged (n : Nat) (W : WS) (K : Int → List Int) (L : List Int) (s : Int) (K' : Int → List Int) (r : List Int) (s' : Int) : Prop :=
  ∃ k, (∃ r', Links n (fun x y => aheadW W x y = true) K L k K' r' ∧ r'.Perm r) ∧ RowK n K' r ∧ s ≤ s' ∧ s' ≤ s + (k : Int) ∧ (0 < k → 0 < s')
set_option maxRecDepth 100000 in
set_option maxHeartbeats 1000000 in
theorem bmerge_one (hs : Stage F w (binF f c t n W s K ++ [Ob.ints (.slice a la.length ca) la, Ob.ints (.slice b lb.length cb) lb]) w) (hRA : RowK n K la) (hRB : RowK n K lb) (hd : ¬ ∃ x ∈ la, x ∈ lb) (hin : ∀ x ∈ la ++ lb, inW W x = true) :
    Calls Tryz.prog 20 #[.pointer (some ⟨f, 0, none⟩), .slice a la.length ca, .slice b lb.length cb] w fun e w' => ∃ z m cz K' s' r, e = .returned (.slice z m cz) ∧ BinMerged n W K (la ++ lb) s K' r s' ∧ Stage F w (binF f c t n W s' K' ++ [Ob.ints (.slice z m cz) r]) w' := by
  have f0 : w.cell? ⟨f, 0, none⟩ = some (.pointer (some ⟨c, 0, none⟩)) := hs.cell 2 rfl rfl
  have f1 : w.cell? ⟨f, 1, none⟩ = some (.pointer (some ⟨t, 0, none⟩)) := hs.cell 2 rfl rfl
  obtain ⟨_, _, ea, hca, hca2⟩ := hs.intsForm 3 rfl
  obtain ⟨_, _, eb, hcb, hcb2⟩ := hs.intsForm 4 rfl
  cases ea
  cases eb
  have hlt : ∀ x y, aheadW W x y = true → aheadW W y x = false := fun x y h => hm_asym h
  have h1 : Stage F w ([Ob.forest t n K, Ob.binAsk c W (.slice a la.length ca) (.slice b lb.length cb) la lb s] ++ [Ob.box f #[ptrV c, ptrV t] 73]) w.drew := by
    have h0 : Stage F w ([Ob.forest t n K, Ob.box f #[ptrV c, ptrV t] 73] ++ [Ob.cells c W s, Ob.ints (.slice a la.length ca) la, Ob.ints (.slice b lb.length cb) lb]) w.drew := hs.drew.select [0, 2, 1, 3, 4] (by decide) rfl
    exact h0.regroup.select [0, 2, 1] (by decide) rfl
  have hC := Stage.carryYes (q := [Ob.box f #[ptrV c, ptrV t] 73]) (bin_asks c W (.slice a la.length ca) (.slice b lb.length cb) la lb) hlt hin ⟨fun ho => ⟨(Ob.group.open ho).intsAtI 1 rfl, (Ob.group.open ho).intsAtI 2 rfl⟩, ⟨hca, hca2⟩, ⟨hcb, hcb2⟩⟩ h1 hRA hRB hd
  clear hs h1 hRA hRB hd hin hlt hca hca2 hcb hcb2
  unfold ptrV at hC
  obtain ⟨L, hL⟩ : ∃ L, L = la ++ lb := ⟨_, rfl⟩
  rw [← hL] at hC ⊢
  replace hL := Lib.hid hL
  generalize la.length = na at *
  generalize lb.length = nb at *
  go_enter Tryz.func20, Tryz.ntmps20
  go_wp2_with fail
  go_region_held3 (fun w' => w'.cell? ⟨f, 0, none⟩ = some (.pointer (some ⟨c, 0, none⟩)) ∧ w'.cell? ⟨f, 1, none⟩ = some (.pointer (some ⟨t, 0, none⟩))) (first | exact ⟨f0, f1⟩ | exact ⟨f0p, f1p⟩ | simp [*])
    (((with_reducible refine hC.mono ?_); rintro e w2 ⟨z, m, cz, K', s', k, r, rfl, h2, h3, h4, h5⟩; have f0p : w2.cell? ⟨f, 0, none⟩ = some (.pointer (some ⟨c, 0, none⟩)) := h5.cell 3 rfl rfl; have f1p : w2.cell? ⟨f, 1, none⟩ = some (.pointer (some ⟨t, 0, none⟩)) := h5.cell 3 rfl rfl))
  have h6 : Stage F w (binF f c t n W s' K' ++ [Ob.ints (.slice z m cz) r]) w2 := by
    have g1 : Stage F w ([Ob.forest t n K', Ob.ints (.slice z m cz) r, Ob.box f #[ptrV c, ptrV t] 73] ++ [Ob.binAsk c W (.slice a na ca) (.slice b nb cb) la lb s']) w2 := h5.select [0, 2, 3, 1] (by decide) rfl
    exact g1.ungroup.select [0, 3, 2, 1] (by decide) rfl
  have h7 := turns_bR h4
  clear hC h5
  go_wp2_with fail
  go_ret
  exact ⟨_, _, _, K', s', r, rfl, ⟨k, h2, h3, h7⟩, h6⟩
end
end Go.Proofs.YtmoolbmbdnkooaaGreat

namespace Go.Proofs.YtmoolbmbdnkooaaGreat
open Go.RowKit Go.Sort

def boolV : Value → Bool
  | .bool b => b
  | _ => false
/-- Where x stands; -1, if it doesn't. -/
def IndexOf (l : List Int) (x z : Int) : Prop := (x ∉ l ∧ z = -1) ∨ ∃ j : Nat, z = j ∧ j < l.length ∧ l.getD j 0 = x
section
variable {F0 : Nat → Prop} {W0 w : World} {f c t n : Nat} {W : WS} {s : Int} {q : List Ob} {R : Nat → List Int} {h : Nat}
theorem indexAt_any (l : List Int) (a : Option Addr) (c : Nat) (hc : l.length ≤ c ∧ c ≤ 9223372036854775807) (hl : IntsAt w .i64 a l) (x : Int) :
    Calls Tryz.prog 75 #[.slice a l.length c, .int .i64 x] w fun e w' => ∃ z, e = .returned (.int .i64 z) ∧ IndexOf l x z ∧ w = w' := by
  obtain ⟨hc1, hc2⟩ := hc
  have hall : (∀ i, i < l.length → l.getD i 0 ≠ x) → x ∉ l := fun h hx => by
    obtain ⟨i, hi, e⟩ := List.getElem_of_mem hx
    exact h i hi (by simpa [List.getD_eq_getElem?_getD, hi] using e)
  have hyes : ∀ j : Nat, j < l.length → l.getD j 0 = x → IndexOf l x j := fun j h1 h2 => Or.inr ⟨j, rfl, h1, h2⟩
  go_enter Tryz.func75, Tryz.ntmps75
  go_wp2_with fail
  go_loopw [8] (fun i wr => ∃ j : Nat, i = .int .i64 j ∧ j ≤ l.length ∧ (∀ i, i < j → l.getD i 0 ≠ x) ∧ w = wr) (fun i _ => l.length - (intOf i).toNat)
  case atStart => exact ⟨0, rfl, Nat.zero_le _, fun i hi => absurd hi (Nat.not_lt_zero _), rfl⟩
  case round =>
    obtain ⟨j, rfl, hj, hno, rfl⟩ := hrel
    by_cases hjn : j < l.length
    · have hji : (j : Int) < l.length := by omega
      obtain ⟨gb, o, rfl, u0⟩ := hl j hjn
      by_cases e : l.getD j 0 = x
      · have hY := hyes j hjn e
        rw [e] at u0
        clear hl hall hno e hyes
        generalize l.length = m at *
        go_wp2_with fail
        go_ret
        exact ⟨j, rfl, hY, rfl⟩
      · have e' : (x == l.getD j 0) = false := by simpa using fun h => e h.symm
        have hno2 : ∀ i, i < j + 1 → l.getD i 0 ≠ x := fun i hi => by
          by_cases e2 : i = j
          · rw [e2]; exact e
          · exact hno i (by omega)
        clear hl hall hno hyes
        generalize l.getD j 0 = y at *
        generalize l.length = m at *
        go_wp2_with fail
        go_roundw
        case rel => exact ⟨j + 1, by go_num, by omega, hno2, trivial⟩
        case measure => simp [intOf]; omega
    · obtain rfl : j = l.length := by omega
      have hx := hall hno
      clear hl hall hno hyes
      have hY : IndexOf l x (-1) := Or.inl ⟨hx, rfl⟩
      clear hx
      generalize l.length = m at *
      go_wp2_with fail
      go_ret
      exact ⟨-1, rfl, hY, rfl⟩
theorem put_at {l : List Int} {p x : Int} {j : Nat} (hd : l.Nodup) (hj : j < l.length) (e : l.getD j 0 = p) : putL l p x = l.set j x := by
  have e1 : l[j] = p := by simpa [List.getD_eq_getElem?_getD, hj] using e
  apply List.ext_getElem
  · simp [putL]
  · intro i h1 h2
    have hi : i < l.length := by simpa [putL] using h1
    rw [List.getElem_set]
    simp only [putL, List.getElem_map]
    by_cases e2 : j = i
    · subst e2
      rw [if_pos e1, if_pos rfl]
    · rw [if_neg e2, if_neg (fun e3 => e2 ?_)]
      have := (List.getElem_inj hd (i := j) (j := i)).1 (e1.trans e3.symm)
      exact this
set_option maxRecDepth 100000 in
set_option maxHeartbeats 2000000 in
theorem lift_st {fid : FuncId} {caps : Array Value} {B : Int → Bool} {Lw : (Int → List Int) → Prop} {gb cv m : Nat} {K0 : Int → List Int} {l0 A0 : List Int} (x : Int) (hn : n ≤ 65536) (hx : (cellW W x).home = h) (hm : l0.length = m)
    (J0 : LiftJ W n R h x A0 K0 l0 A0) (hl0 : Lw K0) (hstep : ∀ K' l' p r, LiftJ W n R h x A0 K' l' (p :: r) → Lw K' → B p = true → Lw (liftF K' x))
    (hent : ∀ args w, (callFunc fid args).run Tryz.prog w = .ok (.enter fid args) w) (hfur : ∀ (s' : Int) (K' : Int → List Int) (l' : List Int) (p : Int) (w' : World), inW W p = true → Stage F0 W0 (binF f c t n W s' K' ++ (Ob.ints (.slice (some ⟨gb, 0, none⟩) m cv) l' :: q)) w' → Calls Tryz.prog fid (#[.int .i64 p] ++ caps) w' fun e w'' => e = .returned (.bool (B p)) ∧ ∃ s'', (s' ≤ s'' ∧ s'' ≤ s' + 1) ∧ Stage F0 W0 (binF f c t n W s'' K' ++ (Ob.ints (.slice (some ⟨gb, 0, none⟩) m cv) l' :: q)) w'')
    (hs : Stage F0 W0 (binF f c t n W s K0 ++ (Ob.ints (.slice (some ⟨gb, 0, none⟩) m cv) l0 :: q)) w) :
    Calls Tryz.prog 107 #[.pointer (some ⟨f, 0, none⟩), .slice (some ⟨gb, 0, none⟩) m cv, .int .i64 x, .func (Fn.func fid) #[] caps] w fun e w' => e = .returned (.tuple #[]) ∧ ∃ K' l' A' s', LiftJ W n R h x A0 K' l' A' ∧ Lw K' ∧ (s ≤ s' ∧ s' ≤ s + A0.length) ∧ (∀ p r, A' = p :: r → B p = false) ∧ l'.length = m ∧ Stage F0 W0 (binF f c t n W s' K' ++ (Ob.ints (.slice (some ⟨gb, 0, none⟩) m cv) l' :: q)) w' := by
  have f1 : w.cell? ⟨f, 1, none⟩ = some (.pointer (some ⟨t, 0, none⟩)) := hs.cell 2 rfl rfl
  have hU := hs.ask 0 rfl (fun _ ho => up_f ho x)
  have I0 := J0.inv
  have hanc := J0.anc
  rw [J0.up] at hU
  go_enter Tryz.func107, Tryz.ntmps107
  go_wp2_with fail
  refine hU.mono ?_
  rintro e w1 ⟨rfl, rfl⟩
  clear hU f1
  go_wp2_with fail
  go_loopw [8, 9] (fun p ok wr => ∃ K' l' A' s', p = .int .i64 (A'.head?.getD 0) ∧ ok = .bool A'.head?.isSome ∧ LiftJ W n R h x A0 K' l' A' ∧ Lw K' ∧ s ≤ s' ∧ s' + (A'.length : Int) ≤ s + (A0.length : Int) ∧ l'.length = m ∧ Stage F0 W0 (binF f c t n W s' K' ++ (Ob.ints (.slice (some ⟨gb, 0, none⟩) m cv) l' :: q)) wr) (fun p ok _ => lifted K0 (boolV ok) (intOf p))
  case atStart => exact ⟨K0, l0, A0, s, rfl, rfl, J0, hl0, Int.le_refl _, Int.le_refl _, hm, hs⟩
  case round =>
    clear hs J0 hl0 hm
    obtain ⟨K', l', A', s', rfl, rfl, J, hl, hs1, hs2, hm, hs⟩ := hrel
    cases A' with
    | nil =>
      have hfin : ∃ K' l' A' s', LiftJ W n R h x A0 K' l' A' ∧ Lw K' ∧ (s ≤ s' ∧ s' ≤ s + A0.length) ∧ (∀ p r, A' = p :: r → B p = false) ∧ l'.length = m ∧ Stage F0 W0 (binF f c t n W s' K' ++ (Ob.ints (.slice (some ⟨gb, 0, none⟩) m cv) l' :: q)) wr := ⟨K', l', [], s', J, hl, ⟨hs1, by simp at hs2; omega⟩, fun p r e => (by cases e), hm, hs⟩
      clear J hl hs hstep hfur hanc
      go_wp2_with fail
      go_end0
      exact ⟨rfl, hfin⟩
    | cons p r =>
      obtain ⟨hxp, hK1, J1⟩ := J.step hx
      have hpin := (J.home.hung hxp).1
      have hF := hfur s' K' l' p wr hpin hs
      have hms := lifted_less I0 hn hanc J.suf
      cases hB : B p
      · rw [hB] at hF
        have hfin : ∀ w2 s2, s' ≤ s2 ∧ s2 ≤ s' + 1 → Stage F0 W0 (binF f c t n W s2 K' ++ (Ob.ints (.slice (some ⟨gb, 0, none⟩) m cv) l' :: q)) w2 → ∃ K' l' A' s', LiftJ W n R h x A0 K' l' A' ∧ Lw K' ∧ (s ≤ s' ∧ s' ≤ s + A0.length) ∧ (∀ p r, A' = p :: r → B p = false) ∧ l'.length = m ∧ Stage F0 W0 (binF f c t n W s' K' ++ (Ob.ints (.slice (some ⟨gb, 0, none⟩) m cv) l' :: q)) w2 := fun w2 s2 hs3 h4 => ⟨K', l', p :: r, s2, J, hl, ⟨by omega, by simp at hs2; omega⟩, fun p' r' e => by injection e with e _; rw [← e]; exact hB, hm, h4⟩
        clear J hl hs hstep hfur hanc J1 hms hK1 hB
        go_wp2_with fail
        refine hF.mono ?_
        rintro e w2 ⟨rfl, s2, hs3, h4⟩
        go_wp2_with fail
        go_end0
        exact ⟨rfl, hfin w2 s2 hs3 h4⟩
      · rw [hB] at hF
        have hl1 := hstep K' l' p r J hl hB
        have hnd : l'.Nodup := by have := (J.rows h).roots.nodup; rwa [updI_at] at this
        have hrest : ∀ w2 s2 l2, s' ≤ s2 ∧ s2 ≤ s' + 1 → l2 = putL l' p x → Stage F0 W0 (binF f c t n W s2 (liftF K' x) ++ (Ob.ints (.slice (some ⟨gb, 0, none⟩) m cv) l2 :: q)) w2 → LiftJ W n R h x A0 (liftF K' x) l2 r ∧ Lw (liftF K' x) ∧ s ≤ s2 ∧ s2 + (r.length : Int) ≤ s + (A0.length : Int) ∧ l2.length = m := fun w2 s2 l2 h1 h2 h3 => ⟨by rw [h2]; exact J1, hl1, by omega, by simp at hs2; omega, by rw [h2]; simp [putL, hm]⟩
        have hup := J1.up
        clear J hl hstep hanc J1 hK1 hB hl1 hfur hs
        go_wp2_with fail
        refine hF.mono ?_
        rintro e w2 ⟨rfl, s2, hs3, h4⟩
        clear hF
        have f1 : w2.cell? ⟨f, 1, none⟩ = some (.pointer (some ⟨t, 0, none⟩)) := h4.cell 2 rfl rfl
        have hL := Stage.liftCall h4 x
        generalize (upK K' x).isSome = bb at *
        go_wp2_with fail
        refine hL.mono ?_
        rintro e w3 ⟨rfl, h5⟩
        clear hL h4 f1
        replace h5 : Stage F0 W0 (binF f c t n W s2 (liftF K' x) ++ (Ob.ints (.slice (some ⟨gb, 0, none⟩) m cv) l' :: q)) w3 := h5
        have hcv : l'.length ≤ cv ∧ cv ≤ 9223372036854775807 := by
          obtain ⟨_, cv', ev, hcv1, hcv2⟩ := h5.intsForm 3 rfl
          injection ev with _ _ ev
          rw [ev]; exact ⟨hcv1, hcv2⟩
        have hIA : IntsAt w3 .i64 (some ⟨gb, 0, none⟩) l' := by
          have h6 := h5
          rw [← hm] at h6
          exact h6.intsAtI 3 rfl
        have hI := indexAt_any l' (some ⟨gb, 0, none⟩) cv hcv hIA p
        rw [hm] at hI
        have hmc : m ≤ cv := by omega
        have hmx : cv ≤ 9223372036854775807 := hcv.2
        clear hIA hcv
        have h5' := h5
        rw [← hm] at h5'
        have hfr := (h5'.owns 3 rfl).frozenAt
        go_wp2_with fail
        refine hI.mono ?_
        rintro e w4 ⟨z, rfl, hz, rfl⟩
        clear hI
        rcases hz with ⟨hno, rfl⟩ | ⟨j, rfl, hj, hat⟩
        · have hJ := hrest w3 s2 l' hs3 (put_not hno).symm h5
          have f1 : w3.cell? ⟨f, 1, none⟩ = some (.pointer (some ⟨t, 0, none⟩)) := h5.cell 2 rfl rfl
          have hU := h5.ask 0 rfl (fun _ ho => up_f ho x)
          rw [hup] at hU
          clear hrest hfr
          clear hm hnd h5'
          go_wp2_with fail
          refine hU.mono ?_
          rintro e w5 ⟨rfl, rfl⟩
          clear hU
          go_wp2_with fail
          go_roundw
          case rel => exact ⟨_, l', r, s2, rfl, rfl, hJ.1, hJ.2.1, hJ.2.2.1, hJ.2.2.2.1, hJ.2.2.2.2, h5⟩
          case measure => exact hms
        · have h6 := h5'.storeRow 3 rfl j (.int .i64 x) (intC_set l' j x)
          rw [hm] at h6
          have hfr := hfr j
          have hcj : w3.cell? ⟨gb, j, none⟩ = some (.int .i64 p) := by
            obtain ⟨g9, c9, e9, _, _, _, hc9, _⟩ := h5'.intsAt 3 rfl (by omega)
            cases e9
            rw [← hat]
            exact hc9 j hj
          have hjm : (j : Int) < m := by omega
          have hput := put_at (x := x) hnd hj hat
          have h7 : Stage F0 W0 (binF f c t n W s2 (liftF K' x) ++ (Ob.ints (.slice (some ⟨gb, 0, none⟩) m cv) (l'.set j x) :: q)) (w3.setCell ⟨gb, j, none⟩ (.int .i64 x)) := by
            have e1 : (l'.set j x).length = m := by simpa using hm
            unfold Ob.ints
            rw [e1]
            exact h6
          have hJ := hrest _ s2 (l'.set j x) hs3 hput.symm h7
          have f1 : (w3.setCell ⟨gb, j, none⟩ (.int .i64 x)).cell? ⟨f, 1, none⟩ = some (.pointer (some ⟨t, 0, none⟩)) := h7.cell 2 rfl rfl
          have hU := h7.ask 0 rfl (fun _ ho => up_f ho x)
          rw [hup] at hU
          clear hrest h6 hm hnd hput hat hj h5'
          go_wp2_with fail
          refine hU.mono ?_
          rintro e w5 ⟨rfl, rfl⟩
          clear hU
          go_wp2_with fail
          go_roundw
          case rel => exact ⟨_, _, r, s2, rfl, rfl, hJ.1, hJ.2.1, hJ.2.2.1, hJ.2.2.2.1, hJ.2.2.2.2, h7⟩
          case measure => exact hms
end
end Go.Proofs.YtmoolbmbdnkooaaGreat
