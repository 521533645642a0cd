/- Merged of BinLift, BinTakeMath. -/
import Derived.Test.YtmoolbmbdnkooaaBinObj
import Derived.Test.YtmoolbmbdnkooaaBox
namespace Go.Proofs.Ytmoolbmbdnkooaa
open Go.RowKit Go.Sort

def boolV : Value → Bool
  | .bool b => b
  | _ => false
/-- Where x stands; -1, if it doesn't. -/
def IndexOf (l : List Int) (x z : Int) : Prop := (x ∉ l ∧ z = -1) ∨ ∃ j : Nat, z = j ∧ j < l.length ∧ l.getD j 0 = x
section
variable {F0 : Nat → Prop} {W0 w : World} {f c t n : Nat} {W : WS} {s : Int} {q : List Ob} {R : Nat → List Int} {h : Nat}
theorem indexAt_any (l : List Int) (a : Option Addr) (c : Nat) (hc : l.length ≤ c ∧ c ≤ 9223372036854775807) (hl : IntsAt w .i64 a l) (x : Int) :
    Calls Try.prog 71 #[.slice a l.length c, .int .i64 x] w fun e w' => ∃ z, e = .returned (.int .i64 z) ∧ IndexOf l x z ∧ w = w' := by
  obtain ⟨hc1, hc2⟩ := hc
  have hall : (∀ i, i < l.length → l.getD i 0 ≠ x) → x ∉ l := fun h hx => by
    obtain ⟨i, hi, e⟩ := List.getElem_of_mem hx
    exact h i hi (by simpa [List.getD_eq_getElem?_getD, hi] using e)
  have hyes : ∀ j : Nat, j < l.length → l.getD j 0 = x → IndexOf l x j := fun j h1 h2 => Or.inr ⟨j, rfl, h1, h2⟩
  go_enter Try.func71, Try.ntmps71
  go_wp2_with fail
  go_loopw [8] (fun i wr => ∃ j : Nat, i = .int .i64 j ∧ j ≤ l.length ∧ (∀ i, i < j → l.getD i 0 ≠ x) ∧ w = wr) (fun i _ => l.length - (intOf i).toNat)
  case atStart => exact ⟨0, rfl, Nat.zero_le _, fun i hi => absurd hi (Nat.not_lt_zero _), rfl⟩
  case round =>
    obtain ⟨j, rfl, hj, hno, rfl⟩ := hrel
    by_cases hjn : j < l.length
    · have hji : (j : Int) < l.length := by omega
      obtain ⟨gb, o, rfl, u0⟩ := hl j hjn
      by_cases e : l.getD j 0 = x
      · have hY := hyes j hjn e
        rw [e] at u0
        clear hl hall hno e hyes
        generalize l.length = m at *
        go_wp2_with fail
        go_ret
        exact ⟨j, rfl, hY, rfl⟩
      · have e' : (x == l.getD j 0) = false := by simpa using fun h => e h.symm
        have hno2 : ∀ i, i < j + 1 → l.getD i 0 ≠ x := fun i hi => by
          by_cases e2 : i = j
          · rw [e2]; exact e
          · exact hno i (by omega)
        clear hl hall hno hyes
        generalize l.getD j 0 = y at *
        generalize l.length = m at *
        go_wp2_with fail
        go_roundw
        case rel => exact ⟨j + 1, by go_num, by omega, hno2, trivial⟩
        case measure => simp [intOf]; omega
    · obtain rfl : j = l.length := by omega
      have hx := hall hno
      clear hl hall hno hyes
      have hY : IndexOf l x (-1) := Or.inl ⟨hx, rfl⟩
      clear hx
      generalize l.length = m at *
      go_wp2_with fail
      go_ret
      exact ⟨-1, rfl, hY, rfl⟩
theorem put_at {l : List Int} {p x : Int} {j : Nat} (hd : l.Nodup) (hj : j < l.length) (e : l.getD j 0 = p) : putL l p x = l.set j x := by
  have e1 : l[j] = p := by simpa [List.getD_eq_getElem?_getD, hj] using e
  apply List.ext_getElem
  · simp [putL]
  · intro i h1 h2
    have hi : i < l.length := by simpa [putL] using h1
    rw [List.getElem_set]
    simp only [putL, List.getElem_map]
    by_cases e2 : j = i
    · subst e2
      rw [if_pos e1, if_pos rfl]
    · rw [if_neg e2, if_neg (fun e3 => e2 ?_)]
      have := (List.getElem_inj hd (i := j) (j := i)).1 (e1.trans e3.symm)
      exact this
set_option maxRecDepth 100000 in
set_option maxHeartbeats 2000000 in
theorem lift_st {fid : FuncId} {caps : Array Value} {B : Int → Bool} {Lw : (Int → List Int) → Prop} {gb cv m : Nat} {K0 : Int → List Int} {l0 A0 : List Int} (x : Int) (hn : n ≤ 65536) (hx : (cellW W x).home = h) (hm : l0.length = m)
    (J0 : LiftJ W n R h x A0 K0 l0 A0) (hl0 : Lw K0) (hstep : ∀ K' l' p r, LiftJ W n R h x A0 K' l' (p :: r) → Lw K' → B p = true → Lw (liftF K' x))
    (hent : ∀ args w, (callFunc fid args).run Try.prog w = .ok (.enter fid args) w) (hfur : ∀ (s' : Int) (K' : Int → List Int) (l' : List Int) (p : Int) (w' : World), inW W p = true → Stage F0 W0 (binF f c t n W s' K' ++ (Ob.ints (.slice (some ⟨gb, 0, none⟩) m cv) l' :: q)) w' → Calls Try.prog fid (#[.int .i64 p] ++ caps) w' fun e w'' => e = .returned (.bool (B p)) ∧ ∃ s'', (s' ≤ s'' ∧ s'' ≤ s' + 1) ∧ Stage F0 W0 (binF f c t n W s'' K' ++ (Ob.ints (.slice (some ⟨gb, 0, none⟩) m cv) l' :: q)) w'')
    (hs : Stage F0 W0 (binF f c t n W s K0 ++ (Ob.ints (.slice (some ⟨gb, 0, none⟩) m cv) l0 :: q)) w) :
    Calls Try.prog 105 #[.pointer (some ⟨f, 0, none⟩), .slice (some ⟨gb, 0, none⟩) m cv, .int .i64 x, .func (Fn.func fid) #[] caps] w fun e w' => e = .returned (.tuple #[]) ∧ ∃ K' l' A' s', LiftJ W n R h x A0 K' l' A' ∧ Lw K' ∧ (s ≤ s' ∧ s' ≤ s + A0.length) ∧ (∀ p r, A' = p :: r → B p = false) ∧ l'.length = m ∧ Stage F0 W0 (binF f c t n W s' K' ++ (Ob.ints (.slice (some ⟨gb, 0, none⟩) m cv) l' :: q)) w' := by
  have f1 : w.cell? ⟨f, 1, none⟩ = some (.pointer (some ⟨t, 0, none⟩)) := hs.cell 2 rfl rfl
  have hU := hs.ask 0 rfl (fun _ ho => up_f ho x)
  have I0 := J0.inv
  have hanc := J0.anc
  rw [J0.up] at hU
  go_enter Try.func105, Try.ntmps105
  go_wp2_with fail
  refine hU.mono ?_
  rintro e w1 ⟨rfl, rfl⟩
  clear hU f1
  go_wp2_with fail
  go_loopw [8, 9] (fun p ok wr => ∃ K' l' A' s', p = .int .i64 (A'.head?.getD 0) ∧ ok = .bool A'.head?.isSome ∧ LiftJ W n R h x A0 K' l' A' ∧ Lw K' ∧ s ≤ s' ∧ s' + (A'.length : Int) ≤ s + (A0.length : Int) ∧ l'.length = m ∧ Stage F0 W0 (binF f c t n W s' K' ++ (Ob.ints (.slice (some ⟨gb, 0, none⟩) m cv) l' :: q)) wr) (fun p ok _ => lifted K0 (boolV ok) (intOf p))
  case atStart => exact ⟨K0, l0, A0, s, rfl, rfl, J0, hl0, Int.le_refl _, Int.le_refl _, hm, hs⟩
  case round =>
    clear hs J0 hl0 hm
    obtain ⟨K', l', A', s', rfl, rfl, J, hl, hs1, hs2, hm, hs⟩ := hrel
    cases A' with
    | nil =>
      have hfin : ∃ K' l' A' s', LiftJ W n R h x A0 K' l' A' ∧ Lw K' ∧ (s ≤ s' ∧ s' ≤ s + A0.length) ∧ (∀ p r, A' = p :: r → B p = false) ∧ l'.length = m ∧ Stage F0 W0 (binF f c t n W s' K' ++ (Ob.ints (.slice (some ⟨gb, 0, none⟩) m cv) l' :: q)) wr := ⟨K', l', [], s', J, hl, ⟨hs1, by simp at hs2; omega⟩, fun p r e => (by cases e), hm, hs⟩
      clear J hl hs hstep hfur hanc
      go_wp2_with fail
      go_end0
      exact ⟨rfl, hfin⟩
    | cons p r =>
      obtain ⟨hxp, hK1, J1⟩ := J.step hx
      have hpin := (J.home.hung hxp).1
      have hF := hfur s' K' l' p wr hpin hs
      have hms := lifted_less I0 hn hanc J.suf
      cases hB : B p
      · rw [hB] at hF
        have hfin : ∀ w2 s2, s' ≤ s2 ∧ s2 ≤ s' + 1 → Stage F0 W0 (binF f c t n W s2 K' ++ (Ob.ints (.slice (some ⟨gb, 0, none⟩) m cv) l' :: q)) w2 → ∃ K' l' A' s', LiftJ W n R h x A0 K' l' A' ∧ Lw K' ∧ (s ≤ s' ∧ s' ≤ s + A0.length) ∧ (∀ p r, A' = p :: r → B p = false) ∧ l'.length = m ∧ Stage F0 W0 (binF f c t n W s' K' ++ (Ob.ints (.slice (some ⟨gb, 0, none⟩) m cv) l' :: q)) w2 := fun w2 s2 hs3 h4 => ⟨K', l', p :: r, s2, J, hl, ⟨by omega, by simp at hs2; omega⟩, fun p' r' e => by injection e with e _; rw [← e]; exact hB, hm, h4⟩
        clear J hl hs hstep hfur hanc J1 hms hK1 hB
        go_wp2_with fail
        refine hF.mono ?_
        rintro e w2 ⟨rfl, s2, hs3, h4⟩
        go_wp2_with fail
        go_end0
        exact ⟨rfl, hfin w2 s2 hs3 h4⟩
      · rw [hB] at hF
        have hl1 := hstep K' l' p r J hl hB
        have hnd : l'.Nodup := by have := (J.rows h).roots.nodup; rwa [updI_at] at this
        have hrest : ∀ w2 s2 l2, s' ≤ s2 ∧ s2 ≤ s' + 1 → l2 = putL l' p x → Stage F0 W0 (binF f c t n W s2 (liftF K' x) ++ (Ob.ints (.slice (some ⟨gb, 0, none⟩) m cv) l2 :: q)) w2 → LiftJ W n R h x A0 (liftF K' x) l2 r ∧ Lw (liftF K' x) ∧ s ≤ s2 ∧ s2 + (r.length : Int) ≤ s + (A0.length : Int) ∧ l2.length = m := fun w2 s2 l2 h1 h2 h3 => ⟨by rw [h2]; exact J1, hl1, by omega, by simp at hs2; omega, by rw [h2]; simp [putL, hm]⟩
        have hup := J1.up
        clear J hl hstep hanc J1 hK1 hB hl1 hfur hs
        go_wp2_with fail
        refine hF.mono ?_
        rintro e w2 ⟨rfl, s2, hs3, h4⟩
        clear hF
        have f1 : w2.cell? ⟨f, 1, none⟩ = some (.pointer (some ⟨t, 0, none⟩)) := h4.cell 2 rfl rfl
        have hL := Stage.liftCall h4 x
        generalize (upK K' x).isSome = bb at *
        go_wp2_with fail
        refine hL.mono ?_
        rintro e w3 ⟨rfl, h5⟩
        clear hL h4 f1
        replace h5 : Stage F0 W0 (binF f c t n W s2 (liftF K' x) ++ (Ob.ints (.slice (some ⟨gb, 0, none⟩) m cv) l' :: q)) w3 := h5
        have hcv : l'.length ≤ cv ∧ cv ≤ 9223372036854775807 := by
          obtain ⟨_, cv', ev, hcv1, hcv2⟩ := h5.intsForm 3 rfl
          injection ev with _ _ ev
          rw [ev]; exact ⟨hcv1, hcv2⟩
        have hIA : IntsAt w3 .i64 (some ⟨gb, 0, none⟩) l' := by
          have h6 := h5
          rw [← hm] at h6
          exact h6.intsAtI 3 rfl
        have hI := indexAt_any l' (some ⟨gb, 0, none⟩) cv hcv hIA p
        rw [hm] at hI
        have hmc : m ≤ cv := by omega
        have hmx : cv ≤ 9223372036854775807 := hcv.2
        clear hIA hcv
        have h5' := h5
        rw [← hm] at h5'
        have hfr := (h5'.owns 3 rfl).frozenAt
        go_wp2_with fail
        refine hI.mono ?_
        rintro e w4 ⟨z, rfl, hz, rfl⟩
        clear hI
        rcases hz with ⟨hno, rfl⟩ | ⟨j, rfl, hj, hat⟩
        · have hJ := hrest w3 s2 l' hs3 (put_not hno).symm h5
          have f1 : w3.cell? ⟨f, 1, none⟩ = some (.pointer (some ⟨t, 0, none⟩)) := h5.cell 2 rfl rfl
          have hU := h5.ask 0 rfl (fun _ ho => up_f ho x)
          rw [hup] at hU
          clear hrest hfr
          clear hm hnd h5'
          go_wp2_with fail
          refine hU.mono ?_
          rintro e w5 ⟨rfl, rfl⟩
          clear hU
          go_wp2_with fail
          go_roundw
          case rel => exact ⟨_, l', r, s2, rfl, rfl, hJ.1, hJ.2.1, hJ.2.2.1, hJ.2.2.2.1, hJ.2.2.2.2, h5⟩
          case measure => exact hms
        · have h6 := h5'.storeRow 3 rfl j (.int .i64 x) (intC_set l' j x)
          rw [hm] at h6
          have hfr := hfr j
          have hcj : w3.cell? ⟨gb, j, none⟩ = some (.int .i64 p) := by
            obtain ⟨g9, c9, e9, _, _, _, hc9, _⟩ := h5'.intsAt 3 rfl (by omega)
            cases e9
            rw [← hat]
            exact hc9 j hj
          have hjm : (j : Int) < m := by omega
          have hput := put_at (x := x) hnd hj hat
          have h7 : Stage F0 W0 (binF f c t n W s2 (liftF K' x) ++ (Ob.ints (.slice (some ⟨gb, 0, none⟩) m cv) (l'.set j x) :: q)) (w3.setCell ⟨gb, j, none⟩ (.int .i64 x)) := by
            have e1 : (l'.set j x).length = m := by simpa using hm
            unfold Ob.ints
            rw [e1]
            exact h6
          have hJ := hrest _ s2 (l'.set j x) hs3 hput.symm h7
          have f1 : (w3.setCell ⟨gb, j, none⟩ (.int .i64 x)).cell? ⟨f, 1, none⟩ = some (.pointer (some ⟨t, 0, none⟩)) := h7.cell 2 rfl rfl
          have hU := h7.ask 0 rfl (fun _ ho => up_f ho x)
          rw [hup] at hU
          clear hrest h6 hm hnd hput hat hj h5'
          go_wp2_with fail
          refine hU.mono ?_
          rintro e w5 ⟨rfl, rfl⟩
          clear hU
          go_wp2_with fail
          go_roundw
          case rel => exact ⟨_, _, r, s2, rfl, rfl, hJ.1, hJ.2.1, hJ.2.2.1, hJ.2.2.2.1, hJ.2.2.2.2, h7⟩
          case measure => exact hms
end
end Go.Proofs.Ytmoolbmbdnkooaa

namespace Go.Proofs.Ytmoolbmbdnkooaa

/-- All that is told of a nest's heaps: K what hangs where, R h each heap's row of roots. -/
structure BinAll (W : WS) (n : Nat) (K : Int → List Int) (R : Nat → List Int) : Prop where
  inv : CInv n K
  home : BHome W n K R
  ord : BOrd W K
  rows : ∀ g, RowK n K (R g)
section
variable {W : WS} {n : Nat} {K K' : Int → List Int} {R : Nat → List Int} {h k : Nat} {x : Int} {A0 l L r r' : List Int}
theorem binAll_new (n : Nat) : BinAll (newW n) n (fun _ => []) (fun _ => []) :=
  ⟨⟨fun _ _ h => (by cases h), fun _ _ _ h => (by cases h), fun _ => List.nodup_nil, fun _ i k h => (by simp at h)⟩, bhome_new n, fun _ _ h => (by cases h), fun _ => ⟨fun _ h => (by cases h), fun _ h => (by cases h), List.Pairwise.nil⟩⟩
theorem BinAll.congr {W' : WS} (A : BinAll W n K R) (h : W'.cells = W.cells) : BinAll W' n K R :=
  ⟨A.inv, A.home.congr h, fun p x hx => by rw [dahead_same (dcells_eq h _) (dcells_eq h _)]; exact A.ord p x hx, A.rows⟩
/-- One root more, that is never linked. -/
theorem links_cons {ahead : Int → Int → Prop} (h : Links n ahead K L k K' r) (x : Int) : ∃ m, Links n ahead K (x :: L) k K' m ∧ m.Perm (x :: r) := by
  induction h with
  | start p => exact ⟨_, Links.start (p.cons x), List.Perm.refl _⟩
  | @link k K' m a b r h p hd ha ih =>
    obtain ⟨m', h1, h2⟩ := ih
    have h3 : m'.Perm (a :: b :: (x :: r)) := (h2.trans (p.cons x)).trans ((List.Perm.swap a x (b :: r)).trans ((List.Perm.swap b x r).cons a))
    exact ⟨_, Links.link h1 h3 hd ha, List.Perm.swap x a r⟩
/-- x is at the top: what comes off it, and what else is in its heap's row. -/
theorem LiftJ.top (J : LiftJ W n R h x A0 K l []) (hin : inW W x = true) (hx : (cellW W x).home = h) :
    x ∈ l ∧ rootB n K x = true ∧ RowK n (splitK K x) (l.erase x) ∧ RowK n (splitK K x) (K x) ∧ (¬ ∃ y ∈ l.erase x, y ∈ K x) ∧ (∀ y ∈ l.erase x ++ K x, inW W y = true) := by
  have ht : topK K x := J.anc
  have hxl : x ∈ l := by
    have := J.home.isRoot J.inv hin ht
    rwa [hx, updI_at] at this
  have hxR : x ∈ updI R h l h := by rw [updI_at]; exact hxl
  obtain ⟨_, _, _, _, _, h6, h7, h8⟩ := bin_split J.inv J.home hxR
  rw [updI_at] at h6 h8
  have hr := J.rows h
  rw [updI_at] at hr
  refine ⟨hxl, rootB_iff.2 ⟨J.home.inn hin, ht⟩, h6 hr, h7, fun ⟨y, h1, h2⟩ => h8 y h1 h2, fun y hy => ?_⟩
  rcases List.mem_append.1 hy with hy | hy
  · have := J.home.rootIn J.inv (h := h) (x := y) (by rw [updI_at]; exact List.mem_of_mem_erase hy)
    exact this.2.2.1
  · exact (J.home.hung hy).2
/-- .. linked again: x is out. -/
theorem LiftJ.out (J : LiftJ W n R h x A0 K l []) (hin : inW W x = true) (hx : (cellW W x).home = h) (hl : Links n (fun x y => aheadW W x y = true) (splitK K x) (l.erase x ++ K x) k K' r') (hp : r'.Perm r) (hr : RowK n K' r) :
    BinAll (dropW W x) n K' (updI R h r) ∧ (l.erase x ++ K x).length = r.length + k := by
  obtain ⟨hxl, _, _, _, _, _⟩ := J.top hin hx
  have ht : topK K x := J.anc
  have hxR : x ∈ updI R h l h := by rw [updI_at]; exact hxl
  obtain ⟨I2, B2, _, h4, h5, _, _, _⟩ := bin_split J.inv J.home hxR
  have O2 : BOrd W (splitK K x) := hole_split J.hole ht
  have e1 : updI (updI R h l) h (x :: ((updI R h l h).erase x ++ K x)) = updI R h (x :: (l.erase x ++ K x)) := by
    rw [updI_at]
    funext g; unfold updI; split <;> rfl
  rw [e1] at B2
  obtain ⟨m, hm1, hm2⟩ := links_cons hl x
  have hL : (x :: (l.erase x ++ K x)).Perm (updI R h (x :: (l.erase x ++ K x)) h) := by rw [updI_at]
  obtain ⟨I3, B3, O3, hlen, hrow⟩ := bin_links I2 B2 O2 hL hm1 (hm2.trans (hp.cons x))
  have e2 : updI (updI R h (x :: (l.erase x ++ K x))) h (x :: r) = updI R h (x :: r) := by
    funext g; unfold updI; split <;> rfl
  rw [e2] at B3
  have hnl : x ∉ l.erase x ++ K x := by
    have hnd := (J.rows h).roots.nodup
    rw [updI_at] at hnd
    intro hm
    rcases List.mem_append.1 hm with hm | hm
    · exact ((List.Nodup.mem_erase_iff hnd).1 hm).1 rfl
    · exact ht x hm
  have hrts : Roots n (splitK K x) (l.erase x ++ K x) := by
    have := B2.roots h
    rw [updI_at] at this
    exact ⟨fun y hy => this.inn y (List.mem_cons_of_mem _ hy), fun y hy => this.top y (List.mem_cons_of_mem _ hy), (List.nodup_cons.1 this.nodup).2⟩
  obtain ⟨_, _, _, _, _, _, hoff, _⟩ := Links.all I2 hrts hl
  have hKx : K' x = [] := by rw [hoff x hnl, h4]
  have hxr : x ∈ updI R h (x :: r) h := by rw [updI_at]; simp
  obtain ⟨B4, O4, _⟩ := bin_drop I3 B3 O3 hxr hKx
  have e3 : updI (updI R h (x :: r)) h ((updI R h (x :: r) h).erase x) = updI R h r := by
    rw [updI_at, List.erase_cons_head]
    funext g; unfold updI; split <;> rfl
  rw [e3] at B4
  refine ⟨⟨I3, B4, O4, fun g => ?_⟩, by simp only [List.length_cons] at hlen; omega⟩
  by_cases e : g = h
  · rw [e, updI_at]; exact hr
  · rw [updI_ne _ _ e]
    have h7 := h5 g e (by rw [updI_ne _ _ e]; have := J.rows g; rwa [updI_ne _ _ e] at this)
    have h8 := hrow g e (by rw [updI_ne _ _ e]; rwa [updI_ne _ _ e] at h7)
    rwa [updI_ne _ _ e] at h8
/-- A slot was lowered, and is as far up as it should be. -/
theorem LiftJ.done {A : List Int} (J : LiftJ W n R h x A0 K l A) (low : ∀ y ∈ K x, aheadW W y x = false) (hu : ∀ p s, A = p :: s → aheadW W x p = false) : BinAll W n K (updI R h l) :=
  ⟨J.inv, J.home, hole_end J.hole low fun p hp => by
    have ha := J.anc
    cases A with
    | nil => exact absurd hp (ha p)
    | cons q s => rw [J.inv.one p q x hp ha.1]; exact hu q s rfl, J.rows⟩
/-- A slot comes in. -/
theorem BinAll.put {W1 : WS} {s q : Int} (A : BinAll W n K R) (hp : putB W h x = true) (h1 : 1 ≤ h) (hW : putW W h x s q = W1) :
    RowK n K [x] ∧ (¬ ∃ y ∈ R h, y ∈ [x]) ∧ (∀ y ∈ R h ++ [x], inW W1 y = true) ∧ ∀ {k K' r' r}, Links n (fun x y => aheadW W1 x y = true) K (R h ++ [x]) k K' r' → r'.Perm r → RowK n K' r → BinAll W1 n K' (updI R h r) ∧ (R h).length + 1 = r.length + k := by
  obtain ⟨_, _, _, hnr, hrow, hin1, hoth, B1, O1⟩ := bin_put (k := s) (s := q) A.inv A.home A.ord hp h1
  rw [hW] at hin1 hoth B1 O1
  refine ⟨hrow, fun ⟨y, h2, h3⟩ => hnr h (by rw [← List.mem_singleton.1 h3]; exact h2), fun y hy => ?_, fun {k K' r' r} hl hpm hr => ?_⟩
  · rcases List.mem_append.1 hy with hy | hy
    · have h2 := (A.home.rootIn A.inv hy).2.2.1
      have h3 : y ≠ x := fun e => hnr h (e ▸ hy)
      unfold inW at h2 ⊢
      rw [hoth y h3]; exact h2
    · rw [List.mem_singleton.1 hy]; exact hin1
  · have hL : (R h ++ [x]).Perm (updI R h (x :: R h) h) := by rw [updI_at]; exact List.perm_append_comm
    obtain ⟨I3, B3, O3, hlen, hrw⟩ := bin_links A.inv B1 O1 hL hl hpm
    have e2 : updI (updI R h (x :: R h)) h r = updI R h r := by
      funext g; unfold updI; split <;> rfl
    rw [e2] at B3
    refine ⟨⟨I3, B3, O3, fun g => ?_⟩, by simpa using hlen⟩
    by_cases e : g = h
    · rw [e, updI_at]; exact hr
    · have h8 := hrw g e (by rw [updI_ne _ _ e]; exact A.rows g)
      rw [updI_ne _ _ e] at h8 ⊢
      exact h8
/-- Two heaps become one. -/
theorem BinAll.meld {W1 : WS} {a b : Nat} (A : BinAll W n K R) (hb : joinBW W a b = true) (ha1 : 1 ≤ a) (hb1 : 1 ≤ b) (hW : joinW W a b = W1) :
    a ≠ b ∧ (¬ ∃ y ∈ R a, y ∈ R b) ∧ (∀ y ∈ R a ++ R b, inW W1 y = true) ∧ ∀ {k K' r' r}, Links n (fun x y => aheadW W1 x y = true) K (R a ++ R b) k K' r' → r'.Perm r → RowK n K' r → BinAll W1 n K' (updI (updI R a r) b []) ∧ (R a).length + (R b).length = r.length + k := by
  obtain ⟨hne, hap, _, hin, B1, O1⟩ := bin_join A.inv A.home A.ord hb ha1 hb1
  rw [hW] at hin B1 O1
  refine ⟨hne, fun ⟨y, h2, h3⟩ => hap y h2 h3, fun y hy => ?_, fun {k K' r' r} hl hpm hr => ?_⟩
  · rw [hin]
    rcases List.mem_append.1 hy with hy | hy
    · exact (A.home.rootIn A.inv hy).2.2.1
    · exact (A.home.rootIn A.inv hy).2.2.1
  · have hL : (R a ++ R b).Perm (updI (updI R b []) a (R a ++ R b) a) := by rw [updI_at]
    obtain ⟨I3, B3, O3, hlen, hrw⟩ := bin_links A.inv B1 O1 hL hl hpm
    have e2 : updI (updI (updI R b []) a (R a ++ R b)) a r = updI (updI R a r) b [] := by
      funext g; unfold updI
      by_cases e1 : g = a
      · rw [if_pos e1, if_neg (fun e => hne (e1.symm.trans e)), if_pos e1]
      · rw [if_neg e1, if_neg e1]
        by_cases e2 : g = b
        · rw [if_pos e2, if_pos e2]
        · rw [if_neg e2, if_neg e2, if_neg e1]
    rw [e2] at B3
    refine ⟨⟨I3, B3, O3, fun g => ?_⟩, by simpa using hlen⟩
    by_cases e : g = b
    · rw [e, updI_at]; exact ⟨fun _ h => (by cases h), fun _ h => (by cases h), List.Pairwise.nil⟩
    · rw [updI_ne _ _ e]
      by_cases e1 : g = a
      · rw [e1, updI_at]; exact hr
      · rw [updI_ne _ _ e1]
        have h8 := hrw g e1 (by rw [updI_ne _ _ e1, updI_ne _ _ e]; exact A.rows g)
        rw [updI_ne _ _ e1, updI_ne _ _ e] at h8
        exact h8
/-- A slot's entry becomes another one: its way up may begin. -/
theorem BinAll.lower {W1 : WS} {s q : Int} (A : BinAll W n K R) (hb : lowerB W x s q = true) (hW : lowerW W x s q = W1) (hx : (cellW W x).home = h) (ha : Anc K x A0) :
    inW W1 x = true ∧ (cellW W1 x).home = h ∧ 1 ≤ h ∧ LiftJ W1 n R h x A0 K (R h) A0 ∧ (∀ y ∈ K x, aheadW W1 y x = false) ∧ R h ≠ [] := by
  obtain ⟨h1, h2, h3, B1, H1, low⟩ := bin_lower A.inv A.home A.ord hb
  rw [hW] at h2 h3 B1 H1 low
  refine ⟨by rw [h2]; exact h1, by rw [h3]; exact hx, by rw [← hx]; exact (A.home.up h1).1, LiftJ.start A.inv B1 H1 A.rows ha, low, fun e => ?_⟩
  obtain ⟨_, c, hc, _⟩ := A.home.up h1
  rw [hx, e] at hc; cases hc
/-- A slot is to come out: its way up may begin. -/
theorem BinAll.delete (A : BinAll W n K R) (hin : inW W x = true) (hx : (cellW W x).home = h) (ha : Anc K x A0) : 1 ≤ h ∧ LiftJ W n R h x A0 K (R h) A0 ∧ R h ≠ [] := by
  refine ⟨by rw [← hx]; exact (A.home.up hin).1, LiftJ.start A.inv A.home (hole_of A.home A.ord) A.rows ha, fun e => ?_⟩
  obtain ⟨_, c, hc, _⟩ := A.home.up hin
  rw [hx, e] at hc; cases hc
end
end Go.Proofs.Ytmoolbmbdnkooaa
