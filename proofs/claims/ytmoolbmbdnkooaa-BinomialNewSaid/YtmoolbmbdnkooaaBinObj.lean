/- Merged of Cells5, BinObj. -/
import Derived.Test.YtmoolbmbdnkooaaCells4
import Derived.Test.YtmoolbmbdnkooaaBox
import Derived.Test.YtmoolbmbdnkooaaCarryWhole
import Derived.Test.YtmoolbmbdnkooaaCarryLiftCall
import Derived.Deep.RegionHeld3
namespace Go.Proofs.Ytmoolbmbdnkooaa
open Go.RowKit Go.Sort

theorem aheadC_same {c d : CellD} (h1 : c.key = d.key) (h2 : c.seq = d.seq) (a b : Int) : aheadC c d a b = decide (a < b) := by simp [aheadC, h1, h2, lessB_self]
theorem aheadC_other {c d : CellD} (h : ¬ (c.key = d.key ∧ c.seq = d.seq)) (a b : Int) : aheadC c d a b = lessB c.key c.seq d.key d.seq := by
  have : (c.key == d.key && c.seq == d.seq) = false := by
    rw [Bool.and_eq_false_iff]
    by_cases e : c.key = d.key
    · exact Or.inr (by simpa using fun e2 => h ⟨e, e2⟩)
    · exact Or.inl (by simpa using e)
  simp [aheadC, this]
/-- How many steps were counted, behind it. -/
def aheadS (W : WS) (s : Int) (a b : Int) : Int := if inW W a && inW W b then addI s 1 else s

section
variable {w : World} {p : Nat} {W : WS} {s : Int} {F : Nat → Prop}
theorem ahead_cl (a b : Int) (h : (Ob.cells p W s).holds w F) : Calls Try.prog 88 #[.pointer (some ⟨p, 0, none⟩), .int .i64 a, .int .i64 b] w fun e w' => e = .returned (.bool (aheadW W a b)) ∧ ∃ F', (Ob.cells p W (aheadS W s a b)).holds w' F' ∧ Moved F F' w w' := by
  have hF := (Ob.cells p W s).lt h
  have h' := h
  obtain ⟨N, raw, pn, v, bm, hR, rfl, hr, hg⟩ := h'
  have hs := Ob.group.open hg
  have hA := at_st hs hR.cap a
  have hB := fun w' (hb : Below w.heap.size w w') => at_st (hs.later hb) hR.cap b
  have ia := abs_in hR a
  have ib := abs_in hR b
  have hD := fun w => held_any (rawAt raw a) w
  have hE := fun w => held_any (rawAt raw b) w
  rw [← ia] at hD
  rw [← ib] at hE
  have hce : aheadC (cellW (absW N raw) a) (cellW (absW N raw) b) a b = aheadC (rawAt raw a) (rawAt raw b) a b := by rw [abs_cell hR, abs_cell hR]; rfl
  have hL := fun w => less_any (rawAt raw a).key (rawAt raw a).seq (rawAt raw b).key (rawAt raw b).seq w
  simp only [cellV] at hA hB hD hE
  clear ia ib
  generalize rawAt raw a = c at *
  generalize rawAt raw b = d at *
  cases ca : inW (absW N raw) a
  · have e1 : aheadW (absW N raw) a b = false := by simp [aheadW, ca]
    have e2 : aheadS (absW N raw) s a b = s := by simp [aheadS, ca]
    rw [ca] at hD
    rw [e1, e2]
    clear hce hL hE e1 e2
    go_enter Try.func88, Try.ntmps88
    go_wp2_with fail
    refine hA.mono ?_
    rintro e w1 ⟨rfl, hb1⟩
    go_wp2_with fail
    refine (hB _ hb1).mono ?_
    rintro e w2 ⟨rfl, hb2⟩
    have hb3 := below_chain hb1 hb2
    replace hs := hs.later hb3
    clear hA hB
    obtain ⟨V, hV, hb4, hs4⟩ : ∃ V, (w2.alloc (.cells #[.int .i64 c.home, .int .i64 c.key, .int .u64 c.seq] 113)).alloc (.cells #[.int .i64 d.home, .int .i64 d.key, .int .u64 d.seq] 113) = V ∧ Below w.heap.size w V ∧ Stage F w ((_ ++ [_]) ++ [_]) V :=
      ⟨_, rfl, (hb3.alloc hb3.size _).alloc (by rw [size_alloc]; have := hb3.size; omega) _, (hs.alloc #[.int .i64 c.home, .int .i64 c.key, .int .u64 c.seq] 113).alloc' #[.int .i64 d.home, .int .i64 d.key, .int .u64 d.seq] 113 (b := w2.heap.size + 1) (size_alloc _ _)⟩
    have j0 := hs4.cell 4 rfl (o := 0) rfl
    have j1 := hs4.cell 4 rfl (o := 1) rfl
    have j2 := hs4.cell 4 rfl (o := 2) rfl
    have k0 := hs4.cell 5 rfl (o := 0) rfl
    have k1 := hs4.cell 5 rfl (o := 1) rfl
    have k2 := hs4.cell 5 rfl (o := 2) rfl
    go_wp2_with fail
    clear hV j0 j1 j2 k0 k1 k2
    refine (hD _).mono ?_
    rintro e w3 ⟨rfl, rfl⟩
    replace hb4 := hb4.alloc hb4.size (.cells #[.int .i64 c.home, .int .i64 c.key, .int .u64 c.seq] 113)
    replace hs4 := hs4.later ((Below.refl _ V).alloc (Nat.le_refl _) (.cells #[.int .i64 c.home, .int .i64 c.key, .int .u64 c.seq] 113))
    generalize World.alloc _ _ = V2 at *
    have j0 := hs4.cell 4 rfl (o := 0) rfl
    have j1 := hs4.cell 4 rfl (o := 1) rfl
    have j2 := hs4.cell 4 rfl (o := 2) rfl
    have k0 := hs4.cell 5 rfl (o := 0) rfl
    have k1 := hs4.cell 5 rfl (o := 1) rfl
    have k2 := hs4.cell 5 rfl (o := 2) rfl
    go_wp2_with fail
    go_ret
    exact ⟨rfl, cells_below h hb4⟩
  · rw [ca] at hD
    cases cb : inW (absW N raw) b
    · have e1 : aheadW (absW N raw) a b = false := by simp [aheadW, cb]
      have e2 : aheadS (absW N raw) s a b = s := by simp [aheadS, cb]
      rw [cb] at hE
      rw [e1, e2]
      clear hce hL e1 e2
      go_enter Try.func88, Try.ntmps88
      go_wp2_with fail
      refine hA.mono ?_
      rintro e w1 ⟨rfl, hb1⟩
      go_wp2_with fail
      refine (hB _ hb1).mono ?_
      rintro e w2 ⟨rfl, hb2⟩
      have hb3 := below_chain hb1 hb2
      replace hs := hs.later hb3
      clear hA hB
      obtain ⟨V, hV, hb4, hs4⟩ : ∃ V, (w2.alloc (.cells #[.int .i64 c.home, .int .i64 c.key, .int .u64 c.seq] 113)).alloc (.cells #[.int .i64 d.home, .int .i64 d.key, .int .u64 d.seq] 113) = V ∧ Below w.heap.size w V ∧ Stage F w ((_ ++ [_]) ++ [_]) V :=
        ⟨_, rfl, (hb3.alloc hb3.size _).alloc (by rw [size_alloc]; have := hb3.size; omega) _, (hs.alloc #[.int .i64 c.home, .int .i64 c.key, .int .u64 c.seq] 113).alloc' #[.int .i64 d.home, .int .i64 d.key, .int .u64 d.seq] 113 (b := w2.heap.size + 1) (size_alloc _ _)⟩
      have j0 := hs4.cell 4 rfl (o := 0) rfl
      have j1 := hs4.cell 4 rfl (o := 1) rfl
      have j2 := hs4.cell 4 rfl (o := 2) rfl
      have k0 := hs4.cell 5 rfl (o := 0) rfl
      have k1 := hs4.cell 5 rfl (o := 1) rfl
      have k2 := hs4.cell 5 rfl (o := 2) rfl
      go_wp2_with fail
      clear hV j0 j1 j2 k0 k1 k2
      refine (hD _).mono ?_
      rintro e w3 ⟨rfl, rfl⟩
      replace hb4 := hb4.alloc hb4.size (.cells #[.int .i64 c.home, .int .i64 c.key, .int .u64 c.seq] 113)
      replace hs4 := hs4.later ((Below.refl _ V).alloc (Nat.le_refl _) (.cells #[.int .i64 c.home, .int .i64 c.key, .int .u64 c.seq] 113))
      generalize World.alloc _ _ = V2 at *
      have j0 := hs4.cell 4 rfl (o := 0) rfl
      have j1 := hs4.cell 4 rfl (o := 1) rfl
      have j2 := hs4.cell 4 rfl (o := 2) rfl
      have k0 := hs4.cell 5 rfl (o := 0) rfl
      have k1 := hs4.cell 5 rfl (o := 1) rfl
      have k2 := hs4.cell 5 rfl (o := 2) rfl
      go_wp2_with fail
      refine (hE _).mono ?_
      rintro e w3 ⟨rfl, rfl⟩
      go_wp2_with fail
      go_ret
      exact ⟨rfl, cells_below h (hb4.alloc hb4.size _)⟩
    · have e1 : aheadW (absW N raw) a b = aheadC c d a b := by simp [aheadW, ca, cb, hce]
      have e2 : aheadS (absW N raw) s a b = addI s 1 := by simp [aheadS, ca, cb]
      rw [cb] at hE
      obtain ⟨ans, hans⟩ : ∃ ans, ans = aheadC c d a b := ⟨_, rfl⟩
      rw [e1, e2, ← hans]
      replace hans := Lib.hid hans
      clear hce e1 e2 ca cb
      go_enter Try.func88, Try.ntmps88
      go_wp2_with fail
      refine hA.mono ?_
      rintro e w1 ⟨rfl, hb1⟩
      go_wp2_with fail
      refine (hB _ hb1).mono ?_
      rintro e w2 ⟨rfl, hb2⟩
      have hb3 := below_chain hb1 hb2
      replace hs := hs.later hb3
      clear hA hB
      obtain ⟨V, hV, hb4, hs4⟩ : ∃ V, (w2.alloc (.cells #[.int .i64 c.home, .int .i64 c.key, .int .u64 c.seq] 113)).alloc (.cells #[.int .i64 d.home, .int .i64 d.key, .int .u64 d.seq] 113) = V ∧ Below w.heap.size w V ∧ Stage F w ((_ ++ [_]) ++ [_]) V :=
        ⟨_, rfl, (hb3.alloc hb3.size _).alloc (by rw [size_alloc]; have := hb3.size; omega) _, (hs.alloc #[.int .i64 c.home, .int .i64 c.key, .int .u64 c.seq] 113).alloc' #[.int .i64 d.home, .int .i64 d.key, .int .u64 d.seq] 113 (b := w2.heap.size + 1) (size_alloc _ _)⟩
      have j0 := hs4.cell 4 rfl (o := 0) rfl
      have j1 := hs4.cell 4 rfl (o := 1) rfl
      have j2 := hs4.cell 4 rfl (o := 2) rfl
      have k0 := hs4.cell 5 rfl (o := 0) rfl
      have k1 := hs4.cell 5 rfl (o := 1) rfl
      have k2 := hs4.cell 5 rfl (o := 2) rfl
      go_wp2_with fail
      clear hV j0 j1 j2 k0 k1 k2
      refine (hD _).mono ?_
      rintro e w3 ⟨rfl, rfl⟩
      replace hb4 := hb4.alloc hb4.size (.cells #[.int .i64 c.home, .int .i64 c.key, .int .u64 c.seq] 113)
      replace hs4 := hs4.later ((Below.refl _ V).alloc (Nat.le_refl _) (.cells #[.int .i64 c.home, .int .i64 c.key, .int .u64 c.seq] 113))
      generalize World.alloc _ _ = V2 at *
      have j0 := hs4.cell 4 rfl (o := 0) rfl
      have j1 := hs4.cell 4 rfl (o := 1) rfl
      have j2 := hs4.cell 4 rfl (o := 2) rfl
      have k0 := hs4.cell 5 rfl (o := 0) rfl
      have k1 := hs4.cell 5 rfl (o := 1) rfl
      have k2 := hs4.cell 5 rfl (o := 2) rfl
      go_wp2_with fail
      refine (hE _).mono ?_
      rintro e w3 ⟨rfl, rfl⟩
      replace hs4 := hs4.later ((Below.refl _ V2).alloc (Nat.le_refl _) (.cells #[.int .i64 d.home, .int .i64 d.key, .int .u64 d.seq] 113))
      clear j0 j1 j2 k0 k1 k2 hb4
      generalize World.alloc _ _ = V3 at *
      have hC := meter_count p 0 s 1 hr V3 (hs4.cell 0 rfl rfl) (hs4.free 0 rfl 0)
      clear hD hE
      go_wp2_with fail
      refine hC.mono ?_
      rintro e w4 ⟨rfl, hw⟩
      replace hs4 := hs4.wrote 0 rfl hw
      have hp : Stage F w (cellParts p N raw (addI s 1) pn v bm fun y => lenW (absW N raw) y) w4 := hs4.take 4
      have j0 := hs4.cell 4 rfl (o := 0) rfl
      have j1 := hs4.cell 4 rfl (o := 1) rfl
      have j2 := hs4.cell 4 rfl (o := 2) rfl
      have k0 := hs4.cell 5 rfl (o := 0) rfl
      have k1 := hs4.cell 5 rfl (o := 1) rfl
      have k2 := hs4.cell 5 rfl (o := 2) rfl
      clear hC hw hs4 h hg hs hb1 hb2 hb3
      have hr2 := add_range hr 1
      generalize w2.heap.size = b5 at *
      by_cases heq : c.key = d.key ∧ c.seq = d.seq
      · obtain ⟨q1, q2⟩ := heq
        replace hans := hans.out
        rw [aheadC_same q1 q2] at hans
        rw [q1] at j1
        rw [q2] at j2
        subst hans
        clear q1 q2 hL
        go_wp2_with fail
        go_ret
        exact ⟨rfl, cells_close hp hF hR rfl (fun _ => rfl) hr2⟩
      · replace hans := hans.out
        rw [aheadC_other heq] at hans
        replace hans := Lib.hid hans
        by_cases q1 : c.key = d.key
        · have q2 : (c.seq == d.seq) = false := by simpa using fun e => heq ⟨q1, e⟩
          have q1' : (c.key == d.key) = true := by simpa using q1
          replace q1 := Lib.hid q1
          clear heq
          go_wp2_with fail
          refine (hL _).mono ?_
          rintro e w5 ⟨rfl, hb5⟩
          go_wp2_with fail
          go_ret
          exact ⟨ret_bool hans.out.symm, cells_close (hp.later hb5) hF hR rfl (fun _ => rfl) hr2⟩
        · have q1' : (c.key == d.key) = false := by simpa using q1
          clear heq q1
          go_wp2_with fail
          refine (hL _).mono ?_
          rintro e w5 ⟨rfl, hb5⟩
          go_wp2_with fail
          go_ret
          exact ⟨ret_bool hans.out.symm, cells_close (hp.later hb5) hF hR rfl (fun _ => rfl) hr2⟩
end
end Go.Proofs.Ytmoolbmbdnkooaa

namespace Go.Proofs.Ytmoolbmbdnkooaa
open Go.RowKit Go.Sort

/-- One question which of two slots is ahead. -/
def bR (s s' : Int) : Prop := s ≤ s' ∧ s' ≤ s + 1 ∧ 0 < s'
theorem turns_bR {n : Nat} {s s' : Int} (h : Turns bR n s s') : s ≤ s' ∧ s' ≤ s + n ∧ (0 < n → 0 < s') := by
  induction h with
  | none => exact ⟨Int.le_refl _, by omega, by omega⟩
  | more _ r ih => obtain ⟨r1, r2, r3⟩ := r; exact ⟨by omega, by omega, fun _ => r3⟩
/-- The cells, and two rows that are looked at. -/
def Ob.binAsk (c : Nat) (W : WS) (va vb : Value) (la lb : List Int) (s : Int) : Ob := Ob.group [Ob.cells c W s, Ob.ints va la, Ob.ints vb lb]
theorem bin_asks (c : Nat) (W : WS) (va vb : Value) (la lb : List Int) : Asks (Ob.binAsk c W va vb la lb) bR (fun x => inW W x = true) (aheadW W) (fun _ => True) 28 (ptrV c) ⟨88, ptrV c⟩ where
  there _ := trivial
  meth := ⟨fun w _ => by kernel_rfl, fun args w => by kernel_rfl⟩
  ask := by
    intro s w F a b ha hb h
    have hlt := (Ob.binAsk c W va vb la lb s).lt h
    have hs := Ob.group.open h
    have hr : 0 ≤ s ∧ s ≤ 4611686018427387904 := (hs.get (i := 0) rfl).elim fun _ ho => Ob.cells.steps ho
    refine (hs.call 0 rfl (fun _ ho => ahead_cl a b ho)).mono ?_
    rintro e w' ⟨rfl, h2⟩
    refine ⟨rfl, _, ?_, h2.close hlt⟩
    have e2 : aheadS W s a b = addI s 1 := by simp [aheadS, ha, hb]
    rw [e2]
    unfold bR addI
    repeat' split
    all_goals omega
/-- The forest of cubes, the cells, the block that names both. -/
def binF (f c t n : Nat) (W : WS) (s : Int) (K : Int → List Int) : List Ob := [Ob.forest t n K, Ob.cells c W s, Ob.box f #[ptrV c, ptrV t] 103]
section
variable {F0 F : Nat → Prop} {W0 w : World} {f c t n : Nat} {W : WS} {s : Int} {K : Int → List Int} {q : List Ob} {a b : Option Addr} {ca cb : Nat} {la lb : List Int} {R : Nat → List Int} {h : Nat}
/-- What merge makes. -/
def BinMerged (n : Nat) (W : WS) (K : Int → List Int) (L : List Int) (s : Int) (K' : Int → List Int) (r : List Int) (s' : Int) : Prop :=
  ∃ k, (∃ r', Links n (fun x y => aheadW W x y = true) K L k K' r' ∧ r'.Perm r) ∧ RowK n K' r ∧ s ≤ s' ∧ s' ≤ s + (k : Int) ∧ (0 < k → 0 < s')
set_option maxRecDepth 100000 in
set_option maxHeartbeats 1000000 in
theorem bmerge_one (hs : Stage F w (binF f c t n W s K ++ [Ob.ints (.slice a la.length ca) la, Ob.ints (.slice b lb.length cb) lb]) w) (hRA : RowK n K la) (hRB : RowK n K lb) (hd : ¬ ∃ x ∈ la, x ∈ lb) (hin : ∀ x ∈ la ++ lb, inW W x = true) :
    Calls Try.prog 42 #[.pointer (some ⟨f, 0, none⟩), .slice a la.length ca, .slice b lb.length cb] w fun e w' => ∃ z m cz K' s' r, e = .returned (.slice z m cz) ∧ BinMerged n W K (la ++ lb) s K' r s' ∧ Stage F w (binF f c t n W s' K' ++ [Ob.ints (.slice z m cz) r]) w' := by
  have f0 : w.cell? ⟨f, 0, none⟩ = some (.pointer (some ⟨c, 0, none⟩)) := hs.cell 2 rfl rfl
  have f1 : w.cell? ⟨f, 1, none⟩ = some (.pointer (some ⟨t, 0, none⟩)) := hs.cell 2 rfl rfl
  obtain ⟨_, _, ea, hca, hca2⟩ := hs.intsForm 3 rfl
  obtain ⟨_, _, eb, hcb, hcb2⟩ := hs.intsForm 4 rfl
  cases ea
  cases eb
  have hlt : ∀ x y, aheadW W x y = true → aheadW W y x = false := fun x y h => hm_asym h
  have h1 : Stage F w ([Ob.forest t n K, Ob.binAsk c W (.slice a la.length ca) (.slice b lb.length cb) la lb s] ++ [Ob.box f #[ptrV c, ptrV t] 103]) w.drew := by
    have h0 : Stage F w ([Ob.forest t n K, Ob.box f #[ptrV c, ptrV t] 103] ++ [Ob.cells c W s, Ob.ints (.slice a la.length ca) la, Ob.ints (.slice b lb.length cb) lb]) w.drew := hs.drew.select [0, 2, 1, 3, 4] (by decide) rfl
    exact h0.regroup.select [0, 2, 1] (by decide) rfl
  have hC := Stage.carryYes (q := [Ob.box f #[ptrV c, ptrV t] 103]) (bin_asks c W (.slice a la.length ca) (.slice b lb.length cb) la lb) hlt hin ⟨fun ho => ⟨(Ob.group.open ho).intsAtI 1 rfl, (Ob.group.open ho).intsAtI 2 rfl⟩, ⟨hca, hca2⟩, ⟨hcb, hcb2⟩⟩ h1 hRA hRB hd
  clear hs h1 hRA hRB hd hin hlt hca hca2 hcb hcb2
  unfold ptrV at hC
  obtain ⟨L, hL⟩ : ∃ L, L = la ++ lb := ⟨_, rfl⟩
  rw [← hL] at hC ⊢
  replace hL := Lib.hid hL
  generalize la.length = na at *
  generalize lb.length = nb at *
  go_enter Try.func42, Try.ntmps42
  go_wp2_with fail
  go_region_held3 (fun w' => w'.cell? ⟨f, 0, none⟩ = some (.pointer (some ⟨c, 0, none⟩)) ∧ w'.cell? ⟨f, 1, none⟩ = some (.pointer (some ⟨t, 0, none⟩))) (first | exact ⟨f0, f1⟩ | exact ⟨f0p, f1p⟩ | simp [*])
    (((with_reducible refine hC.mono ?_); rintro e w2 ⟨z, m, cz, K', s', k, r, rfl, h2, h3, h4, h5⟩; have f0p : w2.cell? ⟨f, 0, none⟩ = some (.pointer (some ⟨c, 0, none⟩)) := h5.cell 3 rfl rfl; have f1p : w2.cell? ⟨f, 1, none⟩ = some (.pointer (some ⟨t, 0, none⟩)) := h5.cell 3 rfl rfl))
  have h6 : Stage F w (binF f c t n W s' K' ++ [Ob.ints (.slice z m cz) r]) w2 := by
    have g1 : Stage F w ([Ob.forest t n K', Ob.ints (.slice z m cz) r, Ob.box f #[ptrV c, ptrV t] 103] ++ [Ob.binAsk c W (.slice a na ca) (.slice b nb cb) la lb s']) w2 := h5.select [0, 2, 3, 1] (by decide) rfl
    exact g1.ungroup.select [0, 3, 2, 1] (by decide) rfl
  have h7 := turns_bR h4
  clear hC h5
  go_wp2_with fail
  go_ret
  exact ⟨_, _, _, K', s', r, rfl, ⟨k, h2, h3, h7⟩, h6⟩
end
end Go.Proofs.Ytmoolbmbdnkooaa
