/- Merged of Cells5, LeftistObj, LeftistSettle. -/
import Derived.Test.YthjelmbicnbhiaaCells4
import Derived.Test.YthjelmbicnbhiaaSpineLists
import Derived.Test.YthjelmbicnbhiaaZMap
import Derived.Deep.QuietTactic
import Derived.BigQuiet
import Derived.Deep.RegionHeld3
import Derived.Deep.CutBlock
import Derived.Deep.DeepCutAuto
namespace Go.Proofs.Ythjelmbicnbhiaa
open Go.RowKit Go.Sort

theorem aheadC_same {c d : CellD} (h1 : c.key = d.key) (h2 : c.seq = d.seq) (a b : Int) : aheadC c d a b = decide (a < b) := by simp [aheadC, h1, h2, lessB_self]
theorem aheadC_other {c d : CellD} (h : ¬ (c.key = d.key ∧ c.seq = d.seq)) (a b : Int) : aheadC c d a b = lessB c.key c.seq d.key d.seq := by
  have : (c.key == d.key && c.seq == d.seq) = false := by
    rw [Bool.and_eq_false_iff]
    by_cases e : c.key = d.key
    · exact Or.inr (by simpa using fun e2 => h ⟨e, e2⟩)
    · exact Or.inl (by simpa using e)
  simp [aheadC, this]
/-- How many steps were counted, behind it. -/
def aheadS (W : WS) (s : Int) (a b : Int) : Int := if inW W a && inW W b then addI s 1 else s

section
variable {w : World} {p : Nat} {W : WS} {s : Int} {F : Nat → Prop}
theorem ahead_cl (a b : Int) (h : (Ob.cells p W s).holds w F) : Calls Try.prog 78 #[.pointer (some ⟨p, 0, none⟩), .int .i64 a, .int .i64 b] w fun e w' => e = .returned (.bool (aheadW W a b)) ∧ ∃ F', (Ob.cells p W (aheadS W s a b)).holds w' F' ∧ Moved F F' w w' := by
  have hF := (Ob.cells p W s).lt h
  have h' := h
  obtain ⟨N, raw, pn, v, bm, hR, rfl, hr, hg⟩ := h'
  have hs := Ob.group.open hg
  have hA := at_st hs hR.cap a
  have hB := fun w' (hb : Below w.heap.size w w') => at_st (hs.later hb) hR.cap b
  have ia := abs_in hR a
  have ib := abs_in hR b
  have hD := fun w => held_any (rawAt raw a) w
  have hE := fun w => held_any (rawAt raw b) w
  rw [← ia] at hD
  rw [← ib] at hE
  have hce : aheadC (cellW (absW N raw) a) (cellW (absW N raw) b) a b = aheadC (rawAt raw a) (rawAt raw b) a b := by rw [abs_cell hR, abs_cell hR]; rfl
  have hL := fun w => less_any (rawAt raw a).key (rawAt raw a).seq (rawAt raw b).key (rawAt raw b).seq w
  simp only [cellV] at hA hB hD hE
  clear ia ib
  generalize rawAt raw a = c at *
  generalize rawAt raw b = d at *
  cases ca : inW (absW N raw) a
  · have e1 : aheadW (absW N raw) a b = false := by simp [aheadW, ca]
    have e2 : aheadS (absW N raw) s a b = s := by simp [aheadS, ca]
    rw [ca] at hD
    rw [e1, e2]
    clear hce hL hE e1 e2
    go_enter Try.func78, Try.ntmps78
    go_wp2_with fail
    refine hA.mono ?_
    rintro e w1 ⟨rfl, hb1⟩
    go_wp2_with fail
    refine (hB _ hb1).mono ?_
    rintro e w2 ⟨rfl, hb2⟩
    have hb3 := below_chain hb1 hb2
    replace hs := hs.later hb3
    clear hA hB
    obtain ⟨V, hV, hb4, hs4⟩ : ∃ V, (w2.alloc (.cells #[.int .i64 c.home, .int .i64 c.key, .int .u64 c.seq] 122)).alloc (.cells #[.int .i64 d.home, .int .i64 d.key, .int .u64 d.seq] 122) = V ∧ Below w.heap.size w V ∧ Stage F w ((_ ++ [_]) ++ [_]) V :=
      ⟨_, rfl, (hb3.alloc hb3.size _).alloc (by rw [size_alloc]; have := hb3.size; omega) _, (hs.alloc #[.int .i64 c.home, .int .i64 c.key, .int .u64 c.seq] 122).alloc' #[.int .i64 d.home, .int .i64 d.key, .int .u64 d.seq] 122 (b := w2.heap.size + 1) (size_alloc _ _)⟩
    have j0 := hs4.cell 4 rfl (o := 0) rfl
    have j1 := hs4.cell 4 rfl (o := 1) rfl
    have j2 := hs4.cell 4 rfl (o := 2) rfl
    have k0 := hs4.cell 5 rfl (o := 0) rfl
    have k1 := hs4.cell 5 rfl (o := 1) rfl
    have k2 := hs4.cell 5 rfl (o := 2) rfl
    go_wp2_with fail
    clear hV j0 j1 j2 k0 k1 k2
    refine (hD _).mono ?_
    rintro e w3 ⟨rfl, rfl⟩
    replace hb4 := hb4.alloc hb4.size (.cells #[.int .i64 c.home, .int .i64 c.key, .int .u64 c.seq] 122)
    replace hs4 := hs4.later ((Below.refl _ V).alloc (Nat.le_refl _) (.cells #[.int .i64 c.home, .int .i64 c.key, .int .u64 c.seq] 122))
    generalize World.alloc _ _ = V2 at *
    have j0 := hs4.cell 4 rfl (o := 0) rfl
    have j1 := hs4.cell 4 rfl (o := 1) rfl
    have j2 := hs4.cell 4 rfl (o := 2) rfl
    have k0 := hs4.cell 5 rfl (o := 0) rfl
    have k1 := hs4.cell 5 rfl (o := 1) rfl
    have k2 := hs4.cell 5 rfl (o := 2) rfl
    go_wp2_with fail
    go_ret
    exact ⟨rfl, cells_below h hb4⟩
  · rw [ca] at hD
    cases cb : inW (absW N raw) b
    · have e1 : aheadW (absW N raw) a b = false := by simp [aheadW, cb]
      have e2 : aheadS (absW N raw) s a b = s := by simp [aheadS, cb]
      rw [cb] at hE
      rw [e1, e2]
      clear hce hL e1 e2
      go_enter Try.func78, Try.ntmps78
      go_wp2_with fail
      refine hA.mono ?_
      rintro e w1 ⟨rfl, hb1⟩
      go_wp2_with fail
      refine (hB _ hb1).mono ?_
      rintro e w2 ⟨rfl, hb2⟩
      have hb3 := below_chain hb1 hb2
      replace hs := hs.later hb3
      clear hA hB
      obtain ⟨V, hV, hb4, hs4⟩ : ∃ V, (w2.alloc (.cells #[.int .i64 c.home, .int .i64 c.key, .int .u64 c.seq] 122)).alloc (.cells #[.int .i64 d.home, .int .i64 d.key, .int .u64 d.seq] 122) = V ∧ Below w.heap.size w V ∧ Stage F w ((_ ++ [_]) ++ [_]) V :=
        ⟨_, rfl, (hb3.alloc hb3.size _).alloc (by rw [size_alloc]; have := hb3.size; omega) _, (hs.alloc #[.int .i64 c.home, .int .i64 c.key, .int .u64 c.seq] 122).alloc' #[.int .i64 d.home, .int .i64 d.key, .int .u64 d.seq] 122 (b := w2.heap.size + 1) (size_alloc _ _)⟩
      have j0 := hs4.cell 4 rfl (o := 0) rfl
      have j1 := hs4.cell 4 rfl (o := 1) rfl
      have j2 := hs4.cell 4 rfl (o := 2) rfl
      have k0 := hs4.cell 5 rfl (o := 0) rfl
      have k1 := hs4.cell 5 rfl (o := 1) rfl
      have k2 := hs4.cell 5 rfl (o := 2) rfl
      go_wp2_with fail
      clear hV j0 j1 j2 k0 k1 k2
      refine (hD _).mono ?_
      rintro e w3 ⟨rfl, rfl⟩
      replace hb4 := hb4.alloc hb4.size (.cells #[.int .i64 c.home, .int .i64 c.key, .int .u64 c.seq] 122)
      replace hs4 := hs4.later ((Below.refl _ V).alloc (Nat.le_refl _) (.cells #[.int .i64 c.home, .int .i64 c.key, .int .u64 c.seq] 122))
      generalize World.alloc _ _ = V2 at *
      have j0 := hs4.cell 4 rfl (o := 0) rfl
      have j1 := hs4.cell 4 rfl (o := 1) rfl
      have j2 := hs4.cell 4 rfl (o := 2) rfl
      have k0 := hs4.cell 5 rfl (o := 0) rfl
      have k1 := hs4.cell 5 rfl (o := 1) rfl
      have k2 := hs4.cell 5 rfl (o := 2) rfl
      go_wp2_with fail
      refine (hE _).mono ?_
      rintro e w3 ⟨rfl, rfl⟩
      go_wp2_with fail
      go_ret
      exact ⟨rfl, cells_below h (hb4.alloc hb4.size _)⟩
    · have e1 : aheadW (absW N raw) a b = aheadC c d a b := by simp [aheadW, ca, cb, hce]
      have e2 : aheadS (absW N raw) s a b = addI s 1 := by simp [aheadS, ca, cb]
      rw [cb] at hE
      obtain ⟨ans, hans⟩ : ∃ ans, ans = aheadC c d a b := ⟨_, rfl⟩
      rw [e1, e2, ← hans]
      replace hans := Lib.hid hans
      clear hce e1 e2 ca cb
      go_enter Try.func78, Try.ntmps78
      go_wp2_with fail
      refine hA.mono ?_
      rintro e w1 ⟨rfl, hb1⟩
      go_wp2_with fail
      refine (hB _ hb1).mono ?_
      rintro e w2 ⟨rfl, hb2⟩
      have hb3 := below_chain hb1 hb2
      replace hs := hs.later hb3
      clear hA hB
      obtain ⟨V, hV, hb4, hs4⟩ : ∃ V, (w2.alloc (.cells #[.int .i64 c.home, .int .i64 c.key, .int .u64 c.seq] 122)).alloc (.cells #[.int .i64 d.home, .int .i64 d.key, .int .u64 d.seq] 122) = V ∧ Below w.heap.size w V ∧ Stage F w ((_ ++ [_]) ++ [_]) V :=
        ⟨_, rfl, (hb3.alloc hb3.size _).alloc (by rw [size_alloc]; have := hb3.size; omega) _, (hs.alloc #[.int .i64 c.home, .int .i64 c.key, .int .u64 c.seq] 122).alloc' #[.int .i64 d.home, .int .i64 d.key, .int .u64 d.seq] 122 (b := w2.heap.size + 1) (size_alloc _ _)⟩
      have j0 := hs4.cell 4 rfl (o := 0) rfl
      have j1 := hs4.cell 4 rfl (o := 1) rfl
      have j2 := hs4.cell 4 rfl (o := 2) rfl
      have k0 := hs4.cell 5 rfl (o := 0) rfl
      have k1 := hs4.cell 5 rfl (o := 1) rfl
      have k2 := hs4.cell 5 rfl (o := 2) rfl
      go_wp2_with fail
      clear hV j0 j1 j2 k0 k1 k2
      refine (hD _).mono ?_
      rintro e w3 ⟨rfl, rfl⟩
      replace hb4 := hb4.alloc hb4.size (.cells #[.int .i64 c.home, .int .i64 c.key, .int .u64 c.seq] 122)
      replace hs4 := hs4.later ((Below.refl _ V).alloc (Nat.le_refl _) (.cells #[.int .i64 c.home, .int .i64 c.key, .int .u64 c.seq] 122))
      generalize World.alloc _ _ = V2 at *
      have j0 := hs4.cell 4 rfl (o := 0) rfl
      have j1 := hs4.cell 4 rfl (o := 1) rfl
      have j2 := hs4.cell 4 rfl (o := 2) rfl
      have k0 := hs4.cell 5 rfl (o := 0) rfl
      have k1 := hs4.cell 5 rfl (o := 1) rfl
      have k2 := hs4.cell 5 rfl (o := 2) rfl
      go_wp2_with fail
      refine (hE _).mono ?_
      rintro e w3 ⟨rfl, rfl⟩
      replace hs4 := hs4.later ((Below.refl _ V2).alloc (Nat.le_refl _) (.cells #[.int .i64 d.home, .int .i64 d.key, .int .u64 d.seq] 122))
      clear j0 j1 j2 k0 k1 k2 hb4
      generalize World.alloc _ _ = V3 at *
      have hC := meter_count p 0 s 1 hr V3 (hs4.cell 0 rfl rfl) (hs4.free 0 rfl 0)
      clear hD hE
      go_wp2_with fail
      refine hC.mono ?_
      rintro e w4 ⟨rfl, hw⟩
      replace hs4 := hs4.wrote 0 rfl hw
      have hp : Stage F w (cellParts p N raw (addI s 1) pn v bm fun y => lenW (absW N raw) y) w4 := hs4.take 4
      have j0 := hs4.cell 4 rfl (o := 0) rfl
      have j1 := hs4.cell 4 rfl (o := 1) rfl
      have j2 := hs4.cell 4 rfl (o := 2) rfl
      have k0 := hs4.cell 5 rfl (o := 0) rfl
      have k1 := hs4.cell 5 rfl (o := 1) rfl
      have k2 := hs4.cell 5 rfl (o := 2) rfl
      clear hC hw hs4 h hg hs hb1 hb2 hb3
      have hr2 := add_range hr 1
      generalize w2.heap.size = b5 at *
      by_cases heq : c.key = d.key ∧ c.seq = d.seq
      · obtain ⟨q1, q2⟩ := heq
        replace hans := hans.out
        rw [aheadC_same q1 q2] at hans
        rw [q1] at j1
        rw [q2] at j2
        subst hans
        clear q1 q2 hL
        go_wp2_with fail
        go_ret
        exact ⟨rfl, cells_close hp hF hR rfl (fun _ => rfl) hr2⟩
      · replace hans := hans.out
        rw [aheadC_other heq] at hans
        replace hans := Lib.hid hans
        by_cases q1 : c.key = d.key
        · have q2 : (c.seq == d.seq) = false := by simpa using fun e => heq ⟨q1, e⟩
          have q1' : (c.key == d.key) = true := by simpa using q1
          replace q1 := Lib.hid q1
          clear heq
          go_wp2_with fail
          refine (hL _).mono ?_
          rintro e w5 ⟨rfl, hb5⟩
          go_wp2_with fail
          go_ret
          exact ⟨ret_bool hans.out.symm, cells_close (hp.later hb5) hF hR rfl (fun _ => rfl) hr2⟩
        · have q1' : (c.key == d.key) = false := by simpa using q1
          clear heq q1
          go_wp2_with fail
          refine (hL _).mono ?_
          rintro e w5 ⟨rfl, hb5⟩
          go_wp2_with fail
          go_ret
          exact ⟨ret_bool hans.out.symm, cells_close (hp.later hb5) hF hR rfl (fun _ => rfl) hr2⟩
end
end Go.Proofs.Ythjelmbicnbhiaa

namespace Go.Proofs.Ythjelmbicnbhiaa
open Go.RowKit Go.Sort

/-- A row of ranks. -/
abbrev Ob.rks (v : Value) (n : Nat) (R : List Int) : Ob := Ob.row 0 3 1 v n (cellsBy intC R)
def forestParts (f c t : Nat) (v : Value) (n : Nat) (W : WS) (s : Int) (L : List Hg) (R : List Int) : List Ob :=
  [Ob.box f #[ptrV c, ptrV t, v] 98, Ob.cells c W s, Ob.spine t n L, Ob.rks v n R]
section
variable {F0 : Nat → Prop} {W0 w : World} {f c t n : Nat} {v : Value} {W : WS} {s : Int} {L : List Hg} {R : List Int} {q : List Ob}
theorem fo_c0 (h : Stage F0 W0 (forestParts f c t v n W s L R ++ q) w) : w.cell? ⟨f, 0, none⟩ = some (ptrV c) := h.cell 0 rfl rfl
theorem fo_c1 (h : Stage F0 W0 (forestParts f c t v n W s L R ++ q) w) : w.cell? ⟨f, 1, none⟩ = some (ptrV t) := h.cell 0 rfl rfl
theorem fo_c2 (h : Stage F0 W0 (forestParts f c t v n W s L R ++ q) w) : w.cell? ⟨f, 2, none⟩ = some v := h.cell 0 rfl rfl
theorem fo_inv (h : Stage F0 W0 (forestParts f c t v n W s L R ++ q) w) : GInv n L ∧ n ≤ 65536 := by
  obtain ⟨G, _, I, hn, _⟩ := h.get (i := 2) rfl
  exact ⟨I, hn⟩
theorem fo_fit (h : Stage F0 W0 (forestParts f c t v n W s L R ++ q) w) : W.Fit ∧ 0 ≤ s ∧ s ≤ 4611686018427387904 := by
  obtain ⟨G, ho⟩ := h.get (i := 1) rfl
  exact ⟨Ob.cells.fit ho, Ob.cells.steps ho⟩
theorem fo_row (h : Stage F0 W0 (forestParts f c t v n W s L R ++ q) w) (hR : R.length = n) (hn : 0 < n) : ∃ g cp, v = .slice (some ⟨g, 0, none⟩) n cp ∧ n ≤ cp ∧ cp ≤ 9223372036854775807 ∧ g ≠ f ∧ g < w.heap.size ∧
    (∀ i, i < n → w.cell? ⟨g, i, none⟩ = some (.int .i64 (rkL R i))) ∧ ∀ o, w.frozen? ⟨g, o, none⟩ = false := by
  obtain ⟨g, cp, hv, h1, h2, _, h4, hc, hf⟩ := owns_at intC_len 0 (h.owns 3 rfl) hR hn
  have hne := h.rowNe 3 0 rfl rfl (by decide)
  subst hv
  refine ⟨g, cp, rfl, h1, by unfold maxLen at h2; omega, fun e => hne (by rw [← e]; rfl), h4, fun i hi => ?_, hf⟩
  have := hc i 0 _ hi (by omega) rfl
  rw [Nat.mul_one, Nat.add_zero] at this
  rw [this]
  unfold rkL
  rw [if_pos (by omega), Int.toNat_natCast]
/-- A slot's rank is another one. -/
theorem fo_set {g cp : Nat} (h : Stage F0 W0 (forestParts f c t (.slice (some ⟨g, 0, none⟩) n cp) n W s L R ++ q) w) (i : Nat) (x : Int) :
    Stage F0 W0 (forestParts f c t (.slice (some ⟨g, 0, none⟩) n cp) n W s L (R.set i x) ++ q) (w.setCell ⟨g, i, none⟩ (.int .i64 x)) :=
  h.storeRow 3 rfl i (.int .i64 x) (intC_set R i x)
theorem rank_st (h : Stage F0 W0 (forestParts f c t v n W s L R ++ q) w) (hR : R.length = n) (x : Int) (ok : Bool) (hx : ok = true → inN n x) : Calls Try.prog 46 #[.pointer (some ⟨f, 0, none⟩), .int .i64 x, .bool ok] w fun e w' => e = .returned (.int .i64 (if ok then rkL R x else 0)) ∧ w = w' := by
  cases ok
  · clear h
    go_enter Try.func46, Try.ntmps46
    go_wp2
    go_ret
    exact ⟨rfl, rfl⟩
  · obtain ⟨i, rfl⟩ : ∃ i : Nat, x = i := ⟨x.toNat, by have := (hx rfl).1; omega⟩
    have hi : i < n := by have := (hx rfl).2; omega
    obtain ⟨g, cp, rfl, h1, h2, _, _, hc, _⟩ := fo_row h hR (by omega)
    have c2 := fo_c2 h
    have u0 := hc i hi
    have hi2 : (i : Int) < n := by omega
    clear h hc hx
    go_enter Try.func46, Try.ntmps46
    go_wp2
    go_ret
    exact ⟨rfl, rfl⟩
theorem plant_st (h : Stage F0 W0 (forestParts f c t v n W s L R ++ q) w) (hR : R.length = n) (x : Nat) (hx : x < n) : Calls Try.prog 50 #[.pointer (some ⟨f, 0, none⟩), .int .i64 x] w fun e w' => e = .returned (.tuple #[]) ∧ Stage F0 W0 (forestParts f c t v n W s L (R.set x 1) ++ q) w' := by
  obtain ⟨g, cp, rfl, h1, h2, _, h4, hc, hf⟩ := fo_row h hR (by omega)
  have c2 := fo_c2 h
  have u0 := hc x hx
  have hi2 : (x : Int) < n := by omega
  have hf0 := hf x
  have hs := fo_set h x 1
  clear h hc
  go_enter Try.func50, Try.ntmps50
  go_wp2
  go_end0
  exact ⟨rfl, hs⟩
end
end Go.Proofs.Ythjelmbicnbhiaa

namespace Go.Proofs.Ythjelmbicnbhiaa
open Go.RowKit Go.Sort

section
variable {F0 : Nat → Prop} {W0 w : World} {f c t n : Nat} {v : Value} {W : WS} {s : Int} {L : List Hg} {R : List Int} {q : List Ob}
theorem fo_left (h : Stage F0 W0 (forestParts f c t v n W s L R ++ q) w) (x : Int) : Calls Try.prog 89 #[.pointer (some ⟨t, 0, none⟩), .int .i64 x] w fun e w' => e = .returned (.tuple #[.int .i64 ((kidL L x false).getD 0), .bool (kidL L x false).isSome]) ∧ w = w' :=
  h.ask 2 rfl fun _ ⟨_, I, hn, ho⟩ => sp_left (q := []) (Ob.group.open ho) I hn x
theorem fo_right (h : Stage F0 W0 (forestParts f c t v n W s L R ++ q) w) (x : Int) : Calls Try.prog 63 #[.pointer (some ⟨t, 0, none⟩), .int .i64 x] w fun e w' => e = .returned (.tuple #[.int .i64 ((kidL L x true).getD 0), .bool (kidL L x true).isSome]) ∧ w = w' :=
  h.ask 2 rfl fun _ ⟨_, I, hn, ho⟩ => sp_right (q := []) (Ob.group.open ho) I hn x
theorem fo_up (h : Stage F0 W0 (forestParts f c t v n W s L R ++ q) w) (x : Int) : Calls Try.prog 88 #[.pointer (some ⟨t, 0, none⟩), .int .i64 x] w fun e w' => e = .returned (.tuple #[.int .i64 ((upL L x).getD 0), .bool (upL L x).isSome]) ∧ w = w' :=
  h.ask 2 rfl fun _ ⟨_, I, hn, ho⟩ => sp_up (q := []) (Ob.group.open ho) I hn x
theorem fo_turn (h : Stage F0 W0 (forestParts f c t v n W s L R ++ q) w) (x : Int) : Calls Try.prog 90 #[.pointer (some ⟨t, 0, none⟩), .int .i64 x] w fun e w' => e = .returned (.bool (hasN n x)) ∧ Stage F0 W0 (forestParts f c t v n W s (turnL L x) R ++ q) w' :=
  h.call 2 rfl fun _ ho => turn_sp x ho
theorem fo_cut (h : Stage F0 W0 (forestParts f c t v n W s L R ++ q) w) (x : Int) : Calls Try.prog 79 #[.pointer (some ⟨t, 0, none⟩), .int .i64 x] w fun e w' => e = .returned (.tuple #[.int .i64 ((upL L x).getD 0), .bool (upL L x).isSome]) ∧ Stage F0 W0 (forestParts f c t v n W s (cutL L x) R ++ q) w' :=
  h.call 2 rfl fun _ ho => cut_sp x ho
theorem fo_hang (h : Stage F0 W0 (forestParts f c t v n W s L R ++ q) w) (a x : Int) (r : Bool) (ha : ¬ aboveL L x a ∨ x = a) : Calls Try.prog 80 #[.pointer (some ⟨t, 0, none⟩), .int .i64 a, .int .i64 x, .bool r] w fun e w' => e = .returned (.bool (hangB n L a x r)) ∧ Stage F0 W0 (forestParts f c t v n W s (hangL n L a x r) R ++ q) w' :=
  h.call 2 rfl fun _ ho => hang_sp a x r ha ho
theorem fo_ahead (h : Stage F0 W0 (forestParts f c t v n W s L R ++ q) w) (a b : Int) : Calls Try.prog 78 #[.pointer (some ⟨c, 0, none⟩), .int .i64 a, .int .i64 b] w fun e w' => e = .returned (.bool (aheadW W a b)) ∧ Stage F0 W0 (forestParts f c t v n W (aheadS W s a b) L R ++ q) w' :=
  h.call 1 rfl fun _ ho => ahead_cl a b ho
set_option maxHeartbeats 1000000 in
theorem settle_st (h : Stage F0 W0 (forestParts f c t v n W s L R ++ q) w) (hR : R.length = n) (x : Nat) (hx : x < n) (hb : ∀ sd, -65536 ≤ oR R (kidL L x sd) ∧ oR R (kidL L x sd) ≤ 65536) :
    Calls Try.prog 81 #[.pointer (some ⟨f, 0, none⟩), .int .i64 x] w fun e w' => e = .returned (.bool (setR L R x != rkL R x)) ∧ Stage F0 W0 (forestParts f c t v n W s (setL L R x) (R.set x (setR L R x)) ++ q) w' := by
  obtain ⟨I, hn⟩ := fo_inv h
  obtain ⟨g, cp, rfl, h1, h2, hgf, h4, hc, hf⟩ := fo_row h hR (by omega)
  have c1 := fo_c1 h
  have c2 := fo_c2 h
  have hx2 : (x : Int) < n := by omega
  have hin : ∀ sd, ∀ (ok : Bool), (kidL L x sd).isSome = ok → ok = true → inN n ((kidL L x sd).getD 0) := fun sd ok e e2 => by
    subst e2
    obtain ⟨y, hy⟩ := Option.isSome_iff_exists.1 e
    rw [hy]
    exact (kid_in I hy).1
  have cL : ∀ m, Calls Try.prog 89 #[.pointer (some ⟨t, 0, none⟩), .int .i64 x] (w.drewN m) fun e w'' => e = .returned (.tuple #[.int .i64 ((kidL L x false).getD 0), .bool (kidL L x false).isSome]) ∧ ∃ k, w'' = w.drewN k := fun m => Calls.quiet_of_same ((fo_left (h.drewN m) x).mono fun _ _ ⟨a, b⟩ => ⟨a, b.symm⟩)
  have cR : ∀ m, Calls Try.prog 63 #[.pointer (some ⟨t, 0, none⟩), .int .i64 x] (w.drewN m) fun e w'' => e = .returned (.tuple #[.int .i64 ((kidL L x true).getD 0), .bool (kidL L x true).isSome]) ∧ ∃ k, w'' = w.drewN k := fun m => Calls.quiet_of_same ((fo_right (h.drewN m) x).mono fun _ _ ⟨a, b⟩ => ⟨a, b.symm⟩)
  have cA : ∀ m, Calls Try.prog 46 #[.pointer (some ⟨f, 0, none⟩), .int .i64 ((kidL L x false).getD 0), .bool (kidL L x false).isSome] (w.drewN m) fun e w'' => e = .returned (.int .i64 (oR R (kidL L x false))) ∧ ∃ k, w'' = w.drewN k := fun m => Calls.quiet_of_same ((rank_st (h.drewN m) hR _ _ (hin false _ rfl)).mono fun _ _ ⟨a, b⟩ => ⟨a, b.symm⟩)
  have cB : ∀ m, Calls Try.prog 46 #[.pointer (some ⟨f, 0, none⟩), .int .i64 ((kidL L x true).getD 0), .bool (kidL L x true).isSome] (w.drewN m) fun e w'' => e = .returned (.int .i64 (oR R (kidL L x true))) ∧ ∃ k, w'' = w.drewN k := fun m => Calls.quiet_of_same ((rank_st (h.drewN m) hR _ _ (hin true _ rfl)).mono fun _ _ ⟨a, b⟩ => ⟨a, b.symm⟩)
  have hTurn : ∀ m, oR R (kidL L x false) < oR R (kidL L x true) → Calls Try.prog 90 #[.pointer (some ⟨t, 0, none⟩), .int .i64 x] (w.drewN m) fun e w' => e = .returned (.bool (hasN n x)) ∧ Stage F0 W0 (forestParts f c t (.slice (some ⟨g, 0, none⟩) n cp) n W s (setL L R x) R ++ q) w' := fun m hlt => by
    have := fo_turn (h.drewN m) x
    unfold setL
    rw [if_pos hlt]
    exact this
  have hStay : ∀ m, oR R (kidL L x true) ≤ oR R (kidL L x false) → Stage F0 W0 (forestParts f c t (.slice (some ⟨g, 0, none⟩) n cp) n W s (setL L R x) R ++ q) (w.drewN m) := fun m hlt => by
    unfold setL
    rw [if_neg (by omega)]
    exact h.drewN m
  have hb0 := hb false
  have hb1 := hb true
  have hrow : ∀ w', Stage F0 W0 (forestParts f c t (.slice (some ⟨g, 0, none⟩) n cp) n W s (setL L R x) R ++ q) w' → w'.cell? ⟨f, 2, none⟩ = some (.slice (some ⟨g, 0, none⟩) n cp) ∧ w'.cell? ⟨g, x, none⟩ = some (.int .i64 (rkL R x)) ∧ w'.frozen? ⟨g, x, none⟩ = false ∧ g < w'.heap.size := fun w' h' => by
    obtain ⟨g', cp', e, _, _, _, h4, hc, hf⟩ := fo_row h' hR (by omega)
    injection e with e1 _ e3
    injection e1 with e1
    injection e1 with e1
    subst e1
    exact ⟨fo_c2 h', hc x hx, hf x, h4⟩
  have hset : ∀ w', Stage F0 W0 (forestParts f c t (.slice (some ⟨g, 0, none⟩) n cp) n W s (setL L R x) R ++ q) w' → Stage F0 W0 (forestParts f c t (.slice (some ⟨g, 0, none⟩) n cp) n W s (setL L R x) (R.set x (setR L R x)) ++ q) (w'.setCell ⟨g, x, none⟩ (.int .i64 (setR L R x))) := fun w' h' => fo_set h' x _
  obtain ⟨z, hz⟩ : ∃ z, setR L R x = z := ⟨_, rfl⟩
  have hz2 : z = 1 + min (oR R (kidL L x false)) (oR R (kidL L x true)) := by rw [← hz]; rfl
  rw [hz] at hset ⊢
  clear h hc hf hb hin hz
  generalize setL L R x = L1 at *
  generalize R.set x z = R1 at *
  generalize oR R (kidL L x false) = a at *
  generalize oR R (kidL L x true) = b at *
  generalize (kidL L x false).getD 0 = k0 at *
  generalize (kidL L x true).getD 0 = k1 at *
  generalize (kidL L x false).isSome = o0 at *
  generalize (kidL L x true).isSome = o1 at *
  generalize rkL R x = old at *
  go_enter Try.func81, Try.ntmps81
  go_wp2_with fail
  go_quiet (first | with_reducible exact cL _ | with_reducible exact cR _ | with_reducible exact cA _ | with_reducible exact cB _)
  clear cL cR cA cB
  have HA := Lib.hid hz2
  clear hz2
  by_cases hlt : a < b
  · go_wp2_with fail
    refine (hTurn nq hlt).mono ?_
    rintro e w1 ⟨rfl, hs1⟩
    obtain ⟨k2, u0, f0, hg1⟩ := hrow w1 hs1
    have hs2 := hset w1 hs1
    clear hTurn hStay hrow hset hs1
    go_wp2_with fail
    all_goals
      go_ret
      first
        | (obtain rfl : z = 1 + a := by have := HA.out; omega
           exact ⟨rfl, hs2⟩)
        | (obtain rfl : z = 1 + b := by have := HA.out; omega
           exact ⟨rfl, hs2⟩)
  · have hs1 := hStay nq (by omega)
    obtain ⟨k2, u0, f0, hg1⟩ := hrow _ hs1
    have hs2 := hset _ hs1
    clear hTurn hStay hrow hset hs1
    go_wp2_with fail
    all_goals
      go_ret
      first
        | (obtain rfl : z = 1 + a := by have := HA.out; omega
           exact ⟨rfl, hs2⟩)
        | (obtain rfl : z = 1 + b := by have := HA.out; omega
           exact ⟨rfl, hs2⟩)
end
end Go.Proofs.Ythjelmbicnbhiaa
