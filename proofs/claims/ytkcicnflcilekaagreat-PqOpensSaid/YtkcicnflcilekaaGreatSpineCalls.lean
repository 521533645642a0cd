/- Merged of SpineObj, SpineCalls. -/
import Derived.Test.YtkcicnflcilekaaGreatSpineRowMath
import Derived.Test.YtkcicnflcilekaaGreatStageAppend
import Derived.Test.YtkcicnflcilekaaGreatNames
import Derived.BigRegion
import Derived.StillTailTactics
namespace Go.Proofs.YtkcicnflcilekaaGreat
open Go.RowKit Go.Sort

def spineParts (p : Nat) (v : Value) (n : Nat) (L : List Hg) : List Ob :=
  [Ob.box p #[v] 272, Ob.row 0 275 3 v n (cellsBy thC (rawOf n L))]
/-- At p lie n things, of which hang where L says. -/
def Ob.spine (p n : Nat) (L : List Hg) : Ob where
  holds w F := ∃ v, GInv n L ∧ n ≤ 65536 ∧ (Ob.group (spineParts p v n L)).holds w F
  keeps := fun ⟨v, h1, h2, h⟩ k hn => ⟨v, h1, h2, (Ob.group _).keeps h k hn⟩
  lt := fun ⟨_, _, _, h⟩ => (Ob.group _).lt h
theorem spine_close {F : Nat → Prop} {w w' : World} {p n : Nat} {v : Value} {L : List Hg} (hs : Stage F w (spineParts p v n L) w') (hF : ∀ b, F b → b < w.heap.size) (I : GInv n L) (hn : n ≤ 65536) : ∃ F', (Ob.spine p n L).holds w' F' ∧ Moved F F' w w' := by
  obtain ⟨F', h1, m⟩ := hs.close hF
  exact ⟨F', ⟨v, I, hn, h1⟩, m⟩
section
variable {F0 : Nat → Prop} {W0 w : World} {p n : Nat} {v : Value} {L : List Hg} {q : List Ob}
theorem sp_c0 (h : Stage F0 W0 (spineParts p v n L ++ q) w) : w.cell? ⟨p, 0, none⟩ = some v := h.cell 0 rfl rfl
theorem sp_form (h : Stage F0 W0 (spineParts p v n L ++ q) w) : ∃ a c, v = .slice a n c ∧ n ≤ c ∧ c ≤ 9223372036854775807 := by
  obtain ⟨a, c, h1, h2, h3⟩ := owns_form (h.owns 1 rfl)
  exact ⟨a, c, h1, h2, by unfold maxLen at h3; omega⟩
theorem sp_row (h : Stage F0 W0 (spineParts p v n L ++ q) w) (hn : 0 < n) : ∃ g c, v = .slice (some ⟨g, 0, none⟩) n c ∧ n ≤ c ∧ c ≤ 9223372036854775807 ∧ g ≠ p ∧ g < w.heap.size ∧
    (∀ i, i < n → w.cell? ⟨g, i * 3, none⟩ = some (.int .i64 (oI (upL L i))) ∧ (∀ s : Bool, w.cell? ⟨g, i * 3 + 1 + s.toNat, none⟩ = some (.int .i64 (oI (kidL L i s))))) ∧ ∀ o, w.frozen? ⟨g, o, none⟩ = false := by
  obtain ⟨g, c, hv, h1, h2, _, h4, hc, hf⟩ := owns_at thC_len .no (h.owns 1 rfl) (raw_len n L) hn
  have hne := h.rowNe 1 0 rfl rfl (by decide)
  subst hv
  refine ⟨g, c, rfl, h1, by unfold maxLen at h2; omega, fun e => hne (by rw [← e]; rfl), h4, fun i hi => ?_, hf⟩
  have e := raw_at L hi .no
  refine ⟨hc i 0 _ hi (by omega) (by rw [e]; rfl), fun s => ?_⟩
  cases s
  · exact hc i 1 _ hi (by omega) (by rw [e]; rfl)
  · exact hc i 2 _ hi (by omega) (by rw [e]; rfl)
def hasN (n : Nat) (x : Int) : Bool := decide (0 ≤ x ∧ x < n)
theorem has_in {n : Nat} {x : Int} : hasN n x = true ↔ inN n x := by simp [hasN, inN]
theorem sp_has (h : Stage F0 W0 (spineParts p v n L ++ q) w) (x : Int) : Calls Tryz.prog 270 #[.pointer (some ⟨p, 0, none⟩), .int .i64 x] w fun e w' => e = .returned (.bool (hasN n x)) ∧ w = w' := by
  obtain ⟨a, c, rfl, hc1, hc2⟩ := sp_form h
  have c0 := sp_c0 h
  unfold hasN
  by_cases hx : 0 ≤ x
  · have hd := Lib.hid (show decide (0 ≤ x ∧ x < (n : Int)) = decide (x < (n : Int)) by congr 1; apply propext; omega)
    rw [hd.out]
    clear h hd
    go_enter Tryz.func270, Tryz.ntmps270
    go_wp2
    go_ret
    exact ⟨rfl, rfl⟩
  · rw [decide_eq_false (fun e => hx e.1)]
    clear h
    go_enter Tryz.func270, Tryz.ntmps270
    go_wp2
    go_ret
    exact ⟨rfl, rfl⟩
theorem sp_found (o : Option Int) (ho : ∀ y, o = some y → 0 ≤ y) (w : World) : Calls Tryz.prog 271 #[.int .i64 (oI o)] w fun e w' => e = .returned (.tuple #[.int .i64 (o.getD 0), .bool o.isSome]) ∧ w = w' := by
  cases o with
  | none =>
    show Calls _ _ #[.int .i64 (-1)] _ _
    go_enter Tryz.func271, Tryz.ntmps271
    go_wp2
    go_ret2
    exact ⟨rfl, rfl⟩
  | some y =>
    have h0 := ho y rfl
    have h1 : (y == -1) = false := by simp; omega
    show Calls _ _ #[.int .i64 y] _ _
    go_enter Tryz.func271, Tryz.ntmps271
    go_wp2
    go_ret2
    exact ⟨rfl, rfl⟩
theorem sp_child (h : Stage F0 W0 (spineParts p v n L ++ q) w) (I : GInv n L) (hn : n ≤ 65536) (x : Int) (s : Bool) : Calls Tryz.prog 277 #[.pointer (some ⟨p, 0, none⟩), .int .i64 x, .int .i64 s.toNat] w fun e w' => e = .returned (.tuple #[.int .i64 ((kidL L x s).getD 0), .bool (kidL L x s).isSome]) ∧ w = w' := by
  have c0 := sp_c0 h
  have hH := sp_has h x
  by_cases hx : inN n x
  · rw [has_in.2 hx] at hH
    obtain ⟨i, rfl⟩ : ∃ i : Nat, x = i := ⟨x.toNat, by have := hx.1; omega⟩
    have hi : i < n := by have := hx.2; omega
    obtain ⟨g, c, rfl, hc1, hc2, hgp, hg, hc, hf⟩ := sp_row h (by omega)
    have u0 := (hc i hi).2 s
    have hF := sp_found (kidL L i s) (fun y e => (kid_in I e).1.1) w
    clear h hc I hf
    generalize kidL L i s = o at *
    generalize oI o = z at *
    cases s
    all_goals
      simp only [Bool.toNat_false, Bool.toNat_true, Nat.add_zero] at u0
      go_enter Tryz.func277, Tryz.ntmps277
      go_wp2_with fail
      refine hH.mono ?_
      rintro e w1 ⟨rfl, rfl⟩
      go_wp2_with fail
      refine hF.mono ?_
      rintro e w1 ⟨rfl, rfl⟩
      go_wp2_with fail
      go_ret2
      exact ⟨rfl, rfl⟩
  · rw [kid_out I s hx]
    rw [show hasN n x = false from Bool.eq_false_iff.2 (fun e => hx (has_in.1 e))] at hH
    clear h
    go_enter Tryz.func277, Tryz.ntmps277
    go_wp2_with fail
    refine hH.mono ?_
    rintro e w1 ⟨rfl, rfl⟩
    go_wp2_with fail
    go_ret2
    exact ⟨rfl, rfl⟩
theorem sp_left (h : Stage F0 W0 (spineParts p v n L ++ q) w) (I : GInv n L) (hn : n ≤ 65536) (x : Int) : Calls Tryz.prog 274 #[.pointer (some ⟨p, 0, none⟩), .int .i64 x] w fun e w' => e = .returned (.tuple #[.int .i64 ((kidL L x false).getD 0), .bool (kidL L x false).isSome]) ∧ w = w' := by
  have hC := sp_child h I hn x false
  generalize kidL L x false = o at *
  clear h I
  go_enter Tryz.func274, Tryz.ntmps274
  go_wp2_with fail
  refine hC.mono ?_
  rintro e w1 ⟨rfl, rfl⟩
  go_wp2_with fail
  go_ret2
  exact ⟨rfl, rfl⟩
theorem sp_right (h : Stage F0 W0 (spineParts p v n L ++ q) w) (I : GInv n L) (hn : n ≤ 65536) (x : Int) : Calls Tryz.prog 273 #[.pointer (some ⟨p, 0, none⟩), .int .i64 x] w fun e w' => e = .returned (.tuple #[.int .i64 ((kidL L x true).getD 0), .bool (kidL L x true).isSome]) ∧ w = w' := by
  have hC := sp_child h I hn x true
  generalize kidL L x true = o at *
  clear h I
  go_enter Tryz.func273, Tryz.ntmps273
  go_wp2_with fail
  refine hC.mono ?_
  rintro e w1 ⟨rfl, rfl⟩
  go_wp2_with fail
  go_ret2
  exact ⟨rfl, rfl⟩
theorem sp_up (h : Stage F0 W0 (spineParts p v n L ++ q) w) (I : GInv n L) (hn : n ≤ 65536) (x : Int) : Calls Tryz.prog 264 #[.pointer (some ⟨p, 0, none⟩), .int .i64 x] w fun e w' => e = .returned (.tuple #[.int .i64 ((upL L x).getD 0), .bool (upL L x).isSome]) ∧ w = w' := by
  have c0 := sp_c0 h
  have hH := sp_has h x
  by_cases hx : inN n x
  · rw [has_in.2 hx] at hH
    obtain ⟨i, rfl⟩ : ∃ i : Nat, x = i := ⟨x.toNat, by have := hx.1; omega⟩
    have hi : i < n := by have := hx.2; omega
    obtain ⟨g, c, rfl, hc1, hc2, hgp, hg, hc, hf⟩ := sp_row h (by omega)
    have u0 := (hc i hi).1
    have hF := sp_found (upL L i) (fun y e => (up_in I e).2.1) w
    clear h hc I hf
    generalize upL L i = o at *
    generalize oI o = z at *
    go_enter Tryz.func264, Tryz.ntmps264
    go_wp2_with fail
    refine hH.mono ?_
    rintro e w1 ⟨rfl, rfl⟩
    go_wp2_with fail
    refine hF.mono ?_
    rintro e w1 ⟨rfl, rfl⟩
    go_wp2_with fail
    go_ret2
    exact ⟨rfl, rfl⟩
  · rw [up_out I hx]
    rw [show hasN n x = false from Bool.eq_false_iff.2 (fun e => hx (has_in.1 e))] at hH
    clear h
    go_enter Tryz.func264, Tryz.ntmps264
    go_wp2_with fail
    refine hH.mono ?_
    rintro e w1 ⟨rfl, rfl⟩
    go_wp2_with fail
    go_ret2
    exact ⟨rfl, rfl⟩
end
end Go.Proofs.YtkcicnflcilekaaGreat

namespace Go.Proofs.YtkcicnflcilekaaGreat
open Go.RowKit Go.Sort

theorem info_thing : (Tryz.prog.info? 275).map (fun i => (i.zero, i.size, i.bytes)) = some (some (.agg #[.int .i64 0, .int .i64 0, .int .i64 0]), 3, 24) := by kernel_rfl
/-- All three cells of one thing are written. -/
theorem thC_put (l : List Th) (i : Nat) (hi : i < l.length) (t : Th) : (((cellsBy thC l).set (i * 3) (.int .i64 t.up)).set (i * 3 + 1) (.int .i64 t.l)).set (i * 3 + 2) (.int .i64 t.r) = cellsBy thC (l.set i t) := by
  obtain ⟨u, a, b⟩ := t
  rw [th_set_up l i hi]
  have s1 := th_set_kid (l.set i ⟨u, (l.getD i .no).l, (l.getD i .no).r⟩) i (by simpa using hi) false a
  have s2 := th_set_kid (l.set i ⟨u, a, (l.getD i .no).r⟩) i (by simpa using hi) true b
  rw [getD_set' _ _ _ _ _ hi, if_pos rfl, List.set_set] at s1 s2
  exact (congrArg (fun m : List Value => m.set (i * 3 + 2) (.int .i64 b)) s1).trans s2
/-- So far made. -/
def madeTo (n j : Nat) : List Th := List.replicate j .no ++ List.replicate (n - j) ⟨0, 0, 0⟩
theorem madeTo_set {n j : Nat} (h : j < n) : (madeTo n j).set j .no = madeTo n (j + 1) := by
  unfold madeTo
  obtain ⟨k, rfl⟩ : ∃ k, n = j + (k + 1) := ⟨n - j - 1, by omega⟩
  rw [show j + (k + 1) - j = k + 1 by omega, show j + (k + 1) - (j + 1) = k by omega, List.replicate_succ]
  rw [List.set_append_right _ _ (by simp), List.length_replicate, Nat.sub_self, List.set_cons_zero, List.replicate_succ', List.append_assoc]
  rfl
theorem madeTo_len (n j : Nat) (h : j ≤ n) : (madeTo n j).length = n := by simp [madeTo]; omega
theorem madeTo_all (n : Nat) : madeTo n n = rawOf n [] := by rw [raw_new]; simp [madeTo]
def NewPostS (w : World) (n : Nat) (e : Ending) (w' : World) : Prop :=
  ∃ p, e = .returned (.tuple #[.pointer (some ⟨p, 0, none⟩), .int .i64 0]) ∧ ∃ F', (Ob.spine p n []).holds w' F' ∧ (∀ k, F' k → w.heap.size ≤ k) ∧ Below w.heap.size w w'
set_option maxHeartbeats 1000000 in
theorem new_sp (n : Nat) (hn : n ≤ 65536) (w : World) : Calls Tryz.prog 111 #[.int .i64 n] w (NewPostS w n) := by
  have hmk := run_make_rows (P := Tryz.prog) 270 275 _ 3 24 Tryz.underlying270 info_thing n (by omega) (by omega)
  have hs0 := ((Stage.start w).newRow 275 3 n (madeCells #[.int .i64 0, .int .i64 0, .int .i64 0] (n * 3)) (size_madeCells _ _) (by unfold maxLen; omega)).alloc' #[.slice (some ⟨w.heap.size, 0, none⟩) n n] 272 (b := w.heap.size + 1) (size_alloc _ _)
  rw [made_rows thC_len (by decide) ⟨0, 0, 0⟩ #[.int .i64 0, .int .i64 0, .int .i64 0] rfl n] at hs0
  have hs : Stage (fun _ => False) w [Ob.box (w.heap.size + 1) #[.slice (some ⟨w.heap.size, 0, none⟩) n n] 272, Ob.row 0 275 3 (.slice (some ⟨w.heap.size, 0, none⟩) n n) n (cellsBy thC (madeTo n 0))] _ := hs0.select [1, 0] (by decide) rfl
  clear hs0
  generalize hg : w.heap.size = g at *
  have k0 := hs.cell 0 rfl (o := 0) rfl
  have hn1 : ¬ (65536 : Int) < n := by omega
  go_enter Tryz.func111, Tryz.ntmps111
  go_wp2_with fail
  go_loopw [21] (fun i wr => ∃ j : Nat, i = .int .i64 j ∧ j ≤ n ∧ Stage (fun _ => False) w [Ob.box (g + 1) #[.slice (some ⟨g, 0, none⟩) n n] 272, Ob.row 0 275 3 (.slice (some ⟨g, 0, none⟩) n n) n (cellsBy thC (madeTo n j))] wr) (fun i _ => n - (intOf i).toNat)
  case atStart => exact ⟨0, rfl, Nat.zero_le _, hs⟩
  case round =>
    clear hs k0
    obtain ⟨j, rfl, hj, hs⟩ := hrel
    have k0 := hs.cell 0 rfl (o := 0) rfl
    by_cases hjn : j < n
    · have hji : (j : Int) < n := by omega
      have hlen := madeTo_len n j hj
      obtain ⟨g', c', hv, _, _, _, hg', hc, hf⟩ := owns_at thC_len .no (hs.owns 1 rfl) hlen (by omega)
      cases hv
      have u0 := hc j 0 _ hjn (by omega) rfl
      have u1 := hc j 1 _ hjn (by omega) rfl
      have u2 := hc j 2 _ hjn (by omega) rfl
      rw [Nat.add_zero] at u0
      have f0 := hf (j * 3)
      have f1 := hf (j * 3 + 1)
      have f2 := hf (j * 3 + 2)
      have hp := thC_put (madeTo n j) j (by omega) .no
      rw [madeTo_set hjn] at hp
      have hs2 := ((hs.storeRow 1 rfl (j * 3) (.int .i64 (-1)) rfl).storeRow 1 rfl (j * 3 + 1) (.int .i64 (-1)) rfl).storeRow 1 rfl (j * 3 + 2) (.int .i64 (-1)) hp
      clear hs hc hf hp
      go_wp2_with fail
      go_roundw
      case rel => exact ⟨j + 1, by go_num, by omega, hs2⟩
      case measure => simp [intOf]; omega
    · have hji : ¬ (j : Int) < n := by omega
      obtain rfl : j = n := by omega
      go_wp2_with fail
      rw [madeTo_all] at hs
      obtain ⟨F', h1, h2, h3⟩ := hs.closeNew
      go_ret2
      exact ⟨_, rfl, F', ⟨_, inv_nil _, hn, h1⟩, h2, h3⟩
theorem Stage.newSpine {F0 : Nat → Prop} {W w : World} {l : List Ob} (h : Stage F0 W l w) (n : Nat) (hn : n ≤ 65536) : Calls Tryz.prog 111 #[.int .i64 n] w fun e w' => ∃ p, e = .returned (.tuple #[.pointer (some ⟨p, 0, none⟩), .int .i64 0]) ∧ Stage F0 W (l ++ [Ob.spine p n []]) w' :=
  (new_sp n hn w).mono fun _ _ ⟨p, he, _, h1, h2, h3⟩ => ⟨p, he, h.add h3 h1 h2⟩
/-- May x be hung there? -/
def hangB (n : Nat) (L : List Hg) (p x : Int) (r : Bool) : Bool := decide (p ≠ x) && hasN n p && hasN n x && (upL L x).isNone && (kidL L p r).isNone
def hangL (n : Nat) (L : List Hg) (p x : Int) (r : Bool) : List Hg := if hangB n L p x r then L ++ [⟨p, x, r⟩] else L
section
variable {w : World} {p n : Nat} {L : List Hg} {F : Nat → Prop}
theorem oI_bne {o : Option Int} (h : ∀ y, o = some y → inN n y) : (oI o != -1) = o.isSome := by
  cases o with
  | none => rfl
  | some y => have := h y rfl; unfold inN at this; simp [oI, bne_iff_ne]; omega
set_option maxHeartbeats 1000000 in
theorem hang_sp (a x : Int) (r : Bool) (ha : ¬ aboveL L x a ∨ x = a) (h : (Ob.spine p n L).holds w F) : Calls Tryz.prog 269 #[.pointer (some ⟨p, 0, none⟩), .int .i64 a, .int .i64 x, .bool r] w fun e w' => e = .returned (.bool (hangB n L a x r)) ∧ ∃ F', (Ob.spine p n (hangL n L a x r)).holds w' F' ∧ Moved F F' w w' := by
  have hF := (Ob.spine p n L).lt h
  have hno : hangB n L a x r = false → hangL n L a x r = L := fun e => by simp [hangL, e]
  have hstay : ∃ F', (Ob.spine p n L).holds w F' ∧ Moved F F' w w := ⟨F, h, Moved.refl _ _⟩
  obtain ⟨v, I, hn, hg⟩ := h
  have hs := Ob.group.open hg
  have c0 := sp_c0 (q := []) hs
  have hA := sp_has (q := []) hs a
  have hX := sp_has (q := []) hs x
  clear hg
  by_cases e0 : a = x
  · subst e0
    have e1 : hangB n L a a r = false := by simp [hangB]
    rw [e1, hno e1]
    clear hs ha c0 hA hX
    go_enter Tryz.func269, Tryz.ntmps269
    go_wp2_with fail
    go_ret
    exact ⟨rfl, hstay⟩
  have e0' : (a == x) = false := by simpa using e0
  cases h1 : hasN n a
  · have e1 : hangB n L a x r = false := by simp [hangB, h1]
    rw [e1, hno e1]
    rw [h1] at hA
    clear hs ha c0 hX
    go_enter Tryz.func269, Tryz.ntmps269
    go_wp2_with fail
    refine hA.mono ?_
    rintro e w1 ⟨rfl, rfl⟩
    go_wp2_with fail
    go_ret
    exact ⟨rfl, hstay⟩
  cases h2 : hasN n x
  · have e1 : hangB n L a x r = false := by simp [hangB, h2]
    rw [e1, hno e1]
    rw [h1] at hA
    rw [h2] at hX
    clear hs ha c0
    go_enter Tryz.func269, Tryz.ntmps269
    go_wp2_with fail
    refine hA.mono ?_
    rintro e w1 ⟨rfl, rfl⟩
    go_wp2_with fail
    refine hX.mono ?_
    rintro e w1 ⟨rfl, rfl⟩
    go_wp2_with fail
    go_ret
    exact ⟨rfl, hstay⟩
  rw [h1] at hA
  rw [h2] at hX
  obtain ⟨i, rfl⟩ : ∃ i : Nat, a = i := ⟨a.toNat, by have := (has_in.1 h1).1; omega⟩
  obtain ⟨j, rfl⟩ : ∃ j : Nat, x = j := ⟨x.toNat, by have := (has_in.1 h2).1; omega⟩
  have hi : i < n := by have := (has_in.1 h1).2; omega
  have hj : j < n := by have := (has_in.1 h2).2; omega
  have hij : i ≠ j := fun e => e0 (by rw [e])
  obtain ⟨g, c, rfl, hc1, hc2, hgp, hgl, hc, hf⟩ := sp_row (q := []) hs (by omega)
  have u0 := (hc j hj).1
  have u1 := (hc i hi).2 r
  have hb0 := oI_bne (o := upL L j) (fun y e => (up_in I e).2)
  have hb1 := oI_bne (o := kidL L i r) (fun y e => (kid_in I e).1)
  cases h3 : (upL L j).isSome
  rotate_left
  · have e1 : hangB n L i j r = false := by
      cases e : upL L j with
      | none => rw [e] at h3; cases h3
      | some y => simp [hangB, e]
    rw [e1, hno e1]
    rw [h3] at hb0
    clear hs ha hc hf h1 h2 hno u1 hb1
    generalize oI (upL L j) = z at *
    go_enter Tryz.func269, Tryz.ntmps269
    go_wp2_with fail
    refine hA.mono ?_
    rintro e w1 ⟨rfl, rfl⟩
    go_wp2_with fail
    refine hX.mono ?_
    rintro e w1 ⟨rfl, rfl⟩
    go_wp2_with fail
    go_ret
    exact ⟨rfl, hstay⟩
  rw [h3] at hb0
  cases h4 : (kidL L i r).isSome
  rotate_left
  · have e1 : hangB n L i j r = false := by
      cases e : kidL L i r with
      | none => rw [e] at h4; cases h4
      | some y => simp [hangB, e]
    rw [e1, hno e1]
    rw [h4] at hb1
    clear hs ha hc hf h1 h2 hno
    generalize oI (upL L j) = z at *
    generalize oI (kidL L i r) = y at *
    cases r
    all_goals
      simp only [Bool.toNat_false, Bool.toNat_true, Nat.add_zero] at u1
      go_enter Tryz.func269, Tryz.ntmps269
      go_wp2_with fail
      refine hA.mono ?_
      rintro e w1 ⟨rfl, rfl⟩
      go_wp2_with fail
      refine hX.mono ?_
      rintro e w1 ⟨rfl, rfl⟩
      go_wp2_with fail
      go_ret
      exact ⟨rfl, hstay⟩
  rw [h4] at hb1
  have hu : upL L j = none := by cases e : upL L j with
    | none => rfl
    | some y => rw [e] at h3; cases h3
  have hk : kidL L i r = none := by cases e : kidL L i r with
    | none => rfl
    | some y => rw [e] at h4; cases h4
  have e1 : hangB n L i j r = true := by simp [hangB, h1, h2, hu, hk]; omega
  have e2 : hangL n L i j r = L ++ [⟨i, j, r⟩] := by simp [hangL, e1]
  have ha' : ¬ aboveL L (j : Int) i := ha.resolve_right (fun e => e0 e.symm)
  have I' := inv_hang I (has_in.1 h1) (has_in.1 h2) hu hk ha'
  have hr1 := th_set_kid (rawOf n L) i (by rw [raw_len]; exact hi) r j
  rw [raw_at _ hi] at hr1
  have hr2 := th_set_up ((rawOf n L).set i ((thOf L i).kid r j)) j (by rw [List.length_set, raw_len]; exact hj) i
  rw [getD_set' _ _ _ _ _ (by rw [raw_len]; exact hi), if_neg hij, raw_at _ hj, raw_hang hi hj hij hu hk] at hr2
  have hs2 := (hs.storeRow 1 rfl (i * 3 + (1 + r.toNat)) (.int .i64 j) hr1).storeRow 1 rfl (j * 3) (.int .i64 i) hr2
  have hs3 : Stage F w (spineParts p (.slice (some ⟨g, 0, none⟩) n c) n (L ++ [⟨i, j, r⟩])) _ := hs2
  rw [e1, e2]
  have fi := hf (i * 3 + (1 + r.toNat))
  have fj := hf (j * 3)
  have hcl := fun w' (h : Stage F w (spineParts p (.slice (some ⟨g, 0, none⟩) n c) n (L ++ [⟨i, j, r⟩])) w') => spine_close h hF I' hn
  clear hs hs2 ha hc hf h1 h2 hno hr1 hr2 I I' ha' e1 e2 hu hk h3 h4 hstay
  generalize oI (upL L j) = z at *
  generalize oI (kidL L i r) = y at *
  generalize hT : L ++ [⟨i, j, r⟩] = L' at *
  clear hT
  cases r
  all_goals
    simp only [Bool.toNat_false, Bool.toNat_true, Nat.add_zero] at u1 fi hs3
    go_enter Tryz.func269, Tryz.ntmps269
    go_wp2_with fail
    refine hA.mono ?_
    rintro e w1 ⟨rfl, rfl⟩
    go_wp2_with fail
    refine hX.mono ?_
    rintro e w1 ⟨rfl, rfl⟩
    go_wp2_with fail
    go_ret
    exact ⟨rfl, hcl _ hs3⟩
end
end Go.Proofs.YtkcicnflcilekaaGreat
