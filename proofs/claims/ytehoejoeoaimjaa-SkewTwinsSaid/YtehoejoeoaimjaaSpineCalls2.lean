/- Merged of SpineCalls, SpineCalls2. -/
import Derived.Test.YtehoejoeoaimjaaSpineObj
namespace Go.Proofs.Ytehoejoeoaimjaa
open Go.RowKit Go.Sort

theorem info_thing : (Try.prog.info? 122).map (fun i => (i.zero, i.size, i.bytes)) = some (some (.agg #[.int .i64 0, .int .i64 0, .int .i64 0]), 3, 24) := by kernel_rfl
/-- All three cells of one thing are written. -/
theorem thC_put (l : List Th) (i : Nat) (hi : i < l.length) (t : Th) : (((cellsBy thC l).set (i * 3) (.int .i64 t.up)).set (i * 3 + 1) (.int .i64 t.l)).set (i * 3 + 2) (.int .i64 t.r) = cellsBy thC (l.set i t) := by
  obtain ⟨u, a, b⟩ := t
  rw [th_set_up l i hi]
  have s1 := th_set_kid (l.set i ⟨u, (l.getD i .no).l, (l.getD i .no).r⟩) i (by simpa using hi) false a
  have s2 := th_set_kid (l.set i ⟨u, a, (l.getD i .no).r⟩) i (by simpa using hi) true b
  rw [getD_set' _ _ _ _ _ hi, if_pos rfl, List.set_set] at s1 s2
  exact (congrArg (fun m : List Value => m.set (i * 3 + 2) (.int .i64 b)) s1).trans s2
/-- So far made. -/
def madeTo (n j : Nat) : List Th := List.replicate j .no ++ List.replicate (n - j) ⟨0, 0, 0⟩
theorem madeTo_set {n j : Nat} (h : j < n) : (madeTo n j).set j .no = madeTo n (j + 1) := by
  unfold madeTo
  obtain ⟨k, rfl⟩ : ∃ k, n = j + (k + 1) := ⟨n - j - 1, by omega⟩
  rw [show j + (k + 1) - j = k + 1 by omega, show j + (k + 1) - (j + 1) = k by omega, List.replicate_succ]
  rw [List.set_append_right _ _ (by simp), List.length_replicate, Nat.sub_self, List.set_cons_zero, List.replicate_succ', List.append_assoc]
  rfl
theorem madeTo_len (n j : Nat) (h : j ≤ n) : (madeTo n j).length = n := by simp [madeTo]; omega
theorem madeTo_all (n : Nat) : madeTo n n = rawOf n [] := by rw [raw_new]; simp [madeTo]
def NewPostS (w : World) (n : Nat) (e : Ending) (w' : World) : Prop :=
  ∃ p, e = .returned (.tuple #[.pointer (some ⟨p, 0, none⟩), .int .i64 0]) ∧ ∃ F', (Ob.spine p n []).holds w' F' ∧ (∀ k, F' k → w.heap.size ≤ k) ∧ Below w.heap.size w w'
set_option maxHeartbeats 1000000 in
theorem new_sp (n : Nat) (hn : n ≤ 65536) (w : World) : Calls Try.prog 45 #[.int .i64 n] w (NewPostS w n) := by
  have hmk := run_make_rows (P := Try.prog) 117 122 _ 3 24 Try.underlying117 info_thing n (by omega) (by omega)
  have hs0 := ((Stage.start w).newRow 122 3 n (madeCells #[.int .i64 0, .int .i64 0, .int .i64 0] (n * 3)) (size_madeCells _ _) (by unfold maxLen; omega)).alloc' #[.slice (some ⟨w.heap.size, 0, none⟩) n n] 119 (b := w.heap.size + 1) (size_alloc _ _)
  rw [made_rows thC_len (by decide) ⟨0, 0, 0⟩ #[.int .i64 0, .int .i64 0, .int .i64 0] rfl n] at hs0
  have hs : Stage (fun _ => False) w [Ob.box (w.heap.size + 1) #[.slice (some ⟨w.heap.size, 0, none⟩) n n] 119, Ob.row 0 122 3 (.slice (some ⟨w.heap.size, 0, none⟩) n n) n (cellsBy thC (madeTo n 0))] _ := hs0.select [1, 0] (by decide) rfl
  clear hs0
  generalize hg : w.heap.size = g at *
  have k0 := hs.cell 0 rfl (o := 0) rfl
  have hn1 : ¬ (65536 : Int) < n := by omega
  go_enter Try.func45, Try.ntmps45
  go_wp2_with fail
  go_loopw [21] (fun i wr => ∃ j : Nat, i = .int .i64 j ∧ j ≤ n ∧ Stage (fun _ => False) w [Ob.box (g + 1) #[.slice (some ⟨g, 0, none⟩) n n] 119, Ob.row 0 122 3 (.slice (some ⟨g, 0, none⟩) n n) n (cellsBy thC (madeTo n j))] wr) (fun i _ => n - (intOf i).toNat)
  case atStart => exact ⟨0, rfl, Nat.zero_le _, hs⟩
  case round =>
    clear hs k0
    obtain ⟨j, rfl, hj, hs⟩ := hrel
    have k0 := hs.cell 0 rfl (o := 0) rfl
    by_cases hjn : j < n
    · have hji : (j : Int) < n := by omega
      have hlen := madeTo_len n j hj
      obtain ⟨g', c', hv, _, _, _, hg', hc, hf⟩ := owns_at thC_len .no (hs.owns 1 rfl) hlen (by omega)
      cases hv
      have u0 := hc j 0 _ hjn (by omega) rfl
      have u1 := hc j 1 _ hjn (by omega) rfl
      have u2 := hc j 2 _ hjn (by omega) rfl
      rw [Nat.add_zero] at u0
      have f0 := hf (j * 3)
      have f1 := hf (j * 3 + 1)
      have f2 := hf (j * 3 + 2)
      have hp := thC_put (madeTo n j) j (by omega) .no
      rw [madeTo_set hjn] at hp
      have hs2 := ((hs.storeRow 1 rfl (j * 3) (.int .i64 (-1)) rfl).storeRow 1 rfl (j * 3 + 1) (.int .i64 (-1)) rfl).storeRow 1 rfl (j * 3 + 2) (.int .i64 (-1)) hp
      clear hs hc hf hp
      go_wp2_with fail
      go_roundw
      case rel => exact ⟨j + 1, by go_num, by omega, hs2⟩
      case measure => simp [intOf]; omega
    · have hji : ¬ (j : Int) < n := by omega
      obtain rfl : j = n := by omega
      go_wp2_with fail
      rw [madeTo_all] at hs
      obtain ⟨F', h1, h2, h3⟩ := hs.closeNew
      go_ret2
      exact ⟨_, rfl, F', ⟨_, inv_nil _, hn, h1⟩, h2, h3⟩
theorem new_sp_no (n : Int) (w : World) (hn : ¬ (0 ≤ n ∧ n ≤ 65536)) :
    Calls Try.prog 45 #[.int .i64 n] w fun e w' => e = .returned (.tuple #[.pointer none, .int .i64 31]) ∧ w = w' := by
  have hc : n < 0 ∨ (¬ n < 0 ∧ 65536 < n) := by omega
  clear hn
  rcases hc with hc | ⟨hc, hc2⟩
  all_goals
    go_enter Try.func45, Try.ntmps45
    go_wp2_with fail
    go_ret2
    exact ⟨rfl, rfl⟩
theorem Stage.newSpine {F0 : Nat → Prop} {W w : World} {l : List Ob} (h : Stage F0 W l w) (n : Nat) (hn : n ≤ 65536) : Calls Try.prog 45 #[.int .i64 n] w fun e w' => ∃ p, e = .returned (.tuple #[.pointer (some ⟨p, 0, none⟩), .int .i64 0]) ∧ Stage F0 W (l ++ [Ob.spine p n []]) w' :=
  (new_sp n hn w).mono fun _ _ ⟨p, he, _, h1, h2, h3⟩ => ⟨p, he, h.add h3 h1 h2⟩
/-- May x be hung there? -/
def hangB (n : Nat) (L : List Hg) (p x : Int) (r : Bool) : Bool := decide (p ≠ x) && hasN n p && hasN n x && (upL L x).isNone && (kidL L p r).isNone
def hangL (n : Nat) (L : List Hg) (p x : Int) (r : Bool) : List Hg := if hangB n L p x r then L ++ [⟨p, x, r⟩] else L
section
variable {w : World} {p n : Nat} {L : List Hg} {F : Nat → Prop}
theorem oI_bne {o : Option Int} (h : ∀ y, o = some y → inN n y) : (oI o != -1) = o.isSome := by
  cases o with
  | none => rfl
  | some y => have := h y rfl; unfold inN at this; simp [oI, bne_iff_ne]; omega
set_option maxHeartbeats 1000000 in
theorem hang_sp (a x : Int) (r : Bool) (ha : ¬ aboveL L x a ∨ x = a) (h : (Ob.spine p n L).holds w F) : Calls Try.prog 75 #[.pointer (some ⟨p, 0, none⟩), .int .i64 a, .int .i64 x, .bool r] w fun e w' => e = .returned (.bool (hangB n L a x r)) ∧ ∃ F', (Ob.spine p n (hangL n L a x r)).holds w' F' ∧ Moved F F' w w' := by
  have hF := (Ob.spine p n L).lt h
  have hno : hangB n L a x r = false → hangL n L a x r = L := fun e => by simp [hangL, e]
  have hstay : ∃ F', (Ob.spine p n L).holds w F' ∧ Moved F F' w w := ⟨F, h, Moved.refl _ _⟩
  obtain ⟨v, I, hn, hg⟩ := h
  have hs := Ob.group.open hg
  have c0 := sp_c0 (q := []) hs
  have hA := sp_has (q := []) hs a
  have hX := sp_has (q := []) hs x
  clear hg
  by_cases e0 : a = x
  · subst e0
    have e1 : hangB n L a a r = false := by simp [hangB]
    rw [e1, hno e1]
    clear hs ha c0 hA hX
    go_enter Try.func75, Try.ntmps75
    go_wp2_with fail
    go_ret
    exact ⟨rfl, hstay⟩
  have e0' : (a == x) = false := by simpa using e0
  cases h1 : hasN n a
  · have e1 : hangB n L a x r = false := by simp [hangB, h1]
    rw [e1, hno e1]
    rw [h1] at hA
    clear hs ha c0 hX
    go_enter Try.func75, Try.ntmps75
    go_wp2_with fail
    refine hA.mono ?_
    rintro e w1 ⟨rfl, rfl⟩
    go_wp2_with fail
    go_ret
    exact ⟨rfl, hstay⟩
  cases h2 : hasN n x
  · have e1 : hangB n L a x r = false := by simp [hangB, h2]
    rw [e1, hno e1]
    rw [h1] at hA
    rw [h2] at hX
    clear hs ha c0
    go_enter Try.func75, Try.ntmps75
    go_wp2_with fail
    refine hA.mono ?_
    rintro e w1 ⟨rfl, rfl⟩
    go_wp2_with fail
    refine hX.mono ?_
    rintro e w1 ⟨rfl, rfl⟩
    go_wp2_with fail
    go_ret
    exact ⟨rfl, hstay⟩
  rw [h1] at hA
  rw [h2] at hX
  obtain ⟨i, rfl⟩ : ∃ i : Nat, a = i := ⟨a.toNat, by have := (has_in.1 h1).1; omega⟩
  obtain ⟨j, rfl⟩ : ∃ j : Nat, x = j := ⟨x.toNat, by have := (has_in.1 h2).1; omega⟩
  have hi : i < n := by have := (has_in.1 h1).2; omega
  have hj : j < n := by have := (has_in.1 h2).2; omega
  have hij : i ≠ j := fun e => e0 (by rw [e])
  obtain ⟨g, c, rfl, hc1, hc2, hgp, hgl, hc, hf⟩ := sp_row (q := []) hs (by omega)
  have u0 := (hc j hj).1
  have u1 := (hc i hi).2 r
  have hb0 := oI_bne (o := upL L j) (fun y e => (up_in I e).2)
  have hb1 := oI_bne (o := kidL L i r) (fun y e => (kid_in I e).1)
  cases h3 : (upL L j).isSome
  rotate_left
  · have e1 : hangB n L i j r = false := by
      cases e : upL L j with
      | none => rw [e] at h3; cases h3
      | some y => simp [hangB, e]
    rw [e1, hno e1]
    rw [h3] at hb0
    clear hs ha hc hf h1 h2 hno u1 hb1
    generalize oI (upL L j) = z at *
    go_enter Try.func75, Try.ntmps75
    go_wp2_with fail
    refine hA.mono ?_
    rintro e w1 ⟨rfl, rfl⟩
    go_wp2_with fail
    refine hX.mono ?_
    rintro e w1 ⟨rfl, rfl⟩
    go_wp2_with fail
    go_ret
    exact ⟨rfl, hstay⟩
  rw [h3] at hb0
  cases h4 : (kidL L i r).isSome
  rotate_left
  · have e1 : hangB n L i j r = false := by
      cases e : kidL L i r with
      | none => rw [e] at h4; cases h4
      | some y => simp [hangB, e]
    rw [e1, hno e1]
    rw [h4] at hb1
    clear hs ha hc hf h1 h2 hno
    generalize oI (upL L j) = z at *
    generalize oI (kidL L i r) = y at *
    cases r
    all_goals
      simp only [Bool.toNat_false, Bool.toNat_true, Nat.add_zero] at u1
      go_enter Try.func75, Try.ntmps75
      go_wp2_with fail
      refine hA.mono ?_
      rintro e w1 ⟨rfl, rfl⟩
      go_wp2_with fail
      refine hX.mono ?_
      rintro e w1 ⟨rfl, rfl⟩
      go_wp2_with fail
      go_ret
      exact ⟨rfl, hstay⟩
  rw [h4] at hb1
  have hu : upL L j = none := by cases e : upL L j with
    | none => rfl
    | some y => rw [e] at h3; cases h3
  have hk : kidL L i r = none := by cases e : kidL L i r with
    | none => rfl
    | some y => rw [e] at h4; cases h4
  have e1 : hangB n L i j r = true := by simp [hangB, h1, h2, hu, hk]; omega
  have e2 : hangL n L i j r = L ++ [⟨i, j, r⟩] := by simp [hangL, e1]
  have ha' : ¬ aboveL L (j : Int) i := ha.resolve_right (fun e => e0 e.symm)
  have I' := inv_hang I (has_in.1 h1) (has_in.1 h2) hu hk ha'
  have hr1 := th_set_kid (rawOf n L) i (by rw [raw_len]; exact hi) r j
  rw [raw_at _ hi] at hr1
  have hr2 := th_set_up ((rawOf n L).set i ((thOf L i).kid r j)) j (by rw [List.length_set, raw_len]; exact hj) i
  rw [getD_set' _ _ _ _ _ (by rw [raw_len]; exact hi), if_neg hij, raw_at _ hj, raw_hang hi hj hij hu hk] at hr2
  have hs2 := (hs.storeRow 1 rfl (i * 3 + (1 + r.toNat)) (.int .i64 j) hr1).storeRow 1 rfl (j * 3) (.int .i64 i) hr2
  have hs3 : Stage F w (spineParts p (.slice (some ⟨g, 0, none⟩) n c) n (L ++ [⟨i, j, r⟩])) _ := hs2
  rw [e1, e2]
  have fi := hf (i * 3 + (1 + r.toNat))
  have fj := hf (j * 3)
  have hcl := fun w' (h : Stage F w (spineParts p (.slice (some ⟨g, 0, none⟩) n c) n (L ++ [⟨i, j, r⟩])) w') => spine_close h hF I' hn
  clear hs hs2 ha hc hf h1 h2 hno hr1 hr2 I I' ha' e1 e2 hu hk h3 h4 hstay
  generalize oI (upL L j) = z at *
  generalize oI (kidL L i r) = y at *
  generalize hT : L ++ [⟨i, j, r⟩] = L' at *
  clear hT
  cases r
  all_goals
    simp only [Bool.toNat_false, Bool.toNat_true, Nat.add_zero] at u1 fi hs3
    go_enter Try.func75, Try.ntmps75
    go_wp2_with fail
    refine hA.mono ?_
    rintro e w1 ⟨rfl, rfl⟩
    go_wp2_with fail
    refine hX.mono ?_
    rintro e w1 ⟨rfl, rfl⟩
    go_wp2_with fail
    go_ret
    exact ⟨rfl, hcl _ hs3⟩
end
end Go.Proofs.Ytehoejoeoaimjaa

namespace Go.Proofs.Ytehoejoeoaimjaa
open Go.RowKit Go.Sort

/-- Of the sides so far gone through, what is x is taken off. -/
def cutTo (t : Th) (x : Int) (j : Nat) : Th := ⟨t.up, if 0 < j ∧ t.l = x then -1 else t.l, if 1 < j ∧ t.r = x then -1 else t.r⟩
theorem cutTo_zero (t : Th) (x : Int) : cutTo t x 0 = t := by cases t; simp [cutTo]
theorem cutTo_yes {t : Th} {x : Int} {s : Bool} (h : (if s then t.r else t.l) = x) : (cutTo t x s.toNat).kid s (-1) = cutTo t x (s.toNat + 1) := by
  cases s <;> simp_all [cutTo, Th.kid]
theorem cutTo_no {t : Th} {x : Int} {s : Bool} (h : (if s then t.r else t.l) ≠ x) : cutTo t x (s.toNat + 1) = cutTo t x s.toNat := by
  cases s <;> simp_all [cutTo]
section
variable {w : World} {p n : Nat} {L : List Hg} {F : Nat → Prop}
theorem th_set_kid2 {n pi : Nat} {L : List Hg} {t : Th} (hp : pi < n) (s : Bool) (x : Int) : (cellsBy thC ((rawOf n L).set pi t)).set (pi * 3 + (1 + s.toNat)) (.int .i64 x) = cellsBy thC ((rawOf n L).set pi (t.kid s x)) := by
  have := th_set_kid ((rawOf n L).set pi t) pi (by rw [List.length_set, raw_len]; exact hp) s x
  rw [getD_set' _ _ _ _ _ (by rw [raw_len]; exact hp), if_pos rfl, List.set_set] at this
  exact this
set_option maxHeartbeats 1000000 in
theorem cut_sp (x : Int) (h : (Ob.spine p n L).holds w F) : Calls Try.prog 90 #[.pointer (some ⟨p, 0, none⟩), .int .i64 x] w fun e w' => e = .returned (.tuple #[.int .i64 ((upL L x).getD 0), .bool (upL L x).isSome]) ∧ ∃ F', (Ob.spine p n (cutL L x)).holds w' F' ∧ Moved F F' w w' := by
  have hF := (Ob.spine p n L).lt h
  have hstay : ∃ F', (Ob.spine p n L).holds w F' ∧ Moved F F' w w := ⟨F, h, Moved.refl _ _⟩
  obtain ⟨v, I, hn, hg⟩ := h
  have hs := Ob.group.open hg
  have hU := sp_up (q := []) hs I hn x
  clear hg
  cases hu : upL L x with
  | none =>
    rw [cut_same I hu]
    rw [hu] at hU
    clear hs
    go_enter Try.func90, Try.ntmps90
    go_wp2_with fail
    refine hU.mono ?_
    rintro e w1 ⟨rfl, rfl⟩
    go_wp2_with fail
    go_ret2
    exact ⟨rfl, hstay⟩
  | some a =>
    rw [hu] at hU
    obtain ⟨hx, ha⟩ := up_in I hu
    obtain ⟨i, rfl⟩ : ∃ i : Nat, a = i := ⟨a.toNat, by have := ha.1; omega⟩
    obtain ⟨j, rfl⟩ : ∃ j : Nat, x = j := ⟨x.toNat, by have := hx.1; omega⟩
    have hi : i < n := by have := ha.2; omega
    have hj : j < n := by have := hx.2; omega
    have hij : i ≠ j := by
      rintro rfl
      obtain ⟨d, D⟩ := I.dep
      have := D.up hu
      omega
    obtain ⟨g, c, rfl, hc1, hc2, hgp, hgl, hc, hf⟩ := sp_row (q := []) hs (by omega)
    have u1 := (hc i hi).2 false
    have u2 := (hc i hi).2 true
    simp only [Bool.toNat_false, Bool.toNat_true, Nat.add_zero] at u1 u2
    have c0 := sp_c0 (q := []) hs
    have hend : ((rawOf n L).set i (cutTo (thOf L i) j 2)).set j ⟨-1, (((rawOf n L).set i (cutTo (thOf L i) j 2)).getD j .no).l, (((rawOf n L).set i (cutTo (thOf L i) j 2)).getD j .no).r⟩ = rawOf n (cutL L j) := by
      rw [getD_set' _ _ _ _ _ (by rw [raw_len]; exact hi), if_neg hij, raw_at _ hj, ← raw_cut I hi hj hij hu]
      have e1 := fun r => propext (oI_some (o := kidL L i r) hx)
      simp only [cutTo, thOf, e1]
      simp
    have I' := inv_cut I j
    have hst : Stage F w (spineParts p (.slice (some ⟨g, 0, none⟩) n c) n L) w := hs
    have hs : Stage F w [Ob.box p #[.slice (some ⟨g, 0, none⟩) n c] 119, Ob.row 0 122 3 (.slice (some ⟨g, 0, none⟩) n c) n (cellsBy thC ((rawOf n L).set i (cutTo (thOf L i) j 0)))] w := by
      have e : (rawOf n L).set i (cutTo (thOf L i) j 0) = rawOf n L := by
        rw [cutTo_zero]
        refine th_ext (by simp [raw_len]) (raw_len _ _) (fun k hk => ?_)
        rw [getD_set' _ _ _ _ _ (by rw [raw_len]; exact hi), raw_at _ hk]
        split
        · rename_i e; rw [e]
        · rfl
      rw [e]; exact hst
    obtain ⟨A, hA⟩ : ∃ A, A = oI (kidL L i false) := ⟨_, rfl⟩
    obtain ⟨B, hB⟩ : ∃ B, B = oI (kidL L i true) := ⟨_, rfl⟩
    rw [← hA] at u1
    rw [← hB] at u2
    have hAB : ∀ s : Bool, (if s then (thOf L i).r else (thOf L i).l) = if s then B else A := fun s => by cases s <;> simp [thOf, hA, hB]
    replace hA := Lib.hid hA
    replace hB := Lib.hid hB
    have hyes : ∀ s : Bool, (if s then B else A) = j → (cutTo (thOf L i) j s.toNat).kid s (-1) = cutTo (thOf L i) j (s.toNat + 1) := fun s h => cutTo_yes (by rw [hAB, h])
    have hnoo : ∀ s : Bool, (if s then B else A) ≠ j → cutTo (thOf L i) j (s.toNat + 1) = cutTo (thOf L i) j s.toNat := fun s h => cutTo_no (by rw [hAB]; exact h)
    have hput : ∀ (t : Th) (s : Bool), (cellsBy thC ((rawOf n L).set i t)).set (i * 3 + (1 + s.toNat)) (.int .i64 (-1)) = cellsBy thC ((rawOf n L).set i (t.kid s (-1))) := fun t s => th_set_kid2 hi s (-1)
    have hlast := th_set_up ((rawOf n L).set i (cutTo (thOf L i) j 2)) j (by rw [List.length_set, raw_len]; exact hj) (-1)
    rw [hend] at hlast
    have hcl := fun w' (h : Stage F w (spineParts p (.slice (some ⟨g, 0, none⟩) n c) n (cutL L j)) w') => spine_close h hF I' hn
    unfold spineParts at hcl
    generalize hL' : rawOf n (cutL L j) = Lc at *
    clear hst hc hf hend hAB hstay I I' hu hL'
    have hRn : (rawOf n L).length = n := raw_len n L
    generalize thOf L i = t at *
    generalize rawOf n L = R at *
    go_enter Try.func90, Try.ntmps90
    go_wp2_with fail
    refine hU.mono ?_
    rintro e w1 ⟨rfl, rfl⟩
    clear hU
    have i0 : ∀ a b : Int, ∀ w, (Instr.index 120 (.agg #[.int .i64 a, .int .i64 b]) (.int .i64 0)).run Try.prog w = .ok (.int .i64 a) w := fun _ _ _ => by kernel_rfl
    have i1 : ∀ a b : Int, ∀ w, (Instr.index 120 (.agg #[.int .i64 a, .int .i64 b]) (.int .i64 1)).run Try.prog w = .ok (.int .i64 b) w := fun _ _ _ => by kernel_rfl
    go_wp2_with fail
    go_loopw [26] (fun z wr => ∃ (k : Nat) (y : Int), z = .int .i64 y ∧ y = k ∧ k ≤ 2 ∧ Stage F w [Ob.box p #[.slice (some ⟨g, 0, none⟩) n c] 119, Ob.row 0 122 3 (.slice (some ⟨g, 0, none⟩) n c) n (cellsBy thC (R.set i (cutTo t j k)))] wr) (fun z _ => 2 - (intOf z).toNat)
    case atStart => exact ⟨0, 0, rfl, rfl, by omega, hs⟩
    case round =>
      clear hs c0 u1 u2
      obtain ⟨k, y, rfl, hy, hk, hs⟩ := hrel
      have c0 := hs.cell 0 rfl (o := 0) rfl
      obtain ⟨g', c', hv, _, _, _, _, hcc, fz⟩ := owns_at thC_len .no (hs.owns 1 rfl) (by rw [List.length_set]; exact hRn) (by omega)
      cases hv
      have v0 := hcc j 0 _ hj (by omega) rfl
      have v1 := hcc i 1 _ hi (by omega) rfl
      have v2 := hcc i 2 _ hi (by omega) rfl
      rw [Nat.add_zero] at v0
      replace v2 : wr.cell? ⟨g, i * 3 + 1 + 1, none⟩ = _ := v2
      clear hcc
      generalize ((R.set i (cutTo t j k)).getD j .no).up = z0 at *
      generalize ((R.set i (cutTo t j k)).getD i .no).l = z1 at *
      generalize ((R.set i (cutTo t j k)).getD i .no).r = z2 at *
      have hk3 : k = 0 ∨ k = 1 ∨ k = 2 := by omega
      rcases hk3 with rfl | rfl | rfl
      · obtain rfl : y = 0 := by omega
        clear hy
        by_cases e : A = j
        · subst e
          have hs2 := hs.storeRow 1 rfl (i * 3 + (1 + false.toNat)) (.int .i64 (-1)) (hput _ false)
          have e2 := hyes false rfl
          simp only [Bool.toNat_false, Nat.add_zero, Nat.zero_add] at e2 hs2
          rw [e2] at hs2
          have f0 := fz (i * 3 + 1)
          clear hyes hnoo hput hlast hcl hs
          go_wp2_with fail
          go_roundw
          case rel => exact ⟨1, 1, rfl, rfl, by omega, hs2⟩
          case measure => simp [intOf]
        · have e' : (A == (j : Int)) = false := by simpa using e
          have e2 := hnoo false e
          simp only [Bool.toNat_false, Nat.zero_add] at e2
          rw [← e2] at hs
          clear hyes hnoo hput hlast hcl
          go_wp2_with fail
          go_roundw
          case rel => exact ⟨1, 1, rfl, rfl, by omega, hs⟩
          case measure => simp [intOf]
      · obtain rfl : y = 1 := by omega
        clear hy
        by_cases e : B = j
        · subst e
          have hs2 := hs.storeRow 1 rfl (i * 3 + (1 + true.toNat)) (.int .i64 (-1)) (hput _ true)
          have e2 := hyes true rfl
          simp only [Bool.toNat_true] at e2 hs2
          rw [e2] at hs2
          have f0 := fz (i * 3 + 1 + 1)
          clear hyes hnoo hput hlast hcl hs
          go_wp2_with fail
          go_roundw
          case rel => exact ⟨2, 2, rfl, rfl, by omega, hs2⟩
          case measure => simp [intOf]
        · have e' : (B == (j : Int)) = false := by simpa using e
          have e2 := hnoo true e
          simp only [Bool.toNat_true] at e2
          rw [← e2] at hs
          clear hyes hnoo hput hlast hcl
          go_wp2_with fail
          go_roundw
          case rel => exact ⟨2, 2, rfl, rfl, by omega, hs⟩
          case measure => simp [intOf]
      · obtain rfl : y = 2 := by omega
        clear hy
        have hs2 := hs.storeRow 1 rfl (j * 3) (.int .i64 (-1)) hlast
        have f0 := fz (j * 3)
        clear hyes hnoo hput hlast hs
        go_wp2_with fail
        go_ret2
        exact ⟨rfl, hcl _ hs2⟩
set_option maxHeartbeats 1000000 in
theorem turn_sp (x : Int) (h : (Ob.spine p n L).holds w F) : Calls Try.prog 84 #[.pointer (some ⟨p, 0, none⟩), .int .i64 x] w fun e w' => e = .returned (.bool (hasN n x)) ∧ ∃ F', (Ob.spine p n (turnL L x)).holds w' F' ∧ Moved F F' w w' := by
  have hF := (Ob.spine p n L).lt h
  have hstay : ∃ F', (Ob.spine p n L).holds w F' ∧ Moved F F' w w := ⟨F, h, Moved.refl _ _⟩
  obtain ⟨v, I, hn, hg⟩ := h
  have hs := Ob.group.open hg
  have hH := sp_has (q := []) hs x
  have c0 := sp_c0 (q := []) hs
  clear hg
  cases hx : hasN n x
  · rw [turn_same I (fun e => by rw [has_in.2 e] at hx; cases hx)]
    rw [hx] at hH
    clear hs c0
    go_enter Try.func84, Try.ntmps84
    go_wp2_with fail
    refine hH.mono ?_
    rintro e w1 ⟨rfl, rfl⟩
    go_wp2_with fail
    go_ret
    exact ⟨rfl, hstay⟩
  · rw [hx] at hH
    obtain ⟨i, rfl⟩ : ∃ i : Nat, x = i := ⟨x.toNat, by have := (has_in.1 hx).1; omega⟩
    have hi : i < n := by have := (has_in.1 hx).2; omega
    obtain ⟨g, c, rfl, hc1, hc2, hgp, hgl, hc, hf⟩ := sp_row (q := []) hs (by omega)
    have u1 := (hc i hi).2 false
    have u2 := (hc i hi).2 true
    simp only [Bool.toNat_false, Bool.toNat_true, Nat.add_zero] at u1 u2
    have f1 := hf (i * 3 + 1)
    have f2 := hf (i * 3 + 1 + 1)
    have I' := inv_turn I (i : Int)
    have hcl := fun w' (h : Stage F w (spineParts p (.slice (some ⟨g, 0, none⟩) n c) n (turnL L i)) w') => spine_close h hF I' hn
    have hr1 := th_set_kid (rawOf n L) i (by rw [raw_len]; exact hi) false (oI (kidL L i true))
    rw [raw_at _ hi] at hr1
    have hr2 := th_set_kid2 (L := L) (t := (thOf L i).kid false (oI (kidL L i true))) hi true (oI (kidL L i false))
    rw [show ((thOf L i).kid false (oI (kidL L i true))).kid true (oI (kidL L i false)) = ⟨oI (upL L i), oI (kidL L i true), oI (kidL L i false)⟩ from rfl, raw_turn L hi] at hr2
    have hs2 : Stage F w (spineParts p (.slice (some ⟨g, 0, none⟩) n c) n (turnL L i)) ((w.setCell ⟨g, i * 3 + 1, none⟩ (.int .i64 (oI (kidL L i true)))).setCell ⟨g, i * 3 + 1 + 1, none⟩ (.int .i64 (oI (kidL L i false)))) :=
      (hs.storeRow 1 rfl (i * 3 + (1 + false.toNat)) (.int .i64 (oI (kidL L i true))) hr1).storeRow 1 rfl (i * 3 + (1 + true.toNat)) (.int .i64 (oI (kidL L i false))) hr2
    clear hs hc hf hstay I I' hr1 hr2 hx
    generalize oI (kidL L i true) = B at *
    generalize oI (kidL L i false) = A at *
    generalize turnL L i = L' at *
    go_enter Try.func84, Try.ntmps84
    go_wp2_with fail
    refine hH.mono ?_
    rintro e w1 ⟨rfl, rfl⟩
    clear hH
    go_wp2_with fail
    go_region
    all_goals
      go_wp2_with fail
      go_ret
      exact ⟨rfl, hcl _ hs2.drew⟩
end
end Go.Proofs.Ytehoejoeoaimjaa
