/- What the trees' calls return, and what then is: New, Hang, Cut, Turn. -/
import Derived.Test.YtkagchnhjjcgbaaSpineObj
namespace Go.Proofs.Ytkagchnhjjcgbaa
open Go.RowKit Go.Sort

theorem info_thing : (Try.prog.info? 53).map (fun i => (i.zero, i.size, i.bytes)) = some (some (.agg #[.int .i64 0, .int .i64 0, .int .i64 0]), 3, 24) := by kernel_rfl
/-- All three cells of one thing are written. -/
theorem thC_put (l : List Th) (i : Nat) (hi : i < l.length) (t : Th) : (((cellsBy thC l).set (i * 3) (.int .i64 t.up)).set (i * 3 + 1) (.int .i64 t.l)).set (i * 3 + 2) (.int .i64 t.r) = cellsBy thC (l.set i t) := by
  obtain ⟨u, a, b⟩ := t
  rw [th_set_up l i hi]
  have s1 := th_set_kid (l.set i ⟨u, (l.getD i .no).l, (l.getD i .no).r⟩) i (by simpa using hi) false a
  have s2 := th_set_kid (l.set i ⟨u, a, (l.getD i .no).r⟩) i (by simpa using hi) true b
  rw [getD_set' _ _ _ _ _ hi, if_pos rfl, List.set_set] at s1 s2
  exact (congrArg (fun m : List Value => m.set (i * 3 + 2) (.int .i64 b)) s1).trans s2
/-- So far made. -/
def madeTo (n j : Nat) : List Th := List.replicate j .no ++ List.replicate (n - j) ⟨0, 0, 0⟩
theorem madeTo_set {n j : Nat} (h : j < n) : (madeTo n j).set j .no = madeTo n (j + 1) := by
  unfold madeTo
  obtain ⟨k, rfl⟩ : ∃ k, n = j + (k + 1) := ⟨n - j - 1, by omega⟩
  rw [show j + (k + 1) - j = k + 1 by omega, show j + (k + 1) - (j + 1) = k by omega, List.replicate_succ]
  rw [List.set_append_right _ _ (by simp), List.length_replicate, Nat.sub_self, List.set_cons_zero, List.replicate_succ', List.append_assoc]
  rfl
theorem madeTo_len (n j : Nat) (h : j ≤ n) : (madeTo n j).length = n := by simp [madeTo]; omega
theorem madeTo_all (n : Nat) : madeTo n n = rawOf n [] := by rw [raw_new]; simp [madeTo]
def NewPostS (w : World) (n : Nat) (e : Ending) (w' : World) : Prop :=
  ∃ p, e = .returned (.tuple #[.pointer (some ⟨p, 0, none⟩), .int .i64 0]) ∧ ∃ F', (Ob.spine p n []).holds w' F' ∧ (∀ k, F' k → w.heap.size ≤ k) ∧ Below w.heap.size w w'
set_option maxHeartbeats 1000000 in
theorem new_sp (n : Nat) (hn : n ≤ 65536) (w : World) : Calls Try.prog 8 #[.int .i64 n] w (NewPostS w n) := by
  have hmk := run_make_rows (P := Try.prog) 48 53 _ 3 24 Try.underlying48 info_thing n (by omega) (by omega)
  have hs0 := ((Stage.start w).newRow 53 3 n (madeCells #[.int .i64 0, .int .i64 0, .int .i64 0] (n * 3)) (size_madeCells _ _) (by unfold maxLen; omega)).alloc' #[.slice (some ⟨w.heap.size, 0, none⟩) n n] 50 (b := w.heap.size + 1) (size_alloc _ _)
  rw [made_rows thC_len (by decide) ⟨0, 0, 0⟩ #[.int .i64 0, .int .i64 0, .int .i64 0] rfl n] at hs0
  have hs : Stage (fun _ => False) w [Ob.box (w.heap.size + 1) #[.slice (some ⟨w.heap.size, 0, none⟩) n n] 50, Ob.row 0 53 3 (.slice (some ⟨w.heap.size, 0, none⟩) n n) n (cellsBy thC (madeTo n 0))] _ := hs0.select [1, 0] (by decide) rfl
  clear hs0
  generalize hg : w.heap.size = g at *
  have k0 := hs.cell 0 rfl (o := 0) rfl
  have hn1 : ¬ (65536 : Int) < n := by omega
  go_enter Try.func8, Try.ntmps8
  go_wp2_with fail
  go_loopw [21] (fun i wr => ∃ j : Nat, i = .int .i64 j ∧ j ≤ n ∧ Stage (fun _ => False) w [Ob.box (g + 1) #[.slice (some ⟨g, 0, none⟩) n n] 50, Ob.row 0 53 3 (.slice (some ⟨g, 0, none⟩) n n) n (cellsBy thC (madeTo n j))] wr) (fun i _ => n - (intOf i).toNat)
  case atStart => exact ⟨0, rfl, Nat.zero_le _, hs⟩
  case round =>
    clear hs k0
    obtain ⟨j, rfl, hj, hs⟩ := hrel
    have k0 := hs.cell 0 rfl (o := 0) rfl
    by_cases hjn : j < n
    · have hji : (j : Int) < n := by omega
      have hlen := madeTo_len n j hj
      obtain ⟨g', c', hv, _, _, _, hg', hc, hf⟩ := owns_at thC_len .no (hs.owns 1 rfl) hlen (by omega)
      cases hv
      have u0 := hc j 0 _ hjn (by omega) rfl
      have u1 := hc j 1 _ hjn (by omega) rfl
      have u2 := hc j 2 _ hjn (by omega) rfl
      rw [Nat.add_zero] at u0
      have f0 := hf (j * 3)
      have f1 := hf (j * 3 + 1)
      have f2 := hf (j * 3 + 2)
      have hp := thC_put (madeTo n j) j (by omega) .no
      rw [madeTo_set hjn] at hp
      have hs2 := ((hs.storeRow 1 rfl (j * 3) (.int .i64 (-1)) rfl).storeRow 1 rfl (j * 3 + 1) (.int .i64 (-1)) rfl).storeRow 1 rfl (j * 3 + 2) (.int .i64 (-1)) hp
      clear hs hc hf hp
      go_wp2_with fail
      go_roundw
      case rel => exact ⟨j + 1, by go_num, by omega, hs2⟩
      case measure => simp [intOf]; omega
    · have hji : ¬ (j : Int) < n := by omega
      obtain rfl : j = n := by omega
      go_wp2_with fail
      rw [madeTo_all] at hs
      obtain ⟨F', h1, h2, h3⟩ := hs.closeNew
      go_ret2
      exact ⟨_, rfl, F', ⟨_, inv_nil _, hn, h1⟩, h2, h3⟩
theorem new_sp_no (n : Int) (w : World) (hn : ¬ (0 ≤ n ∧ n ≤ 65536)) :
    Calls Try.prog 8 #[.int .i64 n] w fun e w' => e = .returned (.tuple #[.pointer none, .int .i64 31]) ∧ w = w' := by
  have hc : n < 0 ∨ (¬ n < 0 ∧ 65536 < n) := by omega
  clear hn
  rcases hc with hc | ⟨hc, hc2⟩
  all_goals
    go_enter Try.func8, Try.ntmps8
    go_wp2_with fail
    go_ret2
    exact ⟨rfl, rfl⟩
theorem Stage.newSpine {F0 : Nat → Prop} {W w : World} {l : List Ob} (h : Stage F0 W l w) (n : Nat) (hn : n ≤ 65536) : Calls Try.prog 8 #[.int .i64 n] w fun e w' => ∃ p, e = .returned (.tuple #[.pointer (some ⟨p, 0, none⟩), .int .i64 0]) ∧ Stage F0 W (l ++ [Ob.spine p n []]) w' :=
  (new_sp n hn w).mono fun _ _ ⟨p, he, _, h1, h2, h3⟩ => ⟨p, he, h.add h3 h1 h2⟩
/-- May x be hung there? -/
def hangB (n : Nat) (L : List Hg) (p x : Int) (r : Bool) : Bool := decide (p ≠ x) && hasN n p && hasN n x && (upL L x).isNone && (kidL L p r).isNone
def hangL (n : Nat) (L : List Hg) (p x : Int) (r : Bool) : List Hg := if hangB n L p x r then L ++ [⟨p, x, r⟩] else L
section
variable {w : World} {p n : Nat} {L : List Hg} {F : Nat → Prop}
theorem oI_bne {o : Option Int} (h : ∀ y, o = some y → inN n y) : (oI o != -1) = o.isSome := by
  cases o with
  | none => rfl
  | some y => have := h y rfl; unfold inN at this; simp [oI, bne_iff_ne]; omega
set_option maxHeartbeats 1000000 in
theorem hang_sp (a x : Int) (r : Bool) (ha : ¬ aboveL L x a ∨ x = a) (h : (Ob.spine p n L).holds w F) : Calls Try.prog 21 #[.pointer (some ⟨p, 0, none⟩), .int .i64 a, .int .i64 x, .bool r] w fun e w' => e = .returned (.bool (hangB n L a x r)) ∧ ∃ F', (Ob.spine p n (hangL n L a x r)).holds w' F' ∧ Moved F F' w w' := by
  have hF := (Ob.spine p n L).lt h
  have hno : hangB n L a x r = false → hangL n L a x r = L := fun e => by simp [hangL, e]
  have hstay : ∃ F', (Ob.spine p n L).holds w F' ∧ Moved F F' w w := ⟨F, h, Moved.refl _ _⟩
  obtain ⟨v, I, hn, hg⟩ := h
  have hs := Ob.group.open hg
  have c0 := sp_c0 (q := []) hs
  have hA := sp_has (q := []) hs a
  have hX := sp_has (q := []) hs x
  clear hg
  by_cases e0 : a = x
  · subst e0
    have e1 : hangB n L a a r = false := by simp [hangB]
    rw [e1, hno e1]
    clear hs ha c0 hA hX
    go_enter Try.func21, Try.ntmps21
    go_wp2_with fail
    go_ret
    exact ⟨rfl, hstay⟩
  have e0' : (a == x) = false := by simpa using e0
  cases h1 : hasN n a
  · have e1 : hangB n L a x r = false := by simp [hangB, h1]
    rw [e1, hno e1]
    rw [h1] at hA
    clear hs ha c0 hX
    go_enter Try.func21, Try.ntmps21
    go_wp2_with fail
    refine hA.mono ?_
    rintro e w1 ⟨rfl, rfl⟩
    go_wp2_with fail
    go_ret
    exact ⟨rfl, hstay⟩
  cases h2 : hasN n x
  · have e1 : hangB n L a x r = false := by simp [hangB, h2]
    rw [e1, hno e1]
    rw [h1] at hA
    rw [h2] at hX
    clear hs ha c0
    go_enter Try.func21, Try.ntmps21
    go_wp2_with fail
    refine hA.mono ?_
    rintro e w1 ⟨rfl, rfl⟩
    go_wp2_with fail
    refine hX.mono ?_
    rintro e w1 ⟨rfl, rfl⟩
    go_wp2_with fail
    go_ret
    exact ⟨rfl, hstay⟩
  rw [h1] at hA
  rw [h2] at hX
  obtain ⟨i, rfl⟩ : ∃ i : Nat, a = i := ⟨a.toNat, by have := (has_in.1 h1).1; omega⟩
  obtain ⟨j, rfl⟩ : ∃ j : Nat, x = j := ⟨x.toNat, by have := (has_in.1 h2).1; omega⟩
  have hi : i < n := by have := (has_in.1 h1).2; omega
  have hj : j < n := by have := (has_in.1 h2).2; omega
  have hij : i ≠ j := fun e => e0 (by rw [e])
  obtain ⟨g, c, rfl, hc1, hc2, hgp, hgl, hc, hf⟩ := sp_row (q := []) hs (by omega)
  have u0 := (hc j hj).1
  have u1 := (hc i hi).2 r
  have hb0 := oI_bne (o := upL L j) (fun y e => (up_in I e).2)
  have hb1 := oI_bne (o := kidL L i r) (fun y e => (kid_in I e).1)
  cases h3 : (upL L j).isSome
  rotate_left
  · have e1 : hangB n L i j r = false := by
      cases e : upL L j with
      | none => rw [e] at h3; cases h3
      | some y => simp [hangB, e]
    rw [e1, hno e1]
    rw [h3] at hb0
    clear hs ha hc hf h1 h2 hno u1 hb1
    generalize oI (upL L j) = z at *
    go_enter Try.func21, Try.ntmps21
    go_wp2_with fail
    refine hA.mono ?_
    rintro e w1 ⟨rfl, rfl⟩
    go_wp2_with fail
    refine hX.mono ?_
    rintro e w1 ⟨rfl, rfl⟩
    go_wp2_with fail
    go_ret
    exact ⟨rfl, hstay⟩
  rw [h3] at hb0
  cases h4 : (kidL L i r).isSome
  rotate_left
  · have e1 : hangB n L i j r = false := by
      cases e : kidL L i r with
      | none => rw [e] at h4; cases h4
      | some y => simp [hangB, e]
    rw [e1, hno e1]
    rw [h4] at hb1
    clear hs ha hc hf h1 h2 hno
    generalize oI (upL L j) = z at *
    generalize oI (kidL L i r) = y at *
    cases r
    all_goals
      simp only [Bool.toNat_false, Bool.toNat_true, Nat.add_zero] at u1
      go_enter Try.func21, Try.ntmps21
      go_wp2_with fail
      refine hA.mono ?_
      rintro e w1 ⟨rfl, rfl⟩
      go_wp2_with fail
      refine hX.mono ?_
      rintro e w1 ⟨rfl, rfl⟩
      go_wp2_with fail
      go_ret
      exact ⟨rfl, hstay⟩
  rw [h4] at hb1
  have hu : upL L j = none := by cases e : upL L j with
    | none => rfl
    | some y => rw [e] at h3; cases h3
  have hk : kidL L i r = none := by cases e : kidL L i r with
    | none => rfl
    | some y => rw [e] at h4; cases h4
  have e1 : hangB n L i j r = true := by simp [hangB, h1, h2, hu, hk]; omega
  have e2 : hangL n L i j r = L ++ [⟨i, j, r⟩] := by simp [hangL, e1]
  have ha' : ¬ aboveL L (j : Int) i := ha.resolve_right (fun e => e0 e.symm)
  have I' := inv_hang I (has_in.1 h1) (has_in.1 h2) hu hk ha'
  have hr1 := th_set_kid (rawOf n L) i (by rw [raw_len]; exact hi) r j
  rw [raw_at _ hi] at hr1
  have hr2 := th_set_up ((rawOf n L).set i ((thOf L i).kid r j)) j (by rw [List.length_set, raw_len]; exact hj) i
  rw [getD_set' _ _ _ _ _ (by rw [raw_len]; exact hi), if_neg hij, raw_at _ hj, raw_hang hi hj hij hu hk] at hr2
  have hs2 := (hs.storeRow 1 rfl (i * 3 + (1 + r.toNat)) (.int .i64 j) hr1).storeRow 1 rfl (j * 3) (.int .i64 i) hr2
  have hs3 : Stage F w (spineParts p (.slice (some ⟨g, 0, none⟩) n c) n (L ++ [⟨i, j, r⟩])) _ := hs2
  rw [e1, e2]
  have fi := hf (i * 3 + (1 + r.toNat))
  have fj := hf (j * 3)
  have hcl := fun w' (h : Stage F w (spineParts p (.slice (some ⟨g, 0, none⟩) n c) n (L ++ [⟨i, j, r⟩])) w') => spine_close h hF I' hn
  clear hs hs2 ha hc hf h1 h2 hno hr1 hr2 I I' ha' e1 e2 hu hk h3 h4 hstay
  generalize oI (upL L j) = z at *
  generalize oI (kidL L i r) = y at *
  generalize hT : L ++ [⟨i, j, r⟩] = L' at *
  clear hT
  cases r
  all_goals
    simp only [Bool.toNat_false, Bool.toNat_true, Nat.add_zero] at u1 fi hs3
    go_enter Try.func21, Try.ntmps21
    go_wp2_with fail
    refine hA.mono ?_
    rintro e w1 ⟨rfl, rfl⟩
    go_wp2_with fail
    refine hX.mono ?_
    rintro e w1 ⟨rfl, rfl⟩
    go_wp2_with fail
    go_ret
    exact ⟨rfl, hcl _ hs3⟩
end
end Go.Proofs.Ytkagchnhjjcgbaa
