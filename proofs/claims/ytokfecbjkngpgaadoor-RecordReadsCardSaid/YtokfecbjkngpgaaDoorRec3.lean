/- Package record's Text: for every record, in every memory that holds the table of shapes and the library's tables; of what was in memory nothing is changed. -/
import Derived.Test.YtokfecbjkngpgaaDoorRec2
namespace Go.Proofs.YtokfecbjkngpgaaDoor
open Go.RowKit Go.Sort Go.Lib

theorem itoa_sz {n : Int} (h : Num.InI n) : (bs (itoa n)).size ≤ 21 := Lib.itoa_length_le n h.1 h.2
theorem word_sz : ∀ o, o ≤ 10 → (bs (Rec.word o)).size ≤ 8 := by decide
theorem mark_sz (o : Nat) : (bs (markL o)).size ≤ 1 := by
  unfold markL
  split
  · exact Nat.le_refl 1
  · exact Nat.zero_le _
theorem inR_ints {r : Rec.R} (h : Rec.InR r) : Num.InI r.a ∧ Num.InI r.b ∧ Num.InI r.key := ⟨by have := h.1; constructor <;> omega, by have := h.2.1; constructor <;> omega, h.2.2⟩
theorem app_no (x : ByteArray) : x ++ noS = x := by apply ByteArray.ext; simp
theorem ret_string {a b : ByteArray} (h : a = b) : Ending.returned (.string a) = .returned (.string b) := by rw [h]
/-- A right record's text, as it is put together. -/
theorem text_eq (n : Nat) (a b k : Int) (hr : Rec.right ⟨n, a, b, k⟩ = true) (Wd A M B K : ByteArray) (hW : Wd = bs (Rec.word n)) (hA : A = bs (itoa a)) (hM : M = bs (markL n)) (hB : B = bs (itoa b)) (hK : K = bs (itoa k)) :
    bs (Rec.txt ⟨n, a, b, k⟩) = ((if Rec.hA n then Wd ++ ((⟨#[32]⟩ : ByteArray) ++ A) else Wd) ++ (if Rec.hB n then M ++ B else noS)) ++ (if Rec.hK n then (⟨#[32]⟩ : ByteArray) ++ K else noS) := by
  rw [Rec.txt_of hr]
  subst hW hA hM hB hK
  apply ByteArray.ext
  cases hA : Rec.hA n <;> cases hB : Rec.hB n <;> cases hK : Rec.hK n <;> simp [Rec.txtN, hA, hB, hK, markL, bs]

/-- The two boxes that Text keeps: the record, and its shape. -/
theorem text_cells {W w : World} {b d : Nat} {n a m k : Int} {x y : ByteArray} {u v : Bool} (hs : Stage (fun _ => False) W [Ob.box b #[.int .i64 n, .int .u32 a, .int .u32 m, .int .i64 k] 24, Ob.box d #[.string x, .bool u, .string y, .bool v] 48] w) :
    w.cell? ⟨b, 0, none⟩ = some (.int .i64 n) ∧ w.cell? ⟨b, 1, none⟩ = some (.int .u32 a) ∧ w.cell? ⟨b, 2, none⟩ = some (.int .u32 m) ∧ w.cell? ⟨b, 3, none⟩ = some (.int .i64 k) ∧
    w.cell? ⟨d, 0, none⟩ = some (.string x) ∧ w.cell? ⟨d, 1, none⟩ = some (.bool u) ∧ w.cell? ⟨d, 2, none⟩ = some (.string y) ∧ w.cell? ⟨d, 3, none⟩ = some (.bool v) :=
  ⟨hs.cell 0 rfl rfl, hs.cell 0 rfl rfl, hs.cell 0 rfl rfl, hs.cell 0 rfl rfl, hs.cell 1 rfl rfl, hs.cell 1 rfl rfl, hs.cell 1 rfl rfl, hs.cell 1 rfl rfl⟩

set_option maxHeartbeats 4000000 in
set_option maxRecDepth 100000 in
theorem text_yes (n : Nat) (hn : n ≤ 10) (a b k : Int) (hr : Rec.right ⟨n, a, b, k⟩ = true) (hin : Rec.InR ⟨n, a, b, k⟩) (w : World) (h : Shapes w) (htab : Tab w) :
    Calls Tryd.prog 15 #[recV ⟨n, a, b, k⟩] w fun e w' => e = .returned (.string (bs (Rec.txt ⟨n, a, b, k⟩))) ∧ Below w.heap.size w w' := by
  obtain ⟨i1, i2, i3⟩ := inR_ints hin
  obtain ⟨⟨a0, a1⟩, ⟨b0, b1⟩, -⟩ := hin
  simp only at i1 i2 i3 a0 a1 b0 b1
  have hT := Lib.hid (text_eq n a b k hr _ _ _ _ _ rfl rfl rfl rfl rfl)
  have HA := Lib.hid (digits_any a i1.1 i1.2)
  have HB := Lib.hid (digits_any b i2.1 i2.2)
  have HK := Lib.hid (digits_any k i3.1 i3.2)
  have l0 := word_sz n hn
  have l1 := itoa_sz i1
  have l2 := mark_sz n
  have l3 := itoa_sz i2
  have l4 := itoa_sz i3
  have HR := Lib.hid (right_any ⟨n, a, b, k⟩)
  rw [hr] at HR
  have hX := Lib.hid (fun (w' : World) (hb : Below w.heap.size w w') => (h.below hb) n hn)
  have hm := mark_or n
  generalize bs (Rec.txt ⟨n, a, b, k⟩) = T at *
  change Hid (∀ (w : World), Tab w → Calls Tryd.prog 30 #[.int .i64 a] w fun e w' => e = .returned (.string (bs (itoa a))) ∧ Below w.heap.size w w') at HA
  change Hid (∀ (w : World), Tab w → Calls Tryd.prog 30 #[.int .i64 b] w fun e w' => e = .returned (.string (bs (itoa b))) ∧ Below w.heap.size w w') at HB
  change Hid (∀ (w : World), Tab w → Calls Tryd.prog 30 #[.int .i64 k] w fun e w' => e = .returned (.string (bs (itoa k))) ∧ Below w.heap.size w w') at HK
  generalize bs (Rec.word n) = Wd at *
  generalize bs (itoa a) = A at *
  generalize bs (markL n) = M at *
  generalize bs (itoa b) = B at *
  generalize bs (itoa k) = K at *
  clear hr
  have g1 : ¬ ((n : Int) < 0) := by omega
  have g3 : (n : Int) < 11 := by omega
  have g4 : (0 : Int) ≤ (n : Int) := by omega
  have hs0 := (Stage.start w).alloc #[.int .i64 n, .int .u32 a, .int .u32 b, .int .i64 k] 24
  have hh0 := h.below hs0.below
  go_enter Tryd.func15, Tryd.ntmps15
  go_wp2_with fail
  refine (HR.out _ hh0).mono ?_
  rintro e w1 ⟨rfl, hb1⟩
  have hs1 := hs0.later hb1
  clear hs0 hb1
  obtain ⟨x0, x1, x2, x3⟩ := hX.out _ hs1.below
  clear hX HR h
  have hlt := block_lt_of_cell x0
  have y0 : w1.cell? ⟨w.heap.size, 0, none⟩ = some (.int .i64 n) := hs1.cell 0 rfl rfl
  have y1 : w1.cell? ⟨w.heap.size, 1, none⟩ = some (.int .u32 a) := hs1.cell 0 rfl rfl
  have y2 : w1.cell? ⟨w.heap.size, 2, none⟩ = some (.int .u32 b) := hs1.cell 0 rfl rfl
  have y3 : w1.cell? ⟨w.heap.size, 3, none⟩ = some (.int .i64 k) := hs1.cell 0 rfl rfl
  have hz : w.heap.size < w1.heap.size := hs1.lt 0 rfl
  -- WAYS
  cases hA : Rec.hA n <;> cases hK : Rec.hK n <;> rcases hm with ⟨hB, rfl⟩ | ⟨hB, hm⟩
  · rw [hA] at x1; rw [hK] at x3
    have hs2 := hs1.alloc #[.string Wd, .bool false, .string noS, .bool false] 48
    have ht2 := tab_below htab hs2.below
    clear hs1
    go_wp2_with fail
    go_ret
    refine ⟨ret_string ?_, hs2.below⟩
    rw [hT.out, hA, hB, hK] <;> simp only [if_true, if_false, app_no, Bool.false_eq_true]
  · rw [hA] at x1; rw [hK] at x3
    have hs2 := hs1.alloc #[.string Wd, .bool false, .string M, .bool false] 48
    have ht2 := tab_below htab hs2.below
    clear hs1
    go_wp2_with fail
    have hs3 := hs2
    have ht3 := ht2
    generalize w1.alloc (Obj.cells #[.string Wd, .bool false, .string M, .bool false] 48) = w3 at *
    clear hs2 ht2 y0 y1 y2 y3 x0 x1 x2 x3
    obtain ⟨c0, c1, c2, c3, t0, t1, t2, t3⟩ := text_cells hs3
    have lT : Wd.size ≤ 30 := by omega
    have k2 := cell_regrown c2
    have k6 := cell_regrown t2
    have cB : ∀ d os, Calls Tryd.prog 30 #[.int .i64 b] (grow (redrawn w3 d) os) fun e w'' => e = .returned (.string B) ∧ ∃ p : Regrown, w'' = grow (redrawn w3 p.d) p.os := fun d os => Calls.regrown_of (HB.out _ (tab_below ht3 (below_regrown w3 d os)))
    have m1 : ¬ 9223372036854775807 < M.size + B.size := by omega
    have m2 : ¬ 9223372036854775807 < Wd.size + (M.size + B.size) := by omega
    refine wp_region_quiet_below (by kernel_rfl) (by kernel_rfl) ?_
    repeat (first | go_big_quiet_step (first | with_reducible exact cB _ _) | quiet_step (fail))
    refine wpQuiet_nil ?_
    intro w4 hw'
    replace hw' := below_regrown' hw'
    have hs4 := hs3.later hw'
    have ht4 := tab_below ht3 hw'
    clear hs3 ht3 k2 k6 cB m1 m2 hw' c0 c1 c2 c3 t0 t1 t2 t3 HB
    obtain ⟨c0, c1, c2, c3, t0, t1, t2, t3⟩ := text_cells hs4
    go_wp2_with fail
    go_ret
    refine ⟨ret_string ?_, hs4.below⟩
    rw [hT.out, hA, hB, hK] <;> simp only [if_true, if_false, app_no, Bool.false_eq_true]
  · rw [hA] at x1; rw [hK] at x3
    have hs2 := hs1.alloc #[.string Wd, .bool false, .string noS, .bool true] 48
    have ht2 := tab_below htab hs2.below
    clear hs1
    go_wp2_with fail
    have hs3 := hs2
    have ht3 := ht2
    generalize w1.alloc (Obj.cells #[.string Wd, .bool false, .string noS, .bool true] 48) = w3 at *
    clear hs2 ht2 y0 y1 y2 y3 x0 x1 x2 x3
    obtain ⟨c0, c1, c2, c3, t0, t1, t2, t3⟩ := text_cells hs3
    refine (HK.out _ ht3).mono ?_
    rintro e w5 ⟨rfl, hb5⟩
    have hs5 := hs3.later hb5
    clear hb5
    have o1 : ¬ 9223372036854775807 < 1 + K.size := by omega
    have o2 : ¬ 9223372036854775807 < Wd.size + (1 + K.size) := by omega
    go_wp2_with fail
    go_ret
    refine ⟨ret_string ?_, hs5.below⟩
    rw [hT.out, hA, hB, hK] <;> simp only [if_true, if_false, app_no, Bool.false_eq_true]
  · rw [hA] at x1; rw [hK] at x3
    have hs2 := hs1.alloc #[.string Wd, .bool false, .string M, .bool true] 48
    have ht2 := tab_below htab hs2.below
    clear hs1
    go_wp2_with fail
    have hs3 := hs2
    have ht3 := ht2
    generalize w1.alloc (Obj.cells #[.string Wd, .bool false, .string M, .bool true] 48) = w3 at *
    clear hs2 ht2 y0 y1 y2 y3 x0 x1 x2 x3
    obtain ⟨c0, c1, c2, c3, t0, t1, t2, t3⟩ := text_cells hs3
    have lT : Wd.size ≤ 30 := by omega
    have k2 := cell_regrown c2
    have k6 := cell_regrown t2
    have cB : ∀ d os, Calls Tryd.prog 30 #[.int .i64 b] (grow (redrawn w3 d) os) fun e w'' => e = .returned (.string B) ∧ ∃ p : Regrown, w'' = grow (redrawn w3 p.d) p.os := fun d os => Calls.regrown_of (HB.out _ (tab_below ht3 (below_regrown w3 d os)))
    have m1 : ¬ 9223372036854775807 < M.size + B.size := by omega
    have m2 : ¬ 9223372036854775807 < Wd.size + (M.size + B.size) := by omega
    refine wp_region_quiet_below (by kernel_rfl) (by kernel_rfl) ?_
    repeat (first | go_big_quiet_step (first | with_reducible exact cB _ _) | quiet_step (fail))
    refine wpQuiet_nil ?_
    intro w4 hw'
    replace hw' := below_regrown' hw'
    have hs4 := hs3.later hw'
    have ht4 := tab_below ht3 hw'
    clear hs3 ht3 k2 k6 cB m1 m2 hw' c0 c1 c2 c3 t0 t1 t2 t3 HB
    obtain ⟨c0, c1, c2, c3, t0, t1, t2, t3⟩ := text_cells hs4
    generalize hT2 : Wd ++ (M ++ B) = T2 at *
    have lT2 : T2.size ≤ 60 := by rw [← hT2]; simp [ByteArray.size_append]; omega
    replace hT2 := Lib.hid hT2
    go_wp2_with fail
    refine (HK.out _ ht4).mono ?_
    rintro e w5 ⟨rfl, hb5⟩
    have hs5 := hs4.later hb5
    clear hb5
    have o1 : ¬ 9223372036854775807 < 1 + K.size := by omega
    have o2 : ¬ 9223372036854775807 < T2.size + (1 + K.size) := by omega
    go_wp2_with fail
    go_ret
    refine ⟨ret_string ?_, hs5.below⟩
    rw [hT.out, hA, hB, hK, ← hT2.out] <;> simp only [if_true, if_false, app_no, Bool.false_eq_true]
  · rw [hA] at x1; rw [hK] at x3
    have hs2 := hs1.alloc #[.string Wd, .bool true, .string noS, .bool false] 48
    have ht2 := tab_below htab hs2.below
    clear hs1
    go_wp2_with fail
    refine (HA.out _ ht2).mono ?_
    rintro e w3 ⟨rfl, hb3⟩
    have hs3 := hs2.later hb3
    have ht3 := tab_below ht2 hb3
    clear hb3 hs2 ht2 y0 y1 y2 y3 x0 x1 x2 x3 HA
    obtain ⟨c0, c1, c2, c3, t0, t1, t2, t3⟩ := text_cells hs3
    have n1 : ¬ 9223372036854775807 < 1 + A.size := by omega
    have n2 : ¬ 9223372036854775807 < Wd.size + (1 + A.size) := by omega
    go_wp2_with fail
    go_ret
    refine ⟨ret_string ?_, hs3.below⟩
    rw [hT.out, hA, hB, hK] <;> simp only [if_true, if_false, app_no, Bool.false_eq_true]
  · rw [hA] at x1; rw [hK] at x3
    have hs2 := hs1.alloc #[.string Wd, .bool true, .string M, .bool false] 48
    have ht2 := tab_below htab hs2.below
    clear hs1
    go_wp2_with fail
    refine (HA.out _ ht2).mono ?_
    rintro e w3 ⟨rfl, hb3⟩
    have hs3 := hs2.later hb3
    have ht3 := tab_below ht2 hb3
    clear hb3 hs2 ht2 y0 y1 y2 y3 x0 x1 x2 x3 HA
    obtain ⟨c0, c1, c2, c3, t0, t1, t2, t3⟩ := text_cells hs3
    have n1 : ¬ 9223372036854775807 < 1 + A.size := by omega
    have n2 : ¬ 9223372036854775807 < Wd.size + (1 + A.size) := by omega
    go_wp2_with fail
    have e1 : (⟨#[32]⟩ : ByteArray).size = 1 := rfl
    have lT : (Wd ++ ((⟨#[32]⟩ : ByteArray) ++ A)).size ≤ 30 := by rw [ByteArray.size_append, ByteArray.size_append, e1]; omega
    generalize hT1 : (Wd ++ ((⟨#[32]⟩ : ByteArray) ++ A)) = T1 at *
    replace hT1 := Lib.hid hT1
    have k2 := cell_regrown c2
    have k6 := cell_regrown t2
    have cB : ∀ d os, Calls Tryd.prog 30 #[.int .i64 b] (grow (redrawn w3 d) os) fun e w'' => e = .returned (.string B) ∧ ∃ p : Regrown, w'' = grow (redrawn w3 p.d) p.os := fun d os => Calls.regrown_of (HB.out _ (tab_below ht3 (below_regrown w3 d os)))
    have m1 : ¬ 9223372036854775807 < M.size + B.size := by omega
    have m2 : ¬ 9223372036854775807 < T1.size + (M.size + B.size) := by omega
    refine wp_region_quiet_below (by kernel_rfl) (by kernel_rfl) ?_
    repeat (first | go_big_quiet_step (first | with_reducible exact cB _ _) | quiet_step (fail))
    refine wpQuiet_nil ?_
    intro w4 hw'
    replace hw' := below_regrown' hw'
    have hs4 := hs3.later hw'
    have ht4 := tab_below ht3 hw'
    clear hs3 ht3 k2 k6 cB m1 m2 hw' c0 c1 c2 c3 t0 t1 t2 t3 HB
    obtain ⟨c0, c1, c2, c3, t0, t1, t2, t3⟩ := text_cells hs4
    go_wp2_with fail
    go_ret
    refine ⟨ret_string ?_, hs4.below⟩
    rw [hT.out, hA, hB, hK, ← hT1.out] <;> simp only [if_true, if_false, app_no, Bool.false_eq_true]
  · rw [hA] at x1; rw [hK] at x3
    have hs2 := hs1.alloc #[.string Wd, .bool true, .string noS, .bool true] 48
    have ht2 := tab_below htab hs2.below
    clear hs1
    go_wp2_with fail
    refine (HA.out _ ht2).mono ?_
    rintro e w3 ⟨rfl, hb3⟩
    have hs3 := hs2.later hb3
    have ht3 := tab_below ht2 hb3
    clear hb3 hs2 ht2 y0 y1 y2 y3 x0 x1 x2 x3 HA
    obtain ⟨c0, c1, c2, c3, t0, t1, t2, t3⟩ := text_cells hs3
    have n1 : ¬ 9223372036854775807 < 1 + A.size := by omega
    have n2 : ¬ 9223372036854775807 < Wd.size + (1 + A.size) := by omega
    go_wp2_with fail
    refine (HK.out _ ht3).mono ?_
    rintro e w5 ⟨rfl, hb5⟩
    have hs5 := hs3.later hb5
    clear hb5
    have o1 : ¬ 9223372036854775807 < 1 + K.size := by omega
    have o2 : ¬ 9223372036854775807 < (Wd.size + (1 + A.size)) + (1 + K.size) := by omega
    go_wp2_with fail
    go_ret
    refine ⟨ret_string ?_, hs5.below⟩
    rw [hT.out, hA, hB, hK] <;> simp only [if_true, if_false, app_no, Bool.false_eq_true]
  · rw [hA] at x1; rw [hK] at x3
    have hs2 := hs1.alloc #[.string Wd, .bool true, .string M, .bool true] 48
    have ht2 := tab_below htab hs2.below
    clear hs1
    go_wp2_with fail
    refine (HA.out _ ht2).mono ?_
    rintro e w3 ⟨rfl, hb3⟩
    have hs3 := hs2.later hb3
    have ht3 := tab_below ht2 hb3
    clear hb3 hs2 ht2 y0 y1 y2 y3 x0 x1 x2 x3 HA
    obtain ⟨c0, c1, c2, c3, t0, t1, t2, t3⟩ := text_cells hs3
    have n1 : ¬ 9223372036854775807 < 1 + A.size := by omega
    have n2 : ¬ 9223372036854775807 < Wd.size + (1 + A.size) := by omega
    go_wp2_with fail
    have e1 : (⟨#[32]⟩ : ByteArray).size = 1 := rfl
    have lT : (Wd ++ ((⟨#[32]⟩ : ByteArray) ++ A)).size ≤ 30 := by rw [ByteArray.size_append, ByteArray.size_append, e1]; omega
    generalize hT1 : (Wd ++ ((⟨#[32]⟩ : ByteArray) ++ A)) = T1 at *
    replace hT1 := Lib.hid hT1
    have k2 := cell_regrown c2
    have k6 := cell_regrown t2
    have cB : ∀ d os, Calls Tryd.prog 30 #[.int .i64 b] (grow (redrawn w3 d) os) fun e w'' => e = .returned (.string B) ∧ ∃ p : Regrown, w'' = grow (redrawn w3 p.d) p.os := fun d os => Calls.regrown_of (HB.out _ (tab_below ht3 (below_regrown w3 d os)))
    have m1 : ¬ 9223372036854775807 < M.size + B.size := by omega
    have m2 : ¬ 9223372036854775807 < T1.size + (M.size + B.size) := by omega
    refine wp_region_quiet_below (by kernel_rfl) (by kernel_rfl) ?_
    repeat (first | go_big_quiet_step (first | with_reducible exact cB _ _) | quiet_step (fail))
    refine wpQuiet_nil ?_
    intro w4 hw'
    replace hw' := below_regrown' hw'
    have hs4 := hs3.later hw'
    have ht4 := tab_below ht3 hw'
    clear hs3 ht3 k2 k6 cB m1 m2 hw' c0 c1 c2 c3 t0 t1 t2 t3 HB
    obtain ⟨c0, c1, c2, c3, t0, t1, t2, t3⟩ := text_cells hs4
    generalize hT2 : T1 ++ (M ++ B) = T2 at *
    have lT2 : T2.size ≤ 60 := by rw [← hT2]; simp [ByteArray.size_append]; omega
    replace hT2 := Lib.hid hT2
    go_wp2_with fail
    refine (HK.out _ ht4).mono ?_
    rintro e w5 ⟨rfl, hb5⟩
    have hs5 := hs4.later hb5
    clear hb5
    have o1 : ¬ 9223372036854775807 < 1 + K.size := by omega
    have o2 : ¬ 9223372036854775807 < T2.size + (1 + K.size) := by omega
    go_wp2_with fail
    go_ret
    refine ⟨ret_string ?_, hs5.below⟩
    rw [hT.out, hA, hB, hK, ← hT2.out, ← hT1.out] <;> simp only [if_true, if_false, app_no, Bool.false_eq_true]
end Go.Proofs.YtokfecbjkngpgaaDoor
