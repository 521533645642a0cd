/- The document's Clean and Right of a record; of what was in memory nothing is changed. -/
import Derived.Test.YtokfecbjkngpgaaDoorRec4
namespace Go.Proofs.YtokfecbjkngpgaaDoor
open Go.RowKit Go.Sort Go.Lib

theorem word_some (n : Nat) (hn : n ≤ 10) : (bs (Rec.word n)).toList.isEmpty = false := by
  rw [ByteArray.toList_eq]
  rcases ten_cases hn with rfl | rfl | rfl | rfl | rfl | rfl | rfl | rfl | rfl | rfl | rfl <;> rfl
set_option maxHeartbeats 4000000 in
set_option maxRecDepth 100000 in
theorem refClean_in (n : Nat) (hn : n ≤ 10) (a b k : Int) (w : World) :
    Calls Tryd.prog 14 #[recV ⟨n, a, b, k⟩] w fun e w' => e = .returned (recV (Rec.clean ⟨n, a, b, k⟩)) ∧ Below w.heap.size w w' := by
  have hE := Lib.hid (clean_in hn a b k)
  have hw := word_some n hn
  have HW := Lib.hid (refWord_in n hn)
  have HA := Lib.hid (refA_in n hn)
  have HB := Lib.hid (refB_in n hn)
  have HK := Lib.hid (refK_in n hn)
  generalize Rec.clean ⟨(n : Int), a, b, k⟩ = c at *
  generalize bs (Rec.word n) = Wd at *
  have hs0 := (((Stage.start w).alloc #[.int .i64 n, .int .u32 a, .int .u32 b, .int .i64 k] 24).alloc #[.int .i64 0, .int .u32 0, .int .u32 0, .int .i64 0] 24).alloc #[.int .i64 0, .int .u32 0, .int .u32 0, .int .i64 0] 24
  go_enter Tryd.func14, Tryd.ntmps14
  go_wp2_with fail
  refine (HW.out _).mono ?_
  rintro e w1 ⟨rfl, hb1⟩
  have hs1 := hs0.later hb1
  clear hs0 hb1 HW
  simp only [World.size_alloc] at hs1
  have e0 : w.heap.size ≤ w.heap.size + 1 ∧ w.heap.size ≤ w.heap.size + 1 + 1 := by omega
  have e1 : w.heap.size + 1 ≠ w.heap.size := by omega
  have e2 : w.heap.size + 1 + 1 ≠ w.heap.size := by omega
  have e3 : w.heap.size + 1 + 1 ≠ w.heap.size + 1 := by omega
  have g1 : w.heap.size < w1.heap.size := hs1.lt 0 rfl
  have g2 : w.heap.size + 1 < w1.heap.size := hs1.lt 1 rfl
  have g3 : w.heap.size + 1 + 1 < w1.heap.size := hs1.lt 2 rfl
  generalize w.heap.size + 1 + 1 = q at *
  generalize w.heap.size + 1 = p at *
  have c0 : w1.cell? ⟨w.heap.size, 0, none⟩ = some (.int .i64 n) := hs1.cell 0 rfl rfl
  have c1 : w1.cell? ⟨w.heap.size, 1, none⟩ = some (.int .u32 a) := hs1.cell 0 rfl rfl
  have c2 : w1.cell? ⟨w.heap.size, 2, none⟩ = some (.int .u32 b) := hs1.cell 0 rfl rfl
  have c3 : w1.cell? ⟨w.heap.size, 3, none⟩ = some (.int .i64 k) := hs1.cell 0 rfl rfl
  have d0 : w1.cell? ⟨p, 0, none⟩ = some (.int .i64 0) := hs1.cell 1 rfl rfl
  have d1 : w1.cell? ⟨p, 1, none⟩ = some (.int .u32 0) := hs1.cell 1 rfl rfl
  have d2 : w1.cell? ⟨p, 2, none⟩ = some (.int .u32 0) := hs1.cell 1 rfl rfl
  have d3 : w1.cell? ⟨p, 3, none⟩ = some (.int .i64 0) := hs1.cell 1 rfl rfl
  have f0 := hs1.free 1 rfl 0
  have f1 := hs1.free 1 rfl 1
  have f2 := hs1.free 1 rfl 2
  have f3 := hs1.free 1 rfl 3
  have x0 : w1.cell? ⟨q, 0, none⟩ = some (.int .i64 0) := hs1.cell 2 rfl rfl
  have x1 : w1.cell? ⟨q, 1, none⟩ = some (.int .u32 0) := hs1.cell 2 rfl rfl
  have x2 : w1.cell? ⟨q, 2, none⟩ = some (.int .u32 0) := hs1.cell 2 rfl rfl
  have x3 : w1.cell? ⟨q, 3, none⟩ = some (.int .i64 0) := hs1.cell 2 rfl rfl
  have i0 := hs1.free 2 rfl 0
  have i1 := hs1.free 2 rfl 1
  have i2 := hs1.free 2 rfl 2
  have i3 := hs1.free 2 rfl 3
  have hl := e0
  clear e0
  have HS := Lib.hid hs1.below
  clear hs1
  cases hA : Rec.hA n <;> cases hB : Rec.hB n <;> cases hK : Rec.hK n <;> rw [hA] at HA <;> rw [hB] at HB <;> rw [hK] at HK
  all_goals
    go_wp2_with (first | (go_at_call 27; refine (HA.out _).mono ?_; rintro e w' ⟨rfl, rfl⟩) | (go_at_call 28; refine (HB.out _).mono ?_; rintro e w' ⟨rfl, rfl⟩) | (go_at_call 29; refine (HK.out _).mono ?_; rintro e w' ⟨rfl, rfl⟩))
    refine bodyPost_ret (v := recV c) (by rw [hE.out]; simp [results, Tryd.results14, go_sem, hA, hB, hK, d0, d1, d2, d3, g2]) rfl ⟨rfl, ?_⟩
    repeat (first | refine Below.setCell ?_ hl.1 _ | refine Below.setCell ?_ hl.2 _)
    with_reducible exact HS.out
theorem refClean_out (o : Int) (ho : ¬ (0 ≤ o ∧ o ≤ 10)) (a b k : Int) (w : World) :
    Calls Tryd.prog 14 #[recV ⟨o, a, b, k⟩] w fun e w' => e = .returned (recV (Rec.clean ⟨o, a, b, k⟩)) ∧ Below w.heap.size w w' := by
  have hE := Lib.hid (clean_out ho a b k)
  have HW := Lib.hid (refWord_out o ho)
  generalize Rec.clean ⟨o, a, b, k⟩ = c at *
  go_enter Tryd.func14, Tryd.ntmps14
  go_wp2_with (go_at_call 26; refine (HW.out _).mono ?_; rintro e w' ⟨rfl, rfl⟩)
  refine bodyPost_ret (v := recV c) (by rw [hE.out]; simp [results, Tryd.results14, go_sem]) rfl ⟨rfl, ?_⟩
  exact (((Below.refl _ _).alloc (Nat.le_refl _) _).alloc (by simp) _).alloc (by simp; omega) _
theorem refClean_any (r : Rec.R) (w : World) :
    Calls Tryd.prog 14 #[recV r] w fun e w' => e = .returned (recV (Rec.clean r)) ∧ Below w.heap.size w w' := by
  rcases r with ⟨o, a, b, k⟩
  by_cases ho : 0 ≤ o ∧ o ≤ 10
  · obtain ⟨n, rfl⟩ : ∃ n : Nat, o = (n : Int) := ⟨o.toNat, by omega⟩
    exact refClean_in n (by omega) a b k w
  · exact refClean_out o ho a b k w
end Go.Proofs.YtokfecbjkngpgaaDoor
