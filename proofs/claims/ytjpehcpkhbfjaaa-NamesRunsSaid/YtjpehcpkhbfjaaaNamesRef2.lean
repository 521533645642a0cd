/- The document's Join. -/
import Derived.Test.YtjpehcpkhbfjaaaNamesRef
namespace Go.Proofs.Ytjpehcpkhbfjaaa
open Go.RowKit Go.Sort

theorem info_pair : (Try.prog.info? 53).map (fun i => (i.zero, i.size, i.bytes)) = some (some (.agg #[.int .i64 0, .int .i64 0]), 2, 16) := by kernel_rfl
theorem pairs_one (J : List (Nat × Nat)) : ∀ u ∈ cellsBy pairC J, u.oneCell' = true := by
  intro u hu
  unfold cellsBy at hu
  rw [List.mem_flatMap] at hu
  obtain ⟨p, _, hp⟩ := hu
  simp only [pairC, List.mem_cons, List.not_mem_nil, or_false] at hp
  rcases hp with rfl | rfl <;> rfl
theorem refjoin_no (B most last : Nat) (hl : last ≤ 65536) (jv : Value) (n : Nat) (J : List (Nat × Nat)) (a b : Int) (hj : (decide (a ≠ b) && (hasJ J last a && hasJ J last b)) = false) (w : World) (h : PRow w B jv n J) :
    Calls Try.prog 15 #[RV most last jv, .int .i64 a, .int .i64 b] w fun e w' => e = .returned (.tuple #[RV most last jv, .bool false]) ∧ Below w.heap.size w w' := by
  have hA := fun w h => refhas_any B most last hl jv n J a w h
  have hB := fun w h => refhas_any B most last hl jv n J b w h
  obtain ⟨ja, jc, rfl, hc, hm⟩ := h.form
  cases h1 : hasJ J last a
  · rw [h1] at hA
    clear hB hj h1
    go_enter Try.func15, Try.ntmps15
    go_wp2_with fail
    have hs : Scene w [Ob.box w.heap.size #[.int .i64 most, .int .i64 last, .slice ja n jc] 32, Ob.box (w.heap.size + 1) #[.int .i64 0, .int .i64 0, .slice none 0 0] 32] ((w.alloc (.cells #[.int .i64 most, .int .i64 last, .slice ja n jc] 32)).alloc (.cells #[.int .i64 0, .int .i64 0, .slice none 0 0] 32)) := ((Scene.start w).alloc _ _).alloc' _ _ (size_alloc _ _)
    generalize ((w.alloc (.cells #[.int .i64 most, .int .i64 last, .slice ja n jc] 32)).alloc (.cells #[.int .i64 0, .int .i64 0, .slice none 0 0] 32)) = V at *
    have hq : w.heap.size ≠ w.heap.size + 1 := by omega
    generalize hq1 : w.heap.size + 1 = q1 at *
    have k0 : V.cell? ⟨w.heap.size, 0, none⟩ = some (.int .i64 most) := hs.cell 0 rfl rfl
    have k1 : V.cell? ⟨w.heap.size, 1, none⟩ = some (.int .i64 last) := hs.cell 0 rfl rfl
    have k2 : V.cell? ⟨w.heap.size, 2, none⟩ = some (.slice ja n jc) := hs.cell 0 rfl rfl
    have m0 : V.cell? ⟨q1, 0, none⟩ = some (.int .i64 0) := hs.cell 1 rfl rfl
    have m1 : V.cell? ⟨q1, 1, none⟩ = some (.int .i64 0) := hs.cell 1 rfl rfl
    have m2 : V.cell? ⟨q1, 2, none⟩ = some (.slice none 0 0) := hs.cell 1 rfl rfl
    have f0 := hs.free 1 rfl 0
    have f1 := hs.free 1 rfl 1
    have f2 := hs.free 1 rfl 2
    refine (hA _ (h.later hs.below)).mono ?_
    rintro e w1 ⟨rfl, hbA⟩
    replace hs := hs.later hbA
    have k0 : w1.cell? ⟨w.heap.size, 0, none⟩ = some (.int .i64 most) := hs.cell 0 rfl rfl
    have k1 : w1.cell? ⟨w.heap.size, 1, none⟩ = some (.int .i64 last) := hs.cell 0 rfl rfl
    have k2 : w1.cell? ⟨w.heap.size, 2, none⟩ = some (.slice ja n jc) := hs.cell 0 rfl rfl
    have m0 : w1.cell? ⟨q1, 0, none⟩ = some (.int .i64 0) := hs.cell 1 rfl rfl
    have m1 : w1.cell? ⟨q1, 1, none⟩ = some (.int .i64 0) := hs.cell 1 rfl rfl
    have m2 : w1.cell? ⟨q1, 2, none⟩ = some (.slice none 0 0) := hs.cell 1 rfl rfl
    have f0 := hs.free 1 rfl 0
    have f1 := hs.free 1 rfl 1
    have f2 := hs.free 1 rfl 2
    clear hA
    go_wp2_with fail
    exact bodyPost_ret (v := .tuple #[.agg #[.int .i64 most, .int .i64 last, .slice ja n jc], .bool false]) (by simp [results, Try.results15, go_sem, k0, k1, k2, m0, m1, m2, hq, Ne.symm hq]) rfl ⟨rfl, (((hs.store 1 rfl 0 _).store 1 rfl 1 _).store 1 rfl 2 _).below⟩
  · cases h2 : hasJ J last b
    · rw [h1] at hA
      rw [h2] at hB
      clear hj h1 h2
      go_enter Try.func15, Try.ntmps15
      go_wp2_with fail
      have hs : Scene w [Ob.box w.heap.size #[.int .i64 most, .int .i64 last, .slice ja n jc] 32, Ob.box (w.heap.size + 1) #[.int .i64 0, .int .i64 0, .slice none 0 0] 32] ((w.alloc (.cells #[.int .i64 most, .int .i64 last, .slice ja n jc] 32)).alloc (.cells #[.int .i64 0, .int .i64 0, .slice none 0 0] 32)) := ((Scene.start w).alloc _ _).alloc' _ _ (size_alloc _ _)
      generalize ((w.alloc (.cells #[.int .i64 most, .int .i64 last, .slice ja n jc] 32)).alloc (.cells #[.int .i64 0, .int .i64 0, .slice none 0 0] 32)) = V at *
      have hq : w.heap.size ≠ w.heap.size + 1 := by omega
      generalize hq1 : w.heap.size + 1 = q1 at *
      refine (hA _ (h.later hs.below)).mono ?_
      rintro e w1 ⟨rfl, hbA⟩
      replace hs := hs.later hbA
      have k0 : w1.cell? ⟨w.heap.size, 0, none⟩ = some (.int .i64 most) := hs.cell 0 rfl rfl
      have k1 : w1.cell? ⟨w.heap.size, 1, none⟩ = some (.int .i64 last) := hs.cell 0 rfl rfl
      have k2 : w1.cell? ⟨w.heap.size, 2, none⟩ = some (.slice ja n jc) := hs.cell 0 rfl rfl
      have m0 : w1.cell? ⟨q1, 0, none⟩ = some (.int .i64 0) := hs.cell 1 rfl rfl
      have m1 : w1.cell? ⟨q1, 1, none⟩ = some (.int .i64 0) := hs.cell 1 rfl rfl
      have m2 : w1.cell? ⟨q1, 2, none⟩ = some (.slice none 0 0) := hs.cell 1 rfl rfl
      have f0 := hs.free 1 rfl 0
      have f1 := hs.free 1 rfl 1
      have f2 := hs.free 1 rfl 2
      go_wp2_with fail
      refine (hB _ (h.later hs.below)).mono ?_
      rintro e w2 ⟨rfl, hbB⟩
      replace hs := hs.later hbB
      have k0 : w2.cell? ⟨w.heap.size, 0, none⟩ = some (.int .i64 most) := hs.cell 0 rfl rfl
      have k1 : w2.cell? ⟨w.heap.size, 1, none⟩ = some (.int .i64 last) := hs.cell 0 rfl rfl
      have k2 : w2.cell? ⟨w.heap.size, 2, none⟩ = some (.slice ja n jc) := hs.cell 0 rfl rfl
      have m0 : w2.cell? ⟨q1, 0, none⟩ = some (.int .i64 0) := hs.cell 1 rfl rfl
      have m1 : w2.cell? ⟨q1, 1, none⟩ = some (.int .i64 0) := hs.cell 1 rfl rfl
      have m2 : w2.cell? ⟨q1, 2, none⟩ = some (.slice none 0 0) := hs.cell 1 rfl rfl
      have f0 := hs.free 1 rfl 0
      have f1 := hs.free 1 rfl 1
      have f2 := hs.free 1 rfl 2
      clear hA hB
      go_wp2_with fail
      exact bodyPost_ret (v := .tuple #[.agg #[.int .i64 most, .int .i64 last, .slice ja n jc], .bool false]) (by simp [results, Try.results15, go_sem, k0, k1, k2, m0, m1, m2, hq, Ne.symm hq]) rfl ⟨rfl, (((hs.store 1 rfl 0 _).store 1 rfl 1 _).store 1 rfl 2 _).below⟩
    · obtain rfl : a = b := by simpa [h1, h2] using hj
      rw [h1] at hA
      clear hj h1 h2 hB
      go_enter Try.func15, Try.ntmps15
      go_wp2_with fail
      have hs : Scene w [Ob.box w.heap.size #[.int .i64 most, .int .i64 last, .slice ja n jc] 32, Ob.box (w.heap.size + 1) #[.int .i64 0, .int .i64 0, .slice none 0 0] 32] ((w.alloc (.cells #[.int .i64 most, .int .i64 last, .slice ja n jc] 32)).alloc (.cells #[.int .i64 0, .int .i64 0, .slice none 0 0] 32)) := ((Scene.start w).alloc _ _).alloc' _ _ (size_alloc _ _)
      generalize ((w.alloc (.cells #[.int .i64 most, .int .i64 last, .slice ja n jc] 32)).alloc (.cells #[.int .i64 0, .int .i64 0, .slice none 0 0] 32)) = V at *
      have hq : w.heap.size ≠ w.heap.size + 1 := by omega
      generalize hq1 : w.heap.size + 1 = q1 at *
      refine (hA _ (h.later hs.below)).mono ?_
      rintro e w1 ⟨rfl, hbA⟩
      replace hs := hs.later hbA
      have k0 : w1.cell? ⟨w.heap.size, 0, none⟩ = some (.int .i64 most) := hs.cell 0 rfl rfl
      have k1 : w1.cell? ⟨w.heap.size, 1, none⟩ = some (.int .i64 last) := hs.cell 0 rfl rfl
      have k2 : w1.cell? ⟨w.heap.size, 2, none⟩ = some (.slice ja n jc) := hs.cell 0 rfl rfl
      have m0 : w1.cell? ⟨q1, 0, none⟩ = some (.int .i64 0) := hs.cell 1 rfl rfl
      have m1 : w1.cell? ⟨q1, 1, none⟩ = some (.int .i64 0) := hs.cell 1 rfl rfl
      have m2 : w1.cell? ⟨q1, 2, none⟩ = some (.slice none 0 0) := hs.cell 1 rfl rfl
      have f0 := hs.free 1 rfl 0
      have f1 := hs.free 1 rfl 1
      have f2 := hs.free 1 rfl 2
      go_wp2_with fail
      refine (hA _ (h.later hs.below)).mono ?_
      rintro e w2 ⟨rfl, hbA⟩
      replace hs := hs.later hbA
      have k0 : w2.cell? ⟨w.heap.size, 0, none⟩ = some (.int .i64 most) := hs.cell 0 rfl rfl
      have k1 : w2.cell? ⟨w.heap.size, 1, none⟩ = some (.int .i64 last) := hs.cell 0 rfl rfl
      have k2 : w2.cell? ⟨w.heap.size, 2, none⟩ = some (.slice ja n jc) := hs.cell 0 rfl rfl
      have m0 : w2.cell? ⟨q1, 0, none⟩ = some (.int .i64 0) := hs.cell 1 rfl rfl
      have m1 : w2.cell? ⟨q1, 1, none⟩ = some (.int .i64 0) := hs.cell 1 rfl rfl
      have m2 : w2.cell? ⟨q1, 2, none⟩ = some (.slice none 0 0) := hs.cell 1 rfl rfl
      have f0 := hs.free 1 rfl 0
      have f1 := hs.free 1 rfl 1
      have f2 := hs.free 1 rfl 2
      clear hA
      go_wp2_with fail
      exact bodyPost_ret (v := .tuple #[.agg #[.int .i64 most, .int .i64 last, .slice ja n jc], .bool false]) (by simp [results, Try.results15, go_sem, k0, k1, k2, m0, m1, m2, hq, Ne.symm hq]) rfl ⟨rfl, (((hs.store 1 rfl 0 _).store 1 rfl 1 _).store 1 rfl 2 _).below⟩
theorem refjoin_yes (B most last : Nat) (hl : last ≤ 65536) (jv : Value) (n : Nat) (hn79 : n < 80) (J : List (Nat × Nat)) (a b : Nat) (hab : a ≠ b) (ha : hasJ J last a = true) (hb : hasJ J last b = true) (w : World) (h : PRow w B jv n J) :
    Calls Try.prog 15 #[RV most last jv, .int .i64 a, .int .i64 b] w fun e w' => ∃ va vc, e = .returned (.tuple #[RV most last (.slice va (n + 1) vc), .bool true]) ∧ Below w.heap.size w w' ∧ PRow w' w.heap.size (.slice va (n + 1) vc) (n + 1) (J ++ [(a, b)]) := by
  have hA := fun w h => refhas_any B most last hl jv n J a w h
  have hB := fun w h => refhas_any B most last hl jv n J b w h
  rw [ha] at hA
  rw [hb] at hB
  obtain ⟨ja, jc, rfl, hc, hm⟩ := h.form
  obtain ⟨i0, hi0, hz0, hz1, hz2⟩ := info_parts info_pair
  have hab' : ((a : Int) == b) = false := by simp; omega
  clear ha hb hab
  go_enter Try.func15, Try.ntmps15
  go_wp2_with fail
  have hs : Scene w [Ob.box w.heap.size #[.int .i64 most, .int .i64 last, .slice ja n jc] 32, Ob.box (w.heap.size + 1) #[.int .i64 0, .int .i64 0, .slice none 0 0] 32] ((w.alloc (.cells #[.int .i64 most, .int .i64 last, .slice ja n jc] 32)).alloc (.cells #[.int .i64 0, .int .i64 0, .slice none 0 0] 32)) := ((Scene.start w).alloc _ _).alloc' _ _ (size_alloc _ _)
  generalize ((w.alloc (.cells #[.int .i64 most, .int .i64 last, .slice ja n jc] 32)).alloc (.cells #[.int .i64 0, .int .i64 0, .slice none 0 0] 32)) = V at *
  have hq : w.heap.size ≠ w.heap.size + 1 := by omega
  generalize hq1 : w.heap.size + 1 = q1 at *
  refine (hA _ (h.later hs.below)).mono ?_
  rintro e w1 ⟨rfl, hbA⟩
  replace hs := hs.later hbA
  have k0 : w1.cell? ⟨w.heap.size, 0, none⟩ = some (.int .i64 most) := hs.cell 0 rfl rfl
  have k1 : w1.cell? ⟨w.heap.size, 1, none⟩ = some (.int .i64 last) := hs.cell 0 rfl rfl
  have k2 : w1.cell? ⟨w.heap.size, 2, none⟩ = some (.slice ja n jc) := hs.cell 0 rfl rfl
  have m0 : w1.cell? ⟨q1, 0, none⟩ = some (.int .i64 0) := hs.cell 1 rfl rfl
  have m1 : w1.cell? ⟨q1, 1, none⟩ = some (.int .i64 0) := hs.cell 1 rfl rfl
  have m2 : w1.cell? ⟨q1, 2, none⟩ = some (.slice none 0 0) := hs.cell 1 rfl rfl
  have f0 := hs.free 1 rfl 0
  have f1 := hs.free 1 rfl 1
  have f2 := hs.free 1 rfl 2
  go_wp2_with fail
  refine (hB _ (h.later hs.below)).mono ?_
  rintro e w2 ⟨rfl, hbB⟩
  replace hs := hs.later hbB
  have k0 : w2.cell? ⟨w.heap.size, 0, none⟩ = some (.int .i64 most) := hs.cell 0 rfl rfl
  have k1 : w2.cell? ⟨w.heap.size, 1, none⟩ = some (.int .i64 last) := hs.cell 0 rfl rfl
  have k2 : w2.cell? ⟨w.heap.size, 2, none⟩ = some (.slice ja n jc) := hs.cell 0 rfl rfl
  have m0 : w2.cell? ⟨q1, 0, none⟩ = some (.int .i64 0) := hs.cell 1 rfl rfl
  have m1 : w2.cell? ⟨q1, 1, none⟩ = some (.int .i64 0) := hs.cell 1 rfl rfl
  have m2 : w2.cell? ⟨q1, 2, none⟩ = some (.slice none 0 0) := hs.cell 1 rfl rfl
  have f0 := hs.free 1 rfl 0
  have f1 := hs.free 1 rfl 1
  have f2 := hs.free 1 rfl 2
  clear hA hB
  have h2 := h.later hs.below
  have l0 : w.heap.size < w2.heap.size := hs.lt 0 rfl
  have l1 : q1 < w2.heap.size := hs.lt 1 rfl
  have hsz : w.heap.size ≤ w2.heap.size := hs.size
  replace hs := hs.emptyRow w.heap.size hsz 53 2
  have h3 := h.later hs.below
  have ho := hs.owns 2 rfl
  have hn' : n ≤ 80 := h.2.2
  go_wp2_with (at_builtin; refine wpList_append_any _ rfl _ _ 30 rfl w.heap.size 53 i0 (.agg #[.int .i64 0, .int .i64 0]) 2 16 Try.underlying30 hi0 hz0 hz1 hz2 rfl (by decide) _ 0 [] rfl ho (.slice ja n jc) n (cellsBy pairC J) rfl (reads_own h3.1) (pairs_one J) ?c1 ?c2 hs.size ?_)
  case c1 => unfold maxLen; omega
  case c2 => omega
  intro v1 w3 hown hgrow hlies
  replace hs := hs.grown 2 rfl hown hgrow hlies
  clear hown hgrow hlies h2 h3 ho
  have k2' : w3.cell? ⟨w.heap.size, 2, none⟩ = some (.slice ja n jc) := hs.cell 0 rfl rfl
  have l1' : q1 < w3.heap.size := hs.lt 1 rfl
  have l0' : w.heap.size < w3.heap.size := hs.lt 0 rfl
  have kf := hs.free 0 rfl 2
  replace hs := hs.alloc #[.int .i64 a, .int .i64 b] 53
  have ho := hs.owns 2 rfl
  go_wp2_with (at_builtin; refine wpList_append_any _ rfl _ _ 30 rfl w.heap.size 53 i0 (.agg #[.int .i64 0, .int .i64 0]) 2 16 Try.underlying30 hi0 hz0 hz1 hz2 rfl (by decide) v1 n (cellsBy pairC J) rfl ho _ 1 [.int .i64 a, .int .i64 b] rfl (reads_new w3 #[.int .i64 a, .int .i64 b] _ 2 1 _ rfl rfl) ?d1 ?d2 ?d3 hs.size ?_)
  case d1 => intro u hu; simp at hu; rcases hu with rfl | rfl <;> rfl
  case d2 => unfold maxLen; omega
  case d3 => omega
  intro v2 w4 hown hgrow hlies
  replace hs := hs.grown 2 rfl hown hgrow hlies
  obtain ⟨va, vc, rfl, _, _⟩ := owns_form hown
  clear hown hgrow hlies ho
  have k0 : w4.cell? ⟨w.heap.size, 0, none⟩ = some (.int .i64 most) := hs.cell 0 rfl rfl
  have k1 : w4.cell? ⟨w.heap.size, 1, none⟩ = some (.int .i64 last) := hs.cell 0 rfl rfl
  have k2 : w4.cell? ⟨w.heap.size, 2, none⟩ = some (.slice ja n jc) := hs.cell 0 rfl rfl
  have m0 : w4.cell? ⟨q1, 0, none⟩ = some (.int .i64 0) := hs.cell 1 rfl rfl
  have m1 : w4.cell? ⟨q1, 1, none⟩ = some (.int .i64 0) := hs.cell 1 rfl rfl
  have m2 : w4.cell? ⟨q1, 2, none⟩ = some (.slice none 0 0) := hs.cell 1 rfl rfl
  have f0 := hs.free 1 rfl 0
  have f1 := hs.free 1 rfl 1
  have f2 := hs.free 1 rfl 2
  have kf := hs.free 0 rfl 2
  go_wp2_with fail
  replace hs := (((hs.store 0 rfl 2 (.slice va (n + 1) vc)).store 1 rfl 0 (.int .i64 most)).store 1 rfl 1 (.int .i64 last)).store 1 rfl 2 (.slice va (n + 1) vc)
  have ho := hs.owns 2 rfl
  have hJ : cellsBy pairC (J ++ [(a, b)]) = cellsBy pairC J ++ [.int .i64 a, .int .i64 b] := by rw [cellsBy_append, cellsBy_one]; rfl
  refine bodyPost_ret (v := .tuple #[.agg #[.int .i64 most, .int .i64 last, .slice va (n + 1) vc], .bool true]) (by simp [results, Try.results15, go_sem, k0, k1, k2, m0, m1, m2, hq, Ne.symm hq]) rfl ⟨va, vc, rfl, hs.below, ⟨by rw [hJ]; exact ho, by rw [List.length_append, h.2.1]; rfl, by omega⟩⟩
end Go.Proofs.Ytjpehcpkhbfjaaa
