/- What the statements' same and spineAlive return; SpineNew, walked: the call returns true, in every memory; of what was in memory nothing is changed. -/
import Derived.Test.YtkagchnhjjcgbaaSpineDo
namespace Go.Proofs.Ytkagchnhjjcgbaa
open Go.RowKit Go.Sort

section
variable {v : Value} {n p : Nat} {L : List Hg}
set_option maxRecDepth 100000 in
/-- Where a thing is, is told alike. -/
theorem same_tr {F0 : Nat → Prop} {W w : World} {l : List Ob} (hs : Stage F0 W l w) (i j : Nat) (hi : l[i]? = some (Ob.spine p n L)) (hj : l[j]? = some (Ob.doc v L)) (x : Int) :
    Calls Try.prog 16 #[ptrV p, .agg #[.int .i64 n, v], .int .i64 x] w fun e w' => e = .returned (.bool true) ∧ Below w.heap.size w w' := by
  obtain ⟨I, hn⟩ := hs.spineInv i hi
  have hd := hs.docAt j hj
  obtain ⟨F, v0, I2, hn2, hg⟩ := hs.get hi
  have hL := fun wr (hb : Below w.heap.size w wr) => sp_left (q := []) ((Ob.group.open hg).later hb) I hn x
  have hR := fun wr (hb : Below w.heap.size w wr) => sp_right (q := []) ((Ob.group.open hg).later hb) I hn x
  have hU := fun wr (hb : Below w.heap.size w wr) => sp_up (q := []) ((Ob.group.open hg).later hb) I hn x
  have hO := fun wr (hb : Below w.heap.size w wr) => root_sp (F := F) x ((Ob.spine p n L).keeps (w := w) (w' := wr) ⟨v0, I2, hn2, hg⟩ (Keeps.of_below_all hb (fun _ => False)) (fun _ _ x => x))
  have hK := fun wr (hb : Below w.heap.size w wr) r => rkid_any n x r (hd.later hb)
  have hV := fun wr (hb : Below w.heap.size w wr) => rup_any n x (hd.later hb)
  have hP := fun wr (hb : Below w.heap.size w wr) => rroot_any (n := n) hn x (hd.later hb)
  have hs1 := (Stage.start w).alloc #[.int .i64 n, v] docT
  have k0 := hs1.cell 0 rfl (o := 0) rfl
  have k1 := hs1.cell 0 rfl (o := 1) rfl
  clear hs I I2 hd hg
  generalize kidL L x = kid at *
  generalize upL L x = up at *
  generalize rootI n L x = rt at *
  generalize hasN n x = hh at *
  go_enter Try.func16, Try.ntmps16
  go_wp2_with fail
  refine (hL _ hs1.below).mono ?_
  rintro e w1 ⟨rfl, rfl⟩
  go_wp2_with fail
  refine (hR _ hs1.below).mono ?_
  rintro e w1 ⟨rfl, rfl⟩
  go_wp2_with fail
  refine (hU _ hs1.below).mono ?_
  rintro e w1 ⟨rfl, rfl⟩
  go_wp2_with fail
  refine (hO _ hs1.below).mono ?_
  rintro e w1 ⟨rfl, rfl⟩
  clear hL hR hU hO
  go_wp2_with fail
  refine (hK _ hs1.below false).mono ?_
  rintro e w1 ⟨rfl, hb⟩
  replace hs1 := hs1.later hb
  clear hb k0 k1
  have k0 := hs1.cell 0 rfl (o := 0) rfl
  have k1 := hs1.cell 0 rfl (o := 1) rfl
  go_wp2_with fail
  refine (hK _ hs1.below true).mono ?_
  rintro e w2 ⟨rfl, hb⟩
  replace hs1 := hs1.later hb
  clear hb k0 k1 hK
  have k0 := hs1.cell 0 rfl (o := 0) rfl
  have k1 := hs1.cell 0 rfl (o := 1) rfl
  go_wp2_with fail
  refine (hV _ hs1.below).mono ?_
  rintro e w3 ⟨rfl, hb⟩
  replace hs1 := hs1.later hb
  clear hb k0 k1 hV
  have k0 := hs1.cell 0 rfl (o := 0) rfl
  have k1 := hs1.cell 0 rfl (o := 1) rfl
  go_wp2_with fail
  refine (hP _ hs1.below).mono ?_
  rintro e w4 ⟨rfl, hb⟩
  replace hs1 := hs1.later hb
  clear hb k0 k1 hP
  go_wp2_with fail
  go_ret
  exact ⟨rfl, hs1.below⟩
end
set_option maxRecDepth 100000 in
theorem spineAlive_any (w : World) : Calls Try.prog 7 #[] w fun e w' => e = .returned (.bool true) ∧ Below w.heap.size w w' := by
  go_enter Try.func7, Try.ntmps7
  go_wp2_with fail
  refine ((Stage.start w).newSpine 3 (by omega)).mono ?_
  rintro e w1 ⟨p, rfl, hs⟩
  rw [List.nil_append] at hs
  have hA : ∀ L x a, aboveL L x a → ∀ d : Int → Nat, Dep L d → d a < d x → False := fun L x a h d D hl => by have := (D.above h).1; omega
  have ok1 : ¬ aboveL ([] : List Hg) 1 0 ∨ (1 : Int) = 0 := Or.inl fun h => by have := above_top (L := []) (x := 1) (y := 0) rfl h; omega
  have e1 : hangB 3 [] 0 1 false = true := by decide
  have e2 : hangL 3 [] 0 1 false = [⟨0, 1, false⟩] := by simp [hangL, e1]
  have c1 := hs.call 0 rfl (fun _ ho => hang_sp 0 1 false ok1 ho)
  rw [e1, e2] at c1
  go_wp2_with fail
  refine c1.mono ?_
  rintro e w2 ⟨rfl, hs⟩
  clear c1 e1 e2 ok1
  have ok2 : ¬ aboveL [(⟨0, 1, false⟩ : Hg)] 2 0 ∨ (2 : Int) = 0 := Or.inl fun h => by have := above_top (L := [⟨0, 1, false⟩]) (x := 2) (y := 0) rfl h; omega
  have e1 : hangB 3 [⟨0, 1, false⟩] 0 2 true = true := by decide
  have e2 : hangL 3 [⟨0, 1, false⟩] 0 2 true = [⟨0, 1, false⟩, ⟨0, 2, true⟩] := by simp [hangL, e1]
  have c1 := hs.call 0 rfl (fun _ ho => hang_sp 0 2 true ok2 ho)
  rw [e1, e2] at c1
  go_wp2_with fail
  refine c1.mono ?_
  rintro e w3 ⟨rfl, hs⟩
  clear c1 e1 e2 ok2 hA
  have a1 : allI 3 [⟨0, 1, false⟩, ⟨0, 2, true⟩] 0 = [0, 1, 2] := by decide
  have a2 : sideI 3 [⟨0, 1, false⟩, ⟨0, 2, true⟩] 0 = [0, 2] := by decide
  have c1 := hs.askNew (O' := fun v => Ob.ints v (allI 3 [⟨0, 1, false⟩, ⟨0, 2, true⟩] 0)) (r := fun v => v) 0 rfl (fun _ ho => all_sp 0 ho)
  rw [a1] at c1
  go_wp2_with fail
  refine c1.mono ?_
  rintro e w4 ⟨v1, rfl, hs⟩
  clear c1 a1
  have c1 := hs.askNew (O' := fun v => Ob.ints v (sideI 3 [⟨0, 1, false⟩, ⟨0, 2, true⟩] 0)) (r := fun v => v) 0 rfl (fun _ ho => spine_sp 0 ho)
  rw [a2] at c1
  go_wp2_with fail
  refine c1.mono ?_
  rintro e w5 ⟨v2, rfl, hs⟩
  clear c1 a2
  have a3 : hasN 3 0 = true := by decide
  have e2 : turnL [⟨0, 1, false⟩, ⟨0, 2, true⟩] 0 = [⟨0, 1, true⟩, ⟨0, 2, false⟩] := by simp [turnL]
  have c1 := hs.call 0 rfl (fun _ ho => turn_sp 0 ho)
  rw [a3, e2] at c1
  obtain ⟨x1, n1, y1, rfl⟩ : ∃ a n c, v1 = .slice a n c := (hs.intsForm 1 rfl).elim fun a h => h.elim fun c h => ⟨a, _, c, h.1⟩
  obtain ⟨x2, n2, y2, rfl⟩ : ∃ a n c, v2 = .slice a n c := (hs.intsForm 2 rfl).elim fun a h => h.elim fun c h => ⟨a, _, c, h.1⟩
  go_wp2_with fail
  refine c1.mono ?_
  rintro e w6 ⟨rfl, hs⟩
  clear c1 e2 a3
  replace hs := hs.newRow 3 1 3 #[.int .i64 0, .int .i64 1, .int .i64 2] rfl (by decide)
  replace hs : Stage (fun _ => False) w [Ob.spine p 3 [⟨0, 1, true⟩, ⟨0, 2, false⟩], Ob.ints (.slice x1 n1 y1) [0, 1, 2], Ob.ints (.slice x2 n2 y2) [0, 2], Ob.ints (.slice (some ⟨w6.heap.size, 0, none⟩) 3 3) [0, 1, 2]] _ := hs
  have c1 := same_any hs 1 3 rfl rfl
  rw [decide_eq_true (rfl : [(0 : Int), 1, 2] = [0, 1, 2])] at c1
  go_wp2_with fail
  refine c1.mono ?_
  rintro e w7 ⟨rfl, hb⟩
  replace hs := ((hs.later hb).take 3).newRow 3 1 2 #[.int .i64 0, .int .i64 2] rfl (by decide)
  replace hs : Stage (fun _ => False) w [Ob.spine p 3 [⟨0, 1, true⟩, ⟨0, 2, false⟩], Ob.ints (.slice x1 n1 y1) [0, 1, 2], Ob.ints (.slice x2 n2 y2) [0, 2], Ob.ints (.slice (some ⟨w7.heap.size, 0, none⟩) 2 2) [0, 2]] _ := hs
  clear c1 hb
  have c1 := same_any hs 2 3 rfl rfl
  rw [decide_eq_true (rfl : [(0 : Int), 2] = [0, 2])] at c1
  go_wp2_with fail
  refine c1.mono ?_
  rintro e w8 ⟨rfl, hb⟩
  replace hs := (hs.later hb).take 1
  clear c1 hb
  have a1 : allI 3 [⟨0, 1, true⟩, ⟨0, 2, false⟩] 0 = [0, 2, 1] := by decide
  have c1 := hs.askNew (O' := fun v => Ob.ints v (allI 3 [⟨0, 1, true⟩, ⟨0, 2, false⟩] 0)) (r := fun v => v) 0 rfl (fun _ ho => all_sp 0 ho)
  rw [a1] at c1
  go_wp2_with fail
  refine c1.mono ?_
  rintro e w9 ⟨v3, rfl, hs⟩
  clear c1 a1
  obtain ⟨x3, n3, y3, rfl⟩ : ∃ a n c, v3 = .slice a n c := (hs.intsForm 1 rfl).elim fun a h => h.elim fun c h => ⟨a, _, c, h.1⟩
  replace hs := hs.newRow 3 1 3 #[.int .i64 0, .int .i64 2, .int .i64 1] rfl (by decide)
  replace hs : Stage (fun _ => False) w [Ob.spine p 3 [⟨0, 1, true⟩, ⟨0, 2, false⟩], Ob.ints (.slice x3 n3 y3) [0, 2, 1], Ob.ints (.slice (some ⟨w9.heap.size, 0, none⟩) 3 3) [0, 2, 1]] _ := hs
  have c1 := same_any hs 1 2 rfl rfl
  rw [decide_eq_true (rfl : [(0 : Int), 2, 1] = [0, 2, 1])] at c1
  go_wp2_with fail
  refine c1.mono ?_
  rintro e w10 ⟨rfl, hb⟩
  replace hs := hs.later hb
  clear c1 hb
  go_wp2_with fail
  go_ret
  exact ⟨rfl, hs.below⟩
set_option maxRecDepth 100000 in
theorem spineNew_walk (n x : Int) (w : World) : Calls Try.prog 3 #[.int .i64 n, .int .i64 x] w fun e w' => e = .returned (.bool true) ∧ Below w.heap.size w w' := by
  by_cases hn : 0 ≤ n ∧ n ≤ 65536
  · obtain ⟨k, rfl⟩ : ∃ k : Nat, n = k := ⟨n.toNat, by omega⟩
    have hk : k ≤ 65536 := by omega
    have hk1 : ¬ (65536 : Int) < k := by omega
    clear hn
    go_enter Try.func3, Try.ntmps3
    go_wp2_with fail
    refine (spineAlive_any w).mono ?_
    rintro e w1 ⟨rfl, hb⟩
    go_wp2_with fail
    refine (((Stage.start w).later hb).newSpine k hk).mono ?_
    rintro e w2 ⟨p, rfl, hs⟩
    rw [List.nil_append] at hs
    obtain ⟨_, v0, I, hn2, hg⟩ := hs.get (i := 0) rfl
    have hs1 := Ob.group.open hg
    have hL := sp_left (q := []) hs1 I hn2 x
    have hR := sp_right (q := []) hs1 I hn2 x
    have hU := sp_up (q := []) hs1 I hn2 x
    have hO := hs.ask 0 rfl (fun _ ho => root_sp x ho)
    have hA := hs.askNew (O' := fun v => Ob.ints v (allI k [] x)) (r := fun v => v) 0 rfl (fun _ ho => all_sp x ho)
    have hS := fun wr (u : Ob) (h : Stage (fun _ => False) w [Ob.spine p k [], u] wr) => h.askNew (O' := fun v => Ob.ints v (sideI k [] x)) (r := fun v => v) 0 rfl (fun _ ho => spine_sp x ho)
    rw [show kidL [] x false = none from rfl] at hL
    rw [show kidL [] x true = none from rfl] at hR
    rw [show upL [] x = none from rfl] at hU
    have hroot : rootI k [] x = if hasN k x then x else 0 := by
      unfold rootI
      split
      · exact steps_top rfl k
      · rfl
    rw [hroot] at hO
    have hall : allI k [] x = if hasN k x then [x] else [] := by
      unfold allI
      split
      · rename_i h
        rw [all_eq (inv_nil k) (has_in.1 h)]; rfl
      · rfl
    have hside : sideI k [] x = if hasN k x then [x] else [] := by
      unfold sideI
      split
      · rename_i h
        rw [side_eq (inv_nil k) (has_in.1 h)]; rfl
      · rfl
    rw [hall] at hA
    rw [hside] at hS
    clear hg hs1 I hroot hall hside hs
    by_cases hx0 : 0 ≤ x
    · by_cases hx1 : x < k
      · have hh : hasN k x = true := has_in.2 ⟨hx0, hx1⟩
        rw [hh] at hO hA hS
        simp only [if_true] at hO hA hS
        clear hh
        go_wp2_with fail
        refine hL.mono ?_
        rintro e w3 ⟨rfl, rfl⟩
        go_wp2_with fail
        refine hR.mono ?_
        rintro e w3 ⟨rfl, rfl⟩
        go_wp2_with fail
        refine hU.mono ?_
        rintro e w3 ⟨rfl, rfl⟩
        go_wp2_with fail
        refine hO.mono ?_
        rintro e w3 ⟨rfl, rfl⟩
        clear hL hR hU hO
        go_wp2_with fail
        refine hA.mono ?_
        rintro e w3 ⟨v3, rfl, hs⟩
        obtain ⟨x3, y3, rfl, _, _⟩ := hs.intsForm 1 rfl
        have hS1 := hS _ _ hs
        clear hA hS
        go_wp2_with fail
        refine hS1.mono ?_
        rintro e w4 ⟨v4, rfl, hs⟩
        obtain ⟨x4, y4, rfl, _, _⟩ := hs.intsForm 2 rfl
        clear hS1
        go_wp2_with fail
        go_ret
        exact ⟨rfl, hs.below⟩
      · have hh : hasN k x = false := sp_has_no (fun h => hx1 h.2)
        have hx1d : decide (x < (k : Int)) = false := decide_eq_false hx1
        rw [hh] at hO hA hS
        simp only [Bool.false_eq_true, if_false] at hO hA hS
        clear hh
        go_wp2_with fail
        refine hL.mono ?_
        rintro e w3 ⟨rfl, rfl⟩
        go_wp2_with fail
        refine hR.mono ?_
        rintro e w3 ⟨rfl, rfl⟩
        go_wp2_with fail
        refine hU.mono ?_
        rintro e w3 ⟨rfl, rfl⟩
        go_wp2_with fail
        refine hO.mono ?_
        rintro e w3 ⟨rfl, rfl⟩
        clear hL hR hU hO
        go_wp2_with fail
        refine hA.mono ?_
        rintro e w3 ⟨v3, rfl, hs⟩
        obtain ⟨x3, y3, rfl, _, _⟩ := hs.intsForm 1 rfl
        have hS1 := hS _ _ hs
        clear hA hS
        go_wp2_with fail
        refine hS1.mono ?_
        rintro e w4 ⟨v4, rfl, hs⟩
        obtain ⟨x4, y4, rfl, _, _⟩ := hs.intsForm 2 rfl
        clear hS1
        go_wp2_with fail
        go_ret
        exact ⟨rfl, hs.below⟩
    · have hh : hasN k x = false := sp_has_no (fun h => hx0 h.1)
      rw [hh] at hO hA hS
      simp only [Bool.false_eq_true, if_false] at hO hA hS
      clear hh
      go_wp2_with fail
      refine hL.mono ?_
      rintro e w3 ⟨rfl, rfl⟩
      go_wp2_with fail
      refine hR.mono ?_
      rintro e w3 ⟨rfl, rfl⟩
      go_wp2_with fail
      refine hU.mono ?_
      rintro e w3 ⟨rfl, rfl⟩
      go_wp2_with fail
      refine hO.mono ?_
      rintro e w3 ⟨rfl, rfl⟩
      clear hL hR hU hO
      go_wp2_with fail
      refine hA.mono ?_
      rintro e w3 ⟨v3, rfl, hs⟩
      obtain ⟨x3, y3, rfl, _, _⟩ := hs.intsForm 1 rfl
      have hS1 := hS _ _ hs
      clear hA hS
      go_wp2_with fail
      refine hS1.mono ?_
      rintro e w4 ⟨v4, rfl, hs⟩
      obtain ⟨x4, y4, rfl, _, _⟩ := hs.intsForm 2 rfl
      clear hS1
      go_wp2_with fail
      go_ret
      exact ⟨rfl, hs.below⟩
  · have hN := fun w => new_sp_no n w hn
    have hc : n < 0 ∨ (¬ n < 0 ∧ 65536 < n) := by omega
    clear hn
    rcases hc with hc | ⟨hc, hc2⟩
    all_goals
      go_enter Try.func3, Try.ntmps3
      go_wp2_with fail
      refine (spineAlive_any w).mono ?_
      rintro e w1 ⟨rfl, hb⟩
      go_wp2_with fail
      refine (hN _).mono ?_
      rintro e w2 ⟨rfl, rfl⟩
      go_wp2_with fail
      go_ret
      exact ⟨rfl, hb⟩
end Go.Proofs.Ytkagchnhjjcgbaa
