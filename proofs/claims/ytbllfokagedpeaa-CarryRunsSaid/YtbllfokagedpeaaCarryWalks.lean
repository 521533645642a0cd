/- Merged of CarryPlay, CarryWalks. -/
import Derived.Test.YtbllfokagedpeaaCarryAliveMath
import Derived.Test.YtbllfokagedpeaaCarryLiftCall
import Derived.Test.YtbllfokagedpeaaCarrySplit
namespace Go.Proofs.Ytbllfokagedpeaa
open Go.RowKit Go.Sort

def CActsAt (w : World) (a0 : Option Addr) (n0 : Nat) : Prop := ∀ k, k < n0 → ∃ b off x y z, a0 = some ⟨b, off, none⟩ ∧ w.cell? ⟨b, off + k * 3, none⟩ = some (.int .i64 x) ∧ w.cell? ⟨b, off + k * 3 + 1, none⟩ = some (.int .i64 y) ∧ w.cell? ⟨b, off + k * 3 + 2, none⟩ = some (.int .i64 z)
/-- Behind play: both forests are one. -/
def PlayPost (W : World) (p n : Nat) (e : Ending) (w' : World) : Prop := ∃ a c K, e = .returned (.tuple #[.slice a n c, .bool true]) ∧ Stage (oldF W) W [Ob.forest p n K, Ob.docK (.slice a n c) n K, Ob.old W] w'
set_option maxRecDepth 100000 in
set_option maxHeartbeats 8000000 in
theorem play_st {W w : World} {p n : Nat} (a0 : Option Addr) (n0 cap : Nat) (hcap : n0 ≤ cap ∧ cap ≤ 9223372036854775807) (hact : CActsAt W a0 n0) (hs : Stage (oldF W) W [Ob.forest p n (fun _ => []), Ob.old W] w) :
    Calls Try.prog 14 #[.pointer (some ⟨p, 0, none⟩), .int .i64 n, .slice a0 n0 cap] w (PlayPost W p n) := by
  obtain ⟨hcap1, hcap2⟩ := hcap
  obtain ⟨_, hn⟩ := hs.forestInv 0 rfl
  have hmk := made_forest n hn
  have hs1 : Stage (oldF W) W [Ob.forest p n (fun _ => []), Ob.docK (.slice (some ⟨w.heap.size, 0, none⟩) n n) n (fun _ => []), Ob.old W] (w.alloc (.cells (madeCells #[.slice none 0 0] n) 30)) := by
    have h1 := (hs.madeForest n hn).weaken (i := 2) (O' := Ob.docK (.slice (some ⟨w.heap.size, 0, none⟩) n n) n (fun _ => [])) rfl (fun F h1 => ⟨(Ob.row _ _ _ _ _ _).lt h1, doc_of_row h1.1 (fun b hb => by rw [h1.2]; exact hb) fun i hi => ⟨.slice none 0 0, by simp [hi], Or.inl ⟨rfl, rfl⟩⟩⟩)
    exact h1.select [0, 2, 1] (by decide) rfl
  clear hs
  go_enter Try.func14, Try.ntmps14
  go_wp2_with fail
  go_loopw [8, 22] (fun v i wr => ∃ (k : Nat) (K : Int → List Int) (a : Option Addr) (c : Nat), v = .slice a n c ∧ k ≤ n0 ∧ i = .int .i64 k ∧ Stage (oldF W) W [Ob.forest p n K, Ob.docK (.slice a n c) n K, Ob.old W] wr) (fun _ i _ => n0 - (intOf i).toNat)
  case atStart => exact ⟨0, _, _, _, rfl, Nat.zero_le _, rfl, hs1⟩
  case round =>
    clear hs1
    obtain ⟨k, K, a, c, rfl, hk, rfl, hs⟩ := hrel
    obtain ⟨I, _⟩ := hs.forestInv 0 rfl
    by_cases hlt : k < n0
    · have hki : (k : Int) < n0 := by omega
      obtain ⟨ba, offa, x, y, z, rfl, q0, q1, q2⟩ := hact k hlt
      have hbo := hs.oldBelow 2 rfl
      replace q0 := later hbo q0
      replace q1 := later hbo q1
      replace q2 := later hbo q2
      obtain ⟨w1, hw1, hs1⟩ : ∃ w1, wr.alloc (.cells #[.int .i64 x, .int .i64 y, .int .i64 z] 65) = w1 ∧ Stage (oldF W) W [Ob.forest p n K, Ob.docK (.slice a n c) n K, Ob.old W, Ob.box wr.heap.size #[.int .i64 x, .int .i64 y, .int .i64 z] 65] w1 := ⟨_, rfl, hs.alloc _ _⟩
      have b0 := hs1.cell 3 rfl (o := 0) rfl
      have b1 := hs1.cell 3 rfl (o := 1) rfl
      have b2 := hs1.cell 3 rfl (o := 2) rfl
      obtain ⟨_, _, hv9, hc1, hc2⟩ := (hs1.docKAt 1 rfl).elim fun _ h => h.form
      cases hv9
      clear hs hact hbo
      by_cases h0 : x = 0
      · subst h0
        have hL := hs1.docCall (r := fun u => .tuple #[u, .bool (linkB n K y z)]) 1 rfl (fun F ho => rLink I hn ho y z)
        have hP := fun (wx : World) a' c' (h : Stage (oldF W) W [Ob.forest p n K, Ob.docK (.slice a' n c') n (linkF n K y z), Ob.old W, Ob.box wr.heap.size #[.int .i64 0, .int .i64 y, .int .i64 z] 65] wx) => h.call 0 rfl (fun F ho => link_cy y z ho)
        generalize linkF n K y z = K2 at *
        have e1 : (linkB n K y z == linkB n K y z) = true := by simp
        generalize linkB n K y z = B at *
        clear hs1 I
        go_wp2_with fail
        try rw [hw1]
        clear hw1 q0 q1 q2
        generalize wr.heap.size = bX at *
        refine hL.mono ?_
        rintro e w2 ⟨a2, c2, rfl, hs2⟩
        replace hs2 : Stage (oldF W) W [Ob.forest p n K, Ob.docK (.slice a2 n c2) n K2, Ob.old W, Ob.box bX #[.int .i64 0, .int .i64 y, .int .i64 z] 65] w2 := hs2
        clear hL b0 b1 b2
        have b1 := hs2.cell 3 rfl (o := 1) rfl
        have b2 := hs2.cell 3 rfl (o := 2) rfl
        replace hP := hP w2 a2 c2 hs2
        clear hs2
        go_wp2_with fail
        refine hP.mono ?_
        rintro e w3 ⟨rfl, hs3⟩
        replace hs3 : Stage (oldF W) W [Ob.forest p n K2, Ob.docK (.slice a2 n c2) n K2, Ob.old W, Ob.box bX #[.int .i64 0, .int .i64 y, .int .i64 z] 65] w3 := hs3
        clear hP b1 b2
        have hT1 := same_st hs3 0 1 rfl rfl y
        have b1 := hs3.cell 3 rfl (o := 1) rfl
        have b2 := hs3.cell 3 rfl (o := 2) rfl
        go_wp2_with fail
        refine hT1.mono ?_
        rintro e wa ⟨rfl, hb⟩
        have hsa := hs3.later hb
        clear hT1 hb b1 b2 hs3
        have hT2 := same_st hsa 0 1 rfl rfl z
        have b2 := hsa.cell 3 rfl (o := 2) rfl
        go_wp2_with fail
        refine hT2.mono ?_
        rintro e wb ⟨rfl, hb⟩
        have hsb := (hsa.later hb).take 3
        clear hT2 hb b2 hsa
        go_wp2_with fail
        go_roundw
        case rel => exact ⟨k + 1, _, _, _, rfl, by omega, by go_num, hsb⟩
        case measure => simp [intOf]; omega
      have h0' : (x == 0) = false := by simpa using h0
      by_cases h1 : x = 1
      · subst h1
        have hL := hs1.docCallL (m := splitL n K y) (r := fun u t => .tuple #[u, t]) 1 rfl (fun F ho => rSplit I hn ho y)
        have hP := fun (wx : World) a' c' a2 c2 (h : Stage (oldF W) W ([Ob.forest p n K] ++ [Ob.docKL (.slice a' n c') n (splitF n K y) (.slice a2 (splitL n K y).length c2) (splitL n K y), Ob.old W, Ob.box wr.heap.size #[.int .i64 1, .int .i64 y, .int .i64 z] 65]) wx) => h.splitCall y
        generalize splitF n K y = K2 at *
        generalize splitL n K y = L at *
        clear hs1 I
        go_wp2_with fail
        try rw [hw1]
        clear hw1 q0 q1 q2
        generalize wr.heap.size = bX at *
        refine hL.mono ?_
        rintro e w2 ⟨a2, c2, a3, c3, rfl, hs2⟩
        replace hs2 : Stage (oldF W) W [Ob.forest p n K, Ob.docKL (.slice a2 n c2) n K2 (.slice a3 L.length c3) L, Ob.old W, Ob.box bX #[.int .i64 1, .int .i64 y, .int .i64 z] 65] w2 := hs2
        clear hL b0 b1 b2
        have b1 := hs2.cell 3 rfl (o := 1) rfl
        replace hP := hP w2 a2 c2 a3 c3 hs2
        clear hs2
        go_wp2_with fail
        refine hP.mono ?_
        rintro e w3 ⟨v3, rfl, hs3⟩
        replace hs3 : Stage (oldF W) W [Ob.forest p n K2, Ob.ints v3 L, Ob.docKL (.slice a2 n c2) n K2 (.slice a3 L.length c3) L, Ob.old W, Ob.box bX #[.int .i64 1, .int .i64 y, .int .i64 z] 65] w3 := hs3
        clear hP b1
        obtain ⟨va, vc, rfl, g1, g2⟩ := hs3.intsForm 1 rfl
        have hA1 := hs3.intsAtI 1 rfl
        obtain ⟨_, _, e9, g3, g4, hA2⟩ := (hs3.get (i := 2) rfl).elim fun F ho => ho.2.form
        cases e9
        have hS := same_at L L va a3 vc c3 ⟨g1, g2⟩ ⟨g3, g4⟩ hA1 hA2
        rw [decide_eq_true rfl] at hS
        have hs4 := (hs3.weaken (i := 2) (O' := Ob.docK (.slice a2 n c2) n K2) rfl (fun F ho => ho.1)).select [0, 2, 3, 4] (by decide) rfl
        replace hs4 : Stage (oldF W) W [Ob.forest p n K2, Ob.docK (.slice a2 n c2) n K2, Ob.old W, Ob.box bX #[.int .i64 1, .int .i64 y, .int .i64 z] 65] w3 := hs4
        clear hA1 hA2 hs3
        generalize L.length = m at *
        go_wp2_with fail
        refine hS.mono ?_
        rintro e w4 ⟨rfl, hb⟩
        have hs5 := hs4.later hb
        clear hS hs4 hb
        have hT1 := same_st hs5 0 1 rfl rfl y
        have b1 := hs5.cell 3 rfl (o := 1) rfl
        have b2 := hs5.cell 3 rfl (o := 2) rfl
        go_wp2_with fail
        refine hT1.mono ?_
        rintro e wa ⟨rfl, hb⟩
        have hsa := hs5.later hb
        clear hT1 hb b1 b2 hs5
        have hT2 := same_st hsa 0 1 rfl rfl z
        have b2 := hsa.cell 3 rfl (o := 2) rfl
        go_wp2_with fail
        refine hT2.mono ?_
        rintro e wb ⟨rfl, hb⟩
        have hsb := (hsa.later hb).take 3
        clear hT2 hb b2 hsa
        go_wp2_with fail
        go_roundw
        case rel => exact ⟨k + 1, _, _, _, rfl, by omega, by go_num, hsb⟩
        case measure => simp [intOf]; omega
      have h1' : (x == 1) = false := by simpa using h1
      by_cases h2 : x = 2
      · subst h2
        have hL := hs1.docCall (r := fun u => .tuple #[u, .bool (upK K y).isSome]) 1 rfl (fun F ho => rLift I hn ho y)
        have hP := fun (wx : World) a' c' (h : Stage (oldF W) W ([Ob.forest p n K] ++ [Ob.docK (.slice a' n c') n (liftF K y), Ob.old W, Ob.box wr.heap.size #[.int .i64 2, .int .i64 y, .int .i64 z] 65]) wx) => h.liftCall y
        generalize liftF K y = K2 at *
        have e1 : ((upK K y).isSome == (upK K y).isSome) = true := by simp
        generalize (upK K y).isSome = B at *
        clear hs1 I
        go_wp2_with fail
        try rw [hw1]
        clear hw1 q0 q1 q2
        generalize wr.heap.size = bX at *
        refine hL.mono ?_
        rintro e w2 ⟨a2, c2, rfl, hs2⟩
        replace hs2 : Stage (oldF W) W [Ob.forest p n K, Ob.docK (.slice a2 n c2) n K2, Ob.old W, Ob.box bX #[.int .i64 2, .int .i64 y, .int .i64 z] 65] w2 := hs2
        clear hL b0 b1 b2
        have b1 := hs2.cell 3 rfl (o := 1) rfl
        replace hP := hP w2 a2 c2 hs2
        clear hs2
        go_wp2_with fail
        refine hP.mono ?_
        rintro e w3 ⟨rfl, hs3⟩
        replace hs3 : Stage (oldF W) W [Ob.forest p n K2, Ob.docK (.slice a2 n c2) n K2, Ob.old W, Ob.box bX #[.int .i64 2, .int .i64 y, .int .i64 z] 65] w3 := hs3
        clear hP b1
        have hT1 := same_st hs3 0 1 rfl rfl y
        have b1 := hs3.cell 3 rfl (o := 1) rfl
        have b2 := hs3.cell 3 rfl (o := 2) rfl
        go_wp2_with fail
        refine hT1.mono ?_
        rintro e wa ⟨rfl, hb⟩
        have hsa := hs3.later hb
        clear hT1 hb b1 b2 hs3
        have hT2 := same_st hsa 0 1 rfl rfl z
        have b2 := hsa.cell 3 rfl (o := 2) rfl
        go_wp2_with fail
        refine hT2.mono ?_
        rintro e wb ⟨rfl, hb⟩
        have hsb := (hsa.later hb).take 3
        clear hT2 hb b2 hsa
        go_wp2_with fail
        go_roundw
        case rel => exact ⟨k + 1, _, _, _, rfl, by omega, by go_num, hsb⟩
        case measure => simp [intOf]; omega
      have h2' : (x == 2) = false := by simpa using h2
      clear I b1 b2
      have hT0 := same_st hs1 0 1 rfl rfl y
      have b1 := hs1.cell 3 rfl (o := 1) rfl
      have b2 := hs1.cell 3 rfl (o := 2) rfl
      go_wp2_with fail
      try rw [hw1]
      clear hw1 q0 q1 q2 b0
      generalize wr.heap.size = bX at *
      refine hT0.mono ?_
      rintro e wa ⟨rfl, hb⟩
      have hsa := hs1.later hb
      clear hT0 hb b1 b2 hs1
      have hT2 := same_st hsa 0 1 rfl rfl z
      have b2 := hsa.cell 3 rfl (o := 2) rfl
      go_wp2_with fail
      refine hT2.mono ?_
      rintro e wb ⟨rfl, hb⟩
      have hsb := (hsa.later hb).take 3
      clear hT2 hb b2 hsa
      go_wp2_with fail
      go_roundw
      case rel => exact ⟨k + 1, _, _, _, rfl, by omega, by go_num, hsb⟩
      case measure => simp [intOf]; omega
    · have hki : ¬ (k : Int) < n0 := by omega
      clear hact I
      go_wp2_with fail
      go_ret2
      exact ⟨_, _, _, rfl, hs⟩
end Go.Proofs.Ytbllfokagedpeaa

namespace Go.Proofs.Ytbllfokagedpeaa
open Go.RowKit Go.Sort

theorem isRow_one (n : Nat) (x : Int) : isRow n (fun _ => []) [x] = hasK n x := by
  have h : upK (fun _ => []) x = none := upK_none.2 fun p h => by cases h
  unfold isRow
  rw [rowB_cons]
  unfold rootB
  rw [h]
  simp [lessO, rowB]
set_option maxRecDepth 100000 in
set_option maxHeartbeats 4000000 in
theorem carryNew_walk (n x : Int) (w : World) : Calls Try.prog 3 #[.int .i64 n, .int .i64 x] w fun e w' => e = .returned (.bool true) ∧ Below w.heap.size w w' := by
  by_cases hn : 0 ≤ n ∧ n ≤ 65536
  rotate_left
  · have hN := fun wx => new_cy_no n wx hn
    have hc : n < 0 ∨ (¬ n < 0 ∧ 65536 < n) := by omega
    clear hn
    rcases hc with hc | ⟨hc, hc2⟩
    all_goals
      go_enter Try.func3, Try.ntmps3
      go_wp2_with fail
      refine (carryAlive_any w).mono ?_
      rintro e w1 ⟨rfl, hb⟩
      go_wp2_with fail
      refine (hN w1).mono ?_
      rintro e w2 ⟨rfl, rfl⟩
      go_wp2_with fail
      go_ret
      exact ⟨rfl, hb⟩
  · obtain ⟨m, rfl⟩ : ∃ m : Nat, n = m := ⟨n.toNat, by omega⟩
    have hm : m ≤ 65536 := by omega
    have hc1 : ¬ (m : Int) < 0 := by omega
    have hc2 : ¬ 65536 < (m : Int) := by omega
    have hu : upK (fun _ => []) x = none := upK_none.2 fun p h => by cases h
    go_enter Try.func3, Try.ntmps3
    go_wp2_with fail
    refine (carryAlive_any w).mono ?_
    rintro e w1 ⟨rfl, hb⟩
    go_wp2_with fail
    refine (((Stage.start w).later hb).newForest m hm).mono ?_
    rintro e w2 ⟨p, rfl, hs⟩
    replace hs : Stage (fun _ => False) w [Ob.forest p m (fun _ => [])] w2 := hs
    clear hb
    have hU := hs.ask 0 rfl (fun _ ho => up_f ho x)
    have hD := hs.ask 0 rfl (fun _ ho => deg_f ho x)
    have hKd := hs.newInts ((hs.get (i := 0) rfl).elim fun _ ho => kids_f ho x)
    rw [hu] at hU
    replace hU : Calls Try.prog 10 #[.pointer (some ⟨p, 0, none⟩), .int .i64 x] w2 fun e w' => e = .returned (.tuple #[.int .i64 0, .bool false]) ∧ w2 = w' := hU
    replace hD : Calls Try.prog 11 #[.pointer (some ⟨p, 0, none⟩), .int .i64 x] w2 fun e w' => e = .returned (.int .i64 0) ∧ w2 = w' := hD
    go_wp2_with fail
    refine hU.mono ?_
    rintro e w3 ⟨rfl, rfl⟩
    go_wp2_with fail
    refine hD.mono ?_
    rintro e w3 ⟨rfl, rfl⟩
    go_wp2_with fail
    refine hKd.mono ?_
    rintro e w3 ⟨v3, rfl, hs3⟩
    clear hU hD hKd hs
    replace hs3 : Stage (fun _ => False) w [Ob.forest p m (fun _ => []), Ob.ints v3 []] w3 := hs3
    obtain ⟨a3, c3, rfl, _, _⟩ := hs3.intsForm 1 rfl
    obtain ⟨w4, hw4, hs4⟩ : ∃ w4, w3.alloc (.cells #[.int .i64 x] 3) = w4 ∧ Stage (fun _ => False) w [Ob.forest p m (fun _ => []), Ob.ints (.slice a3 0 c3) [], Ob.ints (.slice (some ⟨w3.heap.size, 0, none⟩) 1 1) [x]] w4 := ⟨_, rfl, hs3.newRow' 3 1 1 #[.int .i64 x] rfl (by decide) rfl⟩
    have hR := hs4.ask 0 rfl (fun _ ho => row_f ho [x] (some ⟨w3.heap.size, 0, none⟩) 1 ⟨Nat.le_refl _, by omega⟩ (hs4.intsAtI 2 rfl))
    have hR0 := hs4.ask 0 rfl (fun _ ho => row_f ho [] none 0 (by decide) (fun i hi => absurd hi (Nat.not_lt_zero _)))
    rw [isRow_one] at hR
    have e0 : isRow m (fun _ => []) [] = true := rfl
    rw [e0] at hR0
    have hb4 := hs4.below
    clear hs3 hs4 hu hc1 hc2
    replace hR : Calls Try.prog 13 #[.pointer (some ⟨p, 0, none⟩), .slice (some ⟨w3.heap.size, 0, none⟩) 1 1] w4 _ := hR
    replace hR0 : Calls Try.prog 13 #[.pointer (some ⟨p, 0, none⟩), .slice none 0 0] w4 _ := hR0
    have hcase : (x < 0 ∧ hasK m x = false) ∨ (¬ x < 0 ∧ decide (x < (m : Int)) = true ∧ hasK m x = true) ∨ (¬ x < 0 ∧ decide (x < (m : Int)) = false ∧ hasK m x = false) := by
      unfold hasK
      by_cases h1 : x < 0
      · exact Or.inl ⟨h1, decide_eq_false (by omega)⟩
      · by_cases h2 : x < m
        · exact Or.inr (Or.inl ⟨h1, decide_eq_true h2, decide_eq_true (by omega)⟩)
        · exact Or.inr (Or.inr ⟨h1, decide_eq_false h2, decide_eq_false (by omega)⟩)
    rcases hcase with ⟨h1, h2⟩ | ⟨h1, h3, h2⟩ | ⟨h1, h3, h2⟩
    all_goals
      rw [h2] at hR
      clear h2
      go_wp2_with fail
      try rw [hw4]
      clear hw4
      generalize w3.heap.size = b3 at *
      refine hR.mono ?_
      rintro e w5 ⟨rfl, rfl⟩
      clear hR
      go_wp2_with fail
      refine hR0.mono ?_
      rintro e w5 ⟨rfl, rfl⟩
      go_wp2_with fail
      go_ret
      exact ⟨rfl, hb4⟩
set_option maxRecDepth 100000 in
set_option maxHeartbeats 8000000 in
theorem carryRuns_walk (C : Nat) (hC : C ≤ 255) (a0 : Option Addr) (n0 cap : Nat) (hcap : n0 ≤ cap ∧ cap ≤ 9223372036854775807) (l : List Int) (al : Option Addr) (cl : Nat) (hcl : l.length ≤ cl ∧ cl ≤ 9223372036854775807) (w : World) (hact : CActsAt w a0 n0) (hl : IntsAt w .i64 al l) :
    Calls Try.prog 4 #[.int .u8 C, .slice a0 n0 cap, .slice al l.length cl] w fun e w' => e = .returned (.bool true) ∧ Below w.heap.size w w' := by
  obtain ⟨hcap1, hcap2⟩ := hcap
  obtain ⟨hcl1, hcl2⟩ := hcl
  obtain ⟨m, hm⟩ : ∃ m, m = C % 24 := ⟨_, rfl⟩
  have hm24 : m < 24 := by omega
  have q1 : Int.tmod (C : Int) 24 = (m : Int) := by rw [hm]; exact (Int.ofNat_tmod C 24).symm
  clear hm
  go_enter Try.func4, Try.ntmps4
  go_wp2_with fail
  refine (carryAlive_any w).mono ?_
  rintro e w1 ⟨rfl, hb⟩
  go_wp2_with fail
  refine (((Stage.oldStart w).later hb).newForest m (by omega)).mono ?_
  rintro e w2 ⟨p, rfl, hs⟩
  replace hs : Stage (oldF w) w [Ob.forest p m (fun _ => []), Ob.old w] w2 := hs.select [1, 0] (by decide) rfl
  clear hb
  by_cases h60 : (60 : Int) < n0
  · have hb := hs.oldBelow 1 rfl
    clear hl
    generalize l.length = ll at *
    go_wp2_with fail
    go_ret
    exact ⟨rfl, hb⟩
  by_cases h30 : (30 : Int) < l.length
  · have hb := hs.oldBelow 1 rfl
    clear hl
    generalize l.length = ll at *
    go_wp2_with fail
    go_ret
    exact ⟨rfl, hb⟩
  have hP := play_st a0 n0 cap ⟨hcap1, hcap2⟩ hact hs
  have hR := fun (wx : World) (K : Int → List Int) v (h : Stage (oldF w) w [Ob.forest p m K, Ob.docK v m K, Ob.old w] wx) => h.ask 0 rfl (fun _ ho => row_f ho l al cl ⟨hcl1, hcl2⟩ (IntsAt.later hl (h.oldBelow 2 rfl)))
  have hR2 := fun (wx : World) (K : Int → List Int) v (h : Stage (oldF w) w [Ob.forest p m K, Ob.docK v m K, Ob.old w] wx) => (h.docKAt 1 rfl).elim fun _ hd => rRow (h.forestInv 0 rfl).1 (h.forestInv 0 rfl).2 hd l al cl ⟨hcl1, hcl2⟩ (IntsAt.later hl (h.oldBelow 2 rfl))
  clear hs hact hl
  generalize l.length = ll at *
  go_wp2_with fail
  refine hP.mono ?_
  rintro e w3 ⟨a3, c3, K, rfl, hs3⟩
  clear hP
  replace hR := hR w3 K _ hs3
  replace hR2 := hR2 w3 K _ hs3
  have e1 : (isRow m K l == isRow m K l) = true := by simp
  have e2 : (isRow m K l != isRow m K l) = false := by simp
  generalize isRow m K l = B at *
  obtain ⟨_, _, hv9, c11, c12⟩ := (hs3.docKAt 1 rfl).elim fun _ h => h.form
  cases hv9
  go_wp2_with fail
  refine hR.mono ?_
  rintro e w4 ⟨rfl, rfl⟩
  clear hR
  go_wp2_with fail
  refine hR2.mono ?_
  rintro e w4 ⟨rfl, hb⟩
  have hs4 := hs3.later hb
  clear hR2 hb hs3 e1 e2
  go_wp2_with fail
  go_loopw [12] (fun i wr => ∃ j : Nat, i = .int .i64 j ∧ j ≤ m ∧ Stage (oldF w) w [Ob.forest p m K, Ob.docK (.slice a3 m c3) m K, Ob.old w] wr) (fun i _ => m - (intOf i).toNat)
  case atStart => exact ⟨0, rfl, Nat.zero_le _, hs4⟩
  case round =>
    clear hs4
    obtain ⟨j, rfl, hj, hs⟩ := hrel
    by_cases hjm : j < m
    · have hji : (j : Int) < m := by omega
      have hT := same_st hs 0 1 rfl rfl j
      have hC := fun (wx : World) (h : Stage (oldF w) w [Ob.forest p m K, Ob.docK (.slice a3 m c3) m K, Ob.old w] wx) => (h.docKAt 1 rfl).elim fun _ hd => rCube (h.forestInv 0 rfl).1 (h.forestInv 0 rfl).2 m (by omega) j wx ⟨by omega, by omega⟩ hd
      go_wp2_with fail
      refine hT.mono ?_
      rintro e w5 ⟨rfl, hb⟩
      have hs5 := hs.later hb
      replace hC := hC w5 hs5
      clear hT hb hs
      go_wp2_with fail
      refine hC.mono ?_
      rintro e w6 ⟨rfl, rfl⟩
      clear hC
      go_wp2_with fail
      go_roundw
      case rel => exact ⟨j + 1, by go_num, by omega, hs5⟩
      case measure => simp [intOf]; omega
    · have hji : ¬ (j : Int) < m := by omega
      have hb := hs.oldBelow 2 rfl
      go_wp2_with fail
      go_ret
      exact ⟨rfl, hb⟩
end Go.Proofs.Ytbllfokagedpeaa
