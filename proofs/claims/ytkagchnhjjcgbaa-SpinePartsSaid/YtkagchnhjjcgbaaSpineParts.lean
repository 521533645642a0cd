/- SpineParts, walked: all trees together have each thing once; what hangs below a thing has its root. (Written by gen_walks.py.) -/
import Derived.Test.YtkagchnhjjcgbaaSpineWalk
import Derived.Test.YtkagchnhjjcgbaaSpinePartsMath
namespace Go.Proofs.Ytkagchnhjjcgbaa
open Go.RowKit Go.Sort

set_option maxRecDepth 100000 in
set_option maxHeartbeats 8000000 in
theorem spineParts_walk (C : Nat) (hC : C ≤ 255) (a0 : Option Addr) (n0 cap : Nat) (hcap : n0 ≤ cap ∧ cap ≤ 9223372036854775807) (w : World) (hact : SpineActsAt w a0 n0) :
    Calls Try.prog 5 #[.int .u8 C, .slice a0 n0 cap] w fun e w' => e = .returned (.bool true) ∧ Below w.heap.size w w' := by
  obtain ⟨hcap1, hcap2⟩ := hcap
  obtain ⟨m, hm⟩ : ∃ m, m = C % 24 := ⟨_, rfl⟩
  have hm24 : m < 24 := by omega
  have q1 : Int.tmod (C : Int) 24 = (m : Int) := by rw [hm]; exact (Int.ofNat_tmod C 24).symm
  clear hm
  go_enter Try.func5, Try.ntmps5
  go_wp2_with fail
  refine (spineAlive_any w).mono ?_
  rintro e w1 ⟨rfl, hb⟩
  go_wp2_with fail
  refine (((Stage.start w).later hb).newSpine m (by omega)).mono ?_
  rintro e w2 ⟨p, rfl, hs⟩
  simp only [List.nil_append] at hs
  by_cases h60 : (60 : Int) < n0
  · go_wp2_with fail
    go_ret
    exact ⟨rfl, hs.below⟩
  have hn60 : n0 ≤ 60 := by omega
  replace hs : Stage (fun _ => False) w [Ob.spine p m [], Ob.doc nilV [], Ob.box w2.heap.size #[.int .i64 m, nilV] docT] (w2.alloc (.cells #[.int .i64 m, nilV] docT)) := hs.nilDoc.alloc _ _
  go_wp2_with fail
  generalize w2.heap.size = b8 at *
  go_loopw [51] (fun i wr => ∃ (k : Nat) (L : List Hg) (a : Option Addr) (n c : Nat), k ≤ n0 ∧ i = .int .i64 k ∧ Stage (fun _ => False) w [Ob.spine p m L, Ob.doc (.slice a n c) L, Ob.box b8 #[.int .i64 m, .slice a n c] docT] wr) (fun i _ => n0 - (intOf i).toNat)
  case atStart => exact ⟨0, [], none, 0, 0, Nat.zero_le _, rfl, hs⟩
  case round =>
    clear hs hb
    obtain ⟨k, L, a, n, c, hk, rfl, hs⟩ := hrel
    by_cases hlt : k < n0
    · have hki : (k : Int) < n0 := by omega
      obtain ⟨ba, offa, x, y, z, r, rfl, g0, g1, g2, g3⟩ := hact k hlt
      replace g0 := later hs.below g0
      replace g1 := later hs.below g1
      replace g2 := later hs.below g2
      replace g3 := later hs.below g3
      have hs0 : Stage (fun _ => False) w ([Ob.spine p m L, Ob.doc (.slice a n c) L] ++ [Ob.box b8 #[.int .i64 m, .slice a n c] docT, Ob.box wr.heap.size #[.int .i64 x, .int .i64 y, .int .i64 z, .bool r] 37]) (wr.alloc (.cells #[.int .i64 x, .int .i64 y, .int .i64 z, .bool r] 37)) := hs.alloc _ _
      have hD := do_tr (by omega) x y z r hs0
      have k0 := hs0.cell 2 rfl (o := 0) rfl
      have k1 := hs0.cell 2 rfl (o := 1) rfl
      have d0 := hs0.cell 3 rfl (o := 0) rfl
      have d1 := hs0.cell 3 rfl (o := 1) rfl
      have d2 := hs0.cell 3 rfl (o := 2) rfl
      have d3 := hs0.cell 3 rfl (o := 3) rfl
      clear hs hs0 hact
      go_wp2_with fail
      generalize wr.heap.size = b10 at *
      refine hD.mono ?_
      rintro e w5 ⟨a2, n2, c2, L2, rfl, hs2⟩
      clear hD k0 k1 d0 d1 d2 d3 g0 g1 g2 g3
      have hs3 := hs2.alloc #[.int .i64 m, .slice a2 n2 c2] docT
      replace hs3 : Stage (fun _ => False) w [Ob.spine p m L2, Ob.doc (.slice a2 n2 c2) L2, Ob.box b8 #[.int .i64 m, .slice a n c] docT, Ob.box b10 #[.int .i64 x, .int .i64 y, .int .i64 z, .bool r] 37, Ob.box w5.heap.size #[.int .i64 m, .slice a2 n2 c2] docT] (w5.alloc (.cells #[.int .i64 m, .slice a2 n2 c2] docT)) := hs3
      have j0 := hs3.cell 4 rfl (o := 0) rfl
      have j1 := hs3.cell 4 rfl (o := 1) rfl
      have e0 := hs3.cell 2 rfl (o := 0) rfl
      have e1 := hs3.cell 2 rfl (o := 1) rfl
      have f0 := hs3.free 2 rfl 0
      have f1 := hs3.free 2 rfl 1
      have ne8 := hs3.ne 2 4 rfl rfl (by decide)
      have hs4 := ((hs3.store 2 rfl 0 (.int .i64 m)).store 2 rfl 1 (.slice a2 n2 c2)).take 4
      clear hs2 hs3
      go_wp2_with fail
      go_roundw
      case rel => exact ⟨k + 1, L2, a2, n2, c2, by omega, by go_num, hs4.take 3⟩
      case measure => simp [intOf]; omega
    · have hki : ¬ (k : Int) < n0 := by omega
      obtain ⟨I, hm2⟩ := hs.spineInv 0 rfl
      have hmk := run_make_rows (P := Try.prog) 29 3 (.int .i64 0) 1 8 Try.underlying29 sinfo_int m (by omega) (by omega)
      have hs1 := hs.newRow' 3 1 m (madeCells #[Value.int .i64 0] (m * 1)) (by simp [madeCells]) (by unfold maxLen; omega) (b := wr.heap.size) rfl
      rw [made_rows intC_len (by omega) 0 #[.int .i64 0] rfl m, ← seen_zero m, seen_ext (fun y hy => (done_zero I hy).symm)] at hs1
      replace hs1 : Stage (fun _ => False) w ([Ob.spine p m L, Ob.doc (.slice a n c) L, Ob.box b8 #[.int .i64 m, .slice a n c] docT] ++ [Ob.row 0 3 1 (.slice (some ⟨wr.heap.size, 0, none⟩) m m) m (cellsBy intC (seenL m (doneF L m 0)))]) (wr.alloc (.cells (madeCells #[Value.int .i64 0] (m * 1)) 3)) := hs1
      rw [Nat.mul_one] at hs1
      clear hact
      go_wp2_with fail
      generalize hgs : wr.heap.size = gs at *
      clear hs hmk hgs
      obtain ⟨wo, hwo⟩ : ∃ wo : World, wo = wr := ⟨_, rfl⟩
      clear hwo
      go_loopw [14] (fun i wr => ∃ j : Nat, j ≤ m ∧ i = .int .i64 j ∧ Stage (fun _ => False) w [Ob.spine p m L, Ob.doc (.slice a n c) L, Ob.box b8 #[.int .i64 m, .slice a n c] docT, Ob.row 0 3 1 (.slice (some ⟨gs, 0, none⟩) m m) m (cellsBy intC (seenL m (doneF L m j)))] wr) (fun i _ => m - (intOf i).toNat)
      case atStart => exact ⟨0, Nat.zero_le _, rfl, hs1⟩
      case round =>
        clear hs1
        obtain ⟨j, hj, rfl, hs⟩ := hrel
        by_cases hjm : j < m
        · have hji : (j : Int) < m := by omega
          have hx : inN m (j : Int) := ⟨by omega, by omega⟩
          have hR := hs.ask 0 rfl (fun _ ho => root_sp (j : Int) ho)
          rw [has_in.2 hx, show rootI m L j = rootN L m j by unfold rootI; rw [has_in.2 hx]; rfl] at hR
          by_cases hr : rootN L m j = j
          rotate_left
          · have hr' : (rootN L m j == (j : Int)) = false := by simpa using hr
            have hr2 : (rootN L m j != (j : Int)) = true := by simpa using hr
            have hskip := seen_ext (m := m) (fun y hy => done_skip I hjm hr (y := y) hy)
            rw [← hskip] at hs
            clear I hskip hr
            generalize rootN L m j = R at *
            go_wp2_with fail
            refine hR.mono ?_
            rintro e w5 ⟨rfl, rfl⟩
            clear hR
            go_wp2_with fail
            go_roundw
            case rel => exact ⟨j + 1, by omega, by go_num, hs⟩
            case measure => simp [intOf]; omega
          · rw [hr] at hR
            have hA := hs.askNew (O' := fun v => Ob.ints v (allI m L j)) (r := fun v => v) 0 rfl (fun _ ho => all_sp (j : Int) ho)
            rw [show allI m L j = allL L m j by unfold allI; rw [has_in.2 hx]; rfl] at hA
            have hend := seen_ext (m := m) (fun y hy => part_all I hjm hr (y := y) hy)
            have hstart := seen_ext (m := m) (fun y _ => part_zero L m j y)
            have hpos : 0 < (allL L m j).length := by rw [all_eq I hx]; simp
            have hlen := all_le I hx
            have htree : ∀ i, i < (allL L m j).length → _ := fun i hi => tree_root I hjm hr (mem_getD' (allL L m j) i 0 hi)
            have hstep : ∀ i (y : Nat), i < (allL L m j).length → (allL L m j).getD i 0 = y → y < m → (seenL m (partF L m j i)).set y ((partF L m j i y : Int) + 1) = seenL m (partF L m j (i + 1)) := fun i y hi hy hym => by
              rw [seen_set _ hym]
              refine seen_ext fun z hz => ?_
              rw [part_succ L m j i hi hy z]
              unfold incF
              by_cases e : z = y
              · rw [if_pos e, if_pos (by rw [e])]
              · rw [if_neg e, if_neg (by omega)]
            have hple := part_le L m j
            have hRy := fun wx (h : Stage (fun _ => False) w [Ob.spine p m L, Ob.doc (.slice a n c) L, Ob.box b8 #[.int .i64 m, .slice a n c] docT] wx) y => h.ask 0 rfl (fun _ ho => root_sp y ho)
            have hRoot : ∀ y, inN m y → rootI m L y = rootN L m y ∧ hasN m y = true := fun y hy => ⟨by unfold rootI; rw [has_in.2 hy]; rfl, has_in.2 hy⟩
            rw [← hstart] at hs
            go_wp2_with fail
            refine hR.mono ?_
            rintro e w5 ⟨rfl, rfl⟩
            clear hR
            go_wp2_with fail
            refine hA.mono ?_
            rintro e w5 ⟨va, rfl, hs5⟩
            rw [← hstart] at hs5
            clear hA hs hstart
            obtain ⟨ga, ca, rfl, hca1, hca2, hgal, hcell, _⟩ := hs5.intsAt 4 rfl hpos
            clear hcell
            clear I hr hx
            generalize hLA : allL L m j = LA at *
            clear hLA
            generalize hlA : LA.length = la at *
            generalize partF L m j = pF at *
            generalize rootN L m = rN at *
            go_wp2_with fail
            obtain ⟨wo2, hwo2⟩ : ∃ wo2 : World, wo2 = wr := ⟨_, rfl⟩
            clear hwo2
            go_loopw [88] (fun i wr => ∃ i' : Nat, i' ≤ la ∧ i = .int .i64 i' ∧ Stage (fun _ => False) w [Ob.spine p m L, Ob.doc (.slice a n c) L, Ob.box b8 #[.int .i64 m, .slice a n c] docT, Ob.row 0 3 1 (.slice (some ⟨gs, 0, none⟩) m m) m (cellsBy intC (seenL m (pF i'))), Ob.ints (.slice (some ⟨ga, 0, none⟩) la ca) LA] wr) (fun i _ => la - (intOf i).toNat)
            case atStart => exact ⟨0, Nat.zero_le _, rfl, hs5⟩
            case round =>
              clear hs5
              obtain ⟨i, hi, rfl, hs⟩ := hrel
              by_cases hil : i < la
              · have hii : (i : Int) < la := by omega
                obtain ⟨hyn, hyr⟩ := htree i hil
                obtain ⟨y, hy⟩ : ∃ y : Nat, LA.getD i 0 = y := ⟨(LA.getD i 0).toNat, by have := hyn.1; omega⟩
                rw [hy] at hyn hyr
                have hym : y < m := by have := hyn.2; omega
                have hym' : (y : Int) < m := by omega
                have hym2 : ¬ (m : Int) ≤ y := by omega
                obtain ⟨ga', ca', hv, _, _, _, hcell, _⟩ := hs.intsAt 4 rfl (by rw [hlA]; exact hpos)
                rw [hlA] at hv
                cases hv
                have u0 := hcell i (by rw [hlA]; exact hil)
                rw [hy] at u0
                obtain ⟨gs', cs', hv, _, _, _, _, hcs, hfs⟩ := owns_at intC_len 0 (hs.owns 3 rfl) (seen_len m _) (by omega)
                cases hv
                have u1 := hcs y 0 _ hym (by omega) rfl
                rw [Nat.mul_one, Nat.add_zero, seen_at _ hym] at u1
                have f1 := hfs y
                have hle := hple i y
                have e1 : IntKind.i64.wrap ((pF i y : Int) + 1) = (pF i y : Int) + 1 := IntWalk.i64_in _ (by omega)
                have hst := hstep i y hil hy hym
                have hs6 := hs.storeRow 3 rfl y (.int .i64 ((pF i y : Int) + 1)) (by rw [intC_set, hst])
                have hQ := hRy _ (hs6.take 3) (y : Int)
                rw [(hRoot y hyn).1, (hRoot y hyn).2, hyr] at hQ
                clear hs hcell hcs hfs hstep htree hRy hRoot hple hst hyr hyn
                generalize ((pF i y : Nat) : Int) = q at *
                go_wp2_with fail
                refine hQ.mono ?_
                rintro e w7 ⟨rfl, rfl⟩
                clear hQ
                go_wp2_with fail
                go_roundw
                case rel => exact ⟨i + 1, by omega, by go_num, hs6⟩
                case measure => simp [intOf]; omega
              · have hii : ¬ (i : Int) < la := by omega
                obtain rfl : i = la := by omega
                have hs6 := hs.take 4
                replace hs6 : Stage (fun _ => False) w [Ob.spine p m L, Ob.doc (.slice a n c) L, Ob.box b8 #[.int .i64 m, .slice a n c] docT, Ob.row 0 3 1 (.slice (some ⟨gs, 0, none⟩) m m) m (cellsBy intC (seenL m (pF i)))] wr := hs6
                rw [hend] at hs6
                clear hstep htree hRy hRoot hple hs
                go_wp2_with fail
                go_roundw
                case rel => exact ⟨j + 1, by omega, by go_num, hs6⟩
                case measure => simp [intOf]; omega
        · have hji : ¬ (j : Int) < m := by omega
          obtain rfl : j = m := by omega
          rw [seen_ext (fun y hy => done_all I (y := y) hy)] at hs
          go_wp2_with fail
          obtain ⟨wo3, hwo3⟩ : ∃ wo3 : World, wo3 = wr := ⟨_, rfl⟩
          clear hwo3
          go_loopw [117] (fun i wr => ∃ i' : Nat, i' ≤ j ∧ i = .int .i64 i' ∧ Stage (fun _ => False) w [Ob.spine p j L, Ob.doc (.slice a n c) L, Ob.box b8 #[.int .i64 j, .slice a n c] docT, Ob.row 0 3 1 (.slice (some ⟨gs, 0, none⟩) j j) j (cellsBy intC (seenL j (fun _ => 1)))] wr) (fun i _ => j - (intOf i).toNat)
          case atStart => exact ⟨0, Nat.zero_le _, rfl, hs⟩
          case round =>
            clear hs
            obtain ⟨i, hi, rfl, hs⟩ := hrel
            by_cases hil : i < j
            · have hii : (i : Int) < j := by omega
              obtain ⟨gs', cs', hv, _, _, _, _, hcs, _⟩ := owns_at intC_len 0 (hs.owns 3 rfl) (seen_len j _) (by omega)
              cases hv
              have u1 := hcs i 0 _ hil (by omega) rfl
              rw [Nat.mul_one, Nat.add_zero, seen_at _ hil] at u1
              replace u1 : wr.cell? ⟨gs, i, none⟩ = some (.int .i64 1) := u1
              clear hcs I
              go_wp2_with fail
              go_roundw
              case rel => exact ⟨i + 1, by omega, by go_num, hs⟩
              case measure => simp [intOf]; omega
            · have hii : ¬ (i : Int) < j := by omega
              go_wp2_with fail
              go_ret
              exact ⟨rfl, hs.below⟩
end Go.Proofs.Ytkagchnhjjcgbaa
