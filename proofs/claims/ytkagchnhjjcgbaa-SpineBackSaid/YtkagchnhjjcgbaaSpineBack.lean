/- SpineBack, walked: what is cut and hung again where it was is as it was; what is turned twice, too. (Written by gen_walks.py.) -/
import Derived.Test.YtkagchnhjjcgbaaSpineWalk
import Derived.Test.YtkagchnhjjcgbaaSpineBackMath
namespace Go.Proofs.Ytkagchnhjjcgbaa
open Go.RowKit Go.Sort

set_option maxRecDepth 100000 in
set_option maxHeartbeats 8000000 in
theorem spineBack_walk (C : Nat) (hC : C ≤ 255) (a0 : Option Addr) (n0 cap : Nat) (hcap : n0 ≤ cap ∧ cap ≤ 9223372036854775807) (x0 : Int) (w : World) (hact : SpineActsAt w a0 n0) :
    Calls Try.prog 6 #[.int .u8 C, .slice a0 n0 cap, .int .i64 x0] w fun e w' => e = .returned (.bool true) ∧ Below w.heap.size w w' := by
  obtain ⟨hcap1, hcap2⟩ := hcap
  obtain ⟨m, hm⟩ : ∃ m, m = C % 24 := ⟨_, rfl⟩
  have hm24 : m < 24 := by omega
  have q1 : Int.tmod (C : Int) 24 = (m : Int) := by rw [hm]; exact (Int.ofNat_tmod C 24).symm
  clear hm
  go_enter Try.func6, Try.ntmps6
  go_wp2_with fail
  refine (spineAlive_any w).mono ?_
  rintro e w1 ⟨rfl, hb⟩
  go_wp2_with fail
  refine (((Stage.start w).later hb).newSpine m (by omega)).mono ?_
  rintro e w2 ⟨p, rfl, hs⟩
  simp only [List.nil_append] at hs
  by_cases h60 : (60 : Int) < n0
  · go_wp2_with fail
    go_ret
    exact ⟨rfl, hs.below⟩
  have hn60 : n0 ≤ 60 := by omega
  replace hs : Stage (fun _ => False) w [Ob.spine p m [], Ob.doc nilV [], Ob.box w2.heap.size #[.int .i64 m, nilV] docT] (w2.alloc (.cells #[.int .i64 m, nilV] docT)) := hs.nilDoc.alloc _ _
  go_wp2_with fail
  generalize w2.heap.size = b8 at *
  go_loopw [53] (fun i wr => ∃ (k : Nat) (L : List Hg) (a : Option Addr) (n c : Nat), k ≤ n0 ∧ i = .int .i64 k ∧ Stage (fun _ => False) w [Ob.spine p m L, Ob.doc (.slice a n c) L, Ob.box b8 #[.int .i64 m, .slice a n c] docT] wr) (fun i _ => n0 - (intOf i).toNat)
  case atStart => exact ⟨0, [], none, 0, 0, Nat.zero_le _, rfl, hs⟩
  case round =>
    clear hs hb
    obtain ⟨k, L, a, n, c, hk, rfl, hs⟩ := hrel
    by_cases hlt : k < n0
    · have hki : (k : Int) < n0 := by omega
      obtain ⟨ba, offa, x, y, z, r, rfl, g0, g1, g2, g3⟩ := hact k hlt
      replace g0 := later hs.below g0
      replace g1 := later hs.below g1
      replace g2 := later hs.below g2
      replace g3 := later hs.below g3
      have hs0 : Stage (fun _ => False) w ([Ob.spine p m L, Ob.doc (.slice a n c) L] ++ [Ob.box b8 #[.int .i64 m, .slice a n c] docT, Ob.box wr.heap.size #[.int .i64 x, .int .i64 y, .int .i64 z, .bool r] 37]) (wr.alloc (.cells #[.int .i64 x, .int .i64 y, .int .i64 z, .bool r] 37)) := hs.alloc _ _
      have hD := do_tr (by omega) x y z r hs0
      have k0 := hs0.cell 2 rfl (o := 0) rfl
      have k1 := hs0.cell 2 rfl (o := 1) rfl
      have d0 := hs0.cell 3 rfl (o := 0) rfl
      have d1 := hs0.cell 3 rfl (o := 1) rfl
      have d2 := hs0.cell 3 rfl (o := 2) rfl
      have d3 := hs0.cell 3 rfl (o := 3) rfl
      clear hs hs0 hact
      go_wp2_with fail
      generalize wr.heap.size = b10 at *
      refine hD.mono ?_
      rintro e w5 ⟨a2, n2, c2, L2, rfl, hs2⟩
      clear hD k0 k1 d0 d1 d2 d3 g0 g1 g2 g3
      have hs3 := hs2.alloc #[.int .i64 m, .slice a2 n2 c2] docT
      replace hs3 : Stage (fun _ => False) w [Ob.spine p m L2, Ob.doc (.slice a2 n2 c2) L2, Ob.box b8 #[.int .i64 m, .slice a n c] docT, Ob.box b10 #[.int .i64 x, .int .i64 y, .int .i64 z, .bool r] 37, Ob.box w5.heap.size #[.int .i64 m, .slice a2 n2 c2] docT] (w5.alloc (.cells #[.int .i64 m, .slice a2 n2 c2] docT)) := hs3
      have j0 := hs3.cell 4 rfl (o := 0) rfl
      have j1 := hs3.cell 4 rfl (o := 1) rfl
      have e0 := hs3.cell 2 rfl (o := 0) rfl
      have e1 := hs3.cell 2 rfl (o := 1) rfl
      have f0 := hs3.free 2 rfl 0
      have f1 := hs3.free 2 rfl 1
      have ne8 := hs3.ne 2 4 rfl rfl (by decide)
      have hs4 := ((hs3.store 2 rfl 0 (.int .i64 m)).store 2 rfl 1 (.slice a2 n2 c2)).take 4
      clear hs2 hs3
      go_wp2_with fail
      go_roundw
      case rel => exact ⟨k + 1, L2, a2, n2, c2, by omega, by go_num, hs4.take 3⟩
      case measure => simp [intOf]; omega
    · have hki : ¬ (k : Int) < n0 := by omega
      obtain ⟨I, hm2⟩ := hs.spineInv 0 rfl
      clear hact
      replace hs := hs.take 1
      replace hs : Stage (fun _ => False) w [Ob.spine p m L] wr := hs
      have hU := hs.askB 0 rfl (fun _ ⟨_, h1, h2, hg⟩ => (sp_up (q := []) (Ob.group.open hg) h1 h2 x0).mono fun e w' ⟨h3, h4⟩ => ⟨h3, h4 ▸ Below.refl _ _⟩)
      cases hu : upL L x0 with
      | none =>
        rw [hu] at hU
        clear I hs
        go_wp2_with fail
        refine hU.mono ?_
        rintro e w5 ⟨rfl, hs⟩
        clear hU
        go_wp2_with fail
        go_ret
        exact ⟨rfl, hs.below⟩
      | some b =>
        rw [hu] at hU
        obtain ⟨hx, hb⟩ := up_in I hu
        have hr := steps_in I m hx
        have g1 := back_len I hu
        have g2 := cut_not_above I hu
        obtain ⟨g3, g4⟩ := again_hang I hu
        have g5 := again_inv I hu
        have g6 := again_all I hu m (rootN L m x0)
        obtain ⟨g7, g8⟩ := again_no I hu
        have r1 : rootI m L x0 = rootN L m x0 := by unfold rootI; rw [has_in.2 hx]; rfl
        have r2 : ∀ M y, inN m y → allI m M y = allL M m y := fun M y hy => by unfold allI; rw [has_in.2 hy]; rfl
        have r3 : inN m (rootN L m x0) := hr
        have l1 := all_le I r3
        have l2 := all_le (inv_cut I x0) hx
        clear hs
        go_wp2_with fail
        refine hU.mono ?_
        rintro e w5 ⟨rfl, hs⟩
        clear hU
        have hC := hs.ask 0 rfl (fun _ ho => root_sp x0 ho)
        rw [r1, has_in.2 hx] at hC
        generalize hR : rootN L m x0 = R at *
        go_wp2_with fail
        refine hC.mono ?_
        rintro e w6 ⟨rfl, rfl⟩
        clear hC
        have hC := hs.askNew (O' := fun v => Ob.ints v (allI m L R)) (r := fun v => v) 0 rfl (fun _ ho => all_sp (R) ho)
        rw [r2 L R r3] at hC
        go_wp2_with fail
        refine hC.mono ?_
        rintro e w7 ⟨v7, rfl, hs⟩
        clear hC
        obtain ⟨a7, c7, rfl, _, _⟩ := hs.intsForm 1 rfl
        have hC := hs.askB 0 rfl (fun _ ⟨_, h1, h2, hg⟩ => (sp_right (q := []) (Ob.group.open hg) h1 h2 b).mono fun e w' ⟨h3, h4⟩ => ⟨h3, h4 ▸ Below.refl _ _⟩)
        have hsb : sideB L b x0 = ((kidL L b true).isSome && ((kidL L b true).getD 0 == x0)) := rfl
        generalize sideB L b x0 = sb at *
        generalize (kidL L b true).getD 0 = z at *
        generalize (kidL L b true).isSome = zb at *
        go_wp2_with fail
        refine hC.mono ?_
        rintro e w8 ⟨rfl, hs⟩
        clear hC
        have hC := hs.call 0 rfl (fun _ ho => cut_sp x0 ho)
        rw [hu] at hC
        have hsb2 : zb = false ∧ sb = false ∨ zb = true ∧ (z == x0) = sb := by
          cases zb
          · exact Or.inl ⟨rfl, by simpa using hsb⟩
          · exact Or.inr ⟨rfl, by simpa using hsb.symm⟩
        have hH := fun wr F (ho : (Ob.spine p m (cutL L x0)).holds wr F) => hang_sp b x0 sb (Or.inl g2) ho
        have hH2 := fun wr F (ho : (Ob.spine p m (againL L b x0)).holds wr F) => hang_sp b x0 sb (Or.inl g7) ho
        rw [g3, g4] at hH
        rw [nope g8, g8] at hH2
        clear hsb g2 g3 g4 g7 g8
        rcases hsb2 with ⟨rfl, rfl⟩ | ⟨rfl, hzx⟩
        all_goals
          go_wp2_with fail
          refine hC.mono ?_
          rintro e w9 ⟨rfl, hs⟩
          clear hC
          have hC := hs.askNew (O' := fun v => Ob.ints v (allI m (cutL L x0) x0)) (r := fun v => v) 0 rfl (fun _ ho => all_sp (x0) ho)
          rw [r2 _ x0 hx] at hC
          go_wp2_with fail
          refine hC.mono ?_
          rintro e w10 ⟨v10, rfl, hs⟩
          clear hC
          obtain ⟨a10, c10, rfl, _, _⟩ := hs.intsForm 2 rfl
          have hC := hs.askNew (O' := fun v => Ob.ints v (allI m (cutL L x0) R)) (r := fun v => v) 0 rfl (fun _ ho => all_sp (R) ho)
          rw [r2 _ R r3] at hC
          go_wp2_with fail
          refine hC.mono ?_
          rintro e w11 ⟨v11, rfl, hs⟩
          clear hC
          obtain ⟨a11, c11, rfl, _, _⟩ := hs.intsForm 3 rfl
          have hN1 : IntKind.i64.wrap (((allL (cutL L x0) m x0).length : Int) + (allL (cutL L x0) m R).length) = (allL L m R).length := by
            rw [IntWalk.i64_in _ (by omega)]; omega
          have hcH := hs.call 0 rfl (fun _ ho => hH _ _ ho)
          clear g1 l1 l2 hH
          generalize (allL (cutL L x0) m x0).length = N1 at *
          generalize (allL (cutL L x0) m R).length = N2 at *
          generalize hN3 : (allL L m R).length = N3 at *
          go_wp2_with fail
          refine hcH.mono ?_
          rintro e w12 ⟨rfl, hs⟩
          clear hcH hN1
          have hC := hs.call 0 rfl (fun _ ho => hH2 _ _ ho)
          clear hH2
          go_wp2_with fail
          refine hC.mono ?_
          rintro e w13 ⟨rfl, hs⟩
          clear hC
          have hC := hs.call 0 rfl (fun _ ho => turn_sp b ho)
          rw [has_in.2 hb] at hC
          go_wp2_with fail
          refine hC.mono ?_
          rintro e w14 ⟨rfl, hs⟩
          clear hC
          have hC := hs.call 0 rfl (fun _ ho => turn_sp b ho)
          rw [has_in.2 hb, turn_turn] at hC
          go_wp2_with fail
          refine hC.mono ?_
          rintro e w15 ⟨rfl, hs⟩
          clear hC
          have hC := hs.askNew (O' := fun v => Ob.ints v (allI m (againL L b x0) R)) (r := fun v => v) 0 rfl (fun _ ho => all_sp (R) ho)
          rw [r2 _ R r3, g6] at hC
          go_wp2_with fail
          refine hC.mono ?_
          rintro e w16 ⟨v16, rfl, hs⟩
          clear hC
          obtain ⟨a16, c16, rfl, _, _⟩ := hs.intsForm 4 rfl
          have hC := same_any hs 4 1 rfl rfl
          rw [decide_eq_true rfl] at hC
          rw [hN3] at hC
          rw [hN3]
          go_wp2_with fail
          refine hC.mono ?_
          rintro e w17 ⟨rfl, hb9⟩
          replace hs := hs.later hb9
          clear hC
          go_wp2_with fail
          go_ret
          exact ⟨rfl, hs.below⟩
end Go.Proofs.Ytkagchnhjjcgbaa
