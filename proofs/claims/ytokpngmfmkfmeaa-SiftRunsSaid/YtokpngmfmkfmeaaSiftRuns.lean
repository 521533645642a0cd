/- SiftRuns, walked: whatever comes in and out of a row of things. (Written by gen_runs.py.) -/
import Derived.Test.YtokpngmfmkfmeaaSiftRunsAt
namespace Go.Proofs.Ytokpngmfmkfmeaa
open Go.RowKit Go.Sort

set_option maxRecDepth 100000 in
set_option maxHeartbeats 8000000 in
theorem runs_main (dn : Nat) (hd : 2 ≤ dn ∧ dn ≤ 16) (la : Option Addr) (N cap : Nat) (hn : ¬ 80 < N) (W : World) (hact : ActsAt W la N) :
    Calls Try.prog 4 #[.int .i64 dn, .slice la N cap] W fun e w' => e = .returned (.bool true) ∧ Below W.heap.size W w' := by
  have hAl := alive_c W
  have p7 := right_c dn
  rw [rightD_iff.2 (show 2 ≤ (dn : Int) ∧ (dn : Int) ≤ 16 by omega)] at p7
  have hN := fun w (hb : Below W.heap.size W w) => new_st ((Stage.start W).later hb) dn hd
  have hmm := @run_makeMap Try.prog
  have hn' : ¬ (80 : Int) < N := by omega
  go_enter Try.func4, Try.ntmps4
  go_wp2_with fail
  refine hAl.mono ?_
  rintro e w1 ⟨rfl, hb⟩
  clear hAl
  go_wp2_with fail
  refine (hN _ hb).mono ?_
  rintro e w2 ⟨rfl, hs⟩
  clear hN hb
  rw [List.nil_append] at hs
  have hs1 := (new_keys hs).emptyRow 3 1
  obtain ⟨w3, hw3⟩ : ∃ w3, ((w2.alloc (.map #[] 0)).alloc (.cells #[.map (some w2.heap.size), .int .i64 0] 37)).alloc (.cells #[] 3) = w3 := ⟨_, rfl⟩
  rw [hw3] at hs1
  replace hs1 : Stage (fun _ => False) W (soundL (w1.heap.size + 1) w1.heap.size (.slice none 0 0) dn [] (w2.heap.size + 1) w2.heap.size (fun _ => none) 0 0 (.slice (some ⟨w2.heap.size + 1 + 1, 0, none⟩) 0 0) [] []) w3 := by
    rw [size_alloc, size_alloc] at hs1
    exact hs1
  generalize hpe : w2.heap.size + 1 = p at *
  generalize hke : w2.heap.size = km at *
  generalize w1.heap.size + 1 = r at *
  generalize w1.heap.size = bm at *
  clear hs
  go_wp2_with fail
  refine (p7 _).mono ?_
  rintro e w4 ⟨rfl, rfl⟩
  go_wp2_with fail
  clear p7
  go_loopw [8, 51] (fun tv i wr => ∃ k : Nat, i = .int .i64 k ∧ k ≤ N ∧ RunSt W r bm p km dn k tv wr) (fun _ i _ => N - (intOf i).toNat)
  case atStart => exact ⟨0, rfl, Nat.zero_le _, _, [], _, 0, 0, [], Nat.le_refl _, Nat.le_refl _, List.Perm.refl _, List.nodup_nil, by simp, heap_nil, fun y => by simp [keyOfF, inInt], by omega, hs1⟩
  case round =>
    clear hs1 hw3 hpe hke hmm
    obtain ⟨k, rfl, hk, v, l, f, n, s, m, hnk, hmk, hp, hnd, hin, hH, hfr, hsk, hs⟩ := hrel
    by_cases hkn : k < N
    · have hki : (k : Int) < N := by omega
      obtain ⟨ba, off, kd, x, ky, rfl, u0, u1, u2, hkd, hx, hky⟩ := hact k hkn
      replace u0 := later hs.below u0
      replace u1 := later hs.below u1
      replace u2 := later hs.below u2
      have hsb := hs.alloc #[.int .i64 kd, .int .i64 x, .int .i64 ky] 40
      obtain ⟨wr1, hwr1⟩ : ∃ w9 : World, wr.alloc (.cells #[.int .i64 kd, .int .i64 x, .int .i64 ky] 40) = w9 := ⟨_, rfl⟩
      rw [hwr1] at hsb
      generalize hbA : wr.heap.size = bA at *
      replace hsb : Stage (fun _ => False) W (soundL r bm v dn (l) p km (f) (n) (s) _ (m) [Ob.box bA #[.int .i64 kd, .int .i64 x, .int .i64 ky] 40]) wr1 := hsb
      have hml := Lib.hid hp.length_eq.symm
      have hmN : m.length ≤ 80 := by omega
      have I := rowIn_perm hp hnd hin (by omega)
      have e1 : IntKind.i64.wrap ((k : Int) + 1) = ((k + 1 : Nat) : Int) := IntWalk.i64_in _ (by omega)
      obtain ⟨ta, tc, rfl, ht1, ht2, _⟩ := row_form hs 4 (m := m) rfl
      obtain ⟨kc0, kc1, _⟩ := keys_cells hsb 3 rfl
      have c1 := hsb.cell 5 rfl (o := 1) rfl
      have c0 := hsb.cell 5 rfl (o := 0) rfl
      clear hs hact
      have hHas := fun j => has_st (hsb.drewN j) 4 m _ rfl x
      by_cases hx0 : kd = 0
      · subst hx0
        cases hB : hasL m x
        · clear ht1
          rw [hB] at hHas
          go_wp2_with fail
          go_quiet (fail)
          have hs5 := hsb.drewN nq
          go_wp2_with fail
          refine (hHas _).mono ?_
          rintro e w5 ⟨rfl, rfl⟩
          clear hHas hsb hwr1 u0 u1 u2 kc0 kc1
          generalize wr1.drewN nq = w5 at *
          clear c0 c1
          have d0 := hs5.cell 5 rfl (o := 0) rfl
          have d1 := hs5.cell 5 rfl (o := 1) rfl
          have d2 := hs5.cell 5 rfl (o := 2) rfl
          obtain ⟨kc0, _, kl⟩ := keys_cells hs5 3 rfl
          obtain ⟨_, _, kl2⟩ := keys_cells hs5.drew 3 rfl
          have lx := kl2 x hx
          have hs6 := Stage.ungroup (l := [_, _, _, _, _]) (m := [_, _]) (hs5.drew.select [0, 1, 2, 4, 5, 3] (by decide) rfl)
          obtain ⟨n1, hn1, hn1b⟩ : ∃ n1, Hid ((if (f x).isSome = true then n else n + 1) = n1) ∧ n1 ≤ n + 1 := ⟨_, Lib.hid rfl, by split <;> omega⟩
          obtain ⟨f1, hf1⟩ : ∃ f1, Hid (setZ f x (some (ky)) = f1) := ⟨_, Lib.hid rfl⟩
          clear kl kl2
          have hf1e : ∀ y, y ≠ x → keyOfF f1 y = keyOfF f y := fun y hy => by rw [← hf1.out]; unfold keyOfF; rw [setZ_other _ _ hy]
          have hfr1 : ∀ y, inInt (keyOfF f1 y) := fun y => by
            by_cases h : y = x
            · rw [← hf1.out, h]
              show inInt ((setZ f x (some ky) x).getD 0)
              rw [setZ_same]; exact hky
            · rw [hf1e y h]; exact hfr y
          have hxm : x ∉ m := hasL_not.1 hB
          have hxl : x ∉ l := fun h => hxm (hp.mem_iff.1 h)
          have hH1 : Heap dn (ltK (keyOfF f1)) l := heap_congr (by omega) (ltK_else (x := x) hf1e hxl) hH
          go_wp2_with fail
          go_still_tail 8, (by kernel_rfl)
          change wpList _ _ _ _ _ w5.drew
          go_wp2_with (at_mapUpdate; refine Stage.wp_putZ' n1 f1 hs6 6 rfl rfl _ _ _ rfl Try.underlying35 Try.underlying3 Try.underlying2 (by unfold maxLen; omega) rfl x (ky) rfl rfl hx (hky) hn1 hf1 ?_)
          intro w6 hs7
          have hs8 : Stage (fun _ => False) W (soundL r bm v dn (l) p km (f1) (n1) (s) _ (m) [Ob.box bA #[.int .i64 0, .int .i64 x, .int .i64 ky] 40]) w6 := (Stage.regroup (l := [_, _, _, _, _]) (m := [_, _]) hs7).select [0, 1, 2, 5, 3, 4] (by decide) rfl
          clear hs6 hs7 d0 d1 d2 kc0 lx hs5
          have d1 := hs8.cell 5 rfl (o := 1) rfl
          have hA := hs8.later (below_alloc1 (o := .cells #[.int .i64 x] 3) (Below.refl _ _))
          have hr := reads_new w6 #[.int .i64 x] 3 1 1 w6.heap.size rfl rfl
          have hcs := Lib.hid (show cellsBy intC m ++ [.int .i64 x] = cellsBy intC (m ++ [x]) by rw [cellsBy_append, cellsBy_one]; rfl)
          have hlm : (m ++ [x]).length = m.length + 1 := by simp
          replace hlm := Lib.hid hlm
          go_wp2_with (at_builtin; refine hA.wp_append 4 rfl rfl _ _ 38 rfl (.int .i64 0) 8 Try.underlying38 info_int rfl (by decide) (Nat.zero_le _) rfl _ 1 [.int .i64 x] rfl hr (by intro u hu; simp at hu; subst hu; rfl) (by unfold maxLen; omega) (by omega) ?_)
          intro tv2 w7 hs9 _
          have hs10 : Stage (fun _ => False) W (soundL r bm v dn (l) p km (f1) (n1) (s) tv2 (m ++ [x]) [Ob.box bA #[.int .i64 0, .int .i64 x, .int .i64 ky] 40]) w7 := by
            unfold soundL
            rw [← hcs.out, hlm.out]
            exact hs9
          clear hA hr hs8 hs9 d1
          obtain ⟨ta2, tc2, htv2, _, _, _⟩ := row_form hs10 4 (m := m ++ [x]) rfl
          rw [hlm.out] at htv2
          subst htv2
          have d1 := hs10.cell 5 rfl (o := 1) rfl
          have e4 : IntKind.i64.wrap (((m.length : Nat) : Int) + 1) = ((m.length + 1 : Nat) : Int) := IntWalk.i64_in _ (by omega)
          have qd := refdepth_c dn ((m.length + 1 : Nat) : Int) w7
          rw [depthD_nat hd.1 hd.2 (by omega), Nat.add_sub_cancel] at qd
          have hdl := depth_le (d := dn) (by omega) m.length
          have hp1 : (l ++ [x]).Perm (m ++ [x]) := hp.append_right _
          have hnd1 : (m ++ [x]).Nodup := nodup_add hnd hB
          have hin1 : ∀ y ∈ m ++ [x], inInt y := fun y hy => by
            rcases List.mem_append.1 hy with h | h
            · exact hin y h
            · rw [List.mem_singleton.1 h]; exact hx
          have qa := add_st (keys_asks p km f1 n1) hd hs10 x (rowIn_perm hp1 hnd1 hin1 (by rw [hlm.out]; omega)) (strictM_keys _ _) hH1
          rw [hml.out] at hdl qd
          rw [← hml.out] at hdl qd
          go_wp2_with fail
          refine qd.mono ?_
          rintro e w8 ⟨rfl, rfl⟩
          clear qd
          go_wp2_with fail
          refine qa.mono ?_
          rintro e w8 ⟨v1, l1, s1, rfl, hp2, _, hw, hH2, hs11⟩
          rw [← hml.out] at hw
          have hsc := within_count hw hsk.1 (by omega) (by omega)
          clear qa hs10 d1 hw
          have hp3 := hp2.trans hp1
          generalize hmx : m ++ [x] = m1 at *
          have I1 := rowIn_perm hp3 hnd1 hin1 (by rw [hlm.out]; omega)
          clear hmx
          generalize hdx : depthI dn m.length = dx at *
          clear hdx
          have t1 := place_st hs11 x hx
          rw [place_isSome, has_perm hp3] at t1
          have t2 := has_st hs11 4 (m1) _ rfl x
          have t3 := heap_st hd hs11 I1 hp3 hH2
          obtain ⟨_, t4, _⟩ := keys_cells hs11 3 rfl
          have t5 := hs11.cell 5 rfl (o := 1) rfl
          have t6 : IntKind.i64.wrap (s1 - s) = s1 - s := IntWalk.i64_in _ (by omega)
          have t7 : ¬ ((dx : Int)) < s1 - s := by omega
          generalize hasL (m1) x = B2 at *
          generalize (placeL (l1) x).getD 0 = py at *
          go_wp2_with fail
          refine t1.mono ?_
          rintro e v1 ⟨rfl, rfl⟩
          clear t1
          go_wp2_with fail
          refine t2.mono ?_
          rintro e v1 ⟨rfl, rfl⟩
          clear t2
          go_wp2_with fail
          refine t3.mono ?_
          rintro e v2 ⟨rfl, hs9⟩
          clear t3
          go_wp2_with fail
          go_roundw
          case rel => exact ⟨k + 1, by go_num, by omega, v1, l1, f1, n1, s1, m1, (by omega), (by rw [hlm.out]; omega), hp3, hnd1, hin1, hH2, hfr1, by omega, drop_box hs9⟩
          case measure => simp [intOf]; omega
        · clear ht1
          rw [hB] at hHas
          go_wp2_with fail
          go_quiet (fail)
          have hs5 := hsb.drewN nq
          go_wp2_with fail
          refine (hHas _).mono ?_
          rintro e w5 ⟨rfl, rfl⟩
          clear hHas hsb hwr1 u0 u1 u2 kc0 kc1
          generalize wr1.drewN nq = w5 at *
          clear c0 c1
          have d0 := hs5.cell 5 rfl (o := 0) rfl
          have d1 := hs5.cell 5 rfl (o := 1) rfl
          have d2 := hs5.cell 5 rfl (o := 2) rfl
          have q1 := add_no hs5 (.iface 34 (ptrV p)) x hx (hp.mem_iff.2 (hasL_iff.1 hB))
          go_wp2_with fail
          refine q1.mono ?_
          rintro e w6 ⟨rfl, rfl⟩
          clear q1
          have t1 := place_st hs5 x hx
          rw [place_isSome, has_perm hp] at t1
          have t2 := has_st hs5 4 (m) _ rfl x
          have t3 := heap_st hd hs5 I hp hH
          obtain ⟨_, t4, _⟩ := keys_cells hs5 3 rfl
          have t5 := hs5.cell 5 rfl (o := 1) rfl
          have t6 : IntKind.i64.wrap (s - s) = s - s := IntWalk.i64_in _ (by omega)
          have t7 : ¬ ((0 : Int)) < s - s := by omega
          generalize hasL (m) x = B2 at *
          generalize (placeL (l) x).getD 0 = py at *
          go_wp2_with fail
          refine t1.mono ?_
          rintro e v1 ⟨rfl, rfl⟩
          clear t1
          go_wp2_with fail
          refine t2.mono ?_
          rintro e v1 ⟨rfl, rfl⟩
          clear t2
          go_wp2_with fail
          refine t3.mono ?_
          rintro e v2 ⟨rfl, hs9⟩
          clear t3
          go_wp2_with fail
          go_roundw
          case rel => exact ⟨k + 1, by go_num, by omega, v, l, f, n, s, m, (by omega), (by omega), hp, hnd, hin, hH, hfr, by omega, drop_box hs9⟩
          case measure => simp [intOf]; omega
      · by_cases hx1 : kd = 1
        · subst hx1
          cases hB : hasL m x
          · clear ht1
            rw [hB] at hHas
            go_wp2_with fail
            go_quiet (fail)
            have hs5 := hsb.drewN nq
            go_wp2_with fail
            refine (hHas _).mono ?_
            rintro e w5 ⟨rfl, rfl⟩
            clear hHas hsb hwr1 u0 u1 u2 kc0 kc1
            generalize wr1.drewN nq = w5 at *
            clear c0 c1
            have d0 := hs5.cell 5 rfl (o := 0) rfl
            have d1 := hs5.cell 5 rfl (o := 1) rfl
            have d2 := hs5.cell 5 rfl (o := 2) rfl
            have q1 := remove_no hs5 (.iface 34 (ptrV p)) x hx (fun h => hasL_not.1 hB (hp.mem_iff.1 h))
            go_wp2_with fail
            refine q1.mono ?_
            rintro e w6 ⟨rfl, rfl⟩
            clear q1
            have t1 := place_st hs5 x hx
            rw [place_isSome, has_perm hp] at t1
            have t2 := has_st hs5 4 (m) _ rfl x
            have t3 := heap_st hd hs5 I hp hH
            obtain ⟨_, t4, _⟩ := keys_cells hs5 3 rfl
            have t5 := hs5.cell 5 rfl (o := 1) rfl
            have t6 : IntKind.i64.wrap (s - s) = s - s := IntWalk.i64_in _ (by omega)
            have t7 : ¬ ((0 : Int)) < s - s := by omega
            generalize hasL (m) x = B2 at *
            generalize (placeL (l) x).getD 0 = py at *
            go_wp2_with fail
            refine t1.mono ?_
            rintro e v1 ⟨rfl, rfl⟩
            clear t1
            go_wp2_with fail
            refine t2.mono ?_
            rintro e v1 ⟨rfl, rfl⟩
            clear t2
            go_wp2_with fail
            refine t3.mono ?_
            rintro e v2 ⟨rfl, hs9⟩
            clear t3
            go_wp2_with fail
            go_roundw
            case rel => exact ⟨k + 1, by go_num, by omega, v, l, f, n, s, m, (by omega), (by omega), hp, hnd, hin, hH, hfr, by omega, drop_box hs9⟩
            case measure => simp [intOf]; omega
          · clear ht1
            rw [hB] at hHas
            go_wp2_with fail
            go_quiet (fail)
            have hs5 := hsb.drewN nq
            go_wp2_with fail
            refine (hHas _).mono ?_
            rintro e w5 ⟨rfl, rfl⟩
            clear hHas hsb hwr1 u0 u1 u2 kc0 kc1
            generalize wr1.drewN nq = w5 at *
            clear c0 c1
            have d0 := hs5.cell 5 rfl (o := 0) rfl
            have d1 := hs5.cell 5 rfl (o := 1) rfl
            have d2 := hs5.cell 5 rfl (o := 2) rfl
            obtain ⟨i, hi, hxi⟩ := mem_rat (hp.mem_iff.2 (hasL_iff.1 hB))
            have qd := refdepth_c dn ((m.length : Nat) : Int) w5
            rw [depthD_nat hd.1 hd.2 (by omega)] at qd
            have hdl := depth_le (d := dn) (by omega) (m.length - 1)
            have hml2 : depthI dn (l.length - 1) = depthI dn (m.length - 1) := by rw [hml.out]
            generalize hdx : depthI dn (m.length - 1) = dx at *
            obtain ⟨M, hM⟩ : ∃ M, M = dn * dx := ⟨_, rfl⟩
            have hMl : M ≤ 16 * 80 := by rw [hM]; exact Nat.mul_le_mul (by omega) (by omega)
            have e5 : IntKind.i64.wrap ((dn : Int) * (dx : Int)) = (M : Int) := by rw [← Int.natCast_mul, ← hM]; exact IntWalk.i64_in _ (by omega)
            have e6 : IntKind.i64.wrap ((M : Int) + 1) = ((M + 1 : Nat) : Int) := IntWalk.i64_in _ (by omega)
            have qw := without_st hs5 4 m _ rfl x (by omega)
            have hpw : (withoutL l x).Perm (withoutL m x) := hp.filter _
            have hndw := without_nodup (x := x) hnd
            have hinw : ∀ y ∈ withoutL m x, inInt y := fun y hy => hin y (mem_without.1 hy).1
            have hlw := without_le m x
            generalize hwm : withoutL m x = m1 at *
            clear hwm
            replace hM := Lib.hid hM
            replace hml2 := Lib.hid hml2
            clear hdx
            go_wp2_with fail
            refine qd.mono ?_
            rintro e w6 ⟨rfl, rfl⟩
            clear qd
            go_wp2_with fail
            refine qw.mono ?_
            rintro e w6 ⟨tv2, rfl, hs6⟩
            have hs7 : Stage (fun _ => False) W (soundL r bm v dn (l) p km (f) (n) (s) tv2 (m1) [Ob.box bA #[.int .i64 1, .int .i64 x, .int .i64 ky] 40]) w6 := hs6.select [0, 1, 2, 3, 6, 5] (by decide) rfl
            clear qw hs5 hs6 d0 d1 d2
            obtain ⟨ta2, tc2, rfl, _, _, _⟩ := row_form hs7 4 (m := m1) rfl
            have d1 := hs7.cell 5 rfl (o := 1) rfl
            have qr := remove_st (keys_asks p km f n) hd hs7 I (strictM_keys _ _) hH i hi
            rw [hxi, hml2.out, ← hM.out] at qr
            clear hs7
            go_wp2_with fail
            refine qr.mono ?_
            rintro e w7 ⟨v1, l1, s1, rfl, hp2, _, hw, hH2, hs8⟩
            have hsc := within_count hw hsk.1 (by omega) (by omega)
            clear qr hw d1
            have hp3 := hp2.trans hpw
            have I1 := rowIn_perm hp3 hndw hinw (by omega)
            generalize hM1 : M + 1 = M1 at *
            have t1 := place_st hs8 x hx
            rw [place_isSome, has_perm hp3] at t1
            have t2 := has_st hs8 4 (m1) _ rfl x
            have t3 := heap_st hd hs8 I1 hp3 hH2
            obtain ⟨_, t4, _⟩ := keys_cells hs8 3 rfl
            have t5 := hs8.cell 5 rfl (o := 1) rfl
            have t6 : IntKind.i64.wrap (s1 - s) = s1 - s := IntWalk.i64_in _ (by omega)
            have t7 : ¬ ((M1 : Int)) < s1 - s := by omega
            generalize hasL (m1) x = B2 at *
            generalize (placeL (l1) x).getD 0 = py at *
            go_wp2_with fail
            refine t1.mono ?_
            rintro e v1 ⟨rfl, rfl⟩
            clear t1
            go_wp2_with fail
            refine t2.mono ?_
            rintro e v1 ⟨rfl, rfl⟩
            clear t2
            go_wp2_with fail
            refine t3.mono ?_
            rintro e v2 ⟨rfl, hs9⟩
            clear t3
            go_wp2_with fail
            go_roundw
            case rel => exact ⟨k + 1, by go_num, by omega, v1, l1, f, n, s1, m1, (by omega), (by omega), hp3, hndw, hinw, hH2, hfr, by omega, drop_box hs9⟩
            case measure => simp [intOf]; omega
        · by_cases hx2 : kd = 2
          · subst hx2
            cases hB : hasL m x
            · clear ht1
              rw [hB] at hHas
              go_wp2_with fail
              go_quiet (fail)
              have hs5 := hsb.drewN nq
              go_wp2_with fail
              refine (hHas _).mono ?_
              rintro e w5 ⟨rfl, rfl⟩
              clear hHas hsb hwr1 u0 u1 u2 kc0 kc1
              generalize wr1.drewN nq = w5 at *
              clear c0 c1
              have d0 := hs5.cell 5 rfl (o := 0) rfl
              have d1 := hs5.cell 5 rfl (o := 1) rfl
              have d2 := hs5.cell 5 rfl (o := 2) rfl
              have q1 := raise_no hs5 (.iface 34 (ptrV p)) x hx (fun h => hasL_not.1 hB (hp.mem_iff.1 h))
              go_wp2_with fail
              refine q1.mono ?_
              rintro e w6 ⟨rfl, rfl⟩
              clear q1
              have t1 := place_st hs5 x hx
              rw [place_isSome, has_perm hp] at t1
              have t2 := has_st hs5 4 (m) _ rfl x
              have t3 := heap_st hd hs5 I hp hH
              obtain ⟨_, t4, _⟩ := keys_cells hs5 3 rfl
              have t5 := hs5.cell 5 rfl (o := 1) rfl
              have t6 : IntKind.i64.wrap (s - s) = s - s := IntWalk.i64_in _ (by omega)
              have t7 : ¬ ((0 : Int)) < s - s := by omega
              generalize hasL (m) x = B2 at *
              generalize (placeL (l) x).getD 0 = py at *
              go_wp2_with fail
              refine t1.mono ?_
              rintro e v1 ⟨rfl, rfl⟩
              clear t1
              go_wp2_with fail
              refine t2.mono ?_
              rintro e v1 ⟨rfl, rfl⟩
              clear t2
              go_wp2_with fail
              refine t3.mono ?_
              rintro e v2 ⟨rfl, hs9⟩
              clear t3
              go_wp2_with fail
              go_roundw
              case rel => exact ⟨k + 1, by go_num, by omega, v, l, f, n, s, m, (by omega), (by omega), hp, hnd, hin, hH, hfr, by omega, drop_box hs9⟩
              case measure => simp [intOf]; omega
            · clear ht1
              rw [hB] at hHas
              go_wp2_with fail
              go_quiet (fail)
              have hs5 := hsb.drewN nq
              go_wp2_with fail
              refine (hHas _).mono ?_
              rintro e w5 ⟨rfl, rfl⟩
              clear hHas hsb hwr1 u0 u1 u2 kc0 kc1
              generalize wr1.drewN nq = w5 at *
              clear c0 c1
              have d0 := hs5.cell 5 rfl (o := 0) rfl
              have d1 := hs5.cell 5 rfl (o := 1) rfl
              have d2 := hs5.cell 5 rfl (o := 2) rfl
              obtain ⟨mv, hmc, hmr, hmf⟩ : ∃ mv, ((ky < keyOfF f x ∧ mv = ky) ∨ ((ky < keyOfF f x) = False ∧ mv = keyOfF f x)) ∧ inInt mv ∧ mv ≤ keyOfF f x := by
                have := hfr x
                by_cases h : ky < keyOfF f x
                · exact ⟨ky, Or.inl ⟨h, rfl⟩, hky, by omega⟩
                · exact ⟨keyOfF f x, Or.inr ⟨eq_false h, rfl⟩, hfr x, by omega⟩
              obtain ⟨kc0, _, kl⟩ := keys_cells hs5 3 rfl
              obtain ⟨_, _, kl2⟩ := keys_cells hs5.drew 3 rfl
              have lx := kl2 x hx
              have hs6 := Stage.ungroup (l := [_, _, _, _, _]) (m := [_, _]) (hs5.drew.select [0, 1, 2, 4, 5, 3] (by decide) rfl)
              obtain ⟨n1, hn1, hn1b⟩ : ∃ n1, Hid ((if (f x).isSome = true then n else n + 1) = n1) ∧ n1 ≤ n + 1 := ⟨_, Lib.hid rfl, by split <;> omega⟩
              obtain ⟨f1, hf1⟩ : ∃ f1, Hid (setZ f x (some (mv)) = f1) := ⟨_, Lib.hid rfl⟩
              clear kl kl2
              obtain ⟨i, hi, hxi⟩ := mem_rat (hp.mem_iff.2 (hasL_iff.1 hB))
              have hf1e : ∀ y, y ≠ x → keyOfF f1 y = keyOfF f y := fun y hy => by rw [← hf1.out]; unfold keyOfF; rw [setZ_other _ _ hy]
              have hf1x : keyOfF f1 x ≤ keyOfF f x := by
                rw [← hf1.out]
                show (setZ f x (some mv) x).getD 0 ≤ _
                rw [setZ_same]
                exact hmf
              have hU : UpInv dn (ltK (keyOfF f1)) l i := raise_up (by omega) (strict_keys _ I.nodup) (strict_keys _ I.nodup) hH hi (fun a b ha hb => lower_same (x := x) hf1e a b (by rw [← hxi]; exact ha) (by rw [← hxi]; exact hb)) (fun b hb h => by rw [hxi] at h hb ⊢; exact lower_more hf1e hf1x b hb h)
              have hfr1 : ∀ y, inInt (keyOfF f1 y) := fun y => by
                by_cases h : y = x
                · rw [← hf1.out, h]
                  show inInt ((setZ f x (some mv) x).getD 0)
                  rw [setZ_same]
                  exact hmr
                · rw [hf1e y h]; exact hfr y
              clear hf1e hmf
              generalize hkf : keyOfF f x = fx at *
              clear hkf
              rcases hmc with ⟨hq, hqm⟩ | ⟨hq, hqm⟩
              · subst hqm
                go_wp2_with fail
                go_still_tail 16, (by kernel_rfl)
                change wpList _ _ _ _ _ w5.drew
                go_wp2_with (at_mapUpdate; refine Stage.wp_putZ' n1 f1 hs6 6 rfl rfl _ _ _ rfl Try.underlying35 Try.underlying3 Try.underlying2 (by unfold maxLen; omega) rfl x (mv) rfl rfl hx (hmr) hn1 hf1 ?_)
                intro w6 hs7
                have hs8 : Stage (fun _ => False) W (soundL r bm v dn (l) p km (f1) (n1) (s) _ (m) [Ob.box bA #[.int .i64 2, .int .i64 x, .int .i64 mv] 40]) w6 := (Stage.regroup (l := [_, _, _, _, _]) (m := [_, _]) hs7).select [0, 1, 2, 5, 3, 4] (by decide) rfl
                clear hs6 hs7 d0 d1 d2 kc0 lx hs5
                have d1 := hs8.cell 5 rfl (o := 1) rfl
                have qd := refdepth_c dn ((m.length : Nat) : Int) w6
                rw [depthD_nat hd.1 hd.2 (by omega)] at qd
                have hdl := depth_le (d := dn) (by omega) (m.length - 1)
                have hdi : depthI dn i ≤ depthI dn (m.length - 1) := depth_mono (by omega) _ _ (by have := hml.out; omega)
                have qr := raise_st (keys_asks p km f1 n1) hd hs8 I (strictM_keys _ _) i hi hU
                rw [hxi] at qr
                generalize hdx : depthI dn (m.length - 1) = dx at *
                clear hs8 hdx hU
                go_wp2_with fail
                refine qd.mono ?_
                rintro e w7 ⟨rfl, rfl⟩
                clear qd
                go_wp2_with fail
                refine qr.mono ?_
                rintro e w7 ⟨v1, l1, s1, rfl, hp2, _, hw, hH2, hs9⟩
                have hsc := within_count (hw.mono hdi) hsk.1 (by omega) (by omega)
                clear qr hw d1
                have hp3 := hp2.trans hp
                have I1 := rowIn_perm hp3 hnd hin (by omega)
                have t1 := place_st hs9 x hx
                rw [place_isSome, has_perm hp3] at t1
                have t2 := has_st hs9 4 (m) _ rfl x
                have t3 := heap_st hd hs9 I1 hp3 hH2
                obtain ⟨_, t4, _⟩ := keys_cells hs9 3 rfl
                have t5 := hs9.cell 5 rfl (o := 1) rfl
                have t6 : IntKind.i64.wrap (s1 - s) = s1 - s := IntWalk.i64_in _ (by omega)
                have t7 : ¬ ((dx : Int)) < s1 - s := by omega
                generalize hasL (m) x = B2 at *
                generalize (placeL (l1) x).getD 0 = py at *
                go_wp2_with fail
                refine t1.mono ?_
                rintro e v1 ⟨rfl, rfl⟩
                clear t1
                go_wp2_with fail
                refine t2.mono ?_
                rintro e v1 ⟨rfl, rfl⟩
                clear t2
                go_wp2_with fail
                refine t3.mono ?_
                rintro e v2 ⟨rfl, hs9⟩
                clear t3
                go_wp2_with fail
                go_roundw
                case rel => exact ⟨k + 1, by go_num, by omega, v1, l1, f1, n1, s1, m, (by omega), (by omega), hp3, hnd, hin, hH2, hfr1, by omega, drop_box hs9⟩
                case measure => simp [intOf]; omega
              · subst hqm
                go_wp2_with fail
                go_still_tail 16, (by kernel_rfl)
                change wpList _ _ _ _ _ w5.drew
                go_wp2_with (at_mapUpdate; refine Stage.wp_putZ' n1 f1 hs6 6 rfl rfl _ _ _ rfl Try.underlying35 Try.underlying3 Try.underlying2 (by unfold maxLen; omega) rfl x (mv) rfl rfl hx (hmr) hn1 hf1 ?_)
                intro w6 hs7
                have hs8 : Stage (fun _ => False) W (soundL r bm v dn (l) p km (f1) (n1) (s) _ (m) [Ob.box bA #[.int .i64 2, .int .i64 x, .int .i64 ky] 40]) w6 := (Stage.regroup (l := [_, _, _, _, _]) (m := [_, _]) hs7).select [0, 1, 2, 5, 3, 4] (by decide) rfl
                clear hs6 hs7 d0 d1 d2 kc0 lx hs5
                have d1 := hs8.cell 5 rfl (o := 1) rfl
                have qd := refdepth_c dn ((m.length : Nat) : Int) w6
                rw [depthD_nat hd.1 hd.2 (by omega)] at qd
                have hdl := depth_le (d := dn) (by omega) (m.length - 1)
                have hdi : depthI dn i ≤ depthI dn (m.length - 1) := depth_mono (by omega) _ _ (by have := hml.out; omega)
                have qr := raise_st (keys_asks p km f1 n1) hd hs8 I (strictM_keys _ _) i hi hU
                rw [hxi] at qr
                generalize hdx : depthI dn (m.length - 1) = dx at *
                clear hs8 hdx hU
                go_wp2_with fail
                refine qd.mono ?_
                rintro e w7 ⟨rfl, rfl⟩
                clear qd
                go_wp2_with fail
                refine qr.mono ?_
                rintro e w7 ⟨v1, l1, s1, rfl, hp2, _, hw, hH2, hs9⟩
                have hsc := within_count (hw.mono hdi) hsk.1 (by omega) (by omega)
                clear qr hw d1
                have hp3 := hp2.trans hp
                have I1 := rowIn_perm hp3 hnd hin (by omega)
                have t1 := place_st hs9 x hx
                rw [place_isSome, has_perm hp3] at t1
                have t2 := has_st hs9 4 (m) _ rfl x
                have t3 := heap_st hd hs9 I1 hp3 hH2
                obtain ⟨_, t4, _⟩ := keys_cells hs9 3 rfl
                have t5 := hs9.cell 5 rfl (o := 1) rfl
                have t6 : IntKind.i64.wrap (s1 - s) = s1 - s := IntWalk.i64_in _ (by omega)
                have t7 : ¬ ((dx : Int)) < s1 - s := by omega
                generalize hasL (m) x = B2 at *
                generalize (placeL (l1) x).getD 0 = py at *
                go_wp2_with fail
                refine t1.mono ?_
                rintro e v1 ⟨rfl, rfl⟩
                clear t1
                go_wp2_with fail
                refine t2.mono ?_
                rintro e v1 ⟨rfl, rfl⟩
                clear t2
                go_wp2_with fail
                refine t3.mono ?_
                rintro e v2 ⟨rfl, hs9⟩
                clear t3
                go_wp2_with fail
                go_roundw
                case rel => exact ⟨k + 1, by go_num, by omega, v1, l1, f1, n1, s1, m, (by omega), (by omega), hp3, hnd, hin, hH2, hfr1, by omega, drop_box hs9⟩
                case measure => simp [intOf]; omega
          · have g0 : (kd == 0) = false := by simpa using hx0
            have g1 : (kd == 1) = false := by simpa using hx1
            have g2 : (kd == 2) = false := by simpa using hx2
            clear hx0 hx1 hx2
            obtain ⟨B, hB⟩ : ∃ B, B = hasL m x := ⟨_, rfl⟩
            rw [← hB] at hHas
            clear hB
            go_wp2_with fail
            go_quiet (fail)
            have hs5 := hsb.drewN nq
            go_wp2_with fail
            refine (hHas _).mono ?_
            rintro e w5 ⟨rfl, rfl⟩
            clear hHas hsb hwr1 u0 u1 u2 kc0 kc1
            generalize wr1.drewN nq = w5 at *
            clear c0 c1
            have d0 := hs5.cell 5 rfl (o := 0) rfl
            have d1 := hs5.cell 5 rfl (o := 1) rfl
            have d2 := hs5.cell 5 rfl (o := 2) rfl
            have t1 := place_st hs5 x hx
            rw [place_isSome, has_perm hp] at t1
            have t2 := has_st hs5 4 (m) _ rfl x
            have t3 := heap_st hd hs5 I hp hH
            obtain ⟨_, t4, _⟩ := keys_cells hs5 3 rfl
            have t5 := hs5.cell 5 rfl (o := 1) rfl
            have t6 : IntKind.i64.wrap (s - s) = s - s := IntWalk.i64_in _ (by omega)
            have t7 : ¬ ((0 : Int)) < s - s := by omega
            generalize hasL (m) x = B2 at *
            generalize (placeL (l) x).getD 0 = py at *
            go_wp2_with fail
            refine t1.mono ?_
            rintro e v1 ⟨rfl, rfl⟩
            clear t1
            go_wp2_with fail
            refine t2.mono ?_
            rintro e v1 ⟨rfl, rfl⟩
            clear t2
            go_wp2_with fail
            refine t3.mono ?_
            rintro e v2 ⟨rfl, hs9⟩
            clear t3
            go_wp2_with fail
            go_roundw
            case rel => exact ⟨k + 1, by go_num, by omega, v, l, f, n, s, m, (by omega), (by omega), hp, hnd, hin, hH, hfr, by omega, drop_box hs9⟩
            case measure => simp [intOf]; omega
    · have hki : ¬ (k : Int) < N := by omega
      have hb := hs.below
      clear hs hact
      go_wp2_with fail
      go_ret
      exact ⟨rfl, hb⟩
end Go.Proofs.Ytokpngmfmkfmeaa
