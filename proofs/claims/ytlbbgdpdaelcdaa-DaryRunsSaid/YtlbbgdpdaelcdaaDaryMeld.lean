/- What Meld of a nest of rows returns, and what then is. -/
import Derived.Test.YtlbbgdpdaelcdaaDaryNest3
import Derived.Deep.CutBlock
import Derived.Deep.DeepCutAuto
namespace Go.Proofs.Ytlbbgdpdaelcdaa
open Go.RowKit Go.Sort

section
variable {F0 : Nat → Prop} {W0 w : World} {p c d bm : Nat} {W : WS} {s : Int} {q b : Nat} {v : Value} {xs : List Int} {Ls : Nat → List Int} {qs : Nat → Nat}
/-- A second row in hand. -/
theorem drow_two {i j : Nat} (hij : i ≠ j) (hj : j < 65537) (hd : 2 ≤ d ∧ d ≤ 16) (hs : Stage F0 W0 (dhand p c d bm W s (dmapO Ls qs) (updO (dfamO d Ls qs) i Ob.none) q b v xs) w) :
    Calls Try.prog 39 #[.pointer (some ⟨p, 0, none⟩), .int .i64 j] w fun e w' => ∃ q2 b2 v2, e = .returned (.pointer (some ⟨q2, 0, none⟩)) ∧
      Stage F0 W0 (rowO q b v d xs ++ Ob.dcells p c d bm W s :: [Ob.pmap Try.prog 3 bm (dmapO Ls qs) 65537, Ob.fam (updO (updO (dfamO d Ls qs) i Ob.none) j Ob.none)] ++ rowO q2 b2 v2 d (Ls j)) w' := by
  by_cases hn : Ls j = []
  · have e : dmapO Ls qs j = none := by simp [dmapO, hn]
    have e2 : updO (updO (dfamO d Ls qs) i Ob.none) j Ob.none = updO (dfamO d Ls qs) i Ob.none := by
      funext z
      unfold updO
      by_cases h1 : z = j
      · subst h1; simp [dfamO, drowO, hn]
      · simp [h1]
    refine (drow_none hs 3 rfl 4 rfl hd j hj e).mono ?_
    rintro e w' ⟨q2, b2, rfl, h⟩
    rw [e2, hn]
    exact ⟨_, _, _, rfl, h⟩
  · have e : dmapO Ls qs j = some (qs j) := by simp [dmapO, hn]
    refine (drow_some hs 3 rfl 4 rfl j hj e).mono ?_
    rintro e w' ⟨rfl, rfl⟩
    have h1 := hs.pull 5 rfl j
    have e3 : updO (dfamO d Ls qs) i Ob.none j = Ob.ex fun x : Nat × Value => Ob.group (rowO (qs j) x.1 x.2 d (Ls j)) := by
      unfold updO dfamO drowO
      rw [if_neg (fun h => hij h.symm), if_neg hn]
    rw [e3] at h1
    obtain ⟨⟨b2, v2⟩, h2⟩ := h1.openEx
    exact ⟨_, b2, v2, rfl, h2.ungroup⟩
end
section
variable {w : World} {p c d : Nat} {W : WS} {s : Int} {F : Nat → Prop}
theorem dperm_two {x1 x2 xa xb : List Int} (h : (x1 = xa ∧ x2 = xb) ∨ (x1 = xb ∧ x2 = xa)) : (x1 ++ x2).Perm (xa ++ xb) := by
  rcases h with ⟨rfl, rfl⟩ | ⟨rfl, rfl⟩
  · exact List.Perm.refl _
  · exact List.perm_append_comm
set_option maxRecDepth 100000 in
set_option maxHeartbeats 4000000 in
theorem meld_da (hd : 2 ≤ d ∧ d ≤ 16) (a b : Int) (h : (Ob.dary p c d W s).holds w F) : Calls Try.prog 29 #[.pointer (some ⟨p, 0, none⟩), .int .i64 a, .int .i64 b] w fun e w' => e = .returned (.bool (joinBW W a b)) ∧ ∃ s', (s ≤ s' ∧ s' ≤ s + (min (lenW W a) (lenW W b) * depthI d (lenW W a + lenW W b) : Nat)) ∧ ∃ F', (Ob.dary p c d (joinW W a b) s').holds w' F' ∧ Moved F F' w w' := by
  have hF := (Ob.dary p c d W s).lt h
  obtain ⟨bm, Ls, qs, I, hf, _, hg⟩ := h
  have hs := Ob.group.open hg
  clear hg
  have hJ := hs.call 0 rfl (fun _ ho => dcells_call ho fun _ h => join_cl a b h)
  have p0 := (hs.get (i := 0) rfl).elim fun _ h => (dcells_cell h).1
  cases hB : joinBW W a b
  · have eW : joinW W a b = W := by simp [joinW, hB]
    rw [hB, eW] at hJ
    rw [eW]
    go_enter Try.func29, Try.ntmps29
    go_wp2_with fail
    refine hJ.mono ?_
    rintro e w1 ⟨rfl, hs1⟩
    have hs2 : Stage F w (daryParts p c d bm W s (dmapO Ls qs) (dfamO d Ls qs)) w1 := hs1
    go_wp2_with fail
    go_ret
    exact ⟨rfl, s, ⟨Int.le_refl _, by omega⟩, dary_close hs2 hF I⟩
  · obtain ⟨i, j, rfl, rfl, hi1, hi2, hj1, hj2⟩ : ∃ i j : Nat, a = i ∧ b = j ∧ 1 ≤ i ∧ i < 65537 ∧ 1 ≤ j ∧ j < 65537 := by
      have hB2 := hB
      simp only [joinBW, Bool.and_eq_true, decide_eq_true_eq] at hB2
      obtain ⟨i, rfl, h1, h2, _⟩ := has_nat hB2.1
      obtain ⟨j, rfl, h3, h4, _⟩ := has_nat hB2.2.1
      have := hf.len
      exact ⟨i, j, rfl, rfl, h1, by omega, h3, by omega⟩
    obtain ⟨hij, hah, hin, hnd, hfin⟩ := dinv_join I hB hi1 hj1
    have hla := I.len i hi1
    have hlb := I.len j hj1
    have hHa := I.heap i
    have hHb := I.heap j
    have hia : ∀ y ∈ Ls i ++ Ls j, inW (joinW W i j) y = true := fun y hy => by
      rw [hin]
      rcases List.mem_append.1 hy with h | h
      · exact (I.in' h).2.2.1
      · exact (I.in' h).2.2.1
    have hsum : (Ls i).length + (Ls j).length ≤ 131072 := by
      have := I.lenLe hf i
      have := I.lenLe hf j
      omega
    rw [hB] at hJ
    rw [← hla, ← hlb]
    rw [← hah] at hHa hHb hfin
    generalize joinW W i j = W1 at *
    clear hs hB hin hah hla hlb I
    go_enter Try.func29, Try.ntmps29
    go_wp2_with fail
    refine hJ.mono ?_
    rintro e w1 ⟨rfl, hs1⟩
    have hs2 : Stage F w (daryParts p c d bm W1 s (dmapO Ls qs) (dfamO d Ls qs)) w1 := hs1
    clear hs1 hJ p0
    have hf1 := dparts_fit hs2
    have hL := drow_hand hs2 hd i hi2
    go_wp2_with fail
    refine hL.mono ?_
    rintro e w2 ⟨qa, ba, va, rfl, hs3⟩
    clear hL hs2
    have hL := drow_two hij hj2 hd hs3
    go_wp2_with fail
    refine hL.mono ?_
    rintro e w3 ⟨qb, bb, vb, rfl, hs4⟩
    clear hL hs3
    have hLa := slen_st (q := Ob.dcells p c d bm W1 s :: [Ob.pmap Try.prog 3 bm (dmapO Ls qs) 65537, Ob.fam (updO (updO (dfamO d Ls qs) i Ob.none) j Ob.none)] ++ rowO qb bb vb d (Ls j)) hs4
    have hs4' : Stage F w (rowO qb bb vb d (Ls j) ++ Ob.dcells p c d bm W1 s :: [Ob.pmap Try.prog 3 bm (dmapO Ls qs) 65537, Ob.fam (updO (updO (dfamO d Ls qs) i Ob.none) j Ob.none)] ++ rowO qa ba va d (Ls i)) w3 := hs4.select [6, 7, 8, 3, 4, 5, 0, 1, 2] (by decide) rfl
    have hLb := slen_st (q := Ob.dcells p c d bm W1 s :: [Ob.pmap Try.prog 3 bm (dmapO Ls qs) 65537, Ob.fam (updO (updO (dfamO d Ls qs) i Ob.none) j Ob.none)] ++ rowO qa ba va d (Ls i)) hs4'
    have hx0 : ∀ (x1 x2 : List Int), (x1 = Ls i ∧ x2 = Ls j) ∨ (x1 = Ls j ∧ x2 = Ls i) → x2.length ≤ x1.length → Heap d (aheadW W1) x1 ∧ x2.length = min (Ls i).length (Ls j).length ∧ x1.length + x2.length = (Ls i).length + (Ls j).length ∧ (x1 ++ x2).Perm (Ls i ++ Ls j) := by
      rintro x1 x2 hor hle
      have hp := dperm_two hor
      rcases hor with ⟨rfl, rfl⟩ | ⟨rfl, rfl⟩
      · exact ⟨hHa, by omega, rfl, hp⟩
      · exact ⟨hHb, by omega, by omega, hp⟩
    clear hHa hHb
    generalize hna : (Ls i).length = na at *
    generalize hnb : (Ls j).length = nb at *
    go_upto_region 4 with fail
    go_cut [29] (fun s29 wx => s29 = .bool (decide (na < nb)) ∧ w3 = wx)
    case first =>
      go_wp2_with fail
      refine hLa.mono ?_
      rintro e w4 ⟨rfl, rfl⟩
      go_wp2_with fail
      refine hLb.mono ?_
      rintro e w5 ⟨rfl, rfl⟩
      go_wp2_with fail
      go_meet
      exact ⟨by simp, rfl⟩
    case rest =>
      obtain ⟨rfl, rfl⟩ := hcut
      clear hLa hLb
      generalize hlt : decide (na < nb) = B
      go_upto_if 29 with fail
      go_cut [7, 8] (fun s7 s8 wx => ∃ q1 b1 v1 x1 q2 b2 v2 x2, s7 = .pointer (some ⟨q1, 0, none⟩) ∧ s8 = .pointer (some ⟨q2, 0, none⟩) ∧ ((x1 = Ls i ∧ x2 = Ls j) ∨ (x1 = Ls j ∧ x2 = Ls i)) ∧ x2.length ≤ x1.length ∧ Stage F w (rowO q1 b1 v1 d x1 ++ Ob.dcells p c d bm W1 s :: [Ob.pmap Try.prog 3 bm (dmapO Ls qs) 65537, Ob.fam (updO (updO (dfamO d Ls qs) i Ob.none) j Ob.none)] ++ rowO q2 b2 v2 d x2) wx)
      case first =>
        cases B
        · have h9 := of_decide_eq_false hlt
          clear hlt
          go_wp2_with fail
          go_meet
          exact ⟨qa, ba, va, Ls i, qb, bb, vb, Ls j, rfl, rfl, Or.inl ⟨rfl, rfl⟩, by omega, hs4⟩
        · have h9 := of_decide_eq_true hlt
          clear hlt
          go_wp2_with fail
          go_meet
          exact ⟨qb, bb, vb, Ls j, qa, ba, va, Ls i, rfl, rfl, Or.inr ⟨rfl, rfl⟩, by omega, hs4'⟩
      case rest =>
        obtain ⟨q1, b1, v1, x1, q2, b2, v2, x2, rfl, rfl, hor, hle, hs⟩ := hcut
        clear hs4 hs4' hlt
        obtain ⟨hH1, hmin, htot, hperm⟩ := hx0 x1 x2 hor hle
        clear hx0 hor hle
        replace hs : Stage F w (rowO q2 b2 v2 d x2 ++ (rowO q1 b1 v1 d x1 ++ Ob.dcells p c d bm W1 s :: [Ob.pmap Try.prog 3 bm (dmapO Ls qs) 65537, Ob.fam (updO (updO (dfamO d Ls qs) i Ob.none) j Ob.none)])) _ := hs.select [6, 7, 8, 0, 1, 2, 3, 4, 5] (by decide) rfl
        have hAll := all_st hs (by omega)
        obtain ⟨D, hD⟩ : ∃ D, D = depthI d (na + nb) := ⟨_, rfl⟩
        have hDm : ∀ m, m ≤ na + nb → depthI d m ≤ D := fun m hm => by rw [hD]; exact depth_mono (by omega) _ _ hm
        generalize hn2 : x2.length = n2 at *
        replace hmin := Lib.hid hmin
        replace htot := Lib.hid htot
        replace hD := Lib.hid hD
        replace hsum := Lib.hid hsum
        go_wp2_with fail
        refine hAll.mono ?_
        rintro e w4 ⟨vc, rfl, hs5⟩
        clear hAll hs
        replace hs5 : Stage F w (rowO q1 b1 v1 d x1 ++ Ob.dcells p c d bm W1 s :: [Ob.pmap Try.prog 3 bm (dmapO Ls qs) 65537, Ob.fam (updO (updO (dfamO d Ls qs) i Ob.none) j Ob.none), Ob.row 0 3 1 vc n2 (cellsBy intC x2)]) w4 := by rw [← hn2]; exact hs5.select [3, 4, 5, 6, 7, 8, 9] (by decide) rfl
        obtain ⟨a2, c2, hv2, _, _⟩ := owns_form (hs5.owns 6 rfl)
        subst hv2
        have hn2b : n2 ≤ 131072 := by have h1 := htot.out; have h2 := hsum.out; omega
        go_wp2_with fail
        go_loopw [35] (fun x wr => ∃ (n : Nat) (ys : List Int) (v : Value) (s1 : Int), x = .int .i64 n ∧ n ≤ n2 ∧ Heap d (aheadW W1) ys ∧ ys.Perm (x1 ++ x2.take n) ∧ (s ≤ s1 ∧ s1 ≤ s + (n * D : Nat)) ∧ Stage F w (rowO q1 b1 v d ys ++ Ob.dcells p c d bm W1 s1 :: [Ob.pmap Try.prog 3 bm (dmapO Ls qs) 65537, Ob.fam (updO (updO (dfamO d Ls qs) i Ob.none) j Ob.none), Ob.row 0 3 1 (.slice a2 n2 c2) n2 (cellsBy intC x2)]) wr) (fun x _ => n2 - (intOf x).toNat)
        case atStart => exact ⟨0, x1, v1, s, rfl, Nat.zero_le _, hH1, by simp, ⟨Int.le_refl _, by omega⟩, hs5⟩
        case round =>
          clear hs5 hH1
          obtain ⟨n, ys, v, s1, rfl, hn, hH, hpm, hst, hs⟩ := hrel
          by_cases hlt : n < n2
          · have hni : (n : Int) < n2 := by omega
            obtain ⟨g, cg, hcg, _, _, _, _, hu, _⟩ := owns_at intC_len 0 (hs.owns 6 rfl) hn2 (by omega)
            cases hcg
            have u0 := hu n 0 _ hlt (by omega) rfl
            rw [Nat.mul_one, Nat.add_zero] at u0
            replace u0 : wr.cell? ⟨g, n, none⟩ = some (.int .i64 (rat x2 n)) := u0
            clear hu
            have hxm : rat x2 n ∈ x2 := rat_mem (by omega)
            have htk : x2.take (n + 1) = x2.take n ++ [rat x2 n] := take_snocD 0 x2 n (by omega)
            have hpm2 : (ys ++ [rat x2 n]).Perm (x1 ++ x2.take (n + 1)) := by
              rw [htk, ← List.append_assoc]
              exact hpm.append_right _
            have hyl : ys.length = x1.length + n := by rw [hpm.length_eq, List.length_append, List.length_take]; omega
            have hnd2 : (x1 ++ x2.take (n + 1)).Nodup := (hperm.nodup_iff.2 hnd).sublist ((List.take_sublist _ _).append_left _)
            have hin2 : ∀ y ∈ ys ++ [rat x2 n], inW W1 y = true := fun y hy => by
              have h1 := hpm2.mem_iff.1 hy
              refine hia y (hperm.mem_iff.1 ?_)
              rcases List.mem_append.1 h1 with h2 | h2
              · exact List.mem_append_left _ h2
              · exact List.mem_append_right _ (List.mem_of_mem_take h2)
            have hA := add_st (dary_asks p c d bm W1) hd hs (rat x2 n) (row_in hf1 (hpm2.nodup_iff.2 hnd2) hin2 (by rw [List.length_append, hyl]; have h1 := htot.out; have h2 := hsum.out; simp; omega)) (strictM_ahead W1 _ hin2) hH
            have hDn := hDm ys.length (by rw [hyl]; have := htot.out; omega)
            generalize rat x2 n = x at *
            clear hxm hH hpm htk hnd2 hin2 hyl
            go_wp2_with fail
            refine hA.mono ?_
            rintro e w5 ⟨v', ys', s', rfl, hp', _, hw, hh, hs6⟩
            have hw' := within_dR hw
            have h3 : (n + 1) * D = n * D + D := by rw [Nat.add_mul, Nat.one_mul]
            have hst' : s ≤ s' ∧ s' ≤ s + ((n + 1) * D : Nat) := by rw [h3]; omega
            clear hA hs hw hw' h3 hst u0
            go_wp2_with fail
            go_roundw
            case rel => exact ⟨n + 1, ys', v', s', by go_num, by omega, hh, hp'.trans hpm2, hst', hs6⟩
            case measure => simp [intOf]; omega
          · have hni : ¬ (n : Int) < n2 := by omega
            obtain rfl : n = n2 := by omega
            rw [List.take_of_length_le (by omega)] at hpm
            have hs5 : Stage F w (dhand p c d bm W1 s1 (dmapO Ls qs) (updO (updO (dfamO d Ls qs) i Ob.none) j Ob.none) q1 b1 v ys) wr := hs.take 6
            have hK := dkeep_st hs5 i hi2 (by unfold updO; rw [if_neg hij, if_pos rfl])
            have I3 := hfin ys hH (hpm.trans hperm)
            have efam : updO (updO (updO (dfamO d Ls qs) i Ob.none) j Ob.none) i (drowO d q1 ys) = dfamO d (updI (updI Ls i ys) j []) (updQ (updQ qs i q1) j 0) := by
              rw [← dupd_fam, ← dupd_fam]
              funext z
              unfold updO
              by_cases h1 : z = i
              · subst h1; simp [hij]
              · by_cases h2 : z = j
                · subst h2; simp [h1, drowO]
                · simp [h1, h2]
            rw [dupd_map, efam] at hK
            have emap : setP (dmapO (updI Ls i ys) (updQ qs i q1)) (j : Int) none = dmapO (updI (updI Ls i ys) j []) (updQ (updQ qs i q1) j 0) := by
              have := dupd_map (updI Ls i ys) (updQ qs i q1) j 0 []
              rw [if_pos rfl] at this
              exact this
            have hst2 : s ≤ s1 ∧ s1 ≤ s + (min na nb * depthI d (na + nb) : Nat) := by rw [← hmin.out, ← hD.out]; exact hst
            clear hs hs5 hH hpm hst hfin hDm hmin
            go_wp2_with fail
            refine hK.mono ?_
            rintro e w4 ⟨rfl, hs6⟩
            clear hK
            have p2 := (hs6.get (i := 0) rfl).elim fun _ h => (dcells_cell h).2.2
            go_wp2_with (at_delete; refine hs6.wp_deleteP 1 rfl rfl _ _ rfl Try.underlying30 Try.underlying3 rfl j rfl (by omega) ?_)
            intro w5 hs7
            try rw [emap] at hs7
            have hs8 : Stage F w (daryParts p c d bm W1 s1 (dmapO (updI (updI Ls i ys) j []) (updQ (updQ qs i q1) j 0)) (dfamO d (updI (updI Ls i ys) j []) (updQ (updQ qs i q1) j 0))) w5 := hs7
            go_wp2_with fail
            go_ret
            rw [← hna, ← hnb] at hst2
            exact ⟨rfl, s1, hst2, dary_close hs8 hF I3⟩
end
end Go.Proofs.Ytlbbgdpdaelcdaa
