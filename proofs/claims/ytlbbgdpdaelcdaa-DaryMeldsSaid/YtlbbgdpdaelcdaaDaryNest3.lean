/- What the calls of a nest of rows return, and what then is: Extract, Decrease. -/
import Derived.Test.YtlbbgdpdaelcdaaDaryNest2
import Derived.Deep.RegionHeld3
import Derived.Deep.RegionWith
namespace Go.Proofs.Ytlbbgdpdaelcdaa
open Go.RowKit Go.Sort

theorem dmap_same (Ls : Nat → List Int) (qs : Nat → Nat) (k q : Nat) (xs : List Int) (hn : Ls k ≠ []) (hx : xs ≠ []) (hq : qs k = q) : dmapO (updI Ls k xs) (updQ qs k q) = dmapO Ls qs := by
  rw [← dupd_map, if_neg hx]
  funext i
  unfold setP
  split
  · rename_i e
    subst e
    simp [dmapO, hn, hq]
  · rfl
section
variable {w : World} {p c d : Nat} {W : WS} {s : Int} {F : Nat → Prop}
theorem extract_da (hd : 2 ≤ d ∧ d ≤ 16) (y : Int) (hy : inInt y) (h : (Ob.dary p c d W s).holds w F) : Calls Try.prog 26 #[.pointer (some ⟨p, 0, none⟩), .int .i64 y] w fun e w' => e = .returned (.tuple #[.int .i64 (minI W y), .bool (minB W y)]) ∧ ∃ s', (s ≤ s' ∧ s' ≤ s + (d * depthI d (lenW W y - 1) + 1 : Nat)) ∧ ∃ F', (Ob.dary p c d (exW W y) s').holds w' F' ∧ Moved F F' w w' := by
  have hM := min_da hd y hy h
  cases hm : minW W y with
  | none =>
    obtain ⟨q1, q2⟩ := minI_none hm
    have q3 : exW W y = W := by simp [exW, hm]
    rw [q1, q2] at hM ⊢
    rw [q3]
    go_enter Try.func26, Try.ntmps26
    go_wp2_with fail
    refine hM.mono ?_
    rintro e w1 ⟨rfl, rfl⟩
    go_wp2_with fail
    exact bodyPost_ret (v := .tuple #[.int .i64 0, .bool false]) (by simp [results, Try.results26, go_sem]) rfl ⟨rfl, s, ⟨Int.le_refl _, by omega⟩, F, h, Moved.refl _ _⟩
  | some m =>
    obtain ⟨q1, q2⟩ := minI_some hm
    have q3 : exW W y = dropW W m := by simp [exW, hm]
    have hmin := min_is hm
    rw [q1, q2] at hM ⊢
    rw [q3]
    have hD := delete_da hd m h
    have e1 : ((cellW W m).home : Int) = y := by rw [cell_nat W m hmin.lt]; exact hmin.home
    rw [e1, (isMin_in hmin).1] at hD
    go_enter Try.func26, Try.ntmps26
    go_wp2_with fail
    refine hM.mono ?_
    rintro e w1 ⟨rfl, rfl⟩
    go_wp2_with fail
    refine hD.mono ?_
    rintro e w2 ⟨rfl, s', ⟨h1, _, h2⟩, F', h3, h4⟩
    go_wp2_with fail
    exact bodyPost_ret (v := .tuple #[.int .i64 m, .bool true]) (by simp [results, Try.results26, go_sem]) rfl ⟨rfl, s', ⟨h1, h2⟩, F', h3, h4⟩
set_option maxRecDepth 100000 in
set_option maxHeartbeats 2000000 in
theorem decrease_da (hd : 2 ≤ d ∧ d ≤ 16) (x k q : Int) (h : (Ob.dary p c d W s).holds w F) : Calls Try.prog 27 #[.pointer (some ⟨p, 0, none⟩), .int .i64 x, .agg #[.int .i64 k, .int .u64 q]] w fun e w' => e = .returned (.bool (lowerB W x k q)) ∧ ∃ s', (s ≤ s' ∧ (lowerB W x k q = false → s' = s) ∧ s' ≤ s + (depthI d (lenW W (cellW W x).home - 1) : Nat)) ∧ ∃ F', (Ob.dary p c d (lowerW W x k q) s').holds w' F' ∧ Moved F F' w w' := by
  have hF := (Ob.dary p c d W s).lt h
  obtain ⟨bm, Ls, qs, I, hf, _, hg⟩ := h
  have hs := Ob.group.open hg
  clear hg
  obtain ⟨w0, hw0, hs0⟩ : ∃ w0, w.alloc (.cells #[.int .i64 k, .int .u64 q] 55) = w0 ∧ Stage F w (daryParts p c d bm W s (dmapO Ls qs) (dfamO d Ls qs) ++ [Ob.box w.heap.size #[.int .i64 k, .int .u64 q] 55]) w0 := ⟨_, rfl, hs.alloc _ _⟩
  have hH := hs0.call 0 rfl (fun _ ho => dcells_call ho fun _ h => home_cl x h)
  have p0 := (hs0.get (i := 0) rfl).elim fun _ h => (dcells_cell h).1
  clear hs
  cases hB : inW W x
  · have eB : lowerB W x k q = false := by simp [lowerB, hB]
    have eW : lowerW W x k q = W := by simp [lowerW, eB]
    rw [hB] at hH
    rw [eB, eW]
    generalize ((cellW W x).home : Int) = hh at *
    go_enter Try.func27, Try.ntmps27
    go_wp2_with fail
    refine hH.mono ?_
    rintro e w1 ⟨rfl, hs1⟩
    have hs2 : Stage F w (daryParts p c d bm W s (dmapO Ls qs) (dfamO d Ls qs)) w1 := hs1.take 3
    clear hH p0 hw0 hs0 hs1
    go_wp2_with fail
    go_quiet (fail)
    go_wp2_with fail
    go_ret
    exact ⟨rfl, s, ⟨Int.le_refl _, fun _ => rfl, by omega⟩, dary_close (hs2.drewN _) hF I⟩
  · rw [hB] at hH
    have hL := fun (w1 : World) (hs1 : Stage F w (daryParts p c d bm W s (dmapO Ls qs) (dfamO d Ls qs) ++ [Ob.box w.heap.size #[.int .i64 k, .int .u64 q] 55]) w1) => hs1.drew.call 0 rfl (fun _ ho => dcells_call ho fun _ h => lower_cl x k q h)
    cases hlb : lowerB W x k q
    · have eW : lowerW W x k q = W := by simp [lowerW, hlb]
      rw [hlb, eW] at hL
      rw [eW]
      generalize ((cellW W x).home : Int) = hh at *
      go_enter Try.func27, Try.ntmps27
      go_wp2_with fail
      refine hH.mono ?_
      rintro e w1 ⟨rfl, hs1⟩
      clear hH p0 hw0 hs0
      replace hs1 : Stage F w (daryParts p c d bm W s (dmapO Ls qs) (dfamO d Ls qs) ++ [Ob.box w.heap.size #[.int .i64 k, .int .u64 q] 55]) w1 := hs1
      replace hL := hL w1 hs1
      have b0 := hs1.cell 3 rfl (o := 0) rfl
      have b1 := hs1.cell 3 rfl (o := 1) rfl
      have p0 : w1.cell? ⟨p, 0, none⟩ = some (.pointer (some ⟨c, 0, none⟩)) := (hs1.get (i := 0) rfl).elim fun _ h => (dcells_cell h).1
      go_wp2_with fail
      go_region_held3 (fun w' => w'.cell? ⟨w.heap.size, 0, none⟩ = some (.int .i64 k) ∧ w'.cell? ⟨w.heap.size, 1, none⟩ = some (.int .u64 q) ∧ w'.cell? ⟨p, 0, none⟩ = some (.pointer (some ⟨c, 0, none⟩))) (first | exact ⟨b0, b1, p0⟩ | exact ⟨b0p, b1p, p0p⟩ | simp [*])
        ((with_reducible refine hL.mono ?_; rintro e w2 ⟨rfl, hs2⟩; have b0p := hs2.cell 3 rfl (o := 0) rfl; have b1p := hs2.cell 3 rfl (o := 1) rfl; have p0p : w2.cell? ⟨p, 0, none⟩ = some (.pointer (some ⟨c, 0, none⟩)) := (hs2.get (i := 0) rfl).elim fun _ h => (dcells_cell h).1))
      have hs3 : Stage F w (daryParts p c d bm W s (dmapO Ls qs) (dfamO d Ls qs)) w2 := hs2.take 3
      go_wp2_with fail
      go_ret
      exact ⟨rfl, s, ⟨Int.le_refl _, fun _ => rfl, by omega⟩, dary_close hs3 hF I⟩
    · obtain ⟨kk, i, hk1, hi, hix, hhome, hin, hU, hfin⟩ := dinv_lower (k := k) (s := q) I (by omega) hlb
      have hn : Ls kk ≠ [] := fun e => by rw [e] at hi; simp at hi
      obtain ⟨_, hk2⟩ := I.keyLt hf hn
      have hlen := I.len kk hk1
      have hle := I.lenLe hf kk
      have hnd := I.nodup kk
      rw [hhome] at hH ⊢
      rw [hlb] at hL
      clear hhome hlb
      generalize lowerW W x k q = W1 at *
      go_enter Try.func27, Try.ntmps27
      go_wp2_with fail
      refine hH.mono ?_
      rintro e w1 ⟨rfl, hs1⟩
      clear hH p0 hw0 hs0
      replace hs1 : Stage F w (daryParts p c d bm W s (dmapO Ls qs) (dfamO d Ls qs) ++ [Ob.box w.heap.size #[.int .i64 k, .int .u64 q] 55]) w1 := hs1
      replace hL := hL w1 hs1
      have b0 := hs1.cell 3 rfl (o := 0) rfl
      have b1 := hs1.cell 3 rfl (o := 1) rfl
      have p0 : w1.cell? ⟨p, 0, none⟩ = some (.pointer (some ⟨c, 0, none⟩)) := (hs1.get (i := 0) rfl).elim fun _ h => (dcells_cell h).1
      go_wp2_with fail
      go_region_held3 (fun w' => w'.cell? ⟨w.heap.size, 0, none⟩ = some (.int .i64 k) ∧ w'.cell? ⟨w.heap.size, 1, none⟩ = some (.int .u64 q) ∧ w'.cell? ⟨p, 0, none⟩ = some (.pointer (some ⟨c, 0, none⟩))) (first | exact ⟨b0, b1, p0⟩ | exact ⟨b0p, b1p, p0p⟩ | simp [*])
        ((with_reducible refine hL.mono ?_; rintro e w2 ⟨rfl, hs2⟩; have b0p := hs2.cell 3 rfl (o := 0) rfl; have b1p := hs2.cell 3 rfl (o := 1) rfl; have p0p : w2.cell? ⟨p, 0, none⟩ = some (.pointer (some ⟨c, 0, none⟩)) := (hs2.get (i := 0) rfl).elim fun _ h => (dcells_cell h).1))
      have hs3 : Stage F w (daryParts p c d bm W1 s (dmapO Ls qs) (dfamO d Ls qs)) w2 := hs2.take 3
      clear hL hs1 hs2 b0 b1 p0 b0p b1p p0p
      have hl := drow_st hs3 kk hk2 hn
      obtain ⟨b, v, hh⟩ := dtake_hand hs3 kk hn
      have hf3 := dparts_fit hs3
      have hR := raise_st (dary_asks p c d bm W1) hd hh (row_in hf3 hnd hin (by omega)) (strictM_ahead W1 _ hin) i hi hU
      rw [hix] at hR
      have hdm := depth_mono (d := d) (by omega) (lenW W kk - 1) i (by omega)
      clear hs3 hh hU
      generalize hq : qs kk = q2 at *
      replace hq := Lib.hid hq
      go_wp2_with fail
      refine hl.mono ?_
      rintro e w3 ⟨rfl, rfl⟩
      clear hl
      go_wp2_with fail
      refine hR.mono ?_
      rintro e w4 ⟨v4, xs', s', rfl, hp, _, hw, hhp, hs4⟩
      clear hR
      have hx' : xs' ≠ [] := fun e => hn (List.length_eq_zero_iff.1 (by rw [← hp.length_eq, e]; rfl))
      have I3 := hfin xs' hhp hp
      have hs5 := dlay_hand hs4 kk (upd_same _ _ _)
      rw [upd_upd, dupd_fam, ← dmap_same Ls qs kk q2 xs' hn hx' hq.out] at hs5
      have hw' := within_dR hw
      have hst : s ≤ s' ∧ (true = false → s' = s) ∧ s' ≤ s + (depthI d (lenW W kk - 1) : Nat) := ⟨hw'.1, fun e => (by cases e), by omega⟩
      clear hw
      go_wp2_with fail
      go_ret
      exact ⟨rfl, s', hst, dary_close hs5 hF I3⟩
end
end Go.Proofs.Ytlbbgdpdaelcdaa
