/- Merged of ShedNest2, ShedNest3. -/
import Derived.Test.YtdfjgmellkmamaaStageFrame
import Derived.Test.YtdfjgmellkmamaaNestCalls
import Derived.Deep.RegionHeld3
import Derived.Deep.RegionWith
namespace Go.Proofs.Ytdfjgmellkmamaa
open Go.RowKit Go.Sort

def newShedPost (w : World) (n : Nat) (e : Ending) (w' : World) : Prop := ∃ p c, e = .returned (.tuple #[.pointer (some ⟨p, 0, none⟩), .int .i64 0]) ∧ ∃ F', (Ob.shed p c (newW n) 0).holds w' F' ∧ (∀ k, F' k → w.heap.size ≤ k) ∧ Below w.heap.size w w'
theorem madeZero (n : Nat) : (madeCells #[Value.int .i64 0] (n * 1)).toList = cellsBy natC (List.replicate n 0) := made_rows (f := natC) natC_len (by omega) 0 #[.int .i64 0] rfl n
section
theorem new_sh (n : Nat) (hn : n ≤ 65536) (w : World) : Calls Try.prog 9 #[.int .i64 n] w (newShedPost w n) := by
  have hmk := run_make_rows (P := Try.prog) 30 3 (.int .i64 0) 1 8 Try.underlying30 info_int n (by omega) (by omega)
  have hmm := @run_makeMap Try.prog
  have hC := new_cl n hn w
  go_enter Try.func9, Try.ntmps9
  go_wp2_with fail
  refine hC.mono ?_
  rintro e w1 ⟨c, rfl, F1, h1, h2, h3⟩
  have hs1 := (Stage.start w).add (O := Ob.cells c (newW n) 0) h3 h1 h2
  have hs2 := hs1.newPMap Try.prog 3 65537 rfl
  have hs3 := hs2.newRow' 3 1 n (madeCells #[Value.int .i64 0] (n * 1)) (by simp [madeCells]) (by unfold maxLen; omega) rfl
  have hz : (w1.alloc (.map #[] 0)).heap.size = w1.heap.size + 1 := size_alloc _ _
  have hs4 := hs3.alloc #[.pointer (some ⟨c, 0, none⟩), .map (some w1.heap.size), .slice (some ⟨w1.heap.size + 1, 0, none⟩) n n] 32
  rw [madeZero, hz] at hs4
  have hz2 : ((w1.alloc (.map #[] 0)).alloc (.cells (madeCells #[Value.int .i64 0] (n * 1)) 3)).heap.size = w1.heap.size + 1 + 1 := by rw [size_alloc, hz]
  rw [hz2] at hs4
  have hs5 : Stage (fun _ => False) w ([Ob.box (w1.heap.size + 1 + 1) #[.pointer (some ⟨c, 0, none⟩), .map (some w1.heap.size), .slice (some ⟨w1.heap.size + 1, 0, none⟩) n n] 32, Ob.cells c (newW n) 0, Ob.row 0 3 1 (.slice (some ⟨w1.heap.size + 1, 0, none⟩) n n) n (cellsBy natC (List.replicate n 0)), Ob.pmap Try.prog 3 w1.heap.size (fun _ => none) 65537]) _ := hs4.select [3, 0, 2, 1] (by decide) rfl
  rw [Nat.mul_one] at hs5
  clear hs1 hs2 hs3 hs4
  go_wp2_with fail
  have hs6 := hs5.add (O := Ob.fam (famO (w1.heap.size + 1 + 1) (fun _ => []) (fun _ => 0))) (F' := fun _ => False) (Below.refl _ _) ⟨fun _ h => h.elim, fun _ _ => False, fun i => by show (listO _ _ []).holds _ _; simp only [listO, if_true]; exact rfl, fun _ _ _ _ h => h.elim, fun _ _ h => h.elim⟩ (fun _ h => h.elim)
  obtain ⟨F', g1, g2, g3⟩ := hs6.closeNew
  refine bodyPost_ret (v := .tuple #[.pointer (some ⟨w1.heap.size + 1 + 1, 0, none⟩), .int .i64 0]) (by simp [results, Try.results9, go_sem]) rfl ⟨_, c, rfl, F', ⟨w1.heap.size, .slice (some ⟨w1.heap.size + 1, 0, none⟩) n n, List.replicate n 0, fun _ => [], fun _ => 0, sinv_new n, new_fitW hn, ⟨Int.le_refl _, by omega⟩, ?_⟩, g2, g3⟩
  unfold shedParts
  rw [List.length_replicate]
  have e : mapO (fun _ => []) (fun _ => 0) = fun _ => none := by funext h; simp [mapO]
  rw [e]
  exact g1
end
section
variable {w : World} {p c : Nat} {W : WS} {s : Int} {F : Nat → Prop}
set_option maxRecDepth 100000 in
theorem min_sh (y : Int) (hy : inInt y) (h : (Ob.shed p c W s).holds w F) : Calls Try.prog 33 #[.pointer (some ⟨p, 0, none⟩), .int .i64 y] w fun e w' => e = .returned (.tuple #[.int .i64 (minI W y), .bool (minB W y)]) ∧ w = w' := by
  obtain ⟨bm, vp, pl, Ls, qs, I, hf, _, hg⟩ := h
  have hs := Ob.group.open hg
  clear hg
  have hL := hs.ask 1 rfl (fun _ ho => len_cl y hy ho)
  have p0 := hs.cell 0 rfl (o := 0) rfl
  by_cases hz : lenW W y = 0
  · obtain ⟨q1, q2⟩ := minI_none (min_none_iff.2 hz)
    rw [q1, q2]
    have hz' : (lenW W y : Int) = 0 := by omega
    rw [hz'] at hL
    clear hz hz' q1 q2
    go_enter Try.func33, Try.ntmps33
    go_wp2_with fail
    refine hL.mono ?_
    rintro e w1 ⟨rfl, rfl⟩
    go_wp2_with fail
    exact bodyPost_ret (v := .tuple #[.int .i64 0, .bool false]) (by simp [results, Try.results33, go_sem]) rfl ⟨rfl, rfl⟩
  · have hyp : 0 < y := by
      by_cases e : 0 < y
      · exact e
      · exact absurd (by simp [lenW, e]) hz
    obtain ⟨k, rfl⟩ : ∃ k : Nat, y = k := ⟨y.toNat, by omega⟩
    have hn : Ls k ≠ [] := fun e => hz ((I.empty (by omega)).1 e)
    obtain ⟨_, hk, _⟩ := I.keyLt hf hn
    obtain ⟨q1, q2⟩ := minI_some (min_of (I.min hn))
    rw [q1, q2]
    have hl := list_st hs k hk hn
    obtain ⟨v, hh⟩ := take_hand hs k hn
    have hpos : 0 < (Ls k).length := List.length_pos_iff.2 hn
    obtain ⟨g, cp, rfl, _, _, _, hcell, _⟩ := hand_row hh hpos
    have u0 := hcell 0 hpos
    have k1 := hh.cell 3 rfl (o := 1) rfl
    have hz' : ((lenW W k : Int) == 0) = false := by simp; omega
    clear hcell hh hs I hz q1 q2
    generalize (Ls k).length = m at *
    generalize rat (Ls k) 0 = x at *
    generalize qs k = q at *
    generalize (lenW W k : Int) = lw at *
    have hp0 : (0 : Int) < m := by omega
    go_enter Try.func33, Try.ntmps33
    go_wp2_with fail
    refine hL.mono ?_
    rintro e w1 ⟨rfl, rfl⟩
    go_wp2_with fail
    refine hl.mono ?_
    rintro e w1 ⟨rfl, rfl⟩
    go_wp2_with fail
    exact bodyPost_ret (v := .tuple #[.int .i64 x, .bool true]) (by simp [results, Try.results33, go_sem]) rfl ⟨rfl, rfl⟩
set_option maxRecDepth 100000 in
set_option maxHeartbeats 1000000 in
theorem delete_sh (x : Int) (h : (Ob.shed p c W s).holds w F) : Calls Try.prog 34 #[.pointer (some ⟨p, 0, none⟩), .int .i64 x] w fun e w' => e = .returned (.bool (inW W x)) ∧ ∃ s', (s ≤ s' ∧ (inW W x = false → s' = s) ∧ s' ≤ s + (2 * depthI 2 (lenW W (cellW W x).home - 1) + 2 : Nat)) ∧ ∃ F', (Ob.shed p c (dropW W x) s').holds w' F' ∧ Moved F F' w w' := by
  have hF := (Ob.shed p c W s).lt h
  obtain ⟨bm, vp, pl, Ls, qs, I, hf, _, hg⟩ := h
  have hs := Ob.group.open hg
  clear hg
  have hH := hs.call 1 rfl (fun _ ho => home_cl x ho)
  have p0 := hs.cell 0 rfl (o := 0) rfl
  cases hB : inW W x
  · have eW : dropW W x = W := by simp [dropW, hB]
    rw [hB] at hH
    rw [eW]
    generalize ((cellW W x).home : Int) = hh at *
    go_enter Try.func34, Try.ntmps34
    go_wp2_with fail
    refine hH.mono ?_
    rintro e w1 ⟨rfl, hs1⟩
    have hs2 : Stage F w (shedParts p c bm vp W s pl (mapO Ls qs) (famO p Ls qs)) w1 := hs1
    go_wp2_with fail
    go_ret
    exact ⟨rfl, s, ⟨Int.le_refl _, fun _ => rfl, by omega⟩, shed_close hs2 hF I hf⟩
  · obtain ⟨j, rfl, hj, hne⟩ := in_nat hB
    have hc := cell_nat W j hj
    obtain ⟨k, hk⟩ : ∃ k, k = (W.cells.getD j .off).home := ⟨_, rfl⟩
    have hkk : homeAt W j = k := hk.symm
    rw [hc, ← hk] at hH ⊢
    have hm : j ∈ Ls k := (I.mem k j (by omega)).2 ⟨hj, hkk⟩
    have hn : Ls k ≠ [] := fun e => by rw [e] at hm; simp at hm
    obtain ⟨hk1, hk2, _⟩ := I.keyLt hf hn
    obtain ⟨i, hi, hix⟩ := mem_rat hm
    have hpj := (I.placed k i hi).2
    have hpl := (I.placed k i hi).1
    rw [hix] at hpj hpl
    obtain ⟨_, eW, hfin⟩ := sinv_drop I hm
    have hlen := I.len k hk1
    have hle := I.lenLe hf k
    have hpos : 0 < (Ls k).length := by omega
    have hP := I.placed k
    have hA := I.allIn k
    have hHp := I.heap k
    rw [hB] at hH
    clear hs hk hc hne
    go_enter Try.func34, Try.ntmps34
    go_wp2_with fail
    refine hH.mono ?_
    rintro e w1 ⟨rfl, hs1⟩
    have hs2 : Stage F w (shedParts p c bm vp W s pl (mapO Ls qs) (famO p Ls qs)) w1 := hs1
    clear hs1 hH p0
    have hl := list_st hs2 k hk2 hn
    obtain ⟨v, hh⟩ := take_hand hs2 k hn
    have p2 := hs2.cell 0 rfl (o := 2) rfl
    obtain ⟨g, cp, hvp, _, _, _, hcell, _⟩ := hand_places hh (by omega)
    have u0 := hcell j hpl
    rw [hpj] at u0
    have hjp : (j : Int) < pl.length := by omega
    have hR := remove_st hh ((Ls k).length - 1) (by omega) hle hP hA hHp i hi
    rw [hix] at hR
    subst hvp
    clear hcell hs2 hh
    generalize qs k = q at *
    go_wp2_with fail
    refine hl.mono ?_
    rintro e w2 ⟨rfl, rfl⟩
    go_wp2_with fail
    clear hl p2 u0
    refine hR.mono ?_
    rintro e w3 ⟨rfl, v3, ys, pl3, s3, g1, g2, g3, g4, g5, g6, hs4⟩
    clear hR
    have hyl : ys.length ≤ 65536 := by
      have := g2.length_eq
      simp at this
      omega
    have I3 := hfin ys pl3 g1 g2 g3 g4 g5
    have hK := keep_st hs4 k hk2 hyl (upd_same _ _ _)
    rw [upd_map, upd_upd, upd_fam] at hK
    have hst : s ≤ s3 ∧ (true = false → s3 = s) ∧ s3 ≤ s + (2 * depthI 2 (lenW W k - 1) + 2 : Nat) := ⟨g6.1, fun e => (by cases e), by rw [← hlen]; exact g6.2⟩
    clear g6 hs4 hfin g1 g2 g3 g4 g5
    go_wp2_with fail
    refine hK.mono ?_
    rintro e w4 ⟨rfl, hs5⟩
    clear hK
    have hD := hs5.call 1 rfl (fun _ ho => drop_cl j ho)
    rw [hB] at hD
    have p0 := hs5.cell 0 rfl (o := 0) rfl
    clear eW
    go_wp2_with fail
    refine hD.mono ?_
    rintro e w5 ⟨rfl, hs6⟩
    have hs7 : Stage F w (shedParts p c bm (.slice (some ⟨g, 0, none⟩) pl.length cp) (dropW W j) s3 pl3 (mapO (updL Ls k ys) (updN qs k q)) (famO p (updL Ls k ys) (updN qs k q))) w5 := hs6
    go_wp2_with fail
    go_ret
    exact ⟨rfl, s3, hst, shed_close hs7 hF I3 (parts_fit hs7)⟩
end
end Go.Proofs.Ytdfjgmellkmamaa

namespace Go.Proofs.Ytdfjgmellkmamaa
open Go.RowKit Go.Sort

theorem map_same (Ls : Nat → List Nat) (qs : Nat → Nat) (k q : Nat) (xs : List Nat) (hn : Ls k ≠ []) (hx : xs ≠ []) (hq : qs k = q) : mapO (updL Ls k xs) (updN qs k q) = mapO Ls qs := by
  rw [← upd_map, if_neg hx]
  funext i
  unfold setP
  split
  · rename_i e
    subst e
    simp [mapO, hn, hq]
  · rfl
section
variable {w : World} {p c : Nat} {W : WS} {s : Int} {F : Nat → Prop}
theorem extract_sh (y : Int) (hy : inInt y) (h : (Ob.shed p c W s).holds w F) : Calls Try.prog 20 #[.pointer (some ⟨p, 0, none⟩), .int .i64 y] w fun e w' => e = .returned (.tuple #[.int .i64 (minI W y), .bool (minB W y)]) ∧ ∃ s', (s ≤ s' ∧ s' ≤ s + (2 * depthI 2 (lenW W y - 1) + 2 : Nat)) ∧ ∃ F', (Ob.shed p c (exW W y) s').holds w' F' ∧ Moved F F' w w' := by
  have hM := min_sh y hy h
  cases hm : minW W y with
  | none =>
    obtain ⟨q1, q2⟩ := minI_none hm
    have q3 : exW W y = W := by simp [exW, hm]
    rw [q1, q2] at hM ⊢
    rw [q3]
    go_enter Try.func20, Try.ntmps20
    go_wp2_with fail
    refine hM.mono ?_
    rintro e w1 ⟨rfl, rfl⟩
    go_wp2_with fail
    exact bodyPost_ret (v := .tuple #[.int .i64 0, .bool false]) (by simp [results, Try.results20, go_sem]) rfl ⟨rfl, s, ⟨Int.le_refl _, by omega⟩, F, h, Moved.refl _ _⟩
  | some m =>
    obtain ⟨q1, q2⟩ := minI_some hm
    have q3 : exW W y = dropW W m := by simp [exW, hm]
    have hmin := min_is hm
    rw [q1, q2] at hM ⊢
    rw [q3]
    have hD := delete_sh m h
    have e1 : ((cellW W m).home : Int) = y := by rw [cell_nat W m hmin.lt]; exact hmin.home
    rw [e1, (isMin_in hmin).1] at hD
    go_enter Try.func20, Try.ntmps20
    go_wp2_with fail
    refine hM.mono ?_
    rintro e w1 ⟨rfl, rfl⟩
    go_wp2_with fail
    refine hD.mono ?_
    rintro e w2 ⟨rfl, s', ⟨h1, _, h2⟩, F', h3, h4⟩
    go_wp2_with fail
    exact bodyPost_ret (v := .tuple #[.int .i64 m, .bool true]) (by simp [results, Try.results20, go_sem]) rfl ⟨rfl, s', ⟨h1, h2⟩, F', h3, h4⟩
set_option maxRecDepth 100000 in
set_option maxHeartbeats 2000000 in
theorem decrease_sh (x k q : Int) (h : (Ob.shed p c W s).holds w F) : Calls Try.prog 97 #[.pointer (some ⟨p, 0, none⟩), .int .i64 x, .agg #[.int .i64 k, .int .u64 q]] w fun e w' => e = .returned (.bool (lowerB W x k q)) ∧ ∃ s', (s ≤ s' ∧ (lowerB W x k q = false → s' = s) ∧ s' ≤ s + (2 * depthI 2 (lenW W (cellW W x).home - 1) + 2 : Nat)) ∧ ∃ F', (Ob.shed p c (lowerW W x k q) s').holds w' F' ∧ Moved F F' w w' := by
  have hF := (Ob.shed p c W s).lt h
  obtain ⟨bm, vp, pl, Ls, qs, I, hf, _, hg⟩ := h
  have hs := Ob.group.open hg
  clear hg
  obtain ⟨w0, hw0, hs0⟩ : ∃ w0, w.alloc (.cells #[.int .i64 k, .int .u64 q] 59) = w0 ∧ Stage F w (shedParts p c bm vp W s pl (mapO Ls qs) (famO p Ls qs) ++ [Ob.box w.heap.size #[.int .i64 k, .int .u64 q] 59]) w0 := ⟨_, rfl, hs.alloc _ _⟩
  have hH := hs0.call 1 rfl (fun _ ho => home_cl x ho)
  have p0 := hs0.cell 0 rfl (o := 0) rfl
  clear hs
  cases hB : inW W x
  · have eB : lowerB W x k q = false := by simp [lowerB, hB]
    have eW : lowerW W x k q = W := by simp [lowerW, eB]
    rw [hB] at hH
    rw [eB, eW]
    generalize ((cellW W x).home : Int) = hh at *
    go_enter Try.func97, Try.ntmps97
    go_wp2_with fail
    refine hH.mono ?_
    rintro e w1 ⟨rfl, hs1⟩
    have hs2 : Stage F w (shedParts p c bm vp W s pl (mapO Ls qs) (famO p Ls qs)) w1 := hs1.take 5
    clear hH p0 hw0 hs0 hs1
    go_wp2_with fail
    go_quiet (fail)
    go_wp2_with fail
    go_ret
    exact ⟨rfl, s, ⟨Int.le_refl _, fun _ => rfl, by omega⟩, shed_close (hs2.drewN _) hF I hf⟩
  · rw [hB] at hH
    have hL := fun (w1 : World) (hs1 : Stage F w (shedParts p c bm vp W s pl (mapO Ls qs) (famO p Ls qs) ++ [Ob.box w.heap.size #[.int .i64 k, .int .u64 q] 59]) w1) => hs1.drew.call 1 rfl (fun _ ho => lower_cl x k q ho)
    cases hlb : lowerB W x k q
    · have eW : lowerW W x k q = W := by simp [lowerW, hlb]
      rw [hlb, eW] at hL
      rw [eW]
      generalize ((cellW W x).home : Int) = hh at *
      go_enter Try.func97, Try.ntmps97
      go_wp2_with fail
      refine hH.mono ?_
      rintro e w1 ⟨rfl, hs1⟩
      clear hH p0 hw0 hs0
      replace hs1 : Stage F w (shedParts p c bm vp W s pl (mapO Ls qs) (famO p Ls qs) ++ [Ob.box w.heap.size #[.int .i64 k, .int .u64 q] 59]) w1 := hs1
      replace hL := hL w1 hs1
      have b0 := hs1.cell 5 rfl (o := 0) rfl
      have b1 := hs1.cell 5 rfl (o := 1) rfl
      have p0 := hs1.cell 0 rfl (o := 0) rfl
      go_wp2_with fail
      go_region_held3 (fun w' => w'.cell? ⟨w.heap.size, 0, none⟩ = some (.int .i64 k) ∧ w'.cell? ⟨w.heap.size, 1, none⟩ = some (.int .u64 q) ∧ w'.cell? ⟨p, 0, none⟩ = some (.pointer (some ⟨c, 0, none⟩))) (first | exact ⟨b0, b1, p0⟩ | exact ⟨b0p, b1p, p0p⟩ | simp [*])
        ((with_reducible refine hL.mono ?_; rintro e w2 ⟨rfl, hs2⟩; have b0p := hs2.cell 5 rfl (o := 0) rfl; have b1p := hs2.cell 5 rfl (o := 1) rfl; have p0p := hs2.cell 0 rfl (o := 0) rfl))
      have hs3 : Stage F w (shedParts p c bm vp W s pl (mapO Ls qs) (famO p Ls qs)) w2 := hs2.take 5
      go_wp2_with fail
      go_ret
      exact ⟨rfl, s, ⟨Int.le_refl _, fun _ => rfl, by omega⟩, shed_close hs3 hF I hf⟩
    · obtain ⟨j, rfl, hj, hne⟩ := in_nat hB
      obtain ⟨kk, hm, hhome, ⟨hpi, hpx⟩, hA, hFix, hfin⟩ := sinv_lower (k := k) (s := q) I hlb
      have hn : Ls kk ≠ [] := fun e => by rw [e] at hm; simp at hm
      obtain ⟨hk1, hk2, _⟩ := I.keyLt hf hn
      have hlen := I.len kk hk1
      have hle := I.lenLe hf kk
      have hP := I.placed kk
      have hpl : j < pl.length := by rw [I.plen]; exact hj
      have hjp : (j : Int) < pl.length := by omega
      rw [hhome] at hH ⊢
      rw [hlb] at hL
      clear hhome hne hlb
      go_enter Try.func97, Try.ntmps97
      go_wp2_with fail
      refine hH.mono ?_
      rintro e w1 ⟨rfl, hs1⟩
      clear hH p0 hw0 hs0
      replace hs1 : Stage F w (shedParts p c bm vp W s pl (mapO Ls qs) (famO p Ls qs) ++ [Ob.box w.heap.size #[.int .i64 k, .int .u64 q] 59]) w1 := hs1
      replace hL := hL w1 hs1
      have b0 := hs1.cell 5 rfl (o := 0) rfl
      have b1 := hs1.cell 5 rfl (o := 1) rfl
      have p0 := hs1.cell 0 rfl (o := 0) rfl
      go_wp2_with fail
      go_region_held3 (fun w' => w'.cell? ⟨w.heap.size, 0, none⟩ = some (.int .i64 k) ∧ w'.cell? ⟨w.heap.size, 1, none⟩ = some (.int .u64 q) ∧ w'.cell? ⟨p, 0, none⟩ = some (.pointer (some ⟨c, 0, none⟩))) (first | exact ⟨b0, b1, p0⟩ | exact ⟨b0p, b1p, p0p⟩ | simp [*])
        ((with_reducible refine hL.mono ?_; rintro e w2 ⟨rfl, hs2⟩; have b0p := hs2.cell 5 rfl (o := 0) rfl; have b1p := hs2.cell 5 rfl (o := 1) rfl; have p0p := hs2.cell 0 rfl (o := 0) rfl))
      have hs3 : Stage F w (shedParts p c bm vp (lowerW W j k q) s pl (mapO Ls qs) (famO p Ls qs)) w2 := hs2.take 5
      clear hL hs1 hs2 b0 b1 p0 b0p b1p p0p
      have hl := list_st hs3.drew kk hk2 hn
      obtain ⟨v, hh⟩ := take_hand hs3.drew kk hn
      have p2 := hs3.cell 0 rfl (o := 2) rfl
      obtain ⟨g, cp, hvp, _, _, _, hcell, _⟩ := hand_places hh (by omega)
      have u0 : w2.cell? ⟨g, j, none⟩ = _ := hcell j hpl
      have hR := fix_st hh hle hP hA _ hFix
      have hf3 := parts_fit hs3
      clear hcell hs3 hh hFix
      generalize rat pl j = i at *
      generalize hq : qs kk = q2 at *
      replace hq := Lib.hid hq
      subst hvp
      go_wp2_with fail
      go_region_with (first | (go_at_call 30; with_reducible refine hl.mono ?_; rintro e w3 ⟨rfl, rfl⟩) | (go_at_call 101; with_reducible refine hR.mono ?_; rintro e w4 ⟨rfl, xs', pl', s', g1, g2, hs4⟩))
      all_goals
        have hx' : xs' ≠ [] := fun e => hn (List.length_eq_zero_iff.1 (by rw [← g2.perm.length_eq, e]; rfl))
        have I3 := hfin xs' pl' g1 g2.perm (by have := g2.placed; rwa [List.append_nil] at this) g2.plen g2.off
        have hs5 := lay_hand hs4 kk (upd_same _ _ _)
        rw [upd_upd, upd_fam, ← map_same Ls qs kk q2 xs' hn hx' hq.out] at hs5
        have hst : s ≤ s' ∧ (true = false → s' = s) ∧ s' ≤ s + (2 * depthI 2 (lenW W kk - 1) + 2 : Nat) := ⟨g2.lo, fun e => (by cases e), by rw [← hlen]; exact g2.hi⟩
        go_wp2_with fail
        go_ret
        exact ⟨rfl, s', hst, shed_close hs5 hF I3 hf3⟩
end
end Go.Proofs.Ytdfjgmellkmamaa
