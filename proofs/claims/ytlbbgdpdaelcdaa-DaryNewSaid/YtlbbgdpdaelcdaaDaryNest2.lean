/- Merged of DaryNest, DaryNest2. -/
import Derived.Test.YtlbbgdpdaelcdaaDaryRow
namespace Go.Proofs.Ytlbbgdpdaelcdaa
open Go.RowKit Go.Sort

theorem in_int {W : WS} (hf : W.Fit) {x : Int} (h : inW W x = true) : inInt x := by
  obtain ⟨i, rfl, hi, _⟩ := in_nat h
  have := hf.cap
  exact ⟨by omega, by omega⟩
theorem row_in {W : WS} (hf : W.Fit) {l : List Int} (hn : l.Nodup) (hi : ∀ y ∈ l, inW W y = true) (hl : l.length ≤ 1048576) : RowIn (fun x => inW W x = true) l :=
  ⟨hn, hi, fun x hx => in_int hf (hi x hx), hl⟩
section
variable {w : World} {p c d : Nat} {W : WS} {s : Int} {F : Nat → Prop}
theorem dary_close {F : Nat → Prop} {w w' : World} {bm : Nat} {W' : WS} {s' : Int} {Ls : Nat → List Int} {qs : Nat → Nat} (hs : Stage F w (daryParts p c d bm W' s' (dmapO Ls qs) (dfamO d Ls qs)) w') (hF : ∀ b, F b → b < w.heap.size) (I : DInv W' d Ls) : ∃ F', (Ob.dary p c d W' s').holds w' F' ∧ Moved F F' w w' := by
  obtain ⟨F', h1, m⟩ := hs.close hF
  obtain ⟨G, ho⟩ := hs.get (i := 0) rfl
  exact ⟨F', ⟨bm, Ls, qs, I, dcells_fit ho, dcells_steps ho, h1⟩, m⟩
theorem dparts_fit {F0 : Nat → Prop} {W0 : World} {bm : Nat} {f : Int → Option Nat} {g : Nat → Ob} (hs : Stage F0 W0 (daryParts p c d bm W s f g) w) : W.Fit := by
  obtain ⟨G, ho⟩ := hs.get (i := 0) rfl
  exact dcells_fit ho
set_option maxRecDepth 100000 in
theorem insert_da (hd : 2 ≤ d ∧ d ≤ 16) (y x k q : Int) (h : (Ob.dary p c d W s).holds w F) : Calls Try.prog 21 #[.pointer (some ⟨p, 0, none⟩), .int .i64 y, .int .i64 x, .agg #[.int .i64 k, .int .u64 q]] w fun e w' => e = .returned (.bool (putB W y x)) ∧ ∃ s', (s ≤ s' ∧ (putB W y x = false → s' = s) ∧ s' ≤ s + depthI d (lenW W y) ∧ (putB W y x = true → 0 < lenW W y → 0 < s')) ∧ ∃ F', (Ob.dary p c d (putW W y x k q) s').holds w' F' ∧ Moved F F' w w' := by
  have hF := (Ob.dary p c d W s).lt h
  obtain ⟨bm, Ls, qs, I, hf, _, hg⟩ := h
  have hs := Ob.group.open hg
  clear hg
  obtain ⟨w0, hw0, hs0⟩ : ∃ w0, w.alloc (.cells #[.int .i64 k, .int .u64 q] 55) = w0 ∧ Stage F w (daryParts p c d bm W s (dmapO Ls qs) (dfamO d Ls qs) ++ [Ob.box w.heap.size #[.int .i64 k, .int .u64 q] 55]) w0 := ⟨_, rfl, hs.alloc _ _⟩
  have hC := hs0.drew.call 0 rfl (fun _ ho => dcells_call ho fun _ h => put_cl y x k q h)
  have b0 := hs0.cell 3 rfl (o := 0) rfl
  have b1 := hs0.cell 3 rfl (o := 1) rfl
  have p0 := (hs0.get (i := 0) rfl).elim fun _ h => (dcells_cell h).1
  cases hB : putB W y x
  · have eW : putW W y x k q = W := by simp [putW, hB]
    rw [hB, eW] at hC
    rw [eW]
    clear hs
    go_enter Try.func21, Try.ntmps21
    go_wp2_with fail
    go_still_tail 7, (by kernel_rfl)
    change wpList _ _ _ _ _ w0.drew
    go_wp2_with fail
    refine hC.mono ?_
    rintro e w1 ⟨rfl, hs1⟩
    have hs2 : Stage F w (daryParts p c d bm W s (dmapO Ls qs) (dfamO d Ls qs)) w1 := hs1.take 3
    go_wp2_with fail
    go_ret
    exact ⟨rfl, s, ⟨Int.le_refl _, fun _ => rfl, by omega, fun e => by simp at e⟩, dary_close hs2 hF I⟩
  · obtain ⟨i, rfl, hi1, hi2⟩ : ∃ i : Nat, y = i ∧ 1 ≤ i ∧ i < 65537 := by
      have hB2 := hB
      simp only [putB, Bool.and_eq_true] at hB2
      obtain ⟨i, rfl, h1, h2, _⟩ := has_nat hB2.1
      have := hf.len
      exact ⟨i, rfl, h1, by omega⟩
    obtain ⟨_, _, hH, hin, hnd, hfin⟩ := dinv_put (k := k) (s := q) I (by omega) hB hi1
    have hlen := I.len i hi1
    have hle := I.lenLe hf i
    have hl1 : (Ls i ++ [x]).length ≤ 1048576 := by rw [List.length_append]; simp; omega
    rw [hB] at hC
    clear hs
    generalize putW W i x k q = W1 at *
    go_enter Try.func21, Try.ntmps21
    go_wp2_with fail
    go_still_tail 7, (by kernel_rfl)
    change wpList _ _ _ _ _ w0.drew
    go_wp2_with fail
    refine hC.mono ?_
    rintro e w1 ⟨rfl, hs1⟩
    have hs2 : Stage F w (daryParts p c d bm W1 s (dmapO Ls qs) (dfamO d Ls qs)) w1 := hs1.take 3
    clear hs1 hC b0 b1 p0 hw0 hs0
    have hf1 := dparts_fit hs2
    have hL := drow_hand hs2 hd i hi2
    go_wp2_with fail
    refine hL.mono ?_
    rintro e w2 ⟨q2, b2, v2, rfl, hs3⟩
    clear hL hs2
    have hA := add_st (dary_asks p c d bm W1) hd hs3 x (row_in hf1 hnd hin hl1) (strictM_ahead W1 _ hin) hH
    go_wp2_with fail
    refine hA.mono ?_
    rintro e w3 ⟨v3, ys, s3, rfl, hp, ⟨_, hask⟩, hw, hh, hs4⟩
    clear hA hs3
    have I3 := hfin ys hh hp
    have hK := dkeep_st hs4 i hi2 (upd_same _ _ _)
    have hw' := within_dR hw
    have hst : s ≤ s3 ∧ (true = false → s3 = s) ∧ s3 ≤ s + depthI d (lenW W i) ∧ (true = true → 0 < lenW W i → 0 < s3) := ⟨hw'.1, fun e => (by cases e), by rw [← hlen]; exact hw'.2, fun _ h => asked_dR (hask (by rw [hlen]; exact h))⟩
    rw [dupd_map, upd_upd, dupd_fam] at hK
    clear hs4 hfin hask hw hp hh
    go_wp2_with fail
    refine hK.mono ?_
    rintro e w4 ⟨rfl, hs5⟩
    go_wp2_with fail
    go_ret
    exact ⟨rfl, s3, hst, dary_close hs5 hF I3⟩
end
end Go.Proofs.Ytlbbgdpdaelcdaa

namespace Go.Proofs.Ytlbbgdpdaelcdaa
open Go.RowKit Go.Sort

def newDaryPost (w : World) (n d : Nat) (e : Ending) (w' : World) : Prop := ∃ p c, e = .returned (.tuple #[.pointer (some ⟨p, 0, none⟩), .int .i64 0]) ∧ ∃ F', (Ob.dary p c d (newW n) 0).holds w' F' ∧ (∀ k, F' k → w.heap.size ≤ k) ∧ Below w.heap.size w w'
theorem dfam_none (d : Nat) (w : World) : (Ob.fam (dfamO d (fun _ => []) (fun _ => 0))).holds w (fun _ => False) :=
  ⟨fun _ h => h.elim, fun _ _ => False, fun i => by show (drowO d _ []).holds _ _; simp only [drowO, if_true]; exact rfl, fun _ _ _ _ h => h.elim, fun _ _ h => h.elim⟩
set_option maxRecDepth 100000 in
theorem new_da (n d : Nat) (hn : n ≤ 65536) (hd : 2 ≤ d ∧ d ≤ 16) (w : World) : Calls Try.prog 10 #[.int .i64 n, .int .i64 d] w (newDaryPost w n d) := by
  have hmm := @run_makeMap Try.prog
  have hC := new_cl n hn w
  go_enter Try.func10, Try.ntmps10
  go_wp2_with fail
  refine hC.mono ?_
  rintro e w1 ⟨c, rfl, F1, h1, h2, h3⟩
  have hs1 := (Stage.start w).add (O := Ob.cells c (newW n) 0) h3 h1 h2
  clear hC h1 h2 h3
  have hN := snew_st hs1 d hd
  go_wp2_with fail
  refine hN.mono ?_
  rintro e w2 ⟨rfl, hs2⟩
  clear hN
  have hs2 := hs2.take 1
  replace hs2 : Stage (fun _ => False) w [Ob.cells c (newW n) 0] w2 := hs2
  have hs3 := hs2.newPMap Try.prog 3 65537 rfl
  have hz : (w2.alloc (.map #[] 0)).heap.size = w2.heap.size + 1 := size_alloc _ _
  have hs4 := hs3.alloc #[ptrV c, .int .i64 d, .map (some w2.heap.size)] 32
  rw [hz] at hs4
  have hs5 : Stage (fun _ => False) w ([Ob.pmap Try.prog 3 w2.heap.size (fun _ => none) 65537] ++ [Ob.box (w2.heap.size + 1) #[ptrV c, .int .i64 d, .map (some w2.heap.size)] 32, Ob.cells c (newW n) 0]) _ := hs4.select [1, 2, 0] (by decide) rfl
  have hs6 := hs5.regroup.select [1, 0] (by decide) rfl
  clear hs1 hs2 hs3 hs4 hs5
  have hs7 := hs6.add (O := Ob.fam (dfamO d (fun _ => []) (fun _ => 0))) (F' := fun _ => False) (Below.refl _ _) (dfam_none d _) (fun _ h => h.elim)
  clear hs6
  go_wp2_with fail
  obtain ⟨F', g1, g2, g3⟩ := hs7.closeNew
  refine bodyPost_ret (v := .tuple #[.pointer (some ⟨w2.heap.size + 1, 0, none⟩), .int .i64 0]) (by simp [results, Try.results10, go_sem]) rfl ⟨_, c, rfl, F', ⟨w2.heap.size, fun _ => [], fun _ => 0, dinv_new n d, new_fitW hn, ⟨Int.le_refl _, by omega⟩, ?_⟩, g2, g3⟩
  have e : dmapO (fun _ => []) (fun _ => 0) = fun _ => none := by funext h; simp [dmapO]
  rw [e]
  exact g1
theorem new_da_no (n d : Int) (w : World) (hn : ¬ (0 ≤ n ∧ n ≤ 65536)) : Calls Try.prog 10 #[.int .i64 n, .int .i64 d] w fun e w' => e = .returned (.tuple #[.pointer none, .int .i64 31]) ∧ w = w' := by
  go_enter Try.func10, Try.ntmps10
  go_wp2_with fail
  refine (new_no n w hn).mono ?_
  rintro e w1 ⟨rfl, rfl⟩
  go_wp2_with fail
  exact bodyPost_ret (v := .tuple #[.pointer none, .int .i64 31]) (by simp [results, Try.results10, go_sem]) rfl ⟨rfl, rfl⟩
theorem new_da_deg (n : Nat) (hn : n ≤ 65536) (d : Int) (hd : rightD d = false) (w : World) : Calls Try.prog 10 #[.int .i64 n, .int .i64 d] w fun e w' => e = .returned (.tuple #[.pointer none, .int .i64 22]) ∧ Below w.heap.size w w' := by
  have hC := new_cl n hn w
  go_enter Try.func10, Try.ntmps10
  go_wp2_with fail
  refine hC.mono ?_
  rintro e w1 ⟨c, rfl, F1, _, _, h3⟩
  clear hC
  go_wp2_with fail
  refine (snew_no d hd w1).mono ?_
  rintro e w2 ⟨rfl, rfl⟩
  go_wp2_with fail
  exact bodyPost_ret (v := .tuple #[.pointer none, .int .i64 22]) (by simp [results, Try.results10, go_sem]) rfl ⟨rfl, h3⟩
section
variable {w : World} {p c d : Nat} {W : WS} {s : Int} {F : Nat → Prop}
theorem DInv.keyLt {W : WS} {d : Nat} {Ls : Nat → List Int} (I : DInv W d Ls) (hf : W.Fit) {h : Nat} (hn : Ls h ≠ []) : 1 ≤ h ∧ h < 65537 := by
  obtain ⟨x, hx⟩ := List.exists_mem_of_ne_nil _ hn
  obtain ⟨h1, _, h3, k, h4, h5, h6⟩ := I.in' hx
  have h7 := hf.home k h5
  have e : (W.cells.getD k .off).home = h := h6
  rw [e] at h7
  rcases h7 with h7 | h7
  · omega
  · obtain ⟨i, hi, _, hl, _⟩ := has_nat h7
    have := hf.len
    exact ⟨h1, by omega⟩
set_option maxRecDepth 100000 in
theorem min_da (hd : 2 ≤ d ∧ d ≤ 16) (y : Int) (hy : inInt y) (h : (Ob.dary p c d W s).holds w F) : Calls Try.prog 25 #[.pointer (some ⟨p, 0, none⟩), .int .i64 y] w fun e w' => e = .returned (.tuple #[.int .i64 (minI W y), .bool (minB W y)]) ∧ w = w' := by
  obtain ⟨bm, Ls, qs, I, hf, _, hg⟩ := h
  have hs := Ob.group.open hg
  clear hg
  have p2 := (hs.get (i := 0) rfl).elim fun _ h => (dcells_cell h).2.2
  have hL := hs.lookP 1 rfl Try.underlying30 Try.underlying3 (dzero_ptr w) y hy
  by_cases hz : lenW W y = 0
  · obtain ⟨q1, q2⟩ := minI_none (min_none_iff.2 hz)
    rw [q1, q2]
    have e : dmapO Ls qs y = none := by
      unfold dmapO
      rw [if_neg]
      rintro ⟨h0, hn⟩
      obtain ⟨k, rfl⟩ : ∃ k : Nat, y = k := ⟨y.toNat, by omega⟩
      rw [Int.toNat_natCast] at hn
      exact hn ((I.empty (I.keyLt hf hn).1).2 hz)
    rw [e] at hL
    replace hL : (Instr.lookup 30 (.map (some bm)) (.int .i64 y) true).run Try.prog w = .ok (.tuple #[.pointer none, .bool false]) w := hL
    clear hs I hz q1 q2 e
    go_enter Try.func25, Try.ntmps25
    go_wp2_with fail
    exact bodyPost_ret (v := .tuple #[.int .i64 0, .bool false]) (by simp [results, Try.results25, go_sem]) rfl ⟨rfl, rfl⟩
  · have hyp : 0 < y := by
      by_cases e : 0 < y
      · exact e
      · exact absurd (by simp [lenW, e]) hz
    obtain ⟨k, rfl⟩ : ∃ k : Nat, y = k := ⟨y.toNat, by omega⟩
    have hn : Ls k ≠ [] := fun e => hz ((I.empty (by omega)).1 e)
    obtain ⟨m, hm1, hm2⟩ := I.min (by omega) hn
    obtain ⟨q1, q2⟩ := minI_some (min_of hm2)
    rw [q1, q2]
    have e : dmapO Ls qs k = some (qs k) := by simp [dmapO, hn]
    rw [e] at hL
    replace hL : (Instr.lookup 30 (.map (some bm)) (.int .i64 k) true).run Try.prog w = .ok (.tuple #[.pointer (some ⟨qs k, 0, none⟩), .bool true]) w := hL
    obtain ⟨b, v, hh⟩ := dtake_hand hs k hn
    have hA := sat_st hh 0
    have hpos : 0 < (Ls k).length := List.length_pos_iff.2 hn
    rw [show (0 : Int) = ((0 : Nat) : Int) from rfl, atD_nat hpos, hm1] at hA
    replace hA : Calls Try.prog 46 #[.pointer (some ⟨qs k, 0, none⟩), .int .i64 0] w fun e w' => e = .returned (.tuple #[.int .i64 m, .bool true]) ∧ w = w' := hA
    clear hs I hz q1 q2 e hh hm1 hm2 hpos hn
    generalize qs k = q at *
    go_enter Try.func25, Try.ntmps25
    go_wp2_with fail
    refine hA.mono ?_
    rintro e w1 ⟨rfl, rfl⟩
    go_wp2_with fail
    exact bodyPost_ret (v := .tuple #[.int .i64 m, .bool true]) (by simp [results, Try.results25, go_sem]) rfl ⟨rfl, rfl⟩
set_option maxRecDepth 100000 in
set_option maxHeartbeats 1000000 in
theorem delete_da (hd : 2 ≤ d ∧ d ≤ 16) (x : Int) (h : (Ob.dary p c d W s).holds w F) : Calls Try.prog 28 #[.pointer (some ⟨p, 0, none⟩), .int .i64 x] w fun e w' => e = .returned (.bool (inW W x)) ∧ ∃ s', (s ≤ s' ∧ (inW W x = false → s' = s) ∧ s' ≤ s + (d * depthI d (lenW W (cellW W x).home - 1) + 1 : Nat)) ∧ ∃ F', (Ob.dary p c d (dropW W x) s').holds w' F' ∧ Moved F F' w w' := by
  have hF := (Ob.dary p c d W s).lt h
  obtain ⟨bm, Ls, qs, I, hf, _, hg⟩ := h
  have hs := Ob.group.open hg
  clear hg
  have hH := hs.call 0 rfl (fun _ ho => dcells_call ho fun _ h => home_cl x h)
  have p0 := (hs.get (i := 0) rfl).elim fun _ h => (dcells_cell h).1
  cases hB : inW W x
  · have eW : dropW W x = W := by simp [dropW, hB]
    rw [hB] at hH
    rw [eW]
    generalize ((cellW W x).home : Int) = hh at *
    go_enter Try.func28, Try.ntmps28
    go_wp2_with fail
    refine hH.mono ?_
    rintro e w1 ⟨rfl, hs1⟩
    have hs2 : Stage F w (daryParts p c d bm W s (dmapO Ls qs) (dfamO d Ls qs)) w1 := hs1
    go_wp2_with fail
    go_ret
    exact ⟨rfl, s, ⟨Int.le_refl _, fun _ => rfl, by omega⟩, dary_close hs2 hF I⟩
  · obtain ⟨k, hk⟩ : ∃ k, k = (cellW W x).home := ⟨_, rfl⟩
    have hk1 : 1 ≤ k := by
      have h2 := hB; unfold inW at h2; rw [← hk] at h2
      have : k ≠ 0 := by simpa using h2
      omega
    have hm : x ∈ Ls k := (I.mem k x hk1).2 hk.symm
    have hn : Ls k ≠ [] := fun e => by rw [e] at hm; simp at hm
    obtain ⟨_, hk2⟩ := I.keyLt hf hn
    rw [← hk] at hH ⊢
    obtain ⟨i, hi, hix⟩ := mem_rat hm
    obtain ⟨_, hfin⟩ := dinv_drop I (by omega) hm
    have hlen := I.len k hk1
    have hle := I.lenLe hf k
    have hin : ∀ y ∈ Ls k, inW W y = true := fun y hy => (I.in' hy).2.2.1
    have hnd := I.nodup k
    have hHp := I.heap k
    rw [hB] at hH
    clear hs hk
    go_enter Try.func28, Try.ntmps28
    go_wp2_with fail
    refine hH.mono ?_
    rintro e w1 ⟨rfl, hs1⟩
    have hs2 : Stage F w (daryParts p c d bm W s (dmapO Ls qs) (dfamO d Ls qs)) w1 := hs1
    clear hs1 hH p0
    have hl := drow_st hs2 k hk2 hn
    obtain ⟨b, v, hh⟩ := dtake_hand hs2 k hn
    have hR := remove_st (dary_asks p c d bm W) hd hh (row_in hf hnd hin (by omega)) (strictM_ahead W _ hin) hHp i hi
    rw [hix] at hR
    clear hs2 hh
    generalize qs k = q at *
    go_wp2_with fail
    refine hl.mono ?_
    rintro e w2 ⟨rfl, rfl⟩
    clear hl
    go_wp2_with fail
    refine hR.mono ?_
    rintro e w3 ⟨v3, ys, s3, rfl, hp, _, hw, hhp, hs4⟩
    clear hR
    have I3 := hfin ys hhp hp
    have hK := dkeep_st hs4 k hk2 (upd_same _ _ _)
    rw [dupd_map, upd_upd, dupd_fam] at hK
    have hw' := within_dR hw
    rw [hlen] at hw'
    have hst : s ≤ s3 ∧ (true = false → s3 = s) ∧ s3 ≤ s + (d * depthI d (lenW W k - 1) + 1 : Nat) := ⟨hw'.1, fun e => (by cases e), hw'.2⟩
    clear hw hs4 hfin hp hhp
    go_wp2_with fail
    refine hK.mono ?_
    rintro e w4 ⟨rfl, hs5⟩
    clear hK
    have hD := hs5.call 0 rfl (fun _ ho => dcells_call ho fun _ h => drop_cl x h)
    rw [hB] at hD
    have p0 := (hs5.get (i := 0) rfl).elim fun _ h => (dcells_cell h).1
    go_wp2_with fail
    refine hD.mono ?_
    rintro e w5 ⟨rfl, hs6⟩
    have hs7 : Stage F w (daryParts p c d bm (dropW W x) s3 (dmapO (updI Ls k ys) (updQ qs k q)) (dfamO d (updI Ls k ys) (updQ qs k q))) w5 := hs6
    go_wp2_with fail
    go_ret
    exact ⟨rfl, s3, hst, dary_close hs7 hF I3⟩
end
end Go.Proofs.Ytlbbgdpdaelcdaa
