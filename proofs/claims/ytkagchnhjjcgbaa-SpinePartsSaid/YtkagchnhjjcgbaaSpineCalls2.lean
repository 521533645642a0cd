/- What the trees' calls return, and what then is: Cut, Turn, Root. -/
import Derived.Test.YtkagchnhjjcgbaaSpineCalls
namespace Go.Proofs.Ytkagchnhjjcgbaa
open Go.RowKit Go.Sort

/-- Of the sides so far gone through, what is x is taken off. -/
def cutTo (t : Th) (x : Int) (j : Nat) : Th := ⟨t.up, if 0 < j ∧ t.l = x then -1 else t.l, if 1 < j ∧ t.r = x then -1 else t.r⟩
theorem cutTo_zero (t : Th) (x : Int) : cutTo t x 0 = t := by cases t; simp [cutTo]
theorem cutTo_yes {t : Th} {x : Int} {s : Bool} (h : (if s then t.r else t.l) = x) : (cutTo t x s.toNat).kid s (-1) = cutTo t x (s.toNat + 1) := by
  cases s <;> simp_all [cutTo, Th.kid]
theorem cutTo_no {t : Th} {x : Int} {s : Bool} (h : (if s then t.r else t.l) ≠ x) : cutTo t x (s.toNat + 1) = cutTo t x s.toNat := by
  cases s <;> simp_all [cutTo]
section
variable {w : World} {p n : Nat} {L : List Hg} {F : Nat → Prop}
theorem th_set_kid2 {n pi : Nat} {L : List Hg} {t : Th} (hp : pi < n) (s : Bool) (x : Int) : (cellsBy thC ((rawOf n L).set pi t)).set (pi * 3 + (1 + s.toNat)) (.int .i64 x) = cellsBy thC ((rawOf n L).set pi (t.kid s x)) := by
  have := th_set_kid ((rawOf n L).set pi t) pi (by rw [List.length_set, raw_len]; exact hp) s x
  rw [getD_set' _ _ _ _ _ (by rw [raw_len]; exact hp), if_pos rfl, List.set_set] at this
  exact this
set_option maxHeartbeats 1000000 in
theorem cut_sp (x : Int) (h : (Ob.spine p n L).holds w F) : Calls Try.prog 20 #[.pointer (some ⟨p, 0, none⟩), .int .i64 x] w fun e w' => e = .returned (.tuple #[.int .i64 ((upL L x).getD 0), .bool (upL L x).isSome]) ∧ ∃ F', (Ob.spine p n (cutL L x)).holds w' F' ∧ Moved F F' w w' := by
  have hF := (Ob.spine p n L).lt h
  have hstay : ∃ F', (Ob.spine p n L).holds w F' ∧ Moved F F' w w := ⟨F, h, Moved.refl _ _⟩
  obtain ⟨v, I, hn, hg⟩ := h
  have hs := Ob.group.open hg
  have hU := sp_up (q := []) hs I hn x
  clear hg
  cases hu : upL L x with
  | none =>
    rw [cut_same I hu]
    rw [hu] at hU
    clear hs
    go_enter Try.func20, Try.ntmps20
    go_wp2_with fail
    refine hU.mono ?_
    rintro e w1 ⟨rfl, rfl⟩
    go_wp2_with fail
    go_ret2
    exact ⟨rfl, hstay⟩
  | some a =>
    rw [hu] at hU
    obtain ⟨hx, ha⟩ := up_in I hu
    obtain ⟨i, rfl⟩ : ∃ i : Nat, a = i := ⟨a.toNat, by have := ha.1; omega⟩
    obtain ⟨j, rfl⟩ : ∃ j : Nat, x = j := ⟨x.toNat, by have := hx.1; omega⟩
    have hi : i < n := by have := ha.2; omega
    have hj : j < n := by have := hx.2; omega
    have hij : i ≠ j := by
      rintro rfl
      obtain ⟨d, D⟩ := I.dep
      have := D.up hu
      omega
    obtain ⟨g, c, rfl, hc1, hc2, hgp, hgl, hc, hf⟩ := sp_row (q := []) hs (by omega)
    have u1 := (hc i hi).2 false
    have u2 := (hc i hi).2 true
    simp only [Bool.toNat_false, Bool.toNat_true, Nat.add_zero] at u1 u2
    have c0 := sp_c0 (q := []) hs
    have hend : ((rawOf n L).set i (cutTo (thOf L i) j 2)).set j ⟨-1, (((rawOf n L).set i (cutTo (thOf L i) j 2)).getD j .no).l, (((rawOf n L).set i (cutTo (thOf L i) j 2)).getD j .no).r⟩ = rawOf n (cutL L j) := by
      rw [getD_set' _ _ _ _ _ (by rw [raw_len]; exact hi), if_neg hij, raw_at _ hj, ← raw_cut I hi hj hij hu]
      have e1 := fun r => propext (oI_some (o := kidL L i r) hx)
      simp only [cutTo, thOf, e1]
      simp
    have I' := inv_cut I j
    have hst : Stage F w (spineParts p (.slice (some ⟨g, 0, none⟩) n c) n L) w := hs
    have hs : Stage F w [Ob.box p #[.slice (some ⟨g, 0, none⟩) n c] 50, Ob.row 0 53 3 (.slice (some ⟨g, 0, none⟩) n c) n (cellsBy thC ((rawOf n L).set i (cutTo (thOf L i) j 0)))] w := by
      have e : (rawOf n L).set i (cutTo (thOf L i) j 0) = rawOf n L := by
        rw [cutTo_zero]
        refine th_ext (by simp [raw_len]) (raw_len _ _) (fun k hk => ?_)
        rw [getD_set' _ _ _ _ _ (by rw [raw_len]; exact hi), raw_at _ hk]
        split
        · rename_i e; rw [e]
        · rfl
      rw [e]; exact hst
    obtain ⟨A, hA⟩ : ∃ A, A = oI (kidL L i false) := ⟨_, rfl⟩
    obtain ⟨B, hB⟩ : ∃ B, B = oI (kidL L i true) := ⟨_, rfl⟩
    rw [← hA] at u1
    rw [← hB] at u2
    have hAB : ∀ s : Bool, (if s then (thOf L i).r else (thOf L i).l) = if s then B else A := fun s => by cases s <;> simp [thOf, hA, hB]
    replace hA := Lib.hid hA
    replace hB := Lib.hid hB
    have hyes : ∀ s : Bool, (if s then B else A) = j → (cutTo (thOf L i) j s.toNat).kid s (-1) = cutTo (thOf L i) j (s.toNat + 1) := fun s h => cutTo_yes (by rw [hAB, h])
    have hnoo : ∀ s : Bool, (if s then B else A) ≠ j → cutTo (thOf L i) j (s.toNat + 1) = cutTo (thOf L i) j s.toNat := fun s h => cutTo_no (by rw [hAB]; exact h)
    have hput : ∀ (t : Th) (s : Bool), (cellsBy thC ((rawOf n L).set i t)).set (i * 3 + (1 + s.toNat)) (.int .i64 (-1)) = cellsBy thC ((rawOf n L).set i (t.kid s (-1))) := fun t s => th_set_kid2 hi s (-1)
    have hlast := th_set_up ((rawOf n L).set i (cutTo (thOf L i) j 2)) j (by rw [List.length_set, raw_len]; exact hj) (-1)
    rw [hend] at hlast
    have hcl := fun w' (h : Stage F w (spineParts p (.slice (some ⟨g, 0, none⟩) n c) n (cutL L j)) w') => spine_close h hF I' hn
    unfold spineParts at hcl
    generalize hL' : rawOf n (cutL L j) = Lc at *
    clear hst hc hf hend hAB hstay I I' hu hL'
    have hRn : (rawOf n L).length = n := raw_len n L
    generalize thOf L i = t at *
    generalize rawOf n L = R at *
    go_enter Try.func20, Try.ntmps20
    go_wp2_with fail
    refine hU.mono ?_
    rintro e w1 ⟨rfl, rfl⟩
    clear hU
    have i0 : ∀ a b : Int, ∀ w, (Instr.index 51 (.agg #[.int .i64 a, .int .i64 b]) (.int .i64 0)).run Try.prog w = .ok (.int .i64 a) w := fun _ _ _ => by kernel_rfl
    have i1 : ∀ a b : Int, ∀ w, (Instr.index 51 (.agg #[.int .i64 a, .int .i64 b]) (.int .i64 1)).run Try.prog w = .ok (.int .i64 b) w := fun _ _ _ => by kernel_rfl
    go_wp2_with fail
    go_loopw [26] (fun z wr => ∃ (k : Nat) (y : Int), z = .int .i64 y ∧ y = k ∧ k ≤ 2 ∧ Stage F w [Ob.box p #[.slice (some ⟨g, 0, none⟩) n c] 50, Ob.row 0 53 3 (.slice (some ⟨g, 0, none⟩) n c) n (cellsBy thC (R.set i (cutTo t j k)))] wr) (fun z _ => 2 - (intOf z).toNat)
    case atStart => exact ⟨0, 0, rfl, rfl, by omega, hs⟩
    case round =>
      clear hs c0 u1 u2
      obtain ⟨k, y, rfl, hy, hk, hs⟩ := hrel
      have c0 := hs.cell 0 rfl (o := 0) rfl
      obtain ⟨g', c', hv, _, _, _, _, hcc, fz⟩ := owns_at thC_len .no (hs.owns 1 rfl) (by rw [List.length_set]; exact hRn) (by omega)
      cases hv
      have v0 := hcc j 0 _ hj (by omega) rfl
      have v1 := hcc i 1 _ hi (by omega) rfl
      have v2 := hcc i 2 _ hi (by omega) rfl
      rw [Nat.add_zero] at v0
      replace v2 : wr.cell? ⟨g, i * 3 + 1 + 1, none⟩ = _ := v2
      clear hcc
      generalize ((R.set i (cutTo t j k)).getD j .no).up = z0 at *
      generalize ((R.set i (cutTo t j k)).getD i .no).l = z1 at *
      generalize ((R.set i (cutTo t j k)).getD i .no).r = z2 at *
      have hk3 : k = 0 ∨ k = 1 ∨ k = 2 := by omega
      rcases hk3 with rfl | rfl | rfl
      · obtain rfl : y = 0 := by omega
        clear hy
        by_cases e : A = j
        · subst e
          have hs2 := hs.storeRow 1 rfl (i * 3 + (1 + false.toNat)) (.int .i64 (-1)) (hput _ false)
          have e2 := hyes false rfl
          simp only [Bool.toNat_false, Nat.add_zero, Nat.zero_add] at e2 hs2
          rw [e2] at hs2
          have f0 := fz (i * 3 + 1)
          clear hyes hnoo hput hlast hcl hs
          go_wp2_with fail
          go_roundw
          case rel => exact ⟨1, 1, rfl, rfl, by omega, hs2⟩
          case measure => simp [intOf]
        · have e' : (A == (j : Int)) = false := by simpa using e
          have e2 := hnoo false e
          simp only [Bool.toNat_false, Nat.zero_add] at e2
          rw [← e2] at hs
          clear hyes hnoo hput hlast hcl
          go_wp2_with fail
          go_roundw
          case rel => exact ⟨1, 1, rfl, rfl, by omega, hs⟩
          case measure => simp [intOf]
      · obtain rfl : y = 1 := by omega
        clear hy
        by_cases e : B = j
        · subst e
          have hs2 := hs.storeRow 1 rfl (i * 3 + (1 + true.toNat)) (.int .i64 (-1)) (hput _ true)
          have e2 := hyes true rfl
          simp only [Bool.toNat_true] at e2 hs2
          rw [e2] at hs2
          have f0 := fz (i * 3 + 1 + 1)
          clear hyes hnoo hput hlast hcl hs
          go_wp2_with fail
          go_roundw
          case rel => exact ⟨2, 2, rfl, rfl, by omega, hs2⟩
          case measure => simp [intOf]
        · have e' : (B == (j : Int)) = false := by simpa using e
          have e2 := hnoo true e
          simp only [Bool.toNat_true] at e2
          rw [← e2] at hs
          clear hyes hnoo hput hlast hcl
          go_wp2_with fail
          go_roundw
          case rel => exact ⟨2, 2, rfl, rfl, by omega, hs⟩
          case measure => simp [intOf]
      · obtain rfl : y = 2 := by omega
        clear hy
        have hs2 := hs.storeRow 1 rfl (j * 3) (.int .i64 (-1)) hlast
        have f0 := fz (j * 3)
        clear hyes hnoo hput hlast hs
        go_wp2_with fail
        go_ret2
        exact ⟨rfl, hcl _ hs2⟩
set_option maxHeartbeats 1000000 in
theorem turn_sp (x : Int) (h : (Ob.spine p n L).holds w F) : Calls Try.prog 22 #[.pointer (some ⟨p, 0, none⟩), .int .i64 x] w fun e w' => e = .returned (.bool (hasN n x)) ∧ ∃ F', (Ob.spine p n (turnL L x)).holds w' F' ∧ Moved F F' w w' := by
  have hF := (Ob.spine p n L).lt h
  have hstay : ∃ F', (Ob.spine p n L).holds w F' ∧ Moved F F' w w := ⟨F, h, Moved.refl _ _⟩
  obtain ⟨v, I, hn, hg⟩ := h
  have hs := Ob.group.open hg
  have hH := sp_has (q := []) hs x
  have c0 := sp_c0 (q := []) hs
  clear hg
  cases hx : hasN n x
  · rw [turn_same I (fun e => by rw [has_in.2 e] at hx; cases hx)]
    rw [hx] at hH
    clear hs c0
    go_enter Try.func22, Try.ntmps22
    go_wp2_with fail
    refine hH.mono ?_
    rintro e w1 ⟨rfl, rfl⟩
    go_wp2_with fail
    go_ret
    exact ⟨rfl, hstay⟩
  · rw [hx] at hH
    obtain ⟨i, rfl⟩ : ∃ i : Nat, x = i := ⟨x.toNat, by have := (has_in.1 hx).1; omega⟩
    have hi : i < n := by have := (has_in.1 hx).2; omega
    obtain ⟨g, c, rfl, hc1, hc2, hgp, hgl, hc, hf⟩ := sp_row (q := []) hs (by omega)
    have u1 := (hc i hi).2 false
    have u2 := (hc i hi).2 true
    simp only [Bool.toNat_false, Bool.toNat_true, Nat.add_zero] at u1 u2
    have f1 := hf (i * 3 + 1)
    have f2 := hf (i * 3 + 1 + 1)
    have I' := inv_turn I (i : Int)
    have hcl := fun w' (h : Stage F w (spineParts p (.slice (some ⟨g, 0, none⟩) n c) n (turnL L i)) w') => spine_close h hF I' hn
    have hr1 := th_set_kid (rawOf n L) i (by rw [raw_len]; exact hi) false (oI (kidL L i true))
    rw [raw_at _ hi] at hr1
    have hr2 := th_set_kid2 (L := L) (t := (thOf L i).kid false (oI (kidL L i true))) hi true (oI (kidL L i false))
    rw [show ((thOf L i).kid false (oI (kidL L i true))).kid true (oI (kidL L i false)) = ⟨oI (upL L i), oI (kidL L i true), oI (kidL L i false)⟩ from rfl, raw_turn L hi] at hr2
    have hs2 : Stage F w (spineParts p (.slice (some ⟨g, 0, none⟩) n c) n (turnL L i)) ((w.setCell ⟨g, i * 3 + 1, none⟩ (.int .i64 (oI (kidL L i true)))).setCell ⟨g, i * 3 + 1 + 1, none⟩ (.int .i64 (oI (kidL L i false)))) :=
      (hs.storeRow 1 rfl (i * 3 + (1 + false.toNat)) (.int .i64 (oI (kidL L i true))) hr1).storeRow 1 rfl (i * 3 + (1 + true.toNat)) (.int .i64 (oI (kidL L i false))) hr2
    clear hs hc hf hstay I I' hr1 hr2 hx
    generalize oI (kidL L i true) = B at *
    generalize oI (kidL L i false) = A at *
    generalize turnL L i = L' at *
    go_enter Try.func22, Try.ntmps22
    go_wp2_with fail
    refine hH.mono ?_
    rintro e w1 ⟨rfl, rfl⟩
    clear hH
    go_wp2_with fail
    go_region
    all_goals
      go_wp2_with fail
      go_ret
      exact ⟨rfl, hcl _ hs2.drew⟩
end
end Go.Proofs.Ytkagchnhjjcgbaa
