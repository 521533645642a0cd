/- CarryCarries, walked. -/
import Derived.Test.YtbllfokagedpeaaCarryCounts
import Derived.Test.YtbllfokagedpeaaCarryCarriesMath
import Derived.Deep.RegionHeld3
import Derived.Deep.CutBlock
import Derived.Deep.RegionLaw
import Derived.Deep.DeepCutAuto
namespace Go.Proofs.Ytbllfokagedpeaa
open Go.RowKit Go.Sort

theorem reads_at {w : World} {a : Option Addr} {c : Nat} {l : List Int} (hl : IntsAt w .i64 a l) (hz : a = none → c = 0) : RowReads w 1 (.slice a l.length c) l.length (cellsBy intC l) := by
  refine ⟨by rw [cellsBy_length intC 1 intC_len], ?_⟩
  cases a with
  | none =>
    have : l = [] := by
      cases l with
      | nil => rfl
      | cons x r => obtain ⟨_, _, e, _⟩ := hl 0 (by simp); cases e
    subst this
    exact Or.inl ⟨by rw [hz rfl]; rfl, rfl⟩
  | some ad =>
    refine Or.inr ⟨_, c, rfl, fun j u hj => ?_⟩
    have hjl : j < l.length := by
      have := (List.getElem?_eq_some_iff.1 hj).1
      rw [cellsBy_length intC 1 intC_len] at this
      omega
    obtain ⟨g, o, e, h1⟩ := hl j hjl
    cases e
    rw [add_at, h1]
    have h3 := cellsBy_get intC 1 intC_len 0 l j 0 hjl (by omega)
    rw [Nat.mul_one, Nat.add_zero] at h3
    rw [h3] at hj
    exact hj
def rangeI (n : Nat) (f : Nat → Int) : List Int := (List.range n).map f
theorem rangeI_len (n : Nat) (f : Nat → Int) : (rangeI n f).length = n := by simp [rangeI]
theorem rangeI_get (n : Nat) (f : Nat → Int) {y : Nat} (hy : y < n) : (rangeI n f).getD y 0 = f y := by simp [rangeI, List.getD_eq_getElem?_getD, hy]
theorem rangeI_set (n : Nat) (f : Nat → Int) {y : Nat} (hy : y < n) (v : Int) : (rangeI n f).set y v = rangeI n (fun j => if j = y then v else f j) := by
  apply List.ext_getElem?
  intro j
  unfold rangeI
  rw [List.getElem?_set]
  by_cases e : y = j
  · subst e; simp [hy]
  · rw [if_neg e]
    by_cases hj : j < n
    · simp [hj, Ne.symm e]
    · simp [hj]
theorem ints_setL {l : List Int} (y : Nat) (v : Int) : (cellsBy intC l).set y (.int .i64 v) = cellsBy intC (l.set y v) := intC_set l y v
theorem turns_count : ∀ (k : Nat) (s s' : Int), Turns oneMoreC k s s' → 0 ≤ s → s + k ≤ 1000000 → s' = s + k := by
  intro k
  induction k with
  | zero => intro s s' h _ _; cases h; simp
  | succ k ih =>
    intro s s' h h0 hb
    cases h with
    | more h1 h2 =>
      have := ih _ _ h1 h0 (by omega)
      unfold oneMoreC at h2
      subst this
      rw [h2, IntWalk.i64_in _ (by omega)]
      omega
theorem Stage.zeros {F0 : Nat → Prop} {W w : World} {l : List Ob} (hs : Stage F0 W l w) (n : Nat) (hn : n ≤ 65536) : Stage F0 W (l ++ [Ob.ints (.slice (some ⟨w.heap.size, 0, none⟩) n n) (rangeI n fun _ => 0)]) (w.alloc (.cells (madeCells #[.int .i64 0] n) 3)) := by
  have h := hs.newRow 3 1 n (madeCells #[.int .i64 0] (n * 1)) (size_madeCells _ _) (by unfold maxLen; omega)
  rw [made_rows intC_len (by decide) 0 #[.int .i64 0] rfl n, Nat.mul_one] at h
  have e : List.replicate n (0 : Int) = rangeI n fun _ => 0 := by
    unfold rangeI
    apply List.ext_getElem?
    intro i
    by_cases h : i < n <;> simp [h]
  rw [e] at h
  unfold Ob.ints
  rw [rangeI_len]
  exact h
/-- How often each thing was counted. -/
def Ob.seen (g n : Nat) (f : Nat → Int) : Ob := Ob.row 0 3 1 (.slice (some ⟨g, 0, Option.none⟩) n n) n (cellsBy intC (rangeI n f))
theorem seen_of (g n : Nat) (f : Nat → Int) : Ob.ints (.slice (some ⟨g, 0, none⟩) n n) (rangeI n f) = Ob.seen g n f := by
  unfold Ob.ints Ob.seen
  rw [rangeI_len]
theorem Stage.seenAt {F0 : Nat → Prop} {W w : World} {l : List Ob} {g n : Nat} {f : Nat → Int} (hs : Stage F0 W l w) (i : Nat) (hi : l[i]? = some (Ob.seen g n f)) {y : Nat} (hy : y < n) : w.cell? ⟨g, y, none⟩ = some (.int .i64 (f y)) ∧ w.frozen? ⟨g, y, none⟩ = false := by
  have hi2 : l[i]? = some (Ob.ints (.slice (some ⟨g, 0, none⟩) n n) (rangeI n f)) := by rw [seen_of]; exact hi
  have hl := rangeI_len n f
  have hi3 : l[i]? = some (Ob.ints (.slice (some ⟨g, 0, none⟩) (rangeI n f).length n) (rangeI n f)) := by rw [hl]; exact hi2
  obtain ⟨g2, c2, e, _, _, _, h1, h2⟩ := hs.intsAt i hi3 (by omega)
  cases e
  have h3 := h1 y (by omega)
  rw [rangeI_get n f hy] at h3
  exact ⟨h3, h2 y⟩
theorem Stage.seenSet {F0 : Nat → Prop} {W w : World} {l : List Ob} {g n : Nat} {f : Nat → Int} (hs : Stage F0 W l w) (i : Nat) (hi : l[i]? = some (Ob.seen g n f)) {y : Nat} (hy : y < n) (v : Int) : Stage F0 W (l.set i (Ob.seen g n fun j => if j = y then v else f j)) (w.setCell ⟨g, y, none⟩ (.int .i64 v)) :=
  hs.storeRow i (show l[i]? = some (Ob.row 0 3 1 (.slice (some ⟨g, 0, none⟩) n n) n (cellsBy intC (rangeI n f))) from hi) y (.int .i64 v) (by rw [intC_set, rangeI_set n f hy])
theorem Stage.seenNew {F0 : Nat → Prop} {W w : World} {l : List Ob} (hs : Stage F0 W l w) (n : Nat) (hn : n ≤ 65536) : Stage F0 W (l ++ [Ob.seen w.heap.size n fun _ => 0]) (w.alloc (.cells (madeCells #[.int .i64 0] n) 3)) := by
  have h := hs.zeros n hn
  rw [seen_of] at h
  exact h
theorem seen_nil (g n : Nat) (K : Int → List Int) (L : List Int) : Ob.seen g n (fun _ => 0) = Ob.seen g n (cntF (farR K L 0 0)) := by
  rw [far_start]
  rfl
theorem seen_two (g n : Nat) (K : Int → List Int) (r M : List Int) : Ob.seen g n (cntF M) = Ob.seen g n (fun j => cntF M j - cntF (farR K r 0 0) j) := by
  have e : (fun j => cntF M j - cntF (farR K r 0 0) j) = cntF M := by
    funext j
    rw [far_start]
    simp [cntF]
  rw [e]
theorem made_zeros (n : Nat) (hn : n ≤ 65536) (w : World) : (Instr.makeSlice 30 (.int .i64 (n : Int)) (.int .i64 (n : Int))).run Try.prog w = .ok (.slice (some ⟨w.heap.size, 0, none⟩) n n) (w.alloc (.cells (madeCells #[.int .i64 0] n) 3)) := by
  have h := run_make_rows (P := Try.prog) 30 3 (.int .i64 0) 1 8 Try.underlying30 sinfo_int n (by omega) (by omega) w
  rw [Nat.mul_one] at h
  exact h
set_option maxRecDepth 100000 in
set_option maxHeartbeats 16000000 in
theorem carryCarries_walk (ks : List Int) (ka : Option Addr) (kc : Nat) (hkc : ks.length ≤ kc ∧ kc ≤ 9223372036854775807) (a0 : Option Addr) (n0 cap : Nat) (hcap : n0 ≤ cap ∧ cap ≤ 9223372036854775807) (l0 l1 : List Int) (b0 b1 : Option Addr) (d0 d1 : Nat) (hd0 : l0.length ≤ d0 ∧ d0 ≤ 9223372036854775807) (hd1 : l1.length ≤ d1 ∧ d1 ≤ 9223372036854775807) (w : World)
    (hk : IntsAt w .i64 ka ks) (hact : CActsAt w a0 n0) (h0 : IntsAt w .i64 b0 l0) (h1 : IntsAt w .i64 b1 l1) (hz0 : b0 = none → d0 = 0) (hz1 : b1 = none → d1 = 0) :
    Calls Try.prog 5 #[.slice ka ks.length kc, .slice a0 n0 cap, .agg #[.slice b0 l0.length d0, .slice b1 l1.length d1]] w fun e w' => e = .returned (.bool true) ∧ Below w.heap.size w w' := by
  obtain ⟨hkc1, hkc2⟩ := hkc
  obtain ⟨hcap1, hcap2⟩ := hcap
  obtain ⟨hd01, hd02⟩ := hd0
  obtain ⟨hd11, hd12⟩ := hd1
  obtain ⟨W1, hW1, hbW, c50, c51⟩ : ∃ W1, w.alloc (.cells #[.slice b0 l0.length d0, .slice b1 l1.length d1] 44) = W1 ∧ Below w.heap.size w W1 ∧ W1.cell? ⟨w.heap.size, 0, none⟩ = some (.slice b0 l0.length d0) ∧ W1.cell? ⟨w.heap.size, 1, none⟩ = some (.slice b1 l1.length d1) := by
    have hs := (Stage.start w).alloc #[.slice b0 l0.length d0, .slice b1 l1.length d1] 44
    exact ⟨_, rfl, hs.below, hs.cell 0 rfl (o := 0) rfl, hs.cell 0 rfl (o := 1) rfl⟩
  replace hk := IntsAt.later hk hbW
  replace h0 := IntsAt.later h0 hbW
  replace h1 := IntsAt.later h1 hbW
  replace hz0 := Lib.hid hz0
  replace hz1 := Lib.hid hz1
  replace hact : CActsAt W1 a0 n0 := fun k hk => by
    obtain ⟨b, off, x, y, z, e, g1, g2, g3⟩ := hact k hk
    exact ⟨b, off, x, y, z, e, later hbW g1, later hbW g2, later hbW g3⟩
  have hend : ∀ w', Below W1.heap.size W1 w' → Below w.heap.size w w' := fun w' h => below_then hbW h hbW.size
  by_cases hbig : ks.length ≤ 65536
  rotate_left
  · have hN := fun wx => new_cy_no ks.length wx (by omega)
    have h24 : (24 : Int) < ks.length := by omega
    have hcase : (60 : Int) < n0 ∨ ¬ (60 : Int) < n0 := by omega
    clear hk h0 h1 hact
    generalize ks.length = n at *
    generalize l0.length = m0 at *
    generalize l1.length = m1 at *
    rcases hcase with h60 | h60
    all_goals
      go_enter Try.func5, Try.ntmps5
      go_wp2_with fail
      try rw [hW1]
      refine (carryAlive_any W1).mono ?_
      rintro e w2 ⟨rfl, hb⟩
      go_wp2_with fail
      refine (hN w2).mono ?_
      rintro e w3 ⟨rfl, rfl⟩
      go_wp2_with fail
      go_ret
      exact ⟨rfl, hend _ hb⟩
  go_enter Try.func5, Try.ntmps5
  go_wp2_with fail
  try rw [hW1]
  clear hW1
  generalize hg5 : w.heap.size = o5 at *
  replace hg5 := Lib.hid hg5
  refine (carryAlive_any W1).mono ?_
  rintro e w2 ⟨rfl, hb⟩
  have hN := ((Stage.oldStart W1).later hb).newForest ks.length hbig
  clear hb
  go_wp2_with fail
  refine hN.mono ?_
  rintro e w3 ⟨p, rfl, hs⟩
  clear hN
  replace hs : Stage (oldF W1) W1 [Ob.forest p ks.length (fun _ => []), Ob.old W1] w3 := hs.select [1, 0] (by decide) rfl
  have hbo := hs.oldBelow 1 rfl
  have g50 := later hbo c50
  have g51 := later hbo c51
  by_cases h60 : (60 : Int) < n0
  · have hb9 := hend _ hbo
    clear hk h0 h1 hact hs
    generalize ks.length = n at *
    generalize l0.length = m0 at *
    generalize l1.length = m1 at *
    go_wp2_with fail
    go_ret
    exact ⟨rfl, by rw [hg5.out]; exact hb9⟩
  by_cases h24 : (24 : Int) < ks.length
  · have hb9 := hend _ hbo
    clear hk h0 h1 hact hs
    generalize ks.length = n at *
    generalize l0.length = m0 at *
    generalize l1.length = m1 at *
    go_wp2_with fail
    go_ret
    exact ⟨rfl, by rw [hg5.out]; exact hb9⟩
  by_cases h30 : (30 : Int) < l0.length
  · have hb9 := hend _ hbo
    clear hk h0 h1 hact hs
    generalize ks.length = n at *
    generalize l0.length = m0 at *
    generalize l1.length = m1 at *
    go_wp2_with fail
    go_ret
    exact ⟨rfl, by rw [hg5.out]; exact hb9⟩
  by_cases h31 : (30 : Int) < l1.length
  · have hb9 := hend _ hbo
    clear hk h0 h1 hact hs
    generalize ks.length = n at *
    generalize l0.length = m0 at *
    generalize l1.length = m1 at *
    go_wp2_with fail
    go_ret
    exact ⟨rfl, by rw [hg5.out]; exact hb9⟩
  have hP := play_st a0 n0 cap ⟨hcap1, hcap2⟩ hact hs
  clear hs hact hbo
  go_wp2_with fail
  clear g50 g51
  refine hP.mono ?_
  rintro e w4 ⟨pda, pdc, K, rfl, hs4⟩
  clear hP
  obtain ⟨w5, hw5, hs5⟩ : ∃ w5, w4.alloc (.cells #[.slice ka ks.length kc, .int .i64 0] 47) = w5 ∧ Stage (oldF W1) W1 [Ob.forest p ks.length K, Ob.box w4.heap.size #[.slice ka ks.length kc, .int .i64 0] 47, Ob.old W1, Ob.docK (.slice pda ks.length pdc) ks.length K] w5 := ⟨_, rfl, (hs4.alloc _ _).select [0, 3, 2, 1] (by decide) rfl⟩
  clear hs4
  obtain ⟨I, hn⟩ := hs5.forestInv 0 rfl
  have hbo := hs5.oldBelow 2 rfl
  have g50 := later hbo c50
  have g51 := later hbo c51
  go_upto_region 9 with fail
  try rw [hw5]
  clear hw5
  generalize w4.heap.size = o at *
  go_cut [13, 105, 106, 107, 108, 109, 110, 111] (fun s13 _ _ _ _ _ _ _ wx => s13 = .bool (isRow ks.length K l0 && isRow ks.length K l1) ∧ Stage (oldF W1) W1 [Ob.forest p ks.length K, Ob.box o #[.slice ka ks.length kc, .int .i64 0] 47, Ob.old W1, Ob.docK (.slice pda ks.length pdc) ks.length K] wx)
  case first =>
    as_aux_lemma =>
      have hR0 := hs5.docRow 3 rfl I hn l0 b0 d0 ⟨hd01, hd02⟩ (IntsAt.later h0 hbo)
      have hR1 := fun wx (hb : Below w5.heap.size w5 wx) => (hs5.later hb).docRow 3 rfl I hn l1 b1 d1 ⟨hd11, hd12⟩ (IntsAt.later h1 ((hs5.later hb).oldBelow 2 rfl))
      have g51b := fun wx (hb : Below w5.heap.size w5 wx) => later hb g51
      clear h0 h1 hk I c50 c51
      generalize isRow ks.length K l0 = B0 at *
      generalize isRow ks.length K l1 = B1 at *
      generalize l0.length = m0 at *
      generalize l1.length = m1 at *
      cases B0
      · go_wp2_with fail
        refine hR0.mono ?_
        rintro e w6 ⟨rfl, hb⟩
        have hs6 := hs5.later hb
        clear hR0 hR1 hb hs5 g50 g51 hbo g51b
        go_wp2_with fail
        go_meet
        exact ⟨rfl, hs6⟩
      · go_wp2_with fail
        refine hR0.mono ?_
        rintro e w6 ⟨rfl, hb⟩
        have hs6 := hs5.later hb
        have hR1' := hR1 w6 hb
        have g51' := g51b w6 hb
        clear hR0 hR1 hb hs5 g50 g51 hbo g51b
        go_wp2_with fail
        refine hR1'.mono ?_
        rintro e w7 ⟨rfl, hb⟩
        have hs7 := hs6.later hb
        clear hR1' hb hs6 g51'
        go_wp2_with fail
        go_meet
        exact ⟨rfl, hs7⟩
  case rest =>
    as_aux_lemma =>
      obtain ⟨rfl, hs7⟩ := hcut
      clear hs5 g50 g51 hbo
      rename World => w7
      have hbo := hs7.oldBelow 2 rfl
      have g50 := later hbo c50
      have g51 := later hbo c51
      have k0 := IntsAt.later h0 hbo
      have k1 := IntsAt.later h1 hbo
      have hcan : canK ks.length K l0 l1 = ((isRow ks.length K l0 && isRow ks.length K l1) && disB l0 l1) := rfl
      generalize (isRow ks.length K l0 && isRow ks.length K l1) = c0 at *
      replace hcan := Lib.hid hcan
      have hsteps := fun i hi => dis_step l0 l1 i hi
      go_wp2_with fail
      go_loopw [13, 115] (fun s z wr => ∃ i : Nat, z = .int .i64 i ∧ i ≤ l0.length ∧ s = .bool (c0 && disB (l0.take i) l1) ∧ w7 = wr) (fun _ z _ => l0.length - (intOf z).toNat)
      case atStart => exact ⟨0, rfl, Nat.zero_le _, by simp [disB], rfl⟩
      case round =>
        as_aux_lemma =>
          obtain ⟨i, rfl, hi, rfl, rfl⟩ := hrel
          by_cases hin : i < l0.length
          · have hii : (i : Int) < l0.length := by omega
            have hst := hsteps i hin
            have k0i := k0 i hin
            obtain ⟨ga, oa, rfl, u0⟩ := k0i
            have hcur : (c0 && disB (l0.take (i + 1)) l1) = ((c0 && disB (l0.take i) l1) && offB (l0.getD i 0) l1) := by rw [hst, Bool.and_assoc]
            have hoff := fun j hj => off_step (l0.getD i 0) l1 j hj
            clear hst hsteps k0 h0 h1 hk hs7 hbo I c50 c51
            generalize (c0 && disB (l0.take i) l1) = cur at *
            replace hcur := Lib.hid hcur
            generalize hx : l0.getD i 0 = x at *
            replace hx := Lib.hid hx
            generalize hm0 : l0.length = m0 at *
            replace hm0 := Lib.hid hm0
            go_wp2_with fail
            go_loopw [13, 122] (fun s z wr => ∃ j : Nat, z = .int .i64 j ∧ j ≤ l1.length ∧ s = .bool (cur && offB x (l1.take j)) ∧ w7 = wr) (fun _ z _ => l1.length - (intOf z).toNat)
            case atStart => exact ⟨0, rfl, Nat.zero_le _, by simp [offB], rfl⟩
            case round =>
              as_aux_lemma =>
                obtain ⟨j, rfl, hj, rfl, rfl⟩ := hrel
                by_cases hjn : j < l1.length
                · have hji : (j : Int) < l1.length := by omega
                  have hst := hoff j hjn
                  have hnx : (cur && offB x (l1.take (j + 1))) = ((cur && offB x (l1.take j)) && (x != l1.getD j 0)) := by rw [hst, Bool.and_assoc]
                  obtain ⟨gb, ob, rfl, u1⟩ := k1 j hjn
                  clear hst hoff k1
                  generalize (cur && offB x (l1.take j)) = c2 at *
                  generalize l1.getD j 0 = y at *
                  generalize hbn : (x != y) = bn at *
                  have hbn2 : (x == y) = !bn := by rw [← hbn]; simp [bne]
                  replace hnx := Lib.hid hnx
                  generalize hm1 : l1.length = m1 at *
                  replace hm1 := Lib.hid hm1
                  cases c2 <;> cases bn
                  all_goals
                    go_wp2_with fail
                    go_roundw
                    case rel => exact ⟨j + 1, by go_num, by omega, by rw [hnx.out]; rfl, trivial⟩
                    case measure => simp [intOf]; omega
                · obtain rfl : j = l1.length := by omega
                  have hfl : l1.take l1.length = l1 := List.take_length
                  replace hfl := Lib.hid hfl
                  clear hoff k1
                  go_wp2_with fail
                  go_roundw
                  case rel => exact ⟨i + 1, by go_num, by omega, by rw [hcur.out, hfl.out], trivial⟩
                  case measure => simp [intOf]; omega
          · obtain rfl : i = l0.length := by omega
            clear hsteps
            have hfull : (c0 && disB (l0.take l0.length) l1) = canK ks.length K l0 l1 := by rw [List.take_length, hcan.out]
            rw [hfull]
            clear hfull hcan k0 k1
            cases hB : canK ks.length K l0 l1
            · have hno : ¬ (RowK ks.length K l0 ∧ RowK ks.length K l1 ∧ ¬ ∃ x ∈ l0, x ∈ l1) := fun h => by rw [canK_iff.2 h] at hB; cases hB
              have hC := lesser_carry_no (o := o) (a := ka) (ks := ks) (c := kc) (la := l0) (lb := l1) (a1 := b0) (b1 := b1) (ca := d0) (cb := d1) ⟨hd01, hd02⟩ ⟨hd11, hd12⟩ (fun h => ⟨old_keys W1 b0 l0 h0 1 rfl h, old_keys W1 b1 l1 h1 1 rfl h⟩) hs7 hno
              clear hno hB hs7 hk h0 h1 I hbo c50 c51
              generalize l0.length = m0 at *
              generalize l1.length = m1 at *
              go_wp2_with fail
              refine hC.mono ?_
              rintro e w8 ⟨rfl, hs8⟩
              clear hC g50 g51
              have hT := hs8.toldCall 0 rfl
              clear hs8
              go_wp2_with fail
              refine hT.mono ?_
              rintro e w9 ⟨na, nc, rfl, hs9⟩
              clear hT
              replace hs9 : Stage (oldF W1) W1 [Ob.forest p ks.length K, Ob.box o #[.slice ka ks.length kc, .int .i64 0] 47, Ob.old W1, Ob.docK (.slice pda ks.length pdc) ks.length K, Ob.docK (.slice na ks.length nc) ks.length K] w9 := hs9
              obtain ⟨_, _, e9, hn1, hn2⟩ := hs9.docForm' 4 rfl
              cases e9
              go_wp2_with fail
              go_loopw [159] (fun z wr => ∃ i : Nat, z = .int .i64 i ∧ i ≤ ks.length ∧ Stage (oldF W1) W1 [Ob.forest p ks.length K, Ob.box o #[.slice ka ks.length kc, .int .i64 0] 47, Ob.old W1, Ob.docK (.slice pda ks.length pdc) ks.length K, Ob.docK (.slice na ks.length nc) ks.length K] wr) (fun z _ => ks.length - (intOf z).toNat)
              case atStart => exact ⟨0, rfl, Nat.zero_le _, hs9⟩
              case round =>
                as_aux_lemma =>
                  clear hs9
                  obtain ⟨i, rfl, hi, hs⟩ := hrel
                  by_cases hin : i < ks.length
                  · have hii : (i : Int) < ks.length := by omega
                    obtain ⟨gw, cw, kw, kwc, e9, u0, q1, q2, qa⟩ := hs.drew.docAt 3 rfl hin
                    cases e9
                    obtain ⟨gn, cn, kn, knc, e9, u1, q3, q4, qb⟩ := hs.drew.docAt 4 rfl hin
                    cases e9
                    have hS := same_at (K i) (K i) kw kn kwc knc ⟨q1, q2⟩ ⟨q3, q4⟩ qa qb
                    rw [decide_eq_true rfl] at hS
                    have v0 : wr.cell? ⟨gw, i, none⟩ = some (.slice kw (K i).length kwc) := u0
                    have v1 : wr.cell? ⟨gn, i, none⟩ = some (.slice kn (K i).length knc) := u1
                    clear qa qb u0 u1
                    generalize (K i).length = mk at *
                    go_wp2_with fail
                    go_region_held3 (fun w' => w'.cell? ⟨gw, i, none⟩ = some (.slice kw mk kwc) ∧ w'.cell? ⟨gn, i, none⟩ = some (.slice kn mk knc)) (first | exact ⟨v0, v1⟩ | exact K1)
                      (((with_reducible refine hS.mono ?_); rintro e wy ⟨rfl, hb⟩; have K1 := And.intro (later hb v0) (later hb v1); have hs10 := hs.drew.later hb))
                    all_goals
                      clear K1 hS hs hb v0 v1
                      go_wp2_with fail
                      go_roundw
                      case rel => exact ⟨i + 1, by go_num, by omega, hs10⟩
                      case measure => simp [intOf]; omega
                  · have hii : ¬ (i : Int) < ks.length := by omega
                    have hb9 := hend _ (hs.oldBelow 2 rfl)
                    clear hs
                    go_wp2_with fail
                    go_ret
                    exact ⟨rfl, by rw [hg5.out]; exact hb9⟩
            · obtain ⟨hRA, hRB, hd⟩ := canK_iff.1 hB
              have hC := lesser_carry (o := o) (a := ka) (ks := ks) (c := kc) (la := l0) (lb := l1) (a1 := b0) (b1 := b1) (ca := d0) (cb := d1) ⟨hkc1, hkc2⟩ (fun h => old_keys W1 ka ks hk 1 rfl h) ⟨hd01, hd02⟩ ⟨hd11, hd12⟩ (fun h => ⟨old_keys W1 b0 l0 h0 1 rfl h, old_keys W1 b1 l1 h1 1 rfl h⟩) hs7 hRA hRB hd
              clear hB hs7 hbo
              go_wp2_with fail
              refine hC.mono ?_
              rintro e w8 ⟨z1, m1, cz1, K1, s1, k1, r1, rfl, ⟨r', hl, hp⟩, hr, hT, hs8⟩
              clear hC g50 g51
              replace hs8 : Stage (oldF W1) W1 [Ob.forest p ks.length K1, Ob.box o #[.slice ka ks.length kc, .int .i64 s1] 47, Ob.old W1, Ob.docK (.slice pda ks.length pdc) ks.length K, Ob.ints (.slice z1 m1 cz1) r1] w8 := hs8.select [0, 2, 3, 4, 1] (by decide) rfl
              obtain ⟨_, _, e9, hr1, hr2⟩ := hs8.intsForm 4 rfl
              cases e9
              obtain ⟨I1, _⟩ := hs8.forestInv 0 rfl
              have hJ := Joined.of I I1 hRA hRB hd hl hp hr
              have hJ0 := Lib.hid hJ
              have hfew := hJ.few
              rw [List.length_append] at hfew
              have hs1 : s1 = k1 := by have := turns_count k1 0 s1 hT (by omega) (by omega); omega
              subst hs1
              clear hl hp hr hT hRA hRB hd
              have hTd := hs8.toldCall 0 rfl
              clear hs8
              go_wp2_with fail
              refine hTd.mono ?_
              rintro e w9 ⟨na, nc, rfl, hs9⟩
              clear hTd
              replace hs9 : Stage (oldF W1) W1 [Ob.forest p ks.length K1, Ob.box o #[.slice ka ks.length kc, .int .i64 k1] 47, Ob.old W1, Ob.docK (.slice pda ks.length pdc) ks.length K, Ob.ints (.slice z1 r1.length cz1) r1, Ob.docK (.slice na ks.length nc) ks.length K1] w9 := hs9
              obtain ⟨_, _, e9, hn1, hn2⟩ := hs9.docForm' 5 rfl
              cases e9
              have hbo := hs9.oldBelow 2 rfl
              have g50 := later hbo c50
              have g51 := later hbo c51
              have gk := hs9.cell 1 rfl (o := 1) rfl
              have kU0 := cell_regrown g50
              have kU1 := cell_regrown g51
              have kU2 := cell_regrown gk
              have hRw := fun wx (hb : Below w9.heap.size w9 wx) => (hs9.later hb).docRow 5 rfl I1 hn r1 z1 cz1 ⟨hr1, hr2⟩ ((hs9.later hb).intsAtI 4 rfl)
              rw [isRow_iff.2 hJ.row] at hRw
              have cA : ∀ d' os, Calls Try.prog 15 #[.slice na ks.length nc, .slice z1 r1.length cz1] (grow (redrawn w9 d') os) fun e w'' => e = .returned (.bool true) ∧ ∃ p : Regrown, w'' = grow (redrawn w9 p.d) p.os := fun d' os => Calls.regrown_of (hRw _ (below_regrown _ _ _))
              have hsum : IntKind.i64.wrap ((l0.length : Int) + l1.length) = (l0.length : Int) + l1.length := IntWalk.i64_in _ (by omega)
              have hgt : decide ((l0.length : Int) + l1.length < (k1 : Int)) = false := decide_eq_false (by omega)
              have hgt2 : decide (l0.length + l1.length < k1) = false := decide_eq_false (by omega)
              have hle1 : l0.length ≤ 30 := by omega
              have hle2 : l1.length ≤ 30 := by omega
              clear hRw hJ
              go_wp2_with fail
              refine wp_region_quiet_below (by kernel_rfl) (by kernel_rfl) ?_
              repeat (first | go_big_quiet_step (first | with_reducible exact cA _ _) | quiet_step (fail))
              refine wpQuiet_nil ?_
              intro W3 hw
              have hs10 := hs9.later (below_regrown' hw)
              clear cA kU0 kU1 kU2 hw g50 g51 gk hs9 hbo hsum hgt hgt2
              have hmz := made_zeros ks.length hbig
              obtain ⟨w11, hw11, hs11⟩ : ∃ w11, W3.alloc (.cells (madeCells #[.int .i64 0] ks.length) 3) = w11 ∧ Stage (oldF W1) W1 [Ob.forest p ks.length K1, Ob.box o #[.slice ka ks.length kc, .int .i64 k1] 47, Ob.old W1, Ob.docK (.slice pda ks.length pdc) ks.length K, Ob.ints (.slice z1 r1.length cz1) r1, Ob.docK (.slice na ks.length nc) ks.length K1, Ob.seen W3.heap.size ks.length (fun _ => 0)] w11 := ⟨_, rfl, hs10.seenNew ks.length hbig⟩
              clear hs10
              replace hw11 := Lib.hid hw11
              go_upto_region 34 with fail
              rw [hw11.out]
              clear hw11 hmz
              generalize W3.heap.size = o3 at *
              go_cut [196, 197, 198, 199, 200, 201, 202, 203, 204] (fun _ _ _ _ _ _ s202 s203 s204 wx => ∃ (L : List Int) (va : Option Addr) (vc : Nat), Hid (L = l0 ++ l1) ∧ s202 = .slice va L.length vc ∧ s203 = .int .i64 (L.length : Int) ∧ s204 = .int .i64 0 ∧ Stage (oldF W1) W1 [Ob.forest p ks.length K1, Ob.box o #[.slice ka ks.length kc, .int .i64 k1] 47, Ob.old W1, Ob.docK (.slice pda ks.length pdc) ks.length K, Ob.ints (.slice z1 r1.length cz1) r1, Ob.docK (.slice na ks.length nc) ks.length K1, Ob.seen o3 ks.length (fun _ => 0), Ob.ints (.slice va L.length vc) L] wx)
              case first =>
                as_aux_lemma =>
                  have hsE := hs11.emptyRow' 3 1 (b := w11.heap.size) rfl
                  have hbo := hs11.oldBelow 2 rfl
                  have hboE := hsE.oldBelow 2 rfl
                  have g50 := later hbo c50
                  have g51 := later hbo c51
                  have g50E := later hboE c50
                  have g51E := later hboE c51
                  have hrA := reads_at (IntsAt.later h0 hboE) hz0.out
                  have h1cA : ∀ z ∈ cellsBy intC l0, z.oneCell' = true := fun z hz => by obtain ⟨q, rfl⟩ := intC_one z _ hz; rfl
                  have h1cB : ∀ z ∈ cellsBy intC l1, z.oneCell' = true := fun z hz => by obtain ⟨q, rfl⟩ := intC_one z _ hz; rfl
                  have e63A : 0 + l0.length ≤ maxLen := by unfold maxLen; omega
                  have ebyA : (0 + l0.length) * 8 ≤ 140737488355328 := by omega
                  have e63B : l0.length + l1.length ≤ maxLen := by unfold maxLen; omega
                  have ebyB : (l0.length + l1.length) * 8 ≤ 140737488355328 := by omega
                  have hrB := fun wx (hb : Below W1.heap.size W1 wx) => reads_at (IntsAt.later h1 hb) hz1.out
                  have hfin : ∀ (v : Value) wx, Stage (oldF W1) W1 [Ob.forest p ks.length K1, Ob.box o #[.slice ka ks.length kc, .int .i64 k1] 47, Ob.old W1, Ob.docK (.slice pda ks.length pdc) ks.length K, Ob.ints (.slice z1 r1.length cz1) r1, Ob.docK (.slice na ks.length nc) ks.length K1, Ob.seen o3 ks.length (fun _ => 0), Ob.row 0 3 1 v (l0.length + l1.length) (cellsBy intC l0 ++ cellsBy intC l1)] wx → Stage (oldF W1) W1 [Ob.forest p ks.length K1, Ob.box o #[.slice ka ks.length kc, .int .i64 k1] 47, Ob.old W1, Ob.docK (.slice pda ks.length pdc) ks.length K, Ob.ints (.slice z1 r1.length cz1) r1, Ob.docK (.slice na ks.length nc) ks.length K1, Ob.seen o3 ks.length (fun _ => 0), Ob.ints v (l0 ++ l1)] wx := fun v wx h => by
                    have e1 : (l0 ++ l1).length = l0.length + l1.length := List.length_append
                    have e2 : cellsBy intC (l0 ++ l1) = cellsBy intC l0 ++ cellsBy intC l1 := cellsBy_append intC l0 l1
                    unfold Ob.ints at h ⊢
                    rw [e1, e2]
                    exact h
                  clear h0 h1 hk I I1 hJ0 hs11 hend hbo hboE
                  go_wp2_with fail
                  go_region_held3 (fun w' => w'.cell? ⟨o5, 0, none⟩ = some (.slice b0 l0.length d0) ∧ w'.cell? ⟨o5, 1, none⟩ = some (.slice b1 l1.length d1)) (first | exact ⟨p0, p1⟩ | exact ⟨m0, m1⟩ | exact ⟨g50E, g51E⟩ | exact ⟨g50, g51⟩ | simp [*, World.cell?_alloc_some]) (first
                    | ((refine Stage.step_append (v := .slice (some ⟨w11.heap.size, 0, none⟩) 0 0) (l := [_, _, _, _, _, _, _, _]) (by exact hsE.same rfl rfl rfl rfl) 7 rfl rfl _ _ 30 rfl (.int .i64 0) 8 Try.underlying30 sinfo_int rfl (by decide) (Nat.zero_le _) rfl _ l0.length (cellsBy intC l0) rfl (by exact reads_same (w := w11.alloc (.cells #[] 3)) rfl hrA) h1cA e63A ebyA ?_; intro v1 w12 hs12 hl12; rw [Nat.zero_add, List.nil_append] at hs12; obtain ⟨v1a, v1c, hv1, _, _⟩ := owns_form (hs12.owns 7 rfl); subst hv1; have m0 := later (hs12.oldBelow 2 rfl) c50; have m1 := later (hs12.oldBelow 2 rfl) c51; have hrB12 := hrB _ (hs12.oldBelow 2 rfl)))
                    | ((refine Stage.step_append (v := .slice v1a l0.length v1c) (l := [_, _, _, _, _, _, _, _]) (by exact hs12.same rfl rfl rfl rfl) 7 rfl rfl _ _ 30 rfl (.int .i64 0) 8 Try.underlying30 sinfo_int rfl (by decide) (Nat.zero_le _) rfl _ l1.length (cellsBy intC l1) rfl (by exact reads_same (w := w12) rfl hrB12) h1cB e63B ebyB ?_; intro v2 w13 hs13 hl13; obtain ⟨v2a, v2c, hv2, _, _⟩ := owns_form (hs13.owns 7 rfl); subst hv2; have p0 := later (hs13.oldBelow 2 rfl) c50; have p1 := later (hs13.oldBelow 2 rfl) c51)))
                  all_goals
                    have hs14 := hfin _ _ hs13
                    clear hs12 hs13 hfin hrB12 hrB hrA hsE g50 g51 g50E g51E m0 m1 p0 p1
                    go_wp2_with fail
                    go_meet
                    exact ⟨l0 ++ l1, v2a, v2c, Lib.hid rfl, by rw [List.length_append], by rw [List.length_append]; simp, rfl, by rw [List.length_append]; exact hs14⟩
              case rest =>
                as_aux_lemma =>
                  obtain ⟨L, va, vc, hLe, rfl, rfl, rfl, hs14⟩ := hcut
                  clear hs11
                  rw [seen_nil o3 ks.length K L] at hs14
                  have hJ := hJ0.out
                  rw [← hLe.out] at hJ
                  have hroots := hJ.roots
                  have hrow := hJ.row
                  have hperm := hJ.perm
                  have hord := hJ.ord
                  have hn24 : ks.length ≤ 24 := by omega
                  have hMl := Lib.hid (all_len I hroots)
                  replace hroots := Lib.hid hroots
                  replace hrow := Lib.hid hrow
                  replace hperm := Lib.hid hperm
                  replace hord := Lib.hid hord
                  clear hJ hJ0 h0 h1 hz0 hz1 c50 c51 hfew
                  obtain ⟨va, vc, e9, hL1, hL2⟩ := hs14.intsForm 7 rfl
                  cases e9
                  go_wp2_with fail
                  go_loopw [204] (fun z wr => ∃ a : Nat, z = .int .i64 a ∧ a ≤ L.length ∧ Stage (oldF W1) W1 [Ob.forest p ks.length K1, Ob.box o #[.slice ka ks.length kc, .int .i64 k1] 47, Ob.old W1, Ob.docK (.slice pda ks.length pdc) ks.length K, Ob.ints (.slice z1 r1.length cz1) r1, Ob.docK (.slice na ks.length nc) ks.length K1, Ob.seen o3 ks.length (cntF (farR K L a 0)), Ob.ints (.slice va L.length vc) L] wr) (fun z _ => L.length - (intOf z).toNat)
                  case atStart => exact ⟨0, rfl, Nat.zero_le _, hs14⟩
                  case round =>
                    as_aux_lemma =>
                      clear hs14
                      obtain ⟨i9, rfl, ha, hs⟩ := hrel
                      by_cases han : i9 < L.length
                      · have hai : (i9 : Int) < L.length := by omega
                        obtain ⟨gl, cl9, e9, _, _, _, hcl, _⟩ := hs.intsAt 7 rfl (by omega)
                        cases e9
                        have u0 := hcl i9 han
                        have hx : inN ks.length (L.getD i9 0) := hroots.out.inn _ (mem_getD' L i9 0 han)
                        have hAll := hs.docAll 3 rfl I hn (ks.length + 1) (by omega) (L.getD i9 0) hx
                        rw [all_tree I (Nat.lt_succ_of_lt (deg_lt_n I hx)), show ((ks.length + 1 : Nat) : Int) = (ks.length : Int) + 1 by omega] at hAll
                        have hTin : ∀ y ∈ treeK K (L.getD i9 0), inN ks.length y := fun y hy => tree_in I hx hy
                        have hfl := fun b => far_len I hroots.out i9 b han
                        have hst := fun b hb => far_step K L i9 b hb
                        have hnx := far_next K L i9 han
                        have hTl : (treeK K (L.getD i9 0)).length ≤ 24 := by have := tree_le I hx; omega
                        replace hnx := Lib.hid hnx
                        replace hTin := Lib.hid hTin
                        replace hfl := Lib.hid hfl
                        replace hst := Lib.hid hst
                        generalize treeK K (L.getD i9 0) = T at *
                        generalize L.getD i9 0 = x at *
                        clear hcl hs
                        go_wp2_with fail
                        refine hAll.mono ?_
                        rintro e wy ⟨ta, tc, rfl, _, hs2⟩
                        replace hs2 : Stage (oldF W1) W1 [Ob.forest p ks.length K1, Ob.box o #[.slice ka ks.length kc, .int .i64 k1] 47, Ob.old W1, Ob.docK (.slice pda ks.length pdc) ks.length K, Ob.ints (.slice z1 r1.length cz1) r1, Ob.docK (.slice na ks.length nc) ks.length K1, Ob.seen o3 ks.length (cntF (farR K L i9 0)), Ob.ints (.slice (some ⟨gl, 0, none⟩) L.length vc) L, Ob.ints (.slice ta T.length tc) T] wy := hs2
                        clear hAll u0
                        obtain ⟨ta, tc, e9, ht1, ht2⟩ := hs2.intsForm 8 rfl
                        cases e9
                        go_wp2_with fail
                        go_loopw [214] (fun z wr => ∃ b : Nat, z = .int .i64 b ∧ b ≤ T.length ∧ Stage (oldF W1) W1 [Ob.forest p ks.length K1, Ob.box o #[.slice ka ks.length kc, .int .i64 k1] 47, Ob.old W1, Ob.docK (.slice pda ks.length pdc) ks.length K, Ob.ints (.slice z1 r1.length cz1) r1, Ob.docK (.slice na ks.length nc) ks.length K1, Ob.seen o3 ks.length (cntF (farR K L i9 b)), Ob.ints (.slice (some ⟨gl, 0, none⟩) L.length vc) L, Ob.ints (.slice ta T.length tc) T] wr) (fun z _ => T.length - (intOf z).toNat)
                        case atStart => exact ⟨0, rfl, Nat.zero_le _, hs2⟩
                        case round =>
                          as_aux_lemma =>
                            clear hs2
                            obtain ⟨b, rfl, hb, hs⟩ := hrel
                            by_cases hbn : b < T.length
                            · have hbi : (b : Int) < T.length := by omega
                              obtain ⟨gt, ct9, e9, _, _, _, hct, _⟩ := hs.intsAt 8 rfl (by omega)
                              cases e9
                              have u1 := hct b hbn
                              have hy := hTin.out _ (mem_getD' T b 0 hbn)
                              have hstb := hst.out b hbn
                              obtain ⟨y, hyy⟩ : ∃ y : Nat, T.getD b 0 = y := ⟨(T.getD b 0).toNat, by have := hy.1; omega⟩
                              rw [hyy] at u1 hy hstb
                              have hyn : y < ks.length := by have := hy.2; omega
                              have hyi : (y : Int) < ks.length := by omega
                              obtain ⟨u2, f2⟩ := hs.seenAt 6 rfl hyn
                              have hflb := hfl.out b
                              have hcb := cnt_le (farR K L i9 b) y
                              obtain ⟨vy, hvy⟩ : ∃ vy : Int, (cntF (farR K L i9 b)) y = vy := ⟨_, rfl⟩
                              have hvb : -100 ≤ vy ∧ vy ≤ 100 := by rw [← hvy]; omega
                              replace u2 : wr.cell? ⟨o3, y, none⟩ = some (.int .i64 vy) := by rw [← hvy]; exact u2
                              have hwr : IntKind.i64.wrap (vy + 1) = vy + 1 := IntWalk.i64_in _ (by omega)
                              have hs3 := hs.seenSet 6 rfl hyn (vy + 1)
                              have hfe : (fun j => if j = y then vy + 1 else (cntF (farR K L i9 b)) j) = (cntF (farR K L i9 (b + 1))) := by rw [← hvy, hstb]; exact cnt_snoc _ y
                              rw [hfe] at hs3
                              replace hs3 : Stage (oldF W1) W1 [Ob.forest p ks.length K1, Ob.box o #[.slice ka ks.length kc, .int .i64 k1] 47, Ob.old W1, Ob.docK (.slice pda ks.length pdc) ks.length K, Ob.ints (.slice z1 r1.length cz1) r1, Ob.docK (.slice na ks.length nc) ks.length K1, Ob.seen o3 ks.length (cntF (farR K L i9 (b + 1))), Ob.ints (.slice (some ⟨gl, 0, none⟩) L.length vc) L, Ob.ints (.slice (some ⟨gt, 0, none⟩) T.length tc) T] (wr.setCell ⟨o3, y, none⟩ (.int .i64 (vy + 1))) := hs3
                              clear hct hs hTin hst hfl hflb hstb hyy hvy hfe hcb
                              generalize T.length = mt at *
                              go_wp2_with fail
                              go_roundw
                              case rel => exact ⟨b + 1, by go_num, by omega, hs3⟩
                              case measure => simp [intOf]; omega
                            · obtain rfl : b = T.length := by omega
                              rw [hnx.out] at hs
                              clear hTin hst hfl
                              go_wp2_with fail
                              go_roundw
                              case rel => exact ⟨i9 + 1, by go_num, by omega, hs.take 8⟩
                              case measure => simp [intOf]; omega
                      · obtain rfl : i9 = L.length := by omega
                        rw [far_end K L L.length (Nat.le_refl _)] at hs
                        replace hs : Stage (oldF W1) W1 [Ob.forest p ks.length K1, Ob.box o #[.slice ka ks.length kc, .int .i64 k1] 47, Ob.old W1, Ob.docK (.slice pda ks.length pdc) ks.length K, Ob.ints (.slice z1 r1.length cz1) r1, Ob.docK (.slice na ks.length nc) ks.length K1, Ob.seen o3 ks.length (fun j => cntF (allR K L) j - cntF (farR K1 r1 0 0) j)] wr := by
                          rw [← seen_two]
                          exact hs.take 7
                        replace hMl := hMl.out
                        replace hperm := hperm.out
                        generalize hM : allR K L = M at *
                        replace hM := Lib.hid hM
                        replace hperm := Lib.hid hperm
                        clear hroots hL1
                        go_wp2_with fail
                        go_loopw [228] (fun z wr => ∃ a : Nat, z = .int .i64 a ∧ a ≤ r1.length ∧ Stage (oldF W1) W1 [Ob.forest p ks.length K1, Ob.box o #[.slice ka ks.length kc, .int .i64 k1] 47, Ob.old W1, Ob.docK (.slice pda ks.length pdc) ks.length K, Ob.ints (.slice z1 r1.length cz1) r1, Ob.docK (.slice na ks.length nc) ks.length K1, Ob.seen o3 ks.length (fun j => cntF M j - cntF (farR K1 r1 a 0) j)] wr) (fun z _ => r1.length - (intOf z).toNat)
                        case atStart => exact ⟨0, rfl, Nat.zero_le _, hs⟩
                        case round =>
                          as_aux_lemma =>
                            clear hs
                            obtain ⟨i8, rfl, ha, hs⟩ := hrel
                            by_cases han : i8 < r1.length
                            · have hai : (i8 : Int) < r1.length := by omega
                              obtain ⟨gl, cl9, e9, _, _, _, hcl, _⟩ := hs.intsAt 4 rfl (by omega)
                              cases e9
                              have u0 := hcl i8 han
                              have hx : inN ks.length (r1.getD i8 0) := hrow.out.inn _ (mem_getD' r1 i8 0 han)
                              have hAll := hs.docAll 5 rfl I1 hn (ks.length + 1) (by omega) (r1.getD i8 0) hx
                              rw [all_tree I1 (Nat.lt_succ_of_lt (deg_lt_n I1 hx)), show ((ks.length + 1 : Nat) : Int) = (ks.length : Int) + 1 by omega] at hAll
                              have hTin : ∀ y ∈ treeK K1 (r1.getD i8 0), inN ks.length y := fun y hy => tree_in I1 hx hy
                              have hfl := fun b => far_len I1 hrow.out.roots i8 b han
                              have hst := fun b hb => far_step K1 r1 i8 b hb
                              have hnx := far_next K1 r1 i8 han
                              have hTl : (treeK K1 (r1.getD i8 0)).length ≤ 24 := by have := tree_le I1 hx; omega
                              replace hnx := Lib.hid hnx
                              replace hTin := Lib.hid hTin
                              replace hfl := Lib.hid hfl
                              replace hst := Lib.hid hst
                              generalize treeK K1 (r1.getD i8 0) = T at *
                              generalize r1.getD i8 0 = x at *
                              clear hcl hs hperm hord
                              go_wp2_with fail
                              refine hAll.mono ?_
                              rintro e wy ⟨ta, tc, rfl, _, hs2⟩
                              replace hs2 : Stage (oldF W1) W1 [Ob.forest p ks.length K1, Ob.box o #[.slice ka ks.length kc, .int .i64 k1] 47, Ob.old W1, Ob.docK (.slice pda ks.length pdc) ks.length K, Ob.ints (.slice (some ⟨gl, 0, none⟩) r1.length cz1) r1, Ob.docK (.slice na ks.length nc) ks.length K1, Ob.seen o3 ks.length (fun j => cntF M j - cntF (farR K1 r1 i8 0) j), Ob.ints (.slice ta T.length tc) T] wy := hs2
                              clear hAll u0
                              obtain ⟨ta, tc, e9, ht1, ht2⟩ := hs2.intsForm 7 rfl
                              cases e9
                              go_wp2_with fail
                              go_loopw [238] (fun z wr => ∃ b : Nat, z = .int .i64 b ∧ b ≤ T.length ∧ Stage (oldF W1) W1 [Ob.forest p ks.length K1, Ob.box o #[.slice ka ks.length kc, .int .i64 k1] 47, Ob.old W1, Ob.docK (.slice pda ks.length pdc) ks.length K, Ob.ints (.slice (some ⟨gl, 0, none⟩) r1.length cz1) r1, Ob.docK (.slice na ks.length nc) ks.length K1, Ob.seen o3 ks.length (fun j => cntF M j - cntF (farR K1 r1 i8 b) j), Ob.ints (.slice ta T.length tc) T] wr) (fun z _ => T.length - (intOf z).toNat)
                              case atStart => exact ⟨0, rfl, Nat.zero_le _, hs2⟩
                              case round =>
                                as_aux_lemma =>
                                  clear hs2
                                  obtain ⟨b, rfl, hb, hs⟩ := hrel
                                  by_cases hbn : b < T.length
                                  · have hbi : (b : Int) < T.length := by omega
                                    obtain ⟨gt, ct9, e9, _, _, _, hct, _⟩ := hs.intsAt 7 rfl (by omega)
                                    cases e9
                                    have u1 := hct b hbn
                                    have hy := hTin.out _ (mem_getD' T b 0 hbn)
                                    have hstb := hst.out b hbn
                                    obtain ⟨y, hyy⟩ : ∃ y : Nat, T.getD b 0 = y := ⟨(T.getD b 0).toNat, by have := hy.1; omega⟩
                                    rw [hyy] at u1 hy hstb
                                    have hyn : y < ks.length := by have := hy.2; omega
                                    have hyi : (y : Int) < ks.length := by omega
                                    obtain ⟨u2, f2⟩ := hs.seenAt 6 rfl hyn
                                    have hflb := hfl.out b
                                    have hcb := cnt_le (farR K1 r1 i8 b) y
                                    have hcm := cnt_le M y
                                    obtain ⟨vy, hvy⟩ : ∃ vy : Int, (fun j => cntF M j - cntF (farR K1 r1 i8 b) j) y = vy := ⟨_, rfl⟩
                                    have hvy2 : cntF M y - cntF (farR K1 r1 i8 b) y = vy := hvy
                                    have hvb : -100 ≤ vy ∧ vy ≤ 100 := by omega
                                    replace u2 : wr.cell? ⟨o3, y, none⟩ = some (.int .i64 vy) := by rw [← hvy]; exact u2
                                    have hwr : IntKind.i64.wrap (vy - 1) = vy - 1 := IntWalk.i64_in _ (by omega)
                                    have hs3 := hs.seenSet 6 rfl hyn (vy - 1)
                                    have hfe : (fun j => if j = y then vy - 1 else (fun j => cntF M j - cntF (farR K1 r1 i8 b) j) j) = (fun j => cntF M j - cntF (farR K1 r1 i8 (b + 1)) j) := by rw [← hvy, hstb]; exact cnt_off M _ y
                                    rw [hfe] at hs3
                                    replace hs3 : Stage (oldF W1) W1 [Ob.forest p ks.length K1, Ob.box o #[.slice ka ks.length kc, .int .i64 k1] 47, Ob.old W1, Ob.docK (.slice pda ks.length pdc) ks.length K, Ob.ints (.slice (some ⟨gl, 0, none⟩) r1.length cz1) r1, Ob.docK (.slice na ks.length nc) ks.length K1, Ob.seen o3 ks.length (fun j => cntF M j - cntF (farR K1 r1 i8 (b + 1)) j), Ob.ints (.slice (some ⟨gt, 0, none⟩) T.length tc) T] (wr.setCell ⟨o3, y, none⟩ (.int .i64 (vy - 1))) := hs3
                                    clear hct hs hTin hst hfl hflb hstb hyy hvy hvy2 hfe hcb hcm
                                    generalize T.length = mt at *
                                    go_wp2_with fail
                                    go_roundw
                                    case rel => exact ⟨b + 1, by go_num, by omega, hs3⟩
                                    case measure => simp [intOf]; omega
                                  · obtain rfl : b = T.length := by omega
                                    rw [hnx.out] at hs
                                    clear hTin hst hfl
                                    go_wp2_with fail
                                    go_roundw
                                    case rel => exact ⟨i8 + 1, by go_num, by omega, hs.take 7⟩
                                    case measure => simp [intOf]; omega
                            · obtain rfl : i8 = r1.length := by omega
                              rw [far_end K1 r1 r1.length (Nat.le_refl _)] at hs
                              have hzero := Lib.hid (cnt_perm hperm.out)
                              replace hs : Stage (oldF W1) W1 [Ob.forest p ks.length K1, Ob.box o #[.slice ka ks.length kc, .int .i64 k1] 47, Ob.old W1, Ob.docK (.slice pda ks.length pdc) ks.length K, Ob.ints (.slice z1 r1.length cz1) r1, Ob.docK (.slice na ks.length nc) ks.length K1, Ob.seen o3 ks.length (fun j => cntF M j - cntF (allR K1 r1) j)] wr := hs
                              have hzf : (fun j => cntF M j - cntF (allR K1 r1) j) = fun _ => 0 := funext hzero.out
                              replace hs : Stage (oldF W1) W1 [Ob.forest p ks.length K1, Ob.box o #[.slice ka ks.length kc, .int .i64 k1] 47, Ob.old W1, Ob.docK (.slice pda ks.length pdc) ks.length K, Ob.ints (.slice z1 r1.length cz1) r1, Ob.docK (.slice na ks.length nc) ks.length K1, Ob.seen o3 ks.length (fun _ => 0)] wr := by rw [← hzf]; exact hs
                              clear hMl hrow hM hperm hzf hzero
                              go_wp2_with fail
                              go_loopw [252] (fun z wr => ∃ (j : Nat) (s : Int), z = .int .i64 j ∧ j ≤ ks.length ∧ Stage (oldF W1) W1 [Ob.forest p ks.length K1, Ob.box o #[.slice ka ks.length kc, .int .i64 s] 47, Ob.old W1, Ob.docK (.slice pda ks.length pdc) ks.length K, Ob.ints (.slice z1 r1.length cz1) r1, Ob.docK (.slice na ks.length nc) ks.length K1, Ob.seen o3 ks.length (fun _ => 0)] wr) (fun z _ => ks.length - (intOf z).toNat)
                              case atStart => exact ⟨0, k1, rfl, Nat.zero_le _, hs⟩
                              case round =>
                                as_aux_lemma =>
                                  clear hs
                                  obtain ⟨j, s, rfl, hj, hs⟩ := hrel
                                  by_cases hjn : j < ks.length
                                  · have hji : (j : Int) < ks.length := by omega
                                    have u0 : wr.cell? ⟨o3, j, none⟩ = some (.int .i64 0) := (hs.seenAt 6 rfl hjn).1
                                    have hUn := hs.docUp 5 rfl I1 (j : Int)
                                    have hUw := hs.docUp 3 rfl I (j : Int)
                                    have hCb := hs.docCube 5 rfl I1 hn ks.length (by omega) (j : Int) ⟨by omega, by omega⟩
                                    have ho9 := hord.out (j : Int)
                                    have hsel : Stage (oldF W1) W1 [Ob.box o #[.slice ka ks.length kc, .int .i64 s] 47, Ob.old W1, Ob.forest p ks.length K1, Ob.docK (.slice pda ks.length pdc) ks.length K, Ob.ints (.slice z1 r1.length cz1) r1, Ob.docK (.slice na ks.length nc) ks.length K1, Ob.seen o3 ks.length (fun _ => 0)] wr := hs.select [1, 2, 0, 3, 4, 5, 6] (by decide) rfl
                                    have hAh := fun y => lahead_c (ks := ks) ⟨hkc1, hkc2⟩ (fun h => old_keys W1 ka ks hk 1 rfl h) hsel (j : Int) y
                                    cases hu : upK K1 (j : Int) with
                                    | none =>
                                      rw [hu] at hUn
                                      clear hAh hsel ho9 hu I I1 hk hord
                                      generalize (upK K (j : Int)).getD 0 = q at *
                                      generalize (upK K (j : Int)).isSome = was at *
                                      generalize r1.length = rl1 at *
                                      go_wp2_with fail
                                      refine hUn.mono ?_
                                      rintro e wx ⟨rfl, rfl⟩
                                      go_wp2_with fail
                                      refine hUw.mono ?_
                                      rintro e wx ⟨rfl, rfl⟩
                                      go_wp2_with fail
                                      refine hCb.mono ?_
                                      rintro e wx ⟨rfl, rfl⟩
                                      clear hUn hUw hCb
                                      go_wp2_with fail
                                      go_roundw
                                      case rel => exact ⟨j + 1, s, by go_num, by omega, hs⟩
                                      case measure => simp [intOf]; omega
                                    | some y =>
                                      rw [hu] at hUn
                                      have ho8 := ho9 y hu
                                      have hA := hAh y
                                      by_cases hsame : upK K (j : Int) = some y
                                      · rw [hsame] at hUw
                                        have hyy : (y == y) = true := by simp
                                        clear hA hAh hsel ho9 ho8 hu I I1 hk hord hsame
                                        generalize r1.length = rl1 at *
                                        go_wp2_with fail
                                        refine hUn.mono ?_
                                        rintro e wx ⟨rfl, rfl⟩
                                        go_wp2_with fail
                                        refine hUw.mono ?_
                                        rintro e wx ⟨rfl, rfl⟩
                                        go_wp2_with fail
                                        refine hCb.mono ?_
                                        rintro e wx ⟨rfl, rfl⟩
                                        clear hUn hUw hCb
                                        go_wp2_with fail
                                        go_roundw
                                        case rel => exact ⟨j + 1, s, by go_num, by omega, hs⟩
                                        case measure => simp [intOf]; omega
                                      · rw [ho8.resolve_left hsame] at hA
                                        obtain ⟨q, was, hqw, hne⟩ : ∃ (q : Int) (was : Bool), ((upK K (j : Int)).getD 0 = q ∧ (upK K (j : Int)).isSome = was) ∧ (was = false ∨ (was = true ∧ (y == q) = false)) := by
                                          refine ⟨_, _, ⟨rfl, rfl⟩, ?_⟩
                                          cases hq : upK K (j : Int) with
                                          | none => exact Or.inl rfl
                                          | some q => exact Or.inr ⟨rfl, by rw [beq_eq_false_iff_ne]; rintro rfl; exact hsame hq⟩
                                        rw [hqw.1, hqw.2] at hUw
                                        clear hAh hsel ho9 ho8 hu I I1 hk hord hsame hqw hs
                                        generalize r1.length = rl1 at *
                                        rcases hne with rfl | ⟨rfl, hne⟩
                                        all_goals
                                          go_wp2_with fail
                                          refine hUn.mono ?_
                                          rintro e wx ⟨rfl, rfl⟩
                                          go_wp2_with fail
                                          refine hUw.mono ?_
                                          rintro e wx ⟨rfl, rfl⟩
                                          go_wp2_with fail
                                          refine hCb.mono ?_
                                          rintro e wx ⟨rfl, rfl⟩
                                          go_wp2_with fail
                                          refine hA.mono ?_
                                          rintro e wy ⟨rfl, hs7⟩
                                          have hs8 := hs7.select [2, 0, 1, 3, 4, 5, 6] (by decide) rfl
                                          clear hA hs7 hUn hUw hCb
                                          go_wp2_with fail
                                          go_roundw
                                          case rel => exact ⟨j + 1, _, by go_num, by omega, hs8⟩
                                          case measure => simp [intOf]; omega
                                  · have hji : ¬ (j : Int) < ks.length := by omega
                                    have hb9 := hend _ (hs.oldBelow 2 rfl)
                                    clear hs hord hk I I1
                                    go_wp2_with fail
                                    go_ret
                                    exact ⟨rfl, by rw [hg5.out]; exact hb9⟩
end Go.Proofs.Ytbllfokagedpeaa
