/- RingTwice, walked: what is spliced twice is as it was; a splice joins or parts. (Written by gen_twice.py.) -/
import Derived.Test.YtfngooaobjafjaaRingDo
namespace Go.Proofs.Ytfngooaobjafjaa
open Go.RowKit Go.Sort

section
variable {n : Nat} {S : RSt}
theorem twice_all (G : RGood n S) {x y z : Int} (hx : inR n x = true) (hy : inR n y = true) (hz : inR n z = true) : allR (spliceS n (spliceS n S x y) y x).R z = allR S.R z := by
  have G2 := ((G.splice x y).splice y x).inv
  have e : (spliceS n (spliceS n S x y) y x).f = S.f := by
    have e1 : ∀ T : RSt, ∀ a b, inR n a = true → inR n b = true → (spliceS n T a b).f = swapN T.f a b := fun T a b ha hb => by
      unfold spliceS; rw [ha, hb]; rfl
    rw [e1 _ y x hy hx, e1 _ x y hx hy]
    by_cases h : x = y
    · subst h; rw [swapN_self, swapN_self]
    · exact swap_twice S.f h
  rw [e] at G2
  exact all_same G2 G.inv (inR_iff.1 hz)
theorem same_flips (G : RGood n S) {x y : Int} (hx : inR n x = true) (hy : inR n y = true) (hne : x ≠ y) : ((allR (spliceS n S x y).R x).contains y == (allR S.R x).contains y) = false := by
  have h := splice_flip G.inv (inR_iff.1 hx) (inR_iff.1 hy) hne
  rw [← splice_R G] at h
  cases h2 : (allR S.R x).contains y
  · have h3 : y ∉ allR S.R x := by simpa using h2
    have h4 := h.2 h3
    have h5 : (allR (spliceS n S x y).R x).contains y = true := by simpa using h4
    rw [h5]; rfl
  · have h3 : y ∈ allR S.R x := by simpa using h2
    have h4 : y ∉ allR (spliceS n S x y).R x := fun h5 => h.1 h5 h3
    have h5 : (allR (spliceS n S x y).R x).contains y = false := by simpa using h4
    rw [h5]; rfl
end
set_option maxRecDepth 100000 in
set_option maxHeartbeats 8000000 in
theorem ringTwice_walk (C : Nat) (hC : C ≤ 255) (a0 : Option Addr) (n0 cap : Nat) (hcap : n0 ≤ cap ∧ cap ≤ 9223372036854775807) (x y : Int) (w : World) (hact : RActsAt w a0 n0) :
    Calls Try.prog 5 #[.int .u8 C, .slice a0 n0 cap, .agg #[.int .i64 x, .int .i64 y]] w fun e w' => e = .returned (.bool true) ∧ Below w.heap.size w w' := by
  obtain ⟨hcap1, hcap2⟩ := hcap
  obtain ⟨m, hm⟩ : ∃ m, m = C % 24 := ⟨_, rfl⟩
  have hm24 : m < 24 := by omega
  have q1 : Int.tmod (C : Int) 24 = (m : Int) := by rw [hm]; exact (Int.ofNat_tmod C 24).symm
  clear hm
  have hs0 := (Stage.start w).alloc #[.int .i64 x, .int .i64 y] 40
  have t0 := hs0.cell 0 rfl (o := 0) rfl
  have t1 := hs0.cell 0 rfl (o := 1) rfl
  have hb0 := hs0.below
  clear hs0
  go_enter Try.func5, Try.ntmps5
  go_wp2_with fail
  go_region
  clear t0 t1
  replace hb0 := hb0.drew
  generalize (w.alloc (.cells #[.int .i64 x, .int .i64 y] 40)).drew = w0 at *
  go_wp2_with fail
  refine (alive_rg _).mono ?_
  rintro e w1 ⟨rfl, hb⟩
  go_wp2_with fail
  refine (((Stage.start w).later (below_then hb0 hb hb0.size)).newRing m (by omega)).mono ?_
  rintro e w2 ⟨p, rfl, hs⟩
  simp only [List.nil_append] at hs
  by_cases h60 : (60 : Int) < n0
  · go_wp2_with fail
    go_ret
    exact ⟨rfl, hs.below⟩
  have hn60 : n0 ≤ 60 := by omega
  go_wp2_with fail
  go_loopw [47] (fun i wr => ∃ (k : Nat) (S : RSt), k ≤ n0 ∧ i = .int .i64 k ∧ RGood m S ∧ Stage (fun _ => False) w [Ob.ring p m S] wr) (fun i _ => n0 - (intOf i).toNat)
  case atStart => exact ⟨0, _, Nat.zero_le _, rfl, good_new m (by omega), hs⟩
  case round =>
    clear hs hb hb0
    obtain ⟨k, S, hk, rfl, G, hs⟩ := hrel
    by_cases hlt : k < n0
    · have hki : (k : Int) < n0 := by omega
      obtain ⟨ba, offa, x1, y1, z1, rfl, q0, q1, q2⟩ := hact k hlt
      replace q0 := later hs.below q0
      replace q1 := later hs.below q1
      replace q2 := later hs.below q2
      obtain ⟨w1, hw1, hs1⟩ : ∃ w1, wr.alloc (.cells #[.int .i64 x1, .int .i64 y1, .int .i64 z1] 42) = w1 ∧ Stage (fun _ => False) w [Ob.ring p m S, Ob.box wr.heap.size #[.int .i64 x1, .int .i64 y1, .int .i64 z1] 42] w1 := ⟨_, rfl, hs.alloc _ _⟩
      have b0 := hs1.cell 1 rfl (o := 0) rfl
      have b1 := hs1.cell 1 rfl (o := 1) rfl
      have b2 := hs1.cell 1 rfl (o := 2) rfl
      clear hs hact
      by_cases h1 : x1 = 1
      · subst h1
        have hP := hs1.call 0 rfl (fun _ ho => rg_part G y1 ho)
        have G2 := G.part y1
        generalize partS m S y1 = S2 at *
        clear hs1 G
        go_wp2_with fail
        try rw [hw1]
        clear hw1 q0 q1 q2
        generalize wr.heap.size = bX at *
        refine hP.mono ?_
        rintro e w3 ⟨rfl, hs3⟩
        replace hs3 : Stage (fun _ => False) w [Ob.ring p m S2, Ob.box bX #[.int .i64 1, .int .i64 y1, .int .i64 z1] 42] w3 := hs3
        clear hP b0 b1 b2
        go_wp2_with fail
        go_roundw
        case rel => exact ⟨k + 1, _, by omega, by go_num, G2, hs3.take 1⟩
        case measure => simp [intOf]; omega
      have h1' : (x1 == 1) = false := by simpa using h1
      have hP := hs1.call 0 rfl (fun _ ho => rg_splice G.back y1 z1 ho)
      have G2 := G.splice y1 z1
      generalize spliceS m S y1 z1 = S2 at *
      clear hs1 G
      go_wp2_with fail
      try rw [hw1]
      clear hw1 q0 q1 q2
      generalize wr.heap.size = bX at *
      refine hP.mono ?_
      rintro e w3 ⟨rfl, hs3⟩
      replace hs3 : Stage (fun _ => False) w [Ob.ring p m S2] w3 := hs3.take 1
      clear hP b0 b1 b2
      go_wp2_with fail
      go_roundw
      case rel => exact ⟨k + 1, _, by omega, by go_num, G2, hs3⟩
      case measure => simp [intOf]; omega
    · have hki : ¬ (k : Int) < n0 := by omega
      have hk' : k = n0 := by omega
      clear hact hk hlt
      by_cases hin : inR m x = true ∧ inR m y = true
      · obtain ⟨hx, hy⟩ := hin
        obtain ⟨gx0, gx1⟩ := inR_iff.1 hx
        obtain ⟨gy0, gy1⟩ := inR_iff.1 hy
        have nx0 : ¬ x < 0 := by omega
        have ny0 : ¬ y < 0 := by omega
        have nx1 : ¬ (m : Int) ≤ x := by omega
        have ny1 : ¬ (m : Int) ≤ y := by omega
        have hA1 := hs.ringAll G 0 rfl x
        have hA2 := fun v (wx : World) (h : Stage (fun _ => False) w [Ob.ring p m S, Ob.ints v (allR S.R x)] wx) => h.ringAll G 0 rfl y
        have hSm := fun v v' (wx : World) (h : Stage (fun _ => False) w [Ob.ring p m S, Ob.ints v (allR S.R x), Ob.ints v' (allR S.R y)] wx) => h.askB 0 rfl (fun _ ho => rg_same G x y ho)
        have hSp := fun v v' (wx : World) (h : Stage (fun _ => False) w [Ob.ring p m S, Ob.ints v (allR S.R x), Ob.ints v' (allR S.R y)] wx) => h.call 0 rfl (fun _ ho => rg_splice G.back x y ho)
        have G2 := G.splice x y
        have G3 := G2.splice y x
        have hflip := fun hne : x ≠ y => same_flips G hx hy hne
        have hz1 := twice_all G hx hy hx
        have hz2 := twice_all G hx hy hy
        rw [hx, hy, Bool.and_self] at hSp
        clear hs
        generalize spliceS m S x y = S2 at *
        have hS2 := fun v v' (wx : World) (h : Stage (fun _ => False) w [Ob.ring p m S2, Ob.ints v (allR S.R x), Ob.ints v' (allR S.R y)] wx) => h.askB 0 rfl (fun _ ho => rg_same G2 x y ho)
        have hSp2 := fun v v' (wx : World) (h : Stage (fun _ => False) w [Ob.ring p m S2, Ob.ints v (allR S.R x), Ob.ints v' (allR S.R y)] wx) => h.call 0 rfl (fun _ ho => rg_splice G2.back y x ho)
        rw [hx, hy, Bool.and_self] at hSp2
        generalize spliceS m S2 y x = S3 at *
        have hA3 := fun v v' (wx : World) (h : Stage (fun _ => False) w [Ob.ring p m S3, Ob.ints v (allR S.R x), Ob.ints v' (allR S.R y)] wx) => h.ringAll G3 0 rfl x
        have hA4 := fun v v' (wx : World) (h : Stage (fun _ => False) w [Ob.ring p m S3, Ob.ints v (allR S.R x), Ob.ints v' (allR S.R y)] wx) => h.ringAll G3 0 rfl y
        rw [hz1] at hA3
        rw [hz2] at hA4
        generalize allR S.R x = lx at *
        generalize allR S.R y = ly at *
        generalize (allR S2.R x).contains y = B2 at *
        generalize lx.contains y = B1 at *
        clear hz1 hz2 G G2 G3 hx hy gx0 gy0 gx1 gy1
        go_wp2_with fail
        refine hA1.mono ?_
        rintro e w3 ⟨v3, rfl, hs3⟩
        clear hA1
        replace hs3 : Stage (fun _ => False) w [Ob.ring p m S, Ob.ints v3 lx] w3 := hs3
        replace hA2 := hA2 _ _ hs3
        clear hs3
        go_wp2_with fail
        refine hA2.mono ?_
        rintro e w4 ⟨v4, rfl, hs4⟩
        clear hA2
        replace hs4 : Stage (fun _ => False) w [Ob.ring p m S, Ob.ints v3 lx, Ob.ints v4 ly] w4 := hs4
        replace hSm := hSm _ _ _ hs4
        clear hs4
        go_wp2_with fail
        refine hSm.mono ?_
        rintro e w5 ⟨rfl, hs5⟩
        clear hSm
        replace hSp := hSp _ _ _ hs5
        clear hs5
        by_cases hxy : x = y
        · clear hflip hS2
          subst hxy
          go_wp2_with fail
          refine hSp.mono ?_
          rintro e w6 ⟨rfl, hs6⟩
          clear hSp
          replace hSp2 := hSp2 _ _ _ hs6
          clear hs6
          go_wp2_with fail
          refine hSp2.mono ?_
          rintro e w8 ⟨rfl, hs8⟩
          clear hSp2
          replace hs8 : Stage (fun _ => False) w [Ob.ring p m S3, Ob.ints v3 lx, Ob.ints v4 ly] w8 := hs8
          replace hA3 := hA3 _ _ _ hs8
          clear hs8
          go_wp2_with fail
          refine hA3.mono ?_
          rintro e w9 ⟨v9, rfl, hs9⟩
          clear hA3
          replace hs9 : Stage (fun _ => False) w [Ob.ring p m S3, Ob.ints v3 lx, Ob.ints v4 ly, Ob.ints v9 lx] w9 := hs9
          obtain ⟨a3, c3, rfl, _, _⟩ := hs9.intsForm 1 rfl
          obtain ⟨a9, c9, rfl, _, _⟩ := hs9.intsForm 3 rfl
          have hE := hs9.sameInts 3 1 rfl rfl
          rw [decide_eq_true rfl] at hE
          go_wp2_with fail
          refine hE.mono ?_
          rintro e w10 ⟨rfl, hb10⟩
          have hs10 : Stage (fun _ => False) w [Ob.ring p m S3, Ob.ints (.slice a3 lx.length c3) lx, Ob.ints v4 ly] w10 := (hs9.later hb10).take 3
          clear hE hb10 hs9
          replace hA4 := hA4 _ _ _ hs10
          clear hs10
          go_wp2_with fail
          refine hA4.mono ?_
          rintro e w11 ⟨v11, rfl, hs11⟩
          clear hA4
          replace hs11 : Stage (fun _ => False) w [Ob.ring p m S3, Ob.ints (.slice a3 lx.length c3) lx, Ob.ints v4 ly, Ob.ints v11 ly] w11 := hs11
          obtain ⟨a4, c4, rfl, _, _⟩ := hs11.intsForm 2 rfl
          obtain ⟨a11, c11, rfl, _, _⟩ := hs11.intsForm 3 rfl
          have hE := hs11.sameInts 3 2 rfl rfl
          rw [decide_eq_true rfl] at hE
          go_wp2_with fail
          refine hE.mono ?_
          rintro e w12 ⟨rfl, hb12⟩
          have hb12 := (hs11.later hb12).below
          clear hE hs11
          go_wp2_with fail
          go_ret
          exact ⟨rfl, hb12⟩
        · have hxy' : (x != y) = true := by simpa using hxy
          replace hflip := hflip hxy
          clear hxy
          go_wp2_with fail
          refine hSp.mono ?_
          rintro e w6 ⟨rfl, hs6⟩
          clear hSp
          replace hS2 := hS2 _ _ _ hs6
          clear hs6
          go_wp2_with fail
          refine hS2.mono ?_
          rintro e w7 ⟨rfl, hs7⟩
          clear hS2
          replace hSp2 := hSp2 _ _ _ hs7
          clear hs7
          go_wp2_with fail
          refine hSp2.mono ?_
          rintro e w8 ⟨rfl, hs8⟩
          clear hSp2
          replace hs8 : Stage (fun _ => False) w [Ob.ring p m S3, Ob.ints v3 lx, Ob.ints v4 ly] w8 := hs8
          replace hA3 := hA3 _ _ _ hs8
          clear hs8
          go_wp2_with fail
          refine hA3.mono ?_
          rintro e w9 ⟨v9, rfl, hs9⟩
          clear hA3
          replace hs9 : Stage (fun _ => False) w [Ob.ring p m S3, Ob.ints v3 lx, Ob.ints v4 ly, Ob.ints v9 lx] w9 := hs9
          obtain ⟨a3, c3, rfl, _, _⟩ := hs9.intsForm 1 rfl
          obtain ⟨a9, c9, rfl, _, _⟩ := hs9.intsForm 3 rfl
          have hE := hs9.sameInts 3 1 rfl rfl
          rw [decide_eq_true rfl] at hE
          go_wp2_with fail
          refine hE.mono ?_
          rintro e w10 ⟨rfl, hb10⟩
          have hs10 : Stage (fun _ => False) w [Ob.ring p m S3, Ob.ints (.slice a3 lx.length c3) lx, Ob.ints v4 ly] w10 := (hs9.later hb10).take 3
          clear hE hb10 hs9
          replace hA4 := hA4 _ _ _ hs10
          clear hs10
          go_wp2_with fail
          refine hA4.mono ?_
          rintro e w11 ⟨v11, rfl, hs11⟩
          clear hA4
          replace hs11 : Stage (fun _ => False) w [Ob.ring p m S3, Ob.ints (.slice a3 lx.length c3) lx, Ob.ints v4 ly, Ob.ints v11 ly] w11 := hs11
          obtain ⟨a4, c4, rfl, _, _⟩ := hs11.intsForm 2 rfl
          obtain ⟨a11, c11, rfl, _, _⟩ := hs11.intsForm 3 rfl
          have hE := hs11.sameInts 3 2 rfl rfl
          rw [decide_eq_true rfl] at hE
          go_wp2_with fail
          refine hE.mono ?_
          rintro e w12 ⟨rfl, hb12⟩
          have hb12 := (hs11.later hb12).below
          clear hE hs11
          go_wp2_with fail
          go_ret
          exact ⟨rfl, hb12⟩
      · have hSp := hs.call 0 rfl (fun _ ho => rg_splice G.back x y ho)
        have hno : (inR m x && inR m y) = false := by
          cases h1 : inR m x <;> cases h2 : inR m y
          · rfl
          · rfl
          · rfl
          · exact absurd ⟨h1, h2⟩ hin
        rw [hno] at hSp
        have hc : x < 0 ∨ (¬ x < 0 ∧ y < 0) ∨ (¬ x < 0 ∧ ¬ y < 0 ∧ (m : Int) ≤ x) ∨ (¬ x < 0 ∧ ¬ y < 0 ∧ ¬ (m : Int) ≤ x ∧ (m : Int) ≤ y) := by
          rw [inR_iff, inR_iff] at hin
          omega
        clear hno hin hs
        generalize spliceS m S x y = S2 at *
        rcases hc with g1 | ⟨g1, g2⟩ | ⟨g1, g2, g3⟩ | ⟨g1, g2, g3, g4⟩
        all_goals
          go_wp2_with fail
          refine hSp.mono ?_
          rintro e w3 ⟨rfl, hs3⟩
          clear hSp
          go_wp2_with fail
          go_ret
          exact ⟨rfl, hs3.below⟩
end Go.Proofs.Ytfngooaobjafjaa
