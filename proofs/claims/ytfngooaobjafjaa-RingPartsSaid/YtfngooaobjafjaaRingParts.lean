/- RingParts, walked: all rings together have each thing once; what follows what it follows is it. (Written by gen_parts.py.) -/
import Derived.Test.YtfngooaobjafjaaRingDo
namespace Go.Proofs.Ytfngooaobjafjaa
open Go.RowKit Go.Sort

/-- A ring of a thing, as it is looked at. -/
theorem ring_parts {n : Nat} {S : RSt} (G : RGood n S) {x : Int} (hx : 0 ≤ x ∧ x < (n : Int)) :
    inR n x = true ∧ inR n (S.f x) = true ∧ nextI n S x = S.f x ∧ prevI n S (S.f x) = x ∧ 1 ≤ (allR S.R x).length ∧ (allR S.R x).length ≤ n ∧
    (∀ i k, i < k → k < (allR S.R x).length → ((allR S.R x).getD k 0 == (allR S.R x).getD i 0) = false) ∧ ∀ i, i < (allR S.R x).length → (allR S.R ((allR S.R x).getD i 0)).length = (allR S.R x).length := by
  have h1 := inR_iff.2 hx
  have h2 := inR_iff.2 (G.back.inF x hx)
  have h3 := all_few G.inv hx
  refine ⟨h1, h2, by unfold nextI; rw [if_pos h1], by unfold prevI; rw [if_pos h2, G.back.gf x hx], h3.1, h3.2, fun i k hik hk => ?_, fun i hi => ?_⟩
  · have hd := all_nodup G.inv hx
    rw [List.getD_eq_getElem?_getD, List.getD_eq_getElem?_getD, List.getElem?_eq_getElem hk, List.getElem?_eq_getElem (by omega : i < _)]
    have h4 := List.pairwise_iff_getElem.1 hd i k (by omega) hk hik
    rw [beq_eq_false_iff_ne]
    exact fun e => h4 e.symm
  · rw [List.getD_eq_getElem?_getD, List.getElem?_eq_getElem hi]
    exact (all_perm G.inv hx (List.getElem_mem hi)).2.length_eq
set_option maxRecDepth 100000 in
set_option maxHeartbeats 8000000 in
theorem ringParts_walk (C : Nat) (hC : C ≤ 255) (a0 : Option Addr) (n0 cap : Nat) (hcap : n0 ≤ cap ∧ cap ≤ 9223372036854775807) (w : World) (hact : RActsAt w a0 n0) :
    Calls Try.prog 6 #[.int .u8 C, .slice a0 n0 cap] w fun e w' => e = .returned (.bool true) ∧ Below w.heap.size w w' := by
  obtain ⟨hcap1, hcap2⟩ := hcap
  obtain ⟨m, hm⟩ : ∃ m, m = C % 24 := ⟨_, rfl⟩
  have hm24 : m < 24 := by omega
  have q1 : Int.tmod (C : Int) 24 = (m : Int) := by rw [hm]; exact (Int.ofNat_tmod C 24).symm
  clear hm
  go_enter Try.func6, Try.ntmps6
  go_wp2_with fail
  refine (alive_rg _).mono ?_
  rintro e w1 ⟨rfl, hb⟩
  go_wp2_with fail
  refine (((Stage.start w).later hb).newRing m (by omega)).mono ?_
  rintro e w2 ⟨p, rfl, hs⟩
  simp only [List.nil_append] at hs
  by_cases h60 : (60 : Int) < n0
  · go_wp2_with fail
    go_ret
    exact ⟨rfl, hs.below⟩
  have hn60 : n0 ≤ 60 := by omega
  go_wp2_with fail
  go_loopw [46] (fun i wr => ∃ (k : Nat) (S : RSt), k ≤ n0 ∧ i = .int .i64 k ∧ RGood m S ∧ Stage (fun _ => False) w [Ob.ring p m S] wr) (fun i _ => n0 - (intOf i).toNat)
  case atStart => exact ⟨0, _, Nat.zero_le _, rfl, good_new m (by omega), hs⟩
  case round =>
    clear hs hb 
    obtain ⟨k, S, hk, rfl, G, hs⟩ := hrel
    by_cases hlt : k < n0
    · have hki : (k : Int) < n0 := by omega
      obtain ⟨ba, offa, x1, y1, z1, rfl, q0, q1, q2⟩ := hact k hlt
      replace q0 := later hs.below q0
      replace q1 := later hs.below q1
      replace q2 := later hs.below q2
      obtain ⟨w1, hw1, hs1⟩ : ∃ w1, wr.alloc (.cells #[.int .i64 x1, .int .i64 y1, .int .i64 z1] 42) = w1 ∧ Stage (fun _ => False) w [Ob.ring p m S, Ob.box wr.heap.size #[.int .i64 x1, .int .i64 y1, .int .i64 z1] 42] w1 := ⟨_, rfl, hs.alloc _ _⟩
      have b0 := hs1.cell 1 rfl (o := 0) rfl
      have b1 := hs1.cell 1 rfl (o := 1) rfl
      have b2 := hs1.cell 1 rfl (o := 2) rfl
      clear hs hact
      by_cases h1 : x1 = 1
      · subst h1
        have hP := hs1.call 0 rfl (fun _ ho => rg_part G y1 ho)
        have G2 := G.part y1
        have hone : inR m y1 = true → allR (partS m S y1).R y1 = [y1] := fun h => by rw [part_R G]; exact part_self G.inv (inR_iff.1 h)
        generalize hB : inR m y1 = B at *
        generalize partS m S y1 = S2 at *
        clear hs1 G
        go_wp2_with fail
        try rw [hw1]
        clear hw1 q0 q1 q2
        generalize wr.heap.size = bX at *
        refine hP.mono ?_
        rintro e w3 ⟨rfl, hs3⟩
        replace hs3 : Stage (fun _ => False) w [Ob.ring p m S2, Ob.box bX #[.int .i64 1, .int .i64 y1, .int .i64 z1] 42] w3 := hs3
        clear hP b0 b1 b2
        clear hB
        cases B
        · clear hone
          go_wp2_with fail
          go_roundw
          case rel => exact ⟨k + 1, _, by omega, by go_num, G2, hs3.take 1⟩
          case measure => simp [intOf]; omega
        · have hA := hs3.ringAll G2 0 rfl y1
          have b1 := hs3.cell 1 rfl (o := 1) rfl
          rw [hone rfl] at hA
          clear hone hs3
          go_wp2_with fail
          refine hA.mono ?_
          rintro e w4 ⟨v4, rfl, hs4⟩
          clear hA b1
          replace hs4 : Stage (fun _ => False) w [Ob.ring p m S2, Ob.box bX #[.int .i64 1, .int .i64 y1, .int .i64 z1] 42, Ob.ints v4 [y1]] w4 := hs4
          obtain ⟨a4, c4, rfl, _, _⟩ := hs4.intsForm 2 rfl
          go_wp2_with fail
          go_roundw
          case rel => exact ⟨k + 1, _, by omega, by go_num, G2, hs4.take 1⟩
          case measure => simp [intOf]; omega
      have h1' : (x1 == 1) = false := by simpa using h1
      have hP := hs1.call 0 rfl (fun _ ho => rg_splice G.back y1 z1 ho)
      have G2 := G.splice y1 z1
      generalize spliceS m S y1 z1 = S2 at *
      clear hs1 G
      go_wp2_with fail
      try rw [hw1]
      clear hw1 q0 q1 q2
      generalize wr.heap.size = bX at *
      refine hP.mono ?_
      rintro e w3 ⟨rfl, hs3⟩
      replace hs3 : Stage (fun _ => False) w [Ob.ring p m S2] w3 := hs3.take 1
      clear hP b0 b1 b2
      go_wp2_with fail
      go_roundw
      case rel => exact ⟨k + 1, _, by omega, by go_num, G2, hs3⟩
      case measure => simp [intOf]; omega
    · have hki : ¬ (k : Int) < n0 := by omega
      have hk' : k = n0 := by omega
      clear hact hk hlt
      clear hk'
      go_wp2_with fail
      go_loopw [10] (fun i wr => ∃ j : Nat, j ≤ m ∧ i = .int .i64 j ∧ Stage (fun _ => False) w [Ob.ring p m S] wr) (fun i _ => m - (intOf i).toNat)
      case atStart => exact ⟨0, Nat.zero_le _, rfl, hs⟩
      case round =>
        clear hs
        obtain ⟨j, hj, rfl, hs⟩ := hrel
        by_cases hjm : j < m
        · have hji : (j : Int) < m := by omega
          obtain ⟨g1, g2, g3, g4, g5, g6, g7, g8⟩ := ring_parts G (x := (j : Int)) ⟨by omega, hji⟩
          have hNx := hs.ask 0 rfl (fun _ ho => rg_next (j : Int) ho)
          have hPv := hs.ask 0 rfl (fun _ ho => rg_prev (S.f j) ho)
          have hA := hs.ringAll G 0 rfl j
          have hAy := fun v y (wx : World) (h : Stage (fun _ => False) w [Ob.ring p m S, Ob.ints v (allR S.R j)] wx) => h.ringAll G 0 rfl y
          rw [g1, g3] at hNx
          rw [g2, g4] at hPv
          clear g1 g2 g3 g4 hs
          generalize allR S.R j = l at *
          generalize S.f j = fj at *
          go_wp2_with fail
          refine hNx.mono ?_
          rintro e w3 ⟨rfl, rfl⟩
          go_wp2_with fail
          refine hPv.mono ?_
          rintro e w3 ⟨rfl, rfl⟩
          clear hNx hPv
          go_wp2_with fail
          refine hA.mono ?_
          rintro e w4 ⟨v4, rfl, hs4⟩
          clear hA
          replace hs4 : Stage (fun _ => False) w [Ob.ring p m S, Ob.ints v4 l] w4 := hs4
          obtain ⟨g, c, rfl, hc1, hc2, _⟩ := hs4.intsAt 1 rfl (by omega)
          have z1 : ¬ ((l.length : Int) < 1) := by omega
          have z2 : ¬ ((m : Int) < l.length) := by omega
          go_wp2_with fail
          generalize decide (m < l.length) = B9
          clear z1 z2
          go_loopw [116] (fun i wr => ∃ k : Nat, k ≤ l.length ∧ i = .int .i64 k ∧ Stage (fun _ => False) w [Ob.ring p m S, Ob.ints (.slice (some ⟨g, 0, none⟩) l.length c) l] wr) (fun i _ => l.length - (intOf i).toNat)
          case atStart => exact ⟨0, Nat.zero_le _, rfl, hs4⟩
          case round =>
            clear hs4
            obtain ⟨k, hk, rfl, hs⟩ := hrel
            by_cases hkl : k < l.length
            · have hki : (k : Int) < l.length := by omega
              have hkc : (k : Int) ≤ c := by omega
              have hIn := hs.intsAtI 1 rfl
              obtain ⟨_, o, e9, u0⟩ := hIn k hkl
              cases e9
              rw [Nat.zero_add] at u0
              replace hAy := hAy _ (l.getD k 0) _ hs
              have hAl := g8 k hkl
              have hne := fun i (hi : i < k) => g7 i k hi hkl
              clear hs g7 g8
              generalize l.getD k 0 = y at *
              generalize allR S.R y = ly at *
              go_wp2_with fail
              go_loopw [125] (fun i wx => ∃ q : Nat, q ≤ k ∧ i = .int .i64 q ∧ wx = wr) (fun i _ => k - (intOf i).toNat)
              case atStart => exact ⟨0, Nat.zero_le _, rfl, rfl⟩
              case round =>
                clear u0
                obtain ⟨q, hq, rfl, rfl⟩ := hrel
                by_cases hqk : q < k
                · have hqi : (q : Int) < k := by omega
                  obtain ⟨_, _, e9, u1⟩ := hIn q (by omega)
                  cases e9
                  rw [Nat.zero_add] at u1
                  replace hne := hne q hqk
                  clear hIn hAy hAl
                  generalize l.getD q 0 = z at *
                  go_wp2_with fail
                  go_roundw
                  case rel => exact ⟨q + 1, by omega, by go_num, trivial⟩
                  case measure => simp [intOf]; omega
                · have hqi : ¬ (q : Int) < k := by omega
                  obtain rfl : k = q := by omega
                  clear hne hIn
                  go_wp2_with fail
                  refine hAy.mono ?_
                  rintro e w5 ⟨v5, rfl, hs5⟩
                  clear hAy
                  replace hs5 : Stage (fun _ => False) w [Ob.ring p m S, Ob.ints (.slice (some ⟨g, 0, none⟩) l.length c) l, Ob.ints v5 ly] w5 := hs5
                  obtain ⟨a5, c5, rfl, _, _⟩ := hs5.intsForm 2 rfl
                  go_wp2_with fail
                  go_roundw
                  case rel => exact ⟨k + 1, by omega, by go_num, hs5.take 2⟩
                  case measure => simp [intOf]; omega
            · have hki : ¬ (k : Int) < l.length := by omega
              clear hAy g7 g8
              go_wp2_with fail
              go_roundw
              case rel => exact ⟨j + 1, by omega, by go_num, hs.take 1⟩
              case measure => simp [intOf]; omega
        · have hji : ¬ (j : Int) < m := by omega
          go_wp2_with fail
          go_ret
          exact ⟨rfl, hs.below⟩
end Go.Proofs.Ytfngooaobjafjaa
