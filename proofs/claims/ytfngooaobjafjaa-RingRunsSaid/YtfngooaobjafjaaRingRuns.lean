/- RingRuns, walked: whatever is spliced and parted, each answer, and what follows what. -/
import Derived.Test.YtfngooaobjafjaaRingPlay
namespace Go.Proofs.Ytfngooaobjafjaa
open Go.RowKit Go.Sort

theorem seen_step {l : List Int} {i : Nat} (hi : i < l.length) (y : Int) : (l.take (i + 1)).contains y = ((l.take i).contains y || (l.getD i 0 == y)) := by
  have h1 : ∀ z : Int, [z].contains y = (z == y) := fun z => by
    by_cases e : z = y
    · subst e; simp
    · simp [e, Ne.symm e]
  rw [List.take_add_one, List.getElem?_eq_getElem hi, List.getD_eq_getElem?_getD, List.getElem?_eq_getElem hi]
  show (l.take i ++ [l[i]]).contains y = _
  rw [List.contains_append, h1]; rfl
set_option maxRecDepth 100000 in
set_option maxHeartbeats 8000000 in
theorem ringRuns_walk (C : Nat) (hC : C ≤ 255) (a0 : Option Addr) (n0 cap : Nat) (hcap : n0 ≤ cap ∧ cap ≤ 9223372036854775807) (w : World) (hact : RActsAt w a0 n0) :
    Calls Try.prog 4 #[.int .u8 C, .slice a0 n0 cap] w fun e w' => e = .returned (.bool true) ∧ Below w.heap.size w w' := by
  obtain ⟨m, hm⟩ : ∃ m, m = C % 24 := ⟨_, rfl⟩
  have hm24 : m < 24 := by omega
  have q1 : Int.tmod (C : Int) 24 = (m : Int) := by rw [hm]; exact (Int.ofNat_tmod C 24).symm
  clear hm
  have hPl := fun (p : Nat) (wx : World) (h60 : n0 ≤ 60) (h : Stage (fun _ => False) w [Ob.ring p m (newS m)] wx) => play_rg (by omega) a0 n0 cap hcap h60 hact h
  obtain ⟨hcap1, hcap2⟩ := hcap
  clear hact
  go_enter Try.func4, Try.ntmps4
  go_wp2_with fail
  refine (alive_rg _).mono ?_
  rintro e w1 ⟨rfl, hb⟩
  go_wp2_with fail
  refine (((Stage.start w).later hb).newRing m (by omega)).mono ?_
  rintro e w2 ⟨p, rfl, hs⟩
  simp only [List.nil_append] at hs
  by_cases h60 : (60 : Int) < n0
  · go_wp2_with fail
    go_ret
    exact ⟨rfl, hs.below⟩
  replace hPl := hPl p w2 (by omega) hs
  clear hs hb
  go_wp2_with fail
  refine hPl.mono ?_
  rintro e w3 ⟨v, S, rfl, G, hR, hs⟩
  clear hPl hR
  go_wp2_with fail
  go_loopw [10] (fun i wr => ∃ j : Nat, j ≤ m ∧ i = .int .i64 j ∧ Stage (fun _ => False) w [Ob.ring p m S, Ob.docL v S.R] wr) (fun i _ => m - (intOf i).toNat)
  case atStart => exact ⟨0, Nat.zero_le _, rfl, hs⟩
  case round =>
    clear hs
    obtain ⟨j, hj, rfl, hs⟩ := hrel
    by_cases hlt : j < m
    · have hji : (j : Int) < m := by omega
      have hD := hs.docAll G 1 rfl j
      clear hs
      go_wp2_with fail
      refine hD.mono ?_
      rintro e w4 ⟨v4, rfl, hs4⟩
      clear hD
      replace hs4 : Stage (fun _ => False) w [Ob.ring p m S, Ob.docL v S.R, Ob.ints v4 (allR S.R j)] w4 := hs4
      obtain ⟨a4, c4, rfl, hc4, hc4'⟩ := hs4.intsForm 2 rfl
      have hA := hs4.ringAll G 0 rfl j
      clear hs4
      have hSm := fun y (wx : World) (h : Stage (fun _ => False) w [Ob.ring p m S, Ob.docL v S.R, Ob.ints (.slice a4 (allR S.R j).length c4) (allR S.R j)] wx) => h.askB 0 rfl (fun _ ho => rg_same G j y ho)
      have hlen := good_few G j
      generalize allR S.R j = l at *
      go_wp2_with fail
      refine hA.mono ?_
      rintro e w5 ⟨v5, rfl, hs5⟩
      clear hA
      replace hs5 : Stage (fun _ => False) w [Ob.ring p m S, Ob.docL v S.R, Ob.ints (.slice a4 l.length c4) l, Ob.ints v5 l] w5 := hs5
      obtain ⟨a5, c5, rfl, _, _⟩ := hs5.intsForm 3 rfl
      have hE := hs5.sameInts 3 2 rfl rfl
      rw [decide_eq_true rfl] at hE
      go_wp2_with fail
      refine hE.mono ?_
      rintro e w6 ⟨rfl, hb⟩
      have hs6 : Stage (fun _ => False) w [Ob.ring p m S, Ob.docL v S.R, Ob.ints (.slice a4 l.length c4) l] w6 := (hs5.later hb).take 3
      clear hE hb hs5
      go_wp2_with fail
      go_loopw [12] (fun i wr => ∃ k : Nat, k ≤ m ∧ i = .int .i64 k ∧ Stage (fun _ => False) w [Ob.ring p m S, Ob.docL v S.R, Ob.ints (.slice a4 l.length c4) l] wr) (fun i _ => m - (intOf i).toNat)
      case atStart => exact ⟨0, Nat.zero_le _, rfl, hs6⟩
      case round =>
        clear hs6
        obtain ⟨k, hk, rfl, hs⟩ := hrel
        by_cases hkm : k < m
        · have hki : (k : Int) < m := by omega
          have hIn := hs.intsAtI 2 rfl
          have hseen := fun i (hi : i < l.length) => seen_step hi k
          replace hSm := hSm k _ hs
          have hfull : (l.take l.length).contains (k : Int) = l.contains (k : Int) := by rw [List.take_length]
          clear hs
          obtain ⟨T, hT⟩ : ∃ T : Nat → Bool, T = fun i => (l.take i).contains (k : Int) := ⟨_, rfl⟩
          have hT0 : T 0 = false := by rw [hT]; rfl
          have hT1 : ∀ i, i < l.length → T (i + 1) = (T i || (l.getD i 0 == (k : Int))) := fun i hi => by rw [hT]; exact hseen i hi
          have hT2 : l.contains (k : Int) = T l.length := by rw [hT]; exact hfull.symm
          rw [hT2] at hSm
          clear hT hseen hfull hT2
          replace hT0 := Lib.hid hT0
          go_wp2_with fail
          go_loopw [13, 70] (fun s i wx => ∃ q : Nat, q ≤ l.length ∧ i = .int .i64 q ∧ s = .bool (T q) ∧ wx = wr) (fun _ i _ => l.length - (intOf i).toNat)
          case atStart => exact ⟨0, Nat.zero_le _, rfl, by rw [hT0.out], rfl⟩
          case round =>
            clear hT0
            obtain ⟨q, hq, rfl, rfl, rfl⟩ := hrel
            by_cases hql : q < l.length
            · have hqi : (q : Int) < l.length := by omega
              obtain ⟨gb, o, rfl, u0⟩ := hIn q hql
              have hT1q := hT1 q hql
              clear hT1 hIn hSm
              generalize l.getD q 0 = z at *
              generalize T q = B at *
              generalize l.length = nl at *
              cases B
              · by_cases e : z = (k : Int)
                · subst e
                  rw [show (false || ((k : Int) == (k : Int))) = true by simp] at hT1q
                  replace hT1q := Lib.hid hT1q
                  go_wp2_with fail
                  go_roundw
                  case rel => exact ⟨q + 1, by omega, by go_num, by rw [hT1q.out], trivial⟩
                  case measure => simp [intOf]; omega
                · have e' : (z == (k : Int)) = false := by simpa using e
                  rw [e', Bool.or_false] at hT1q
                  clear e
                  replace hT1q := Lib.hid hT1q
                  go_wp2_with fail
                  go_roundw
                  case rel => exact ⟨q + 1, by omega, by go_num, by rw [hT1q.out], trivial⟩
                  case measure => simp [intOf]; omega
              · rw [Bool.true_or] at hT1q
                replace hT1q := Lib.hid hT1q
                go_wp2_with fail
                go_roundw
                case rel => exact ⟨q + 1, by omega, by go_num, by rw [hT1q.out], trivial⟩
                case measure => simp [intOf]; omega
            · have hqi : ¬ (q : Int) < l.length := by omega
              obtain rfl : q = l.length := by omega
              generalize T l.length = B at *
              clear hT1 hIn
              go_wp2_with fail
              refine hSm.mono ?_
              rintro e w7 ⟨rfl, hs7⟩
              clear hSm
              go_wp2_with fail
              go_roundw
              case rel => exact ⟨k + 1, by omega, by go_num, hs7⟩
              case measure => simp [intOf]; omega
        · have hki : ¬ (k : Int) < m := by omega
          clear hSm
          go_wp2_with fail
          go_roundw
          case rel => exact ⟨j + 1, by omega, by go_num, hs.take 2⟩
          case measure => simp [intOf]; omega
    · have hki : ¬ (j : Int) < m := by omega
      go_wp2_with fail
      go_ret
      exact ⟨rfl, hs.below⟩
end Go.Proofs.Ytfngooaobjafjaa
