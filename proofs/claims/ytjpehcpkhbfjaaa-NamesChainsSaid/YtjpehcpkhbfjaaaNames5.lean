/- NamesChains, walked: the call returns true, in every memory; of what was in memory nothing is changed. -/
import Derived.Test.YtjpehcpkhbfjaaaNames4
import Derived.Test.YtjpehcpkhbfjaaaNamesChainMath
namespace Go.Proofs.Ytjpehcpkhbfjaaa
open Go.RowKit Go.Sort

set_option maxHeartbeats 2000000 in
theorem chains_walk (m : Nat) (up : Bool) (hm : m ≤ 255) (w : World) : Calls Try.prog 6 #[.int .u8 m, .bool up] w fun e w' => e = .returned (.bool true) ∧ Below w.heap.size w w' := by
  go_enter Try.func6, Try.ntmps6
  go_wp2_with fail
  refine (alive_any w).mono ?_
  rintro e w1 ⟨rfl, hb⟩
  go_wp2_with fail
  obtain ⟨k, hk⟩ : ∃ k : Nat, (1 + (m : Int)) = k := ⟨m + 1, by omega⟩
  rw [hk]
  have hk1 : 1 ≤ k := by omega
  have hk2 : k ≤ 256 := by omega
  clear hk
  refine (new_nm w1.heap.size k w1 (by omega) (Nat.le_refl _)).mono ?_
  rintro e w2 ⟨rfl, F, h, hF, hb2⟩
  rw [fresh_new] at h
  generalize w1.heap.size + 1 = p at *
  clear hF
  go_wp2_with fail
  go_loopw [8] (fun i wr => ∃ (j : Nat) (F : Nat → Prop), j ≤ k ∧ i = .int .i64 j ∧ NR wr w1.heap.size p F (freshN k j) ∧ Below w1.heap.size w1 wr) (fun i _ => k - (intOf i).toNat)
  case atStart => exact ⟨0, F, by omega, rfl, h, hb2⟩
  case round =>
    clear h hb2 F
    obtain ⟨j, F, hj, rfl, h, hbr⟩ := hrel
    by_cases hlt : j < k
    · have hji : (j : Int) < k := by omega
      obtain ⟨e1, e2, e3⟩ := fresh_make hlt
      have hmk := make_nm h
      rw [e1, e2, e3] at hmk
      clear e1 e2 e3
      go_wp2_with fail
      refine hmk.mono ?_
      rintro e w3 ⟨rfl, F2, h2, m2⟩
      have hb3 := below_moved hbr m2 h.lt
      clear hmk m2 h hbr
      go_wp2_with fail
      go_roundw
      case rel => exact ⟨j + 1, F2, by omega, by go_num, h2, hb3⟩
      case measure => simp [intOf]; omega
    · have hji : ¬ (j : Int) < k := by omega
      obtain rfl : j = k := by omega
      have hst : freshN j j = chainN up j 1 := chain_start up j hk1
      rw [hst] at h
      clear hst hji
      go_wp2_with fail
      obtain ⟨wo, hwo⟩ : ∃ wo : World, wo = wr := ⟨_, rfl⟩
      go_loopw [9] (fun i wr => ∃ (i' : Nat) (F : Nat → Prop), (1 ≤ i' ∧ i' ≤ j) ∧ i = .int .i64 i' ∧ NR wr w1.heap.size p F (chainN up j i') ∧ Below w1.heap.size w1 wr) (fun i _ => j - (intOf i).toNat)
      case atStart => exact ⟨1, F, ⟨Nat.le_refl _, hk1⟩, rfl, h, hbr⟩
      case round =>
        clear h hbr F
        obtain ⟨i, F, ⟨hi1, hi2⟩, rfl, h, hbr⟩ := hrel
        by_cases hlt2 : i < j
        · have hji : (i : Int) < j := by omega
          cases up
          · have hst := chain_join false j i (j - i) (j - i + 1) ⟨hi1, hlt2⟩ (by simp; omega)
            have hjn := join_nm ((j - i : Nat) : Int) ((j - i + 1 : Nat) : Int) h
            rw [hst.1, hst.2, show ((j - i + 1 : Nat) : Int) = (j : Int) - i + 1 by omega, show ((j - i : Nat) : Int) = (j : Int) - i by omega] at hjn
            clear hst
            go_wp2_with fail
            refine hjn.mono ?_
            rintro e w3 ⟨rfl, F2, h2, m2⟩
            have hb3 := below_moved hbr m2 h.lt
            clear hjn m2 h hbr
            go_wp2_with fail
            go_roundw
            case rel => exact ⟨i + 1, F2, ⟨by omega, by omega⟩, by go_num, h2, hb3⟩
            case measure => simp [intOf]; omega
          · have hst := chain_join true j i (i + 1) i ⟨hi1, hlt2⟩ (by simp)
            have hjn := join_nm ((i + 1 : Nat) : Int) (i : Int) h
            rw [hst.1, hst.2, show ((i + 1 : Nat) : Int) = (i : Int) + 1 by omega] at hjn
            clear hst
            go_wp2_with fail
            refine hjn.mono ?_
            rintro e w3 ⟨rfl, F2, h2, m2⟩
            have hb3 := below_moved hbr m2 h.lt
            clear hjn m2 h hbr
            go_wp2_with fail
            go_roundw
            case rel => exact ⟨i + 1, F2, ⟨by omega, by omega⟩, by go_num, h2, hb3⟩
            case measure => simp [intOf]; omega
        · have hji : ¬ (i : Int) < j := by omega
          obtain rfl : i = j := by omega
          clear hji hi2 hlt2
          have hend : ∀ x : Nat, 1 ≤ x → x ≤ i → madeB (chainN up i i) x = true ∧ rootI (chainN up i i) x = if up then (i : Int) else 1 := fun x h1 h2 => chain_end up i x h1 h2
          have hfull := chain_full up i i
          have hcnt : (chainN up i i).count = 1 := by simp only [chainN]; omega
          have hlen := chain_len up i i
          generalize chainN up i i = N at *
          cases up
          all_goals
            simp only [Bool.false_eq_true, if_false, if_true] at hend
            go_wp2_with fail
            obtain ⟨wo2, hwo2⟩ : ∃ wo2 : World, wo2 = wr := ⟨_, rfl⟩
            go_loopw [11] (fun v wr => ∃ (x : Nat) (F : Nat → Prop), (1 ≤ x ∧ x ≤ i + 1) ∧ v = .int .i64 x ∧ NR wr w1.heap.size p F N ∧ Below w1.heap.size w1 wr) (fun v _ => i + 1 - (intOf v).toNat)
            case atStart => exact ⟨1, F, ⟨Nat.le_refl _, by omega⟩, rfl, h, hbr⟩
            case round =>
              clear h hbr F
              obtain ⟨x, F, ⟨hx1, hx2⟩, rfl, h, hbr⟩ := hrel
              by_cases hlx : x ≤ i
              · have hxi : (x : Int) ≤ i := by omega
                obtain ⟨e1, e2⟩ := hend x hx1 hlx
                have hrt := root_nm (x : Int) h
                rw [e1, e2] at hrt
                clear e1 e2
                go_wp2_with fail
                refine hrt.mono ?_
                rintro e w3 ⟨rfl, F2, h2, m2⟩
                have hb3 := below_moved hbr m2 h.lt
                clear hrt m2 h hbr
                go_wp2_with fail
                go_roundw
                case rel => exact ⟨x + 1, F2, ⟨by omega, by omega⟩, by go_num, h2, hb3⟩
                case measure => simp [intOf]; omega
              · have hxi : ¬ (x : Int) ≤ i := by omega
                have hmk := make_nm h
                rw [hfull.1, hfull.2.1, hfull.2.2] at hmk
                go_wp2_with fail
                refine hmk.mono ?_
                rintro e w3 ⟨rfl, F2, h2, m2⟩
                have hb3 := below_moved hbr m2 h.lt
                clear hmk m2 h hbr
                go_wp2_with fail
                refine (count_nm h2).mono ?_
                rintro e w4 ⟨rfl, rfl⟩
                rw [hcnt]
                go_wp2_with fail
                refine (last_nm h2).mono ?_
                rintro e w4 ⟨rfl, rfl⟩
                rw [hlen, show (((i + 1 : Nat) : Int) - 1) = i by omega]
                go_wp2_with fail
                go_ret
                exact ⟨rfl, below_chain hb hb3⟩
end Go.Proofs.Ytjpehcpkhbfjaaa
