/- The document's Digits and Text return an entry's decimal text, for every entry; of what was in memory nothing is changed. -/
import Derived.Test.YtokfecbjkngpgaaDoorEntryText
import Derived.LoopTactic
namespace Go.Proofs.YtokfecbjkngpgaaDoor
open Go.RowKit Go.Sort Go.Lib

/-- A slice of one new byte, as a string. -/
theorem conv1 (w : World) (z : Int) (c : UInt8) (hz : z = (c.toNat : Int)) :
    (convert 33 9 (.slice (some ⟨w.heap.size, 0, none⟩) 1 1)).run Tryd.prog (w.alloc (.cells #[.int .u8 z] 5)) = .ok (.string ⟨#[c]⟩) (w.alloc (.cells #[.int .u8 z] 5)) := by
  subst hz
  exact run_convert_bytes_back (P := Tryd.prog) (w.alloc (.cells #[.int .u8 (c.toNat : Int)] 5)) 33 9 5 ⟨w.heap.size, 0, none⟩ 1 [c] Tryd.underlying33 Tryd.underlying5 Tryd.underlying9 (fun j hj => by
    have hj0 : j = 0 := by simpa using hj
    subst hj0
    rw [Lib.add_plain, World.cell?_alloc_new]
    simp)

theorem decDigits_big {u : Nat} (h : 9 < u) : Lib.decDigits u = Lib.decDigits (u / 10) ++ [UInt8.ofNat (48 + u % 10)] := by rw [Lib.decDigits, dif_neg (by omega)]
theorem decDigits_small {u : Nat} (h : ¬ 9 < u) : Lib.decDigits u = [UInt8.ofNat (48 + u)] := by rw [Lib.decDigits, dif_pos (by omega)]
theorem decDigits_len (u : Nat) (h : u < 18446744073709551616) : (Lib.decDigits u).length ≤ 20 := by rw [Lib.decDigits_length]; exact Lib.nDigits_le20 u h

def UnsRel (w : World) (u0 : Nat) (n s : Value) (wr : World) : Prop := ∃ (u : Nat) (t : ByteArray), n = .int .u64 u ∧ s = .string t ∧ Hid (Lib.decDigits u0 = Lib.decDigits u ++ t.data.toList) ∧ u ≤ u0 ∧ Below w.heap.size w wr

set_option maxHeartbeats 1000000 in
set_option maxRecDepth 100000 in
theorem unsigned_any (u0 : Nat) (hu : u0 < 18446744073709551616) (w : World) :
    Calls Tryd.prog 31 #[.int .u64 u0] w fun e w' => e = .returned (.string ⟨(Lib.decDigits u0).toArray⟩) ∧ Below w.heap.size w w' := by
  go_enter Tryd.func31, Tryd.ntmps31
  go_wp2
  go_loopw [0, 3] (fun n s wr => UnsRel w u0 n s wr) (fun n _ _ => (RowKit.intOf n).toNat)
  case atStart => exact ⟨u0, ⟨#[]⟩, rfl, rfl, by simp [Hid], Nat.le_refl _, Below.refl _ _⟩
  case round =>
    obtain ⟨u, t, rfl, rfl, HD, hle, hb⟩ := hrel
    have hl : t.size ≤ 20 := by
      have h1 := decDigits_len u0 hu
      rw [HD.out, List.length_append] at h1
      exact Nat.le_trans (Nat.le_add_left _ _) h1
    have n1 : ¬ 9223372036854775807 < 1 + t.size := by omega
    by_cases h9 : 9 < u
    · have h9' : (9 : Int) < (u : Int) := by omega
      obtain ⟨c, hc⟩ : ∃ c : UInt8, c = UInt8.ofNat (48 + u % 10) := ⟨_, rfl⟩
      have hcv := conv1 wr (48 + (u : Int) % 10) c (by rw [hc, UInt8.toNat_ofNat']; omega)
      have HC := Lib.hid hc
      clear hc
      go_wp2
      go_roundw
      case rel => exact ⟨u / 10, ⟨#[c]⟩ ++ t, by go_num, rfl, by
        have h2 := HD.out
        rw [decDigits_big h9, ← HC.out] at h2
        show Lib.decDigits u0 = _
        rw [h2]
        simp, by omega, hb.alloc hb.size _⟩
      case measure => simp [RowKit.intOf]; omega
    · have h9' : ¬ (9 : Int) < (u : Int) := by omega
      obtain ⟨c, hc⟩ : ∃ c : UInt8, c = UInt8.ofNat (48 + u) := ⟨_, rfl⟩
      have hcv := conv1 wr (48 + (u : Int)) c (by rw [hc, UInt8.toNat_ofNat']; omega)
      have HC := Lib.hid hc
      clear hc
      go_wp2
      go_ret
      refine ⟨?_, hb.alloc hb.size _⟩
      have h2 := HD.out
      rw [decDigits_small h9, ← HC.out] at h2
      rw [h2]
      show Ending.returned (.string (⟨#[c]⟩ ++ t)) = _
      congr 2

/-- The same at a number that is written as an integer's expression, and a text that has a name. -/
theorem unsigned_int (z : Int) (u : Nat) (A : ByteArray) (hz : z = (u : Int)) (hu : u < 18446744073709551616) (hA : Hid (A = ⟨(Lib.decDigits u).toArray⟩)) (w : World) :
    Calls Tryd.prog 31 #[.int .u64 z] w fun e w' => e = .returned (.string A) ∧ Below w.heap.size w w' := by
  rw [hz, hA.out]
  exact unsigned_any u hu w

set_option maxHeartbeats 1000000 in
set_option maxRecDepth 100000 in
theorem refDigits_pos (m : Nat) (h1 : m ≤ 9223372036854775807) (w : World) :
    Calls Tryd.prog 33 #[.int .i64 m] w fun e w' => e = .returned (.string ⟨(Lib.itoa m).toArray⟩) ∧ Below w.heap.size w w' := by
  have h0 : (0 : Int) ≤ (m : Int) := by omega
  have h2 : (m : Int) ≤ 9223372036854775807 := by omega
  go_enter Tryd.func33, Tryd.ntmps33
  go_wp2_with fail
  refine (unsigned_any m (by omega) _).mono ?_
  rintro e w1 ⟨rfl, hb⟩
  go_wp2_with fail
  go_ret
  exact ⟨by rw [Lib.itoa_nonneg]; rfl, hb⟩

set_option maxHeartbeats 1000000 in
set_option maxRecDepth 100000 in
theorem refDigits_neg (m : Nat) (h0 : 1 ≤ m) (h1 : m ≤ 9223372036854775808) (w : World) :
    Calls Tryd.prog 33 #[.int .i64 (-(m : Int))] w fun e w' => e = .returned (.string ⟨(Lib.itoa (-(m : Int))).toArray⟩) ∧ Below w.heap.size w w' := by
  have h2 : -(m : Int) < 0 := by omega
  have h3 : -9223372036854775808 ≤ -(m : Int) := by omega
  have e1 : (-(m : Int)).tmod 10 = -((m : Int) % 10) := by rw [Int.neg_tmod, Int.tmod_eq_emod_of_nonneg (by omega)]
  have e2 : (-(m : Int)).tdiv 10 = -((m : Int) / 10) := by rw [Int.neg_tdiv, Int.tdiv_eq_ediv_of_nonneg (by omega)]
  have HI := Lib.hid (Lib.itoa_neg m h0)
  have l1 := decDigits_len (m % 10) (by omega)
  have l2 := decDigits_len (m / 10) (by omega)
  by_cases hm : m < 10
  · have h4 : (-10 : Int) < -(m : Int) := by omega
    have HM := Lib.hid (show m % 10 = m by omega)
    obtain ⟨A, hA⟩ : ∃ A : ByteArray, A = ⟨(Lib.decDigits (m % 10)).toArray⟩ := ⟨_, rfl⟩
    have lA : A.size ≤ 20 := by rw [hA]; exact l1
    have HA := Lib.hid hA
    clear hA
    have n1 : ¬ 9223372036854775807 < 1 + A.size := by omega
    go_enter Tryd.func33, Tryd.ntmps33
    go_wp2_with fail
    refine (unsigned_int _ (m % 10) A (by omega) (by omega) HA _).mono ?_
    rintro e w1 ⟨rfl, hb⟩
    go_wp2_with fail
    go_ret
    refine ⟨?_, hb⟩
    rw [HI.out]
    show Ending.returned (.string (⟨#[45]⟩ ++ A)) = _
    rw [HA.out, HM.out]
    congr 2
  · have h4 : -(m : Int) ≤ -10 := by omega
    obtain ⟨A, hA⟩ : ∃ A : ByteArray, A = ⟨(Lib.decDigits (m % 10)).toArray⟩ := ⟨_, rfl⟩
    obtain ⟨B, hB⟩ : ∃ B : ByteArray, B = ⟨(Lib.decDigits (m / 10)).toArray⟩ := ⟨_, rfl⟩
    have lA : A.size ≤ 20 := by rw [hA]; exact l1
    have lB : B.size ≤ 20 := by rw [hB]; exact l2
    have HA := Lib.hid hA
    have HB := Lib.hid hB
    clear hA hB
    have n1 : ¬ 9223372036854775807 < 1 + B.size := by omega
    have n2 : ¬ 9223372036854775807 < 1 + B.size + A.size := by omega
    go_enter Tryd.func33, Tryd.ntmps33
    go_wp2_with fail
    refine (unsigned_int _ (m % 10) A (by omega) (by omega) HA _).mono ?_
    rintro e w1 ⟨rfl, hb⟩
    go_wp2_with fail
    refine (unsigned_int _ (m / 10) B (by omega) (by omega) HB _).mono ?_
    rintro e w2 ⟨rfl, hb2⟩
    go_wp2_with fail
    go_ret
    refine ⟨?_, below_chain hb hb2⟩
    rw [HI.out]
    show Ending.returned (.string (⟨#[45]⟩ ++ B ++ A)) = _
    have hd : Lib.decDigits m = Lib.decDigits (m / 10) ++ Lib.decDigits (m % 10) := by rw [decDigits_big (u := m) (by omega), decDigits_small (u := m % 10) (by omega)]
    rw [HA.out, HB.out, hd]
    congr 2

theorem refDigits_any (n : Int) (h0 : -9223372036854775808 ≤ n) (h1 : n ≤ 9223372036854775807) (w : World) :
    Calls Tryd.prog 33 #[.int .i64 n] w fun e w' => e = .returned (.string ⟨(Lib.itoa n).toArray⟩) ∧ Below w.heap.size w w' := by
  by_cases hn : 0 ≤ n
  · obtain ⟨m, rfl⟩ : ∃ m : Nat, n = m := ⟨n.toNat, by omega⟩
    exact refDigits_pos m (by omega) w
  · obtain ⟨m, rfl⟩ : ∃ m : Nat, n = -(m : Int) := ⟨n.natAbs, by omega⟩
    exact refDigits_neg m (by omega) (by omega) w

end Go.Proofs.YtokfecbjkngpgaaDoor
