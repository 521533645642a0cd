/- Kinds, the program's and the document's: what they answer lies in new memory and holds all kinds in order. -/
import Derived.Test.YtfaefolmodkbpaaGaugeCount
namespace Go.Proofs.Ytfaefolmodkbpaa
open Go.RowKit Go.Sort

def kindOf (k d : Nat) : List (Int × Int) := if checkI k d = 0 then [((k : Int), (d : Int))] else []
def kindsIn (k d : Nat) : List (Int × Int) := (List.range d).flatMap (kindOf k)
def kindsTo (k : Nat) : List (Int × Int) := (List.range k).flatMap fun j => kindsIn j 17
def cellsP (l : List (Int × Int)) : List Value := l.flatMap fun p => [.int .i64 p.1, .int .i64 p.2]
theorem kindsIn_succ (k d : Nat) : kindsIn k (d + 1) = kindsIn k d ++ kindOf k d := by simp [kindsIn, List.range_succ]
theorem kindsTo_succ (k : Nat) : kindsTo (k + 1) = kindsTo k ++ kindsIn k 17 := by simp [kindsTo, List.range_succ]
theorem cellsP_append (a b : List (Int × Int)) : cellsP (a ++ b) = cellsP a ++ cellsP b := by simp [cellsP]
def kindsDoc : List (Int × Int) := [(1, 0)] ++ (List.range 15).map (fun j : Nat => ((2 : Int), (j : Int) + 2)) ++ (List.range 6).map (fun j : Nat => ((j : Int) + 3, (0 : Int)))
theorem kinds_doc : kindsTo 9 = kindsDoc := by decide +kernel

def KindsPost (w : World) (e : Ending) (w' : World) : Prop := ∃ v, e = .returned v ∧ w'.ownsRow w.heap.size 25 2 v 22 (cellsP kindsDoc) ∧ Below w.heap.size w w'
theorem info_cfg : (Try.prog.info? 25).map (fun i => (i.zero, i.size, i.bytes)) = some (some (.agg #[.int .i64 0, .int .i64 0]), 2, 16) := by kernel_rfl

set_option maxHeartbeats 2000000 in
theorem kinds_any (w : World) : Calls Try.prog 8 #[] w (KindsPost w) := by
  obtain ⟨i0, hi, hz0, hz1, hz2⟩ := info_parts info_cfg
  go_enter Try.func8, Try.ntmps8
  go_wp2
  go_loopw [1, 5] (fun v i wr => ∃ k n : Nat, k ≤ 9 ∧ i = .int .i64 k ∧ n ≤ 17 * k ∧ wr.ownsRow w.heap.size 25 2 v n (cellsP (kindsTo k)) ∧ Below w.heap.size w wr) (fun _ i _ => 9 - (intOf i).toNat)
  case atStart => exact ⟨0, 0, Nat.zero_le _, rfl, Nat.zero_le _, World.ownsRow_nil _ _ _ _, Below.refl _ _⟩
  case round =>
    obtain ⟨k, n, hk, rfl, hn, hown, hb⟩ := hrel
    by_cases hlt : k < 9
    · obtain ⟨wo, rfl⟩ : ∃ wo : World, wo = wr := ⟨_, rfl⟩
      have hki : (k : Int) < 9 := by omega
      go_wp2
      go_loopw [1, 8] (fun v i wr => ∃ d n : Nat, d ≤ 17 ∧ i = .int .i64 d ∧ n ≤ 17 * k + d ∧ wr.ownsRow w.heap.size 25 2 v n (cellsP (kindsTo k) ++ cellsP (kindsIn k d)) ∧ Below w.heap.size w wr) (fun _ i _ => 17 - (intOf i).toNat)
      case atStart => exact ⟨0, n, Nat.zero_le _, rfl, by omega, by simpa [cellsP, kindsIn] using hown, hb⟩
      case round =>
        obtain ⟨d, m, hd, rfl, hm, hown2, hb2⟩ := hrel
        clear hown hb
        by_cases hld : d < 17
        · go_wp2_with fail
          refine (check_any _ _ _).mono ?_
          rintro e w1 ⟨rfl, hb3⟩
          obtain ⟨c0, c1⟩ := box2 hb3
          have hb4 := below_alloc1 hb3
          have hownA := owns_later hown2 hb4
          have hk1 := kindsIn_succ k d
          have hlen := hb4.size
          by_cases hc : checkI k d = 0
          · have HK : Hid (kindsIn k (d + 1) = kindsIn k d ++ [((k : Int), (d : Int))]) := by rw [hk1, kindOf, if_pos hc]; exact Lib.hid rfl
            rw [hc]
            clear hk1 hc
            go_wp2_with (at_builtin; refine wpList_append_own _ rfl _ _ 22 rfl w.heap.size 25 i0 (.agg #[.int .i64 0, .int .i64 0]) 2 16 Try.underlying22 hi hz0 hz1 hz2 rfl (by decide) _ _ _ rfl (hownA.alloc _) ⟨w1.heap.size, 0, none⟩ 1 1 [.int .i64 k, .int .i64 d] rfl rfl ?c1 ?c2 ?c3 ?c4 ?c5 ?_)
            case c1 => exact new_cells w1 #[.int .i64 k, .int .i64 d] _ _ rfl
            case c2 => intro u hu; simp at hu; rcases hu with rfl | rfl <;> rfl
            case c3 => unfold maxLen; omega
            case c4 => omega
            case c5 => have := hb2.size; simp; omega
            intro v' w2 hown3 hgrow _
            have hb5 : Below w.heap.size w w2 := (((hb2.trans (hb4.mono hb2.size)).alloc (by have := hb2.size; omega) _).grown hgrow (by have := hb2.size; simp; omega) (fun j hj => (hownA.lt j hj).1))
            clear hgrow hownA hown2 hb4 hb3 hb2
            go_wp2
            go_roundw
            case rel => exact ⟨d + 1, m + 1, by omega, by go_num, by omega, by rw [HK.out, cellsP_append]; exact hown3, hb5⟩
            case measure => simp [intOf]; omega
          · have HK : Hid (kindsIn k (d + 1) = kindsIn k d) := by rw [hk1, kindOf, if_neg hc, List.append_nil]; exact Lib.hid rfl
            have hc' : (checkI k d == 0) = false := by simpa using hc
            have hb5 : Below w.heap.size w w1 := hb2.trans (hb4.mono hb2.size)
            clear hk1 hc hown2 hb4 hb3 hb2
            go_wp2
            go_roundw
            case rel => exact ⟨d + 1, m, by omega, by go_num, by omega, by rw [HK.out]; exact hownA, hb5⟩
            case measure => simp [intOf]; omega
        · have HK : Hid (kindsTo (k + 1) = kindsTo k ++ kindsIn k 17) := Lib.hid (kindsTo_succ k)
          obtain rfl : d = 17 := by omega
          go_wp2
          go_roundw
          case rel => exact ⟨k + 1, m, by omega, by go_num, by omega, by rw [HK.out, cellsP_append]; exact hown2, hb2⟩
          case measure => simp [intOf]; omega
    · obtain rfl : k = 9 := by omega
      have hn' : n = 22 := by
        have h := hown.1
        rw [kinds_doc] at h
        have : (cellsP kindsDoc).length = 44 := by decide +kernel
        omega
      subst hn'
      rw [kinds_doc] at hown
      go_wp2
      go_ret
      exact ⟨_, rfl, hown, hb⟩

def docTo (j : Nat) : List (Int × Int) := [(1, 0)] ++ (List.range j).map (fun j : Nat => ((2 : Int), (j : Int) + 2))
def docOn (j : Nat) : List (Int × Int) := docTo 15 ++ (List.range j).map (fun j : Nat => ((j : Int) + 3, (0 : Int)))
theorem docTo_succ (j : Nat) : docTo (j + 1) = docTo j ++ [((2 : Int), (j : Int) + 2)] := by simp [docTo, List.range_succ]
theorem docOn_succ (j : Nat) : docOn (j + 1) = docOn j ++ [((j : Int) + 3, (0 : Int))] := by simp [docOn, List.range_succ]

set_option maxHeartbeats 2000000 in
theorem refKinds_any (w : World) : Calls Try.prog 9 #[] w (KindsPost w) := by
  obtain ⟨i0, hi, hz0, hz1, hz2⟩ := info_parts info_cfg
  go_enter Try.func9, Try.ntmps9
  go_wp2
  have hown0 : (w.alloc (.cells #[.int .i64 1, .int .i64 0] 25)).ownsRow w.heap.size 25 2 (.slice (some ⟨w.heap.size, 0, none⟩) 1 1) 1 (cellsP (docTo 0)) := owns_new (Nat.le_refl _) rfl (by decide)
  go_loopw [1, 2] (fun v i wr => ∃ j : Nat, j ≤ 15 ∧ i = .int .i64 ((j : Int) + 2) ∧ wr.ownsRow w.heap.size 25 2 v (1 + j) (cellsP (docTo j)) ∧ Below w.heap.size w wr) (fun _ i _ => 17 - (intOf i).toNat)
  case atStart => exact ⟨0, Nat.zero_le _, rfl, hown0, (Below.refl _ _).alloc (Nat.le_refl _) _⟩
  case round =>
    obtain ⟨j, hj, rfl, hown, hb⟩ := hrel
    clear hown0
    by_cases hlt : j < 15
    · have hji : (j : Int) + 2 ≤ 16 := by omega
      have HK := Lib.hid (docTo_succ j)
      go_wp2_with (at_builtin; refine wpList_append_own _ rfl _ _ 22 rfl w.heap.size 25 i0 (.agg #[.int .i64 0, .int .i64 0]) 2 16 Try.underlying22 hi hz0 hz1 hz2 rfl (by decide) _ _ _ rfl (hown.alloc _) ⟨wr.heap.size, 0, none⟩ 1 1 [.int .i64 2, .int .i64 ((j : Int) + 2)] rfl rfl ?c1 ?c2 ?c3 ?c4 ?c5 ?_)
      case c1 => exact new_cells wr #[.int .i64 2, .int .i64 ((j : Int) + 2)] _ _ rfl
      case c2 => intro u hu; simp at hu; rcases hu with rfl | rfl <;> rfl
      case c3 => unfold maxLen; omega
      case c4 => omega
      case c5 => have := hb.size; simp; omega
      intro v' w2 hown3 hgrow _
      have hb5 : Below w.heap.size w w2 := (hb.alloc (by have := hb.size; omega) _).grown hgrow (by have := hb.size; simp; omega) (fun j hj => (hown.lt j hj).1)
      clear hgrow hown hb
      go_wp2
      go_roundw
      case rel => exact ⟨j + 1, by omega, by go_num, by rw [HK.out, cellsP_append, ← Nat.add_assoc]; exact hown3, hb5⟩
      case measure => simp [intOf]; omega
    · have hown' : wr.ownsRow w.heap.size 25 2 u1 16 (cellsP (docTo 15)) := by
        have e : j = 15 := by omega
        rw [e] at hown
        exact hown
      have hji : 16 < (j : Int) + 2 := by omega
      clear hown
      go_wp2
      go_loopw [1, 3] (fun v i wr => ∃ j : Nat, j ≤ 6 ∧ i = .int .i64 ((j : Int) + 3) ∧ wr.ownsRow w.heap.size 25 2 v (16 + j) (cellsP (docOn j)) ∧ Below w.heap.size w wr) (fun _ i _ => 9 - (intOf i).toNat)
      case atStart => exact ⟨0, Nat.zero_le _, rfl, by rw [show docOn 0 = docTo 15 by simp [docOn]]; exact hown', hb⟩
      case round =>
        obtain ⟨j, hj, rfl, hown2, hb2⟩ := hrel
        clear hown' hb
        by_cases hlt2 : j < 6
        · have hji : (j : Int) + 3 ≤ 8 := by omega
          have HK := Lib.hid (docOn_succ j)
          go_wp2_with (at_builtin; refine wpList_append_own _ rfl _ _ 22 rfl w.heap.size 25 i0 (.agg #[.int .i64 0, .int .i64 0]) 2 16 Try.underlying22 hi hz0 hz1 hz2 rfl (by decide) _ _ _ rfl (hown2.alloc _) ⟨wr.heap.size, 0, none⟩ 1 1 [.int .i64 ((j : Int) + 3), .int .i64 0] rfl rfl ?d1 ?d2 ?d3 ?d4 ?d5 ?_)
          case d1 => exact new_cells wr #[.int .i64 ((j : Int) + 3), .int .i64 0] _ _ rfl
          case d2 => intro u hu; simp at hu; rcases hu with rfl | rfl <;> rfl
          case d3 => unfold maxLen; omega
          case d4 => omega
          case d5 => have := hb2.size; simp; omega
          intro v' w2 hown3 hgrow _
          have hb5 : Below w.heap.size w w2 := (hb2.alloc (by have := hb2.size; omega) _).grown hgrow (by have := hb2.size; simp; omega) (fun j hj => (hown2.lt j hj).1)
          clear hgrow hown2 hb2
          go_wp2
          go_roundw
          case rel => exact ⟨j + 1, by omega, by go_num, by rw [HK.out, cellsP_append, ← Nat.add_assoc]; exact hown3, hb5⟩
          case measure => simp [intOf]; omega
        · obtain rfl : j = 6 := by omega
          go_wp2
          go_ret
          exact ⟨_, rfl, hown2, hb2⟩
end Go.Proofs.Ytfaefolmodkbpaa
