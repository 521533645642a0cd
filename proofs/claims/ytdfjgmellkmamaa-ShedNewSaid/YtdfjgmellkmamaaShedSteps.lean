/- Merged of ShedAlive, ShedSteps. -/
import Derived.Test.YtdfjgmellkmamaaNestSorts
import Derived.Test.YtdfjgmellkmamaaNestHalves
namespace Go.Proofs.Ytdfjgmellkmamaa
open Go.RowKit Go.Sort

theorem one_any (w : World) : Calls Try.prog 23 #[.bool true] w fun e w' => e = .returned (.int .i64 1) ∧ w = w' := by
  go_enter Try.func23, Try.ntmps23
  go_wp2
  go_ret
  exact ⟨rfl, rfl⟩
section
variable {W0 w : World} {args : Array Value}
/-- A call that tells 'so', told as 1. -/
theorem runs_one {a b d : Value} (h : Calls Try.prog 24 #[a, b, d] w fun e w' => e = .returned (.bool true) ∧ Below W0.heap.size W0 w') : Calls Try.prog 13 #[a, b, d] w fun e w' => e = .returned (.int .i64 1) ∧ Below W0.heap.size W0 w' := by
  go_enter Try.func13, Try.ntmps13
  go_wp2_with fail
  refine h.mono ?_
  rintro e w1 ⟨rfl, hb⟩
  go_wp2_with fail
  refine (one_any w1).mono ?_
  rintro e w2 ⟨rfl, rfl⟩
  go_wp2_with fail
  go_ret
  exact ⟨rfl, hb⟩
theorem sorts_one {a b : Value} (h : Calls Try.prog 26 #[a, b] w fun e w' => e = .returned (.bool true) ∧ Below W0.heap.size W0 w') : Calls Try.prog 16 #[a, b] w fun e w' => e = .returned (.int .i64 1) ∧ Below W0.heap.size W0 w' := by
  go_enter Try.func16, Try.ntmps16
  go_wp2_with fail
  refine h.mono ?_
  rintro e w1 ⟨rfl, hb⟩
  go_wp2_with fail
  refine (one_any w1).mono ?_
  rintro e w2 ⟨rfl, rfl⟩
  go_wp2_with fail
  go_ret
  exact ⟨rfl, hb⟩
end
/-- The example's nest with so many slots in. -/
def alW (k : Nat) : WS := ⟨[false, true], [if 0 < k then ⟨1, 5, 0⟩ else .off, if 1 < k then ⟨1, 3, 0⟩ else .off, if 2 < k then ⟨1, 4, 0⟩ else .off]⟩
theorem shed_start {W0 w : World} {l : List Ob} (n : Nat) (hn : n ≤ 65536) (hs : Stage (fun _ => False) W0 l w) : Calls Try.prog 9 #[.int .i64 n] w fun e w' => ∃ p c, e = .returned (.tuple #[.pointer (some ⟨p, 0, none⟩), .int .i64 0]) ∧ Stage (fun _ => False) W0 (l ++ [Ob.shed p c (newW n) 0]) w' :=
  (new_sh n hn w).mono fun _ _ ⟨p, c, he, _, h1, h2, h3⟩ => ⟨p, c, he, hs.add h3 h1 h2⟩
theorem shed_no (n : Int) (w : World) (hn : ¬ (0 ≤ n ∧ n ≤ 65536)) : Calls Try.prog 9 #[.int .i64 n] w fun e w' => e = .returned (.tuple #[.pointer none, .int .i64 31]) ∧ w = w' := by
  go_enter Try.func9, Try.ntmps9
  go_wp2_with fail
  refine (new_no n w hn).mono ?_
  rintro e w1 ⟨rfl, rfl⟩
  go_wp2_with fail
  exact bodyPost_ret (v := .tuple #[.pointer none, .int .i64 31]) (by simp [results, Try.results9, go_sem]) rfl ⟨rfl, rfl⟩
set_option maxRecDepth 100000 in
set_option maxHeartbeats 2000000 in
theorem alive_any (w : World) : Calls Try.prog 8 #[] w fun e w' => e = .returned (.bool true) ∧ Below w.heap.size w w' := by
  go_enter Try.func8, Try.ntmps8
  go_wp2_with fail
  refine (shed_start 3 (by omega) (Stage.start w)).mono ?_
  rintro e w1 ⟨p, c, rfl, hs⟩
  have N := shed_nests p c
  have p0 := (hs.get (i := 0) rfl).elim fun _ ho => shed_there ho
  unfold shedH at p0
  have hM : Calls Try.prog 18 #[ptrV c] w1 fun e w' => e = .returned (.int .i64 1) ∧ ∃ s' : Int, (∀ y x, shedR (newW 3) 0 y x 0 s') ∧ Stage (fun _ => False) w [Ob.shed p c (alW 0) s'] w' := hs.callEx 0 rfl (fun _ ho => N.make ho)
  go_wp2_with fail
  refine hM.mono ?_
  rintro e w2 ⟨rfl, s1, _, hs2⟩
  clear hM hs p0
  obtain ⟨w3, hw3, hs3⟩ : ∃ w3, w2.alloc (.cells #[.int .i64 5, .int .i64 3, .int .i64 4] 2) = w3 ∧ Stage (fun _ => False) w [Ob.shed p c (alW 0) s1, Ob.box w2.heap.size #[.int .i64 5, .int .i64 3, .int .i64 4] 2] w3 := ⟨_, rfl, hs2.alloc _ _⟩
  clear hs2
  go_wp2_with fail
  clear hw3
  generalize w2.heap.size = b at *
  have h1i : inInt 1 := ⟨by omega, by omega⟩
  go_loopw [31] (fun i wr => ∃ (k : Nat) (s : Int), i = .int .i64 k ∧ k ≤ 3 ∧ (2 ≤ k → 0 < s) ∧ Stage (fun _ => False) w [Ob.shed p c (alW k) s, Ob.box b #[.int .i64 5, .int .i64 3, .int .i64 4] 2] wr) (fun i _ => 3 - (intOf i).toNat)
  case atStart => exact ⟨0, s1, rfl, by omega, by omega, hs3⟩
  case round =>
    clear hs3
    obtain ⟨k, s, rfl, hk, hpos, hs⟩ := hrel
    have d0 := hs.cell 1 rfl (o := 0) rfl
    have d1 := hs.cell 1 rfl (o := 1) rfl
    have d2 := hs.cell 1 rfl (o := 2) rfl
    have hins : ∀ (k : Nat) (key : Int), (hk : k < 3) → putB (alW k) 1 k = true → putW (alW k) 1 k key 0 = alW (k + 1) → Stage (fun _ => False) w [Ob.shed p c (alW k) s, Ob.box b #[.int .i64 5, .int .i64 3, .int .i64 4] 2] wr → Calls Try.prog 19 #[ptrV p, .int .i64 1, .int .i64 k, .agg #[.int .i64 key, .int .u64 0]] wr fun e w' => e = .returned (.bool true) ∧ ∃ s' : Int, shedR (alW k) 1 1 k s s' ∧ Stage (fun _ => False) w [Ob.shed p c (alW (k + 1)) s', Ob.box b #[.int .i64 5, .int .i64 3, .int .i64 4] 2] w' := fun k key hk e1 e2 hs => by
      have := hs.callEx 0 rfl (fun _ ho => N.ins 1 k key 0 h1i ⟨by omega, by omega⟩ ho)
      rw [e1, e2] at this
      exact this
    have hcase : k = 0 ∨ k = 1 ∨ k = 2 ∨ k = 3 := by omega
    rcases hcase with rfl | rfl | rfl | rfl
    · have hI := hins 0 5 (by omega) rfl rfl hs
      clear hins
      go_wp2_with fail
      refine hI.mono ?_
      rintro e w4 ⟨rfl, s', hR, hs4⟩
      clear hI hs
      go_wp2_with fail
      go_roundw
      case rel => exact ⟨1, s', rfl, by omega, by omega, hs4⟩
      case measure => simp [intOf]
    · have hI := hins 1 3 (by omega) rfl rfl hs
      clear hins
      go_wp2_with fail
      refine hI.mono ?_
      rintro e w4 ⟨rfl, s', hR, hs4⟩
      clear hI hs
      go_wp2_with fail
      go_roundw
      case rel => exact ⟨2, s', rfl, by omega, fun _ => (hR.2.2.1 rfl).2 rfl (by decide), hs4⟩
      case measure => simp [intOf]
    · have hI := hins 2 4 (by omega) rfl rfl hs
      clear hins
      go_wp2_with fail
      refine hI.mono ?_
      rintro e w4 ⟨rfl, s', hR, hs4⟩
      clear hI hs
      have hp := hpos (by omega)
      have hlo := hR.1
      go_wp2_with fail
      go_roundw
      case rel => exact ⟨3, s', rfl, by omega, fun _ => by omega, hs4⟩
      case measure => simp [intOf]
    · have hp := hpos (by omega)
      clear hins hpos d0 d1 d2
      have hext : ∀ (U V : WS) (m : Nat) (w4 : World) (s4 : Int), minI U 1 = m → minB U 1 = true → exW U 1 = V → 0 < s4 → Stage (fun _ => False) w [Ob.shed p c U s4, Ob.box b #[.int .i64 5, .int .i64 3, .int .i64 4] 2] w4 → Calls Try.prog 20 #[ptrV p, .int .i64 1] w4 fun e w' => e = .returned (.tuple #[.int .i64 m, .bool true]) ∧ ∃ s' : Int, 0 < s' ∧ Stage (fun _ => False) w [Ob.shed p c V s', Ob.box b #[.int .i64 5, .int .i64 3, .int .i64 4] 2] w' := fun U V m w4 s4 e1 e2 e3 h0 hs => by
        have := hs.callEx 0 rfl (fun _ ho => N.ext 1 h1i ho)
        rw [e1, e2, e3] at this
        refine this.mono ?_
        rintro e w5 ⟨rfl, s5, hR, hs5⟩
        have := (hR 0).1
        exact ⟨rfl, s5, by omega, hs5⟩
      have hE1 := hext (alW 3) ⟨[false, true], [⟨1, 5, 0⟩, .off, ⟨1, 4, 0⟩]⟩ 1 wr s rfl rfl rfl hp hs
      go_wp2_with fail
      refine hE1.mono ?_
      rintro e w5 ⟨rfl, s5, hp5, hs5⟩
      clear hE1 hs
      have hE2 := hext ⟨[false, true], [⟨1, 5, 0⟩, .off, ⟨1, 4, 0⟩]⟩ ⟨[false, true], [⟨1, 5, 0⟩, .off, .off]⟩ 2 w5 s5 rfl rfl rfl hp5 hs5
      go_wp2_with fail
      refine hE2.mono ?_
      rintro e w6 ⟨rfl, s6, hp6, hs6⟩
      clear hE2 hs5
      have hE3 := hext ⟨[false, true], [⟨1, 5, 0⟩, .off, .off]⟩ ⟨[false, true], [.off, .off, .off]⟩ 0 w6 s6 rfl rfl rfl hp6 hs6
      go_wp2_with fail
      refine hE3.mono ?_
      rintro e w7 ⟨rfl, s7, hp7, hs7⟩
      clear hE3 hs6 hext
      have hS : Calls Try.prog 11 #[ptrV c] w7 fun e w' => e = .returned (.int .i64 s7) ∧ Stage (fun _ => False) w [Ob.shed p c ⟨[false, true], [.off, .off, .off]⟩ s7, Ob.box b #[.int .i64 5, .int .i64 3, .int .i64 4] 2] w' := hs7.askB 0 rfl (fun _ ho => N.steps ho)
      have p0 := (hs7.get (i := 0) rfl).elim fun _ ho => shed_there ho
      unfold shedH at p0
      go_wp2_with fail
      refine hS.mono ?_
      rintro e w8 ⟨rfl, hs8⟩
      go_wp2_with fail
      go_ret
      exact ⟨rfl, hs8.below⟩
end Go.Proofs.Ytdfjgmellkmamaa

namespace Go.Proofs.Ytdfjgmellkmamaa

theorem lt_bits : ∀ m : Nat, m ≤ 9223372036854775807 → m < 2 ^ Lib.bitLen m := by
  intro m
  induction m using Nat.strongRecOn with
  | ind m ih =>
    intro hm
    by_cases h0 : m = 0
    · subst h0; exact Nat.pos_of_ne_zero (by simp)
    · have h1 := bits_half m (by omega) hm
      have h2 := ih (m / 2) (by omega) (by omega)
      rw [h1, Nat.add_comm, Nat.pow_succ]
      omega
/-- How deep a place of n is, against the digits of one more than n. -/
theorem depth_limit (n : Nat) (h : n ≤ 65536) (i : Nat) (hi : i ≤ n) : (4 * (depthI 2 i : Int)) + 8 ≤ limitI 8 0 ((n : Int) + 1) := by
  have hc : callI 8 0 = 4 := by decide
  have hn : nearI ((n : Int) + 1) = ((n + 1 : Nat) : Int) := by unfold nearI; rw [if_neg (by omega), if_neg (by omega)]; omega
  have hb := lt_bits (n + 1) (by omega)
  have hd : depthI 2 i ≤ Lib.bitLen (n + 1) := depth2_le _ i (by rw [Nat.pow_succ]; omega)
  unfold limitI bitsI
  rw [hc, hn, Int.toNat_natCast]
  omega
theorem shed_limit {W : WS} {k y x s s' : Int} (hf : W.Fit) (h : shedR W k y x s s') : id s ≤ id s' ∧ id s' ≤ id s + mostW 8 0 true W k y x := by
  obtain ⟨h0, h1, h2, h3, h4, h5, h6⟩ := h
  have hl : ∀ z, lenW W z ≤ 65536 := fun z => Nat.le_trans (len_le W z) hf.cap
  refine ⟨h0, ?_⟩
  show s' ≤ s + _
  by_cases e6 : k = 6
  · have hb := h5 e6
    have eA : sizeA W k y x = lenW W y := by simp [sizeA, e6]
    have eB : sizeB W k x = lenW W x := by simp [sizeB, e6]
    unfold mostW
    rw [if_pos ⟨e6, rfl⟩, eA, eB]
    by_cases hsm : lenW W y + lenW W x ≤ 65536
    · have hd := depth_limit (lenW W y + lenW W x) hsm _ (Nat.le_refl _)
      rw [Int.natCast_add] at hd
      obtain ⟨l0, _⟩ := limit_range 8 0 ((lenW W y : Int) + lenW W x + 1)
      generalize limitI 8 0 ((lenW W y : Int) + lenW W x + 1) = li at *
      have hm : min (lenW W y : Int) (lenW W x) = (min (lenW W y) (lenW W x) : Nat) := by omega
      rw [hm]
      generalize min (lenW W y) (lenW W x) = mn at *
      generalize depthI 2 (lenW W y + lenW W x) = d at *
      have h7 : (d : Int) ≤ li := by omega
      have h8 : ((mn * d : Nat) : Int) ≤ li * ((mn : Int) + 1) := by
        rw [Int.natCast_mul, Int.mul_comm]
        have h9 := Int.mul_le_mul h7 (show (mn : Int) ≤ (mn : Int) + 1 by omega) (by omega) l0
        exact h9
      omega
    · -- two heaps have no more slots than there are; but if they are one heap
      have hd : ∀ n i : Nat, n ≤ 131072 → i ≤ n → (4 * (depthI 2 i : Int)) + 8 ≤ limitI 8 0 ((n : Int) + 1) := fun n i hn hi => by
        have hc : callI 8 0 = 4 := by decide
        have hn : nearI ((n : Int) + 1) = ((n + 1 : Nat) : Int) := by unfold nearI; rw [if_neg (by omega), if_neg (by omega)]; omega
        have hb := lt_bits (n + 1) (by omega)
        have hd : depthI 2 i ≤ Lib.bitLen (n + 1) := depth2_le _ i (by rw [Nat.pow_succ]; omega)
        unfold limitI bitsI
        rw [hc, hn, Int.toNat_natCast]
        omega
      have hd := hd (lenW W y + lenW W x) _ (by have := hl y; have := hl x; omega) (Nat.le_refl _)
      rw [Int.natCast_add] at hd
      obtain ⟨l0, _⟩ := limit_range 8 0 ((lenW W y : Int) + lenW W x + 1)
      generalize limitI 8 0 ((lenW W y : Int) + lenW W x + 1) = li at *
      have hm : min (lenW W y : Int) (lenW W x) = (min (lenW W y) (lenW W x) : Nat) := by omega
      rw [hm]
      generalize min (lenW W y) (lenW W x) = mn at *
      generalize depthI 2 (lenW W y + lenW W x) = d at *
      have h7 : (d : Int) ≤ li := by omega
      have h8 : ((mn * d : Nat) : Int) ≤ li * ((mn : Int) + 1) := by
        rw [Int.natCast_mul, Int.mul_comm]
        exact Int.mul_le_mul h7 (show (mn : Int) ≤ (mn : Int) + 1 by omega) (by omega) l0
      omega
  · have eB : sizeB W k x = 0 := by simp [sizeB, e6]
    have eM : mostW 8 0 true W k y x = limitI 8 0 ((lenW W (heapOf W k y x) : Int) + 1) := by
      unfold mostW
      rw [if_neg (fun h => e6 h.1), eB]
      simp [sizeA, e6]
    rw [eM]
    obtain ⟨l0, _⟩ := limit_range 8 0 ((lenW W (heapOf W k y x) : Int) + 1)
    by_cases e45 : k = 4 ∨ k = 5
    · obtain ⟨g1, g2⟩ := h4 e45
      cases hin : inW W x
      · rw [g1 hin]; omega
      · have eH : heapOf W k y x = (cellW W x).home := by simp [heapOf, e45, hin]
        rw [eH] at l0 ⊢
        have hd := depth_limit (lenW W (cellW W x).home) (hl _) (lenW W (cellW W x).home - 1) (by omega)
        omega
    · have eH : heapOf W k y x = y := by simp [heapOf, e45]
      rw [eH] at l0 ⊢
      have hd := depth_limit (lenW W y) (hl _) (lenW W y) (Nat.le_refl _)
      have hd2 := depth_limit (lenW W y) (hl _) (lenW W y - 1) (by omega)
      by_cases e1 : k = 1
      · have := (h2 e1).1; omega
      · by_cases e3 : k = 3
        · have := h3 e3; omega
        · by_cases e0 : k = 0 ∨ k = 2
          · rw [h1 e0]; omega
          · rw [h6 (by omega)]; omega
end Go.Proofs.Ytdfjgmellkmamaa
