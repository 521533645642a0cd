/- PqOpens: of any config, capacity and greatest generation whether there can be such a store. -/
import Derived.Test.YtkcicnflcilekaaGreatPqRef
namespace Go.Proofs.YtkcicnflcilekaaGreat
open Go.RowKit Go.Sort

set_option maxRecDepth 100000 in
set_option maxHeartbeats 16000000 in
theorem opens_yes (k d : Int) (n m : Nat) (hk : checkI k d = 0) (hn : n ≤ 65536) (hm : 1 ≤ m ∧ m ≤ 4294967295) (w : World) : Calls Tryz.prog 4 #[.agg #[.int .i64 k, .int .i64 d], .int .i64 n, .int .u32 m] w fun e w' => e = .returned (.bool true) ∧ Below w.heap.size w w' := by
  have hs0 : Stage (fun _ => False) w [Ob.box w.heap.size #[.int .i64 k, .int .i64 d] 27] (w.alloc (.cells #[.int .i64 k, .int .i64 d] 27)) := (Stage.start w).alloc _ _
  generalize hw0 : w.alloc (.cells #[.int .i64 k, .int .i64 d] 27) = w0 at hs0
  have hA := alive_pq w0
  go_enter Tryz.func4, Tryz.ntmps4
  go_wp2_with fail
  refine hA.mono ?_
  rintro e w1 ⟨rfl, hb⟩
  have hs1 := hs0.later hb
  clear hA hs0 hb hw0
  have h0 := hs1.cell 0 rfl (o := 0) rfl
  have h1 := hs1.cell 0 rfl (o := 1) rfl
  have hO := open_pq k d n m hk hn hm w1
  go_wp2_with fail
  refine hO.mono ?_
  rintro e w2 ⟨p, rfl, F', g1, g2, g3⟩
  have hs2 := hs1.add g3 g1 g2
  clear hO hs1 h0 h1 g1 g2 g3
  have h0 := hs2.cell 0 rfl (o := 0) rfl
  have h1 := hs2.cell 0 rfl (o := 1) rfl
  have hR := refopen_pq k d n m hk hn hm.1 w2
  have hmin : ¬ (65537 : Int) < (n : Int) := by omega
  go_wp2_with fail
  refine hR.mono ?_
  rintro e w3 ⟨hv, cv, rfl, hs3⟩
  obtain ⟨_, hN, _⟩ := hs3.get (i := 0) rfl
  obtain ⟨a, l, q, a', l', q', rfl, rfl⟩ := nest_forms hN
  have hs4 := hs2.later hs3.below
  unfold dsL nilS
  clear hR hs2 hs3 h0 h1 hN
  have hs5 := hs4.alloc #[.int .i64 0, .int .u32 0, .slice none 0 0, .slice none 0 0, .slice none 0 0, .slice none 0 0, .int .u64 0] 48
  have b0 := hs5.cell 2 rfl (o := 0) rfl
  have g0 := hs5.free 2 rfl 0
  have b1 := hs5.cell 2 rfl (o := 1) rfl
  have g1 := hs5.free 2 rfl 1
  have b2 := hs5.cell 2 rfl (o := 2) rfl
  have g2 := hs5.free 2 rfl 2
  have b3 := hs5.cell 2 rfl (o := 3) rfl
  have g3 := hs5.free 2 rfl 3
  have b4 := hs5.cell 2 rfl (o := 4) rfl
  have g4 := hs5.free 2 rfl 4
  have b5 := hs5.cell 2 rfl (o := 5) rfl
  have g5 := hs5.free 2 rfl 5
  have b6 := hs5.cell 2 rfl (o := 6) rfl
  have g6 := hs5.free 2 rfl 6
  have hs6 : Stage (fun _ => False) w [Ob.box w.heap.size #[.int .i64 k, .int .i64 d] 27, Ob.store p k d true (openS n m)] (w3.alloc (.cells #[.int .i64 n, .int .u32 m, .slice none 0 0, .slice none 0 0, .slice a l q, .slice a' l' q', .int .u64 0] 48)) := (hs4.alloc _ _).take 2
  clear hs5 hs4
  go_upto_region 5 with fail
  clear b0 g0 b1 g1 b2 g2 b3 g3 b4 g4 b5 g5 b6 g6
  generalize w3.alloc (.cells #[.int .i64 n, .int .u32 m, .slice none 0 0, .slice none 0 0, .slice a l q, .slice a' l' q', .int .u64 0] 48) = w4 at *
  by_cases h2 : (2000 : Int) < (n : Int)
  · have hC : Calls Tryz.prog 17 #[.pointer (some ⟨p, 0, none⟩)] w4 fun e w' => e = .returned (.int .i64 n) ∧ w4 = w' := hs6.ask 1 rfl fun _ ho => capacity_pq ho
    have hB := hs6.below
    clear hs6
    go_wp2_with fail
    refine hC.mono ?_
    rintro e w5 ⟨rfl, rfl⟩
    clear hC
    go_wp2_with fail
    go_ret
    exact ⟨rfl, hB⟩
  · go_upto_region 9 with fail
    have hCf := hs6.drew.askB 1 rfl fun _ ho => config_pq ho
    have hCK : ∀ {V : World}, Stage (fun _ => False) w [Ob.box w.heap.size #[.int .i64 k, .int .i64 d] 27, Ob.store p k d true (openS n m)] V → V.cell? ⟨w.heap.size, 0, none⟩ = some (.int .i64 k) ∧ V.cell? ⟨w.heap.size, 1, none⟩ = some (.int .i64 d) := fun h => ⟨h.cell 0 rfl rfl, h.cell 0 rfl rfl⟩
    have q0 := hCK hs6
    have q1 := hCK hs6.drew
    go_region_held3 (fun w' => w'.cell? ⟨w.heap.size, 0, none⟩ = some (.int .i64 k) ∧ w'.cell? ⟨w.heap.size, 1, none⟩ = some (.int .i64 d)) (with_reducible first | exact q0 | exact q1 | exact pk | exact pk2)
      (first | (((with_reducible refine hCf.mono ?_); rintro e w8 ⟨rfl, hs9⟩; have pk := hCK hs9; have hCa : Calls Tryz.prog 17 #[.pointer (some ⟨p, 0, none⟩)] w8 fun e w' => e = .returned (.int .i64 n) ∧ w8 = w' := hs9.ask 1 rfl fun _ ho => capacity_pq ho; have hLi : Calls Tryz.prog 19 #[.pointer (some ⟨p, 0, none⟩)] w8 fun e w' => e = .returned (.int .i64 0) ∧ w8 = w' := hs9.ask 1 rfl fun _ ho => live_pq ho; have hSt := hs9.askB 1 rfl fun _ ho => steps_pq ho)) | (((with_reducible refine hCa.mono ?_); rintro e w9 ⟨rfl, rfl⟩)) | (((with_reducible refine hLi.mono ?_); rintro e w9 ⟨rfl, rfl⟩)) | (((with_reducible refine hSt.mono ?_); rintro e w9 ⟨rfl, hs10⟩; have pk2 := hCK hs10)) | fail "no arm")
    have hB := hs10.below
    clear pk pk2 q0 q1 hCa hLi hSt hCf hCK hs6 hs9 hs10
    go_wp2_with fail
    go_ret
    exact ⟨rfl, hB⟩
set_option maxRecDepth 100000 in
set_option maxHeartbeats 16000000 in
theorem opens_no (k d n m : Int) (hE : openE k d n m ≠ 0) (w : World) : Calls Tryz.prog 4 #[.agg #[.int .i64 k, .int .i64 d], .int .i64 n, .int .u32 m] w fun e w' => e = .returned (.bool true) ∧ Below w.heap.size w w' := by
  have hs0 : Stage (fun _ => False) w [Ob.box w.heap.size #[.int .i64 k, .int .i64 d] 27] (w.alloc (.cells #[.int .i64 k, .int .i64 d] 27)) := (Stage.start w).alloc _ _
  generalize hw0 : w.alloc (.cells #[.int .i64 k, .int .i64 d] 27) = w0 at hs0
  have hA := alive_pq w0
  obtain ⟨n', hn', hE'⟩ : ∃ n' : Int, Hid ((if (65537 : Int) < n then 65537 else n) = n') ∧ openE k d n' m = openE k d n m := by
    refine ⟨_, Lib.hid rfl, ?_⟩
    by_cases h : (65537 : Int) < n
    · rw [if_pos h]
      unfold openE
      rw [if_neg (show ¬ (0 ≤ n ∧ n ≤ 65536 ∧ m ≠ 0) by omega), if_neg (show ¬ ((0 : Int) ≤ 65537 ∧ (65537 : Int) ≤ 65536 ∧ m ≠ 0) by omega)]
    · rw [if_neg h]
  have hO := open_no k d n m hE
  have hR := refopen_no k d n' m (by rw [hE']; exact hE)
  rw [hE'] at hR
  have hne : (openE k d n m == 0) = false := by simpa using hE
  have hne' : (openE k d n m != 0) = true := by simpa using hE
  generalize openE k d n m = C at *
  clear hE hE'
  go_enter Tryz.func4, Tryz.ntmps4
  go_wp2_with fail
  refine hA.mono ?_
  rintro e w1 ⟨rfl, hb⟩
  have hs1 := hs0.later hb
  clear hA hs0 hb hw0
  have h0 := hs1.cell 0 rfl (o := 0) rfl
  have h1 := hs1.cell 0 rfl (o := 1) rfl
  have hO1 := hO w1
  clear hO
  go_wp2_with fail
  refine hO1.mono ?_
  rintro e w2 ⟨rfl, hb⟩
  have hs2 := hs1.later hb
  clear hO1 hs1 h0 h1 hb
  have h0 := hs2.cell 0 rfl (o := 0) rfl
  have h1 := hs2.cell 0 rfl (o := 1) rfl
  have hR1 := hR w2
  clear hR
  by_cases hmin : (65537 : Int) < n
  · obtain rfl : (65537 : Int) = n' := by rw [← hn'.out, if_pos hmin]
    go_wp2_with fail
    refine hR1.mono ?_
    rintro e w3 ⟨rfl, hb⟩
    have hs3 := hs2.later hb
    clear hR1 hs2 h0 h1 hb
    unfold dsL nilS
    have hs5 := hs3.alloc #[.int .i64 0, .int .u32 0, .slice none 0 0, .slice none 0 0, .slice none 0 0, .slice none 0 0, .int .u64 0] 48
    have b0 := hs5.cell 1 rfl (o := 0) rfl
    have g0 := hs5.free 1 rfl 0
    have b1 := hs5.cell 1 rfl (o := 1) rfl
    have g1 := hs5.free 1 rfl 1
    have b2 := hs5.cell 1 rfl (o := 2) rfl
    have g2 := hs5.free 1 rfl 2
    have b3 := hs5.cell 1 rfl (o := 3) rfl
    have g3 := hs5.free 1 rfl 3
    have b4 := hs5.cell 1 rfl (o := 4) rfl
    have g4 := hs5.free 1 rfl 4
    have b5 := hs5.cell 1 rfl (o := 5) rfl
    have g5 := hs5.free 1 rfl 5
    have b6 := hs5.cell 1 rfl (o := 6) rfl
    have g6 := hs5.free 1 rfl 6
    have hB : Below w.heap.size w (w3.alloc (.cells #[.int .i64 0, .int .u32 0, .slice none 0 0, .slice none 0 0, .slice none 0 0, .slice none 0 0, .int .u64 0] 48)) := hs5.below
    clear hs5 hs3
    by_cases h2 : (2000 : Int) < n
    · go_wp2_with fail
      go_quiet (fail)
      go_wp2_with fail
      go_ret
      exact ⟨rfl, below_drewN hB _⟩
    · exact absurd (show (2000 : Int) < n by omega) h2
  · obtain rfl : n = n' := by rw [← hn'.out, if_neg hmin]
    go_wp2_with fail
    refine hR1.mono ?_
    rintro e w3 ⟨rfl, hb⟩
    have hs3 := hs2.later hb
    clear hR1 hs2 h0 h1 hb
    unfold dsL nilS
    have hs5 := hs3.alloc #[.int .i64 0, .int .u32 0, .slice none 0 0, .slice none 0 0, .slice none 0 0, .slice none 0 0, .int .u64 0] 48
    have b0 := hs5.cell 1 rfl (o := 0) rfl
    have g0 := hs5.free 1 rfl 0
    have b1 := hs5.cell 1 rfl (o := 1) rfl
    have g1 := hs5.free 1 rfl 1
    have b2 := hs5.cell 1 rfl (o := 2) rfl
    have g2 := hs5.free 1 rfl 2
    have b3 := hs5.cell 1 rfl (o := 3) rfl
    have g3 := hs5.free 1 rfl 3
    have b4 := hs5.cell 1 rfl (o := 4) rfl
    have g4 := hs5.free 1 rfl 4
    have b5 := hs5.cell 1 rfl (o := 5) rfl
    have g5 := hs5.free 1 rfl 5
    have b6 := hs5.cell 1 rfl (o := 6) rfl
    have g6 := hs5.free 1 rfl 6
    have hB : Below w.heap.size w (w3.alloc (.cells #[.int .i64 0, .int .u32 0, .slice none 0 0, .slice none 0 0, .slice none 0 0, .slice none 0 0, .int .u64 0] 48)) := hs5.below
    clear hs5 hs3
    by_cases h2 : (2000 : Int) < n
    · go_wp2_with fail
      go_quiet (fail)
      go_wp2_with fail
      go_ret
      exact ⟨rfl, below_drewN hB _⟩
    · go_wp2_with fail
      go_quiet (fail)
      go_wp2_with fail
      go_ret
      exact ⟨rfl, below_drewN hB _⟩
theorem opens_walk (k d n m : Int) (hn : -9223372036854775808 ≤ n ∧ n ≤ 9223372036854775807) (hm : 0 ≤ m ∧ m ≤ 4294967295) (w : World) : Calls Tryz.prog 4 #[.agg #[.int .i64 k, .int .i64 d], .int .i64 n, .int .u32 m] w fun e w' => e = .returned (.bool true) ∧ Below w.heap.size w w' := by
  by_cases h : openE k d n m = 0
  · obtain ⟨hk, a, b, rfl, rfl, ha, hb⟩ := open_cases h hm.1
    exact opens_yes k d a b hk ha ⟨hb, by omega⟩ w
  · exact opens_no k d n m h w
end Go.Proofs.YtkcicnflcilekaaGreat
