/- The statement EntryBack, walked: for every entry and every text the call returns true, in every memory that holds the library's table and its two error values; of what was in memory nothing is changed. -/
import Derived.Test.YtglocekhgnlfaaaDoorEntryAlive
import Derived.Test.YtglocekhgnlfaaaDoorEntryRead
import Derived.IntWalk
namespace Go.Proofs.YtglocekhgnlfaaaDoor
open Go.RowKit Go.Sort Go.Lib

theorem turn_int (z k : Int) (hz : z = k) (h0 : -9223372036854775808 ≤ k) (h1 : k ≤ 9223372036854775807) (w : World) :
    Calls Tryd.prog 15 #[.int .i64 z] w fun e w' => e = .returned (.int .i64 (-1 - k)) ∧ Below w.heap.size w w' := by
  rw [hz]
  exact turn_any k h0 h1 w

set_option maxHeartbeats 8000000 in
set_option maxRecDepth 100000 in
theorem back_nat (k : Int) (q : Nat) (s : ByteArray) (hk : -9223372036854775808 ≤ k ∧ k ≤ 9223372036854775807) (hq : q < 18446744073709551616) (w : World) (h : At w) :
    Calls Tryd.prog 8 #[.agg #[.int .i64 k, .int .u64 q], .string s] w fun e w' => e = .returned (.bool true) ∧ Below w.heap.size w w' := by
  by_cases hs : 300 < s.size
  · have hs' : (300 : Int) < (s.size : Int) := by omega
    go_enter Tryd.func8, Tryd.ntmps8
    go_wp2_with fail
    have hb0 := (Below.refl w.heap.size w).alloc (Nat.le_refl _) (Obj.cells #[Value.int IntKind.i64 k, Value.int IntKind.u64 q] 24)
    refine (alive_any _ (h.below hb0).tab).mono ?_
    rintro e w1 ⟨rfl, hb1⟩
    go_wp2_with fail
    go_ret
    exact ⟨rfl, below_chain hb0 hb1⟩
  · have hs' : (s.size : Int) ≤ 300 := by omega
    have tE := text_any k q hk.1 hk.2 hq
    have lT : (⟨(entText k q).toArray⟩ : ByteArray).size < 4294967281 := by
      have l1 := Lib.itoa_length_le k hk.1 hk.2
      have l2 := Lib.nDigits_le20 q hq
      rw [← Lib.decDigits_length] at l2
      show (entText k q).length < _
      simp [entText]
      omega
    have pE := parse_any ⟨(entText k q).toArray⟩ lT
    have eP : Num.parE (⟨(entText k q).toArray⟩ : ByteArray).data.toList = ((k, q), 0) := Num.parE_text k q hk (by omega)
    rw [eP] at pE
    have pS := parse_any s (by omega)
    have hback := Num.parE_back s.data.toList
    have dE := digits_any k hk.1 hk.2
    have lN : (⟨(Lib.itoa k).toArray⟩ : ByteArray).size ≤ 281474976710656 := Nat.le_trans (Lib.itoa_length_le k hk.1 hk.2) (by omega)
    have nE := number_any ⟨(Lib.itoa k).toArray⟩ lN
    have eN : Num.numE (⟨(Lib.itoa k).toArray⟩ : ByteArray).data.toList = (k, true) := Num.numE_itoa hk
    rw [eN] at nE
    have tu := turn_any k hk.1 hk.2
    have tv := turn_any (-1 - k) (by omega) (by omega)
    have ek : -1 - (-1 - k) = k := by omega
    rw [ek] at tv
    generalize (⟨(entText k q).toArray⟩ : ByteArray) = T at *
    generalize (⟨(Lib.itoa k).toArray⟩ : ByteArray) = N at *
    obtain ⟨⟨⟨k2, q2⟩, f⟩, hr⟩ : ∃ r, Num.parE s.data.toList = r := ⟨_, rfl⟩
    rw [hr] at pS
    have hb' := hback k2 q2 f hr
    have HT := Lib.hid tE
    have HP := Lib.hid pE
    have HS := Lib.hid pS
    have HD := Lib.hid dE
    have HN := Lib.hid nE
    have HU := Lib.hid tu
    have HV := Lib.hid tv
    clear tE pE pS dE nE tu tv eP eN hback hr lT lN ek
    rcases hb' with ⟨rfl, hk2, hq2, hl⟩ | ⟨rfl, rfl, rfl⟩
    · have tS := text_any k2 q2 hk2.1 hk2.2 (by omega)
      have eS : (⟨(entText k2 q2).toArray⟩ : ByteArray) = s := ByteArray.ext (Array.toList_inj.1 (by rw [hl]; rfl))
      rw [eS] at tS
      have HX := Lib.hid tS
      clear tS eS hl hk2 hq2 hk hq
      go_enter Tryd.func8, Tryd.ntmps8
      go_wp2_with fail
      have hb0 := (Below.refl w.heap.size w).alloc (Nat.le_refl _) (Obj.cells #[Value.int IntKind.i64 k, Value.int IntKind.u64 q] 24)
      refine (alive_any _ (h.below hb0).tab).mono ?_
      rintro e w1 ⟨rfl, hb1⟩
      have h1 := (h.below hb0).below hb1
      have c0 : w1.cell? ⟨w.heap.size, 0, none⟩ = some (.int .i64 k) := by rw [hb1.cell (p := ⟨w.heap.size, 0, none⟩) (by simp)]; go_simp
      have c1 : w1.cell? ⟨w.heap.size, 1, none⟩ = some (.int .u64 q) := by rw [hb1.cell (p := ⟨w.heap.size, 1, none⟩) (by simp)]; go_simp
      have hw1 := below_chain hb0 hb1
      clear hb0 hb1
      go_wp2_with fail
      refine (HT.out _ h1.tab).mono ?_
      rintro e w2 ⟨rfl, hb2⟩
      go_wp2_with fail
      refine (HP.out _ (h1.below hb2)).mono ?_
      rintro e w3 ⟨rfl, hb3⟩
      have h3 := (h1.below hb2).below hb3
      have hw3 := below_chain (below_chain hw1 hb2) hb3
      have d0 : w3.cell? ⟨w.heap.size, 0, none⟩ = some (.int .i64 k) := by rw [(below_chain hb2 hb3).cell (block_lt_of_cell c0)]; exact c0
      have d1 : w3.cell? ⟨w.heap.size, 1, none⟩ = some (.int .u64 q) := by rw [(below_chain hb2 hb3).cell (block_lt_of_cell c1)]; exact c1
      have z3 : w.heap.size < w3.heap.size := block_lt_of_cell d0
      clear hb2 hb3 c0 c1 h1 hw1
      go_wp2_with fail
      have hb4 := (Below.refl w3.heap.size w3).alloc (Nat.le_refl _) (.cells #[.int .i64 k, .int .u64 q] 24)
      have h4 := h3.below hb4
      refine (HS.out _ h4).mono ?_
      rintro e w4 ⟨rfl, hb5⟩
      have x0 : w4.cell? ⟨w3.heap.size, 0, none⟩ = some (.int .i64 k) := by rw [hb5.cell (p := ⟨w3.heap.size, 0, none⟩) (by simp)]; go_simp
      have x1 : w4.cell? ⟨w3.heap.size, 1, none⟩ = some (.int .u64 q) := by rw [hb5.cell (p := ⟨w3.heap.size, 1, none⟩) (by simp)]; go_simp
      have e0 : w4.cell? ⟨w.heap.size, 0, none⟩ = some (.int .i64 k) := by rw [(below_chain hb4 hb5).cell (block_lt_of_cell d0)]; exact d0
      have e1 : w4.cell? ⟨w.heap.size, 1, none⟩ = some (.int .u64 q) := by rw [(below_chain hb4 hb5).cell (block_lt_of_cell d1)]; exact d1
      have hw4 := below_chain hw3 (below_chain hb4 hb5)
      have h5 := h4.below hb5
      have z4 : w3.heap.size < w4.heap.size := block_lt_of_cell x0
      have z5 : w.heap.size < w4.heap.size := block_lt_of_cell e0
      have y3 : ¬ w.heap.size = w3.heap.size := by omega
      clear hb4 hb5 d0 d1 h3 h4 hw3
      go_wp2_with fail
      have hb6 := (Below.refl w4.heap.size w4).alloc (Nat.le_refl _) (.cells #[.int .i64 k2, .int .u64 q2] 24)
      refine (HD.out _ (h5.below hb6).tab).mono ?_
      rintro e w5 ⟨rfl, hb7⟩
      go_wp2_with fail
      refine (HN.out _ ((h5.below hb6).below hb7)).mono ?_
      rintro e w6 ⟨rfl, hb8⟩
      have hb9 := below_chain hb7 hb8
      have f0 : w6.cell? ⟨w4.heap.size, 0, none⟩ = some (.int .i64 k2) := by rw [hb9.cell (p := ⟨w4.heap.size, 0, none⟩) (by simp)]; go_simp
      have f1 : w6.cell? ⟨w4.heap.size, 1, none⟩ = some (.int .u64 q2) := by rw [hb9.cell (p := ⟨w4.heap.size, 1, none⟩) (by simp)]; go_simp
      have hb10 := below_chain hb6 hb9
      have g0 : w6.cell? ⟨w.heap.size, 0, none⟩ = some (.int .i64 k) := by rw [hb10.cell (block_lt_of_cell e0)]; exact e0
      have g1 : w6.cell? ⟨w.heap.size, 1, none⟩ = some (.int .u64 q) := by rw [hb10.cell (block_lt_of_cell e1)]; exact e1
      have i0 : w6.cell? ⟨w3.heap.size, 0, none⟩ = some (.int .i64 k) := by rw [hb10.cell (block_lt_of_cell x0)]; exact x0
      have i1 : w6.cell? ⟨w3.heap.size, 1, none⟩ = some (.int .u64 q) := by rw [hb10.cell (block_lt_of_cell x1)]; exact x1
      have hw6 := below_chain hw4 hb10
      have h6 := h5.below hb10
      clear hb6 hb7 hb8 hb9 hb10 e0 e1 x0 x1 h5 hw4
      go_wp2_with fail
      have kf0 := cell_regrown f0
      have kf1 := cell_regrown f1
      have kg0 := cell_regrown g0
      have kg1 := cell_regrown g1
      have ki0 := cell_regrown i0
      have ki1 := cell_regrown i1
      have cX : ∀ d os, Calls Tryd.prog 16 #[.agg #[.int .i64 k2, .int .u64 q2]] (grow (redrawn w6 d) os) fun e w'' => e = .returned (.string s) ∧ ∃ p : Regrown, w'' = grow (redrawn w6 p.d) p.os := fun d os => Calls.regrown_of (HX.out _ (h6.below (below_regrown w6 d os)).tab)
      have cU : ∀ d os, Calls Tryd.prog 15 #[.int .i64 k] (grow (redrawn w6 d) os) fun e w'' => e = .returned (.int .i64 (-1 - k)) ∧ ∃ p : Regrown, w'' = grow (redrawn w6 p.d) p.os := fun d os => Calls.regrown_of (HU.out _)
      have cV : ∀ d os, Calls Tryd.prog 15 #[.int .i64 (-1 - k)] (grow (redrawn w6 d) os) fun e w'' => e = .returned (.int .i64 k) ∧ ∃ p : Regrown, w'' = grow (redrawn w6 p.d) p.os := fun d os => Calls.regrown_of (HV.out _)
      refine wp_region_quiet_below (by kernel_rfl) (by kernel_rfl) ?_
      repeat (first | go_big_quiet_step (first | exact cX _ _ | exact cU _ _ | exact cV _ _) | quiet_step (first | exact cX _ _ | exact cU _ _ | exact cV _ _))
      refine wpQuiet_nil ?_
      intro W3 hw'
      have hb3 : Below w6.heap.size w6 W3 := by
        obtain ⟨p, rfl⟩ := hw'
        exact below_regrown _ _ _
      go_wp2_with fail
      go_ret
      exact ⟨rfl, below_chain hw6 hb3⟩
    · clear hk hq
      go_enter Tryd.func8, Tryd.ntmps8
      go_wp2_with fail
      have hb0 := (Below.refl w.heap.size w).alloc (Nat.le_refl _) (Obj.cells #[Value.int IntKind.i64 k, Value.int IntKind.u64 q] 24)
      refine (alive_any _ (h.below hb0).tab).mono ?_
      rintro e w1 ⟨rfl, hb1⟩
      have h1 := (h.below hb0).below hb1
      have c0 : w1.cell? ⟨w.heap.size, 0, none⟩ = some (.int .i64 k) := by rw [hb1.cell (p := ⟨w.heap.size, 0, none⟩) (by simp)]; go_simp
      have c1 : w1.cell? ⟨w.heap.size, 1, none⟩ = some (.int .u64 q) := by rw [hb1.cell (p := ⟨w.heap.size, 1, none⟩) (by simp)]; go_simp
      have hw1 := below_chain hb0 hb1
      clear hb0 hb1
      go_wp2_with fail
      refine (HT.out _ h1.tab).mono ?_
      rintro e w2 ⟨rfl, hb2⟩
      go_wp2_with fail
      refine (HP.out _ (h1.below hb2)).mono ?_
      rintro e w3 ⟨rfl, hb3⟩
      have h3 := (h1.below hb2).below hb3
      have hw3 := below_chain (below_chain hw1 hb2) hb3
      have d0 : w3.cell? ⟨w.heap.size, 0, none⟩ = some (.int .i64 k) := by rw [(below_chain hb2 hb3).cell (block_lt_of_cell c0)]; exact c0
      have d1 : w3.cell? ⟨w.heap.size, 1, none⟩ = some (.int .u64 q) := by rw [(below_chain hb2 hb3).cell (block_lt_of_cell c1)]; exact c1
      have z3 : w.heap.size < w3.heap.size := block_lt_of_cell d0
      clear hb2 hb3 c0 c1 h1 hw1
      go_wp2_with fail
      have hb4 := (Below.refl w3.heap.size w3).alloc (Nat.le_refl _) (.cells #[.int .i64 k, .int .u64 q] 24)
      have h4 := h3.below hb4
      refine (HS.out _ h4).mono ?_
      rintro e w4 ⟨rfl, hb5⟩
      have x0 : w4.cell? ⟨w3.heap.size, 0, none⟩ = some (.int .i64 k) := by rw [hb5.cell (p := ⟨w3.heap.size, 0, none⟩) (by simp)]; go_simp
      have x1 : w4.cell? ⟨w3.heap.size, 1, none⟩ = some (.int .u64 q) := by rw [hb5.cell (p := ⟨w3.heap.size, 1, none⟩) (by simp)]; go_simp
      have e0 : w4.cell? ⟨w.heap.size, 0, none⟩ = some (.int .i64 k) := by rw [(below_chain hb4 hb5).cell (block_lt_of_cell d0)]; exact d0
      have e1 : w4.cell? ⟨w.heap.size, 1, none⟩ = some (.int .u64 q) := by rw [(below_chain hb4 hb5).cell (block_lt_of_cell d1)]; exact d1
      have hw4 := below_chain hw3 (below_chain hb4 hb5)
      have h5 := h4.below hb5
      have z4 : w3.heap.size < w4.heap.size := block_lt_of_cell x0
      have z5 : w.heap.size < w4.heap.size := block_lt_of_cell e0
      have y3 : ¬ w.heap.size = w3.heap.size := by omega
      clear hb4 hb5 d0 d1 h3 h4 hw3
      go_wp2_with fail
      have hb6 := (Below.refl w4.heap.size w4).alloc (Nat.le_refl _) (.cells #[.int .i64 0, .int .u64 0] 24)
      refine (HD.out _ (h5.below hb6).tab).mono ?_
      rintro e w5 ⟨rfl, hb7⟩
      go_wp2_with fail
      refine (HN.out _ ((h5.below hb6).below hb7)).mono ?_
      rintro e w6 ⟨rfl, hb8⟩
      have hb9 := below_chain hb7 hb8
      have f0 : w6.cell? ⟨w4.heap.size, 0, none⟩ = some (.int .i64 0) := by rw [hb9.cell (p := ⟨w4.heap.size, 0, none⟩) (by simp)]; go_simp
      have f1 : w6.cell? ⟨w4.heap.size, 1, none⟩ = some (.int .u64 0) := by rw [hb9.cell (p := ⟨w4.heap.size, 1, none⟩) (by simp)]; go_simp
      have hb10 := below_chain hb6 hb9
      have g0 : w6.cell? ⟨w.heap.size, 0, none⟩ = some (.int .i64 k) := by rw [hb10.cell (block_lt_of_cell e0)]; exact e0
      have g1 : w6.cell? ⟨w.heap.size, 1, none⟩ = some (.int .u64 q) := by rw [hb10.cell (block_lt_of_cell e1)]; exact e1
      have i0 : w6.cell? ⟨w3.heap.size, 0, none⟩ = some (.int .i64 k) := by rw [hb10.cell (block_lt_of_cell x0)]; exact x0
      have i1 : w6.cell? ⟨w3.heap.size, 1, none⟩ = some (.int .u64 q) := by rw [hb10.cell (block_lt_of_cell x1)]; exact x1
      have hw6 := below_chain hw4 hb10
      have h6 := h5.below hb10
      clear hb6 hb7 hb8 hb9 hb10 e0 e1 x0 x1 h5 hw4
      go_wp2_with fail
      have kf0 := cell_regrown f0
      have kf1 := cell_regrown f1
      have kg0 := cell_regrown g0
      have kg1 := cell_regrown g1
      have ki0 := cell_regrown i0
      have ki1 := cell_regrown i1
      have cU : ∀ d os, Calls Tryd.prog 15 #[.int .i64 k] (grow (redrawn w6 d) os) fun e w'' => e = .returned (.int .i64 (-1 - k)) ∧ ∃ p : Regrown, w'' = grow (redrawn w6 p.d) p.os := fun d os => Calls.regrown_of (HU.out _)
      have cV : ∀ d os, Calls Tryd.prog 15 #[.int .i64 (-1 - k)] (grow (redrawn w6 d) os) fun e w'' => e = .returned (.int .i64 k) ∧ ∃ p : Regrown, w'' = grow (redrawn w6 p.d) p.os := fun d os => Calls.regrown_of (HV.out _)
      refine wp_region_quiet_below (by kernel_rfl) (by kernel_rfl) ?_
      repeat (first | go_big_quiet_step (first | exact cU _ _ | exact cV _ _) | quiet_step (first | exact cU _ _ | exact cV _ _))
      refine wpQuiet_nil ?_
      intro W3 hw'
      have hb3 : Below w6.heap.size w6 W3 := by
        obtain ⟨p, rfl⟩ := hw'
        exact below_regrown _ _ _
      go_wp2_with fail
      go_ret
      exact ⟨rfl, below_chain hw6 hb3⟩

theorem back_walk (k q : Int) (s : ByteArray) (hk : -9223372036854775808 ≤ k ∧ k ≤ 9223372036854775807) (hq : 0 ≤ q ∧ q ≤ 18446744073709551615) (w : World) (h : At w) :
    Calls Tryd.prog 8 #[.agg #[.int .i64 k, .int .u64 q], .string s] w fun e w' => e = .returned (.bool true) ∧ Below w.heap.size w w' := by
  obtain ⟨q, rfl⟩ : ∃ m : Nat, q = m := ⟨q.toNat, by omega⟩
  exact back_nat k q s hk (by omega) w h
end Go.Proofs.YtglocekhgnlfaaaDoor
