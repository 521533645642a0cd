/- Merged of SiftRefNum, DaryAlive, DaryWalks. -/
import Derived.Test.YtlbbgdpdaelcdaaBox
import Derived.Test.YtlbbgdpdaelcdaaDarySteps
namespace Go.Proofs.Ytlbbgdpdaelcdaa
open Go.RowKit Go.Sort

theorem right_c (d : Int) (w : World) : Calls Try.prog 42 #[.int .i64 d] w fun e w' => e = .returned (.bool (rightD d)) ∧ w = w' := by
  go_enter Try.func42, Try.ntmps42
  go_wp2
  all_goals
    go_ret
    exact ⟨ret_bool (by rw [Bool.eq_iff_iff]; simp_all [rightD]; try omega), rfl⟩
section
variable (d i : Int) (w : World) (hi : i ≤ 9223372036854775807)
include hi
theorem refparent_c : Calls Try.prog 43 #[.int .i64 d, .int .i64 i] w fun e w' => e = .returned (.tuple #[.int .i64 (parD d i).1, .bool (parD d i).2]) ∧ w = w' := by
  have hR := right_c d
  unfold parD
  cases hr : rightD d
  · rw [if_neg (by simp)]
    rw [hr] at hR
    go_enter Try.func43, Try.ntmps43
    go_wp2_with fail
    refine (hR _).mono ?_
    rintro e w1 ⟨rfl, rfl⟩
    go_wp2_with fail
    go_ret2
    exact ⟨rfl, rfl⟩
  · rw [hr] at hR
    by_cases h : 1 ≤ i
    · obtain ⟨e1, e2, e3, e4, e5⟩ := par_facts hr h hi
      rw [if_pos ⟨rfl, h⟩]
      have h' : ¬ i < 1 := by omega
      generalize (i - 1) / d = q at *
      go_enter Try.func43, Try.ntmps43
      go_wp2_with fail
      refine (hR _).mono ?_
      rintro e w1 ⟨rfl, rfl⟩
      go_wp2_with fail
      go_ret2
      exact ⟨rfl, rfl⟩
    · rw [if_neg (fun x => h x.2)]
      have h' : i < 1 := by omega
      go_enter Try.func43, Try.ntmps43
      go_wp2_with fail
      refine (hR _).mono ?_
      rintro e w1 ⟨rfl, rfl⟩
      go_wp2_with fail
      go_ret2
      exact ⟨rfl, rfl⟩
end
/-- 'Depth': the document's, which calls itself. -/
theorem refdepth_nat (d : Nat) (hd : 2 ≤ d ∧ d ≤ 16) (m : Nat) : ∀ (w : World), m ≤ 1099511627776 → Calls Try.prog 22 #[.int .i64 d, .int .i64 m] w fun e w' => e = .returned (.int .i64 (depthI d (m - 1) : Nat)) ∧ w = w' := by
  have hR := right_c d
  have hr : rightD (d : Int) = true := rightD_iff.2 (by omega)
  rw [hr] at hR
  induction m using Nat.strongRecOn with
  | _ m ih =>
    intro w hm
    by_cases h : 2 ≤ m
    · have hP := refparent_c d ((m - 1 : Nat) : Int) w (by omega)
      rw [parD_nat hd.1 hd.2 (by omega)] at hP
      have hl := par_lt (d := d) (i := m - 1) (by omega) (by omega)
      have hI := ih (par d (m - 1) + 1) (by omega) w (by omega)
      rw [Nat.add_sub_cancel] at hI
      have hdp := depth_par (d := d) (i := m - 1) (by omega) (by omega)
      have hdl := depth_le (d := d) (by omega) (par d (m - 1))
      have e1 : IntKind.i64.wrap ((m : Int) - 1) = ((m - 1 : Nat) : Int) := by rw [show (m : Int) - 1 = ((m - 1 : Nat) : Int) by omega]; exact IntWalk.i64_in _ (by omega)
      have e2 : IntKind.i64.wrap (((par d (m - 1) : Nat) : Int) + 1) = ((par d (m - 1) + 1 : Nat) : Int) := IntWalk.i64_in _ (by omega)
      have e3 : IntKind.i64.wrap (1 + ((depthI d (par d (m - 1)) : Nat) : Int)) = ((depthI d (par d (m - 1)) + 1 : Nat) : Int) := by rw [IntWalk.i64_in _ (by omega)]; omega
      rw [hdp]
      have h1 : ¬ (m : Int) < 2 := by omega
      have h2 : ¬ (1099511627776 : Int) < m := by omega
      clear ih hdp hdl hl
      generalize hpp : par d (m - 1) = p at *
      generalize depthI d p + 1 = t at *
      generalize depthI d p = t0 at *
      generalize m - 1 = m1 at *
      generalize p + 1 = p1 at *
      clear hpp
      go_enter Try.func22, Try.ntmps22
      go_wp2_with fail
      refine (hR _).mono ?_
      rintro e w1 ⟨rfl, rfl⟩
      go_wp2_with fail
      refine hP.mono ?_
      rintro e w1 ⟨rfl, rfl⟩
      go_wp2_with fail
      refine hI.mono ?_
      rintro e w1 ⟨rfl, rfl⟩
      go_wp2_with fail
      go_ret
      exact ⟨rfl, rfl⟩
    · have e : depthI d (m - 1) = 0 := by rw [show m - 1 = 0 by omega, depth_zero]
      rw [e]
      have h1 : (m : Int) < 2 := by omega
      clear ih
      go_enter Try.func22, Try.ntmps22
      go_wp2_with fail
      refine (hR _).mono ?_
      rintro e w1 ⟨rfl, rfl⟩
      go_wp2_with fail
      go_ret
      exact ⟨rfl, rfl⟩
theorem refdepth_c (d n : Int) (w : World) : Calls Try.prog 22 #[.int .i64 d, .int .i64 n] w fun e w' => e = .returned (.int .i64 (depthD d n)) ∧ w = w' := by
  by_cases hc : rightD d = true ∧ 2 ≤ n ∧ n ≤ 1099511627776
  · obtain ⟨h1, h2⟩ := rightD_iff.1 hc.1
    obtain ⟨dn, rfl⟩ : ∃ dn : Nat, d = dn := ⟨d.toNat, by omega⟩
    obtain ⟨m, rfl⟩ : ∃ m : Nat, n = m := ⟨n.toNat, by omega⟩
    rw [depthD_nat (by omega) (by omega) (by omega)]
    exact refdepth_nat dn (by omega) m w (by omega)
  · have e : depthD d n = 0 := by unfold depthD; rw [if_neg hc]
    rw [e]
    have hR := right_c d
    cases hr : rightD d
    · rw [hr] at hR
      clear hc e
      go_enter Try.func22, Try.ntmps22
      go_wp2_with fail
      refine (hR _).mono ?_
      rintro e w1 ⟨rfl, rfl⟩
      go_wp2_with fail
      go_ret
      exact ⟨rfl, rfl⟩
    · rw [hr] at hR hc
      have hd1 : n < 2 ∨ ¬ n < 2 ∧ 1099511627776 < n := by simp at hc; omega
      clear hc e
      rcases hd1 with h | ⟨h1, h⟩ <;>
      · go_enter Try.func22, Try.ntmps22
        go_wp2_with fail
        refine (hR _).mono ?_
        rintro e w1 ⟨rfl, rfl⟩
        go_wp2_with fail
        go_ret
        exact ⟨rfl, rfl⟩
end Go.Proofs.Ytlbbgdpdaelcdaa

namespace Go.Proofs.Ytlbbgdpdaelcdaa
open Go.RowKit Go.Sort

/-- The example's nest with so many slots in. -/
def alD (k : Nat) : WS := ⟨[false, true], (List.range 7).map fun i => if i < k then ⟨1, -(i : Int), 0⟩ else .off⟩
theorem alD_step (k : Nat) (hk : k < 7) : putB (alD k) 1 k = true ∧ putW (alD k) 1 k (-(k : Int)) 0 = alD (k + 1) ∧ lenW (alD k) 1 = k := by
  have : k = 0 ∨ k = 1 ∨ k = 2 ∨ k = 3 ∨ k = 4 ∨ k = 5 ∨ k = 6 := by omega
  rcases this with rfl | rfl | rfl | rfl | rfl | rfl | rfl <;> exact ⟨rfl, rfl, rfl⟩
theorem dary_start {W0 w : World} {l : List Ob} (n d : Nat) (hn : n ≤ 65536) (hd : 2 ≤ d ∧ d ≤ 16) (hs : Stage (fun _ => False) W0 l w) : Calls Try.prog 10 #[.int .i64 n, .int .i64 d] w fun e w' => ∃ p c, e = .returned (.tuple #[.pointer (some ⟨p, 0, none⟩), .int .i64 0]) ∧ Stage (fun _ => False) W0 (l ++ [Ob.dary p c d (newW n) 0]) w' :=
  (new_da n d hn hd w).mono fun _ _ ⟨p, c, he, _, h1, h2, h3⟩ => ⟨p, c, he, hs.add h3 h1 h2⟩
/-- 'open'. -/
theorem dopen_st {W0 w : World} {l : List Ob} (n d : Nat) (hn : n ≤ 65536) (hd : 2 ≤ d ∧ d ≤ 16) (hs : Stage (fun _ => False) W0 l w) : Calls Try.prog 16 #[.int .i64 n, .int .i64 d] w fun e w' => ∃ p c, e = .returned (.tuple #[.pointer (some ⟨p, 0, none⟩), .bool true]) ∧ Stage (fun _ => False) W0 (l ++ [Ob.dary p c d (newW n) 0]) w' := by
  have hN := dary_start n d hn hd hs
  go_enter Try.func16, Try.ntmps16
  go_wp2_with fail
  refine hN.mono ?_
  rintro e w1 ⟨p, c, rfl, hs1⟩
  go_wp2_with fail
  exact bodyPost_ret (v := .tuple #[.pointer (some ⟨p, 0, none⟩), .bool true]) (by simp [results, Try.results16, go_sem]) rfl ⟨p, c, rfl, hs1⟩
/-- The document's error. -/
def rightN (n d : Int) : Int := if 0 ≤ n ∧ n ≤ 65536 then (if rightD d = true then 0 else 22) else 31
theorem right_any (n d : Int) (w : World) : Calls Try.prog 11 #[.int .i64 n, .int .i64 d] w fun e w' => e = .returned (.int .i64 (rightN n d)) ∧ w = w' := by
  obtain ⟨x, hx⟩ : ∃ x, x = rightN n d := ⟨_, rfl⟩
  rw [← hx]
  have HA := Lib.hid hx
  clear hx
  go_enter Try.func11, Try.ntmps11
  go_wp2
  all_goals
    go_ret
    exact ⟨ret_int (by rw [HA.out]; simp_all [rightN, rightD]; try omega), rfl⟩
set_option maxRecDepth 100000 in
set_option maxHeartbeats 2000000 in
theorem dalive_any (w : World) : Calls Try.prog 9 #[] w fun e w' => e = .returned (.bool true) ∧ Below w.heap.size w w' := by
  have hd3 : 2 ≤ 3 ∧ 3 ≤ 16 := by omega
  have h1i : inInt 1 := ⟨by omega, by omega⟩
  go_enter Try.func9, Try.ntmps9
  go_wp2_with fail
  refine (dary_start 7 3 (by omega) hd3 (Stage.start w)).mono ?_
  rintro e w1 ⟨p, c, rfl, hs⟩
  have N := dary_nests p c 3 hd3
  have p0 := (hs.get (i := 0) rfl).elim fun _ ho => dary_there ho
  unfold daryH at p0
  have hM : Calls Try.prog 20 #[ptrV c] w1 fun e w' => e = .returned (.int .i64 1) ∧ ∃ s' : Int, (∀ y x, daryR 3 (newW 7) 0 y x 0 s') ∧ Stage (fun _ => False) w [Ob.dary p c 3 (alD 0) s'] w' := hs.callEx 0 rfl (fun _ ho => N.make ho)
  go_wp2_with fail
  refine hM.mono ?_
  rintro e w2 ⟨rfl, s1, _, hs2⟩
  clear hM hs p0
  go_wp2_with fail
  go_loopw [3] (fun i wr => ∃ (k : Nat) (s : Int), i = .int .i64 k ∧ k ≤ 7 ∧ (2 ≤ k → 0 < s) ∧ Stage (fun _ => False) w [Ob.dary p c 3 (alD k) s] wr) (fun i _ => 7 - (intOf i).toNat)
  case atStart => exact ⟨0, s1, rfl, by omega, by omega, hs2⟩
  case round =>
    clear hs2
    obtain ⟨k, s, rfl, hk, hpos, hs⟩ := hrel
    by_cases hlt : k < 7
    · have hki : (k : Int) < 7 := by omega
      obtain ⟨e1, e2, e3⟩ := alD_step k hlt
      have hI := hs.callEx 0 rfl (fun _ ho => N.ins 1 k (-(k : Int)) 0 h1i ⟨by omega, by omega⟩ ho)
      rw [e1, e2] at hI
      replace hI : Calls Try.prog 21 #[ptrV p, .int .i64 1, .int .i64 k, .agg #[.int .i64 (-(k : Int)), .int .u64 0]] wr fun e w' => e = .returned (.bool true) ∧ ∃ s' : Int, daryR 3 (alD k) 1 1 k s s' ∧ Stage (fun _ => False) w [Ob.dary p c 3 (alD (k + 1)) s'] w' := hI
      have e4 : IntKind.i64.wrap (-(k : Int)) = -(k : Int) := IntWalk.i64_in _ (by omega)
      have hp : ∀ s', daryR 3 (alD k) 1 1 k s s' → 2 ≤ k + 1 → 0 < s' := fun s' hR h => (hR.2.2.1 rfl).2 e1 (by rw [e3]; omega)
      clear hs e1 e2 e3 hpos
      go_wp2_with fail
      refine hI.mono ?_
      rintro e w4 ⟨rfl, s', hR, hs4⟩
      have hp' := hp s' hR
      clear hI hp hR
      go_wp2_with fail
      go_roundw
      case rel => exact ⟨k + 1, s', by go_num, by omega, hp', hs4⟩
      case measure => simp [intOf]; omega
    · obtain rfl : k = 7 := by omega
      have hp := hpos (by omega)
      have hM := hs.callEx 0 rfl (fun _ ho => N.min 1 h1i ho)
      rw [show minI (alD 7) 1 = 6 from rfl, show minB (alD 7) 1 = true from rfl] at hM
      replace hM : Calls Try.prog 25 #[ptrV p, .int .i64 1] wr fun e w' => e = .returned (.tuple #[.int .i64 6, .bool true]) ∧ ∃ s' : Int, (∀ x, daryR 3 (alD 7) 2 1 x s s') ∧ Stage (fun _ => False) w [Ob.dary p c 3 (alD 7) s'] w' := hM
      clear hs
      go_wp2_with fail
      refine hM.mono ?_
      rintro e w5 ⟨rfl, s5, hR, hs5⟩
      have hp5 : 0 < s5 := by have := (hR 0).1; omega
      clear hM hR
      have hD := hs5.askB 0 rfl (fun _ ho => depth_da 1 h1i ho)
      rw [show depthD ((3 : Nat) : Int) (lenW (alD 7) 1 : Nat) = 2 from rfl] at hD
      go_wp2_with fail
      refine hD.mono ?_
      rintro e w6 ⟨rfl, hs6⟩
      clear hD hs5
      have hS : Calls Try.prog 15 #[ptrV c] w6 fun e w' => e = .returned (.int .i64 s5) ∧ Stage (fun _ => False) w [Ob.dary p c 3 (alD 7) s5] w' := hs6.askB 0 rfl (fun _ ho => N.steps ho)
      have p0 := (hs6.get (i := 0) rfl).elim fun _ ho => dary_there ho
      unfold daryH at p0
      go_wp2_with fail
      refine hS.mono ?_
      rintro e w8 ⟨rfl, hs8⟩
      go_wp2_with fail
      go_ret
      exact ⟨rfl, hs8.below⟩
end Go.Proofs.Ytlbbgdpdaelcdaa

namespace Go.Proofs.Ytlbbgdpdaelcdaa
open Go.RowKit Go.Sort

theorem rightN_yes {m : Nat} {d : Int} (hm : m ≤ 65536) (hd : rightD d = true) : rightN m d = 0 := by
  unfold rightN; rw [if_pos (by omega), if_pos hd]
theorem rightN_deg {m : Nat} {d : Int} (hm : m ≤ 65536) (hd : rightD d = false) : rightN m d = 22 := by
  unfold rightN; rw [if_pos (by omega), hd]; rfl
theorem rightN_no {n d : Int} (hn : ¬ (0 ≤ n ∧ n ≤ 65536)) : rightN n d = 31 := by
  unfold rightN; rw [if_neg hn]
theorem dconfig_any (d : Int) (w : World) : Calls Try.prog 19 #[.int .i64 d] w fun e w' => e = .returned (.agg #[.int .i64 2, .int .i64 d]) ∧ Below w.heap.size w w' := by
  have hs := (Stage.start w).alloc #[.int .i64 0, .int .i64 0] 49
  have f0 := hs.free 0 rfl 0
  have f1 := hs.free 0 rfl 1
  have hs2 := (hs.store 0 rfl 0 (.int .i64 2)).store 0 rfl 1 (.int .i64 d)
  have k0 := hs2.cell 0 rfl (o := 0) rfl
  have k1 := hs2.cell 0 rfl (o := 1) rfl
  go_enter Try.func19, Try.ntmps19
  go_wp2_with fail
  exact bodyPost_ret (v := .agg #[.int .i64 2, .int .i64 d]) (by simp [results, Try.results19, go_sem]) rfl ⟨rfl, ((Stage.start w).alloc #[.int .i64 2, .int .i64 d] 49).below⟩
set_option maxRecDepth 100000 in
theorem dnew_walk (n d : Int) (w : World) : Calls Try.prog 3 #[.int .i64 n, .int .i64 d] w fun e w' => e = .returned (.bool true) ∧ Below w.heap.size w w' := by
  by_cases hn : 0 ≤ n ∧ n ≤ 65536
  · obtain ⟨k, rfl⟩ : ∃ k : Nat, n = k := ⟨n.toNat, by omega⟩
    cases hr : rightD d
    · have hR := fun w1 => right_any k d w1
      rw [rightN_deg (by omega) hr] at hR
      have hN := fun w1 => new_da_deg k (by omega) d hr w1
      go_enter Try.func3, Try.ntmps3
      go_wp2_with fail
      refine (dalive_any w).mono ?_
      rintro e w1 ⟨rfl, hb⟩
      go_wp2_with fail
      refine (hN w1).mono ?_
      rintro e w2 ⟨rfl, hb2⟩
      go_wp2_with fail
      refine (hR w2).mono ?_
      rintro e w3 ⟨rfl, rfl⟩
      go_wp2_with fail
      go_ret
      exact ⟨rfl, below_chain hb hb2⟩
    · have hR := fun w1 => right_any k d w1
      rw [rightN_yes (by omega) hr] at hR
      obtain ⟨h1, h2⟩ := rightD_iff.1 hr
      obtain ⟨dn, rfl⟩ : ∃ dn : Nat, d = dn := ⟨d.toNat, by omega⟩
      have hd : 2 ≤ dn ∧ dn ≤ 16 := by omega
      have h1i : inInt 1 := ⟨by omega, by omega⟩
      clear hr h1 h2
      go_enter Try.func3, Try.ntmps3
      go_wp2_with fail
      refine (dalive_any w).mono ?_
      rintro e w1 ⟨rfl, hb⟩
      go_wp2_with fail
      refine (dary_start k dn (by omega) hd ((Stage.start w).later hb)).mono ?_
      rintro e w2 ⟨p, c, rfl, hs⟩
      have N := dary_nests p c dn hd
      replace hR := hR w2
      have hC : Calls Try.prog 12 #[ptrV c] w2 fun e w' => e = .returned (.int .i64 k) ∧ Stage (fun _ => False) w [Ob.dary p c dn (newW k) 0] w' := by
        have := hs.askB 0 rfl (fun _ ho => N.cap ho)
        rw [show ((newW k).cells.length : Int) = k by simp [newW]] at this
        exact this
      have p0 := (hs.get (i := 0) rfl).elim fun _ ho => dary_there ho
      unfold daryH at p0
      go_wp2_with fail
      refine hR.mono ?_
      rintro e w3 ⟨rfl, rfl⟩
      clear hR
      go_wp2_with fail
      refine hC.mono ?_
      rintro e w3 ⟨rfl, hs3⟩
      clear hC hs p0
      have hG := hs3.ask 0 rfl (fun _ ho => degree_da ho)
      have hD := hs3.askB 0 rfl (fun _ ho => depth_da 1 h1i ho)
      rw [show lenW (newW k) 1 = 0 by simp [lenW, newW, List.countP_replicate, CellD.off], show depthD (dn : Int) ((0 : Nat) : Int) = 0 from by unfold depthD; rw [if_neg (by omega)]] at hD
      go_wp2_with fail
      refine hG.mono ?_
      rintro e w4 ⟨rfl, rfl⟩
      clear hG
      go_wp2_with fail
      refine hD.mono ?_
      rintro e w4 ⟨rfl, hs4⟩
      clear hD hs3
      have p0 := (hs4.get (i := 0) rfl).elim fun _ ho => dary_there ho
      unfold daryH at p0
      have hS : Calls Try.prog 15 #[ptrV c] w4 fun e w' => e = .returned (.int .i64 0) ∧ Stage (fun _ => False) w [Ob.dary p c dn (newW k) 0] w' := hs4.askB 0 rfl (fun _ ho => N.steps ho)
      go_wp2_with fail
      refine hS.mono ?_
      rintro e w5 ⟨rfl, hs5⟩
      go_wp2_with fail
      go_ret
      exact ⟨rfl, hs5.below⟩
  · have hR := fun w1 => right_any n d w1
    rw [rightN_no hn] at hR
    go_enter Try.func3, Try.ntmps3
    go_wp2_with fail
    refine (dalive_any w).mono ?_
    rintro e w1 ⟨rfl, hb⟩
    go_wp2_with fail
    refine (new_da_no n d w1 hn).mono ?_
    rintro e w2 ⟨rfl, rfl⟩
    go_wp2_with fail
    refine (hR w1).mono ?_
    rintro e w3 ⟨rfl, rfl⟩
    go_wp2_with fail
    go_ret
    exact ⟨rfl, hb⟩
set_option maxRecDepth 100000 in
theorem druns_walk (d : Int) (C : Nat) (hC : C ≤ 255) (a0 : Option Addr) (n0 cap : Nat) (hcap : n0 ≤ cap ∧ cap ≤ 9223372036854775807) (w : World) (hact : ActsAt w a0 n0) :
    Calls Try.prog 4 #[.int .i64 d, .int .u8 C, .slice a0 n0 cap] w fun e w' => e = .returned (.bool true) ∧ Below w.heap.size w w' := by
  obtain ⟨m, hm⟩ : ∃ m, m = C % 30 := ⟨_, rfl⟩
  have hm30 : m < 30 := by omega
  have q1 : Int.tmod (C : Int) 30 = (m : Int) := by rw [hm]; exact (Int.ofNat_tmod C 30).symm
  clear hm
  go_enter Try.func4, Try.ntmps4
  go_wp2_with fail
  refine (dalive_any w).mono ?_
  rintro e w1 ⟨rfl, hb⟩
  by_cases h60 : (60 : Int) < n0
  · go_wp2_with fail
    go_ret
    exact ⟨rfl, hb⟩
  · have hR := right_any m d w1
    cases hr : rightD d
    · rw [rightN_deg (by omega) hr] at hR
      go_wp2_with fail
      refine hR.mono ?_
      rintro e w2 ⟨rfl, rfl⟩
      go_wp2_with fail
      go_ret
      exact ⟨rfl, hb⟩
    · rw [rightN_yes (by omega) hr] at hR
      obtain ⟨h1, h2⟩ := rightD_iff.1 hr
      obtain ⟨dn, rfl⟩ : ∃ dn : Nat, d = dn := ⟨d.toNat, by omega⟩
      have hd : 2 ≤ dn ∧ dn ≤ 16 := by omega
      clear hr h1 h2
      have hO := dopen_st m dn (by omega) hd ((Stage.start w).later hb)
      go_wp2_with fail
      refine hR.mono ?_
      rintro e w2 ⟨rfl, rfl⟩
      clear hR
      go_wp2_with fail
      refine hO.mono ?_
      rintro e w2 ⟨p, c, rfl, hs⟩
      clear hO
      replace hs : Stage (fun _ => False) w [Ob.dary p c dn (newW m) 0] w2 := hs
      have hX := runs_one (runs_any (dary_nests p c dn hd) m (by omega) a0 n0 cap hcap hact hs)
      go_wp2_with fail
      refine hX.mono ?_
      rintro e w3 ⟨rfl, hb3⟩
      go_wp2_with fail
      go_ret
      exact ⟨rfl, hb3⟩
set_option maxRecDepth 100000 in
theorem dlimits_walk (d : Int) (C : Nat) (hC : C ≤ 255) (a0 : Option Addr) (n0 cap : Nat) (hcap : n0 ≤ cap ∧ cap ≤ 9223372036854775807) (w : World) (hact : ActsAt w a0 n0) :
    Calls Try.prog 5 #[.int .i64 d, .int .u8 C, .slice a0 n0 cap] w fun e w' => e = .returned (.bool true) ∧ Below w.heap.size w w' := by
  obtain ⟨m, hm⟩ : ∃ m, m = C % 200 := ⟨_, rfl⟩
  have hm30 : m < 200 := by omega
  have q1 : Int.tmod (C : Int) 200 = (m : Int) := by rw [hm]; exact (Int.ofNat_tmod C 200).symm
  clear hm
  go_enter Try.func5, Try.ntmps5
  go_wp2_with fail
  refine (dalive_any w).mono ?_
  rintro e w1 ⟨rfl, hb⟩
  by_cases h60 : (300 : Int) < n0
  · go_wp2_with fail
    go_ret
    exact ⟨rfl, hb⟩
  · have hR := right_any m d w1
    cases hr : rightD d
    · rw [rightN_deg (by omega) hr] at hR
      go_wp2_with fail
      refine hR.mono ?_
      rintro e w2 ⟨rfl, rfl⟩
      go_wp2_with fail
      go_ret
      exact ⟨rfl, hb⟩
    · rw [rightN_yes (by omega) hr] at hR
      obtain ⟨h1, h2⟩ := rightD_iff.1 hr
      obtain ⟨dn, rfl⟩ : ∃ dn : Nat, d = dn := ⟨d.toNat, by omega⟩
      have hd : 2 ≤ dn ∧ dn ≤ 16 := by omega
      clear hr h1 h2
      have hO := dopen_st m dn (by omega) hd ((Stage.start w).later hb)
      go_wp2_with fail
      refine hR.mono ?_
      rintro e w2 ⟨rfl, rfl⟩
      clear hR
      go_wp2_with fail
      refine hO.mono ?_
      rintro e w2 ⟨p, c, rfl, hs⟩
      clear hO
      replace hs : Stage (fun _ => False) w [Ob.dary p c dn (newW m) 0] w2 := hs
      go_wp2_with fail
      refine (dconfig_any dn w2).mono ?_
      rintro e w3 ⟨rfl, hb2⟩
      have hs3 := hs.later hb2
      have hX := limits_num (dary_nests p c dn hd) 2 dn true (fun h => dary_range h) (fun hf h => dary_limit hd hf h) m (by omega) a0 n0 cap hcap hact hs3
      go_wp2_with fail
      refine hX.mono ?_
      rintro e w4 ⟨rfl, hb3⟩
      go_wp2_with fail
      go_ret
      exact ⟨rfl, hb3⟩
end Go.Proofs.Ytlbbgdpdaelcdaa
