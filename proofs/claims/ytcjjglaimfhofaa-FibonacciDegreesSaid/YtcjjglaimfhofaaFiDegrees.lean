/- FibonacciDegrees, walked: whatever is done, no slot has too many children, and all children together are all slots but the topmost ones. -/
import Derived.Test.YtcjjglaimfhofaaFiTrees
namespace Go.Proofs.Ytcjjglaimfhofaa
open Go.RowKit Go.Sort

/-- The children of the first j slots, as far as these are in h. -/
def degS (W : WS) (K : Int → List Int) (h : Nat) : Nat → Nat
  | 0 => 0
  | j + 1 => degS W K h j + if (cellW W j).home = h then (K j).length else 0
theorem degS_filter (W : WS) (K : Int → List Int) (h : Nat) : ∀ j : Nat, ((((List.range j).map fun i : Nat => (i : Int)).filter fun y => (cellW W y).home == h).map fun x => (K x).length).sum = degS W K h j
  | 0 => rfl
  | j + 1 => by
    rw [List.range_succ, List.map_append, List.filter_append, List.map_append, List.sum_append, degS_filter W K h j, degS]
    congr 1
    by_cases e : (cellW W j).home = h
    · simp [e]
    · simp [e]
section
variable {n : Nat} {W : WS} {g : FiG} {S : RSt} {z : Nat → Int}
theorem FiOk.degs (I : FiOk n W g.K g.R g.T S z) (h : Nat) (hp : 1 ≤ h) : degS W g.K h W.cells.length + rootsI g h = lenW W h := by
  have h1 := I.mid.count h hp
  have e : slotsW W h = ((List.range W.cells.length).map fun i : Nat => (i : Int)).filter fun y => (cellW W y).home == h := by unfold slotsW; rw [if_neg (by omega)]
  rw [e, degS_filter] at h1
  unfold rootsI
  rw [if_pos (by omega)]
  exact h1
theorem FiOk.kfew (I : FiOk n W g.K g.R g.T S z) (x : Int) : (g.K x).length ≤ n := by
  have hFb := I.mid.f.fb
  rw [I.len] at hFb
  exact nodup_below n _ (hFb.nodup x) fun y hy => (hFb.rng x y hy).2
theorem FiOk.degs_few (I : FiOk n W g.K g.R g.T S z) (h : Nat) : ∀ j : Nat, degS W g.K h j ≤ j * n
  | 0 => Nat.zero_le _
  | j + 1 => by
    have h1 := I.degs_few h j
    have h2 := I.kfew j
    rw [degS, Nat.succ_mul]
    split <;> omega
theorem FiOk.deg_most (I : FiOk n W g.K g.R g.T S z) (hf : W.Fit) {h : Nat} (hp : 1 ≤ h) {x : Int} (hx : (cellW W x).home = h) : (g.K x).length ≤ 2 * Lib.bitLen (lenW W h) := by
  have hlen := (homes_all W).size h hp
  have hlt : (slotsW W h).length < 2 ^ Lib.bitLen (lenW W h) := by
    rw [hlen]
    refine lt_bits _ ?_
    have := len_le W h
    have := hf.cap
    omega
  obtain ⟨had, D⟩ := I.deg
  exact D.home I.mid.f (in_home.2 (by omega)) hx hlt
theorem FiOk.none_out (I : FiOk n W g.K g.R g.T S z) {x : Int} (hx : ¬ inB n x) : g.K x = [] := by
  have hFb := I.mid.f.fb
  rw [I.len] at hFb
  cases e : g.K x with
  | nil => rfl
  | cons y l => exact absurd (hFb.rng x y (by rw [e]; simp)).1 hx
end
set_option maxRecDepth 100000 in
set_option maxHeartbeats 16000000 in
theorem fdegrees_walk (C : Nat) (hC : C ≤ 255) (a0 : Option Addr) (n0 cap : Nat) (hcap : n0 ≤ cap ∧ cap ≤ 9223372036854775807) (w : World) (hact : ActsAt w a0 n0) :
    Calls Try.prog 9 #[.int .u8 C, .slice a0 n0 cap] w fun e w' => e = .returned (.bool true) ∧ Below w.heap.size w w' := by
  obtain ⟨hcap1, hcap2⟩ := hcap
  obtain ⟨m, hm⟩ : ∃ m, m = C % 60 := ⟨_, rfl⟩
  have hm30 : m < 60 := by omega
  have q1 : Int.tmod (C : Int) 60 = (m : Int) := by rw [hm]; exact (Int.ofNat_tmod C 60).symm
  clear hm
  go_enter Try.func9, Try.ntmps9
  go_wp2_with fail
  refine (falive_any w).mono ?_
  rintro e w1 ⟨rfl, hb⟩
  go_wp2_with fail
  refine (fib_start m (by omega) ((Stage.start w).later hb)).mono ?_
  rintro e w2 ⟨p, c, rfl, hs⟩
  clear hb
  by_cases h60 : (90 : Int) < n0
  · go_wp2_with fail
    go_ret
    exact ⟨rfl, hs.below⟩
  replace hs : Stage (fun _ => False) w [Ob.fibn p c (newW m) fiG0] w2 := hs
  have hW0 : (newW m).cells.length = m := by simp [newW]
  go_wp2_with fail
  refine (refnew_any m (by omega) w2).mono ?_
  rintro e w4 ⟨hv, cv, rfl, hb3, hN3, hF3⟩
  obtain ⟨ha, hc, rfl, _, _⟩ := hN3.hform
  obtain ⟨ca1, cc1, hcv, _, _⟩ := hN3.cform
  rw [hW0] at hcv
  subst hcv
  have hs3 := hs.add (O := Ob.nest (.slice ha (newW m).heaps.length hc) (.slice ca1 m cc1) (newW m)) hb3 ⟨hN3, rfl⟩ hF3
  clear hs hb3 hN3 hF3
  generalize (newW m).heaps.length = n1 at *
  obtain ⟨w6, hw6, hs5⟩ : ∃ w6, w4.alloc (.cells #[.slice ha n1 hc, .slice ca1 m cc1] 59) = w6 ∧ Stage (fun _ => False) w (trL p c w4.heap.size (newW m) fiG0 ha n1 hc ca1 m cc1) w6 := ⟨_, rfl, hs3.alloc _ _⟩
  clear hs3
  go_wp2_with fail
  clear hw6
  generalize w4.heap.size = b8 at *
  generalize newW m = WN at *
  go_loopw [46] (fun i wr => ∃ (k : Nat) (W : WS) (g : FiG) (a : Option Addr) (n d : Nat) (a' : Option Addr) (n' d' : Nat), k ≤ n0 ∧ i = .int .i64 k ∧ W.cells.length = m ∧ Stage (fun _ => False) w (trL p c b8 W g a n d a' n' d') wr) (fun i _ => n0 - (intOf i).toNat)
  case atStart => exact ⟨0, WN, fiG0, ha, n1, hc, ca1, m, cc1, Nat.zero_le _, rfl, hW0, hs5⟩
  case round =>
    clear hs5 hW0
    obtain ⟨k, W, g, a, n, d, a', n', d', hk, rfl, hWm, hs⟩ := hrel
    by_cases hlt : k < n0
    · have hki : (k : Int) < n0 := by omega
      obtain ⟨ba, offa, x, y, z, q, r, rfl, g0, g1, g2, g3, g4, hy, hz⟩ := hact k hlt
      replace g0 := later hs.below g0
      replace g1 := later hs.below g1
      replace g2 := later hs.below g2
      replace g3 := later hs.below g3
      replace g4 := later hs.below g4
      obtain ⟨wr1, hwr1, hs3⟩ : ∃ w9 : World, wr.alloc (.cells #[.int .i64 x, .int .i64 y, .int .i64 z, .int .i64 q, .int .u64 r] 65) = w9 ∧ Stage (fun _ => False) w ([Ob.fibn p c W g, Ob.nest (.slice a n d) (.slice a' n' d') W] ++ [Ob.box b8 #[.slice a n d, .slice a' n' d'] 59, Ob.box wr.heap.size #[.int .i64 x, .int .i64 y, .int .i64 z, .int .i64 q, .int .u64 r] 65]) w9 := ⟨_, rfl, hs.alloc _ _⟩
      have hD := do_st (g := g) (fib_nests p c) x y z q r hy hz hs3
      have k0 := hs3.cell 2 rfl (o := 0) rfl
      have k1 := hs3.cell 2 rfl (o := 1) rfl
      have d0 := hs3.cell 3 rfl (o := 0) rfl
      have d1 := hs3.cell 3 rfl (o := 1) rfl
      have d2 := hs3.cell 3 rfl (o := 2) rfl
      have d3 := hs3.cell 3 rfl (o := 3) rfl
      have d4 := hs3.cell 3 rfl (o := 4) rfl
      go_wp2_with fail
      clear hwr1 g0 g1 g2 g3 g4 k0 k1 d0 d1 d2 d3 d4 hs
      generalize wr.heap.size = bA at *
      refine hD.mono ?_
      rintro e v4 ⟨a2, n2, c2, a3, n3, c3, s2, rfl, _, hs4⟩
      clear hD hs3
      have hWm2 := do_cells W x y z q r
      rw [hWm] at hWm2
      generalize doW W x y z q r = W2 at *
      replace hs4 : Stage (fun _ => False) w [Ob.fibn p c W2 s2, Ob.nest (.slice a2 n2 c2) (.slice a3 n3 c3) W2, Ob.box b8 #[.slice a n d, .slice a' n' d'] 59, Ob.box bA #[.int .i64 x, .int .i64 y, .int .i64 z, .int .i64 q, .int .u64 r] 65] v4 := hs4
      obtain ⟨v5, hv5, hs5⟩ : ∃ v5, v4.alloc (.cells #[.slice a2 n2 c2, .slice a3 n3 c3] 59) = v5 ∧ Stage (fun _ => False) w [Ob.fibn p c W2 s2, Ob.nest (.slice a2 n2 c2) (.slice a3 n3 c3) W2, Ob.box b8 #[.slice a n d, .slice a' n' d'] 59, Ob.box bA #[.int .i64 x, .int .i64 y, .int .i64 z, .int .i64 q, .int .u64 r] 65, Ob.box v4.heap.size #[.slice a2 n2 c2, .slice a3 n3 c3] 59] v5 := ⟨_, rfl, hs4.alloc _ _⟩
      clear hs4
      have y0 := hs5.cell 4 rfl (o := 0) rfl
      have y1 := hs5.cell 4 rfl (o := 1) rfl
      have k0 := hs5.cell 2 rfl (o := 0) rfl
      have k1 := hs5.cell 2 rfl (o := 1) rfl
      have f80 := hs5.free 2 rfl 0
      have f81 := hs5.free 2 rfl 1
      have l8 := hs5.lt 2 rfl
      have x1 := hs5.ne 4 2 rfl rfl (by decide)
      obtain ⟨v8, hv8, hs8⟩ : ∃ v8, (v5.setCell ⟨b8, 0, none⟩ (.slice a2 n2 c2)).setCell ⟨b8, 1, none⟩ (.slice a3 n3 c3) = v8 ∧ Stage (fun _ => False) w (trL p c b8 W2 s2 a2 n2 c2 a3 n3 c3) v8 := ⟨_, rfl, ((hs5.store 2 rfl 0 (.slice a2 n2 c2)).store 2 rfl 1 (.slice a3 n3 c3)).take 3⟩
      clear hs5
      go_wp2_with fail
      go_roundw
      case rel => exact ⟨k + 1, W2, s2, a2, n2, c2, a3, n3, c3, by omega, by go_num, hWm2, hs8⟩
      case measure => simp [intOf]; omega
    · have hki : ¬ (k : Int) < n0 := by omega
      obtain ⟨nn, S, z, I⟩ := (hs.get (i := 0) rfl).elim fun _ ho => fib_ok ho
      have hf := (hs.get (i := 0) rfl).elim fun _ ho => fib_fit ho
      obtain ⟨_, _, e1, _, _⟩ := (hs.nestAt 1 rfl).hform
      obtain ⟨_, _, e2, _, _⟩ := (hs.nestAt 1 rfl).cform
      rw [hWm] at e2
      cases e1
      cases e2
      have hnn : nn = m := by rw [← hWm]; exact I.len.symm
      subst hnn
      have hhl := hf.len
      have hlenW : ∀ h : Int, lenW W h ≤ nn := fun h => by have := len_le W h; omega
      have hdegs := fun (h : Nat) (hp : 1 ≤ h) => I.degs h hp
      rw [hWm] at hdegs
      have hfew := fun (h j : Nat) => I.degs_few h j
      have hmost := fun (h : Nat) (hp : 1 ≤ h) (j : Nat) (hx : (cellW W j).home = h) => I.deg_most hf hp hx
      have hout := fun (x : Int) (hx : ¬ inB nn x) => I.none_out hx
      have hR0 : rootsI g 0 = 0 := by unfold rootsI; rw [if_pos (by omega), show (0 : Int).toNat = 0 from rfl, I.zero]; rfl
      clear I hf hact
      generalize hnh : W.heaps.length = nh at *
      have hk0 := hs.cell 2 rfl (o := 0) rfl
      go_wp2_with fail
      clear hk0
      go_loopw [13] (fun h wr => ∃ hn : Nat, h = .int .i64 hn ∧ 1 ≤ hn ∧ Stage (fun _ => False) w (trL p c b8 W g a nh d a' nn d') wr) (fun h _ => nh - (intOf h).toNat)
      case atStart => exact ⟨1, rfl, by omega, hs⟩
      case round =>
        clear hs
        obtain ⟨hn, rfl, hn1, hs⟩ := hrel
        have k0 := hs.cell 2 rfl (o := 0) rfl
        have k1 := hs.cell 2 rfl (o := 1) rfl
        by_cases hlt2 : hn < nh
        · have hki2 : (hn : Int) < nh := by omega
          go_wp2_with fail
          clear k0 k1
          go_loopw [14, 72] (fun s j wr => ∃ jn : Nat, s = .int .i64 (degS W g.K hn jn) ∧ j = .int .i64 jn ∧ jn ≤ nn ∧ Stage (fun _ => False) w (trL p c b8 W g a nh d a' nn d') wr) (fun _ j _ => nn - (intOf j).toNat)
          case atStart => exact ⟨0, rfl, rfl, Nat.zero_le _, hs⟩
          case round =>
            clear hs
            obtain ⟨jn, rfl, rfl, hj, hs⟩ := hrel
            have hdj := hfew hn jn
            have hjm : jn * nn ≤ 60 * 60 := Nat.mul_le_mul (by omega) (by omega)
            by_cases hlj : jn < nn
            · have hji : (jn : Int) < nn := by omega
              obtain ⟨gc, cc, e, _, u0, u1, u2⟩ := (hs.nestAt 1 rfl).ccell jn (by omega)
              rw [hWm] at e
              cases e
              rw [← cell_nat W jn (by omega)] at u0 u1 u2
              have hstep : degS W g.K hn (jn + 1) = degS W g.K hn jn + if (cellW W jn).home = hn then (g.K jn).length else 0 := rfl
              obtain ⟨w9, hw9, hs9⟩ : ∃ w9, wr.alloc (.cells #[.int .i64 (cellW W jn).home, .int .i64 (cellW W jn).key, .int .u64 (cellW W jn).seq] 68) = w9 ∧ Stage (fun _ => False) w (trL p c b8 W g (a) nh d (some ⟨gc, 0, none⟩) nn d' ++ [Ob.box wr.heap.size #[.int .i64 (cellW W jn).home, .int .i64 (cellW W jn).key, .int .u64 (cellW W jn).seq] 68]) w9 := ⟨_, rfl, hs.alloc _ _⟩
              have c0 := hs9.cell 3 rfl (o := 0) rfl
              by_cases hhm : (cellW W jn).home = hn
              · rw [if_pos hhm] at hstep
                have hdk := hmost hn hn1 jn hhm
                have hkf := hfew hn (jn + 1)
                have hjm2 : (jn + 1) * nn ≤ 60 * 60 := Nat.mul_le_mul (by omega) (by omega)
                have hDg := hs9.askB 0 rfl (fun _ ho => degree_fib (jn : Int) ho)
                have hLn := fun (w' : World) (h' : Stage (fun _ => False) w (trL p c b8 W g (a) nh d (some ⟨gc, 0, none⟩) nn d' ++ [Ob.box wr.heap.size #[.int .i64 (cellW W jn).home, .int .i64 (cellW W jn).key, .int .u64 (cellW W jn).seq] 68]) w') => freflen_st h' 1 rfl (hn : Int)
                have hLb := hlenW (hn : Int)
                have hbl : Lib.bitLen (lenW W hn) ≤ 17 := Nat.le_trans (bitLen_mono (b := 65536) (by omega) (by decide)) (by decide)
                have hBt := fun w9 => refBits_any (lenW W hn : Int) (by omega) (by omega) w9
                have ebl : bitsI (lenW W hn : Int) = (Lib.bitLen (lenW W hn) : Int) := by unfold bitsI; simp
                rw [ebl] at hBt
                generalize Lib.bitLen (lenW W hn) = bl at *
                generalize lenW W hn = ln at *
                generalize hsj1 : degS W g.K hn (jn + 1) = s1 at *
                generalize degS W g.K hn jn = s0 at *
                generalize (g.K jn).length = dk at *
                have w1 : IntKind.i64.wrap ((s0 : Int) + dk) = (s0 : Int) + dk := IntWalk.i64_in _ (by omega)
                have w2 : IntKind.i64.wrap (2 * (bl : Int)) = 2 * (bl : Int) := IntWalk.i64_in _ (by omega)
                have f1 : decide ((dk : Int) < 0) = false := decide_eq_false (by omega)
                have f2 : ¬ (dk : Int) < 0 := by omega
                have f3 : decide (2 * (bl : Int) < (dk : Int)) = false := by simp; omega
                have f4 : ¬ 2 * (bl : Int) < (dk : Int) := by omega
                have f5 : (((cellW W jn).home : Int) != (hn : Int)) = false := by simp; omega
                have hs1i : (s1 : Int) = (s0 : Int) + dk := by omega
                replace hs1i := Lib.hid hs1i
                replace hhm := Lib.hid hhm
                replace hsj1 := Lib.hid hsj1
                clear hs hstep hdk hkf ebl
                have k0 := hs9.cell 2 rfl (o := 0) rfl
                go_wp2_with fail
                refine hDg.mono ?_
                rintro _ v1 ⟨rfl, h1⟩
                clear hDg hs9 c0 k0 hw9 u0 u1 u2
                have k0 := h1.cell 2 rfl (o := 0) rfl
                have k1 := h1.cell 2 rfl (o := 1) rfl
                have hL1 := hLn v1 h1
                go_wp2_with fail
                refine hL1.mono ?_
                rintro _ v2 ⟨rfl, h2⟩
                clear hL1 h1 hLn k0 k1
                go_wp2_with fail
                refine (hBt _).mono ?_
                rintro _ v3 ⟨rfl, rfl⟩
                go_wp2_with fail
                go_roundw
                case rel => exact ⟨jn + 1, by rw [hsj1.out, hs1i.out], by go_num, by omega, h2.take 3⟩
                case measure => simp [intOf]; omega
              · rw [if_neg hhm, Nat.add_zero] at hstep
                have f5 : (((cellW W jn).home : Int) != (hn : Int)) = true := by simp; omega
                replace hstep := Lib.hid hstep
                replace hhm := Lib.hid hhm
                clear hs
                generalize hs0 : degS W g.K hn jn = s0 at *
                replace hs0 := Lib.hid hs0
                go_wp2_with fail
                go_roundw
                case rel => exact ⟨jn + 1, by rw [hstep.out]; rfl, by go_num, by omega, hs9.take 3⟩
                case measure => simp [intOf]; omega
            · obtain rfl : jn = nn := by omega
              have hsum := hdegs hn hn1
              have hLb := hlenW (hn : Int)
              have cR : ∀ dr os, Calls Try.prog 23 #[.pointer (some ⟨p, 0, none⟩), .int .i64 hn] (grow (redrawn wr dr) os) fun e w'' => e = .returned (.int .i64 (rootsI g hn)) ∧ ∃ p : Regrown, w'' = grow (redrawn wr p.d) p.os := fun dr os => Calls.regrown_of (by obtain ⟨F', ho⟩ := (hs.later (below_regrown wr dr os)).get (i := 0) rfl; exact roots_fib hn ⟨by omega, by omega⟩ ho)
              have cL : ∀ dr os, Calls Try.prog 24 #[.agg #[.slice a nh d, .slice a' jn d'], .int .i64 hn] (grow (redrawn wr dr) os) fun e w'' => e = .returned (.int .i64 (lenW W hn)) ∧ ∃ p : Regrown, w'' = grow (redrawn wr p.d) p.os := fun dr os => Calls.regrown_of (reflen_any hn ((hs.later (below_regrown wr dr os)).nestAt 1 rfl))
              have c0 := cell_regrown (hs.cell 2 rfl (o := 0) rfl)
              have c1 := cell_regrown (hs.cell 2 rfl (o := 1) rfl)
              generalize degS W g.K hn jn = s0 at *
              generalize rootsI g hn = ro at *
              generalize lenW W hn = ln at *
              have w1 : IntKind.i64.wrap ((s0 : Int) + ro) = (s0 : Int) + ro := IntWalk.i64_in _ (by omega)
              have f5 : ((s0 : Int) + ro != (ln : Int)) = false := by simp; omega
              replace hsum := Lib.hid hsum
              go_upto_region 29 with fail
              refine wp_region_quiet_below (by kernel_rfl) (by kernel_rfl) ?_
              repeat (first | go_big_quiet_step (first | with_reducible exact cR _ _ | with_reducible exact cL _ _) | quiet_step (fail))
              refine wpQuiet_nil ?_
              intro W4 hw4
              replace hw4 := below_regrown' hw4
              have hs6 := hs.later hw4
              clear cR cL c0 c1 hw4 hs
              go_wp2_with fail
              go_roundw
              case rel => exact ⟨hn + 1, by go_num, by omega, hs6⟩
              case measure => simp [intOf]; omega
        · have hki2 : ¬ (hn : Int) < nh := by omega
          have hD1 : Calls Try.prog 28 #[.pointer (some ⟨p, 0, none⟩), .int .i64 (-1)] wr fun e w' => e = .returned (.int .i64 0) ∧ Stage (fun _ => False) w (trL p c b8 W g a nh d a' nn d') w' := hs.askB 0 rfl (fun _ ho => by
            have h := degree_fib (-1 : Int) ho
            rw [hout (-1) (fun h => by have := h.1; omega)] at h
            exact h)
          have hD2 : ∀ w' : World, Stage (fun _ => False) w (trL p c b8 W g a nh d a' nn d') w' → Calls Try.prog 28 #[.pointer (some ⟨p, 0, none⟩), .int .i64 nn] w' fun e w' => e = .returned (.int .i64 0) ∧ Stage (fun _ => False) w (trL p c b8 W g a nh d a' nn d') w' := fun w' hs' => hs'.askB 0 rfl (fun _ ho => by
            have h := degree_fib (nn : Int) ho
            rw [hout nn (fun h => by have := h.2; omega)] at h
            exact h)
          have hD3 : ∀ w' : World, Stage (fun _ => False) w (trL p c b8 W g a nh d a' nn d') w' → Calls Try.prog 23 #[.pointer (some ⟨p, 0, none⟩), .int .i64 0] w' fun e w' => e = .returned (.int .i64 0) ∧ Stage (fun _ => False) w (trL p c b8 W g a nh d a' nn d') w' := fun w' hs' => hs'.askB 0 rfl (fun _ ho => by
            have h := roots_fib (0 : Int) ⟨by omega, by omega⟩ ho
            rw [hR0] at h
            exact h)
          clear hs
          go_wp2_with fail
          refine hD1.mono ?_
          rintro _ v1 ⟨rfl, h1⟩
          have hX := hD2 v1 h1
          clear hD1 hD2 h1
          go_wp2_with fail
          refine hX.mono ?_
          rintro _ v2 ⟨rfl, h2⟩
          have hX := hD3 v2 h2
          clear hD3 h2
          go_wp2_with fail
          refine hX.mono ?_
          rintro _ v3 ⟨rfl, h3⟩
          go_wp2_with fail
          go_ret
          exact ⟨rfl, h3.below⟩
end Go.Proofs.Ytcjjglaimfhofaa
