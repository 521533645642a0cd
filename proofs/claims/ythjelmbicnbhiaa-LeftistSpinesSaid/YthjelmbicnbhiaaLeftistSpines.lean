/- LeftistSpines, walked: it returns true; of what was in memory nothing is changed. -/
import Derived.Test.YthjelmbicnbhiaaLeftistSideMath
import Derived.Deep.CutBlock
import Derived.Deep.DeepCutAuto
namespace Go.Proofs.Ythjelmbicnbhiaa
open Go.RowKit Go.Sort

set_option maxRecDepth 100000 in
set_option maxHeartbeats 8000000 in
theorem lspines_walk (C : Nat) (hC : C ≤ 255) (a0 : Option Addr) (n0 cap : Nat) (hcap : n0 ≤ cap ∧ cap ≤ 9223372036854775807) (w : World) (hact : ActsAt w a0 n0) :
    Calls Try.prog 8 #[.int .u8 C, .slice a0 n0 cap] w fun e w' => e = .returned (.bool true) ∧ Below w.heap.size w w' := by
  obtain ⟨hcap1, hcap2⟩ := hcap
  obtain ⟨m, hm⟩ : ∃ m, m = C % 60 := ⟨_, rfl⟩
  have hm30 : m < 60 := by omega
  have q1 : Int.tmod (C : Int) 60 = (m : Int) := by rw [hm]; exact (Int.ofNat_tmod C 60).symm
  clear hm
  go_enter Try.func8, Try.ntmps8
  go_wp2_with fail
  refine (lalive_any w).mono ?_
  rintro e w1 ⟨rfl, hb⟩
  go_wp2_with fail
  refine (left_start m (by omega) ((Stage.start w).later hb)).mono ?_
  rintro e w2 ⟨p, c, rfl, hs⟩
  by_cases h60 : (90 : Int) < n0
  · go_wp2_with fail
    go_ret
    exact ⟨rfl, hs.below⟩
  · have hN := refnew_any m (by omega) w2
    go_wp2_with fail
    refine hN.mono ?_
    rintro e w3 ⟨hv, cv, rfl, hb3, hN3, hF3⟩
    clear hN
    obtain ⟨ha, hc, rfl, _, _⟩ := hN3.hform
    obtain ⟨ca, cc, hcv, _, _⟩ := hN3.cform
    have hW0 : (newW m).cells.length = m := by simp [newW]
    rw [hW0] at hcv
    subst hcv
    generalize hn1 : (newW m).heaps.length = n1 at *
    have hs2 := (hs.add (O := Ob.nest (.slice ha n1 hc) (.slice ca m cc) (newW m)) hb3 ⟨hN3, rfl⟩ hF3).alloc #[.slice ha n1 hc, .slice ca m cc] 58
    clear hs hb3 hN3 hF3 hn1
    obtain ⟨w4, hw4, hs⟩ : ∃ w4, w3.alloc (.cells #[.slice ha n1 hc, .slice ca m cc] 58) = w4 ∧ Stage (fun _ => False) w [Ob.leftist p c (newW m) 0 (fun _ => .nil), Ob.nest (.slice ha n1 hc) (.slice ca m cc) (newW m), Ob.box w3.heap.size #[.slice ha n1 hc, .slice ca m cc] 58] w4 := ⟨_, rfl, hs2⟩
    clear hs2
    go_wp2_with fail
    clear hw4
    generalize w3.heap.size = b8 at *
    generalize newW m = WN at *
    go_loopw [46] (fun i wr => ∃ (k : Nat) (W : WS) (s : Int) (Ts : Nat → Tr) (a : Option Addr) (n c' : Nat) (a' : Option Addr) (n' c'' : Nat), k ≤ n0 ∧ i = .int .i64 k ∧ Stage (fun _ => False) w [Ob.leftist p c W s Ts, Ob.nest (.slice a n c') (.slice a' n' c'') W, Ob.box b8 #[.slice a n c', .slice a' n' c''] 58] wr) (fun i _ => n0 - (intOf i).toNat)
    case atStart => exact ⟨0, WN, 0, fun _ => .nil, ha, n1, hc, ca, m, cc, Nat.zero_le _, rfl, hs⟩
    case round =>
      clear hs hW0
      obtain ⟨k, W, s, Ts, a, n, c', a', n', c'', hk, rfl, hs⟩ := hrel
      by_cases hlt : k < n0
      · have hki : (k : Int) < n0 := by omega
        obtain ⟨ba, offa, x, y, z, q, r, rfl, g0, g1, g2, g3, g4, hy, hz⟩ := hact k hlt
        replace g0 := later hs.below g0
        replace g1 := later hs.below g1
        replace g2 := later hs.below g2
        replace g3 := later hs.below g3
        replace g4 := later hs.below g4
        obtain ⟨wr1, hwr1, hs0⟩ : ∃ w9 : World, wr.alloc (.cells #[.int .i64 x, .int .i64 y, .int .i64 z, .int .i64 q, .int .u64 r] 64) = w9 ∧ Stage (fun _ => False) w ([Ob.leftist p c W s Ts, Ob.nest (.slice a n c') (.slice a' n' c'') W] ++ [Ob.box b8 #[.slice a n c', .slice a' n' c''] 58, Ob.box wr.heap.size #[.int .i64 x, .int .i64 y, .int .i64 z, .int .i64 q, .int .u64 r] 64]) w9 := ⟨_, rfl, hs.alloc _ _⟩
        have hD := do_st (g := (s, Ts)) (left_nests p c) x y z q r hy hz hs0
        have k0 := hs0.cell 2 rfl (o := 0) rfl
        have k1 := hs0.cell 2 rfl (o := 1) rfl
        have d0 := hs0.cell 3 rfl (o := 0) rfl
        have d1 := hs0.cell 3 rfl (o := 1) rfl
        have d2 := hs0.cell 3 rfl (o := 2) rfl
        have d3 := hs0.cell 3 rfl (o := 3) rfl
        have d4 := hs0.cell 3 rfl (o := 4) rfl
        go_wp2_with fail
        clear hwr1 g0 g1 g2 g3 g4 k0 k1 d0 d1 d2 d3 d4 hs
        generalize wr.heap.size = bA at *
        refine hD.mono ?_
        rintro e v4 ⟨a2, n2, c2, a3, n3, c3, ⟨s2, T2⟩, rfl, _, hs4⟩
        clear hD hs0
        generalize doW W x y z q r = W2 at *
        replace hs4 : Stage (fun _ => False) w [Ob.leftist p c W2 s2 T2, Ob.nest (.slice a2 n2 c2) (.slice a3 n3 c3) W2, Ob.box b8 #[.slice a n c', .slice a' n' c''] 58, Ob.box bA #[.int .i64 x, .int .i64 y, .int .i64 z, .int .i64 q, .int .u64 r] 64] v4 := hs4
        obtain ⟨v5, hv5, hs5⟩ : ∃ v5, v4.alloc (.cells #[.slice a2 n2 c2, .slice a3 n3 c3] 58) = v5 ∧ Stage (fun _ => False) w [Ob.leftist p c W2 s2 T2, Ob.nest (.slice a2 n2 c2) (.slice a3 n3 c3) W2, Ob.box b8 #[.slice a n c', .slice a' n' c''] 58, Ob.box bA #[.int .i64 x, .int .i64 y, .int .i64 z, .int .i64 q, .int .u64 r] 64, Ob.box v4.heap.size #[.slice a2 n2 c2, .slice a3 n3 c3] 58] v5 := ⟨_, rfl, hs4.alloc _ _⟩
        clear hs4
        have j0 := hs5.cell 4 rfl (o := 0) rfl
        have j1 := hs5.cell 4 rfl (o := 1) rfl
        have f0 := hs5.free 2 rfl 0
        have f1 := hs5.free 2 rfl 1
        have l8 := hs5.lt 2 rfl
        have k0 := hs5.cell 2 rfl (o := 0) rfl
        have k1 := hs5.cell 2 rfl (o := 1) rfl
        obtain ⟨v6, hv6, hs6⟩ : ∃ v6, (v5.setCell ⟨b8, 0, none⟩ (.slice a2 n2 c2)).setCell ⟨b8, 1, none⟩ (.slice a3 n3 c3) = v6 ∧ Stage (fun _ => False) w [Ob.leftist p c W2 s2 T2, Ob.nest (.slice a2 n2 c2) (.slice a3 n3 c3) W2, Ob.box b8 #[.slice a2 n2 c2, .slice a3 n3 c3] 58, Ob.box bA #[.int .i64 x, .int .i64 y, .int .i64 z, .int .i64 q, .int .u64 r] 64] v6 := ⟨_, rfl, ((hs5.store 2 rfl 0 _).store 2 rfl 1 _).take 4⟩
        clear hs5
        obtain ⟨F6, ho6⟩ := hs6.get (i := 0) rfl
        obtain ⟨I, hL⟩ := left_inv ho6
        have hf := left_fit ho6
        clear ho6
        have d1 := hs6.cell 3 rfl (o := 1) rfl
        have hSp := hs6.askNew (O' := fun v => Ob.ints v (sideY T2 y)) (r := fun v => v) 0 rfl (fun _ ho => spine_le y hy ho)
        go_wp2_with fail
        clear hv5 hv6 j0 j1 f0 f1 l8 k0 k1 d1
        refine hSp.mono ?_
        rintro e v7 ⟨rv, rfl, hs7⟩
        clear hSp hs6
        replace hs7 : Stage (fun _ => False) w [Ob.leftist p c W2 s2 T2, Ob.nest (.slice a2 n2 c2) (.slice a3 n3 c3) W2, Ob.box b8 #[.slice a2 n2 c2, .slice a3 n3 c3] 58, Ob.box bA #[.int .i64 x, .int .i64 y, .int .i64 z, .int .i64 q, .int .u64 r] 64, Ob.ints rv (sideY T2 y)] v7 := hs7
        have hMin := hs7.askB 1 rfl (fun _ ho => refmin_any y ho.1)
        have k0 := hs7.cell 2 rfl (o := 0) rfl
        have k1 := hs7.cell 2 rfl (o := 1) rfl
        have d1 := hs7.cell 3 rfl (o := 1) rfl
        go_wp2_with fail
        refine hMin.mono ?_
        rintro e v8 ⟨rfl, hs8⟩
        clear hMin hs7 k0 k1 d1
        have hmin := sideY_min I y
        have hlen := sideY_len I hf hL y
        have hsm := sideY_small I hf y
        have hahead := fun i => sideY_ahead I y (i := i)
        have hrank := fun wx (h : Stage (fun _ => False) w [Ob.leftist p c W2 s2 T2, Ob.nest (.slice a2 n2 c2) (.slice a3 n3 c3) W2, Ob.box b8 #[.slice a2 n2 c2, .slice a3 n3 c3] 58, Ob.box bA #[.int .i64 x, .int .i64 y, .int .i64 z, .int .i64 q, .int .u64 r] 64, Ob.row 0 3 1 rv (sideY T2 y).length (cellsBy intC (sideY T2 y))] wx) (i : Nat) (hi : i < (sideY T2 y).length) => h.call 0 rfl (fun _ ho => rank_side y hi ho)
        have hlenW := Nat.le_trans (len_le W2 y) hf.cap
        clear I hL hf
        generalize sideY T2 y = LS at *
        obtain ⟨ra, rc, hrv, hrc1, hrc2⟩ := hs8.intsForm 4 rfl
        subst hrv
        have hfitW : lenW W2 y ≤ 65536 := hlenW
        clear hlenW
        obtain ⟨br, hbr⟩ := bits_range (lenW W2 y) (by omega)
        replace hs8 : Stage (fun _ => False) w [Ob.leftist p c W2 s2 T2, Ob.nest (.slice a2 n2 c2) (.slice a3 n3 c3) W2, Ob.box b8 #[.slice a2 n2 c2, .slice a3 n3 c3] 58, Ob.box bA #[.int .i64 x, .int .i64 y, .int .i64 z, .int .i64 q, .int .u64 r] 64, Ob.row 0 3 1 (.slice ra LS.length rc) LS.length (cellsBy intC LS)] v8 := hs8
        generalize hLN : LS.length = LN at *
        replace hLN := Lib.hid hLN
        have hsm' : (LN : Int) ≤ 65536 := by omega
        have hcmp : decide (bitsI (lenW W2 y) < (LN : Int)) = false := decide_eq_false (by omega)
        go_upto_region 15 with fail
        go_cut [13, 14, 15, 70, 71, 72, 73, 74, 75, 76, 77, 78, 79, 80, 81, 82, 83, 84, 85, 86, 87, 88, 89, 90, 91, 92, 93, 94, 95, 96, 97, 98, 99, 100, 101, 102, 103, 104, 105, 106, 107, 108, 109, 110] (fun s13 _ _ _ _ _ _ _ _ _ _ _ _ _ _ _ _ _ _ _ _ _ _ _ _ _ _ _ _ _ _ _ _ _ _ _ _ _ _ _ _ _ _ s110 wx => s13 = .slice ra LN rc ∧ s110 = .bool false ∧ Stage (fun _ => False) w [Ob.leftist p c W2 s2 T2, Ob.nest (.slice a2 n2 c2) (.slice a3 n3 c3) W2, Ob.box b8 #[.slice a2 n2 c2, .slice a3 n3 c3] 58, Ob.box bA #[.int .i64 x, .int .i64 y, .int .i64 z, .int .i64 q, .int .u64 r] 64, Ob.row 0 3 1 (.slice ra LN rc) LN (cellsBy intC LS)] wx)
        case first =>
          clear hahead hrank hlen
          have hD := hs8.drew
          have cA := hD.askB 1 rfl (fun _ ho => reflen_any y ho.1)
          have cB := fun wx => refBits_any (lenW W2 y) (by omega) (by omega) wx
          have hpos := (hD.get (i := 0) rfl).elim fun _ ho => (rank_det z ho).1
          have cC := fun wx (h : Stage (fun _ => False) w [Ob.leftist p c W2 s2 T2, Ob.nest (.slice a2 n2 c2) (.slice a3 n3 c3) W2, Ob.box b8 #[.slice a2 n2 c2, .slice a3 n3 c3] 58, Ob.box bA #[.int .i64 x, .int .i64 y, .int .i64 z, .int .i64 q, .int .u64 r] 64, Ob.row 0 3 1 (.slice ra LN rc) LN (cellsBy intC LS)] wx) => h.call 0 rfl (fun _ ho => (rank_det z ho).2)
          have cD := fun wx (h : Stage (fun _ => False) w [Ob.leftist p c W2 s2 T2, Ob.nest (.slice a2 n2 c2) (.slice a3 n3 c3) W2, Ob.box b8 #[.slice a2 n2 c2, .slice a3 n3 c3] 58, Ob.box bA #[.int .i64 x, .int .i64 y, .int .i64 z, .int .i64 q, .int .u64 r] 64, Ob.row 0 3 1 (.slice ra LN rc) LN (cellsBy intC LS)] wx) => h.askB 1 rfl (fun _ ho => refin_any z ho.1)
          have K : ∀ wx, Stage (fun _ => False) w [Ob.leftist p c W2 s2 T2, Ob.nest (.slice a2 n2 c2) (.slice a3 n3 c3) W2, Ob.box b8 #[.slice a2 n2 c2, .slice a3 n3 c3] 58, Ob.box bA #[.int .i64 x, .int .i64 y, .int .i64 z, .int .i64 q, .int .u64 r] 64, Ob.row 0 3 1 (.slice ra LN rc) LN (cellsBy intC LS)] wx → wx.cell? ⟨b8, 0, none⟩ = some (.slice a2 n2 c2) ∧ wx.cell? ⟨b8, 1, none⟩ = some (.slice a3 n3 c3) ∧ wx.cell? ⟨bA, 1, none⟩ = some (.int .i64 y) ∧ wx.cell? ⟨bA, 2, none⟩ = some (.int .i64 z) := fun wx h => ⟨h.cell 2 rfl rfl, h.cell 2 rfl rfl, h.cell 3 rfl rfl, h.cell 3 rfl rfl⟩
          generalize rankV W2 T2 z = rz at *
          generalize bitsI (lenW W2 y) = lb at *
          generalize inW W2 z = inz at *
          generalize minI W2 y = mI at *
          generalize (lenW W2 y : Int) = lw at *
          rcases hmin with ⟨hnil, hmb⟩ | ⟨hmb, hl0, hl1⟩
          · obtain rfl : LN = 0 := by rw [← hLN.out, hnil]; rfl
            have K0 := K _ hD
            have hc0 : decide (lb < (0 : Int)) = false := decide_eq_false (by omega)
            clear hs8 hnil hcmp
            go_wp2_with fail
            refine wp_region_held_drew (S := (fun w' => w'.cell? ⟨b8, 0, none⟩ = some (.slice a2 n2 c2) ∧ w'.cell? ⟨b8, 1, none⟩ = some (.slice a3 n3 c3) ∧ w'.cell? ⟨bA, 1, none⟩ = some (.int .i64 y) ∧ w'.cell? ⟨bA, 2, none⟩ = some (.int .i64 z))) (by kernel_rfl) K0 (fun hHeld => ?_)
            refine wpAnyH_take (i := 0) (oi := ?_) (v := ?_) ?_ (by kernel_rfl) ?_ ?_ ?_ ?_ hHeld ?_
            rotate_left 2
            · simp only [List.getElem?_toArray, List.getElem?_cons_zero]
              exact rfl
            · kernel_rfl
            · kernel_rfl
            · exact fun _ _ _ h => h
            · refine Or.inl ⟨by rfl, ?_⟩
              intro w hSw
              try dsimp only at hSw
              go_simp
              try with_reducible rfl
            simp only [Act.put, List.setIfInBounds_toArray, List.set_cons_zero, List.set_cons_succ]
            refine wpAnyH_take (i := 1) (oi := ?_) (v := ?_) ?_ (by kernel_rfl) ?_ ?_ ?_ ?_ hHeld ?_
            rotate_left 2
            · simp only [List.getElem?_toArray, List.getElem?_cons_succ, List.getElem?_cons_zero]
              exact rfl
            · kernel_rfl
            · kernel_rfl
            · exact fun _ _ _ h => h
            · refine Or.inl ⟨by rfl, ?_⟩
              intro w hSw
              try dsimp only at hSw
              go_simp
              try with_reducible rfl
            simp only [Act.put, List.setIfInBounds_toArray, List.set_cons_zero, List.set_cons_succ]
            refine wpAnyH_take (i := 2) (oi := ?_) (v := ?_) ?_ (by kernel_rfl) ?_ ?_ ?_ ?_ hHeld ?_
            rotate_left 2
            · simp only [List.getElem?_toArray, List.getElem?_cons_succ, List.getElem?_cons_zero]
              exact rfl
            · kernel_rfl
            · kernel_rfl
            · exact fun _ _ _ h => h
            · refine Or.inl ⟨by rfl, ?_⟩
              intro w hSw
              try dsimp only at hSw
              go_simp
              try with_reducible rfl
            simp only [Act.put, List.setIfInBounds_toArray, List.set_cons_zero, List.set_cons_succ]
            refine wpAnyH_take (i := 3) (oi := ?_) (v := ?_) ?_ (by kernel_rfl) ?_ ?_ ?_ ?_ hHeld ?_
            rotate_left 2
            · simp only [List.getElem?_toArray, List.getElem?_cons_succ, List.getElem?_cons_zero]
              exact rfl
            · kernel_rfl
            · kernel_rfl
            · exact fun _ _ _ h => h
            · refine Or.inl ⟨by rfl, ?_⟩
              intro w hSw
              try dsimp only at hSw
              go_simp
              try with_reducible rfl
            simp only [Act.put, List.setIfInBounds_toArray, List.set_cons_zero, List.set_cons_succ]
            refine wpAnyH_take (i := 4) (oi := ?_) (v := ?_) ?_ (by kernel_rfl) ?_ ?_ ?_ ?_ hHeld ?_
            rotate_left 2
            · simp only [List.getElem?_toArray, List.getElem?_cons_succ, List.getElem?_cons_zero]
              exact rfl
            · kernel_rfl
            · kernel_rfl
            · exact fun _ _ _ h => h
            · refine Or.inl ⟨by rfl, ?_⟩
              intro w hSw
              try dsimp only at hSw
              go_simp
              try with_reducible rfl
            simp only [Act.put, List.setIfInBounds_toArray, List.set_cons_zero, List.set_cons_succ]
            refine wpAnyH_take (i := 5) (oi := ?_) (v := ?_) ?_ (by kernel_rfl) ?_ ?_ ?_ ?_ hHeld ?_
            rotate_left 2
            · simp only [List.getElem?_toArray, List.getElem?_cons_succ, List.getElem?_cons_zero]
              exact rfl
            · kernel_rfl
            · kernel_rfl
            · exact fun _ _ _ h => h
            · refine Or.inl ⟨by rfl, ?_⟩
              intro w hSw
              try dsimp only at hSw
              go_simp
              try with_reducible rfl
            simp only [Act.put, List.setIfInBounds_toArray, List.set_cons_zero, List.set_cons_succ]
            refine wpAnyH_take (i := 6) (oi := ?_) (v := ?_) ?_ (by kernel_rfl) ?_ ?_ ?_ ?_ hHeld ?_
            rotate_left 2
            · simp only [List.getElem?_toArray, List.getElem?_cons_succ, List.getElem?_cons_zero]
              exact rfl
            · kernel_rfl
            · kernel_rfl
            · exact fun _ _ _ h => h
            · refine Or.inl ⟨by rfl, ?_⟩
              intro w hSw
              try dsimp only at hSw
              go_simp
              try with_reducible rfl
            simp only [Act.put, List.setIfInBounds_toArray, List.set_cons_zero, List.set_cons_succ]
            refine wpAnyH_take (i := 7) (oi := ?_) (v := ?_) ?_ (by kernel_rfl) ?_ ?_ ?_ ?_ hHeld ?_
            rotate_left 2
            · simp only [List.getElem?_toArray, List.getElem?_cons_succ, List.getElem?_cons_zero]
              exact rfl
            · kernel_rfl
            · kernel_rfl
            · exact fun _ _ _ h => h
            · refine Or.inl ⟨by rfl, ?_⟩
              intro w hSw
              try dsimp only at hSw
              go_simp
              try with_reducible rfl
            simp only [Act.put, List.setIfInBounds_toArray, List.set_cons_zero, List.set_cons_succ]
            refine wpAnyH_take (i := 8) (oi := ?_) (v := ?_) ?_ (by kernel_rfl) ?_ ?_ ?_ ?_ hHeld ?_
            rotate_left 2
            · simp only [List.getElem?_toArray, List.getElem?_cons_succ, List.getElem?_cons_zero]
              exact rfl
            · kernel_rfl
            · kernel_rfl
            · exact fun _ _ _ h => h
            · refine Or.inl ⟨by rfl, ?_⟩
              intro w hSw
              try dsimp only at hSw
              go_simp
              try with_reducible rfl
            simp only [Act.put, List.setIfInBounds_toArray, List.set_cons_zero, List.set_cons_succ]
            refine wpAnyH_take (i := 9) (oi := ?_) (v := ?_) ?_ (by kernel_rfl) ?_ ?_ ?_ ?_ hHeld ?_
            rotate_left 2
            · simp only [List.getElem?_toArray, List.getElem?_cons_succ, List.getElem?_cons_zero]
              exact rfl
            · kernel_rfl
            · kernel_rfl
            · exact fun _ _ _ h => h
            · refine Or.inl ⟨by rfl, ?_⟩
              intro w hSw
              try dsimp only at hSw
              go_simp
              try with_reducible rfl
            simp only [Act.put, List.setIfInBounds_toArray, List.set_cons_zero, List.set_cons_succ]
            refine wpAnyH_take (i := 10) (oi := ?_) (v := ?_) ?_ (by kernel_rfl) ?_ ?_ ?_ ?_ hHeld ?_
            rotate_left 2
            · simp only [List.getElem?_toArray, List.getElem?_cons_succ, List.getElem?_cons_zero]
              exact rfl
            · kernel_rfl
            · kernel_rfl
            · exact fun _ _ _ h => h
            · refine Or.inl ⟨by rfl, ?_⟩
              intro w hSw
              try dsimp only at hSw
              go_simp
              try with_reducible rfl
            simp only [Act.put, List.setIfInBounds_toArray, List.set_cons_zero, List.set_cons_succ]
            refine wpAnyH_take (i := 11) (oi := ?_) (v := ?_) ?_ (by kernel_rfl) ?_ ?_ ?_ ?_ hHeld ?_
            rotate_left 2
            · simp only [List.getElem?_toArray, List.getElem?_cons_succ, List.getElem?_cons_zero]
              exact rfl
            · kernel_rfl
            · kernel_rfl
            · exact fun _ _ _ h => h
            · refine Or.inl ⟨by rfl, ?_⟩
              intro w hSw
              try dsimp only at hSw
              go_simp
              try with_reducible rfl
            simp only [Act.put, List.setIfInBounds_toArray, List.set_cons_zero, List.set_cons_succ]
            refine wpAnyH_take (i := 12) (oi := ?_) (v := ?_) ?_ (by kernel_rfl) ?_ ?_ ?_ ?_ hHeld ?_
            rotate_left 2
            · simp only [List.getElem?_toArray, List.getElem?_cons_succ, List.getElem?_cons_zero]
              exact rfl
            · kernel_rfl
            · kernel_rfl
            · exact fun _ _ _ h => h
            · refine Or.inl ⟨by rfl, ?_⟩
              intro w hSw
              try dsimp only at hSw
              go_simp
              try with_reducible rfl
            simp only [Act.put, List.setIfInBounds_toArray, List.set_cons_zero, List.set_cons_succ]
            refine wpAnyH_take (i := 13) (oi := ?_) (v := ?_) ?_ (by kernel_rfl) ?_ ?_ ?_ ?_ hHeld ?_
            rotate_left 2
            · simp only [List.getElem?_toArray, List.getElem?_cons_succ, List.getElem?_cons_zero]
              exact rfl
            · kernel_rfl
            · kernel_rfl
            · exact fun _ _ _ h => h
            · refine Or.inl ⟨by rfl, ?_⟩
              intro w hSw
              try dsimp only at hSw
              go_simp
              try with_reducible rfl
            simp only [Act.put, List.setIfInBounds_toArray, List.set_cons_zero, List.set_cons_succ]
            refine wpAnyH_take (i := 14) (oi := ?_) (v := ?_) ?_ (by kernel_rfl) ?_ ?_ ?_ ?_ hHeld ?_
            rotate_left 2
            · simp only [List.getElem?_toArray, List.getElem?_cons_succ, List.getElem?_cons_zero]
              exact rfl
            · kernel_rfl
            · kernel_rfl
            · exact fun _ _ _ h => h
            · refine Or.inl ⟨by rfl, ?_⟩
              intro w hSw
              try dsimp only at hSw
              go_simp
              try with_reducible rfl
            simp only [Act.put, List.setIfInBounds_toArray, List.set_cons_zero, List.set_cons_succ]
            refine wpAnyH_ready (rs := [15]) (by kernel_rfl) (by simp) ?_
            refine AllReadyH.cons (o := ?_) ?_ ?_ AllReadyH.nil
            rotate_left
            · simp only [List.getElem?_toArray, List.getElem?_cons_succ, List.getElem?_cons_zero]
              exact rfl
            intro K9 hK9
            go_simp
            refine cA.mono ?_
            rintro e v1 ⟨rfl, g1⟩
            have h1 : Stage (fun _ => False) w [Ob.leftist p c W2 s2 T2, Ob.nest (.slice a2 n2 c2) (.slice a3 n3 c3) W2, Ob.box b8 #[.slice a2 n2 c2, .slice a3 n3 c3] 58, Ob.box bA #[.int .i64 x, .int .i64 y, .int .i64 z, .int .i64 q, .int .u64 r] 64, Ob.row 0 3 1 (.slice ra 0 rc) 0 (cellsBy intC LS)] v1 := g1
            have K1 := K _ h1
            go_wp2_with fail
            refine hK9.out _ _ (K1) (fun hHeld => ?_)
            clear hK9 K9
            try simp only [Act.put, List.setIfInBounds_toArray, List.set_cons_zero, List.set_cons_succ]
            refine wpAnyH_ready (rs := [16]) (by kernel_rfl) (by simp) ?_
            refine AllReadyH.cons (o := ?_) ?_ ?_ AllReadyH.nil
            rotate_left
            · simp only [List.getElem?_toArray, List.getElem?_cons_succ, List.getElem?_cons_zero]
              exact rfl
            intro K9 hK9
            go_simp
            refine (cB _).mono ?_
            rintro e v2 ⟨rfl, rfl⟩
            go_wp2_with fail
            refine hK9.out _ _ (K1) (fun hHeld => ?_)
            clear hK9 K9
            try simp only [Act.put, List.setIfInBounds_toArray, List.set_cons_zero, List.set_cons_succ]
            refine wpAnyH_take (i := 17) (oi := ?_) (v := ?_) ?_ (by kernel_rfl) ?_ ?_ ?_ ?_ hHeld ?_
            rotate_left 2
            · simp only [List.getElem?_toArray, List.getElem?_cons_succ, List.getElem?_cons_zero]
              exact rfl
            · kernel_rfl
            · kernel_rfl
            · exact fun _ _ _ h => h
            · refine Or.inl ⟨by rfl, ?_⟩
              intro w hSw
              try dsimp only at hSw
              go_simp
              try with_reducible rfl
            simp only [Act.put, List.setIfInBounds_toArray, List.set_cons_zero, List.set_cons_succ]
            refine wpAnyH_take (i := 18) (oi := ?_) (v := ?_) ?_ (by kernel_rfl) ?_ ?_ ?_ ?_ hHeld ?_
            rotate_left 2
            · simp only [List.getElem?_toArray, List.getElem?_cons_succ, List.getElem?_cons_zero]
              exact rfl
            · kernel_rfl
            · kernel_rfl
            · exact fun _ _ _ h => h
            · refine Or.inl ⟨by rfl, ?_⟩
              intro w hSw
              try dsimp only at hSw
              go_simp
              try with_reducible rfl
            simp only [Act.put, List.setIfInBounds_toArray, List.set_cons_zero, List.set_cons_succ]
            refine wpAnyH_take (i := 19) (oi := ?_) (v := ?_) ?_ (by kernel_rfl) ?_ ?_ ?_ ?_ hHeld ?_
            rotate_left 2
            · simp only [List.getElem?_toArray, List.getElem?_cons_succ, List.getElem?_cons_zero]
              exact rfl
            · kernel_rfl
            · kernel_rfl
            · exact fun _ _ _ h => h
            · refine Or.inl ⟨by rfl, ?_⟩
              intro w hSw
              try dsimp only at hSw
              go_simp
              try with_reducible rfl
            simp only [Act.put, List.setIfInBounds_toArray, List.set_cons_zero, List.set_cons_succ]
            refine wpAnyH_take (i := 20) (oi := ?_) (v := ?_) ?_ (by kernel_rfl) ?_ ?_ ?_ ?_ hHeld ?_
            rotate_left 2
            · simp only [List.getElem?_toArray, List.getElem?_cons_succ, List.getElem?_cons_zero]
              exact rfl
            · kernel_rfl
            · kernel_rfl
            · exact fun _ _ _ h => h
            · refine Or.inl ⟨by rfl, ?_⟩
              intro w hSw
              try dsimp only at hSw
              go_simp
              try with_reducible rfl
            simp only [Act.put, List.setIfInBounds_toArray, List.set_cons_zero, List.set_cons_succ]
            refine wpAnyH_take (i := 21) (oi := ?_) (v := ?_) ?_ (by kernel_rfl) ?_ ?_ ?_ ?_ hHeld ?_
            rotate_left 2
            · simp only [List.getElem?_toArray, List.getElem?_cons_succ, List.getElem?_cons_zero]
              exact rfl
            · kernel_rfl
            · kernel_rfl
            · exact fun _ _ _ h => h
            · refine Or.inl ⟨by rfl, ?_⟩
              intro w hSw
              try dsimp only at hSw
              go_simp
              try with_reducible rfl
            simp only [Act.put, List.setIfInBounds_toArray, List.set_cons_zero, List.set_cons_succ]
            refine wpAnyH_take (i := 22) (oi := ?_) (v := undef) ?_ (by kernel_rfl) ?_ ?_ ?_ ?_ hHeld ?_
            rotate_left
            · simp only [List.getElem?_toArray, List.getElem?_cons_succ, List.getElem?_cons_zero]
              exact rfl
            · kernel_rfl
            · kernel_rfl
            · exact fun _ _ _ h => h
            · exact Or.inr ⟨by rfl, rfl⟩
            simp only [Act.put, List.setIfInBounds_toArray, List.set_cons_zero, List.set_cons_succ]
            refine wpAnyH_take (i := 23) (oi := ?_) (v := undef) ?_ (by kernel_rfl) ?_ ?_ ?_ ?_ hHeld ?_
            rotate_left
            · simp only [List.getElem?_toArray, List.getElem?_cons_succ, List.getElem?_cons_zero]
              exact rfl
            · kernel_rfl
            · kernel_rfl
            · exact fun _ _ _ h => h
            · exact Or.inr ⟨by rfl, rfl⟩
            simp only [Act.put, List.setIfInBounds_toArray, List.set_cons_zero, List.set_cons_succ]
            refine wpAnyH_take (i := 24) (oi := ?_) (v := undef) ?_ (by kernel_rfl) ?_ ?_ ?_ ?_ hHeld ?_
            rotate_left
            · simp only [List.getElem?_toArray, List.getElem?_cons_succ, List.getElem?_cons_zero]
              exact rfl
            · kernel_rfl
            · kernel_rfl
            · exact fun _ _ _ h => h
            · exact Or.inr ⟨by rfl, rfl⟩
            simp only [Act.put, List.setIfInBounds_toArray, List.set_cons_zero, List.set_cons_succ]
            refine wpAnyH_take (i := 25) (oi := ?_) (v := undef) ?_ (by kernel_rfl) ?_ ?_ ?_ ?_ hHeld ?_
            rotate_left
            · simp only [List.getElem?_toArray, List.getElem?_cons_succ, List.getElem?_cons_zero]
              exact rfl
            · kernel_rfl
            · kernel_rfl
            · exact fun _ _ _ h => h
            · exact Or.inr ⟨by rfl, rfl⟩
            simp only [Act.put, List.setIfInBounds_toArray, List.set_cons_zero, List.set_cons_succ]
            refine wpAnyH_take (i := 26) (oi := ?_) (v := undef) ?_ (by kernel_rfl) ?_ ?_ ?_ ?_ hHeld ?_
            rotate_left
            · simp only [List.getElem?_toArray, List.getElem?_cons_succ, List.getElem?_cons_zero]
              exact rfl
            · kernel_rfl
            · kernel_rfl
            · exact fun _ _ _ h => h
            · exact Or.inr ⟨by rfl, rfl⟩
            simp only [Act.put, List.setIfInBounds_toArray, List.set_cons_zero, List.set_cons_succ]
            refine wpAnyH_take (i := 27) (oi := ?_) (v := ?_) ?_ (by kernel_rfl) ?_ ?_ ?_ ?_ hHeld ?_
            rotate_left 2
            · simp only [List.getElem?_toArray, List.getElem?_cons_succ, List.getElem?_cons_zero]
              exact rfl
            · kernel_rfl
            · kernel_rfl
            · exact fun _ _ _ h => h
            · refine Or.inl ⟨by rfl, ?_⟩
              intro w hSw
              try dsimp only at hSw
              go_simp
              try with_reducible rfl
            simp only [Act.put, List.setIfInBounds_toArray, List.set_cons_zero, List.set_cons_succ]
            refine wpAnyH_take (i := 28) (oi := ?_) (v := ?_) ?_ (by kernel_rfl) ?_ ?_ ?_ ?_ hHeld ?_
            rotate_left 2
            · simp only [List.getElem?_toArray, List.getElem?_cons_succ, List.getElem?_cons_zero]
              exact rfl
            · kernel_rfl
            · kernel_rfl
            · exact fun _ _ _ h => h
            · refine Or.inl ⟨by rfl, ?_⟩
              intro w hSw
              try dsimp only at hSw
              go_simp
              try with_reducible rfl
            simp only [Act.put, List.setIfInBounds_toArray, List.set_cons_zero, List.set_cons_succ]
            refine wpAnyH_take (i := 29) (oi := ?_) (v := ?_) ?_ (by kernel_rfl) ?_ ?_ ?_ ?_ hHeld ?_
            rotate_left 2
            · simp only [List.getElem?_toArray, List.getElem?_cons_succ, List.getElem?_cons_zero]
              exact rfl
            · kernel_rfl
            · kernel_rfl
            · exact fun _ _ _ h => h
            · refine Or.inl ⟨by rfl, ?_⟩
              intro w hSw
              try dsimp only at hSw
              go_simp
              try with_reducible rfl
            simp only [Act.put, List.setIfInBounds_toArray, List.set_cons_zero, List.set_cons_succ]
            refine wpAnyH_take (i := 30) (oi := ?_) (v := ?_) ?_ (by kernel_rfl) ?_ ?_ ?_ ?_ hHeld ?_
            rotate_left 2
            · simp only [List.getElem?_toArray, List.getElem?_cons_succ, List.getElem?_cons_zero]
              exact rfl
            · kernel_rfl
            · kernel_rfl
            · exact fun _ _ _ h => h
            · refine Or.inl ⟨by rfl, ?_⟩
              intro w hSw
              try dsimp only at hSw
              go_simp
              try with_reducible rfl
            simp only [Act.put, List.setIfInBounds_toArray, List.set_cons_zero, List.set_cons_succ]
            refine wpAnyH_take (i := 31) (oi := ?_) (v := ?_) ?_ (by kernel_rfl) ?_ ?_ ?_ ?_ hHeld ?_
            rotate_left 2
            · simp only [List.getElem?_toArray, List.getElem?_cons_succ, List.getElem?_cons_zero]
              exact rfl
            · kernel_rfl
            · kernel_rfl
            · exact fun _ _ _ h => h
            · refine Or.inl ⟨by rfl, ?_⟩
              intro w hSw
              try dsimp only at hSw
              go_simp
              try with_reducible rfl
            simp only [Act.put, List.setIfInBounds_toArray, List.set_cons_zero, List.set_cons_succ]
            refine wpAnyH_take (i := 32) (oi := ?_) (v := ?_) ?_ (by kernel_rfl) ?_ ?_ ?_ ?_ hHeld ?_
            rotate_left 2
            · simp only [List.getElem?_toArray, List.getElem?_cons_succ, List.getElem?_cons_zero]
              exact rfl
            · kernel_rfl
            · kernel_rfl
            · exact fun _ _ _ h => h
            · refine Or.inl ⟨by rfl, ?_⟩
              intro w hSw
              try dsimp only at hSw
              go_simp
              try with_reducible rfl
            simp only [Act.put, List.setIfInBounds_toArray, List.set_cons_zero, List.set_cons_succ]
            refine wpAnyH_take (i := 35) (oi := ?_) (v := ?_) ?_ (by kernel_rfl) ?_ ?_ ?_ ?_ hHeld ?_
            rotate_left 2
            · simp only [List.getElem?_toArray, List.getElem?_cons_succ, List.getElem?_cons_zero]
              exact rfl
            · kernel_rfl
            · kernel_rfl
            · exact fun _ _ _ h => h
            · refine Or.inl ⟨by rfl, ?_⟩
              intro w hSw
              try dsimp only at hSw
              go_simp
              try with_reducible rfl
            simp only [Act.put, List.setIfInBounds_toArray, List.set_cons_zero, List.set_cons_succ]
            refine wpAnyH_take (i := 36) (oi := ?_) (v := ?_) ?_ (by kernel_rfl) ?_ ?_ ?_ ?_ hHeld ?_
            rotate_left 2
            · simp only [List.getElem?_toArray, List.getElem?_cons_succ, List.getElem?_cons_zero]
              exact rfl
            · kernel_rfl
            · kernel_rfl
            · exact fun _ _ _ h => h
            · refine Or.inl ⟨by rfl, ?_⟩
              intro w hSw
              try dsimp only at hSw
              go_simp
              try with_reducible rfl
            simp only [Act.put, List.setIfInBounds_toArray, List.set_cons_zero, List.set_cons_succ]
            refine wpAnyH_take (i := 37) (oi := ?_) (v := ?_) ?_ (by kernel_rfl) ?_ ?_ ?_ ?_ hHeld ?_
            rotate_left 2
            · simp only [List.getElem?_toArray, List.getElem?_cons_succ, List.getElem?_cons_zero]
              exact rfl
            · kernel_rfl
            · kernel_rfl
            · exact fun _ _ _ h => h
            · refine Or.inl ⟨by rfl, ?_⟩
              intro w hSw
              try dsimp only at hSw
              go_simp
              try with_reducible rfl
            simp only [Act.put, List.setIfInBounds_toArray, List.set_cons_zero, List.set_cons_succ]
            refine wpAnyH_ready (rs := [33]) (by kernel_rfl) (by simp) ?_
            refine AllReadyH.cons (o := ?_) ?_ ?_ AllReadyH.nil
            rotate_left
            · simp only [List.getElem?_toArray, List.getElem?_cons_succ, List.getElem?_cons_zero]
              exact rfl
            intro K9 hK9
            go_simp
            refine (cC _ h1).mono ?_
            rintro e v3 ⟨rfl, g3⟩
            have h3 : Stage (fun _ => False) w [Ob.leftist p c W2 s2 T2, Ob.nest (.slice a2 n2 c2) (.slice a3 n3 c3) W2, Ob.box b8 #[.slice a2 n2 c2, .slice a3 n3 c3] 58, Ob.box bA #[.int .i64 x, .int .i64 y, .int .i64 z, .int .i64 q, .int .u64 r] 64, Ob.row 0 3 1 (.slice ra 0 rc) 0 (cellsBy intC LS)] v3 := g3
            have K3 := K _ h3
            go_wp2_with fail
            refine hK9.out _ _ (K3) (fun hHeld => ?_)
            clear hK9 K9
            try simp only [Act.put, List.setIfInBounds_toArray, List.set_cons_zero, List.set_cons_succ]
            refine wpAnyH_take (i := 34) (oi := ?_) (v := ?_) ?_ (by kernel_rfl) ?_ ?_ ?_ ?_ hHeld ?_
            rotate_left 2
            · simp only [List.getElem?_toArray, List.getElem?_cons_succ, List.getElem?_cons_zero]
              exact rfl
            · kernel_rfl
            · kernel_rfl
            · exact fun _ _ _ h => h
            · refine Or.inl ⟨by rfl, ?_⟩
              intro w hSw
              try dsimp only at hSw
              go_simp
              try with_reducible rfl
            simp only [Act.put, List.setIfInBounds_toArray, List.set_cons_zero, List.set_cons_succ]
            refine wpAnyH_ready (rs := [38]) (by kernel_rfl) (by simp) ?_
            refine AllReadyH.cons (o := ?_) ?_ ?_ AllReadyH.nil
            rotate_left
            · simp only [List.getElem?_toArray, List.getElem?_cons_succ, List.getElem?_cons_zero]
              exact rfl
            intro K9 hK9
            go_simp
            refine (cD _ h3).mono ?_
            rintro e v4 ⟨rfl, g4⟩
            have h4 : Stage (fun _ => False) w [Ob.leftist p c W2 s2 T2, Ob.nest (.slice a2 n2 c2) (.slice a3 n3 c3) W2, Ob.box b8 #[.slice a2 n2 c2, .slice a3 n3 c3] 58, Ob.box bA #[.int .i64 x, .int .i64 y, .int .i64 z, .int .i64 q, .int .u64 r] 64, Ob.row 0 3 1 (.slice ra 0 rc) 0 (cellsBy intC LS)] v4 := g4
            have K4 := K _ h4
            go_wp2_with fail
            refine hK9.out _ _ (K4) (fun hHeld => ?_)
            clear hK9 K9
            try simp only [Act.put, List.setIfInBounds_toArray, List.set_cons_zero, List.set_cons_succ]
            refine wpAnyH_take (i := 39) (oi := ?_) (v := ?_) ?_ (by kernel_rfl) ?_ ?_ ?_ ?_ hHeld ?_
            rotate_left 2
            · simp only [List.getElem?_toArray, List.getElem?_cons_succ, List.getElem?_cons_zero]
              exact rfl
            · kernel_rfl
            · kernel_rfl
            · exact fun _ _ _ h => h
            · refine Or.inl ⟨by rfl, ?_⟩
              intro w hSw
              try dsimp only at hSw
              go_simp
              try with_reducible rfl
            simp only [Act.put, List.setIfInBounds_toArray, List.set_cons_zero, List.set_cons_succ]
            refine wpAnyH_take (i := 40) (oi := ?_) (v := ?_) ?_ (by kernel_rfl) ?_ ?_ ?_ ?_ hHeld ?_
            rotate_left 2
            · simp only [List.getElem?_toArray, List.getElem?_cons_succ, List.getElem?_cons_zero]
              exact rfl
            · kernel_rfl
            · kernel_rfl
            · exact fun _ _ _ h => h
            · refine Or.inl ⟨by rfl, ?_⟩
              intro w hSw
              try dsimp only at hSw
              go_simp
              try with_reducible rfl
            simp only [Act.put, List.setIfInBounds_toArray, List.set_cons_zero, List.set_cons_succ]
            refine wpAnyH_done (by kernel_rfl) ?_ _
            go_wp2_with fail
            go_meet
            exact ⟨rfl, by simp, h4⟩
          · have hl0' : (0 : Int) < (LN : Int) := by omega
            obtain ⟨gl, cl, hcl, _, _, _, _, _, _⟩ := owns_at intC_len 0 (hD.owns 4 rfl) hLN.out hl0
            injection hcl with hcl1 _ hcl3
            subst hcl1 hcl3
            have K' : ∀ wx, Stage (fun _ => False) w [Ob.leftist p c W2 s2 T2, Ob.nest (.slice a2 n2 c2) (.slice a3 n3 c3) W2, Ob.box b8 #[.slice a2 n2 c2, .slice a3 n3 c3] 58, Ob.box bA #[.int .i64 x, .int .i64 y, .int .i64 z, .int .i64 q, .int .u64 r] 64, Ob.row 0 3 1 (.slice (some ⟨gl, 0, none⟩) LN rc) LN (cellsBy intC LS)] wx → wx.cell? ⟨b8, 0, none⟩ = some (.slice a2 n2 c2) ∧ wx.cell? ⟨b8, 1, none⟩ = some (.slice a3 n3 c3) ∧ wx.cell? ⟨bA, 1, none⟩ = some (.int .i64 y) ∧ wx.cell? ⟨bA, 2, none⟩ = some (.int .i64 z) ∧ wx.cell? ⟨gl, 0, none⟩ = some (.int .i64 mI) := fun wx h => by
              obtain ⟨h1, h2, h3, h4⟩ := K wx h
              refine ⟨h1, h2, h3, h4, ?_⟩
              obtain ⟨g', c', hc', _, _, _, _, hu, _⟩ := owns_at intC_len 0 (h.owns 4 rfl) hLN.out hl0
              injection hc' with hc1 _ _
              injection hc1 with hc1
              injection hc1 with hc1
              subst hc1
              have := hu 0 0 _ hl0 (by omega) rfl
              rw [Nat.zero_mul, Nat.add_zero] at this
              rw [this]
              exact congrArg (fun v => some (Value.int IntKind.i64 v)) hl1
            have K0 := K' _ hD
            clear hs8
            replace hl1 := Lib.hid hl1
            go_wp2_with fail
            refine wp_region_held_drew (S := (fun w' => w'.cell? ⟨b8, 0, none⟩ = some (.slice a2 n2 c2) ∧ w'.cell? ⟨b8, 1, none⟩ = some (.slice a3 n3 c3) ∧ w'.cell? ⟨bA, 1, none⟩ = some (.int .i64 y) ∧ w'.cell? ⟨bA, 2, none⟩ = some (.int .i64 z) ∧ w'.cell? ⟨gl, 0, none⟩ = some (.int .i64 mI))) (by kernel_rfl) K0 (fun hHeld => ?_)
            refine wpAnyH_take (i := 0) (oi := ?_) (v := ?_) ?_ (by kernel_rfl) ?_ ?_ ?_ ?_ hHeld ?_
            rotate_left 2
            · simp only [List.getElem?_toArray, List.getElem?_cons_zero]
              exact rfl
            · kernel_rfl
            · kernel_rfl
            · exact fun _ _ _ h => h
            · refine Or.inl ⟨by rfl, ?_⟩
              intro w hSw
              try dsimp only at hSw
              go_simp
              try with_reducible rfl
            simp only [Act.put, List.setIfInBounds_toArray, List.set_cons_zero, List.set_cons_succ]
            refine wpAnyH_take (i := 1) (oi := ?_) (v := ?_) ?_ (by kernel_rfl) ?_ ?_ ?_ ?_ hHeld ?_
            rotate_left 2
            · simp only [List.getElem?_toArray, List.getElem?_cons_succ, List.getElem?_cons_zero]
              exact rfl
            · kernel_rfl
            · kernel_rfl
            · exact fun _ _ _ h => h
            · refine Or.inl ⟨by rfl, ?_⟩
              intro w hSw
              try dsimp only at hSw
              go_simp
              try with_reducible rfl
            simp only [Act.put, List.setIfInBounds_toArray, List.set_cons_zero, List.set_cons_succ]
            refine wpAnyH_take (i := 2) (oi := ?_) (v := ?_) ?_ (by kernel_rfl) ?_ ?_ ?_ ?_ hHeld ?_
            rotate_left 2
            · simp only [List.getElem?_toArray, List.getElem?_cons_succ, List.getElem?_cons_zero]
              exact rfl
            · kernel_rfl
            · kernel_rfl
            · exact fun _ _ _ h => h
            · refine Or.inl ⟨by rfl, ?_⟩
              intro w hSw
              try dsimp only at hSw
              go_simp
              try with_reducible rfl
            simp only [Act.put, List.setIfInBounds_toArray, List.set_cons_zero, List.set_cons_succ]
            refine wpAnyH_take (i := 3) (oi := ?_) (v := ?_) ?_ (by kernel_rfl) ?_ ?_ ?_ ?_ hHeld ?_
            rotate_left 2
            · simp only [List.getElem?_toArray, List.getElem?_cons_succ, List.getElem?_cons_zero]
              exact rfl
            · kernel_rfl
            · kernel_rfl
            · exact fun _ _ _ h => h
            · refine Or.inl ⟨by rfl, ?_⟩
              intro w hSw
              try dsimp only at hSw
              go_simp
              try with_reducible rfl
            simp only [Act.put, List.setIfInBounds_toArray, List.set_cons_zero, List.set_cons_succ]
            refine wpAnyH_take (i := 4) (oi := ?_) (v := ?_) ?_ (by kernel_rfl) ?_ ?_ ?_ ?_ hHeld ?_
            rotate_left 2
            · simp only [List.getElem?_toArray, List.getElem?_cons_succ, List.getElem?_cons_zero]
              exact rfl
            · kernel_rfl
            · kernel_rfl
            · exact fun _ _ _ h => h
            · refine Or.inl ⟨by rfl, ?_⟩
              intro w hSw
              try dsimp only at hSw
              go_simp
              try with_reducible rfl
            simp only [Act.put, List.setIfInBounds_toArray, List.set_cons_zero, List.set_cons_succ]
            refine wpAnyH_take (i := 5) (oi := ?_) (v := ?_) ?_ (by kernel_rfl) ?_ ?_ ?_ ?_ hHeld ?_
            rotate_left 2
            · simp only [List.getElem?_toArray, List.getElem?_cons_succ, List.getElem?_cons_zero]
              exact rfl
            · kernel_rfl
            · kernel_rfl
            · exact fun _ _ _ h => h
            · refine Or.inl ⟨by rfl, ?_⟩
              intro w hSw
              try dsimp only at hSw
              go_simp
              try with_reducible rfl
            simp only [Act.put, List.setIfInBounds_toArray, List.set_cons_zero, List.set_cons_succ]
            refine wpAnyH_take (i := 6) (oi := ?_) (v := ?_) ?_ (by kernel_rfl) ?_ ?_ ?_ ?_ hHeld ?_
            rotate_left 2
            · simp only [List.getElem?_toArray, List.getElem?_cons_succ, List.getElem?_cons_zero]
              exact rfl
            · kernel_rfl
            · kernel_rfl
            · exact fun _ _ _ h => h
            · refine Or.inl ⟨by rfl, ?_⟩
              intro w hSw
              try dsimp only at hSw
              go_simp
              try with_reducible rfl
            simp only [Act.put, List.setIfInBounds_toArray, List.set_cons_zero, List.set_cons_succ]
            refine wpAnyH_take (i := 7) (oi := ?_) (v := ?_) ?_ (by kernel_rfl) ?_ ?_ ?_ ?_ hHeld ?_
            rotate_left 2
            · simp only [List.getElem?_toArray, List.getElem?_cons_succ, List.getElem?_cons_zero]
              exact rfl
            · kernel_rfl
            · kernel_rfl
            · exact fun _ _ _ h => h
            · refine Or.inl ⟨by rfl, ?_⟩
              intro w hSw
              try dsimp only at hSw
              go_simp
              try with_reducible rfl
            simp only [Act.put, List.setIfInBounds_toArray, List.set_cons_zero, List.set_cons_succ]
            refine wpAnyH_take (i := 8) (oi := ?_) (v := ?_) ?_ (by kernel_rfl) ?_ ?_ ?_ ?_ hHeld ?_
            rotate_left 2
            · simp only [List.getElem?_toArray, List.getElem?_cons_succ, List.getElem?_cons_zero]
              exact rfl
            · kernel_rfl
            · kernel_rfl
            · exact fun _ _ _ h => h
            · refine Or.inl ⟨by rfl, ?_⟩
              intro w hSw
              try dsimp only at hSw
              go_simp
              try with_reducible rfl
            simp only [Act.put, List.setIfInBounds_toArray, List.set_cons_zero, List.set_cons_succ]
            refine wpAnyH_take (i := 9) (oi := ?_) (v := ?_) ?_ (by kernel_rfl) ?_ ?_ ?_ ?_ hHeld ?_
            rotate_left 2
            · simp only [List.getElem?_toArray, List.getElem?_cons_succ, List.getElem?_cons_zero]
              exact rfl
            · kernel_rfl
            · kernel_rfl
            · exact fun _ _ _ h => h
            · refine Or.inl ⟨by rfl, ?_⟩
              intro w hSw
              try dsimp only at hSw
              go_simp
              try with_reducible rfl
            simp only [Act.put, List.setIfInBounds_toArray, List.set_cons_zero, List.set_cons_succ]
            refine wpAnyH_take (i := 10) (oi := ?_) (v := ?_) ?_ (by kernel_rfl) ?_ ?_ ?_ ?_ hHeld ?_
            rotate_left 2
            · simp only [List.getElem?_toArray, List.getElem?_cons_succ, List.getElem?_cons_zero]
              exact rfl
            · kernel_rfl
            · kernel_rfl
            · exact fun _ _ _ h => h
            · refine Or.inl ⟨by rfl, ?_⟩
              intro w hSw
              try dsimp only at hSw
              go_simp
              try with_reducible rfl
            simp only [Act.put, List.setIfInBounds_toArray, List.set_cons_zero, List.set_cons_succ]
            refine wpAnyH_take (i := 11) (oi := ?_) (v := ?_) ?_ (by kernel_rfl) ?_ ?_ ?_ ?_ hHeld ?_
            rotate_left 2
            · simp only [List.getElem?_toArray, List.getElem?_cons_succ, List.getElem?_cons_zero]
              exact rfl
            · kernel_rfl
            · kernel_rfl
            · exact fun _ _ _ h => h
            · refine Or.inl ⟨by rfl, ?_⟩
              intro w hSw
              try dsimp only at hSw
              go_simp
              try with_reducible rfl
            simp only [Act.put, List.setIfInBounds_toArray, List.set_cons_zero, List.set_cons_succ]
            refine wpAnyH_take (i := 12) (oi := ?_) (v := ?_) ?_ (by kernel_rfl) ?_ ?_ ?_ ?_ hHeld ?_
            rotate_left 2
            · simp only [List.getElem?_toArray, List.getElem?_cons_succ, List.getElem?_cons_zero]
              exact rfl
            · kernel_rfl
            · kernel_rfl
            · exact fun _ _ _ h => h
            · refine Or.inl ⟨by rfl, ?_⟩
              intro w hSw
              try dsimp only at hSw
              go_simp
              try with_reducible rfl
            simp only [Act.put, List.setIfInBounds_toArray, List.set_cons_zero, List.set_cons_succ]
            refine wpAnyH_take (i := 13) (oi := ?_) (v := ?_) ?_ (by kernel_rfl) ?_ ?_ ?_ ?_ hHeld ?_
            rotate_left 2
            · simp only [List.getElem?_toArray, List.getElem?_cons_succ, List.getElem?_cons_zero]
              exact rfl
            · kernel_rfl
            · kernel_rfl
            · exact fun _ _ _ h => h
            · refine Or.inl ⟨by rfl, ?_⟩
              intro w hSw
              try dsimp only at hSw
              go_simp
              try with_reducible rfl
            simp only [Act.put, List.setIfInBounds_toArray, List.set_cons_zero, List.set_cons_succ]
            refine wpAnyH_take (i := 14) (oi := ?_) (v := ?_) ?_ (by kernel_rfl) ?_ ?_ ?_ ?_ hHeld ?_
            rotate_left 2
            · simp only [List.getElem?_toArray, List.getElem?_cons_succ, List.getElem?_cons_zero]
              exact rfl
            · kernel_rfl
            · kernel_rfl
            · exact fun _ _ _ h => h
            · refine Or.inl ⟨by rfl, ?_⟩
              intro w hSw
              try dsimp only at hSw
              go_simp
              try with_reducible rfl
            simp only [Act.put, List.setIfInBounds_toArray, List.set_cons_zero, List.set_cons_succ]
            refine wpAnyH_ready (rs := [15]) (by kernel_rfl) (by simp) ?_
            refine AllReadyH.cons (o := ?_) ?_ ?_ AllReadyH.nil
            rotate_left
            · simp only [List.getElem?_toArray, List.getElem?_cons_succ, List.getElem?_cons_zero]
              exact rfl
            intro K9 hK9
            go_simp
            refine cA.mono ?_
            rintro e v1 ⟨rfl, g1⟩
            have h1 : Stage (fun _ => False) w [Ob.leftist p c W2 s2 T2, Ob.nest (.slice a2 n2 c2) (.slice a3 n3 c3) W2, Ob.box b8 #[.slice a2 n2 c2, .slice a3 n3 c3] 58, Ob.box bA #[.int .i64 x, .int .i64 y, .int .i64 z, .int .i64 q, .int .u64 r] 64, Ob.row 0 3 1 (.slice (some ⟨gl, 0, none⟩) LN rc) LN (cellsBy intC LS)] v1 := g1
            have K1 := K' _ h1
            go_wp2_with fail
            refine hK9.out _ _ (K1) (fun hHeld => ?_)
            clear hK9 K9
            try simp only [Act.put, List.setIfInBounds_toArray, List.set_cons_zero, List.set_cons_succ]
            refine wpAnyH_ready (rs := [16]) (by kernel_rfl) (by simp) ?_
            refine AllReadyH.cons (o := ?_) ?_ ?_ AllReadyH.nil
            rotate_left
            · simp only [List.getElem?_toArray, List.getElem?_cons_succ, List.getElem?_cons_zero]
              exact rfl
            intro K9 hK9
            go_simp
            refine (cB _).mono ?_
            rintro e v2 ⟨rfl, rfl⟩
            go_wp2_with fail
            refine hK9.out _ _ (K1) (fun hHeld => ?_)
            clear hK9 K9
            try simp only [Act.put, List.setIfInBounds_toArray, List.set_cons_zero, List.set_cons_succ]
            refine wpAnyH_take (i := 17) (oi := ?_) (v := ?_) ?_ (by kernel_rfl) ?_ ?_ ?_ ?_ hHeld ?_
            rotate_left 2
            · simp only [List.getElem?_toArray, List.getElem?_cons_succ, List.getElem?_cons_zero]
              exact rfl
            · kernel_rfl
            · kernel_rfl
            · exact fun _ _ _ h => h
            · refine Or.inl ⟨by rfl, ?_⟩
              intro w hSw
              try dsimp only at hSw
              go_simp
              try with_reducible rfl
            simp only [Act.put, List.setIfInBounds_toArray, List.set_cons_zero, List.set_cons_succ]
            refine wpAnyH_take (i := 18) (oi := ?_) (v := ?_) ?_ (by kernel_rfl) ?_ ?_ ?_ ?_ hHeld ?_
            rotate_left 2
            · simp only [List.getElem?_toArray, List.getElem?_cons_succ, List.getElem?_cons_zero]
              exact rfl
            · kernel_rfl
            · kernel_rfl
            · exact fun _ _ _ h => h
            · refine Or.inl ⟨by rfl, ?_⟩
              intro w hSw
              try dsimp only at hSw
              go_simp
              try with_reducible rfl
            simp only [Act.put, List.setIfInBounds_toArray, List.set_cons_zero, List.set_cons_succ]
            refine wpAnyH_take (i := 19) (oi := ?_) (v := ?_) ?_ (by kernel_rfl) ?_ ?_ ?_ ?_ hHeld ?_
            rotate_left 2
            · simp only [List.getElem?_toArray, List.getElem?_cons_succ, List.getElem?_cons_zero]
              exact rfl
            · kernel_rfl
            · kernel_rfl
            · exact fun _ _ _ h => h
            · refine Or.inl ⟨by rfl, ?_⟩
              intro w hSw
              try dsimp only at hSw
              go_simp
              try with_reducible rfl
            simp only [Act.put, List.setIfInBounds_toArray, List.set_cons_zero, List.set_cons_succ]
            refine wpAnyH_take (i := 20) (oi := ?_) (v := ?_) ?_ (by kernel_rfl) ?_ ?_ ?_ ?_ hHeld ?_
            rotate_left 2
            · simp only [List.getElem?_toArray, List.getElem?_cons_succ, List.getElem?_cons_zero]
              exact rfl
            · kernel_rfl
            · kernel_rfl
            · exact fun _ _ _ h => h
            · refine Or.inl ⟨by rfl, ?_⟩
              intro w hSw
              try dsimp only at hSw
              go_simp
              try with_reducible rfl
            simp only [Act.put, List.setIfInBounds_toArray, List.set_cons_zero, List.set_cons_succ]
            refine wpAnyH_take (i := 21) (oi := ?_) (v := ?_) ?_ (by kernel_rfl) ?_ ?_ ?_ ?_ hHeld ?_
            rotate_left 2
            · simp only [List.getElem?_toArray, List.getElem?_cons_succ, List.getElem?_cons_zero]
              exact rfl
            · kernel_rfl
            · kernel_rfl
            · exact fun _ _ _ h => h
            · refine Or.inl ⟨by rfl, ?_⟩
              intro w hSw
              try dsimp only at hSw
              go_simp
              try with_reducible rfl
            simp only [Act.put, List.setIfInBounds_toArray, List.set_cons_zero, List.set_cons_succ]
            refine wpAnyH_take (i := 22) (oi := ?_) (v := ?_) ?_ (by kernel_rfl) ?_ ?_ ?_ ?_ hHeld ?_
            rotate_left 2
            · simp only [List.getElem?_toArray, List.getElem?_cons_succ, List.getElem?_cons_zero]
              exact rfl
            · kernel_rfl
            · kernel_rfl
            · exact fun _ _ _ h => h
            · refine Or.inl ⟨by rfl, ?_⟩
              intro w hSw
              try dsimp only at hSw
              go_simp
              try with_reducible rfl
            simp only [Act.put, List.setIfInBounds_toArray, List.set_cons_zero, List.set_cons_succ]
            refine wpAnyH_take (i := 23) (oi := ?_) (v := ?_) ?_ (by kernel_rfl) ?_ ?_ ?_ ?_ hHeld ?_
            rotate_left 2
            · simp only [List.getElem?_toArray, List.getElem?_cons_succ, List.getElem?_cons_zero]
              exact rfl
            · kernel_rfl
            · kernel_rfl
            · exact fun _ _ _ h => h
            · refine Or.inl ⟨by rfl, ?_⟩
              intro w hSw
              try dsimp only at hSw
              go_simp
              try with_reducible rfl
            simp only [Act.put, List.setIfInBounds_toArray, List.set_cons_zero, List.set_cons_succ]
            refine wpAnyH_take (i := 24) (oi := ?_) (v := ?_) ?_ (by kernel_rfl) ?_ ?_ ?_ ?_ hHeld ?_
            rotate_left 2
            · simp only [List.getElem?_toArray, List.getElem?_cons_succ, List.getElem?_cons_zero]
              exact rfl
            · kernel_rfl
            · kernel_rfl
            · exact fun _ _ _ h => h
            · refine Or.inl ⟨by rfl, ?_⟩
              intro w hSw
              try dsimp only at hSw
              go_simp
              try with_reducible rfl
            simp only [Act.put, List.setIfInBounds_toArray, List.set_cons_zero, List.set_cons_succ]
            refine wpAnyH_take (i := 25) (oi := ?_) (v := ?_) ?_ (by kernel_rfl) ?_ ?_ ?_ ?_ hHeld ?_
            rotate_left 2
            · simp only [List.getElem?_toArray, List.getElem?_cons_succ, List.getElem?_cons_zero]
              exact rfl
            · kernel_rfl
            · kernel_rfl
            · exact fun _ _ _ h => h
            · refine Or.inl ⟨by rfl, ?_⟩
              intro w hSw
              try dsimp only at hSw
              go_simp
              try with_reducible rfl
            simp only [Act.put, List.setIfInBounds_toArray, List.set_cons_zero, List.set_cons_succ]
            refine wpAnyH_take (i := 26) (oi := ?_) (v := ?_) ?_ (by kernel_rfl) ?_ ?_ ?_ ?_ hHeld ?_
            rotate_left 2
            · simp only [List.getElem?_toArray, List.getElem?_cons_succ, List.getElem?_cons_zero]
              exact rfl
            · kernel_rfl
            · kernel_rfl
            · exact fun _ _ _ h => h
            · refine Or.inl ⟨by rfl, ?_⟩
              intro w hSw
              try dsimp only at hSw
              go_simp
              try with_reducible rfl
            simp only [Act.put, List.setIfInBounds_toArray, List.set_cons_zero, List.set_cons_succ]
            refine wpAnyH_take (i := 27) (oi := ?_) (v := ?_) ?_ (by kernel_rfl) ?_ ?_ ?_ ?_ hHeld ?_
            rotate_left 2
            · simp only [List.getElem?_toArray, List.getElem?_cons_succ, List.getElem?_cons_zero]
              exact rfl
            · kernel_rfl
            · kernel_rfl
            · exact fun _ _ _ h => h
            · refine Or.inl ⟨by rfl, ?_⟩
              intro w hSw
              try dsimp only at hSw
              go_simp
              try with_reducible rfl
            simp only [Act.put, List.setIfInBounds_toArray, List.set_cons_zero, List.set_cons_succ]
            refine wpAnyH_take (i := 28) (oi := ?_) (v := ?_) ?_ (by kernel_rfl) ?_ ?_ ?_ ?_ hHeld ?_
            rotate_left 2
            · simp only [List.getElem?_toArray, List.getElem?_cons_succ, List.getElem?_cons_zero]
              exact rfl
            · kernel_rfl
            · kernel_rfl
            · exact fun _ _ _ h => h
            · refine Or.inl ⟨by rfl, ?_⟩
              intro w hSw
              try dsimp only at hSw
              go_simp
              try with_reducible rfl
            simp only [Act.put, List.setIfInBounds_toArray, List.set_cons_zero, List.set_cons_succ]
            refine wpAnyH_take (i := 29) (oi := ?_) (v := ?_) ?_ (by kernel_rfl) ?_ ?_ ?_ ?_ hHeld ?_
            rotate_left 2
            · simp only [List.getElem?_toArray, List.getElem?_cons_succ, List.getElem?_cons_zero]
              exact rfl
            · kernel_rfl
            · kernel_rfl
            · exact fun _ _ _ h => h
            · refine Or.inl ⟨by rfl, ?_⟩
              intro w hSw
              try dsimp only at hSw
              go_simp
              try with_reducible rfl
            simp only [Act.put, List.setIfInBounds_toArray, List.set_cons_zero, List.set_cons_succ]
            refine wpAnyH_take (i := 30) (oi := ?_) (v := ?_) ?_ (by kernel_rfl) ?_ ?_ ?_ ?_ hHeld ?_
            rotate_left 2
            · simp only [List.getElem?_toArray, List.getElem?_cons_succ, List.getElem?_cons_zero]
              exact rfl
            · kernel_rfl
            · kernel_rfl
            · exact fun _ _ _ h => h
            · refine Or.inl ⟨by rfl, ?_⟩
              intro w hSw
              try dsimp only at hSw
              go_simp
              try with_reducible rfl
            simp only [Act.put, List.setIfInBounds_toArray, List.set_cons_zero, List.set_cons_succ]
            refine wpAnyH_take (i := 31) (oi := ?_) (v := ?_) ?_ (by kernel_rfl) ?_ ?_ ?_ ?_ hHeld ?_
            rotate_left 2
            · simp only [List.getElem?_toArray, List.getElem?_cons_succ, List.getElem?_cons_zero]
              exact rfl
            · kernel_rfl
            · kernel_rfl
            · exact fun _ _ _ h => h
            · refine Or.inl ⟨by rfl, ?_⟩
              intro w hSw
              try dsimp only at hSw
              go_simp
              try with_reducible rfl
            simp only [Act.put, List.setIfInBounds_toArray, List.set_cons_zero, List.set_cons_succ]
            refine wpAnyH_take (i := 32) (oi := ?_) (v := ?_) ?_ (by kernel_rfl) ?_ ?_ ?_ ?_ hHeld ?_
            rotate_left 2
            · simp only [List.getElem?_toArray, List.getElem?_cons_succ, List.getElem?_cons_zero]
              exact rfl
            · kernel_rfl
            · kernel_rfl
            · exact fun _ _ _ h => h
            · refine Or.inl ⟨by rfl, ?_⟩
              intro w hSw
              try dsimp only at hSw
              go_simp
              try with_reducible rfl
            simp only [Act.put, List.setIfInBounds_toArray, List.set_cons_zero, List.set_cons_succ]
            refine wpAnyH_take (i := 35) (oi := ?_) (v := ?_) ?_ (by kernel_rfl) ?_ ?_ ?_ ?_ hHeld ?_
            rotate_left 2
            · simp only [List.getElem?_toArray, List.getElem?_cons_succ, List.getElem?_cons_zero]
              exact rfl
            · kernel_rfl
            · kernel_rfl
            · exact fun _ _ _ h => h
            · refine Or.inl ⟨by rfl, ?_⟩
              intro w hSw
              try dsimp only at hSw
              go_simp
              try with_reducible rfl
            simp only [Act.put, List.setIfInBounds_toArray, List.set_cons_zero, List.set_cons_succ]
            refine wpAnyH_take (i := 36) (oi := ?_) (v := ?_) ?_ (by kernel_rfl) ?_ ?_ ?_ ?_ hHeld ?_
            rotate_left 2
            · simp only [List.getElem?_toArray, List.getElem?_cons_succ, List.getElem?_cons_zero]
              exact rfl
            · kernel_rfl
            · kernel_rfl
            · exact fun _ _ _ h => h
            · refine Or.inl ⟨by rfl, ?_⟩
              intro w hSw
              try dsimp only at hSw
              go_simp
              try with_reducible rfl
            simp only [Act.put, List.setIfInBounds_toArray, List.set_cons_zero, List.set_cons_succ]
            refine wpAnyH_take (i := 37) (oi := ?_) (v := ?_) ?_ (by kernel_rfl) ?_ ?_ ?_ ?_ hHeld ?_
            rotate_left 2
            · simp only [List.getElem?_toArray, List.getElem?_cons_succ, List.getElem?_cons_zero]
              exact rfl
            · kernel_rfl
            · kernel_rfl
            · exact fun _ _ _ h => h
            · refine Or.inl ⟨by rfl, ?_⟩
              intro w hSw
              try dsimp only at hSw
              go_simp
              try with_reducible rfl
            simp only [Act.put, List.setIfInBounds_toArray, List.set_cons_zero, List.set_cons_succ]
            refine wpAnyH_ready (rs := [33]) (by kernel_rfl) (by simp) ?_
            refine AllReadyH.cons (o := ?_) ?_ ?_ AllReadyH.nil
            rotate_left
            · simp only [List.getElem?_toArray, List.getElem?_cons_succ, List.getElem?_cons_zero]
              exact rfl
            intro K9 hK9
            go_simp
            refine (cC _ h1).mono ?_
            rintro e v3 ⟨rfl, g3⟩
            have h3 : Stage (fun _ => False) w [Ob.leftist p c W2 s2 T2, Ob.nest (.slice a2 n2 c2) (.slice a3 n3 c3) W2, Ob.box b8 #[.slice a2 n2 c2, .slice a3 n3 c3] 58, Ob.box bA #[.int .i64 x, .int .i64 y, .int .i64 z, .int .i64 q, .int .u64 r] 64, Ob.row 0 3 1 (.slice (some ⟨gl, 0, none⟩) LN rc) LN (cellsBy intC LS)] v3 := g3
            have K3 := K' _ h3
            go_wp2_with fail
            refine hK9.out _ _ (K3) (fun hHeld => ?_)
            clear hK9 K9
            try simp only [Act.put, List.setIfInBounds_toArray, List.set_cons_zero, List.set_cons_succ]
            refine wpAnyH_take (i := 34) (oi := ?_) (v := ?_) ?_ (by kernel_rfl) ?_ ?_ ?_ ?_ hHeld ?_
            rotate_left 2
            · simp only [List.getElem?_toArray, List.getElem?_cons_succ, List.getElem?_cons_zero]
              exact rfl
            · kernel_rfl
            · kernel_rfl
            · exact fun _ _ _ h => h
            · refine Or.inl ⟨by rfl, ?_⟩
              intro w hSw
              try dsimp only at hSw
              go_simp
              try with_reducible rfl
            simp only [Act.put, List.setIfInBounds_toArray, List.set_cons_zero, List.set_cons_succ]
            refine wpAnyH_ready (rs := [38]) (by kernel_rfl) (by simp) ?_
            refine AllReadyH.cons (o := ?_) ?_ ?_ AllReadyH.nil
            rotate_left
            · simp only [List.getElem?_toArray, List.getElem?_cons_succ, List.getElem?_cons_zero]
              exact rfl
            intro K9 hK9
            go_simp
            refine (cD _ h3).mono ?_
            rintro e v4 ⟨rfl, g4⟩
            have h4 : Stage (fun _ => False) w [Ob.leftist p c W2 s2 T2, Ob.nest (.slice a2 n2 c2) (.slice a3 n3 c3) W2, Ob.box b8 #[.slice a2 n2 c2, .slice a3 n3 c3] 58, Ob.box bA #[.int .i64 x, .int .i64 y, .int .i64 z, .int .i64 q, .int .u64 r] 64, Ob.row 0 3 1 (.slice (some ⟨gl, 0, none⟩) LN rc) LN (cellsBy intC LS)] v4 := g4
            have K4 := K' _ h4
            go_wp2_with fail
            refine hK9.out _ _ (K4) (fun hHeld => ?_)
            clear hK9 K9
            try simp only [Act.put, List.setIfInBounds_toArray, List.set_cons_zero, List.set_cons_succ]
            refine wpAnyH_take (i := 39) (oi := ?_) (v := ?_) ?_ (by kernel_rfl) ?_ ?_ ?_ ?_ hHeld ?_
            rotate_left 2
            · simp only [List.getElem?_toArray, List.getElem?_cons_succ, List.getElem?_cons_zero]
              exact rfl
            · kernel_rfl
            · kernel_rfl
            · exact fun _ _ _ h => h
            · refine Or.inl ⟨by rfl, ?_⟩
              intro w hSw
              try dsimp only at hSw
              go_simp
              try with_reducible rfl
            simp only [Act.put, List.setIfInBounds_toArray, List.set_cons_zero, List.set_cons_succ]
            refine wpAnyH_take (i := 40) (oi := ?_) (v := ?_) ?_ (by kernel_rfl) ?_ ?_ ?_ ?_ hHeld ?_
            rotate_left 2
            · simp only [List.getElem?_toArray, List.getElem?_cons_succ, List.getElem?_cons_zero]
              exact rfl
            · kernel_rfl
            · kernel_rfl
            · exact fun _ _ _ h => h
            · refine Or.inl ⟨by rfl, ?_⟩
              intro w hSw
              try dsimp only at hSw
              go_simp
              try with_reducible rfl
            simp only [Act.put, List.setIfInBounds_toArray, List.set_cons_zero, List.set_cons_succ]
            refine wpAnyH_done (by kernel_rfl) ?_ _
            go_wp2_with fail
            go_meet
            exact ⟨rfl, by simp, h4⟩
        case rest =>
          obtain ⟨rfl, rfl, hs9⟩ := hcut
          clear hs8 hmin hcmp br hbr hlen hfitW
          go_wp2_with fail
          go_loopw [113] (fun i wr => ∃ j : Nat, i = .int .i64 j ∧ j ≤ LN ∧ Stage (fun _ => False) w [Ob.leftist p c W2 s2 T2, Ob.nest (.slice a2 n2 c2) (.slice a3 n3 c3) W2, Ob.box b8 #[.slice a2 n2 c2, .slice a3 n3 c3] 58, Ob.box bA #[.int .i64 x, .int .i64 y, .int .i64 z, .int .i64 q, .int .u64 r] 64, Ob.row 0 3 1 (.slice ra LN rc) LN (cellsBy intC LS)] wr) (fun i _ => LN - (intOf i).toNat)
          case atStart => exact ⟨0, rfl, Nat.zero_le _, hs9⟩
          case round =>
            clear hs9
            obtain ⟨j, rfl, hj, hs9⟩ := hrel
            by_cases hjl : j < LN
            · have hji : (j : Int) < LN := by omega
              obtain ⟨gl, cl, hcl, _, _, _, _, hu, _⟩ := owns_at intC_len 0 (hs9.owns 4 rfl) hLN.out (by omega)
              injection hcl with hcl1 _ hcl3
              subst hcl1 hcl3
              have u0 := hu j 0 _ hjl (by omega) rfl
              rw [Nat.mul_one, Nat.add_zero] at u0
              have hD := hs9.drew
              have cR := hrank _ hD j hjl
              have e1 : IntKind.i64.wrap ((LN : Int) - (j : Int)) = (LN : Int) - (j : Int) := IntWalk.i64_in _ (by omega)
              rcases Nat.eq_zero_or_pos j with h0 | h0
              · have hg : decide ((0 : Int) < (j : Int)) = false := decide_eq_false (by omega)
                have hgN : decide (0 < j) = false := decide_eq_false (by omega)
                have K : ∀ wx, Stage (fun _ => False) w [Ob.leftist p c W2 s2 T2, Ob.nest (.slice a2 n2 c2) (.slice a3 n3 c3) W2, Ob.box b8 #[.slice a2 n2 c2, .slice a3 n3 c3] 58, Ob.box bA #[.int .i64 x, .int .i64 y, .int .i64 z, .int .i64 q, .int .u64 r] 64, Ob.row 0 3 1 (.slice (some ⟨gl, 0, none⟩) LN rc) LN (cellsBy intC LS)] wx → wx.cell? ⟨b8, 0, none⟩ = some (.slice a2 n2 c2) ∧ wx.cell? ⟨b8, 1, none⟩ = some (.slice a3 n3 c3) := fun wx h => ⟨h.cell 2 rfl rfl, h.cell 2 rfl rfl⟩
                have K0 := K _ hD
                clear hrank hahead hu hs9
                replace h0 := Lib.hid h0
                generalize LS.getD j 0 = v1 at *
                go_wp2_with fail
                refine wp_region_held_drew (S := (fun w' => w'.cell? ⟨b8, 0, none⟩ = some (.slice a2 n2 c2) ∧ w'.cell? ⟨b8, 1, none⟩ = some (.slice a3 n3 c3))) (by kernel_rfl) K0 (fun hHeld => ?_)
                refine wpAnyH_take (i := 0) (oi := ?_) (v := ?_) ?_ (by kernel_rfl) ?_ ?_ ?_ ?_ hHeld ?_
                rotate_left 2
                · simp only [List.getElem?_toArray, List.getElem?_cons_zero]
                  exact rfl
                · kernel_rfl
                · kernel_rfl
                · exact fun _ _ _ h => h
                · refine Or.inl ⟨by rfl, ?_⟩
                  intro w hSw
                  try dsimp only at hSw
                  go_simp
                  try with_reducible rfl
                simp only [Act.put, List.setIfInBounds_toArray, List.set_cons_zero, List.set_cons_succ]
                refine wpAnyH_take (i := 1) (oi := ?_) (v := ?_) ?_ (by kernel_rfl) ?_ ?_ ?_ ?_ hHeld ?_
                rotate_left 2
                · simp only [List.getElem?_toArray, List.getElem?_cons_succ, List.getElem?_cons_zero]
                  exact rfl
                · kernel_rfl
                · kernel_rfl
                · exact fun _ _ _ h => h
                · refine Or.inl ⟨by rfl, ?_⟩
                  intro w hSw
                  try dsimp only at hSw
                  go_simp
                  try with_reducible rfl
                simp only [Act.put, List.setIfInBounds_toArray, List.set_cons_zero, List.set_cons_succ]
                refine wpAnyH_take (i := 3) (oi := ?_) (v := ?_) ?_ (by kernel_rfl) ?_ ?_ ?_ ?_ hHeld ?_
                rotate_left 2
                · simp only [List.getElem?_toArray, List.getElem?_cons_succ, List.getElem?_cons_zero]
                  exact rfl
                · kernel_rfl
                · kernel_rfl
                · exact fun _ _ _ h => h
                · refine Or.inl ⟨by rfl, ?_⟩
                  intro w hSw
                  try dsimp only at hSw
                  go_simp
                  try with_reducible rfl
                simp only [Act.put, List.setIfInBounds_toArray, List.set_cons_zero, List.set_cons_succ]
                refine wpAnyH_take (i := 4) (oi := ?_) (v := ?_) ?_ (by kernel_rfl) ?_ ?_ ?_ ?_ hHeld ?_
                rotate_left 2
                · simp only [List.getElem?_toArray, List.getElem?_cons_succ, List.getElem?_cons_zero]
                  exact rfl
                · kernel_rfl
                · kernel_rfl
                · exact fun _ _ _ h => h
                · refine Or.inl ⟨by rfl, ?_⟩
                  intro w hSw
                  try dsimp only at hSw
                  go_simp
                  try with_reducible rfl
                simp only [Act.put, List.setIfInBounds_toArray, List.set_cons_zero, List.set_cons_succ]
                refine wpAnyH_take (i := 5) (oi := ?_) (v := ?_) ?_ (by kernel_rfl) ?_ ?_ ?_ ?_ hHeld ?_
                rotate_left 2
                · simp only [List.getElem?_toArray, List.getElem?_cons_succ, List.getElem?_cons_zero]
                  exact rfl
                · kernel_rfl
                · kernel_rfl
                · exact fun _ _ _ h => h
                · refine Or.inl ⟨by rfl, ?_⟩
                  intro w hSw
                  try dsimp only at hSw
                  go_simp
                  try with_reducible rfl
                simp only [Act.put, List.setIfInBounds_toArray, List.set_cons_zero, List.set_cons_succ]
                refine wpAnyH_take (i := 6) (oi := ?_) (v := ?_) ?_ (by kernel_rfl) ?_ ?_ ?_ ?_ hHeld ?_
                rotate_left 2
                · simp only [List.getElem?_toArray, List.getElem?_cons_succ, List.getElem?_cons_zero]
                  exact rfl
                · kernel_rfl
                · kernel_rfl
                · exact fun _ _ _ h => h
                · refine Or.inl ⟨by rfl, ?_⟩
                  intro w hSw
                  try dsimp only at hSw
                  go_simp
                  try with_reducible rfl
                simp only [Act.put, List.setIfInBounds_toArray, List.set_cons_zero, List.set_cons_succ]
                refine wpAnyH_ready (rs := [2]) (by kernel_rfl) (by simp) ?_
                refine AllReadyH.cons (o := ?_) ?_ ?_ AllReadyH.nil
                rotate_left
                · simp only [List.getElem?_toArray, List.getElem?_cons_succ, List.getElem?_cons_zero]
                  exact rfl
                intro K9 hK9
                go_simp
                refine cR.mono ?_
                rintro e u1 ⟨rfl, g1⟩
                have h1 : Stage (fun _ => False) w [Ob.leftist p c W2 s2 T2, Ob.nest (.slice a2 n2 c2) (.slice a3 n3 c3) W2, Ob.box b8 #[.slice a2 n2 c2, .slice a3 n3 c3] 58, Ob.box bA #[.int .i64 x, .int .i64 y, .int .i64 z, .int .i64 q, .int .u64 r] 64, Ob.row 0 3 1 (.slice (some ⟨gl, 0, none⟩) LN rc) LN (cellsBy intC LS)] u1 := g1
                have K1 := K _ h1
                go_wp2_with fail
                refine hK9.out _ _ (K1) (fun hHeld => ?_)
                clear hK9 K9
                try simp only [Act.put, List.setIfInBounds_toArray, List.set_cons_zero, List.set_cons_succ]
                refine wpAnyH_take (i := 7) (oi := ?_) (v := ?_) ?_ (by kernel_rfl) ?_ ?_ ?_ ?_ hHeld ?_
                rotate_left 2
                · simp only [List.getElem?_toArray, List.getElem?_cons_succ, List.getElem?_cons_zero]
                  exact rfl
                · kernel_rfl
                · kernel_rfl
                · exact fun _ _ _ h => h
                · refine Or.inl ⟨by rfl, ?_⟩
                  intro w hSw
                  try dsimp only at hSw
                  go_simp
                  try with_reducible rfl
                simp only [Act.put, List.setIfInBounds_toArray, List.set_cons_zero, List.set_cons_succ]
                refine wpAnyH_take (i := 8) (oi := ?_) (v := ?_) ?_ (by kernel_rfl) ?_ ?_ ?_ ?_ hHeld ?_
                rotate_left 2
                · simp only [List.getElem?_toArray, List.getElem?_cons_succ, List.getElem?_cons_zero]
                  exact rfl
                · kernel_rfl
                · kernel_rfl
                · exact fun _ _ _ h => h
                · refine Or.inl ⟨by rfl, ?_⟩
                  intro w hSw
                  try dsimp only at hSw
                  go_simp
                  try with_reducible rfl
                simp only [Act.put, List.setIfInBounds_toArray, List.set_cons_zero, List.set_cons_succ]
                refine wpAnyH_take (i := 9) (oi := ?_) (v := ?_) ?_ (by kernel_rfl) ?_ ?_ ?_ ?_ hHeld ?_
                rotate_left 2
                · simp only [List.getElem?_toArray, List.getElem?_cons_succ, List.getElem?_cons_zero]
                  exact rfl
                · kernel_rfl
                · kernel_rfl
                · exact fun _ _ _ h => h
                · refine Or.inl ⟨by rfl, ?_⟩
                  intro w hSw
                  try dsimp only at hSw
                  go_simp
                  try with_reducible rfl
                simp only [Act.put, List.setIfInBounds_toArray, List.set_cons_zero, List.set_cons_succ]
                refine wpAnyH_take (i := 10) (oi := ?_) (v := ?_) ?_ (by kernel_rfl) ?_ ?_ ?_ ?_ hHeld ?_
                rotate_left 2
                · simp only [List.getElem?_toArray, List.getElem?_cons_succ, List.getElem?_cons_zero]
                  exact rfl
                · kernel_rfl
                · kernel_rfl
                · exact fun _ _ _ h => h
                · refine Or.inl ⟨by rfl, ?_⟩
                  intro w hSw
                  try dsimp only at hSw
                  go_simp
                  try with_reducible rfl
                simp only [Act.put, List.setIfInBounds_toArray, List.set_cons_zero, List.set_cons_succ]
                refine wpAnyH_take (i := 11) (oi := ?_) (v := ?_) ?_ (by kernel_rfl) ?_ ?_ ?_ ?_ hHeld ?_
                rotate_left 2
                · simp only [List.getElem?_toArray, List.getElem?_cons_succ, List.getElem?_cons_zero]
                  exact rfl
                · kernel_rfl
                · kernel_rfl
                · exact fun _ _ _ h => h
                · refine Or.inl ⟨by rfl, ?_⟩
                  intro w hSw
                  try dsimp only at hSw
                  go_simp
                  try with_reducible rfl
                simp only [Act.put, List.setIfInBounds_toArray, List.set_cons_zero, List.set_cons_succ]
                refine wpAnyH_take (i := 12) (oi := ?_) (v := undef) ?_ (by kernel_rfl) ?_ ?_ ?_ ?_ hHeld ?_
                rotate_left
                · simp only [List.getElem?_toArray, List.getElem?_cons_succ, List.getElem?_cons_zero]
                  exact rfl
                · kernel_rfl
                · kernel_rfl
                · exact fun _ _ _ h => h
                · exact Or.inr ⟨by rfl, rfl⟩
                simp only [Act.put, List.setIfInBounds_toArray, List.set_cons_zero, List.set_cons_succ]
                refine wpAnyH_take (i := 13) (oi := ?_) (v := undef) ?_ (by kernel_rfl) ?_ ?_ ?_ ?_ hHeld ?_
                rotate_left
                · simp only [List.getElem?_toArray, List.getElem?_cons_succ, List.getElem?_cons_zero]
                  exact rfl
                · kernel_rfl
                · kernel_rfl
                · exact fun _ _ _ h => h
                · exact Or.inr ⟨by rfl, rfl⟩
                simp only [Act.put, List.setIfInBounds_toArray, List.set_cons_zero, List.set_cons_succ]
                refine wpAnyH_take (i := 14) (oi := ?_) (v := undef) ?_ (by kernel_rfl) ?_ ?_ ?_ ?_ hHeld ?_
                rotate_left
                · simp only [List.getElem?_toArray, List.getElem?_cons_succ, List.getElem?_cons_zero]
                  exact rfl
                · kernel_rfl
                · kernel_rfl
                · exact fun _ _ _ h => h
                · exact Or.inr ⟨by rfl, rfl⟩
                simp only [Act.put, List.setIfInBounds_toArray, List.set_cons_zero, List.set_cons_succ]
                refine wpAnyH_take (i := 15) (oi := ?_) (v := undef) ?_ (by kernel_rfl) ?_ ?_ ?_ ?_ hHeld ?_
                rotate_left
                · simp only [List.getElem?_toArray, List.getElem?_cons_succ, List.getElem?_cons_zero]
                  exact rfl
                · kernel_rfl
                · kernel_rfl
                · exact fun _ _ _ h => h
                · exact Or.inr ⟨by rfl, rfl⟩
                simp only [Act.put, List.setIfInBounds_toArray, List.set_cons_zero, List.set_cons_succ]
                refine wpAnyH_take (i := 16) (oi := ?_) (v := undef) ?_ (by kernel_rfl) ?_ ?_ ?_ ?_ hHeld ?_
                rotate_left
                · simp only [List.getElem?_toArray, List.getElem?_cons_succ, List.getElem?_cons_zero]
                  exact rfl
                · kernel_rfl
                · kernel_rfl
                · exact fun _ _ _ h => h
                · exact Or.inr ⟨by rfl, rfl⟩
                simp only [Act.put, List.setIfInBounds_toArray, List.set_cons_zero, List.set_cons_succ]
                refine wpAnyH_take (i := 17) (oi := ?_) (v := undef) ?_ (by kernel_rfl) ?_ ?_ ?_ ?_ hHeld ?_
                rotate_left
                · simp only [List.getElem?_toArray, List.getElem?_cons_succ, List.getElem?_cons_zero]
                  exact rfl
                · kernel_rfl
                · kernel_rfl
                · exact fun _ _ _ h => h
                · exact Or.inr ⟨by rfl, rfl⟩
                simp only [Act.put, List.setIfInBounds_toArray, List.set_cons_zero, List.set_cons_succ]
                refine wpAnyH_take (i := 18) (oi := ?_) (v := undef) ?_ (by kernel_rfl) ?_ ?_ ?_ ?_ hHeld ?_
                rotate_left
                · simp only [List.getElem?_toArray, List.getElem?_cons_succ, List.getElem?_cons_zero]
                  exact rfl
                · kernel_rfl
                · kernel_rfl
                · exact fun _ _ _ h => h
                · exact Or.inr ⟨by rfl, rfl⟩
                simp only [Act.put, List.setIfInBounds_toArray, List.set_cons_zero, List.set_cons_succ]
                refine wpAnyH_take (i := 19) (oi := ?_) (v := undef) ?_ (by kernel_rfl) ?_ ?_ ?_ ?_ hHeld ?_
                rotate_left
                · simp only [List.getElem?_toArray, List.getElem?_cons_succ, List.getElem?_cons_zero]
                  exact rfl
                · kernel_rfl
                · kernel_rfl
                · exact fun _ _ _ h => h
                · exact Or.inr ⟨by rfl, rfl⟩
                simp only [Act.put, List.setIfInBounds_toArray, List.set_cons_zero, List.set_cons_succ]
                refine wpAnyH_take (i := 20) (oi := ?_) (v := undef) ?_ (by kernel_rfl) ?_ ?_ ?_ ?_ hHeld ?_
                rotate_left
                · simp only [List.getElem?_toArray, List.getElem?_cons_succ, List.getElem?_cons_zero]
                  exact rfl
                · kernel_rfl
                · kernel_rfl
                · exact fun _ _ _ h => h
                · exact Or.inr ⟨by rfl, rfl⟩
                simp only [Act.put, List.setIfInBounds_toArray, List.set_cons_zero, List.set_cons_succ]
                refine wpAnyH_take (i := 21) (oi := ?_) (v := ?_) ?_ (by kernel_rfl) ?_ ?_ ?_ ?_ hHeld ?_
                rotate_left 2
                · simp only [List.getElem?_toArray, List.getElem?_cons_succ, List.getElem?_cons_zero]
                  exact rfl
                · kernel_rfl
                · kernel_rfl
                · exact fun _ _ _ h => h
                · refine Or.inl ⟨by rfl, ?_⟩
                  intro w hSw
                  try dsimp only at hSw
                  go_simp
                  try with_reducible rfl
                simp only [Act.put, List.setIfInBounds_toArray, List.set_cons_zero, List.set_cons_succ]
                refine wpAnyH_take (i := 22) (oi := ?_) (v := ?_) ?_ (by kernel_rfl) ?_ ?_ ?_ ?_ hHeld ?_
                rotate_left 2
                · simp only [List.getElem?_toArray, List.getElem?_cons_succ, List.getElem?_cons_zero]
                  exact rfl
                · kernel_rfl
                · kernel_rfl
                · exact fun _ _ _ h => h
                · refine Or.inl ⟨by rfl, ?_⟩
                  intro w hSw
                  try dsimp only at hSw
                  go_simp
                  try with_reducible rfl
                simp only [Act.put, List.setIfInBounds_toArray, List.set_cons_zero, List.set_cons_succ]
                refine wpAnyH_done (by kernel_rfl) ?_ _
                go_wp2_with fail
                go_roundw
                case rel => exact ⟨j + 1, by go_num, by omega, h1⟩
                case measure => simp [intOf]; omega
              · obtain ⟨j', hj'⟩ : ∃ j', j = j' + 1 := ⟨j - 1, by omega⟩
                have hg : (0 : Int) < (j : Int) := by omega
                have hah : aheadW W2 (LS.getD j' 0) (LS.getD j 0) = true := by
                  have := hahead j' (by omega)
                  rw [← hj'] at this
                  exact this
                have u1 := hu j' 0 _ (by omega) (by omega) rfl
                rw [Nat.mul_one, Nat.add_zero] at u1
                have K : ∀ wx, Stage (fun _ => False) w [Ob.leftist p c W2 s2 T2, Ob.nest (.slice a2 n2 c2) (.slice a3 n3 c3) W2, Ob.box b8 #[.slice a2 n2 c2, .slice a3 n3 c3] 58, Ob.box bA #[.int .i64 x, .int .i64 y, .int .i64 z, .int .i64 q, .int .u64 r] 64, Ob.row 0 3 1 (.slice (some ⟨gl, 0, none⟩) LN rc) LN (cellsBy intC LS)] wx → wx.cell? ⟨b8, 0, none⟩ = some (.slice a2 n2 c2) ∧ wx.cell? ⟨b8, 1, none⟩ = some (.slice a3 n3 c3) ∧ wx.cell? ⟨gl, j', none⟩ = some (.int .i64 (LS.getD j' 0)) := fun wx h => by
                  refine ⟨h.cell 2 rfl rfl, h.cell 2 rfl rfl, ?_⟩
                  obtain ⟨g', c', hc', _, _, _, _, hu', _⟩ := owns_at intC_len 0 (h.owns 4 rfl) hLN.out (by omega)
                  injection hc' with hc1 _ _
                  injection hc1 with hc1
                  injection hc1 with hc1
                  subst hc1
                  have := hu' j' 0 _ (by omega) (by omega) rfl
                  rw [Nat.mul_one, Nat.add_zero] at this
                  exact this
                have K0 := K _ hD
                have cA := fun wx (h : Stage (fun _ => False) w [Ob.leftist p c W2 s2 T2, Ob.nest (.slice a2 n2 c2) (.slice a3 n3 c3) W2, Ob.box b8 #[.slice a2 n2 c2, .slice a3 n3 c3] 58, Ob.box bA #[.int .i64 x, .int .i64 y, .int .i64 z, .int .i64 q, .int .u64 r] 64, Ob.row 0 3 1 (.slice (some ⟨gl, 0, none⟩) LN rc) LN (cellsBy intC LS)] wx) => h.askB 1 rfl (fun _ ho => refahead_any (LS.getD j' 0) (LS.getD j 0) ho.1)
                rw [hah] at cA
                have e2 : IntKind.i64.wrap ((j : Int) - 1) = (j' : Int) := by rw [show (j : Int) - 1 = (j' : Int) by omega]; exact IntWalk.i64_in _ (by omega)
                have b1 : (0 : Int) ≤ (j' : Int) := by omega
                have b2 : (j' : Int) < (LN : Int) := by omega
                clear hrank hahead hu hs9 u1 hah
                replace hj' := Lib.hid hj'
                generalize LS.getD j 0 = v1 at *
                generalize LS.getD j' 0 = v0 at *
                go_wp2_with fail
                refine wp_region_held_drew (S := (fun w' => w'.cell? ⟨b8, 0, none⟩ = some (.slice a2 n2 c2) ∧ w'.cell? ⟨b8, 1, none⟩ = some (.slice a3 n3 c3) ∧ w'.cell? ⟨gl, j', none⟩ = some (.int .i64 v0))) (by kernel_rfl) K0 (fun hHeld => ?_)
                refine wpAnyH_take (i := 0) (oi := ?_) (v := ?_) ?_ (by kernel_rfl) ?_ ?_ ?_ ?_ hHeld ?_
                rotate_left 2
                · simp only [List.getElem?_toArray, List.getElem?_cons_zero]
                  exact rfl
                · kernel_rfl
                · kernel_rfl
                · exact fun _ _ _ h => h
                · refine Or.inl ⟨by rfl, ?_⟩
                  intro w hSw
                  try dsimp only at hSw
                  go_simp
                  try with_reducible rfl
                simp only [Act.put, List.setIfInBounds_toArray, List.set_cons_zero, List.set_cons_succ]
                refine wpAnyH_take (i := 1) (oi := ?_) (v := ?_) ?_ (by kernel_rfl) ?_ ?_ ?_ ?_ hHeld ?_
                rotate_left 2
                · simp only [List.getElem?_toArray, List.getElem?_cons_succ, List.getElem?_cons_zero]
                  exact rfl
                · kernel_rfl
                · kernel_rfl
                · exact fun _ _ _ h => h
                · refine Or.inl ⟨by rfl, ?_⟩
                  intro w hSw
                  try dsimp only at hSw
                  go_simp
                  try with_reducible rfl
                simp only [Act.put, List.setIfInBounds_toArray, List.set_cons_zero, List.set_cons_succ]
                refine wpAnyH_take (i := 3) (oi := ?_) (v := ?_) ?_ (by kernel_rfl) ?_ ?_ ?_ ?_ hHeld ?_
                rotate_left 2
                · simp only [List.getElem?_toArray, List.getElem?_cons_succ, List.getElem?_cons_zero]
                  exact rfl
                · kernel_rfl
                · kernel_rfl
                · exact fun _ _ _ h => h
                · refine Or.inl ⟨by rfl, ?_⟩
                  intro w hSw
                  try dsimp only at hSw
                  go_simp
                  try with_reducible rfl
                simp only [Act.put, List.setIfInBounds_toArray, List.set_cons_zero, List.set_cons_succ]
                refine wpAnyH_take (i := 4) (oi := ?_) (v := ?_) ?_ (by kernel_rfl) ?_ ?_ ?_ ?_ hHeld ?_
                rotate_left 2
                · simp only [List.getElem?_toArray, List.getElem?_cons_succ, List.getElem?_cons_zero]
                  exact rfl
                · kernel_rfl
                · kernel_rfl
                · exact fun _ _ _ h => h
                · refine Or.inl ⟨by rfl, ?_⟩
                  intro w hSw
                  try dsimp only at hSw
                  go_simp
                  try with_reducible rfl
                simp only [Act.put, List.setIfInBounds_toArray, List.set_cons_zero, List.set_cons_succ]
                refine wpAnyH_take (i := 5) (oi := ?_) (v := ?_) ?_ (by kernel_rfl) ?_ ?_ ?_ ?_ hHeld ?_
                rotate_left 2
                · simp only [List.getElem?_toArray, List.getElem?_cons_succ, List.getElem?_cons_zero]
                  exact rfl
                · kernel_rfl
                · kernel_rfl
                · exact fun _ _ _ h => h
                · refine Or.inl ⟨by rfl, ?_⟩
                  intro w hSw
                  try dsimp only at hSw
                  go_simp
                  try with_reducible rfl
                simp only [Act.put, List.setIfInBounds_toArray, List.set_cons_zero, List.set_cons_succ]
                refine wpAnyH_take (i := 6) (oi := ?_) (v := ?_) ?_ (by kernel_rfl) ?_ ?_ ?_ ?_ hHeld ?_
                rotate_left 2
                · simp only [List.getElem?_toArray, List.getElem?_cons_succ, List.getElem?_cons_zero]
                  exact rfl
                · kernel_rfl
                · kernel_rfl
                · exact fun _ _ _ h => h
                · refine Or.inl ⟨by rfl, ?_⟩
                  intro w hSw
                  try dsimp only at hSw
                  go_simp
                  try with_reducible rfl
                simp only [Act.put, List.setIfInBounds_toArray, List.set_cons_zero, List.set_cons_succ]
                refine wpAnyH_ready (rs := [2]) (by kernel_rfl) (by simp) ?_
                refine AllReadyH.cons (o := ?_) ?_ ?_ AllReadyH.nil
                rotate_left
                · simp only [List.getElem?_toArray, List.getElem?_cons_succ, List.getElem?_cons_zero]
                  exact rfl
                intro K9 hK9
                go_simp
                refine cR.mono ?_
                rintro e u1 ⟨rfl, g1⟩
                have h1 : Stage (fun _ => False) w [Ob.leftist p c W2 s2 T2, Ob.nest (.slice a2 n2 c2) (.slice a3 n3 c3) W2, Ob.box b8 #[.slice a2 n2 c2, .slice a3 n3 c3] 58, Ob.box bA #[.int .i64 x, .int .i64 y, .int .i64 z, .int .i64 q, .int .u64 r] 64, Ob.row 0 3 1 (.slice (some ⟨gl, 0, none⟩) LN rc) LN (cellsBy intC LS)] u1 := g1
                have K1 := K _ h1
                go_wp2_with fail
                refine hK9.out _ _ (K1) (fun hHeld => ?_)
                clear hK9 K9
                try simp only [Act.put, List.setIfInBounds_toArray, List.set_cons_zero, List.set_cons_succ]
                refine wpAnyH_take (i := 7) (oi := ?_) (v := ?_) ?_ (by kernel_rfl) ?_ ?_ ?_ ?_ hHeld ?_
                rotate_left 2
                · simp only [List.getElem?_toArray, List.getElem?_cons_succ, List.getElem?_cons_zero]
                  exact rfl
                · kernel_rfl
                · kernel_rfl
                · exact fun _ _ _ h => h
                · refine Or.inl ⟨by rfl, ?_⟩
                  intro w hSw
                  try dsimp only at hSw
                  go_simp
                  try with_reducible rfl
                simp only [Act.put, List.setIfInBounds_toArray, List.set_cons_zero, List.set_cons_succ]
                refine wpAnyH_take (i := 8) (oi := ?_) (v := ?_) ?_ (by kernel_rfl) ?_ ?_ ?_ ?_ hHeld ?_
                rotate_left 2
                · simp only [List.getElem?_toArray, List.getElem?_cons_succ, List.getElem?_cons_zero]
                  exact rfl
                · kernel_rfl
                · kernel_rfl
                · exact fun _ _ _ h => h
                · refine Or.inl ⟨by rfl, ?_⟩
                  intro w hSw
                  try dsimp only at hSw
                  go_simp
                  try with_reducible rfl
                simp only [Act.put, List.setIfInBounds_toArray, List.set_cons_zero, List.set_cons_succ]
                refine wpAnyH_take (i := 9) (oi := ?_) (v := ?_) ?_ (by kernel_rfl) ?_ ?_ ?_ ?_ hHeld ?_
                rotate_left 2
                · simp only [List.getElem?_toArray, List.getElem?_cons_succ, List.getElem?_cons_zero]
                  exact rfl
                · kernel_rfl
                · kernel_rfl
                · exact fun _ _ _ h => h
                · refine Or.inl ⟨by rfl, ?_⟩
                  intro w hSw
                  try dsimp only at hSw
                  go_simp
                  try with_reducible rfl
                simp only [Act.put, List.setIfInBounds_toArray, List.set_cons_zero, List.set_cons_succ]
                refine wpAnyH_take (i := 10) (oi := ?_) (v := ?_) ?_ (by kernel_rfl) ?_ ?_ ?_ ?_ hHeld ?_
                rotate_left 2
                · simp only [List.getElem?_toArray, List.getElem?_cons_succ, List.getElem?_cons_zero]
                  exact rfl
                · kernel_rfl
                · kernel_rfl
                · exact fun _ _ _ h => h
                · refine Or.inl ⟨by rfl, ?_⟩
                  intro w hSw
                  try dsimp only at hSw
                  go_simp
                  try with_reducible rfl
                simp only [Act.put, List.setIfInBounds_toArray, List.set_cons_zero, List.set_cons_succ]
                refine wpAnyH_take (i := 11) (oi := ?_) (v := ?_) ?_ (by kernel_rfl) ?_ ?_ ?_ ?_ hHeld ?_
                rotate_left 2
                · simp only [List.getElem?_toArray, List.getElem?_cons_succ, List.getElem?_cons_zero]
                  exact rfl
                · kernel_rfl
                · kernel_rfl
                · exact fun _ _ _ h => h
                · refine Or.inl ⟨by rfl, ?_⟩
                  intro w hSw
                  try dsimp only at hSw
                  go_simp
                  try with_reducible rfl
                simp only [Act.put, List.setIfInBounds_toArray, List.set_cons_zero, List.set_cons_succ]
                refine wpAnyH_take (i := 12) (oi := ?_) (v := ?_) ?_ (by kernel_rfl) ?_ ?_ ?_ ?_ hHeld ?_
                rotate_left 2
                · simp only [List.getElem?_toArray, List.getElem?_cons_succ, List.getElem?_cons_zero]
                  exact rfl
                · kernel_rfl
                · kernel_rfl
                · exact fun _ _ _ h => h
                · refine Or.inl ⟨by rfl, ?_⟩
                  intro w hSw
                  try dsimp only at hSw
                  go_simp
                  try with_reducible rfl
                simp only [Act.put, List.setIfInBounds_toArray, List.set_cons_zero, List.set_cons_succ]
                refine wpAnyH_take (i := 13) (oi := ?_) (v := ?_) ?_ (by kernel_rfl) ?_ ?_ ?_ ?_ hHeld ?_
                rotate_left 2
                · simp only [List.getElem?_toArray, List.getElem?_cons_succ, List.getElem?_cons_zero]
                  exact rfl
                · kernel_rfl
                · kernel_rfl
                · exact fun _ _ _ h => h
                · refine Or.inl ⟨by rfl, ?_⟩
                  intro w hSw
                  try dsimp only at hSw
                  go_simp
                  try with_reducible rfl
                simp only [Act.put, List.setIfInBounds_toArray, List.set_cons_zero, List.set_cons_succ]
                refine wpAnyH_take (i := 14) (oi := ?_) (v := ?_) ?_ (by kernel_rfl) ?_ ?_ ?_ ?_ hHeld ?_
                rotate_left 2
                · simp only [List.getElem?_toArray, List.getElem?_cons_succ, List.getElem?_cons_zero]
                  exact rfl
                · kernel_rfl
                · kernel_rfl
                · exact fun _ _ _ h => h
                · refine Or.inl ⟨by rfl, ?_⟩
                  intro w hSw
                  try dsimp only at hSw
                  go_simp
                  try with_reducible rfl
                simp only [Act.put, List.setIfInBounds_toArray, List.set_cons_zero, List.set_cons_succ]
                refine wpAnyH_take (i := 15) (oi := ?_) (v := ?_) ?_ (by kernel_rfl) ?_ ?_ ?_ ?_ hHeld ?_
                rotate_left 2
                · simp only [List.getElem?_toArray, List.getElem?_cons_succ, List.getElem?_cons_zero]
                  exact rfl
                · kernel_rfl
                · kernel_rfl
                · exact fun _ _ _ h => h
                · refine Or.inl ⟨by rfl, ?_⟩
                  intro w hSw
                  try dsimp only at hSw
                  go_simp
                  try with_reducible rfl
                simp only [Act.put, List.setIfInBounds_toArray, List.set_cons_zero, List.set_cons_succ]
                refine wpAnyH_take (i := 16) (oi := ?_) (v := ?_) ?_ (by kernel_rfl) ?_ ?_ ?_ ?_ hHeld ?_
                rotate_left 2
                · simp only [List.getElem?_toArray, List.getElem?_cons_succ, List.getElem?_cons_zero]
                  exact rfl
                · kernel_rfl
                · kernel_rfl
                · exact fun _ _ _ h => h
                · refine Or.inl ⟨by rfl, ?_⟩
                  intro w hSw
                  try dsimp only at hSw
                  go_simp
                  try with_reducible rfl
                simp only [Act.put, List.setIfInBounds_toArray, List.set_cons_zero, List.set_cons_succ]
                refine wpAnyH_take (i := 17) (oi := ?_) (v := ?_) ?_ (by kernel_rfl) ?_ ?_ ?_ ?_ hHeld ?_
                rotate_left 2
                · simp only [List.getElem?_toArray, List.getElem?_cons_succ, List.getElem?_cons_zero]
                  exact rfl
                · kernel_rfl
                · kernel_rfl
                · exact fun _ _ _ h => h
                · refine Or.inl ⟨by rfl, ?_⟩
                  intro w hSw
                  try dsimp only at hSw
                  go_simp
                  try with_reducible rfl
                simp only [Act.put, List.setIfInBounds_toArray, List.set_cons_zero, List.set_cons_succ]
                refine wpAnyH_take (i := 18) (oi := ?_) (v := ?_) ?_ (by kernel_rfl) ?_ ?_ ?_ ?_ hHeld ?_
                rotate_left 2
                · simp only [List.getElem?_toArray, List.getElem?_cons_succ, List.getElem?_cons_zero]
                  exact rfl
                · kernel_rfl
                · kernel_rfl
                · exact fun _ _ _ h => h
                · refine Or.inl ⟨by rfl, ?_⟩
                  intro w hSw
                  try dsimp only at hSw
                  go_simp
                  try with_reducible rfl
                simp only [Act.put, List.setIfInBounds_toArray, List.set_cons_zero, List.set_cons_succ]
                refine wpAnyH_ready (rs := [19]) (by kernel_rfl) (by simp) ?_
                refine AllReadyH.cons (o := ?_) ?_ ?_ AllReadyH.nil
                rotate_left
                · simp only [List.getElem?_toArray, List.getElem?_cons_succ, List.getElem?_cons_zero]
                  exact rfl
                intro K9 hK9
                go_simp
                refine (cA _ h1).mono ?_
                rintro e u2 ⟨rfl, g2⟩
                have h2 : Stage (fun _ => False) w [Ob.leftist p c W2 s2 T2, Ob.nest (.slice a2 n2 c2) (.slice a3 n3 c3) W2, Ob.box b8 #[.slice a2 n2 c2, .slice a3 n3 c3] 58, Ob.box bA #[.int .i64 x, .int .i64 y, .int .i64 z, .int .i64 q, .int .u64 r] 64, Ob.row 0 3 1 (.slice (some ⟨gl, 0, none⟩) LN rc) LN (cellsBy intC LS)] u2 := g2
                have K2 := K _ h2
                go_wp2_with fail
                refine hK9.out _ _ (K2) (fun hHeld => ?_)
                clear hK9 K9
                try simp only [Act.put, List.setIfInBounds_toArray, List.set_cons_zero, List.set_cons_succ]
                refine wpAnyH_take (i := 20) (oi := ?_) (v := ?_) ?_ (by kernel_rfl) ?_ ?_ ?_ ?_ hHeld ?_
                rotate_left 2
                · simp only [List.getElem?_toArray, List.getElem?_cons_succ, List.getElem?_cons_zero]
                  exact rfl
                · kernel_rfl
                · kernel_rfl
                · exact fun _ _ _ h => h
                · refine Or.inl ⟨by rfl, ?_⟩
                  intro w hSw
                  try dsimp only at hSw
                  go_simp
                  try with_reducible rfl
                simp only [Act.put, List.setIfInBounds_toArray, List.set_cons_zero, List.set_cons_succ]
                refine wpAnyH_take (i := 21) (oi := ?_) (v := ?_) ?_ (by kernel_rfl) ?_ ?_ ?_ ?_ hHeld ?_
                rotate_left 2
                · simp only [List.getElem?_toArray, List.getElem?_cons_succ, List.getElem?_cons_zero]
                  exact rfl
                · kernel_rfl
                · kernel_rfl
                · exact fun _ _ _ h => h
                · refine Or.inl ⟨by rfl, ?_⟩
                  intro w hSw
                  try dsimp only at hSw
                  go_simp
                  try with_reducible rfl
                simp only [Act.put, List.setIfInBounds_toArray, List.set_cons_zero, List.set_cons_succ]
                refine wpAnyH_take (i := 22) (oi := ?_) (v := ?_) ?_ (by kernel_rfl) ?_ ?_ ?_ ?_ hHeld ?_
                rotate_left 2
                · simp only [List.getElem?_toArray, List.getElem?_cons_succ, List.getElem?_cons_zero]
                  exact rfl
                · kernel_rfl
                · kernel_rfl
                · exact fun _ _ _ h => h
                · refine Or.inl ⟨by rfl, ?_⟩
                  intro w hSw
                  try dsimp only at hSw
                  go_simp
                  try with_reducible rfl
                simp only [Act.put, List.setIfInBounds_toArray, List.set_cons_zero, List.set_cons_succ]
                refine wpAnyH_done (by kernel_rfl) ?_ _
                go_wp2_with fail
                go_roundw
                case rel => exact ⟨j + 1, by go_num, by omega, h2⟩
                case measure => simp [intOf]; omega
            · have hji : ¬ (j : Int) < LN := by omega
              go_wp2_with fail
              go_roundw
              case rel => exact ⟨k + 1, W2, s2, T2, a2, n2, c2, a3, n3, c3, by omega, by go_num, hs9.take 3⟩
              case measure => simp [intOf]; omega
      · have hki : ¬ (k : Int) < n0 := by omega
        go_wp2_with fail
        go_ret
        exact ⟨rfl, hs.below⟩
end Go.Proofs.Ythjelmbicnbhiaa
