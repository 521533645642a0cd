/- FibonacciTrees, walked: whatever is done, how many trees there are. -/
import Derived.Test.YtcjjglaimfhofaaFiTreesMath
import Derived.Test.YtcjjglaimfhofaaNestDoK
import Derived.Deep.RegionHeld3
import Derived.Deep.CutBlock
import Derived.Deep.CutRange
namespace Go.Proofs.Ytcjjglaimfhofaa
open Go.RowKit Go.Sort

/-- The nest, the document's beside it, and where that lies. -/
abbrev trL (p c b8 : Nat) (W : WS) (g : FiG) (a : Option Addr) (n d : Nat) (a' : Option Addr) (n' d' : Nat) : List Ob :=
  [Ob.fibn p c W g, Ob.nest (.slice a n d) (.slice a' n' d') W, Ob.box b8 #[.slice a n d, .slice a' n' d'] 59]
section
variable {F0 : Nat → Prop} {W0 w : World} {l : List Ob} {hv cv : Value} {W : WS}
theorem frefin_st (h : Stage F0 W0 l w) (i : Nat) (hi : l[i]? = some (Ob.nest hv cv W)) (y : Int) : Calls Try.prog 22 #[.agg #[hv, cv], .int .i64 y] w fun e w' => e = .returned (.bool (inW W y)) ∧ Stage F0 W0 l w' :=
  (refin_any y (h.nestAt i hi)).mono fun _ _ ⟨h1, h2⟩ => ⟨h1, h.later h2⟩
theorem freflen_st (h : Stage F0 W0 l w) (i : Nat) (hi : l[i]? = some (Ob.nest hv cv W)) (y : Int) : Calls Try.prog 24 #[.agg #[hv, cv], .int .i64 y] w fun e w' => e = .returned (.int .i64 (lenW W y)) ∧ Stage F0 W0 l w' :=
  (reflen_any y (h.nestAt i hi)).mono fun _ _ ⟨h1, h2⟩ => ⟨h1, h.later h2⟩
theorem frefhas_st (h : Stage F0 W0 l w) (i : Nat) (hi : l[i]? = some (Ob.nest hv cv W)) (y : Int) : Calls Try.prog 26 #[.agg #[hv, cv], .int .i64 y] w fun e w' => e = .returned (.bool (hasW W y)) ∧ Stage F0 W0 l w' :=
  (refhas_any y (h.nestAt i hi)).mono fun _ _ ⟨h1, h2⟩ => ⟨h1, h.later h2⟩
/-- What the document's nest says of a slot. -/
theorem home_cell (h : Stage F0 W0 l w) (i : Nat) {a : Option Addr} {n d : Nat} (hi : l[i]? = some (Ob.nest hv (.slice a n d) W)) {x : Int} (hx : inW W x = true) : ∃ (k g : Nat), x = k ∧ k < n ∧ a = some ⟨g, 0, none⟩ ∧ w.cell? ⟨g, k * 3, none⟩ = some (.int .i64 (cellW W x).home) := by
  have hp := prin_slot hx
  obtain ⟨k, rfl⟩ : ∃ k : Nat, x = k := ⟨x.toNat, by have := hp.1; omega⟩
  have hk : k < W.cells.length := by have := hp.2; omega
  obtain ⟨g, c, hv, _, h1, _, _⟩ := (h.nestAt i hi).ccell k hk
  rw [cell_nat W k hk]
  cases hv
  exact ⟨k, g, rfl, hk, rfl, h1⟩
end
set_option maxRecDepth 100000 in
set_option maxHeartbeats 16000000 in
theorem ftrees_walk (C : Nat) (hC : C ≤ 255) (a0 : Option Addr) (n0 cap : Nat) (hcap : n0 ≤ cap ∧ cap ≤ 9223372036854775807) (w : World) (hact : ActsAt w a0 n0) :
    Calls Try.prog 8 #[.int .u8 C, .slice a0 n0 cap] w fun e w' => e = .returned (.bool true) ∧ Below w.heap.size w w' := by
  obtain ⟨hcap1, hcap2⟩ := hcap
  obtain ⟨m, hm⟩ : ∃ m, m = C % 60 := ⟨_, rfl⟩
  have hm30 : m < 60 := by omega
  have q1 : Int.tmod (C : Int) 60 = (m : Int) := by rw [hm]; exact (Int.ofNat_tmod C 60).symm
  clear hm
  go_enter Try.func8, Try.ntmps8
  go_wp2_with fail
  refine (falive_any w).mono ?_
  rintro e w1 ⟨rfl, hb⟩
  go_wp2_with fail
  refine (fib_start m (by omega) ((Stage.start w).later hb)).mono ?_
  rintro e w2 ⟨p, c, rfl, hs⟩
  clear hb
  by_cases h60 : (90 : Int) < n0
  · go_wp2_with fail
    go_ret
    exact ⟨rfl, hs.below⟩
  replace hs : Stage (fun _ => False) w [Ob.fibn p c (newW m) fiG0] w2 := hs
  have hW0 : (newW m).cells.length = m := by simp [newW]
  go_wp2_with fail
  refine (refnew_any m (by omega) w2).mono ?_
  rintro e w4 ⟨hv, cv, rfl, hb3, hN3, hF3⟩
  obtain ⟨ha, hc, rfl, _, _⟩ := hN3.hform
  obtain ⟨ca1, cc1, hcv, _, _⟩ := hN3.cform
  rw [hW0] at hcv
  subst hcv
  have hs3 := hs.add (O := Ob.nest (.slice ha (newW m).heaps.length hc) (.slice ca1 m cc1) (newW m)) hb3 ⟨hN3, rfl⟩ hF3
  clear hs hb3 hN3 hF3
  generalize (newW m).heaps.length = n1 at *
  obtain ⟨w6, hw6, hs5⟩ : ∃ w6, w4.alloc (.cells #[.slice ha n1 hc, .slice ca1 m cc1] 59) = w6 ∧ Stage (fun _ => False) w (trL p c w4.heap.size (newW m) fiG0 ha n1 hc ca1 m cc1) w6 := ⟨_, rfl, hs3.alloc _ _⟩
  clear hs3
  go_wp2_with fail
  clear hw6
  generalize w4.heap.size = b8 at *
  generalize newW m = WN at *
  go_loopw [11, 12, 13, 14, 16, 17, 18, 19, 48, 10, 15] (fun _ _ _ _ _ _ _ _ i _ _ wr => ∃ (k : Nat) (W : WS) (g : FiG) (a : Option Addr) (n d : Nat) (a' : Option Addr) (n' d' : Nat), k ≤ n0 ∧ i = .int .i64 k ∧ Stage (fun _ => False) w (trL p c b8 W g a n d a' n' d') wr) (fun _ _ _ _ _ _ _ _ i _ _ _ => n0 - (intOf i).toNat)
  case atStart => exact ⟨0, WN, fiG0, ha, n1, hc, ca1, m, cc1, Nat.zero_le _, rfl, hs5⟩
  case round =>
    clear hs5 hW0
    obtain ⟨k, W, g, a, n, d, a', n', d', hk, rfl, hs⟩ := hrel
    by_cases hlt : k < n0
    · have hki : (k : Int) < n0 := by omega
      obtain ⟨ba, offa, x, y, z, q, r, rfl, g0, g1, g2, g3, g4, hy, hz⟩ := hact k hlt
      replace g0 := later hs.below g0
      replace g1 := later hs.below g1
      replace g2 := later hs.below g2
      replace g3 := later hs.below g3
      replace g4 := later hs.below g4
      obtain ⟨wr1, hwr1, hs3⟩ : ∃ w9 : World, wr.alloc (.cells #[.int .i64 x, .int .i64 y, .int .i64 z, .int .i64 q, .int .u64 r] 65) = w9 ∧ Stage (fun _ => False) w (trL p c b8 W g a n d a' n' d' ++ [Ob.box wr.heap.size #[.int .i64 x, .int .i64 y, .int .i64 z, .int .i64 q, .int .u64 r] 65]) w9 := ⟨_, rfl, hs.alloc _ _⟩
      have hIn := frefin_st hs3 1 rfl z
      have k0 := hs3.cell 2 rfl (o := 0) rfl
      have k1 := hs3.cell 2 rfl (o := 1) rfl
      have d0 := hs3.cell 3 rfl (o := 0) rfl
      have d1 := hs3.cell 3 rfl (o := 1) rfl
      have d2 := hs3.cell 3 rfl (o := 2) rfl
      clear hs
      go_upto_region 12 with fail
      clear hwr1 g0 g1 g2 g3 g4
      generalize wr.heap.size = bA at *
      go_cut [67] from 49 to 181 (fun x67 wx => x67 = .bool (inW W z && (x == 4 || x == 5)) ∧ Stage (fun _ => False) w (trL p c b8 W g a n d a' n' d' ++ [Ob.box bA #[.int .i64 x, .int .i64 y, .int .i64 z, .int .i64 q, .int .u64 r] 65]) wx)
      case first =>
        cases hin : inW W z
        · rw [hin] at hIn
          go_wp2_with fail
          refine hIn.mono ?_
          rintro e v1 ⟨rfl, h4⟩
          clear hIn hs3
          go_wp2_with fail
          go_meet
          exact ⟨by rw [hin]; rfl, h4⟩
        · rw [hin] at hIn
          go_wp2_with fail
          refine hIn.mono ?_
          rintro e v1 ⟨rfl, h4⟩
          have d0 := h4.cell 3 rfl (o := 0) rfl
          clear hIn hs3
          by_cases h40 : x = 4
          · subst h40
            go_wp2_with fail
            go_meet
            exact ⟨by rw [hin]; rfl, h4⟩
          · have f4 : (x == 4) = false := by simpa using h40
            by_cases h5 : x = 5
            · subst h5
              go_wp2_with fail
              go_meet
              exact ⟨by rw [hin]; rfl, h4⟩
            · have f5 : (x == 5) = false := by simpa using h5
              go_wp2_with fail
              go_meet
              exact ⟨by rw [hin, f4, f5]; rfl, h4⟩
      case rest =>
        obtain ⟨rfl, hs3⟩ := hcut
        clear hIn k0 k1 d0 d1 d2
        have hh : homeI W x y z = if (inW W z && (x == 4 || x == 5)) = true then ((cellW W z).home : Int) else y := rfl
        have hin : (inW W z && (x == 4 || x == 5)) = true → inW W z = true := fun h => by rw [Bool.and_eq_true] at h; exact h.1
        generalize hBB : (inW W z && (x == 4 || x == 5)) = B at *
        replace hBB := Lib.hid hBB
        go_upto_if 67 with fail
        go_cut [11] from 49 to 181 (fun x11 wx => x11 = .int .i64 (homeI W x y z) ∧ Stage (fun _ => False) w (trL p c b8 W g a n d a' n' d' ++ [Ob.box bA #[.int .i64 x, .int .i64 y, .int .i64 z, .int .i64 q, .int .u64 r] 65]) wx)
        case first =>
          replace hh := Lib.hid hh
          cases B with
          | false =>
            go_wp2_with fail
            go_meet
            exact ⟨by rw [hh.out]; rfl, hs3⟩
          | true =>
            obtain ⟨kz, gz, rfl, hkz, rfl, u⟩ := home_cell hs3 1 rfl (hin rfl)
            have hkz2 : (kz : Int) < n' := by omega
            have k1 := hs3.cell 2 rfl (o := 1) rfl
            have d2 := hs3.cell 3 rfl (o := 2) rfl
            go_wp2_with fail
            go_meet
            exact ⟨by rw [hh.out]; rfl, hs3⟩
        case rest =>
          obtain ⟨rfl, hs4⟩ := hcut
          clear hh hin hs3 hBB
          have hhi : inInt (homeI W x y z) := by
            unfold homeI
            split
            · have hf := (hs4.get (i := 0) rfl).elim fun _ ho => fib_fit ho
              rename_i e
              have e1 : inW W z = true := by rw [Bool.and_eq_true] at e; exact e.1
              have := (homes_all W).keyLt hf (List.ne_nil_of_mem ((homes_all W).home e1).2)
              exact ⟨by omega, by omega⟩
            · exact hy
          have cR : ∀ (h : Int), inInt h → ∀ dr os, Calls Try.prog 23 #[.pointer (some ⟨p, 0, none⟩), .int .i64 h] (grow (redrawn wc dr) os) fun e w'' => e = .returned (.int .i64 (rootsI g h)) ∧ ∃ p : Regrown, w'' = grow (redrawn wc p.d) p.os := fun h hi dr os => Calls.regrown_of (by obtain ⟨F', ho⟩ := (hs4.later (below_regrown wc dr os)).get (i := 0) rfl; exact roots_fib h hi ho)
          have cL : ∀ (h : Int) dr os, Calls Try.prog 24 #[.agg #[.slice a n d, .slice a' n' d'], .int .i64 h] (grow (redrawn wc dr) os) fun e w'' => e = .returned (.int .i64 (lenW W h)) ∧ ∃ p : Regrown, w'' = grow (redrawn wc p.d) p.os := fun h dr os => Calls.regrown_of (reflen_any h ((hs4.later (below_regrown wc dr os)).nestAt 1 rfl))
          have c0 := cell_regrown (hs4.cell 2 rfl (o := 0) rfl)
          have c1 := cell_regrown (hs4.cell 2 rfl (o := 1) rfl)
          have c2 := cell_regrown (hs4.cell 3 rfl (o := 2) rfl)
          go_upto_region 14 with fail
          refine wp_region_quiet_below (by kernel_rfl) (by kernel_rfl) ?_
          repeat (first | go_big_quiet_step (first | with_reducible exact cR _ hhi _ _ | with_reducible exact cR _ hz _ _ | with_reducible exact cL _ _ _) | quiet_step (fail))
          refine wpQuiet_nil ?_
          intro W3 hw
          replace hw := below_regrown' hw
          replace hs4 := hs4.later hw
          clear cR cL c0 c1 c2 hw
          have hb1 := fun (h : Int) => (hs4.get (i := 0) rfl).elim fun _ ho => (fib_ok ho).elim fun _ ⟨_, _, I⟩ => I.lens h
          have hcapW : W.cells.length ≤ 65536 := (hs4.get (i := 0) rfl).elim fun _ ho => (fib_fit ho).cap
          have k0 := hs4.cell 2 rfl (o := 0) rfl
          have k1 := hs4.cell 2 rfl (o := 1) rfl
          have d0 := hs4.cell 3 rfl (o := 0) rfl
          have d1 := hs4.cell 3 rfl (o := 1) rfl
          have d2 := hs4.cell 3 rfl (o := 2) rfl
          have d3 := hs4.cell 3 rfl (o := 3) rfl
          have d4 := hs4.cell 3 rfl (o := 4) rfl
          replace hs4 := hs4.nestKeep 1 rfl
          have hD := doK_st (fib_nests p c) (o9 := (.slice a n d, .slice a' n' d', W)) (g := g) (r := [Ob.box b8 #[.slice a n d, .slice a' n' d'] 59, Ob.box bA #[.int .i64 x, .int .i64 y, .int .i64 z, .int .i64 q, .int .u64 r] 65]) x y z q r hy hz hs4
          clear hs4
          go_wp2_with fail
          refine hD.mono ?_
          rintro e v4 ⟨a2, n2, c2, a3, n3, c3, g', rfl, hRg, hs4⟩
          clear hD k0 k1 d0 d1 d2 d3 d4
          replace hs4 : Stage (fun _ => False) w [Ob.fibn p c (doW W x y z q r) g', Ob.nestK (.slice a n d, .slice a' n' d', W) (.slice a2 n2 c2) (.slice a3 n3 c3) (doW W x y z q r), Ob.box b8 #[.slice a n d, .slice a' n' d'] 59, Ob.box bA #[.int .i64 x, .int .i64 y, .int .i64 z, .int .i64 q, .int .u64 r] 65] v4 := hs4
          -- what the act made of the trees
          have hput : x = 1 → chB W (doW W x y z q r) (homeI W x y z) z = true → rootsI g' (homeI W x y z) = rootsI g (homeI W x y z) + 1 := fun e h => trees_put hRg e h
          have hdec : x = 4 → rootsI g (homeI W x y z) ≤ rootsI g' (homeI W x y z) := fun e => trees_dec hRg e _
          have hmel : x = 6 → chB W (doW W x y z q r) (homeI W x y z) z = true → rootsI g' (homeI W x y z) = rootsI g (homeI W x y z) + rootsI g z := fun e h => trees_meld hRg e h
          have hext : x = 3 → chB W (doW W x y z q r) (homeI W x y z) z = true → rootsI g' (homeI W x y z) ≤ 2 * Lib.bitLen (lenW (doW W x y z q r) (homeI W x y z)) + 1 := fun e h => (hs4.get (i := 0) rfl).elim fun _ ho => (fib_ok ho).elim fun _ ⟨_, _, I⟩ => trees_ext I (fib_fit ho) hRg e h
          have hb2 := (hs4.get (i := 0) rfl).elim fun _ ho => (fib_ok ho).elim fun _ ⟨_, _, I⟩ => I.lens (homeI W x y z)
          have hcap2' : (doW W x y z q r).cells.length ≤ 65536 := (hs4.get (i := 0) rfl).elim fun _ ho => (fib_fit ho).cap
          have hl1 := len_le W (homeI W x y z)
          have hl2 := len_le (doW W x y z q r) (homeI W x y z)
          have hl3 := len_le W z
          have hwb := (hb1 (homeI W x y z)).1
          have hob := (hb1 z).1
          clear hRg hb1
          generalize hch : chB W (doW W x y z q r) (homeI W x y z) z = ch at *
          unfold chB at hch
          generalize homeI W x y z = hm at *
          generalize doW W x y z q r = W2 at *
          obtain ⟨v5, hv5, hs5⟩ : ∃ v5, v4.alloc (.cells #[.slice a2 n2 c2, .slice a3 n3 c3] 59) = v5 ∧ Stage (fun _ => False) w [Ob.fibn p c W2 g', Ob.nestK (.slice a n d, .slice a' n' d', W) (.slice a2 n2 c2) (.slice a3 n3 c3) W2, Ob.box b8 #[.slice a n d, .slice a' n' d'] 59, Ob.box bA #[.int .i64 x, .int .i64 y, .int .i64 z, .int .i64 q, .int .u64 r] 65, Ob.box v4.heap.size #[.slice a2 n2 c2, .slice a3 n3 c3] 59] v5 := ⟨_, rfl, hs4.alloc _ _⟩
          clear hs4
          have cR : ∀ dr os, Calls Try.prog 23 #[.pointer (some ⟨p, 0, none⟩), .int .i64 hm] (grow (redrawn v5 dr) os) fun e w'' => e = .returned (.int .i64 (rootsI g' hm)) ∧ ∃ p : Regrown, w'' = grow (redrawn v5 p.d) p.os := fun dr os => Calls.regrown_of (by obtain ⟨F', ho⟩ := (hs5.later (below_regrown v5 dr os)).get (i := 0) rfl; exact roots_fib hm hhi ho)
          have cL : ∀ dr os, Calls Try.prog 24 #[.agg #[.slice a2 n2 c2, .slice a3 n3 c3], .int .i64 hm] (grow (redrawn v5 dr) os) fun e w'' => e = .returned (.int .i64 (lenW W2 hm)) ∧ ∃ p : Regrown, w'' = grow (redrawn v5 p.d) p.os := fun dr os => Calls.regrown_of (reflen_any hm ((hs5.later (below_regrown v5 dr os)).nestAtK 1 rfl))
          have c0 := cell_regrown (hs5.cell 4 rfl (o := 0) rfl)
          have c1 := cell_regrown (hs5.cell 4 rfl (o := 1) rfl)
          go_upto_region 16 with fail
          clear hv5
          generalize v4.heap.size = bN at *
          refine wp_region_quiet_below (by kernel_rfl) (by kernel_rfl) ?_
          repeat (first | go_big_quiet_step (first | with_reducible exact cR _ _ | with_reducible exact cL _ _) | quiet_step (fail))
          refine wpQuiet_nil ?_
          intro W4 hw4
          replace hw4 := below_regrown' hw4
          replace hs5 : Stage (fun _ => False) w [Ob.fibn p c W2 g', Ob.nestK (.slice a n d, .slice a' n' d', W) (.slice a2 n2 c2) (.slice a3 n3 c3) W2, Ob.box b8 #[.slice a n d, .slice a' n' d'] 59, Ob.box bA #[.int .i64 x, .int .i64 y, .int .i64 z, .int .i64 q, .int .u64 r] 65, Ob.box bN #[.slice a2 n2 c2, .slice a3 n3 c3] 59] W4 := hs5.later hw4
          clear cR cL c0 c1 hw4 hhi
          -- was it changed?
          have cO : ∀ w9 : World, Stage (fun _ => False) w [Ob.fibn p c W2 g', Ob.nestK (.slice a n d, .slice a' n' d', W) (.slice a2 n2 c2) (.slice a3 n3 c3) W2, Ob.box b8 #[.slice a n d, .slice a' n' d'] 59, Ob.box bA #[.int .i64 x, .int .i64 y, .int .i64 z, .int .i64 q, .int .u64 r] 65, Ob.box bN #[.slice a2 n2 c2, .slice a3 n3 c3] 59] w9 → Calls Try.prog 26 #[.agg #[.slice a n d, .slice a' n' d'], .int .i64 z] w9 fun e w' => e = .returned (.bool (hasW W z)) ∧ Stage (fun _ => False) w [Ob.fibn p c W2 g', Ob.nestK (.slice a n d, .slice a' n' d', W) (.slice a2 n2 c2) (.slice a3 n3 c3) W2, Ob.box b8 #[.slice a n d, .slice a' n' d'] 59, Ob.box bA #[.int .i64 x, .int .i64 y, .int .i64 z, .int .i64 q, .int .u64 r] 65, Ob.box bN #[.slice a2 n2 c2, .slice a3 n3 c3] 59] w' := fun w9 h9 => (refhas_any z (h9.nestOld 1 rfl)).mono fun _ _ ⟨h1, h2⟩ => ⟨h1, h9.later h2⟩
          have cN : ∀ w9 : World, Stage (fun _ => False) w [Ob.fibn p c W2 g', Ob.nestK (.slice a n d, .slice a' n' d', W) (.slice a2 n2 c2) (.slice a3 n3 c3) W2, Ob.box b8 #[.slice a n d, .slice a' n' d'] 59, Ob.box bA #[.int .i64 x, .int .i64 y, .int .i64 z, .int .i64 q, .int .u64 r] 65, Ob.box bN #[.slice a2 n2 c2, .slice a3 n3 c3] 59] w9 → Calls Try.prog 26 #[.agg #[.slice a2 n2 c2, .slice a3 n3 c3], .int .i64 z] w9 fun e w' => e = .returned (.bool (hasW W2 z)) ∧ Stage (fun _ => False) w [Ob.fibn p c W2 g', Ob.nestK (.slice a n d, .slice a' n' d', W) (.slice a2 n2 c2) (.slice a3 n3 c3) W2, Ob.box b8 #[.slice a n d, .slice a' n' d'] 59, Ob.box bA #[.int .i64 x, .int .i64 y, .int .i64 z, .int .i64 q, .int .u64 r] 65, Ob.box bN #[.slice a2 n2 c2, .slice a3 n3 c3] 59] w' := fun w9 h9 => (refhas_any z (h9.nestAtK 1 rfl)).mono fun _ _ ⟨h1, h2⟩ => ⟨h1, h9.later h2⟩
          have k0 := hs5.cell 2 rfl (o := 0) rfl
          have k1 := hs5.cell 2 rfl (o := 1) rfl
          have d2 := hs5.cell 3 rfl (o := 2) rfl
          have y0 := hs5.cell 4 rfl (o := 0) rfl
          have y1 := hs5.cell 4 rfl (o := 1) rfl
          have hcO := cO W4 hs5
          generalize hasW W z = h1 at *
          generalize hasW W2 z = h2 at *
          generalize rootsI g hm = was at *
          generalize rootsI g' hm = now at *
          generalize rootsI g z = other at *
          generalize hmany : lenW W hm = many at *
          generalize hleft : lenW W2 hm = left at *
          go_upto_region 17 with fail
          go_cut [19] from 49 to 181 (fun x19 wx => x19 = .bool ch ∧ Stage (fun _ => False) w [Ob.fibn p c W2 g', Ob.nestK (.slice a n d, .slice a' n' d', W) (.slice a2 n2 c2) (.slice a3 n3 c3) W2, Ob.box b8 #[.slice a n d, .slice a' n' d'] 59, Ob.box bA #[.int .i64 x, .int .i64 y, .int .i64 z, .int .i64 q, .int .u64 r] 65, Ob.box bN #[.slice a2 n2 c2, .slice a3 n3 c3] 59] wx)
          case first =>
            replace hput := Lib.hid hput
            replace hdec := Lib.hid hdec
            replace hmel := Lib.hid hmel
            replace hext := Lib.hid hext
            replace hch := Lib.hid hch
            by_cases hne : (left : Int) = many
            · have f1 : ((left : Int) != many) = false := by simpa using hne
              have f2 : (left != many) = false := by simp; omega
              replace hne := Lib.hid hne
              cases h1 with
              | false =>
                have e := hch.out
                rw [f1] at e
                replace e := Lib.hid e
                go_wp2_with fail
                refine hcO.mono ?_
                rintro _ v6 ⟨rfl, h6⟩
                clear hcO hs5
                go_wp2_with fail
                go_meet
                exact ⟨by rw [← e.out]; rfl, h6⟩
              | true =>
                have e := hch.out
                rw [f1] at e
                replace e := Lib.hid e
                go_wp2_with fail
                refine hcO.mono ?_
                rintro _ v6 ⟨rfl, h6⟩
                clear hcO hs5
                have d2 := h6.cell 3 rfl (o := 2) rfl
                have y0 := h6.cell 4 rfl (o := 0) rfl
                have y1 := h6.cell 4 rfl (o := 1) rfl
                have hcN := cN v6 h6
                clear h6
                go_wp2_with fail
                refine hcN.mono ?_
                rintro _ v7 ⟨rfl, h7⟩
                clear hcN
                go_wp2_with fail
                go_meet
                exact ⟨by rw [← e.out]; rfl, h7⟩
            · have f1 : ((left : Int) != many) = true := by simpa using hne
              have f2 : (left != many) = true := by simp; omega
              have e := hch.out
              rw [f1] at e
              replace e := Lib.hid e
              go_wp2_with fail
              go_meet
              exact ⟨by rw [← e.out]; rfl, hs5⟩
          case rest =>
            obtain ⟨rfl, hs5⟩ := hcut
            clear hcO cO cN k0 k1 d2 y0 y1 hch hmany hleft
            have k0 := hs5.cell 2 rfl (o := 0) rfl
            have k1 := hs5.cell 2 rfl (o := 1) rfl
            have f80 := hs5.free 2 rfl 0
            have f81 := hs5.free 2 rfl 1
            have l8 := hs5.lt 2 rfl
            have x1 := hs5.ne 4 2 rfl rfl (by decide)
            have y0 := hs5.cell 4 rfl (o := 0) rfl
            have y1 := hs5.cell 4 rfl (o := 1) rfl
            obtain ⟨v8, hv8, hs8⟩ : ∃ v8, (wc.setCell ⟨b8, 0, none⟩ (.slice a2 n2 c2)).setCell ⟨b8, 1, none⟩ (.slice a3 n3 c3) = v8 ∧ Stage (fun _ => False) w [Ob.fibn p c W2 g', Ob.nestK (.slice a n d, .slice a' n' d', W) (.slice a2 n2 c2) (.slice a3 n3 c3) W2, Ob.box b8 #[.slice a2 n2 c2, .slice a3 n3 c3] 59, Ob.box bA #[.int .i64 x, .int .i64 y, .int .i64 z, .int .i64 q, .int .u64 r] 65, Ob.box bN #[.slice a2 n2 c2, .slice a3 n3 c3] 59] v8 := ⟨_, rfl, (hs5.store 2 rfl 0 (.slice a2 n2 c2)).store 2 rfl 1 (.slice a3 n3 c3)⟩
            clear hs5
            obtain ⟨hle, hiff⟩ := hb2
            have hln : left ≤ 65536 := by omega
            have hs9 : Stage (fun _ => False) w (trL p c b8 W2 g' a2 n2 c2 a3 n3 c3) v8 := (hs8.nestDrop 1 rfl).take 3
            have d0 := hs8.cell 3 rfl (o := 0) rfl
            clear hs8
            go_upto_region 19 with fail
            clear hv8 k0 k1 f80 f81 l8 x1 y0 y1
            have e1 : decide ((left : Int) < (now : Int)) = false := by simp; omega
            have e1' : decide (left < now) = false := by simp; omega
            have e1n : ¬ left < now := by omega
            have e1m : ¬ (left : Int) < now := by omega
            obtain ⟨bz, z1, z2, z3, z4⟩ : ∃ bz : Bool, decide ((0 : Int) < (now : Int)) = bz ∧ decide (0 < now) = bz ∧ decide ((0 : Int) < (left : Int)) = bz ∧ decide (0 < left) = bz := by
              by_cases h0 : 0 < left
              · have := hiff.2 h0
                exact ⟨true, by simp; omega, by simp; omega, by simp; omega, by simp; omega⟩
              · have : ¬ 0 < now := fun h => h0 (hiff.1 h)
                exact ⟨false, by simp; omega, by simp; omega, by simp; omega, by simp; omega⟩
            have zb : (bz != bz) = false := by simp
            clear hiff
            replace hput := Lib.hid hput
            replace hdec := Lib.hid hdec
            replace hmel := Lib.hid hmel
            replace hext := Lib.hid hext
            by_cases hx1 : x = 1
            · subst hx1
              cases ch with
              | true =>
                have hn := hput.out rfl rfl
                have w1 : IntKind.i64.wrap ((was : Int) + 1) = (was : Int) + 1 := IntWalk.i64_in _ (by omega)
                have q1 : ((now : Int) != (was : Int) + 1) = false := by simp; omega
                clear hput hdec hmel hext hn
                go_wp2_with fail
                go_roundw
                case rel => first | exact ⟨k + 1, W2, g', a2, n2, c2, a3, n3, c3, by omega, by go_num, hs9⟩ | ((repeat apply Exists.intro); exact ⟨⟨k + 1, W2, g', a2, n2, c2, a3, n3, c3, by omega, by go_num, hs9⟩, rfl⟩)
                case measure => simp [intOf]; omega
              | false =>
                clear hput hdec hmel hext
                go_wp2_with fail
                go_roundw
                case rel => first | exact ⟨k + 1, W2, g', a2, n2, c2, a3, n3, c3, by omega, by go_num, hs9⟩ | ((repeat apply Exists.intro); exact ⟨⟨k + 1, W2, g', a2, n2, c2, a3, n3, c3, by omega, by go_num, hs9⟩, rfl⟩)
                case measure => simp [intOf]; omega
            have g1 : (x == 1) = false := by simpa using hx1
            by_cases hx4 : x = 4
            · subst hx4
              have hn := hdec.out rfl
              have q1 : decide ((now : Int) < (was : Int)) = false := by simp; omega
              have q2 : decide (now < was) = false := by simp; omega
              clear hput hdec hmel hext
              go_wp2_with fail
              go_roundw
              case rel => first | exact ⟨k + 1, W2, g', a2, n2, c2, a3, n3, c3, by omega, by go_num, hs9⟩ | ((repeat apply Exists.intro); exact ⟨⟨k + 1, W2, g', a2, n2, c2, a3, n3, c3, by omega, by go_num, hs9⟩, rfl⟩)
              case measure => simp [intOf]; omega
            have g4 : (x == 4) = false := by simpa using hx4
            by_cases hx6 : x = 6
            · subst hx6
              cases ch with
              | true =>
                have hn := hmel.out rfl rfl
                have w1 : IntKind.i64.wrap ((was : Int) + other) = (was : Int) + other := IntWalk.i64_in _ (by omega)
                have q1 : ((now : Int) != (was : Int) + other) = false := by simp; omega
                clear hput hdec hmel hext hn
                go_wp2_with fail
                go_roundw
                case rel => first | exact ⟨k + 1, W2, g', a2, n2, c2, a3, n3, c3, by omega, by go_num, hs9⟩ | ((repeat apply Exists.intro); exact ⟨⟨k + 1, W2, g', a2, n2, c2, a3, n3, c3, by omega, by go_num, hs9⟩, rfl⟩)
                case measure => simp [intOf]; omega
              | false =>
                clear hput hdec hmel hext
                go_wp2_with fail
                go_roundw
                case rel => first | exact ⟨k + 1, W2, g', a2, n2, c2, a3, n3, c3, by omega, by go_num, hs9⟩ | ((repeat apply Exists.intro); exact ⟨⟨k + 1, W2, g', a2, n2, c2, a3, n3, c3, by omega, by go_num, hs9⟩, rfl⟩)
                case measure => simp [intOf]; omega
            have g6 : (x == 6) = false := by simpa using hx6
            by_cases hx3 : x = 3
            · subst hx3
              cases ch with
              | true =>
                have hn := hext.out rfl rfl
                have hbl : Lib.bitLen left ≤ 17 := Nat.le_trans (bitLen_mono (b := 65536) hln (by decide)) (by decide)
                have hBt := fun w9 => refBits_any (left : Int) (by omega) (by omega) w9
                have ebl : bitsI (left : Int) = (Lib.bitLen left : Int) := by unfold bitsI; simp
                rw [ebl] at hBt
                generalize Lib.bitLen left = bl at *
                have w1 : IntKind.i64.wrap ((bl : Int) * 2) = (bl : Int) * 2 := IntWalk.i64_in _ (by omega)
                have w2 : IntKind.i64.wrap ((bl : Int) * 2 + 1) = (bl : Int) * 2 + 1 := IntWalk.i64_in _ (by omega)
                have q1 : decide ((bl : Int) * 2 + 1 < (now : Int)) = false := by simp; omega
                have q2 : ¬ (bl : Int) * 2 + 1 < (now : Int) := by omega
                clear hput hdec hmel hext hn ebl
                go_wp2_with fail
                refine (hBt _).mono ?_
                rintro _ v9 ⟨rfl, rfl⟩
                go_wp2_with fail
                go_roundw
                case rel => first | exact ⟨k + 1, W2, g', a2, n2, c2, a3, n3, c3, by omega, by go_num, hs9⟩ | ((repeat apply Exists.intro); exact ⟨⟨k + 1, W2, g', a2, n2, c2, a3, n3, c3, by omega, by go_num, hs9⟩, rfl⟩)
                case measure => simp [intOf]; omega
              | false =>
                clear hput hdec hmel hext
                go_wp2_with fail
                go_roundw
                case rel => first | exact ⟨k + 1, W2, g', a2, n2, c2, a3, n3, c3, by omega, by go_num, hs9⟩ | ((repeat apply Exists.intro); exact ⟨⟨k + 1, W2, g', a2, n2, c2, a3, n3, c3, by omega, by go_num, hs9⟩, rfl⟩)
                case measure => simp [intOf]; omega
            have g3 : (x == 3) = false := by simpa using hx3
            clear hput hdec hmel hext
            go_wp2_with fail
            go_roundw
            case rel => first | exact ⟨k + 1, W2, g', a2, n2, c2, a3, n3, c3, by omega, by go_num, hs9⟩ | ((repeat apply Exists.intro); exact ⟨⟨k + 1, W2, g', a2, n2, c2, a3, n3, c3, by omega, by go_num, hs9⟩, rfl⟩)
            case measure => simp [intOf]; omega
    · have hki : ¬ (k : Int) < n0 := by omega
      go_wp2_with fail
      go_ret
      exact ⟨rfl, hs.below⟩
end Go.Proofs.Ytcjjglaimfhofaa
