/- Merged of BinRefDeg, BinDegrees. -/
import Derived.Test.YtmoolbmbdnkooaaBinNest3
import Derived.Test.YtmoolbmbdnkooaaOpen3
import Derived.Deep.RegionHeld3
import Derived.Deep.CutBlock
import Derived.Deep.DeepCutAuto
namespace Go.Proofs.Ytmoolbmbdnkooaa
open Go.RowKit Go.Sort

/-- The places below b. -/
def digTo (N b : Nat) : List Int := ((List.range b).filter fun i => N.testBit i).map fun i : Nat => (i : Int)
theorem digTo_succ (N b : Nat) : digTo N (b + 1) = if N.testBit b then digTo N b ++ [(b : Int)] else digTo N b := by
  unfold digTo
  rw [List.range_succ, List.filter_append, List.map_append]
  by_cases h : N.testBit b
  · simp [h]
  · simp [h]
theorem digTo_end {N b : Nat} (h : N >>> b = 0) (hN : N ≤ 9223372036854775807) : digTo N b = digI N := by
  unfold digTo digI
  rw [ones_end N b (Lib.bitLen N) h (below_bits N hN)]
theorem digTo_len (N b : Nat) : (digTo N b).length ≤ b := by
  unfold digTo
  rw [List.length_map]
  exact Nat.le_trans (List.length_filter_le _ _) (by simp)
set_option maxRecDepth 100000 in
theorem refdeg_any (N : Nat) (hN : N ≤ 65536) (w : World) : Calls Try.prog 21 #[.int .i64 N] w (IntsPost w (digI N)) := by
  have hs0 : Stage (fun _ => False) w [Ob.ints (.slice (some ⟨w.heap.size, 0, none⟩) 0 0) (digTo N 0)] (w.alloc (.cells #[] 3)) := (Stage.start w).emptyRow' 3 1 rfl
  go_enter Try.func21, Try.ntmps21
  go_wp2_with fail
  go_loopw [0, 3, 4] (fun n out k wr => ∃ (b : Nat) (a : Option Addr) (c : Nat), n = .int .i64 ((N >>> b : Nat) : Int) ∧ k = .int .i64 b ∧ out = .slice a (digTo N b).length c ∧ b ≤ 17 ∧ Stage (fun _ => False) w [Ob.ints (.slice a (digTo N b).length c) (digTo N b)] wr) (fun n _ _ _ => (intOf n).toNat)
  case atStart => exact ⟨0, _, _, rfl, rfl, rfl, by omega, hs0⟩
  case round =>
    clear hs0
    obtain ⟨b, a, c, rfl, rfl, rfl, hb, hs⟩ := hrel
    obtain ⟨x, hx⟩ : ∃ x, N >>> b = x := ⟨_, rfl⟩
    have hxN : x ≤ 65536 := by rw [← hx, Nat.shiftRight_eq_div_pow]; exact Nat.le_trans (Nat.div_le_self _ _) hN
    have hlen := digTo_len N b
    by_cases h0 : 0 < x
    · have hb16 : b < 17 := by
        rcases Nat.lt_or_ge b 17 with h | h
        · exact h
        · exfalso
          rw [Nat.shiftRight_eq_div_pow] at hx
          have h2 : 2 ^ 17 ≤ 2 ^ b := Nat.pow_le_pow_right (by omega) h
          have h3 : N < 2 ^ b := Nat.lt_of_lt_of_le (by omega : N < 2 ^ 17) h2
          rw [Nat.div_eq_of_lt h3] at hx
          omega
      have hxi : (0 : Int) < (x : Int) := by omega
      have hnext : N >>> (b + 1) = x / 2 := by rw [← shift_half, hx]
      have hodd := shift_odd N b
      have hsucc := digTo_succ N b
      rw [hx] at hodd
      have hd : Int.tdiv (x : Int) 2 = ((x / 2 : Nat) : Int) := rfl
      have hw1 : IntKind.i64.wrap ((b : Int) + 1) = (b : Int) + 1 := IntWalk.i64_in _ (by omega)
      cases hbit : N.testBit b
      · rw [hbit] at hodd hsucc
        have hm : Int.tmod (x : Int) 2 = 0 := by
          have : Int.tmod (x : Int) 2 = ((x % 2 : Nat) : Int) := rfl
          rw [this, hodd]; rfl
        have hfin : Stage (fun _ => False) w [Ob.ints (.slice a (digTo N (b + 1)).length c) (digTo N (b + 1))] wr := by
          rw [hsucc]; exact hs
        have hl : Hid ((digTo N (b + 1)).length = (digTo N b).length) := Lib.hid (by rw [hsucc]; rfl)
        have hnx := Lib.hid hnext
        have hw2 : IntKind.i64.wrap ((x / 2 : Nat) : Int) = ((x / 2 : Nat) : Int) := IntWalk.i64_in _ (by omega)
        rw [hx]
        clear hs hx hodd hsucc hnext hbit
        generalize hln : (digTo N b).length = ln at *
        replace hln := Lib.hid hln
        generalize hxx : x / 2 = x2 at *
        replace hxx := Lib.hid hxx
        go_wp2_with fail
        go_roundw
        case rel => exact ⟨b + 1, a, c, by rw [hnx.out], by go_num, by rw [hl.out], by omega, hfin⟩
        case measure => simp [intOf]; have := hxx.out; omega
      · rw [hbit] at hodd hsucc
        have hm : Int.tmod (x : Int) 2 = 1 := by
          have : Int.tmod (x : Int) 2 = ((x % 2 : Nat) : Int) := rfl
          rw [this, hodd]; rfl
        have hnx := Lib.hid hnext
        have hw2 : IntKind.i64.wrap ((x / 2 : Nat) : Int) = ((x / 2 : Nat) : Int) := IntWalk.i64_in _ (by omega)
        have hsc : Hid (digTo N (b + 1) = digTo N b ++ [(b : Int)]) := Lib.hid (by rw [hsucc]; rfl)
        rw [hx]
        clear hx hodd hsucc hnext hbit
        generalize hln : (digTo N b).length = ln at *
        replace hln := Lib.hid hln
        generalize hxx : x / 2 = x2 at *
        replace hxx := Lib.hid hxx
        go_wp2_with (at_builtin; refine hs.wp_appendInt (x := b) 0 rfl rfl rfl _ _ 65 rfl Try.underlying65 sinfo_int rfl rfl (by have := hln.out; omega) ?_)
        intro v2 w2 hs2
        replace hs2 : Stage (fun _ => False) w [Ob.ints v2 (digTo N b ++ [(b : Int)])] w2 := hs2
        rw [← hsc.out] at hs2
        obtain ⟨a2, c2, rfl, _, _⟩ := hs2.intsForm 0 rfl
        clear hs
        go_wp2_with fail
        go_roundw
        case rel => exact ⟨b + 1, a2, c2, by rw [hnx.out], by go_num, rfl, by omega, hs2⟩
        case measure => simp [intOf]; have := hxx.out; omega
    · obtain rfl : x = 0 := by omega
      have he := digTo_end hx (by omega)
      rw [he] at hs ⊢
      rw [hx]
      clear hx he hlen
      go_wp2_with fail
      go_ret
      exact ints_close hs
end Go.Proofs.Ytmoolbmbdnkooaa

namespace Go.Proofs.Ytmoolbmbdnkooaa
open Go.RowKit Go.Sort

/-- The nest, the document's beside it, and where that lies. -/
abbrev degL (p c b8 : Nat) (W : WS) (s : Int) (a : Option Addr) (n d : Nat) (a' : Option Addr) (n' d' : Nat) : List Ob :=
  [Ob.binom p c W s, Ob.nest (.slice a n d) (.slice a' n' d') W, Ob.box b8 #[.slice a n d, .slice a' n' d'] 55]
theorem reflen_st {F0 : Nat → Prop} {W0 w : World} {l : List Ob} {hv cv : Value} {W : WS} (h : Stage F0 W0 l w) (i : Nat) (hi : l[i]? = some (Ob.nest hv cv W)) (y : Int) : Calls Try.prog 22 #[.agg #[hv, cv], .int .i64 y] w fun e w' => e = .returned (.int .i64 (lenW W y)) ∧ Stage F0 W0 l w' :=
  (reflen_any y (h.nestAt i hi)).mono fun _ _ ⟨h1, h2⟩ => ⟨h1, h.later h2⟩
theorem degs_form {F0 : Nat → Prop} {W0 w : World} {p c : Nat} {W : WS} {s : Int} {q : List Ob} (y : Int) (hy : inInt y) (hs : Stage F0 W0 ([Ob.binom p c W s] ++ q) w) : Calls Try.prog 20 #[.pointer (some ⟨p, 0, none⟩), .int .i64 y] w fun e w' => ∃ a c', e = .returned (.slice a (digI (lenW W y)).length c') ∧ Stage F0 W0 ([Ob.binom p c W s, Ob.ints (.slice a (digI (lenW W y)).length c') (digI (lenW W y))] ++ q) w' :=
  (Stage.bdegs y hy hs).mono fun e w' ⟨v, he, h⟩ => by
    obtain ⟨a, c', rfl, _, _⟩ := h.intsForm 1 rfl
    exact ⟨a, c', he, h⟩
theorem refdeg_form {F0 : Nat → Prop} {W0 w : World} {l : List Ob} (N : Nat) (hN : N ≤ 65536) (hs : Stage F0 W0 l w) : Calls Try.prog 21 #[.int .i64 N] w fun e w' => ∃ a c', e = .returned (.slice a (digI N).length c') ∧ Stage F0 W0 (l ++ [Ob.ints (.slice a (digI N).length c') (digI N)]) w' :=
  (hs.newInts (refdeg_any N hN w)).mono fun e w' ⟨v, he, h⟩ => by
    obtain ⟨a, c', rfl, _, _⟩ := h.intsForm (v := v) (xs := digI N) l.length (by simp)
    exact ⟨a, c', he, h⟩
theorem same_form {F0 : Nat → Prop} {W0 w : World} {O1 O2 O3 O4 : Ob} {a1 a4 : Option Addr} {c1 c4 : Nat} {L : List Int} (h : Stage F0 W0 [O1, Ob.ints (.slice a1 L.length c1) L, O2, O3, O4, Ob.ints (.slice a4 L.length c4) L] w) :
    Calls Try.prog 19 #[.slice a1 L.length c1, .slice a4 L.length c4] w fun e w' => e = .returned (.bool true) ∧ Stage F0 W0 [O1, Ob.ints (.slice a1 L.length c1) L, O2, O3, O4, Ob.ints (.slice a4 L.length c4) L] w' := by
  obtain ⟨_, _, e1, h1, h2⟩ := h.intsForm 1 rfl
  obtain ⟨_, _, e4, h3, h4⟩ := h.intsForm 5 rfl
  cases e1
  cases e4
  have hS := same_at L L a1 a4 c1 c4 ⟨h1, h2⟩ ⟨h3, h4⟩ (h.intsAtI 1 rfl) (h.intsAtI 5 rfl)
  rw [decide_eq_true rfl] at hS
  exact hS.mono fun e w' ⟨he, hb⟩ => ⟨he, h.later hb⟩
set_option maxRecDepth 100000 in
set_option maxHeartbeats 8000000 in
theorem bdegrees_walk (C : Nat) (hC : C ≤ 255) (a0 : Option Addr) (n0 cap : Nat) (hcap : n0 ≤ cap ∧ cap ≤ 9223372036854775807) (w : World) (hact : ActsAt w a0 n0) :
    Calls Try.prog 7 #[.int .u8 C, .slice a0 n0 cap] w fun e w' => e = .returned (.bool true) ∧ Below w.heap.size w w' := by
  obtain ⟨hcap1, hcap2⟩ := hcap
  obtain ⟨m, hm⟩ : ∃ m, m = C % 60 := ⟨_, rfl⟩
  have hm30 : m < 60 := by omega
  have q1 : Int.tmod (C : Int) 60 = (m : Int) := by rw [hm]; exact (Int.ofNat_tmod C 60).symm
  clear hm
  go_enter Try.func7, Try.ntmps7
  go_wp2_with fail
  refine (balive_any w).mono ?_
  rintro e w1 ⟨rfl, hb⟩
  go_wp2_with fail
  refine (bin_start m (by omega) ((Stage.start w).later hb)).mono ?_
  rintro e w2 ⟨p, c, rfl, hs⟩
  clear hb
  by_cases h60 : (90 : Int) < n0
  · go_wp2_with fail
    go_ret
    exact ⟨rfl, hs.below⟩
  replace hs : Stage (fun _ => False) w [Ob.binom p c (newW m) 0] w2 := hs
  have hW0 : (newW m).cells.length = m := by simp [newW]
  go_wp2_with fail
  refine (refnew_any m (by omega) w2).mono ?_
  rintro e w4 ⟨hv, cv, rfl, hb3, hN3, hF3⟩
  obtain ⟨ha, hc, rfl, _, _⟩ := hN3.hform
  obtain ⟨ca1, cc1, hcv, _, _⟩ := hN3.cform
  rw [hW0] at hcv
  subst hcv
  have hs3 := hs.add (O := Ob.nest (.slice ha (newW m).heaps.length hc) (.slice ca1 m cc1) (newW m)) hb3 ⟨hN3, rfl⟩ hF3
  clear hs hb3 hN3 hF3
  generalize (newW m).heaps.length = n1 at *
  obtain ⟨w6, hw6, hs5⟩ : ∃ w6, w4.alloc (.cells #[.slice ha n1 hc, .slice ca1 m cc1] 55) = w6 ∧ Stage (fun _ => False) w (degL p c w4.heap.size (newW m) 0 ha n1 hc ca1 m cc1) w6 := ⟨_, rfl, hs3.alloc _ _⟩
  clear hs3
  go_wp2_with fail
  clear hw6
  generalize w4.heap.size = b8 at *
  generalize newW m = WN at *
  go_loopw [41] (fun i wr => ∃ (k : Nat) (W : WS) (s : Int) (a : Option Addr) (n d : Nat) (a' : Option Addr) (n' d' : Nat), k ≤ n0 ∧ i = .int .i64 k ∧ Stage (fun _ => False) w (degL p c b8 W s a n d a' n' d') wr) (fun i _ => n0 - (intOf i).toNat)
  case atStart => exact ⟨0, WN, 0, ha, n1, hc, ca1, m, cc1, Nat.zero_le _, rfl, hs5⟩
  case round =>
    clear hs5 hW0
    obtain ⟨k, W, s, a, n, d, a', n', d', hk, rfl, hs⟩ := hrel
    by_cases hlt : k < n0
    · have hki : (k : Int) < n0 := by omega
      obtain ⟨ba, offa, x, y, z, q, r, rfl, g0, g1, g2, g3, g4, hy, hz⟩ := hact k hlt
      replace g0 := later hs.below g0
      replace g1 := later hs.below g1
      replace g2 := later hs.below g2
      replace g3 := later hs.below g3
      replace g4 := later hs.below g4
      obtain ⟨wr1, hwr1, hs3⟩ : ∃ w9 : World, wr.alloc (.cells #[.int .i64 x, .int .i64 y, .int .i64 z, .int .i64 q, .int .u64 r] 61) = w9 ∧ Stage (fun _ => False) w ([Ob.binom p c W s, Ob.nest (.slice a n d) (.slice a' n' d') W] ++ [Ob.box b8 #[.slice a n d, .slice a' n' d'] 55, Ob.box wr.heap.size #[.int .i64 x, .int .i64 y, .int .i64 z, .int .i64 q, .int .u64 r] 61]) w9 := ⟨_, rfl, hs.alloc _ _⟩
      have hD := do_st (g := s) (bin_nests p c) x y z q r hy hz hs3
      have k0 := hs3.cell 2 rfl (o := 0) rfl
      have k1 := hs3.cell 2 rfl (o := 1) rfl
      have d0 := hs3.cell 3 rfl (o := 0) rfl
      have d1 := hs3.cell 3 rfl (o := 1) rfl
      have d2 := hs3.cell 3 rfl (o := 2) rfl
      have d3 := hs3.cell 3 rfl (o := 3) rfl
      have d4 := hs3.cell 3 rfl (o := 4) rfl
      go_wp2_with fail
      clear hwr1 g0 g1 g2 g3 g4 k0 k1 d0 d1 d2 d3 d4 hs
      generalize wr.heap.size = bA at *
      refine hD.mono ?_
      rintro e v4 ⟨a2, n2, c2, a3, n3, c3, s2, rfl, _, hs4⟩
      clear hD hs3
      generalize doW W x y z q r = W2 at *
      replace hs4 : Stage (fun _ => False) w [Ob.binom p c W2 s2, Ob.nest (.slice a2 n2 c2) (.slice a3 n3 c3) W2, Ob.box b8 #[.slice a n d, .slice a' n' d'] 55, Ob.box bA #[.int .i64 x, .int .i64 y, .int .i64 z, .int .i64 q, .int .u64 r] 61] v4 := hs4
      obtain ⟨v5, hv5, hs5⟩ : ∃ v5, v4.alloc (.cells #[.slice a2 n2 c2, .slice a3 n3 c3] 55) = v5 ∧ Stage (fun _ => False) w [Ob.binom p c W2 s2, Ob.nest (.slice a2 n2 c2) (.slice a3 n3 c3) W2, Ob.box b8 #[.slice a n d, .slice a' n' d'] 55, Ob.box bA #[.int .i64 x, .int .i64 y, .int .i64 z, .int .i64 q, .int .u64 r] 61, Ob.box v4.heap.size #[.slice a2 n2 c2, .slice a3 n3 c3] 55] v5 := ⟨_, rfl, hs4.alloc _ _⟩
      clear hs4
      have y0 := hs5.cell 4 rfl (o := 0) rfl
      have y1 := hs5.cell 4 rfl (o := 1) rfl
      have k0 := hs5.cell 2 rfl (o := 0) rfl
      have k1 := hs5.cell 2 rfl (o := 1) rfl
      have f80 := hs5.free 2 rfl 0
      have f81 := hs5.free 2 rfl 1
      have l8 := hs5.lt 2 rfl
      have x1 := hs5.ne 4 2 rfl rfl (by decide)
      obtain ⟨v8, hv8, hs8⟩ : ∃ v8, (v5.setCell ⟨b8, 0, none⟩ (.slice a2 n2 c2)).setCell ⟨b8, 1, none⟩ (.slice a3 n3 c3) = v8 ∧ Stage (fun _ => False) w [Ob.binom p c W2 s2, Ob.nest (.slice a2 n2 c2) (.slice a3 n3 c3) W2, Ob.box b8 #[.slice a2 n2 c2, .slice a3 n3 c3] 55, Ob.box bA #[.int .i64 x, .int .i64 y, .int .i64 z, .int .i64 q, .int .u64 r] 61] v8 := ⟨_, rfl, ((hs5.store 2 rfl 0 _).store 2 rfl 1 _).take 4⟩
      clear hs5
      go_upto_region 13 with fail
      clear hv5 hv8 y0 y1 k0 k1 f80 f81 l8 x1
      have k0 := hs8.cell 2 rfl (o := 0) rfl
      have k1 := hs8.cell 2 rfl (o := 1) rfl
      have d1 := hs8.cell 3 rfl (o := 1) rfl
      have hN : lenW W2 y ≤ 65536 := by
        have hf := (hs8.get (i := 0) rfl).elim fun _ ho => bin_fit ho
        have := len_le W2 y
        have := hf.cap
        omega
      have hDg := fun (q : List Ob) (w' : World) (h : Stage (fun _ => False) w ([Ob.binom p c W2 s2] ++ q) w') => degs_form y hy h
      have hLn := fun (q : List Ob) (w' : World) (h : Stage (fun _ => False) w ([Ob.binom p c W2 s2, Ob.nest (.slice a2 n2 c2) (.slice a3 n3 c3) W2] ++ q) w') => reflen_st h 1 rfl y
      have hLn2 := fun (O : Ob) (q : List Ob) (w' : World) (h : Stage (fun _ => False) w ([Ob.binom p c W2 s2, O, Ob.nest (.slice a2 n2 c2) (.slice a3 n3 c3) W2] ++ q) w') => reflen_st h 2 rfl y
      have hRf := fun (l : List Ob) (w' : World) (h : Stage (fun _ => False) w l w') => refdeg_form (lenW W2 y) hN h
      have hSm := fun (O1 O2 O3 O4 : Ob) (a1 : Option Addr) (c1 : Nat) (a4 : Option Addr) (c4 : Nat) (w' : World) (_ : True) (h : Stage (fun _ => False) w [O1, Ob.ints (.slice a1 (digI (lenW W2 y)).length c1) (digI (lenW W2 y)), O2, O3, O4, Ob.ints (.slice a4 (digI (lenW W2 y)).length c4) (digI (lenW W2 y))] w') => same_form h
      have HC := hs8.drew
      clear hs8 hN
      generalize (lenW W2 y : Int) = NI at *
      generalize digI (lenW W2 y) = LL at *
      generalize LL.length = ll at *
      go_region_held3 (fun w' => w'.cell? ⟨b8, 0, none⟩ = some (.slice a2 n2 c2) ∧ w'.cell? ⟨b8, 1, none⟩ = some (.slice a3 n3 c3) ∧ w'.cell? ⟨bA, 1, none⟩ = some (.int .i64 y)) (first | exact ⟨k0, k1, d1⟩ | exact pk | simp [*])
        (first
        | ((have hX := hDg _ _ HC; (with_reducible refine hX.mono ?_); rintro e u1 ⟨aD, cD, rfl, HN⟩; have HC := HN; have pk : u1.cell? ⟨b8, 0, none⟩ = some (.slice a2 n2 c2) ∧ u1.cell? ⟨b8, 1, none⟩ = some (.slice a3 n3 c3) ∧ u1.cell? ⟨bA, 1, none⟩ = some (.int .i64 y) := ⟨HC.cell 3 rfl (o := 0) rfl, HC.cell 3 rfl (o := 1) rfl, HC.cell 4 rfl (o := 1) rfl⟩))
        | ((have hX := hLn _ _ HC; (with_reducible refine hX.mono ?_); rintro e u2 ⟨rfl, HN⟩; have HC := HN; have pk : u2.cell? ⟨b8, 0, none⟩ = some (.slice a2 n2 c2) ∧ u2.cell? ⟨b8, 1, none⟩ = some (.slice a3 n3 c3) ∧ u2.cell? ⟨bA, 1, none⟩ = some (.int .i64 y) := ⟨HC.cell 2 rfl (o := 0) rfl, HC.cell 2 rfl (o := 1) rfl, HC.cell 3 rfl (o := 1) rfl⟩))
        | ((have hX := hLn2 _ _ _ HC; (with_reducible refine hX.mono ?_); rintro e u2 ⟨rfl, HN⟩; have HC := HN; have pk : u2.cell? ⟨b8, 0, none⟩ = some (.slice a2 n2 c2) ∧ u2.cell? ⟨b8, 1, none⟩ = some (.slice a3 n3 c3) ∧ u2.cell? ⟨bA, 1, none⟩ = some (.int .i64 y) := ⟨HC.cell 3 rfl (o := 0) rfl, HC.cell 3 rfl (o := 1) rfl, HC.cell 4 rfl (o := 1) rfl⟩))
        | ((have hX := hRf _ _ HC; (with_reducible refine hX.mono ?_); rintro e u3 ⟨aR, cR, rfl, HN⟩; have HC := HN; have pk : u3.cell? ⟨b8, 0, none⟩ = some (.slice a2 n2 c2) ∧ u3.cell? ⟨b8, 1, none⟩ = some (.slice a3 n3 c3) ∧ u3.cell? ⟨bA, 1, none⟩ = some (.int .i64 y) := by first | exact ⟨HC.cell 2 rfl (o := 0) rfl, HC.cell 2 rfl (o := 1) rfl, HC.cell 3 rfl (o := 1) rfl⟩ | exact ⟨HC.cell 3 rfl (o := 0) rfl, HC.cell 3 rfl (o := 1) rfl, HC.cell 4 rfl (o := 1) rfl⟩))
        | ((have hX := hSm _ _ _ _ _ _ _ _ _ trivial HC; (with_reducible refine hX.mono ?_); rintro e u4 ⟨rfl, HN⟩; have HC := HN; have pk : u4.cell? ⟨b8, 0, none⟩ = some (.slice a2 n2 c2) ∧ u4.cell? ⟨b8, 1, none⟩ = some (.slice a3 n3 c3) ∧ u4.cell? ⟨bA, 1, none⟩ = some (.int .i64 y) := ⟨HC.cell 3 rfl (o := 0) rfl, HC.cell 3 rfl (o := 1) rfl, HC.cell 4 rfl (o := 1) rfl⟩)))
      all_goals
        have hs9 : Stage (fun _ => False) w (degL p c b8 W2 s2 a2 n2 c2 a3 n3 c3) u4 := HC.select [0, 2, 3] (by decide) rfl
        clear HC hDg hLn hLn2 hRf hSm pk
        go_wp2_with fail
        go_roundw
        case rel => exact ⟨k + 1, W2, s2, a2, n2, c2, a3, n3, c3, by omega, by go_num, hs9⟩
        case measure => simp [intOf]; omega
    · have hki : ¬ (k : Int) < n0 := by omega
      go_wp2_with fail
      go_ret
      exact ⟨rfl, hs.below⟩
end Go.Proofs.Ytmoolbmbdnkooaa
