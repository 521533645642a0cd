/- Merged of DaryAlike, Open4. -/
import Derived.Test.YtlbbgdpdaelcdaaDaryWalks
import Derived.Deep.RegionHeld3
import Derived.Deep.CutBlock
import Derived.Deep.DeepCutAuto
import Derived.Test.YtlbbgdpdaelcdaaOpen2
namespace Go.Proofs.Ytlbbgdpdaelcdaa
open Go.RowKit Go.Sort

section
variable {F0 : Nat → Prop} {W0 w : World} {l : List Ob} {p c d : Nat} {W : WS} {s : Int}
/-- A nest's calls, where it is a thing of a stage. -/
theorem dal_make (hd : 2 ≤ d ∧ d ≤ 16) (hs : Stage F0 W0 l w) (i : Nat) (hi : l[i]? = some (Ob.dary p c d W s)) : Calls Try.prog 20 #[.pointer (some ⟨c, 0, none⟩)] w fun e w' => e = .returned (.int .i64 (madeW W)) ∧ ∃ s', Stage F0 W0 (l.set i (Ob.dary p c d (makeW W) s')) w' :=
  (hs.callEx i hi (fun _ ho => (dary_nests p c d hd).make ho)).mono fun _ _ ⟨h1, s', _, h⟩ => ⟨h1, s', h⟩
theorem dal_ins (hd : 2 ≤ d ∧ d ≤ 16) (hs : Stage F0 W0 l w) (i : Nat) (hi : l[i]? = some (Ob.dary p c d W s)) (y x k q : Int) (hy : inInt y) (hx : inInt x) : Calls Try.prog 21 #[.pointer (some ⟨p, 0, none⟩), .int .i64 y, .int .i64 x, .agg #[.int .i64 k, .int .u64 q]] w fun e w' => e = .returned (.bool (putB W y x)) ∧ ∃ s', Stage F0 W0 (l.set i (Ob.dary p c d (putW W y x k q) s')) w' :=
  (hs.callEx i hi (fun _ ho => (dary_nests p c d hd).ins y x k q hy hx ho)).mono fun _ _ ⟨h1, s', _, h⟩ => ⟨h1, s', h⟩
theorem dal_min (hd : 2 ≤ d ∧ d ≤ 16) (hs : Stage F0 W0 l w) (i : Nat) (hi : l[i]? = some (Ob.dary p c d W s)) (y : Int) (hy : inInt y) : Calls Try.prog 25 #[.pointer (some ⟨p, 0, none⟩), .int .i64 y] w fun e w' => e = .returned (.tuple #[.int .i64 (minI W y), .bool (minB W y)]) ∧ ∃ s', Stage F0 W0 (l.set i (Ob.dary p c d W s')) w' :=
  (hs.callEx i hi (fun _ ho => (dary_nests p c d hd).min y hy ho)).mono fun _ _ ⟨h1, s', _, h⟩ => ⟨h1, s', h⟩
theorem dal_ext (hd : 2 ≤ d ∧ d ≤ 16) (hs : Stage F0 W0 l w) (i : Nat) (hi : l[i]? = some (Ob.dary p c d W s)) (y : Int) (hy : inInt y) : Calls Try.prog 26 #[.pointer (some ⟨p, 0, none⟩), .int .i64 y] w fun e w' => e = .returned (.tuple #[.int .i64 (minI W y), .bool (minB W y)]) ∧ ∃ s', Stage F0 W0 (l.set i (Ob.dary p c d (exW W y) s')) w' :=
  (hs.callEx i hi (fun _ ho => (dary_nests p c d hd).ext y hy ho)).mono fun _ _ ⟨h1, s', _, h⟩ => ⟨h1, s', h⟩
theorem dal_dec (hd : 2 ≤ d ∧ d ≤ 16) (hs : Stage F0 W0 l w) (i : Nat) (hi : l[i]? = some (Ob.dary p c d W s)) (x k q : Int) (hx : inInt x) : Calls Try.prog 27 #[.pointer (some ⟨p, 0, none⟩), .int .i64 x, .agg #[.int .i64 k, .int .u64 q]] w fun e w' => e = .returned (.bool (lowerB W x k q)) ∧ ∃ s', Stage F0 W0 (l.set i (Ob.dary p c d (lowerW W x k q) s')) w' :=
  (hs.callEx i hi (fun _ ho => (dary_nests p c d hd).dec x k q hx ho)).mono fun _ _ ⟨h1, s', _, h⟩ => ⟨h1, s', h⟩
theorem dal_del (hd : 2 ≤ d ∧ d ≤ 16) (hs : Stage F0 W0 l w) (i : Nat) (hi : l[i]? = some (Ob.dary p c d W s)) (x : Int) (hx : inInt x) : Calls Try.prog 28 #[.pointer (some ⟨p, 0, none⟩), .int .i64 x] w fun e w' => e = .returned (.bool (inW W x)) ∧ ∃ s', Stage F0 W0 (l.set i (Ob.dary p c d (dropW W x) s')) w' :=
  (hs.callEx i hi (fun _ ho => (dary_nests p c d hd).del x hx ho)).mono fun _ _ ⟨h1, s', _, h⟩ => ⟨h1, s', h⟩
theorem dal_meld (hd : 2 ≤ d ∧ d ≤ 16) (hs : Stage F0 W0 l w) (i : Nat) (hi : l[i]? = some (Ob.dary p c d W s)) (a b : Int) (ha : inInt a) (hb : inInt b) : Calls Try.prog 29 #[.pointer (some ⟨p, 0, none⟩), .int .i64 a, .int .i64 b] w fun e w' => e = .returned (.bool (joinBW W a b)) ∧ ∃ s', Stage F0 W0 (l.set i (Ob.dary p c d (joinW W a b) s')) w' :=
  (hs.callEx i hi (fun _ ho => (dary_nests p c d hd).meld a b ha hb ho)).mono fun _ _ ⟨h1, s', _, h⟩ => ⟨h1, s', h⟩
theorem dal_there (hs : Stage F0 W0 l w) (i : Nat) (hi : l[i]? = some (Ob.dary p c d W s)) : w.cell? ⟨p, 0, none⟩ = some (.pointer (some ⟨c, 0, none⟩)) := (hs.get hi).elim fun _ ho => dary_there ho
end
section
set_option maxRecDepth 100000 in
set_option maxHeartbeats 8000000 in
theorem dalike_walk (e1 e2 : Int) (C : Nat) (hC : C ≤ 255) (a0 : Option Addr) (n0 cap : Nat) (hcap : n0 ≤ cap ∧ cap ≤ 9223372036854775807) (w : World) (hact : ActsAt w a0 n0) :
    Calls Try.prog 8 #[.agg #[.int .i64 e1, .int .i64 e2], .int .u8 C, .slice a0 n0 cap] w fun e w' => e = .returned (.bool true) ∧ Below w.heap.size w w' := by
  obtain ⟨hcap1, hcap2⟩ := hcap
  obtain ⟨m, hm⟩ : ∃ m, m = C % 30 := ⟨_, rfl⟩
  have hm30 : m < 30 := by omega
  have q1 : Int.tmod (C : Int) 30 = (m : Int) := by rw [hm]; exact (Int.ofNat_tmod C 30).symm
  clear hm
  obtain ⟨w0, hw0, hs0⟩ : ∃ w0, w.alloc (.cells #[.int .i64 e1, .int .i64 e2] 63) = w0 ∧ Stage (fun _ => False) w [Ob.box w.heap.size #[.int .i64 e1, .int .i64 e2] 63] w0 := ⟨_, rfl, (Stage.start w).alloc _ _⟩
  go_enter Try.func8, Try.ntmps8
  go_wp2_with fail
  clear hw0
  generalize w.heap.size = b0 at hs0 ⊢
  refine (dalive_any w0).mono ?_
  rintro e w1 ⟨rfl, hb⟩
  replace hs0 := hs0.later hb
  clear hb
  by_cases h60 : (60 : Int) < n0
  · go_wp2_with fail
    go_ret
    exact ⟨rfl, hs0.below⟩
  have g0 := hs0.cell 0 rfl (o := 0) rfl
  have g1 := hs0.cell 0 rfl (o := 1) rfl
  have hR1 := right_any m e1 w1
  have hR2 := right_any m e2 w1
  cases hr1 : rightD e1
  · rw [rightN_deg (by omega) hr1] at hR1
    go_wp2_with fail
    refine hR1.mono ?_
    rintro e w2 ⟨rfl, rfl⟩
    go_wp2_with fail
    go_ret
    exact ⟨rfl, hs0.below⟩
  rw [rightN_yes (by omega) hr1] at hR1
  cases hr2 : rightD e2
  · rw [rightN_deg (by omega) hr2] at hR2
    go_wp2_with fail
    refine hR1.mono ?_
    rintro e w2 ⟨rfl, rfl⟩
    go_wp2_with fail
    refine hR2.mono ?_
    rintro e w2 ⟨rfl, rfl⟩
    go_wp2_with fail
    go_ret
    exact ⟨rfl, hs0.below⟩
  rw [rightN_yes (by omega) hr2] at hR2
  obtain ⟨d1, rfl, hd1⟩ : ∃ d : Nat, e1 = d ∧ 2 ≤ d ∧ d ≤ 16 := by
    obtain ⟨h1, h2⟩ := rightD_iff.1 hr1
    exact ⟨e1.toNat, by omega, by omega, by omega⟩
  obtain ⟨d2, rfl, hd2⟩ : ∃ d : Nat, e2 = d ∧ 2 ≤ d ∧ d ≤ 16 := by
    obtain ⟨h1, h2⟩ := rightD_iff.1 hr2
    exact ⟨e2.toNat, by omega, by omega, by omega⟩
  clear hr1 hr2
  have hO := dopen_st m d1 (by omega) hd1 hs0
  go_wp2_with fail
  refine hR1.mono ?_
  rintro e w2 ⟨rfl, rfl⟩
  go_wp2_with fail
  refine hR2.mono ?_
  rintro e w2 ⟨rfl, rfl⟩
  clear hR1 hR2
  go_wp2_with fail
  refine hO.mono ?_
  rintro e w2 ⟨p1, c1, rfl, hs1⟩
  clear hO g0 g1 hs0
  have hO := dopen_st m d2 (by omega) hd2 hs1
  have g1 := hs1.cell 0 rfl (o := 1) rfl
  go_wp2_with fail
  refine hO.mono ?_
  rintro e w3 ⟨p2, c2, rfl, hs2⟩
  clear hO g1 hs1
  have hs : Stage (fun _ => False) w [Ob.dary p1 c1 d1 (newW m) 0, Ob.dary p2 c2 d2 (newW m) 0] w3 := hs2.select [1, 2] (by decide) rfl
  clear hs2
  generalize newW m = WN at *
  go_wp2_with fail
  go_loopw [62] (fun i wr => ∃ (k : Nat) (W : WS) (s1 s2 : Int), k ≤ n0 ∧ i = .int .i64 k ∧ Stage (fun _ => False) w [Ob.dary p1 c1 d1 W s1, Ob.dary p2 c2 d2 W s2] wr) (fun i _ => n0 - (intOf i).toNat)
  case atStart => exact ⟨0, WN, 0, 0, Nat.zero_le _, rfl, hs⟩
  case round =>
    clear hs
    obtain ⟨k, W, s1, s2, hk, rfl, hs⟩ := hrel
    by_cases hlt : k < n0
    · have hki : (k : Int) < n0 := by omega
      obtain ⟨ba, offa, x, y, z, q, r, rfl, g0, g1, g2, g3, g4, hy, hz⟩ := hact k hlt
      replace g0 := later hs.below g0
      replace g1 := later hs.below g1
      replace g2 := later hs.below g2
      replace g3 := later hs.below g3
      replace g4 := later hs.below g4
      obtain ⟨wr1, hwr1, hs0⟩ : ∃ w9 : World, wr.alloc (.cells #[.int .i64 x, .int .i64 y, .int .i64 z, .int .i64 q, .int .u64 r] 65) = w9 ∧ Stage (fun _ => False) w [Ob.dary p1 c1 d1 W s1, Ob.dary p2 c2 d2 W s2, Ob.box wr.heap.size #[.int .i64 x, .int .i64 y, .int .i64 z, .int .i64 q, .int .u64 r] 65] w9 := ⟨_, rfl, hs.alloc _ _⟩
      have a0 := hs0.cell 2 rfl (o := 0) rfl
      go_upto_block 2 with fail
      clear hwr1 hs g0 g1 g2 g3 g4
      generalize wr.heap.size = bA at *
      have hB : ∀ w' : World, Blk w' bA #[.int .i64 x, .int .i64 y, .int .i64 z, .int .i64 q, .int .u64 r] 65 → w'.cell? ⟨bA, 1, none⟩ = some (.int .i64 y) ∧ w'.cell? ⟨bA, 2, none⟩ = some (.int .i64 z) ∧ w'.cell? ⟨bA, 3, none⟩ = some (.int .i64 q) ∧ w'.cell? ⟨bA, 4, none⟩ = some (.int .u64 r) := fun w' h => ⟨blk_cell h rfl, blk_cell h rfl, blk_cell h rfl, blk_cell h rfl⟩
      go_cut [14, 15, 16, 17] (fun x14 x15 x16 x17 wx => ∃ (U : WS) (t1 t2 zz : Int) (B : Bool), x14 = .int .i64 zz ∧ x15 = .bool B ∧ x16 = .int .i64 zz ∧ x17 = .bool B ∧ Stage (fun _ => False) w [Ob.dary p1 c1 d1 U t1, Ob.dary p2 c2 d2 U t2, Ob.box bA #[.int .i64 x, .int .i64 y, .int .i64 z, .int .i64 q, .int .u64 r] 65] wx)
      case first =>
        by_cases h0 : x = 0
        · subst h0
          go_wp2_with fail
          have hs1 := hs0.drew
          have hJ := dal_make hd1 hs1 0 rfl
          have x0 := dal_there hs1 0 rfl
          have y0 := dal_there hs1 1 rfl
          go_region_held3 (fun w' => w'.cell? ⟨p1, 0, none⟩ = some (.pointer (some ⟨c1, 0, none⟩)) ∧ w'.cell? ⟨p2, 0, none⟩ = some (.pointer (some ⟨c2, 0, none⟩))) (first | exact ⟨x0, y0⟩ | exact ⟨x1, y1⟩ | exact ⟨x2, y2⟩)
            (first
              | (go_at_call 20; with_reducible refine hJ.mono ?_; rintro e v1 ⟨rfl, t1, hs2⟩; have x1 := dal_there hs2 0 rfl; have y1 := dal_there hs2 1 rfl; have hK := dal_make hd2 hs2 1 rfl)
              | (go_at_call 20; with_reducible refine hK.mono ?_; rintro e v2 ⟨rfl, t2, hs3⟩; have x2 := dal_there hs3 0 rfl; have y2 := dal_there hs3 1 rfl))
          go_wp2_with fail
          go_meet
          exact ⟨makeW W, t1, t2, madeW W, false, rfl, rfl, rfl, rfl, hs3⟩
        have f0 : (x == 0) = false := by simpa using h0
        by_cases h1 : x = 1
        · subst h1
          go_wp2_with fail
          have hs1 := hs0.drew
          have hJ := dal_ins hd1 hs1 0 rfl y z q r hy hz
          have x0 := hs1.blk 2 rfl
          go_region_held3 (fun w' => w'.cell? ⟨bA, 1, none⟩ = some (.int .i64 y) ∧ w'.cell? ⟨bA, 2, none⟩ = some (.int .i64 z) ∧ w'.cell? ⟨bA, 3, none⟩ = some (.int .i64 q) ∧ w'.cell? ⟨bA, 4, none⟩ = some (.int .u64 r)) (exact hB _ (by assumption))
            (first
              | (go_at_call 21; with_reducible refine hJ.mono ?_; rintro e v1 ⟨rfl, t1, hs2⟩; have x1 := hs2.blk 2 rfl; have hK := dal_ins hd2 hs2 1 rfl y z q r hy hz)
              | (go_at_call 21; with_reducible refine hK.mono ?_; rintro e v2 ⟨rfl, t2, hs3⟩; have x2 := hs3.blk 2 rfl))
          go_wp2_with fail
          go_meet
          exact ⟨putW W y z q r, t1, t2, 0, putB W y z, rfl, rfl, rfl, rfl, hs3⟩
        have f1 : (x == 1) = false := by simpa using h1
        by_cases h2 : x = 2
        · subst h2
          have c1 := hs0.cell 2 rfl (o := 1) rfl
          have hJ := dal_min hd1 hs0 0 rfl y hy
          go_wp2_with fail
          refine hJ.mono ?_
          rintro e v1 ⟨rfl, t1, hs2⟩
          clear hJ c1
          have c1 := hs2.cell 2 rfl (o := 1) rfl
          have hK := dal_min hd2 hs2 1 rfl y hy
          go_wp2_with fail
          refine hK.mono ?_
          rintro e v2 ⟨rfl, t2, hs3⟩
          clear hK c1
          go_wp2_with fail
          go_meet
          exact ⟨W, t1, t2, minI W y, minB W y, rfl, rfl, rfl, rfl, hs3⟩
        have f2 : (x == 2) = false := by simpa using h2
        by_cases h3 : x = 3
        · subst h3
          have c1 := hs0.cell 2 rfl (o := 1) rfl
          have hJ := dal_ext hd1 hs0 0 rfl y hy
          go_wp2_with fail
          refine hJ.mono ?_
          rintro e v1 ⟨rfl, t1, hs2⟩
          clear hJ c1
          have c1 := hs2.cell 2 rfl (o := 1) rfl
          have hK := dal_ext hd2 hs2 1 rfl y hy
          go_wp2_with fail
          refine hK.mono ?_
          rintro e v2 ⟨rfl, t2, hs3⟩
          clear hK c1
          go_wp2_with fail
          go_meet
          exact ⟨exW W y, t1, t2, minI W y, minB W y, rfl, rfl, rfl, rfl, hs3⟩
        have f3 : (x == 3) = false := by simpa using h3
        by_cases h4 : x = 4
        · subst h4
          go_wp2_with fail
          have hs1 := hs0.drew
          have hJ := dal_dec hd1 hs1 0 rfl z q r hz
          have x0 := hs1.blk 2 rfl
          go_region_held3 (fun w' => w'.cell? ⟨bA, 1, none⟩ = some (.int .i64 y) ∧ w'.cell? ⟨bA, 2, none⟩ = some (.int .i64 z) ∧ w'.cell? ⟨bA, 3, none⟩ = some (.int .i64 q) ∧ w'.cell? ⟨bA, 4, none⟩ = some (.int .u64 r)) (exact hB _ (by assumption))
            (first
              | (go_at_call 27; with_reducible refine hJ.mono ?_; rintro e v1 ⟨rfl, t1, hs2⟩; have x1 := hs2.blk 2 rfl; have hK := dal_dec hd2 hs2 1 rfl z q r hz)
              | (go_at_call 27; with_reducible refine hK.mono ?_; rintro e v2 ⟨rfl, t2, hs3⟩; have x2 := hs3.blk 2 rfl))
          go_wp2_with fail
          go_meet
          exact ⟨lowerW W z q r, t1, t2, 0, lowerB W z q r, rfl, rfl, rfl, rfl, hs3⟩
        have f4 : (x == 4) = false := by simpa using h4
        by_cases h5 : x = 5
        · subst h5
          go_wp2_with fail
          have hs1 := hs0.drew
          have hJ := dal_del hd1 hs1 0 rfl z hz
          have x0 := hs1.blk 2 rfl
          go_region_held3 (fun w' => w'.cell? ⟨bA, 1, none⟩ = some (.int .i64 y) ∧ w'.cell? ⟨bA, 2, none⟩ = some (.int .i64 z) ∧ w'.cell? ⟨bA, 3, none⟩ = some (.int .i64 q) ∧ w'.cell? ⟨bA, 4, none⟩ = some (.int .u64 r)) (exact hB _ (by assumption))
            (first
              | (go_at_call 28; with_reducible refine hJ.mono ?_; rintro e v1 ⟨rfl, t1, hs2⟩; have x1 := hs2.blk 2 rfl; have hK := dal_del hd2 hs2 1 rfl z hz)
              | (go_at_call 28; with_reducible refine hK.mono ?_; rintro e v2 ⟨rfl, t2, hs3⟩; have x2 := hs3.blk 2 rfl))
          go_wp2_with fail
          go_meet
          exact ⟨dropW W z, t1, t2, 0, inW W z, rfl, rfl, rfl, rfl, hs3⟩
        have f5 : (x == 5) = false := by simpa using h5
        by_cases h6 : x = 6
        · subst h6
          go_wp2_with fail
          have hs1 := hs0.drew
          have hJ := dal_meld hd1 hs1 0 rfl y z hy hz
          have x0 := hs1.blk 2 rfl
          go_region_held3 (fun w' => w'.cell? ⟨bA, 1, none⟩ = some (.int .i64 y) ∧ w'.cell? ⟨bA, 2, none⟩ = some (.int .i64 z) ∧ w'.cell? ⟨bA, 3, none⟩ = some (.int .i64 q) ∧ w'.cell? ⟨bA, 4, none⟩ = some (.int .u64 r)) (exact hB _ (by assumption))
            (first
              | (go_at_call 29; with_reducible refine hJ.mono ?_; rintro e v1 ⟨rfl, t1, hs2⟩; have x1 := hs2.blk 2 rfl; have hK := dal_meld hd2 hs2 1 rfl y z hy hz)
              | (go_at_call 29; with_reducible refine hK.mono ?_; rintro e v2 ⟨rfl, t2, hs3⟩; have x2 := hs3.blk 2 rfl))
          go_wp2_with fail
          go_meet
          exact ⟨joinW W y z, t1, t2, 0, joinBW W y z, rfl, rfl, rfl, rfl, hs3⟩
        have f6 : (x == 6) = false := by simpa using h6
        go_wp2_with fail
        go_meet
        exact ⟨W, s1, s2, 0, false, rfl, rfl, rfl, rfl, hs0⟩
      case rest =>
        obtain ⟨U, t1, t2, zz, B, rfl, rfl, rfl, rfl, hs⟩ := hcut
        clear hs0 hB a0
        have k1 := cell_regrown (hs.cell 2 rfl (o := 1) rfl)
        have x0 := cell_regrown (dal_there hs 0 rfl)
        have y0 := cell_regrown (dal_there hs 1 rfl)
        have cA : ∀ d' os, Calls Try.prog 30 #[.pointer (some ⟨c1, 0, none⟩), .int .i64 y] (grow (redrawn _ d') os) fun e w'' => e = .returned (.int .i64 (lenW U y)) ∧ ∃ p : Regrown, w'' = grow (redrawn _ p.d) p.os := fun d' os => Calls.regrown_of (by obtain ⟨F', ho⟩ := (hs.later (below_regrown _ d' os)).get (i := 0) rfl; exact (dary_nests p1 c1 d1 hd1).len y hy ho)
        have cB : ∀ d' os, Calls Try.prog 30 #[.pointer (some ⟨c2, 0, none⟩), .int .i64 y] (grow (redrawn _ d') os) fun e w'' => e = .returned (.int .i64 (lenW U y)) ∧ ∃ p : Regrown, w'' = grow (redrawn _ p.d) p.os := fun d' os => Calls.regrown_of (by obtain ⟨F', ho⟩ := (hs.later (below_regrown _ d' os)).get (i := 1) rfl; exact (dary_nests p2 c2 d2 hd2).len y hy ho)
        have e1 : (zz != zz) = false := by simp
        have e2 : (B != B) = false := by simp
        generalize (lenW U y : Int) = n at *
        have e3 : (n != n) = false := by simp
        go_wp2_with fail
        refine wp_region_quiet_below (by kernel_rfl) (by kernel_rfl) ?_
        repeat (first | go_big_quiet_step (first | with_reducible exact cA _ _ | with_reducible exact cB _ _) | quiet_step (fail))
        refine wpQuiet_nil ?_
        intro W3 hw
        replace hw := below_regrown' hw
        have hs6 := (hs.later hw).take 2
        clear cA cB k1 x0 y0 hs hw
        go_wp2_with fail
        go_roundw
        case rel => exact ⟨k + 1, U, t1, t2, by omega, by go_num, hs6⟩
        case measure => simp [intOf]; omega
    · have hki : ¬ (k : Int) < n0 := by omega
      go_wp2_with fail
      go_ret
      exact ⟨rfl, hs.below⟩
end
end Go.Proofs.Ytlbbgdpdaelcdaa

namespace Go.Proofs.Ytlbbgdpdaelcdaa
open Go.RowKit Go.WideShapes Go.ChangeShapes Go.Deep

section
variable {H : Type} {enc : TypeId × Value → H} {P : Program} {w : World} {base : Nat} {spare : Nat → Bool} {held : Bool} {r : Reach} {b0 : Nat}
theorem open_two' {t e : TypeId} {k : IntKind} {v : Value} {d : DataW H} {p : List MemPlace} (hs : P.underlying t = some (.array 2 e)) (he : P.underlying e = some (.int k)) (hc : P.cellsOf e = 1) (hC : P.cellsOf t = 2)
    (hv : Value.okWide P w r b0 t v) (h : DataW.Trod enc P w base spare held t v d p) :
    ∃ m n : Int, v = .agg #[.int k m, .int k n] ∧ (k.min ≤ m ∧ m ≤ k.max) ∧ (k.min ≤ n ∧ n ≤ k.max) := by
  obtain ⟨cs, rfl, hsz⟩ : ∃ cs, v = .agg cs ∧ cs.size = P.cellsOf t := by
    simp only [Value.okWide, hs] at hv
    obtain ⟨cs, h1, h2, _⟩ := hv
    exact ⟨cs, h1, h2⟩
  rw [hC] at hsz
  obtain ⟨fuel, hf⟩ := h
  rcases cs with ⟨l⟩
  match l, hsz with
  | [v0, v1], _ =>
    obtain ⟨ys, n', _, _, _, hyl, hff⟩ := DataW.trod_array hs hf
    have e0 := hff 0 (by omega)
    have e1 := hff 1 (by omega)
    rw [hc] at e0 e1
    match ys, hyl with
    | [y0, y1], _ =>
      simp only [Value.cells, Nat.zero_mul, Nat.one_mul, List.drop_zero, List.take_succ_cons, List.take_zero, List.drop_succ_cons, List.getElem?_cons_zero, List.getElem?_cons_succ] at e0 e1
      obtain ⟨m, em, _, wm⟩ := DataW.trod_int he e0
      obtain ⟨n, en, _, wn⟩ := DataW.trod_int he e1
      simp only [List.cons.injEq, and_true] at em en
      subst em en
      simp [Lit.wf] at wm wn
      exact ⟨m, n, rfl, wm, wn⟩
end
end Go.Proofs.Ytlbbgdpdaelcdaa
