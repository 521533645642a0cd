/- Merged of SkewAlive, SkewWalks. -/
import Derived.Test.YtehoejoeoaimjaaSkewWhole
namespace Go.Proofs.Ytehoejoeoaimjaa
open Go.RowKit Go.Sort

theorem skew_start {W0 w : World} {l : List Ob} (n : Nat) (hn : n ≤ 65536) (hs : Stage (fun _ => False) W0 l w) : Calls Try.prog 10 #[.int .i64 n] w fun e w' => ∃ p c, e = .returned (.tuple #[.pointer (some ⟨p, 0, none⟩), .int .i64 0]) ∧ Stage (fun _ => False) W0 (l ++ [Ob.skew p c (newW n) 0 (fun _ => .nil)]) w' :=
  (new_sk n hn w).mono fun _ _ ⟨p, c, he, _, h1, h2, h3⟩ => ⟨p, c, he, hs.add h3 h1 h2⟩
theorem make_sk {w : World} {p c : Nat} {W : WS} {s : Int} {F : Nat → Prop} {Ts : Nat → Tr} (h : (Ob.skew p c W s Ts).holds w F) : Calls Try.prog 22 #[.pointer (some ⟨c, 0, none⟩)] w fun e w' => e = .returned (.int .i64 (madeW W)) ∧ ∃ F', (Ob.skew p c (makeW W) s Ts).holds w' F' ∧ Moved F F' w w' :=
  skew_cells h (W' := makeW W) (fun _ I => I.congr (by unfold makeW; split <;> rfl)) (by unfold makeW; split <;> rfl) fun _ ho => make_cl ho
/-- The example's nest with so many slots in; with so many out again. -/
def tenI (k : Nat) : WS := ⟨[false, true], (List.range 10).map fun (i : Nat) => if i < k then ⟨1, (i : Int) + 1, 0⟩ else .off⟩
def tenE (k : Nat) : WS := ⟨[false, true], (List.range 10).map fun (i : Nat) => if i < k then .off else ⟨1, (i : Int) + 1, 0⟩⟩
theorem ten_put : ∀ k, k < 10 → putB (tenI k) 1 k = true ∧ putW (tenI k) 1 k ((k : Int) + 1) 0 = tenI (k + 1) ∧ lenW (tenI k) 1 = k := by
  intro k hk
  have : k = 0 ∨ k = 1 ∨ k = 2 ∨ k = 3 ∨ k = 4 ∨ k = 5 ∨ k = 6 ∨ k = 7 ∨ k = 8 ∨ k = 9 := by omega
  rcases this with rfl | rfl | rfl | rfl | rfl | rfl | rfl | rfl | rfl | rfl <;> exact ⟨rfl, rfl, rfl⟩
theorem ten_ex : ∀ k, k < 10 → minB (tenE k) 1 = true ∧ minI (tenE k) 1 = k ∧ exW (tenE k) 1 = tenE (k + 1) := by
  intro k hk
  have : k = 0 ∨ k = 1 ∨ k = 2 ∨ k = 3 ∨ k = 4 ∨ k = 5 ∨ k = 6 ∨ k = 7 ∨ k = 8 ∨ k = 9 := by omega
  rcases this with rfl | rfl | rfl | rfl | rfl | rfl | rfl | rfl | rfl | rfl <;> exact ⟨rfl, rfl, rfl⟩
theorem asked_pos {lt : Int → Int → Bool} {t u : Tr} (ht : t ≠ .nil) (hu : u ≠ .nil) : 0 < Tr.asked lt t u := by
  cases t with
  | nil => exact absurd rfl ht
  | node x l r =>
    cases u with
    | nil => exact absurd rfl hu
    | node y l' r' =>
      cases h : lt x y
      · rw [(Tr.merge_no h).2]; omega
      · rw [(Tr.merge_yes h).2]; omega
/-- The next slot comes in. -/
theorem kalive_ins {w w' : World} {p c : Nat} {g : KG} {k : Nat} (hk : k < 10) (hJ : SkJ k (tenI k) g) (_hp : 2 ≤ k → 0 < g.1) (hs : Stage (fun _ => False) w [Ob.skew p c (tenI k) g.1 g.2] w') :
    Calls Try.prog 23 #[ptrV p, .int .i64 1, .int .i64 k, .agg #[.int .i64 ((k : Int) + 1), .int .u64 0]] w' fun e w'' => e = .returned (.bool true) ∧ ∃ g' : KG, SkJ (k + 1) (tenI (k + 1)) g' ∧ (2 ≤ k + 1 → 0 < g'.1) ∧ Stage (fun _ => False) w [Ob.skew p c (tenI (k + 1)) g'.1 g'.2] w'' := by
  obtain ⟨e1, e2, e3⟩ := ten_put k hk
  obtain ⟨F, ho⟩ := hs.get (i := 0) rfl
  have hj := skJ_step (k := 1) (y := 1) (x := k) (q := (k : Int) + 1) (r := 0) (g' := skIns (tenI k) 1 k ((k : Int) + 1) 0 g) (W' := tenI (k + 1)) (by omega) ⟨_, F, ho⟩ hJ rfl
  have hst := skew_range ho
  have hI := skew_inv ho
  have e4 : skIns (tenI k) 1 k ((k : Int) + 1) 0 g = (stp g.1 (Tr.asked (aheadW (tenI (k + 1))) (g.2 1) (.node k .nil .nil)), updT g.2 1 (Tr.merge (aheadW (tenI (k + 1))) (g.2 1) (.node k .nil .nil))) := by
    unfold skIns; rw [if_pos e1, e2]; rfl
  have hpos : 2 ≤ k + 1 → 0 < (skIns (tenI k) 1 k ((k : Int) + 1) 0 g).1 := fun h => by
    have hne : g.2 1 ≠ .nil := fun e => by
      have := hI.size 1 (by omega)
      rw [e] at this
      have e9 : Tr.size .nil = 0 := rfl
      have e5 : lenW (tenI k) ((1 : Nat) : Int) = k := e3
      omega
    have := asked_pos (lt := aheadW (tenI (k + 1))) hne (u := .node k .nil .nil) (fun e => by cases e)
    rw [e4]
    show 0 < stp g.1 _
    unfold stp
    omega
  have hC := hs.call (O' := Ob.skew p c (tenI (k + 1)) (skIns (tenI k) 1 k ((k : Int) + 1) 0 g).1 (skIns (tenI k) 1 k ((k : Int) + 1) 0 g).2) (v := .bool true) 0 rfl (fun F ho => by
    have := insert_sk (1 : Int) k ((k : Int) + 1) 0 ho
    rw [e1, e2] at this
    exact this)
  exact hC.mono fun e w2 ⟨h1, h2⟩ => ⟨h1, _, hj, hpos, h2⟩
/-- The next slot comes out. -/
theorem kalive_ext {w w' : World} {p c : Nat} {g : KG} {k : Nat} (hk : k < 10) (hJ : SkJ (10 + k) (tenE k) g) (hp : 0 < g.1) (hs : Stage (fun _ => False) w [Ob.skew p c (tenE k) g.1 g.2] w') :
    Calls Try.prog 24 #[ptrV p, .int .i64 1] w' fun e w'' => e = .returned (.tuple #[.int .i64 k, .bool true]) ∧ ∃ g' : KG, SkJ (10 + (k + 1)) (tenE (k + 1)) g' ∧ 0 < g'.1 ∧ Stage (fun _ => False) w [Ob.skew p c (tenE (k + 1)) g'.1 g'.2] w'' := by
  obtain ⟨e1, e2, e3⟩ := ten_ex k hk
  obtain ⟨F, ho⟩ := hs.get (i := 0) rfl
  have hj := skJ_step (k := 3) (y := 1) (x := 0) (q := 0) (r := 0) (g' := skExt (tenE k) 1 g) (W' := tenE (k + 1)) (by omega) ⟨_, F, ho⟩ hJ rfl
  have hst := skew_range ho
  have hpos : 0 < (skExt (tenE k) 1 g).1 := by
    unfold skExt skDel
    rw [if_pos e1]
    split
    · have := (stp_le hst (Tr.asked (aheadW (tenE k)) (Tr.cutAt (g.2 (cellW (tenE k) (minI (tenE k) 1)).home) (minI (tenE k) 1)).2.1 (Tr.cutAt (g.2 (cellW (tenE k) (minI (tenE k) 1)).home) (minI (tenE k) 1)).2.2)).1
      show 0 < stp g.1 _
      omega
    · exact hp
  have hC := hs.call (O' := Ob.skew p c (tenE (k + 1)) (skExt (tenE k) 1 g).1 (skExt (tenE k) 1 g).2) (v := .tuple #[.int .i64 k, .bool true]) 0 rfl (fun F ho => by
    have := extract_sk (1 : Int) ⟨by omega, by omega⟩ ho
    rw [e1, e2, e3] at this
    exact this)
  exact hC.mono fun e w2 ⟨h1, h2⟩ => ⟨h1, _, hj, hpos, h2⟩
set_option maxRecDepth 100000 in
set_option maxHeartbeats 2000000 in
theorem kalive_any (w : World) : Calls Try.prog 9 #[] w fun e w' => e = .returned (.bool true) ∧ Below w.heap.size w w' := by
  go_enter Try.func9, Try.ntmps9
  go_wp2_with fail
  refine (skew_start 10 (by omega) (Stage.start w)).mono ?_
  rintro e w1 ⟨p, c, rfl, hs⟩
  have p0 := (hs.get (i := 0) rfl).elim fun _ ho => skew_there ho
  unfold skewH at p0
  have hM : Calls Try.prog 22 #[ptrV c] w1 fun e w' => e = .returned (.int .i64 1) ∧ Stage (fun _ => False) w [Ob.skew p c (tenI 0) 0 (fun _ => .nil)] w' := hs.call 0 rfl (fun _ ho => make_sk ho)
  go_wp2_with fail
  refine hM.mono ?_
  rintro e w2 ⟨rfl, hs2⟩
  clear hM hs p0
  go_wp2_with fail
  go_loopw [3] (fun i wr => ∃ (k : Nat) (g : KG), i = .int .i64 k ∧ k ≤ 10 ∧ SkJ k (tenI k) g ∧ (2 ≤ k → 0 < g.1) ∧ Stage (fun _ => False) w [Ob.skew p c (tenI k) g.1 g.2] wr) (fun i _ => 10 - (intOf i).toNat)
  case atStart => exact ⟨0, (0, fun _ => .nil), rfl, by omega, skJ_new 0, by omega, hs2⟩
  case round =>
    clear hs2
    obtain ⟨k, g, rfl, hk, hJ, hpos, hs⟩ := hrel
    by_cases hlt : k < 10
    · have hki : (k : Int) < 10 := by omega
      have hI := kalive_ins hlt hJ hpos hs
      have e4 : IntKind.i64.wrap ((k : Int) + 1) = (k : Int) + 1 := IntWalk.i64_in _ (by omega)
      clear hs hJ hpos
      go_wp2_with fail
      refine hI.mono ?_
      rintro e w4 ⟨rfl, g', hJ', hpos', hs4⟩
      clear hI
      go_wp2_with fail
      go_roundw
      case rel => exact ⟨k + 1, g', by go_num, by omega, hJ', hpos', hs4⟩
      case measure => simp [intOf]; omega
    · have hki : ¬ (k : Int) < 10 := by omega
      have hk10 : k = 10 := by omega
      have hp := hpos (by omega)
      clear hpos hlt hk
      generalize hkk : (k : Int) = ki at *
      clear hkk
      subst hk10
      replace hs : Stage (fun _ => False) w [Ob.skew p c (tenE 0) g.1 g.2] wr := hs
      go_wp2_with fail
      go_loopw [4] (fun i wr => ∃ (k : Nat) (g : KG), i = .int .i64 k ∧ k ≤ 10 ∧ SkJ (10 + k) (tenE k) g ∧ 0 < g.1 ∧ Stage (fun _ => False) w [Ob.skew p c (tenE k) g.1 g.2] wr) (fun i _ => 10 - (intOf i).toNat)
      case atStart => exact ⟨0, g, rfl, by omega, hJ, hp, hs⟩
      case round =>
        clear hs hJ hp
        obtain ⟨k, g, rfl, hk, hJ, hp, hs⟩ := hrel
        by_cases hlt : k < 10
        · have hki : (k : Int) < 10 := by omega
          have hI := kalive_ext hlt hJ hp hs
          clear hs hJ hp
          go_wp2_with fail
          refine hI.mono ?_
          rintro e w4 ⟨rfl, g', hJ', hp', hs4⟩
          clear hI
          go_wp2_with fail
          go_roundw
          case rel => exact ⟨k + 1, g', by go_num, by omega, hJ', hp', hs4⟩
          case measure => simp [intOf]; omega
        · obtain rfl : k = 10 := by omega
          have hmost : g.1 ≤ 2352 := by
            have h1 := hJ.1
            have h2 : ((10 + 10) * (1 + 5 * Lib.bitLen (10 + 10)) : Nat) = 520 := by decide
            rw [h2] at h1
            omega
          have hS := hs.askB 0 rfl (fun _ ho => (skew_nests p c).steps (g := g) ho)
          have p0 := (hs.get (i := 0) rfl).elim fun _ ho => skew_there ho
          unfold skewH at p0
          replace hS : Calls Try.prog 12 #[ptrV c] wr fun e w' => e = .returned (.int .i64 g.1) ∧ Stage (fun _ => False) w [Ob.skew p c (tenE 10) g.1 g.2] w' := hS
          clear hJ
          go_wp2_with fail
          refine hS.mono ?_
          rintro e w8 ⟨rfl, hs8⟩
          clear hS hs p0
          have hS : Calls Try.prog 12 #[ptrV c] w8 fun e w' => e = .returned (.int .i64 g.1) ∧ Stage (fun _ => False) w [Ob.skew p c (tenE 10) g.1 g.2] w' := hs8.askB 0 rfl (fun _ ho => (skew_nests p c).steps (g := g) ho)
          have p0 := (hs8.get (i := 0) rfl).elim fun _ ho => skew_there ho
          unfold skewH at p0
          go_wp2_with fail
          refine hS.mono ?_
          rintro e w9 ⟨rfl, hs9⟩
          go_wp2_with fail
          go_ret
          exact ⟨rfl, hs9.below⟩
end Go.Proofs.Ytehoejoeoaimjaa

namespace Go.Proofs.Ytehoejoeoaimjaa
open Go.RowKit Go.Sort

/-- Ahead of all calls. -/
abbrev kg0 : KG := (0, fun _ => .nil)
theorem kconfig_any (w : World) : Calls Try.prog 17 #[] w fun e w' => e = .returned (.agg #[.int .i64 7, .int .i64 0]) ∧ Below w.heap.size w w' := by
  have hs := (Stage.start w).alloc #[.int .i64 0, .int .i64 0] 46
  have f0 := hs.free 0 rfl 0
  have f1 := hs.free 0 rfl 1
  have hs2 := (hs.store 0 rfl 0 (.int .i64 7)).store 0 rfl 1 (.int .i64 0)
  have k0 := hs2.cell 0 rfl (o := 0) rfl
  have k1 := hs2.cell 0 rfl (o := 1) rfl
  go_enter Try.func17, Try.ntmps17
  go_wp2_with fail
  exact bodyPost_ret (v := .agg #[.int .i64 7, .int .i64 0]) (by simp [results, Try.results17, go_sem]) rfl ⟨rfl, ((Stage.start w).alloc #[.int .i64 7, .int .i64 0] 46).below⟩
set_option maxRecDepth 100000 in
theorem knew_walk (n : Int) (w : World) : Calls Try.prog 3 #[.int .i64 n] w fun e w' => e = .returned (.bool true) ∧ Below w.heap.size w w' := by
  by_cases hn : 0 ≤ n ∧ n ≤ 65536
  · obtain ⟨k, rfl⟩ : ∃ k : Nat, n = k := ⟨n.toNat, by omega⟩
    have h1 : ¬ (k : Int) < 0 := by omega
    have h2 : ¬ (65536 : Int) < k := by omega
    go_enter Try.func3, Try.ntmps3
    go_wp2_with fail
    refine (kalive_any w).mono ?_
    rintro e w1 ⟨rfl, hb⟩
    go_wp2_with fail
    refine (skew_start k (by omega) ((Stage.start w).later hb)).mono ?_
    rintro e w2 ⟨p, c, rfl, hs⟩
    have N := skew_nests p c
    have p0 := (hs.get (i := 0) rfl).elim fun _ ho => skew_there ho
    unfold skewH at p0
    have hC : Calls Try.prog 11 #[ptrV c] w2 fun e w' => e = .returned (.int .i64 k) ∧ Stage (fun _ => False) w [Ob.skew p c (newW k) 0 (fun _ => .nil)] w' := by
      have := hs.askB 0 rfl (fun _ ho => N.cap (g := kg0) ho)
      rw [show ((newW k).cells.length : Int) = k by simp [newW]] at this
      exact this
    go_wp2_with fail
    refine hC.mono ?_
    rintro e w3 ⟨rfl, hs3⟩
    clear hC hs p0
    have p0 := (hs3.get (i := 0) rfl).elim fun _ ho => skew_there ho
    unfold skewH at p0
    have hS : Calls Try.prog 12 #[ptrV c] w3 fun e w' => e = .returned (.int .i64 0) ∧ Stage (fun _ => False) w [Ob.skew p c (newW k) 0 (fun _ => .nil)] w' := hs3.askB 0 rfl (fun _ ho => N.steps (g := kg0) ho)
    go_wp2_with fail
    refine hS.mono ?_
    rintro e w4 ⟨rfl, hs4⟩
    clear hS hs3 p0
    have p0 := (hs4.get (i := 0) rfl).elim fun _ ho => skew_there ho
    unfold skewH at p0
    have hH : Calls Try.prog 13 #[ptrV c, .int .i64 1] w4 fun e w' => e = .returned (.bool false) ∧ Stage (fun _ => False) w [Ob.skew p c (newW k) 0 (fun _ => .nil)] w' := hs4.askB 0 rfl (fun _ ho => N.has (g := kg0) 1 ho)
    go_wp2_with fail
    refine hH.mono ?_
    rintro e w5 ⟨rfl, hs5⟩
    clear hH hs4 p0
    have p0 := (hs5.get (i := 0) rfl).elim fun _ ho => skew_there ho
    unfold skewH at p0
    have hL : Calls Try.prog 14 #[ptrV c, .int .i64 1] w5 fun e w' => e = .returned (.int .i64 0) ∧ Stage (fun _ => False) w [Ob.skew p c (newW k) 0 (fun _ => .nil)] w' := by
      have := hs5.askB 0 rfl (fun _ ho => N.len (g := kg0) 1 ⟨by omega, by omega⟩ ho)
      rw [show lenW (newW k) 1 = 0 by simp [lenW, newW, List.countP_replicate, CellD.off]] at this
      exact this
    go_wp2_with fail
    refine hL.mono ?_
    rintro e w6 ⟨rfl, hs6⟩
    go_wp2_with fail
    go_ret
    exact ⟨rfl, hs6.below⟩
  · have hno := new_sk_no n
    go_enter Try.func3, Try.ntmps3
    go_wp2_with fail
    refine (kalive_any w).mono ?_
    rintro e w1 ⟨rfl, hb⟩
    by_cases h1 : n < 0
    · go_wp2_with fail
      refine (hno w1 hn).mono ?_
      rintro e w2 ⟨rfl, rfl⟩
      go_wp2_with fail
      go_ret
      exact ⟨rfl, hb⟩
    · have h2 : (65536 : Int) < n := by omega
      go_wp2_with fail
      refine (hno w1 hn).mono ?_
      rintro e w2 ⟨rfl, rfl⟩
      go_wp2_with fail
      go_ret
      exact ⟨rfl, hb⟩
set_option maxRecDepth 100000 in
theorem kruns_walk (C : Nat) (hC : C ≤ 255) (a0 : Option Addr) (n0 cap : Nat) (hcap : n0 ≤ cap ∧ cap ≤ 9223372036854775807) (w : World) (hact : ActsAt w a0 n0) :
    Calls Try.prog 4 #[.int .u8 C, .slice a0 n0 cap] w fun e w' => e = .returned (.bool true) ∧ Below w.heap.size w w' := by
  obtain ⟨m, hm⟩ : ∃ m, m = C % 30 := ⟨_, rfl⟩
  have hm30 : m < 30 := by omega
  have q1 : Int.tmod (C : Int) 30 = (m : Int) := by rw [hm]; exact (Int.ofNat_tmod C 30).symm
  clear hm
  go_enter Try.func4, Try.ntmps4
  go_wp2_with fail
  refine (kalive_any w).mono ?_
  rintro e w1 ⟨rfl, hb⟩
  go_wp2_with fail
  refine (skew_start m (by omega) ((Stage.start w).later hb)).mono ?_
  rintro e w2 ⟨p, c, rfl, hs⟩
  by_cases h60 : (60 : Int) < n0
  · go_wp2_with fail
    go_ret
    exact ⟨rfl, hs.below⟩
  · have hR := runs_one (runs_any (g := kg0) (skew_nests p c) m (by omega) a0 n0 cap hcap hact hs)
    go_wp2_with fail
    refine hR.mono ?_
    rintro e w3 ⟨rfl, hb3⟩
    go_wp2_with fail
    go_ret
    exact ⟨rfl, hb3⟩
set_option maxRecDepth 100000 in
theorem kwholes_walk (C : Nat) (hC : C ≤ 255) (a0 : Option Addr) (n0 cap : Nat) (hcap : n0 ≤ cap ∧ cap ≤ 9223372036854775807) (w : World) (hact : ActsAt w a0 n0) :
    Calls Try.prog 5 #[.int .u8 C, .slice a0 n0 cap] w fun e w' => e = .returned (.bool true) ∧ Below w.heap.size w w' := by
  obtain ⟨m, hm⟩ : ∃ m, m = C % 200 := ⟨_, rfl⟩
  have hm30 : m < 200 := by omega
  have q1 : Int.tmod (C : Int) 200 = (m : Int) := by rw [hm]; exact (Int.ofNat_tmod C 200).symm
  clear hm
  go_enter Try.func5, Try.ntmps5
  go_wp2_with fail
  refine (kalive_any w).mono ?_
  rintro e w1 ⟨rfl, hb⟩
  go_wp2_with fail
  refine (skew_start m (by omega) ((Stage.start w).later hb)).mono ?_
  rintro e w2 ⟨p, c, rfl, hs⟩
  by_cases h60 : (300 : Int) < n0
  · go_wp2_with fail
    go_ret
    exact ⟨rfl, hs.below⟩
  · go_wp2_with fail
    refine (kconfig_any w2).mono ?_
    rintro e w3 ⟨rfl, hb2⟩
    have hs3 := hs.later hb2
    have hR := wholes_num (g := kg0) (skew_nests p c) 7 0 n0 SkJ (fun hj h1 _ h3 h4 => skJ_step (by omega) h1 h3 h4) (fun h1 _ h3 => skJ_most (by omega) h1) m (by omega) a0 cap hcap (skJ_new m) hact hs3
    go_wp2_with fail
    refine hR.mono ?_
    rintro e w4 ⟨rfl, hb3⟩
    go_wp2_with fail
    go_ret
    exact ⟨rfl, hb3⟩
set_option maxRecDepth 100000 in
theorem ksorts_walk (L : List Int) (a0 : Option Addr) (cap : Nat) (hcap : L.length ≤ cap ∧ cap ≤ 9223372036854775807) (w : World) (hkey : IntsAt w .i64 a0 L) :
    Calls Try.prog 6 #[.slice a0 L.length cap] w fun e w' => e = .returned (.bool true) ∧ Below w.heap.size w w' := by
  by_cases h1 : L.length ≤ 65536
  · have hN := fun w1 (hb : Below w.heap.size w w1) => skew_start L.length h1 ((Stage.start w).later hb)
    have hS := fun p c w2 (hs : Stage (fun _ => False) w ([] ++ [Ob.skew p c (newW L.length) 0 (fun _ => .nil)]) w2) => sorts_one (sorts_any (g := kg0) (skew_nests p c) L h1 a0 cap hcap hkey hs)
    clear hkey
    generalize L.length = n at *
    go_enter Try.func6, Try.ntmps6
    go_wp2_with fail
    refine (kalive_any w).mono ?_
    rintro e w1 ⟨rfl, hb⟩
    go_wp2_with fail
    refine (hN w1 hb).mono ?_
    rintro e w2 ⟨p, c, rfl, hs⟩
    have hR := hS p c w2 hs
    by_cases h2 : (200 : Int) < n
    · go_wp2_with fail
      go_ret
      exact ⟨rfl, hs.below⟩
    · go_wp2_with fail
      refine hR.mono ?_
      rintro e w3 ⟨rfl, hb3⟩
      go_wp2_with fail
      go_ret
      exact ⟨rfl, hb3⟩
  · have hno := new_sk_no (L.length : Int)
    have h2 : (200 : Int) < L.length := by omega
    clear hkey
    generalize L.length = n at *
    go_enter Try.func6, Try.ntmps6
    go_wp2_with fail
    refine (kalive_any w).mono ?_
    rintro e w1 ⟨rfl, hb⟩
    go_wp2_with fail
    refine (hno w1 (by omega)).mono ?_
    rintro e w2 ⟨rfl, rfl⟩
    go_wp2_with fail
    go_ret
    exact ⟨rfl, hb⟩
set_option maxRecDepth 100000 in
theorem kmelds_walk (L : List Int) (a0 : Option Addr) (cap : Nat) (hcap : L.length ≤ cap ∧ cap ≤ 9223372036854775807) (hmin : ∀ n ∈ L, -9223372036854775808 ≤ n) (B : List Bool) (a1 : Option Addr) (cap1 : Nat) (hcap' : B.length ≤ cap1 ∧ cap1 ≤ 9223372036854775807) (low gone : Int) (hlow : inInt low) (hgone : inInt gone) (w : World) (hkey : IntsAt w .i64 a0 L) (hbool : BoolsAt w a1 B) :
    Calls Try.prog 7 #[.slice a0 L.length cap, .agg #[.slice a1 B.length cap1, .int .i64 low, .int .i64 gone]] w fun e w' => e = .returned (.bool true) ∧ Below w.heap.size w w' := by
  obtain ⟨w0, hw0, hs0⟩ : ∃ w0, w.alloc (.cells #[.slice a1 B.length cap1, .int .i64 low, .int .i64 gone] 53) = w0 ∧ Stage (fun _ => False) w [Ob.box w.heap.size #[.slice a1 B.length cap1, .int .i64 low, .int .i64 gone] 53] w0 := ⟨_, rfl, (Stage.start w).alloc _ _⟩
  by_cases h1 : L.length ≤ 65536
  · have hN := fun w1 (hb : Below w0.heap.size w0 w1) => skew_start L.length h1 (hs0.later hb)
    have hS := fun p c w2 (hs : Stage (fun _ => False) w [Ob.skew p c (newW L.length) 0 (fun _ => .nil)] w2) => halves_num (g := kg0) (skew_nests p c) L h1 a0 cap hcap hmin B a1 cap1 hcap' low gone hlow hgone hkey hbool hs
    clear hkey hbool hmin hs0
    generalize L.length = n at *
    generalize B.length = m at *
    go_enter Try.func7, Try.ntmps7
    go_wp2_with fail
    refine (kalive_any w0).mono ?_
    rintro e w1 ⟨rfl, hb⟩
    clear hw0
    go_wp2_with fail
    refine (hN w1 hb).mono ?_
    rintro e w2 ⟨p, c, rfl, hs⟩
    have hR := hS p c w2 (hs.select [1] (by decide) rfl)
    by_cases h2 : (200 : Int) < n
    · go_wp2_with fail
      go_ret
      exact ⟨rfl, hs.below⟩
    · have c0 := hs.cell 0 rfl (o := 0) rfl
      have c1 := hs.cell 0 rfl (o := 1) rfl
      have c2 := hs.cell 0 rfl (o := 2) rfl
      go_wp2_with fail
      refine hR.mono ?_
      rintro e w3 ⟨rfl, hb3⟩
      go_wp2_with fail
      go_ret
      exact ⟨rfl, hb3⟩
  · have hno := new_sk_no (L.length : Int)
    have h2 : (200 : Int) < L.length := by omega
    clear hkey hbool hmin
    generalize L.length = n at *
    generalize B.length = m at *
    go_enter Try.func7, Try.ntmps7
    go_wp2_with fail
    refine (kalive_any w0).mono ?_
    rintro e w1 ⟨rfl, hb⟩
    clear hw0
    go_wp2_with fail
    refine (hno w1 (by omega)).mono ?_
    rintro e w2 ⟨rfl, rfl⟩
    go_wp2_with fail
    go_ret
    exact ⟨rfl, (hs0.later hb).below⟩
end Go.Proofs.Ytehoejoeoaimjaa
