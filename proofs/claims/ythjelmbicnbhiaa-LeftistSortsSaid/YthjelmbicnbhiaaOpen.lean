/- Merged of LeftistAlive, LeftistWalks, Open. -/
import Derived.Test.YthjelmbicnbhiaaLeftistNests
import Derived.Test.YthjelmbicnbhiaaLaw
import Derived.Deep.Grids
namespace Go.Proofs.Ythjelmbicnbhiaa
open Go.RowKit Go.Sort

/-- The example's nest with so many slots in, and its tree. -/
def alL (k : Nat) : WS := ⟨[false, true], [if 0 < k then ⟨1, 1, 0⟩ else .off, if 1 < k then ⟨1, 2, 0⟩ else .off, if 2 < k then ⟨1, 3, 0⟩ else .off]⟩
def alTr : Nat → Tr
  | 0 => .nil
  | 1 => .node 0 .nil .nil
  | 2 => .node 0 (.node 1 .nil .nil) .nil
  | _ => .node 0 (.node 1 .nil .nil) (.node 2 .nil .nil)
def alT (k : Nat) : Nat → Tr := fun h => if h = 1 then alTr k else .nil
theorem alT_upd (j k : Nat) : updT (alT j) 1 (alTr k) = alT k := by
  funext i; unfold updT alT; split <;> rfl
theorem left_start {W0 w : World} {l : List Ob} (n : Nat) (hn : n ≤ 65536) (hs : Stage (fun _ => False) W0 l w) : Calls Try.prog 10 #[.int .i64 n] w fun e w' => ∃ p c, e = .returned (.tuple #[.pointer (some ⟨p, 0, none⟩), .int .i64 0]) ∧ Stage (fun _ => False) W0 (l ++ [Ob.leftist p c (newW n) 0 (fun _ => .nil)]) w' :=
  (new_le n hn w).mono fun _ _ ⟨p, c, he, _, h1, h2, h3⟩ => ⟨p, c, he, hs.add h3 h1 h2⟩
theorem make_le {w : World} {p c : Nat} {W : WS} {s : Int} {F : Nat → Prop} {Ts : Nat → Tr} (h : (Ob.leftist p c W s Ts).holds w F) : Calls Try.prog 29 #[.pointer (some ⟨c, 0, none⟩)] w fun e w' => e = .returned (.int .i64 (madeW W)) ∧ ∃ F', (Ob.leftist p c (makeW W) s Ts).holds w' F' ∧ Moved F F' w w' :=
  left_cells h (W' := makeW W) (fun _ I => I.congr (by unfold makeW; split <;> rfl)) (by unfold makeW; split <;> rfl) fun _ ho => make_cl ho
/-- The next slot comes in. -/
theorem alive_ins {w w' : World} {p c : Nat} {s : Int} {k : Nat} (hk : k < 3) (hs : Stage (fun _ => False) w [Ob.leftist p c (alL k) s (alT k)] w') :
    Calls Try.prog 30 #[ptrV p, .int .i64 1, .int .i64 k, .agg #[.int .i64 ((k : Int) + 1), .int .u64 0]] w' fun e w'' => e = .returned (.bool true) ∧ ∃ s' : Int, (s ≤ s' ∧ (0 < k → 0 < s')) ∧ Stage (fun _ => False) w [Ob.leftist p c (alL (k + 1)) s' (alT (k + 1))] w'' := by
  have e1 : putB (alL k) 1 k = true ∧ putW (alL k) 1 k ((k : Int) + 1) 0 = alL (k + 1) ∧ lenW (alL k) 1 = k := by
    have : k = 0 ∨ k = 1 ∨ k = 2 := by omega
    rcases this with rfl | rfl | rfl <;> exact ⟨rfl, rfl, rfl⟩
  have hI := hs.callEx (α := Int × (Nat → Tr)) (Q := fun g => (s ≤ g.1 ∧ (0 < k → 0 < g.1)) ∧ ∃ T, g.2 = updT (alT k) 1 T ∧ (alT k 1 = .nil → T = .node k .nil .nil) ∧ Exact (alL (k + 1)) (alT k 1) (.node k .nil .nil) T) (O' := fun g => Ob.leftist p c (alL (k + 1)) g.1 g.2) (v := .bool true) 0 rfl (fun F ho => by
    refine (insert_le 1 k ((k : Int) + 1) 0 ho).mono ?_
    rintro e w2 ⟨rfl, s', Ts', ⟨h1, _, _, h2, h3⟩, h4⟩
    rw [e1.1] at h2 h3 ⊢
    rw [e1.2.1] at h3 h4
    refine ⟨rfl, (s', Ts'), ⟨⟨h1, fun h => h2 rfl (by rw [e1.2.2]; exact h)⟩, h3 rfl⟩, h4⟩)
  refine hI.mono ?_
  rintro e w2 ⟨rfl, ⟨s', Ts'⟩, ⟨h1, T, h2, h3, h4⟩, hs2⟩
  have hT : T = alTr (k + 1) := by
    have : k = 0 ∨ k = 1 ∨ k = 2 := by omega
    rcases this with rfl | rfl | rfl
    · exact h3 rfl
    · exact h4 0 .nil 1 rfl rfl rfl
    · exact h4 0 (.node 1 .nil .nil) 2 rfl rfl rfl
  have e2 : Ts' = alT (k + 1) := by
    have : Ts' = updT (alT k) 1 T := h2
    rw [this, hT, alT_upd]
  subst e2
  exact ⟨rfl, s', h1, hs2⟩
theorem alive_rank {w w' : World} {p c : Nat} {s : Int} (x a : Nat) (hx : (x = 0 ∧ a = 2) ∨ (x = 1 ∧ a = 1) ∨ (x = 2 ∧ a = 1)) (hs : Stage (fun _ => False) w [Ob.leftist p c (alL 3) s (alT 3)] w') :
    Calls Try.prog 26 #[ptrV p, .int .i64 x] w' fun e w'' => e = .returned (.int .i64 a) ∧ Stage (fun _ => False) w [Ob.leftist p c (alL 3) s (alT 3)] w'' := by
  refine hs.call 0 rfl fun F ho => ?_
  obtain ⟨r, hr, hc⟩ := rank_le x ho
  refine hc.mono ?_
  rintro e w2 ⟨rfl, h2⟩
  refine ⟨?_, h2⟩
  have h3 : Tr.Ranked r (.node 0 (.node 1 .nil .nil) (.node 2 .nil .nil)) := hr 1
  obtain ⟨r0, ⟨r1, _, _⟩, r2, _, _⟩ := h3
  rcases hx with ⟨rfl, rfl⟩ | ⟨rfl, rfl⟩ | ⟨rfl, rfl⟩
  · rw [show inW (alL 3) ((0 : Nat) : Int) = true from rfl, if_pos rfl]
    have : r ((0 : Nat) : Int) = 2 := r0
    rw [this]; rfl
  · rw [show inW (alL 3) ((1 : Nat) : Int) = true from rfl, if_pos rfl]
    have : r ((1 : Nat) : Int) = 1 := r1
    rw [this]; rfl
  · rw [show inW (alL 3) ((2 : Nat) : Int) = true from rfl, if_pos rfl]
    have : r ((2 : Nat) : Int) = 1 := r2
    rw [this]; rfl
set_option maxRecDepth 100000 in
set_option maxHeartbeats 2000000 in
theorem lalive_any (w : World) : Calls Try.prog 9 #[] w fun e w' => e = .returned (.bool true) ∧ Below w.heap.size w w' := by
  go_enter Try.func9, Try.ntmps9
  go_wp2_with fail
  refine (left_start 3 (by omega) (Stage.start w)).mono ?_
  rintro e w1 ⟨p, c, rfl, hs⟩
  have p0 := (hs.get (i := 0) rfl).elim fun _ ho => left_there ho
  unfold leftH at p0
  have e0 : (fun _ => Tr.nil) = alT 0 := by funext h; unfold alT; split <;> rfl
  rw [e0] at hs
  have hM : Calls Try.prog 29 #[ptrV c] w1 fun e w' => e = .returned (.int .i64 1) ∧ Stage (fun _ => False) w [Ob.leftist p c (alL 0) 0 (alT 0)] w' := hs.call 0 rfl (fun _ ho => make_le ho)
  go_wp2_with fail
  refine hM.mono ?_
  rintro e w2 ⟨rfl, hs2⟩
  clear hM hs p0 e0
  go_wp2_with fail
  go_loopw [3] (fun i wr => ∃ (k : Nat) (s : Int), i = .int .i64 k ∧ k ≤ 3 ∧ (2 ≤ k → 0 < s) ∧ Stage (fun _ => False) w [Ob.leftist p c (alL k) s (alT k)] wr) (fun i _ => 3 - (intOf i).toNat)
  case atStart => exact ⟨0, 0, rfl, by omega, by omega, hs2⟩
  case round =>
    clear hs2
    obtain ⟨k, s, rfl, hk, hpos, hs⟩ := hrel
    by_cases hlt : k < 3
    · have hki : (k : Int) < 3 := by omega
      have hI := alive_ins hlt hs
      have e4 : IntKind.i64.wrap ((k : Int) + 1) = (k : Int) + 1 := IntWalk.i64_in _ (by omega)
      clear hs
      go_wp2_with fail
      refine hI.mono ?_
      rintro e w4 ⟨rfl, s', hst, hs4⟩
      clear hI
      go_wp2_with fail
      go_roundw
      case rel => exact ⟨k + 1, s', by go_num, by omega, fun h => hst.2 (by omega), hs4⟩
      case measure => simp [intOf]; omega
    · obtain rfl : k = 3 := by omega
      have hp := hpos (by omega)
      clear hpos
      have hR := alive_rank 0 2 (by omega) hs
      go_wp2_with fail
      refine hR.mono ?_
      rintro e w5 ⟨rfl, hs5⟩
      clear hR hs
      have hR := alive_rank 1 1 (by omega) hs5
      go_wp2_with fail
      refine hR.mono ?_
      rintro e w6 ⟨rfl, hs6⟩
      clear hR hs5
      have hR := alive_rank 2 1 (by omega) hs6
      go_wp2_with fail
      refine hR.mono ?_
      rintro e w7 ⟨rfl, hs7⟩
      clear hR hs6
      have hS : Calls Try.prog 12 #[ptrV c] w7 fun e w' => e = .returned (.int .i64 s) ∧ Stage (fun _ => False) w [Ob.leftist p c (alL 3) s (alT 3)] w' := hs7.askB 0 rfl (fun _ ho => (left_nests p c).steps (g := (s, alT 3)) ho)
      have p0 := (hs7.get (i := 0) rfl).elim fun _ ho => left_there ho
      unfold leftH at p0
      go_wp2_with fail
      refine hS.mono ?_
      rintro e w8 ⟨rfl, hs8⟩
      go_wp2_with fail
      go_ret
      exact ⟨rfl, hs8.below⟩
end Go.Proofs.Ythjelmbicnbhiaa

namespace Go.Proofs.Ythjelmbicnbhiaa
open Go.RowKit Go.Sort

/-- Ahead of all calls. -/
abbrev lg0 : Int × (Nat → Tr) := (0, fun _ => .nil)
theorem lconfig_any (w : World) : Calls Try.prog 17 #[] w fun e w' => e = .returned (.agg #[.int .i64 6, .int .i64 0]) ∧ Below w.heap.size w w' := by
  have hs := (Stage.start w).alloc #[.int .i64 0, .int .i64 0] 46
  have f0 := hs.free 0 rfl 0
  have f1 := hs.free 0 rfl 1
  have hs2 := (hs.store 0 rfl 0 (.int .i64 6)).store 0 rfl 1 (.int .i64 0)
  have k0 := hs2.cell 0 rfl (o := 0) rfl
  have k1 := hs2.cell 0 rfl (o := 1) rfl
  go_enter Try.func17, Try.ntmps17
  go_wp2_with fail
  exact bodyPost_ret (v := .agg #[.int .i64 6, .int .i64 0]) (by simp [results, Try.results17, go_sem]) rfl ⟨rfl, ((Stage.start w).alloc #[.int .i64 6, .int .i64 0] 46).below⟩
set_option maxRecDepth 100000 in
theorem lnew_walk (n : Int) (w : World) : Calls Try.prog 3 #[.int .i64 n] w fun e w' => e = .returned (.bool true) ∧ Below w.heap.size w w' := by
  by_cases hn : 0 ≤ n ∧ n ≤ 65536
  · obtain ⟨k, rfl⟩ : ∃ k : Nat, n = k := ⟨n.toNat, by omega⟩
    have h1 : ¬ (k : Int) < 0 := by omega
    have h2 : ¬ (65536 : Int) < k := by omega
    go_enter Try.func3, Try.ntmps3
    go_wp2_with fail
    refine (lalive_any w).mono ?_
    rintro e w1 ⟨rfl, hb⟩
    go_wp2_with fail
    refine (left_start k (by omega) ((Stage.start w).later hb)).mono ?_
    rintro e w2 ⟨p, c, rfl, hs⟩
    have N := left_nests p c
    have p0 := (hs.get (i := 0) rfl).elim fun _ ho => left_there ho
    unfold leftH at p0
    have hC : Calls Try.prog 11 #[ptrV c] w2 fun e w' => e = .returned (.int .i64 k) ∧ Stage (fun _ => False) w [Ob.leftist p c (newW k) 0 (fun _ => .nil)] w' := by
      have := hs.askB 0 rfl (fun _ ho => N.cap (g := lg0) ho)
      rw [show ((newW k).cells.length : Int) = k by simp [newW]] at this
      exact this
    go_wp2_with fail
    refine hC.mono ?_
    rintro e w3 ⟨rfl, hs3⟩
    clear hC hs p0
    have p0 := (hs3.get (i := 0) rfl).elim fun _ ho => left_there ho
    unfold leftH at p0
    have hS : Calls Try.prog 12 #[ptrV c] w3 fun e w' => e = .returned (.int .i64 0) ∧ Stage (fun _ => False) w [Ob.leftist p c (newW k) 0 (fun _ => .nil)] w' := hs3.askB 0 rfl (fun _ ho => N.steps (g := lg0) ho)
    go_wp2_with fail
    refine hS.mono ?_
    rintro e w4 ⟨rfl, hs4⟩
    clear hS hs3 p0
    have p0 := (hs4.get (i := 0) rfl).elim fun _ ho => left_there ho
    unfold leftH at p0
    have hH : Calls Try.prog 13 #[ptrV c, .int .i64 1] w4 fun e w' => e = .returned (.bool false) ∧ Stage (fun _ => False) w [Ob.leftist p c (newW k) 0 (fun _ => .nil)] w' := hs4.askB 0 rfl (fun _ ho => N.has (g := lg0) 1 ho)
    go_wp2_with fail
    refine hH.mono ?_
    rintro e w5 ⟨rfl, hs5⟩
    clear hH hs4 p0
    have p0 := (hs5.get (i := 0) rfl).elim fun _ ho => left_there ho
    unfold leftH at p0
    have hL : Calls Try.prog 14 #[ptrV c, .int .i64 1] w5 fun e w' => e = .returned (.int .i64 0) ∧ Stage (fun _ => False) w [Ob.leftist p c (newW k) 0 (fun _ => .nil)] w' := by
      have := hs5.askB 0 rfl (fun _ ho => N.len (g := lg0) 1 ⟨by omega, by omega⟩ ho)
      rw [show lenW (newW k) 1 = 0 by simp [lenW, newW, List.countP_replicate, CellD.off]] at this
      exact this
    go_wp2_with fail
    refine hL.mono ?_
    rintro e w6 ⟨rfl, hs6⟩
    go_wp2_with fail
    go_ret
    exact ⟨rfl, hs6.below⟩
  · have hno := new_le_no n
    go_enter Try.func3, Try.ntmps3
    go_wp2_with fail
    refine (lalive_any w).mono ?_
    rintro e w1 ⟨rfl, hb⟩
    by_cases h1 : n < 0
    · go_wp2_with fail
      refine (hno w1 hn).mono ?_
      rintro e w2 ⟨rfl, rfl⟩
      go_wp2_with fail
      go_ret
      exact ⟨rfl, hb⟩
    · have h2 : (65536 : Int) < n := by omega
      go_wp2_with fail
      refine (hno w1 hn).mono ?_
      rintro e w2 ⟨rfl, rfl⟩
      go_wp2_with fail
      go_ret
      exact ⟨rfl, hb⟩
set_option maxRecDepth 100000 in
theorem lruns_walk (C : Nat) (hC : C ≤ 255) (a0 : Option Addr) (n0 cap : Nat) (hcap : n0 ≤ cap ∧ cap ≤ 9223372036854775807) (w : World) (hact : ActsAt w a0 n0) :
    Calls Try.prog 4 #[.int .u8 C, .slice a0 n0 cap] w fun e w' => e = .returned (.bool true) ∧ Below w.heap.size w w' := by
  obtain ⟨m, hm⟩ : ∃ m, m = C % 30 := ⟨_, rfl⟩
  have hm30 : m < 30 := by omega
  have q1 : Int.tmod (C : Int) 30 = (m : Int) := by rw [hm]; exact (Int.ofNat_tmod C 30).symm
  clear hm
  go_enter Try.func4, Try.ntmps4
  go_wp2_with fail
  refine (lalive_any w).mono ?_
  rintro e w1 ⟨rfl, hb⟩
  go_wp2_with fail
  refine (left_start m (by omega) ((Stage.start w).later hb)).mono ?_
  rintro e w2 ⟨p, c, rfl, hs⟩
  by_cases h60 : (60 : Int) < n0
  · go_wp2_with fail
    go_ret
    exact ⟨rfl, hs.below⟩
  · have hR := runs_one (runs_any (g := lg0) (left_nests p c) m (by omega) a0 n0 cap hcap hact hs)
    go_wp2_with fail
    refine hR.mono ?_
    rintro e w3 ⟨rfl, hb3⟩
    go_wp2_with fail
    go_ret
    exact ⟨rfl, hb3⟩
set_option maxRecDepth 100000 in
theorem llimits_walk (C : Nat) (hC : C ≤ 255) (a0 : Option Addr) (n0 cap : Nat) (hcap : n0 ≤ cap ∧ cap ≤ 9223372036854775807) (w : World) (hact : ActsAt w a0 n0) :
    Calls Try.prog 5 #[.int .u8 C, .slice a0 n0 cap] w fun e w' => e = .returned (.bool true) ∧ Below w.heap.size w w' := by
  obtain ⟨m, hm⟩ : ∃ m, m = C % 200 := ⟨_, rfl⟩
  have hm30 : m < 200 := by omega
  have q1 : Int.tmod (C : Int) 200 = (m : Int) := by rw [hm]; exact (Int.ofNat_tmod C 200).symm
  clear hm
  go_enter Try.func5, Try.ntmps5
  go_wp2_with fail
  refine (lalive_any w).mono ?_
  rintro e w1 ⟨rfl, hb⟩
  go_wp2_with fail
  refine (left_start m (by omega) ((Stage.start w).later hb)).mono ?_
  rintro e w2 ⟨p, c, rfl, hs⟩
  by_cases h60 : (300 : Int) < n0
  · go_wp2_with fail
    go_ret
    exact ⟨rfl, hs.below⟩
  · go_wp2_with fail
    refine (lconfig_any w2).mono ?_
    rintro e w3 ⟨rfl, hb2⟩
    have hs3 := hs.later hb2
    have hR := limits_num (g := lg0) (left_nests p c) 6 0 false (fun h => left_range h) (fun hf h => left_limit hf h) m (by omega) a0 n0 cap hcap hact hs3
    go_wp2_with fail
    refine hR.mono ?_
    rintro e w4 ⟨rfl, hb3⟩
    go_wp2_with fail
    go_ret
    exact ⟨rfl, hb3⟩
set_option maxRecDepth 100000 in
theorem lsorts_walk (L : List Int) (a0 : Option Addr) (cap : Nat) (hcap : L.length ≤ cap ∧ cap ≤ 9223372036854775807) (w : World) (hkey : IntsAt w .i64 a0 L) :
    Calls Try.prog 6 #[.slice a0 L.length cap] w fun e w' => e = .returned (.bool true) ∧ Below w.heap.size w w' := by
  by_cases h1 : L.length ≤ 65536
  · have hN := fun w1 (hb : Below w.heap.size w w1) => left_start L.length h1 ((Stage.start w).later hb)
    have hS := fun p c w2 (hs : Stage (fun _ => False) w ([] ++ [Ob.leftist p c (newW L.length) 0 (fun _ => .nil)]) w2) => sorts_one (sorts_any (g := lg0) (left_nests p c) L h1 a0 cap hcap hkey hs)
    clear hkey
    generalize L.length = n at *
    go_enter Try.func6, Try.ntmps6
    go_wp2_with fail
    refine (lalive_any w).mono ?_
    rintro e w1 ⟨rfl, hb⟩
    go_wp2_with fail
    refine (hN w1 hb).mono ?_
    rintro e w2 ⟨p, c, rfl, hs⟩
    have hR := hS p c w2 hs
    by_cases h2 : (200 : Int) < n
    · go_wp2_with fail
      go_ret
      exact ⟨rfl, hs.below⟩
    · go_wp2_with fail
      refine hR.mono ?_
      rintro e w3 ⟨rfl, hb3⟩
      go_wp2_with fail
      go_ret
      exact ⟨rfl, hb3⟩
  · have hno := new_le_no (L.length : Int)
    have h2 : (200 : Int) < L.length := by omega
    clear hkey
    generalize L.length = n at *
    go_enter Try.func6, Try.ntmps6
    go_wp2_with fail
    refine (lalive_any w).mono ?_
    rintro e w1 ⟨rfl, hb⟩
    go_wp2_with fail
    refine (hno w1 (by omega)).mono ?_
    rintro e w2 ⟨rfl, rfl⟩
    go_wp2_with fail
    go_ret
    exact ⟨rfl, hb⟩
set_option maxRecDepth 100000 in
theorem lmelds_walk (L : List Int) (a0 : Option Addr) (cap : Nat) (hcap : L.length ≤ cap ∧ cap ≤ 9223372036854775807) (hmin : ∀ n ∈ L, -9223372036854775808 ≤ n) (B : List Bool) (a1 : Option Addr) (cap1 : Nat) (hcap' : B.length ≤ cap1 ∧ cap1 ≤ 9223372036854775807) (low gone : Int) (hlow : inInt low) (hgone : inInt gone) (w : World) (hkey : IntsAt w .i64 a0 L) (hbool : BoolsAt w a1 B) :
    Calls Try.prog 7 #[.slice a0 L.length cap, .agg #[.slice a1 B.length cap1, .int .i64 low, .int .i64 gone]] w fun e w' => e = .returned (.bool true) ∧ Below w.heap.size w w' := by
  obtain ⟨w0, hw0, hs0⟩ : ∃ w0, w.alloc (.cells #[.slice a1 B.length cap1, .int .i64 low, .int .i64 gone] 53) = w0 ∧ Stage (fun _ => False) w [Ob.box w.heap.size #[.slice a1 B.length cap1, .int .i64 low, .int .i64 gone] 53] w0 := ⟨_, rfl, (Stage.start w).alloc _ _⟩
  by_cases h1 : L.length ≤ 65536
  · have hN := fun w1 (hb : Below w0.heap.size w0 w1) => left_start L.length h1 (hs0.later hb)
    have hS := fun p c w2 (hs : Stage (fun _ => False) w [Ob.leftist p c (newW L.length) 0 (fun _ => .nil)] w2) => halves_num (g := lg0) (left_nests p c) L h1 a0 cap hcap hmin B a1 cap1 hcap' low gone hlow hgone hkey hbool hs
    clear hkey hbool hmin hs0
    generalize L.length = n at *
    generalize B.length = m at *
    go_enter Try.func7, Try.ntmps7
    go_wp2_with fail
    refine (lalive_any w0).mono ?_
    rintro e w1 ⟨rfl, hb⟩
    clear hw0
    go_wp2_with fail
    refine (hN w1 hb).mono ?_
    rintro e w2 ⟨p, c, rfl, hs⟩
    have hR := hS p c w2 (hs.select [1] (by decide) rfl)
    by_cases h2 : (200 : Int) < n
    · go_wp2_with fail
      go_ret
      exact ⟨rfl, hs.below⟩
    · have c0 := hs.cell 0 rfl (o := 0) rfl
      have c1 := hs.cell 0 rfl (o := 1) rfl
      have c2 := hs.cell 0 rfl (o := 2) rfl
      go_wp2_with fail
      refine hR.mono ?_
      rintro e w3 ⟨rfl, hb3⟩
      go_wp2_with fail
      go_ret
      exact ⟨rfl, hb3⟩
  · have hno := new_le_no (L.length : Int)
    have h2 : (200 : Int) < L.length := by omega
    clear hkey hbool hmin
    generalize L.length = n at *
    generalize B.length = m at *
    go_enter Try.func7, Try.ntmps7
    go_wp2_with fail
    refine (lalive_any w0).mono ?_
    rintro e w1 ⟨rfl, hb⟩
    clear hw0
    go_wp2_with fail
    refine (hno w1 (by omega)).mono ?_
    rintro e w2 ⟨rfl, rfl⟩
    go_wp2_with fail
    go_ret
    exact ⟨rfl, (hs0.later hb).below⟩
end Go.Proofs.Ythjelmbicnbhiaa

namespace Go.Proofs.Ythjelmbicnbhiaa
open Go.RowKit Go.WideShapes Go.ChangeShapes Go.Deep

section
variable {H : Type} {enc : TypeId × Value → H} {P : Program} {w : World} {base : Nat} {spare : Nat → Bool} {held : Bool} {r : Reach} {b0 : Nat}
/-- A list of bools that comes in. -/
theorem open_bools' {t e : TypeId} {v : Value} {d : DataW H} {p : List MemPlace} (ht : P.underlying t = some (.slice e)) (he : P.underlying e = some .bool) (hc : P.cellsOf e = 1)
    (hv : Value.okWide P w r b0 t v) (h : DataW.Trod enc P w base (fun _ => true) held t v d p) :
    ∃ (a : Option Addr) (cap : Nat) (l : List Bool), v = .slice a l.length cap ∧ l.length ≤ cap ∧ cap ≤ 9223372036854775807 ∧ ∀ k, k < l.length → ∃ b off, a = some ⟨b, off, none⟩ ∧ w.cell? ⟨b, off + k, none⟩ = some (.bool (l.getD k false)) := by
  obtain ⟨a0, n0, c0, rfl⟩ := okWide_slice ht hv
  obtain ⟨fuel, hf⟩ := h
  rcases open_bools ht he hc hf with ⟨hcs, _⟩ | ⟨a, len, cap, B, hcs, _, hl, hm, _, hcell⟩
  · simp [Value.cells] at hcs
    obtain ⟨rfl, rfl, rfl⟩ := hcs
    exact ⟨none, 0, [], rfl, Nat.le_refl _, by omega, fun i hi => by simp at hi⟩
  · simp [Value.cells] at hcs
    obtain ⟨rfl, rfl, rfl⟩ := hcs
    have hlen : ((List.range n0).map B).length = n0 := by simp
    refine ⟨some a, c0, (List.range n0).map B, by rw [hlen], by rw [hlen]; exact hl, by unfold maxLen at hm; omega, fun i hi => ?_⟩
    rw [hlen] at hi
    have h := hcell i (by omega)
    obtain ⟨b, off, spot⟩ := a
    have hspot : spot = none := by simpa [Addr.add] using World.cell?_spot (hcell 0 (by omega))
    subst hspot
    refine ⟨b, off, rfl, ?_⟩
    rw [add_plain] at h
    rw [h]
    simp [List.getD, hi]
/-- A list of structs {int; struct {int; int}} that comes in. -/
theorem open_acts' {t e : TypeId} {f0 f1 g0 g1 : Field} {k0 k1 k2 : IntKind} {v : Value} {d : DataW H} {p : List MemPlace} (ht : P.underlying t = some (.slice e)) (he : P.underlying e = some (.struct #[f0, f1])) (hc : P.cellsOf e = 3)
    (h0 : P.underlying f0.type = some (.int k0)) (p0 : f0.offset = 0 ∧ P.cellsOf f0.type = 1) (h1 : P.underlying f1.type = some (.struct #[g0, g1])) (p1 : f1.offset = 1 ∧ P.cellsOf f1.type = 2)
    (u0 : P.underlying g0.type = some (.int k1)) (q0 : g0.offset = 0 ∧ P.cellsOf g0.type = 1) (u1 : P.underlying g1.type = some (.int k2)) (q1 : g1.offset = 1 ∧ P.cellsOf g1.type = 1)
    (hv : Value.okWide P w r b0 t v) (h : DataW.Trod enc P w base (fun _ => true) held t v d p) :
    ∃ (a : Option Addr) (cap n : Nat), v = .slice a n cap ∧ n ≤ cap ∧ cap ≤ 9223372036854775807 ∧ ∀ k, k < n → ∃ b off x y z, a = some ⟨b, off, none⟩ ∧ w.cell? ⟨b, off + k * 3, none⟩ = some (.int k0 x) ∧ w.cell? ⟨b, off + k * 3 + 1, none⟩ = some (.int k1 y) ∧ w.cell? ⟨b, off + k * 3 + 2, none⟩ = some (.int k2 z) ∧
      (k0.min ≤ x ∧ x ≤ k0.max) ∧ (k1.min ≤ y ∧ y ≤ k1.max) ∧ (k2.min ≤ z ∧ z ≤ k2.max) := by
  obtain ⟨a0, n0, c0, rfl⟩ := okWide_slice ht hv
  obtain ⟨fuel, hf⟩ := h
  rcases open_slice ht hf with ⟨hcs, _⟩ | ⟨a, len, cap, m, n, D, Pl, hcs, _, hl, hm, hmm, _, hi⟩
  · simp [Value.cells] at hcs
    obtain ⟨rfl, rfl, rfl⟩ := hcs
    exact ⟨none, 0, 0, rfl, Nat.le_refl _, by omega, fun i hi => by omega⟩
  · simp [Value.cells] at hcs
    obtain ⟨rfl, rfl, rfl⟩ := hcs
    simp only [if_true] at hmm
    subst hmm
    refine ⟨some a, m, n0, rfl, hl, by unfold maxLen at hm; omega, fun k hk => ?_⟩
    obtain ⟨cs', hcc, ht'⟩ := hi k (by omega)
    rw [hc] at hcc
    obtain ⟨_, hlen, hat⟩ := World.cells?_some hcc
    obtain ⟨ys, n', _, _, _, hyl, hff⟩ := DataW.trod_struct he ht'
    match cs', hlen with
    | [v0, v1, v2], _ =>
      have e0 := hff 0 f0 rfl
      have e1 := hff 1 f1 rfl
      rw [p0.1, p0.2] at e0
      rw [p1.1, p1.2] at e1
      match ys, hyl with
      | [y0, y1], _ =>
        simp only [List.drop_zero, List.take_succ_cons, List.take_zero, List.drop_succ_cons, List.getElem?_cons_zero, List.getElem?_cons_succ] at e0 e1
        obtain ⟨x, ex, _, wx⟩ := DataW.trod_int h0 e0
        obtain ⟨zs, n'', _, _, _, hzl, hgg⟩ := DataW.trod_struct h1 e1
        have z0 := hgg 0 g0 rfl
        have z1 := hgg 1 g1 rfl
        rw [q0.1, q0.2] at z0
        rw [q1.1, q1.2] at z1
        match zs, hzl with
        | [c0', c1'], _ =>
          simp only [List.drop_zero, List.take_succ_cons, List.take_zero, List.drop_succ_cons, List.getElem?_cons_zero, List.getElem?_cons_succ] at z0 z1
          obtain ⟨y, ey, _, wy⟩ := DataW.trod_int u0 z0
          obtain ⟨z, ez, _, wz⟩ := DataW.trod_int u1 z1
          simp only [List.cons.injEq, and_true] at ex ey ez
          subst ex ey ez
          simp [Lit.wf] at wx wy wz
          have a0 := hat 0 (by omega)
          have a1 := hat 1 (by omega)
          have a2 := hat 2 (by omega)
          obtain ⟨b, off, spot⟩ := a
          have hspot : spot = none := by
            obtain ⟨cs0, hc0, _⟩ := hi 0 (by omega)
            rw [hc] at hc0
            obtain ⟨_, hl0, hat0⟩ := World.cells?_some hc0
            match cs0, hl0 with
            | [w0, _, _], _ =>
              have h9 : w.cell? (((⟨b, off, spot⟩ : Addr).add (0 * 3)).add 0) = some w0 := hat0 0 (by omega)
              have := World.cell?_spot h9
              simpa [Addr.add] using this
          subst hspot
          rw [add_plain, add_plain] at a0 a1 a2
          exact ⟨b, off, x, y, z, rfl, a0, a1, a2, wx, wy, wz⟩
/-- A list of structs of three integers that comes in. -/
theorem open_triples' {t e : TypeId} {f0 f1 f2 : Field} {k0 k1 k2 : IntKind} {v : Value} {d : DataW H} {p : List MemPlace} (ht : P.underlying t = some (.slice e)) (he : P.underlying e = some (.struct #[f0, f1, f2])) (hc : P.cellsOf e = 3)
    (h0 : P.underlying f0.type = some (.int k0)) (p0 : f0.offset = 0 ∧ P.cellsOf f0.type = 1) (h1 : P.underlying f1.type = some (.int k1)) (p1 : f1.offset = 1 ∧ P.cellsOf f1.type = 1)
    (h2 : P.underlying f2.type = some (.int k2)) (p2 : f2.offset = 2 ∧ P.cellsOf f2.type = 1)
    (hv : Value.okWide P w r b0 t v) (h : DataW.Trod enc P w base (fun _ => true) held t v d p) :
    ∃ (a : Option Addr) (cap n : Nat), v = .slice a n cap ∧ n ≤ cap ∧ cap ≤ 9223372036854775807 ∧ ∀ k, k < n → ∃ b off x y z, a = some ⟨b, off, none⟩ ∧ w.cell? ⟨b, off + k * 3, none⟩ = some (.int k0 x) ∧ w.cell? ⟨b, off + k * 3 + 1, none⟩ = some (.int k1 y) ∧ w.cell? ⟨b, off + k * 3 + 2, none⟩ = some (.int k2 z) ∧
      (k0.min ≤ x ∧ x ≤ k0.max) ∧ (k1.min ≤ y ∧ y ≤ k1.max) ∧ (k2.min ≤ z ∧ z ≤ k2.max) := by
  obtain ⟨a0, n0, c0, rfl⟩ := okWide_slice ht hv
  obtain ⟨fuel, hf⟩ := h
  rcases open_slice ht hf with ⟨hcs, _⟩ | ⟨a, len, cap, m, n, D, Pl, hcs, _, hl, hm, hmm, _, hi⟩
  · simp [Value.cells] at hcs
    obtain ⟨rfl, rfl, rfl⟩ := hcs
    exact ⟨none, 0, 0, rfl, Nat.le_refl _, by omega, fun i hi => by omega⟩
  · simp [Value.cells] at hcs
    obtain ⟨rfl, rfl, rfl⟩ := hcs
    simp only [if_true] at hmm
    subst hmm
    refine ⟨some a, m, n0, rfl, hl, by unfold maxLen at hm; omega, fun k hk => ?_⟩
    obtain ⟨cs', hcc, ht'⟩ := hi k (by omega)
    rw [hc] at hcc
    obtain ⟨_, hlen, hat⟩ := World.cells?_some hcc
    obtain ⟨ys, n', _, _, _, hyl, hff⟩ := DataW.trod_struct he ht'
    match cs', hlen with
    | [v0, v1, v2], _ =>
      have e0 := hff 0 f0 rfl
      have e1 := hff 1 f1 rfl
      have e2 := hff 2 f2 rfl
      rw [p0.1, p0.2] at e0
      rw [p1.1, p1.2] at e1
      rw [p2.1, p2.2] at e2
      match ys, hyl with
      | [y0, y1, y2], _ =>
        simp only [List.drop_zero, List.take_succ_cons, List.take_zero, List.drop_succ_cons, List.getElem?_cons_zero, List.getElem?_cons_succ] at e0 e1 e2
        obtain ⟨x, ex, _, wx⟩ := DataW.trod_int h0 e0
        obtain ⟨y, ey, _, wy⟩ := DataW.trod_int h1 e1
        obtain ⟨z, ez, _, wz⟩ := DataW.trod_int h2 e2
        simp only [List.cons.injEq, and_true] at ex ey ez
        subst ex ey ez
        simp [Lit.wf] at wx wy wz
        have a0 := hat 0 (by omega)
        have a1 := hat 1 (by omega)
        have a2 := hat 2 (by omega)
        obtain ⟨b, off, spot⟩ := a
        have hspot : spot = none := by
          obtain ⟨cs0, hc0, _⟩ := hi 0 (by omega)
          rw [hc] at hc0
          obtain ⟨_, hl0, hat0⟩ := World.cells?_some hc0
          match cs0, hl0 with
          | [w0, _, _], _ =>
            have h9 : w.cell? (((⟨b, off, spot⟩ : Addr).add (0 * 3)).add 0) = some w0 := hat0 0 (by omega)
            have := World.cell?_spot h9
            simpa [Addr.add] using this
        subst hspot
        rw [add_plain, add_plain] at a0 a1 a2
        exact ⟨b, off, x, y, z, rfl, a0, a1, a2, wx, wy, wz⟩
end
end Go.Proofs.Ythjelmbicnbhiaa
