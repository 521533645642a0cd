/- Merged of PqAlive, PqNames, PqRef. -/
import Derived.Test.YtkcicnflcilekaaGreatShedHeapMath
import Derived.Test.YtkcicnflcilekaaGreatPqNew
import Derived.Test.YtkcicnflcilekaaGreatPqHeld
import Derived.Test.YtkcicnflcilekaaGreatStageAppend
namespace Go.Proofs.YtkcicnflcilekaaGreat
open Go.RowKit Go.Sort

def al1 : SS := mkS (openS 2 9)
def al2 : SS := insS al1 1 5
def al3 : SS := insS al2 1 5
theorem al_check (k : Nat) (h1 : 1 ≤ k) (h8 : k ≤ 8) : checkI k (if (k : Int) = 2 then 3 else 0) = 0 := by
  have h : k = 1 ∨ k = 2 ∨ k = 3 ∨ k = 4 ∨ k = 5 ∨ k = 6 ∨ k = 7 ∨ k = 8 := by omega
  rcases h with rfl | rfl | rfl | rfl | rfl | rfl | rfl | rfl <;> rfl
set_option maxRecDepth 100000 in
set_option maxHeartbeats 4000000 in
theorem alive_pq (w : World) : Calls Tryz.prog 11 #[] w fun e w' => e = .returned (.bool true) ∧ Below w.heap.size w w' := by
  go_enter Tryz.func11, Tryz.ntmps11
  go_wp2_with fail
  go_loopw [1] (fun i wr => ∃ k : Nat, i = .int .i64 k ∧ 1 ≤ k ∧ k ≤ 9 ∧ Below w.heap.size w wr) (fun i _ => 9 - (intOf i).toNat)
  case atStart => exact ⟨1, rfl, by omega, by omega, Below.refl _ _⟩
  case round =>
    obtain ⟨k, rfl, hk1, hk9, hb⟩ := hrel
    by_cases hlt : k ≤ 8
    · have hki : (k : Int) ≤ 8 := by omega
      have e4 : IntKind.i64.wrap ((k : Int) + 1) = (k : Int) + 1 := IntWalk.i64_in _ (by omega)
      obtain ⟨D, hD, hck⟩ : ∃ D : Int, Hid ((if (k : Int) = 2 then (3 : Int) else 0) = D) ∧ checkI k D = 0 := ⟨_, Lib.hid rfl, al_check k hk1 hlt⟩
      have hs := (Stage.start w).later hb
      clear hb
      go_upto_if 21 with fail
      go_cut [22] from 14 to 94 (fun _ wx => Stage (fun _ => False) w [Ob.box wr.heap.size #[.int .i64 k, .int .i64 D] 27] wx)
      case first =>
        clear hck
        by_cases e2 : (k : Int) = 2
        · have hs0 := hs.alloc #[.int .i64 k, .int .i64 0] 27
          have c1 := hs0.cell 0 rfl (o := 1) rfl
          have f1 := hs0.free 0 rfl 1
          obtain rfl : (3 : Int) = D := by rw [← hD.out, if_pos e2]
          have hs1 := hs.alloc #[.int .i64 k, .int .i64 3] 27
          have e2' : ((k : Int) == 2) = true := by simpa using e2
          clear e2
          go_wp2_with fail
          go_meet
          exact hs1
        · obtain rfl : (0 : Int) = D := by rw [← hD.out, if_neg e2]
          have hs1 := hs.alloc #[.int .i64 k, .int .i64 0] 27
          have e2' : ((k : Int) == 2) = false := by simpa using e2
          clear e2
          go_wp2_with fail
          go_meet
          exact hs1
      case rest =>
        clear hs hD
        have hs := hcut
        have c0 := hs.cell 0 rfl (o := 0) rfl
        have c1 := hs.cell 0 rfl (o := 1) rfl
        have hO : Calls Tryz.prog 10 #[.agg #[.int .i64 k, .int .i64 D], .int .i64 2, .int .u32 9] wc (OpenP wc k D 2 9) := open_pq k D 2 9 hck (by decide) (by decide) wc
        clear hck
        go_wp2_with fail
        refine hO.mono ?_
        rintro e w1 ⟨p, rfl, F', g1, g2, g3⟩
        have hs1 := hs.add g3 g1 g2
        clear hO g1 g2 g3 c0 c1 hcut hs
        have hC : Calls Tryz.prog 13 #[.pointer (some ⟨p, 0, none⟩)] w1 fun e w' => e = .returned (.tuple #[.int .i64 1, .int .i64 0]) ∧ Stage (fun _ => False) w [Ob.box wr.heap.size #[.int .i64 k, .int .i64 D] 27, Ob.store p k D false al1] w' := hs1.call 1 rfl fun _ ho => newheap_pq ho
        clear hs1
        go_wp2_with fail
        refine hC.mono ?_
        rintro e w2 ⟨rfl, hs1⟩
        clear hC
        have hC : Calls Tryz.prog 12 #[.pointer (some ⟨p, 0, none⟩), .int .i64 1, .int .i64 5] w2 fun e w' => e = .returned (.tuple #[.agg #[.int .i64 0, .int .u32 1], .int .i64 0]) ∧ Stage (fun _ => False) w [Ob.box wr.heap.size #[.int .i64 k, .int .i64 D] 27, Ob.store p k D false al2] w' := hs1.call 1 rfl fun _ ho => insert_pq 1 5 (by unfold inInt; decide) (by decide) ho
        clear hs1
        go_wp2_with fail
        refine hC.mono ?_
        rintro e w3 ⟨rfl, hs1⟩
        clear hC
        obtain ⟨w4, hw4, hs2⟩ : ∃ w4, w3.alloc (.cells #[.int .i64 0, .int .u32 1] 31) = w4 ∧ Stage (fun _ => False) w ([Ob.box wr.heap.size #[.int .i64 k, .int .i64 D] 27, Ob.store p k D false al2] ++ [Ob.box w3.heap.size #[.int .i64 0, .int .u32 1] 31]) w4 := ⟨_, rfl, hs1.alloc _ _⟩
        have hC : Calls Tryz.prog 12 #[.pointer (some ⟨p, 0, none⟩), .int .i64 1, .int .i64 5] w4 fun e w' => e = .returned (.tuple #[.agg #[.int .i64 1, .int .u32 1], .int .i64 0]) ∧ Stage (fun _ => False) w [Ob.box wr.heap.size #[.int .i64 k, .int .i64 D] 27, Ob.store p k D false al3, Ob.box w3.heap.size #[.int .i64 0, .int .u32 1] 31] w' := hs2.call 1 rfl fun _ ho => insert_pq 1 5 (by unfold inInt; decide) (by decide) ho
        clear hs1 hs2
        go_wp2_with fail
        refine hC.mono ?_
        rintro e w5 ⟨rfl, hs1⟩
        clear hC hw4
        obtain ⟨w6, hw6, hs2⟩ : ∃ w6, w5.alloc (.cells #[.int .i64 1, .int .u32 1] 31) = w6 ∧ Stage (fun _ => False) w ([Ob.box wr.heap.size #[.int .i64 k, .int .i64 D] 27, Ob.store p k D false al3, Ob.box w3.heap.size #[.int .i64 0, .int .u32 1] 31] ++ [Ob.box w5.heap.size #[.int .i64 1, .int .u32 1] 31]) w6 := ⟨_, rfl, hs1.alloc _ _⟩
        have hC : Calls Tryz.prog 14 #[.pointer (some ⟨p, 0, none⟩), .int .i64 1] w6 fun e w' => e = .returned (.tuple #[.agg #[.int .i64 0, .int .u32 1], .int .i64 5, .int .i64 0]) ∧ Stage (fun _ => False) w [Ob.box wr.heap.size #[.int .i64 k, .int .i64 D] 27, Ob.store p k D false al3, Ob.box w3.heap.size #[.int .i64 0, .int .u32 1] 31, Ob.box w5.heap.size #[.int .i64 1, .int .u32 1] 31] w' := hs2.call 1 rfl fun _ ho => min_pq 1 (by unfold inInt; decide) ho
        clear hs1 hs2
        go_wp2_with fail
        refine hC.mono ?_
        rintro e w7 ⟨rfl, hs1⟩
        clear hC hw6
        obtain ⟨w8, hw8, hs2⟩ : ∃ w8, w7.alloc (.cells #[.int .i64 0, .int .u32 1] 31) = w8 ∧ Stage (fun _ => False) w ([Ob.box wr.heap.size #[.int .i64 k, .int .i64 D] 27, Ob.store p k D false al3, Ob.box w3.heap.size #[.int .i64 0, .int .u32 1] 31, Ob.box w5.heap.size #[.int .i64 1, .int .u32 1] 31] ++ [Ob.box w7.heap.size #[.int .i64 0, .int .u32 1] 31]) w8 := ⟨_, rfl, hs1.alloc _ _⟩
        have x0 := hs2.cell 2 rfl (o := 0) rfl
        have x1 := hs2.cell 2 rfl (o := 1) rfl
        have y0 := hs2.cell 3 rfl (o := 0) rfl
        have y1 := hs2.cell 3 rfl (o := 1) rfl
        have z0 := hs2.cell 4 rfl (o := 0) rfl
        have z1 := hs2.cell 4 rfl (o := 1) rfl
        have hb := hs2.below
        clear hs1 hs2
        go_wp2_with fail
        go_roundw
        case rel => exact ⟨k + 1, by go_num, by omega, by omega, hb⟩
        case measure => simp [intOf]; omega
    · obtain rfl : k = 9 := by omega
      go_wp2_with fail
      go_ret
      exact ⟨rfl, hb⟩
end Go.Proofs.YtkcicnflcilekaaGreat

namespace Go.Proofs.YtkcicnflcilekaaGreat
open Go.RowKit Go.Sort

section
variable {w : World} {p : Nat} {k d : Int} {b : Bool} {S : SS} {F : Nat → Prop}
set_option maxRecDepth 100000 in
set_option maxHeartbeats 1000000 in
theorem meld_same (x : Int) (hxx : hasW S.W x = true) (ho : (Ob.store p k d b S).holds w F) : Calls Tryz.prog 15 #[.pointer (some ⟨p, 0, none⟩), .int .i64 x, .int .i64 x] w (StP p k d F w S (.int .i64 174)) := by
  have hF := (Ob.store p k d b S).lt ho
  obtain ⟨γ, O, st, H, T, v, f, a, u, N, ok, _, hg⟩ := ho
  have hs := Ob.group.open hg
  have hc := hs.askB 2 rfl fun _ ho => N.has x ho
  have m1 := (hs.get (i := 2) rfl).elim fun _ h => N.mHas.find _ (N.there h)
  have m2 := N.mHas.enter
  have p3 := hs.cell 0 rfl (o := 3) rfl
  clear hg hs
  rw [hxx] at hc
  go_enter Tryz.func15, Tryz.ntmps15
  go_wp2_with fail
  refine hc.mono ?_
  rintro e w1 ⟨rfl, hs⟩
  clear hc m1 p3
  have hc := hs.askB 2 rfl fun _ ho => N.has x ho
  have m1 := (hs.get (i := 2) rfl).elim fun _ h => N.mHas.find _ (N.there h)
  have p3 := hs.cell 0 rfl (o := 3) rfl
  rw [hxx] at hc
  clear hs hxx
  go_wp2_with fail
  refine hc.mono ?_
  rintro e w1 ⟨rfl, hs⟩
  go_wp2_with fail
  go_ret
  exact ⟨rfl, st_close hF N ok hs⟩
end
set_option maxRecDepth 100000 in
set_option maxHeartbeats 4000000 in
theorem names_walk (w : World) : Calls Tryz.prog 3 #[] w fun e w' => e = .returned (.bool true) ∧ Below w.heap.size w w' := by
  have hO : Calls Tryz.prog 10 #[.agg #[.int .i64 7, .int .i64 0], .int .i64 0, .int .u32 1] w (OpenP w 7 0 0 1) := open_pq 7 0 0 1 rfl (by decide) (by decide) w
  go_enter Tryz.func3, Tryz.ntmps3
  go_wp2_with fail
  refine hO.mono ?_
  rintro e w1 ⟨p, rfl, F', g1, g2, g3⟩
  have hs := (Stage.start w).add g3 g1 g2
  clear hO g1 g2 g3
  go_wp2_with fail
  refine (alive_pq w1).mono ?_
  rintro e w2 ⟨rfl, hb⟩
  have hs1 := hs.later hb
  clear hs hb
  have hC : Calls Tryz.prog 12 #[.pointer (some ⟨p, 0, none⟩), .int .i64 1, .int .i64 0] w2 fun e w' => e = .returned (.tuple #[.agg #[.int .i64 0, .int .u32 0], .int .i64 171]) ∧ Stage (fun _ => False) w [Ob.store p 7 0 false (openS 0 1)] w' := hs1.call 0 rfl fun _ ho => insert_pq 1 0 (by unfold inInt; decide) (by decide) ho
  clear hs1
  go_wp2_with fail
  refine hC.mono ?_
  rintro e w3 ⟨rfl, hs1⟩
  clear hC
  have hs2 := hs1.alloc #[.int .i64 0, .int .u32 0] 31
  have hC : Calls Tryz.prog 13 #[.pointer (some ⟨p, 0, none⟩)] (w3.alloc (.cells #[.int .i64 0, .int .u32 0] 31)) fun e w' => e = .returned (.tuple #[.int .i64 1, .int .i64 0]) ∧ Stage (fun _ => False) w [Ob.store p 7 0 false (mkS (openS 0 1)), Ob.box w3.heap.size #[.int .i64 0, .int .u32 0] 31] w' := hs2.call 0 rfl fun _ ho => newheap_pq ho
  clear hs1 hs2
  go_wp2_with fail
  refine hC.mono ?_
  rintro e w4 ⟨rfl, hs1⟩
  clear hC
  have hC : Calls Tryz.prog 12 #[.pointer (some ⟨p, 0, none⟩), .int .i64 1, .int .i64 0] w4 fun e w' => e = .returned (.tuple #[.agg #[.int .i64 0, .int .u32 0], .int .i64 32]) ∧ Stage (fun _ => False) w [Ob.store p 7 0 false (mkS (openS 0 1)), Ob.box w3.heap.size #[.int .i64 0, .int .u32 0] 31] w' := hs1.call 0 rfl fun _ ho => insert_pq 1 0 (by unfold inInt; decide) (by decide) ho
  clear hs1
  go_wp2_with fail
  refine hC.mono ?_
  rintro e w5 ⟨rfl, hs1⟩
  clear hC
  have hs2 := hs1.alloc #[.int .i64 0, .int .u32 0] 31
  have hC : Calls Tryz.prog 14 #[.pointer (some ⟨p, 0, none⟩), .int .i64 1] (w5.alloc (.cells #[.int .i64 0, .int .u32 0] 31)) fun e w' => e = .returned (.tuple #[.agg #[.int .i64 0, .int .u32 0], .int .i64 0, .int .i64 172]) ∧ Stage (fun _ => False) w [Ob.store p 7 0 false (mkS (openS 0 1)), Ob.box w3.heap.size #[.int .i64 0, .int .u32 0] 31, Ob.box w5.heap.size #[.int .i64 0, .int .u32 0] 31] w' := hs2.call 0 rfl fun _ ho => min_pq 1 (by unfold inInt; decide) ho
  clear hs1 hs2
  go_wp2_with fail
  refine hC.mono ?_
  rintro e w6 ⟨rfl, hs1⟩
  clear hC
  have hs2 := hs1.alloc #[.int .i64 0, .int .u32 0] 31
  have hC : Calls Tryz.prog 15 #[.pointer (some ⟨p, 0, none⟩), .int .i64 1, .int .i64 1] (w6.alloc (.cells #[.int .i64 0, .int .u32 0] 31)) fun e w' => e = .returned (.int .i64 174) ∧ Stage (fun _ => False) w [Ob.store p 7 0 false (mkS (openS 0 1)), Ob.box w3.heap.size #[.int .i64 0, .int .u32 0] 31, Ob.box w5.heap.size #[.int .i64 0, .int .u32 0] 31, Ob.box w6.heap.size #[.int .i64 0, .int .u32 0] 31] w' := hs2.call 0 rfl fun _ ho => meld_same 1 rfl ho
  clear hs1 hs2
  go_wp2_with fail
  refine hC.mono ?_
  rintro e w7 ⟨rfl, hs1⟩
  clear hC
  have hb := hs1.below
  clear hs1
  go_wp2_with fail
  go_ret
  exact ⟨rfl, hb⟩
end Go.Proofs.YtkcicnflcilekaaGreat

namespace Go.Proofs.YtkcicnflcilekaaGreat
open Go.RowKit Go.Sort

theorem nest_forms {w : World} {hv cv : Value} {W : WS} (h : NestAt w hv cv W) : ∃ a n c a' n' c', hv = .slice a n c ∧ cv = .slice a' n' c' := by
  obtain ⟨a, c, h1, _, _⟩ := h.hform
  obtain ⟨a', c', h2, _, _⟩ := h.cform
  exact ⟨_, _, _, _, _, _, h1, h2⟩
theorem refnew_none (n m : Int) (w : World) (hn : ¬ (0 ≤ n ∧ n ≤ 65536 ∧ m ≠ 0)) :
    Calls Tryz.prog 38 #[.int .i64 n, .int .u32 m] w fun e w' => e = .returned (.tuple #[.agg #[.int .i64 0, .int .u32 0, .slice none 0 0, .slice none 0 0], .int .i64 31]) ∧ Below w.heap.size w w' := by
  by_cases h1 : n < 0
  · clear hn
    go_enter Tryz.func38, Tryz.ntmps38
    go_wp2
    exact bodyPost_ret (v := .tuple #[.agg #[.int .i64 0, .int .u32 0, .slice none 0 0, .slice none 0 0], .int .i64 31]) (by simp [results, Tryz.results38, go_sem]) rfl ⟨rfl, (Below.refl _ _).alloc (Nat.le_refl _) _⟩
  · by_cases h2 : 65536 < n
    · clear hn
      go_enter Tryz.func38, Tryz.ntmps38
      go_wp2
      exact bodyPost_ret (v := .tuple #[.agg #[.int .i64 0, .int .u32 0, .slice none 0 0, .slice none 0 0], .int .i64 31]) (by simp [results, Tryz.results38, go_sem]) rfl ⟨rfl, (Below.refl _ _).alloc (Nat.le_refl _) _⟩
    · obtain rfl : m = 0 := Classical.byContradiction fun hm => hn ⟨by omega, by omega, hm⟩
      clear hn
      go_enter Tryz.func38, Tryz.ntmps38
      go_wp2
      exact bodyPost_ret (v := .tuple #[.agg #[.int .i64 0, .int .u32 0, .slice none 0 0, .slice none 0 0], .int .i64 31]) (by simp [results, Tryz.results38, go_sem]) rfl ⟨rfl, (Below.refl _ _).alloc (Nat.le_refl _) _⟩
theorem refnew_ok (n m : Nat) (w : World) (hn : n ≤ 65536) (hm : 1 ≤ m) :
    Calls Tryz.prog 38 #[.int .i64 n, .int .u32 m] w fun e w' => e = .returned (.tuple #[.agg #[.int .i64 n, .int .u32 m, .slice none 0 0, .slice none 0 0], .int .i64 0]) ∧ Below w.heap.size w w' := by
  have hm0 : ((m : Int) == 0) = false := by simp; omega
  go_enter Tryz.func38, Tryz.ntmps38
  go_wp2
  exact bodyPost_ret (v := .tuple #[.agg #[.int .i64 n, .int .u32 m, .slice none 0 0, .slice none 0 0], .int .i64 0]) (by simp [results, Tryz.results38, go_sem]) rfl ⟨rfl, (Below.refl _ _).alloc (Nat.le_refl _) _⟩
/-- The document's store, as it lies in memory. -/
def dsL (n m : Int) (t g hv cv : Value) (q : Int) : Array Value := #[.int .i64 n, .int .u32 m, t, g, hv, cv, .int .u64 q]
def nilS : Value := .slice none 0 0
def RefNo (w : World) (c : Int) (e : Ending) (w' : World) : Prop := e = .returned (.tuple #[.agg (dsL 0 0 nilS nilS nilS nilS 0), .int .i64 c]) ∧ Below w.heap.size w w'
set_option maxHeartbeats 2000000 in
set_option maxRecDepth 100000 in
theorem refopen_no (k d n m : Int) (h : openE k d n m ≠ 0) (w : World) : Calls Tryz.prog 16 #[.agg #[.int .i64 k, .int .i64 d], .int .i64 n, .int .u32 m] w (RefNo w (openE k d n m)) := by
  obtain ⟨w0, hw0, hs⟩ : ∃ w0, w.alloc (.cells #[.int .i64 k, .int .i64 d] 27) = w0 ∧ Stage (fun _ => False) w ([] ++ [Ob.box w.heap.size #[.int .i64 k, .int .i64 d] 27]) w0 := ⟨_, rfl, (Stage.start w).alloc _ _⟩
  have hz : w0.heap.size = w.heap.size + 1 := by rw [← hw0, size_alloc]
  replace hs := hs.alloc' #[.int .i64 0, .int .u32 0, .slice none 0 0, .slice none 0 0, .slice none 0 0, .slice none 0 0, .int .u64 0] 48 hz
  have h0 := hs.cell 0 rfl (o := 0) rfl
  have h1 := hs.cell 0 rfl (o := 1) rfl
  have hC := refCheck_any k d (w0.alloc (.cells #[.int .i64 0, .int .u32 0, .slice none 0 0, .slice none 0 0, .slice none 0 0, .slice none 0 0, .int .u64 0] 48))
  unfold openE at *
  by_cases e : checkI k d = 0
  · rw [if_pos e] at h ⊢
    rw [e] at hC
    have e2 : ¬ (0 ≤ n ∧ n ≤ 65536 ∧ m ≠ 0) := fun e2 => h (if_pos e2)
    rw [if_neg e2]
    clear h e
    go_enter Tryz.func16, Tryz.ntmps16
    go_wp2_with fail
    refine hC.mono ?_
    rintro e w1 ⟨rfl, hb⟩
    have hN := refnew_none n m w1 e2
    have hs1 := hs.later hb
    clear hC h0 h1 hw0 e2 hs
    go_wp2_with fail
    refine hN.mono ?_
    rintro e w2 ⟨rfl, hb2⟩
    have hs2 := (hs1.later hb2).alloc #[.int .i64 0, .int .u32 0, .slice none 0 0, .slice none 0 0] 41
    clear hN hs1
    have y0 := hs2.cell 1 rfl (o := 0) rfl
    have f0 := hs2.free 1 rfl 0
    have y1 := hs2.cell 1 rfl (o := 1) rfl
    have f1 := hs2.free 1 rfl 1
    have y2 := hs2.cell 1 rfl (o := 2) rfl
    have f2 := hs2.free 1 rfl 2
    have y3 := hs2.cell 1 rfl (o := 3) rfl
    have f3 := hs2.free 1 rfl 3
    have y4 := hs2.cell 1 rfl (o := 4) rfl
    have f4 := hs2.free 1 rfl 4
    have y5 := hs2.cell 1 rfl (o := 5) rfl
    have f5 := hs2.free 1 rfl 5
    have y6 := hs2.cell 1 rfl (o := 6) rfl
    have f6 := hs2.free 1 rfl 6
    have hs9 := ((((((hs2.store 1 rfl 0 (.int .i64 0)).store 1 rfl 1 (.int .u32 0)).store 1 rfl 2 (.slice none 0 0)).store 1 rfl 3 (.slice none 0 0)).store 1 rfl 4 (.slice none 0 0)).store 1 rfl 5 (.slice none 0 0)).store 1 rfl 6 (.int .u64 0)
    have z0 := hs9.cell 1 rfl (o := 0) rfl
    have z1 := hs9.cell 1 rfl (o := 1) rfl
    have z2 := hs9.cell 1 rfl (o := 2) rfl
    have z3 := hs9.cell 1 rfl (o := 3) rfl
    have z4 := hs9.cell 1 rfl (o := 4) rfl
    have z5 := hs9.cell 1 rfl (o := 5) rfl
    have z6 := hs9.cell 1 rfl (o := 6) rfl
    clear hs2
    go_wp2_with fail
    exact bodyPost_ret (v := .tuple #[.agg #[.int .i64 0, .int .u32 0, .slice none 0 0, .slice none 0 0, .slice none 0 0, .slice none 0 0, .int .u64 0], .int .i64 31]) (by simp [results, Tryz.results16, go_sem, z0, z1, z2, z3, z4, z5, z6]) rfl ⟨rfl, hs9.below⟩
  · rw [if_neg e]
    have e' : (checkI k d == 0) = false := by simpa using e
    have e'' : (checkI k d != 0) = true := by simpa using e
    clear h e
    generalize checkI k d = C at *
    go_enter Tryz.func16, Tryz.ntmps16
    go_wp2_with fail
    refine hC.mono ?_
    rintro e w1 ⟨rfl, hb⟩
    have hs1 := hs.later hb
    clear hC h0 h1 hw0 hs
    have y0 := hs1.cell 1 rfl (o := 0) rfl
    have f0 := hs1.free 1 rfl 0
    have y1 := hs1.cell 1 rfl (o := 1) rfl
    have f1 := hs1.free 1 rfl 1
    have y2 := hs1.cell 1 rfl (o := 2) rfl
    have f2 := hs1.free 1 rfl 2
    have y3 := hs1.cell 1 rfl (o := 3) rfl
    have f3 := hs1.free 1 rfl 3
    have y4 := hs1.cell 1 rfl (o := 4) rfl
    have f4 := hs1.free 1 rfl 4
    have y5 := hs1.cell 1 rfl (o := 5) rfl
    have f5 := hs1.free 1 rfl 5
    have y6 := hs1.cell 1 rfl (o := 6) rfl
    have f6 := hs1.free 1 rfl 6
    have hs9 := ((((((hs1.store 1 rfl 0 (.int .i64 0)).store 1 rfl 1 (.int .u32 0)).store 1 rfl 2 (.slice none 0 0)).store 1 rfl 3 (.slice none 0 0)).store 1 rfl 4 (.slice none 0 0)).store 1 rfl 5 (.slice none 0 0)).store 1 rfl 6 (.int .u64 0)
    have z0 := hs9.cell 1 rfl (o := 0) rfl
    have z1 := hs9.cell 1 rfl (o := 1) rfl
    have z2 := hs9.cell 1 rfl (o := 2) rfl
    have z3 := hs9.cell 1 rfl (o := 3) rfl
    have z4 := hs9.cell 1 rfl (o := 4) rfl
    have z5 := hs9.cell 1 rfl (o := 5) rfl
    have z6 := hs9.cell 1 rfl (o := 6) rfl
    clear hs1
    go_wp2_with fail
    exact bodyPost_ret (v := .tuple #[.agg #[.int .i64 0, .int .u32 0, .slice none 0 0, .slice none 0 0, .slice none 0 0, .slice none 0 0, .int .u64 0], .int .i64 C]) (by simp [results, Tryz.results16, go_sem, z0, z1, z2, z3, z4, z5, z6]) rfl ⟨rfl, hs9.below⟩
/-- The document's store is there. -/
def RefP (w : World) (n m : Nat) (e : Ending) (w' : World) : Prop := ∃ hv cv, e = .returned (.tuple #[.agg (dsL n m nilS nilS hv cv 0), .int .i64 0]) ∧ Stage (fun _ => False) w [Ob.nest hv cv (newW n)] w'
set_option maxHeartbeats 16000000 in
set_option maxRecDepth 100000 in
theorem refopen_pq (k d : Int) (n m : Nat) (hk : checkI k d = 0) (hn : n ≤ 65536) (hm : 1 ≤ m) (w : World) : Calls Tryz.prog 16 #[.agg #[.int .i64 k, .int .i64 d], .int .i64 n, .int .u32 m] w (RefP w n m) := by
  obtain ⟨w0, hw0, hs⟩ : ∃ w0, w.alloc (.cells #[.int .i64 k, .int .i64 d] 27) = w0 ∧ Stage (fun _ => False) w ([] ++ [Ob.box w.heap.size #[.int .i64 k, .int .i64 d] 27]) w0 := ⟨_, rfl, (Stage.start w).alloc _ _⟩
  have hz : w0.heap.size = w.heap.size + 1 := by rw [← hw0, size_alloc]
  replace hs := hs.alloc' #[.int .i64 0, .int .u32 0, .slice none 0 0, .slice none 0 0, .slice none 0 0, .slice none 0 0, .int .u64 0] 48 hz
  have h0 := hs.cell 0 rfl (o := 0) rfl
  have h1 := hs.cell 0 rfl (o := 1) rfl
  have hC := refCheck_any k d (w0.alloc (.cells #[.int .i64 0, .int .u32 0, .slice none 0 0, .slice none 0 0, .slice none 0 0, .slice none 0 0, .int .u64 0] 48))
  rw [hk] at hC
  clear hk
  go_enter Tryz.func16, Tryz.ntmps16
  go_wp2_with fail
  refine hC.mono ?_
  rintro e w1 ⟨rfl, hb⟩
  have hN := refnew_ok n m w1 hn hm
  have hs1 := hs.later hb
  clear hC h0 h1 hw0 hs hb
  go_wp2_with fail
  refine hN.mono ?_
  rintro e w2 ⟨rfl, hb2⟩
  have hs3 := (hs1.later hb2).alloc #[.int .i64 0, .int .u32 0, .slice none 0 0, .slice none 0 0] 41
  have b0 := hs3.cell 2 rfl (o := 0) rfl
  have b1 := hs3.cell 2 rfl (o := 1) rfl
  have b2 := hs3.cell 2 rfl (o := 2) rfl
  have b3 := hs3.cell 2 rfl (o := 3) rfl
  have g0 := hs3.free 2 rfl 0
  have g1 := hs3.free 2 rfl 1
  have g2 := hs3.free 2 rfl 2
  have g3 := hs3.free 2 rfl 3
  go_wp2_with fail
  replace hs3 : Stage (fun _ => False) w [Ob.box w.heap.size #[.int .i64 k, .int .i64 d] 27, Ob.box (w.heap.size + 1) #[.int .i64 0, .int .u32 0, .slice none 0 0, .slice none 0 0, .slice none 0 0, .slice none 0 0, .int .u64 0] 48, Ob.box w2.heap.size #[.int .i64 n, .int .u32 m, .slice none 0 0, .slice none 0 0] 41] (w2.alloc (.cells #[.int .i64 n, .int .u32 m, .slice none 0 0, .slice none 0 0] 41)) := (hs1.later hb2).alloc _ _
  clear b0 b1 b2 b3 g0 g1 g2 g3 hN hs1 hb2 hz hm
  generalize w2.alloc (.cells #[.int .i64 n, .int .u32 m, .slice none 0 0, .slice none 0 0] 41) = w3 at *
  generalize w2.heap.size = E2 at *
  have hR := refnew_any n hn w3.drew
  have hCK : ∀ {q : List Ob} {V : World} {x : Ob}, Stage (fun _ => False) w (Ob.box w.heap.size #[.int .i64 k, .int .i64 d] 27 :: x :: Ob.box E2 #[.int .i64 n, .int .u32 m, .slice none 0 0, .slice none 0 0] 41 :: q) V → V.cell? ⟨E2, 0, none⟩ = some (.int .i64 n) ∧ V.cell? ⟨E2, 1, none⟩ = some (.int .u32 m) ∧ V.cell? ⟨E2, 2, none⟩ = some (.slice none 0 0) ∧ V.cell? ⟨E2, 3, none⟩ = some (.slice none 0 0) := fun h => ⟨h.cell 2 rfl rfl, h.cell 2 rfl rfl, h.cell 2 rfl rfl, h.cell 2 rfl rfl⟩
  have q0 := hCK hs3
  have q1 := hCK hs3.drew
  go_region_held3 (fun w' => w'.cell? ⟨E2, 0, none⟩ = some (.int .i64 n) ∧ w'.cell? ⟨E2, 1, none⟩ = some (.int .u32 m) ∧ w'.cell? ⟨E2, 2, none⟩ = some (.slice none 0 0) ∧ w'.cell? ⟨E2, 3, none⟩ = some (.slice none 0 0)) (with_reducible first | exact q0 | exact q1 | exact pk | exact pk9)
    (((with_reducible refine hR.mono ?_); rintro e w4 ⟨hv, cv, rfl, hb, hN, hF⟩; obtain ⟨a, l, c, a', l', c', rfl, rfl⟩ := nest_forms hN; have hs4 := hs3.drew.add (O := Ob.nest (.slice a l c) (.slice a' l' c') (newW n)) (F' := nestF (.slice a l c) (.slice a' l' c')) hb ⟨hN, rfl⟩ hF; clear hN hF hb; have pk := hCK hs4; have hs9 : Stage (fun _ => False) w [Ob.box w.heap.size #[.int .i64 k, .int .i64 d] 27, Ob.box (w.heap.size + 1) #[.int .i64 n, .int .u32 m, .slice none 0 0, .slice none 0 0, .slice a l c, .slice a' l' c', .int .u64 0] 48, Ob.box E2 #[.int .i64 n, .int .u32 m, .slice none 0 0, .slice none 0 0] 41, Ob.nest (.slice a l c) (.slice a' l' c') (newW n)] _ := ((((((hs4.store 1 rfl 0 (.int .i64 n)).store 1 rfl 1 (.int .u32 m)).store 1 rfl 2 (.slice none 0 0)).store 1 rfl 3 (.slice none 0 0)).store 1 rfl 4 (.slice a l c)).store 1 rfl 5 (.slice a' l' c')).store 1 rfl 6 (.int .u64 0); have pk9 := hCK hs9; have y0 := hs4.cell 1 rfl (o := 0) rfl; have f0 := hs4.free 1 rfl 0; have y1 := hs4.cell 1 rfl (o := 1) rfl; have f1 := hs4.free 1 rfl 1; have y2 := hs4.cell 1 rfl (o := 2) rfl; have f2 := hs4.free 1 rfl 2; have y3 := hs4.cell 1 rfl (o := 3) rfl; have f3 := hs4.free 1 rfl 3; have y4 := hs4.cell 1 rfl (o := 4) rfl; have f4 := hs4.free 1 rfl 4; have y5 := hs4.cell 1 rfl (o := 5) rfl; have f5 := hs4.free 1 rfl 5; have y6 := hs4.cell 1 rfl (o := 6) rfl; have f6 := hs4.free 1 rfl 6))
  have z0 := hs9.cell 1 rfl (o := 0) rfl
  have z1 := hs9.cell 1 rfl (o := 1) rfl
  have z2 := hs9.cell 1 rfl (o := 2) rfl
  have z3 := hs9.cell 1 rfl (o := 3) rfl
  have z4 := hs9.cell 1 rfl (o := 4) rfl
  have z5 := hs9.cell 1 rfl (o := 5) rfl
  have z6 := hs9.cell 1 rfl (o := 6) rfl
  go_wp2_with fail
  clear pk pk9 y0 y1 y2 y3 y4 y5 y6 f0 f1 f2 f3 f4 f5 f6 q0 q1 hR hs3 hs4
  exact bodyPost_ret (v := .tuple #[.agg #[.int .i64 n, .int .u32 m, .slice none 0 0, .slice none 0 0, .slice a l c, .slice a' l' c', .int .u64 0], .int .i64 0]) (by simp [results, Tryz.results16, go_sem, z0, z1, z2, z3, z4, z5, z6]) rfl ⟨_, _, rfl, hs9.select [3] (by decide) rfl⟩
end Go.Proofs.YtkcicnflcilekaaGreat
