/- Merged of Arena3, Arena4, Arena5, Arena6, Box, Arena7, Scene, Append. -/
import Derived.Test.YtkcicnflcilekaaGreatArena2
import Derived.Deep.AppendLies
import Derived.Deep.RegionLaw
import Derived.Maps.AppendAt
namespace Go.Proofs.YtkcicnflcilekaaGreat
open Go.RowKit Go.Sort

def Hnd (s : Int) (g : Int) : Value := .agg #[.int .i64 s, .int .u32 g]
/-- At's answer. -/
def atV (A : AS) (s : Int) : Value :=
  if hasBAr s A.used.length && (A.used.getD s.toNat (0, false)).2 then .tuple #[Hnd s (A.used.getD s.toNat (0, false)).1, .bool true] else .tuple #[Hnd 0 0, .bool false]
theorem at_any (B p : Nat) (uv wv : Value) (A : AS) (hA : A.Fit) (s : Int) (w : World) (h : ArAt w B p uv wv A) :
    Calls Tryz.prog 37 #[.pointer (some ⟨p, 0, none⟩), .int .i64 s] w fun e w' => e = .returned (atV A s) ∧ Below w.heap.size w w' := by
  have c2 := h.c2
  have hp := blk_lt h.blk
  cases hh : hasBAr s A.used.length
  · obtain ⟨a, c, rfl, hc, hm⟩ := owns_form h.used
    have hl : atV A s = .tuple #[.agg #[.int .i64 0, .int .u32 0], .bool false] := by simp [atV, hh, Hnd]
    rw [hl]
    have HH := Lib.hid hh
    clear hh hl
    go_enter Tryz.func37, Tryz.ntmps37
    go_wp2_with fail
    refine (has_atAr (h.alloc _) s).mono ?_
    rintro e w' ⟨rfl, rfl⟩
    rw [HH.out]
    go_wp2
    exact bodyPost_ret (v := .tuple #[.agg #[.int .i64 0, .int .u32 0], .bool false]) (by simp [results, Tryz.results37, go_sem]) rfl ⟨rfl, (Below.refl _ _).alloc (Nat.le_refl _) _⟩
  · have hi : s.toNat < A.used.length := by simp [hasBAr] at hh; omega
    obtain ⟨i, rfl⟩ : ∃ i : Nat, s = i := ⟨s.toNat, by simp [hasBAr] at hh; omega⟩
    simp only [Int.toNat_natCast] at hi
    have hcap := hA.used
    have hcap2 := hA.cap
    obtain ⟨b, c, hv, hc, hm, _, hb, hcell⟩ := owns_slice h.used (by omega)
    subst hv
    have hg := cellsU_get A.used i hi
    have a0 := hcell _ _ hg.1
    have a1 := hcell _ _ hg.2
    have HH := Lib.hid hh
    have HL : Hid (atV A i = if (A.used.getD i (0, false)).2 then .tuple #[Hnd i (A.used.getD i (0, false)).1, .bool true] else .tuple #[Hnd 0 0, .bool false]) := Lib.hid (by simp [atV, hh])
    generalize atV A i = lb at *
    clear hh hcell hg
    generalize (A.used.getD i (0, false)).1 = x at *
    generalize (A.used.getD i (0, false)).2 = y at *
    cases y
    · obtain rfl : lb = .tuple #[.agg #[.int .i64 0, .int .u32 0], .bool false] := HL.out
      go_enter Tryz.func37, Tryz.ntmps37
      go_wp2_with fail
      refine (has_atAr (h.alloc _) i).mono ?_
      rintro e w' ⟨rfl, rfl⟩
      rw [HH.out]
      go_wp2
      exact bodyPost_ret (v := .tuple #[.agg #[.int .i64 0, .int .u32 0], .bool false]) (by simp [results, Tryz.results37, go_sem]) rfl ⟨rfl, (Below.refl _ _).alloc (Nat.le_refl _) _⟩
    · obtain rfl : lb = .tuple #[.agg #[.int .i64 i, .int .u32 x], .bool true] := HL.out
      go_enter Tryz.func37, Tryz.ntmps37
      go_wp2_with fail
      refine (has_atAr (h.alloc _) i).mono ?_
      rintro e w' ⟨rfl, rfl⟩
      rw [HH.out]
      go_wp2
      exact bodyPost_ret (v := .tuple #[.agg #[.int .i64 i, .int .u32 x], .bool true]) (by simp [results, Tryz.results37, go_sem]) rfl ⟨rfl, (Below.refl _ _).alloc (Nat.le_refl _) _⟩
theorem new_any (n m : Int) (w : World) (hn : ¬ (0 ≤ n ∧ n ≤ 65536 ∧ m ≠ 0)) :
    Calls Tryz.prog 34 #[.int .i64 n, .int .u32 m] w fun e w' => e = .returned (.tuple #[.pointer none, .int .i64 31]) ∧ w = w' := by
  go_enter Tryz.func34, Tryz.ntmps34
  go_wp2
  all_goals first
  | (go_ret2; exact ⟨rfl, rfl⟩)
  | (exfalso; apply hn; simp_all; try omega)
theorem new_ok (B n m : Nat) (w : World) (hn : n ≤ 65536) (hm : 1 ≤ m ∧ m ≤ 4294967295) (hB : B ≤ w.heap.size) :
    Calls Tryz.prog 34 #[.int .i64 n, .int .u32 m] w fun e w' => e = .returned (.tuple #[.pointer (some ⟨w.heap.size, 0, none⟩), .int .i64 0]) ∧ ArAt w' B w.heap.size (.slice none 0 0) (.slice none 0 0) ⟨n, m, [], [], 0⟩ ∧ Below w.heap.size w w' := by
  obtain ⟨hm1, hm2⟩ := hm
  have hm0 : ((m : Int) == 0) = false := by simp; omega
  go_enter Tryz.func34, Tryz.ntmps34
  go_wp2
  go_ret2
  refine ⟨rfl, ⟨?_, World.ownsRow_nil _ _ _ _, World.ownsRow_nil _ _ _ _, hB, by simp [rowF, Value.ownBlock], by simp [rowF, Value.ownBlock]⟩, (Below.refl _ _).alloc (Nat.le_refl _) _⟩
  exact blk_new w _ _
end Go.Proofs.YtkcicnflcilekaaGreat

namespace Go.Proofs.YtkcicnflcilekaaGreat
open Go.RowKit Go.Sort

def NextPost (w : World) (B p : Nat) (F : Nat → Prop) (i : Nat) (A' : AS) (e : Ending) (w' : World) : Prop :=
  e = .returned (.tuple #[.int .i64 i, .bool true]) ∧ ∃ uv wv, ArAt w' B p uv wv A' ∧ Moved F (arF p uv wv) w w'

theorem next_wait (B p : Nat) (uv wv : Value) (A : AS) (ws : List Nat) (i : Nat) (hw : A.waiting = ws ++ [i]) (hA : A.Fit) (w : World) (h : ArAt w B p uv wv A) :
    Calls Tryz.prog 73 #[.pointer (some ⟨p, 0, none⟩)] w (NextPost w B p (arF p uv wv) i ⟨A.cap, A.most, A.used, ws, A.live⟩) := by
  obtain ⟨cap, most, used, waiting, live⟩ := A
  simp only at hw
  subst hw
  have hcap := hA.cap
  have hus := hA.used
  have hwt := hA.wait
  simp only [List.length_append, List.length_cons, List.length_nil, Nat.zero_add] at hcap hus hwt
  obtain ⟨g, c, hv, hc, hm, hg, hgl, hcell⟩ := owns_slice h.wait (by simp)
  simp only [List.length_append, List.length_cons, List.length_nil, Nat.zero_add] at hv hc
  subst hv
  have c3 := h.c3
  have f3 := h.free 3
  have ci : w.cell? ⟨g, ws.length, none⟩ = some (.int .i64 i) := hcell _ _ (by simp [cellsNAr])
  have hgp : g ≠ p := h.apart' g (by simp [rowF, Value.ownBlock])
  have hlen : ws.length ≤ 65536 := by omega
  have hpop : w.ownsRow B 3 1 (.slice (some ⟨g, 0, none⟩) ws.length c) ws.length (cellsNAr ws) := by
    have := h.wait
    simp only [List.length_append, List.length_cons, List.length_nil, Nat.zero_add, cellsNAr, List.map_append] at this
    exact ownsRow_pop (by simp [cellsNAr]) this
  unfold maxLen at hm
  clear hcell
  go_enter Tryz.func73, Tryz.ntmps73
  go_wp2
  go_ret2
  refine ⟨rfl, uv, .slice (some ⟨g, 0, none⟩) ws.length c, ⟨blk_set h.blk 3 _, owns_set_other (a := ⟨p, 3, none⟩) h.used (fun e => (h.apart p e).1 rfl) _, owns_set_other (a := ⟨p, 3, none⟩) hpop (fun e => hgp (by simpa [Value.ownBlock] using e)) _, h.base, fun k hk => ?_, fun k hk => ?_⟩, Keeps.setCell (Keeps.refl _ _) _ (Or.inl (Or.inl rfl)) _, fun k hk => Or.inl hk⟩
  · exact h.apart k hk
  · exact h.apart' k hk

theorem next_none (B p : Nat) (uv wv : Value) (A : AS) (hw : A.waiting = []) (hn : A.used.length = A.cap) (hA : A.Fit) (w : World) (h : ArAt w B p uv wv A) :
    Calls Tryz.prog 73 #[.pointer (some ⟨p, 0, none⟩)] w fun e w' => e = .returned (.tuple #[.int .i64 0, .bool false]) ∧ Below w.heap.size w w' := by
  obtain ⟨cap, most, used, waiting, live⟩ := A
  simp only at hw hn
  subst hw hn
  have hcap := hA.cap
  obtain ⟨a1, k1, rfl, hk1, hm1⟩ := owns_form h.wait
  obtain ⟨a2, k2, rfl, hk2, hm2⟩ := owns_form h.used
  have c0 := h.c0
  have c2 := h.c2
  have c3 := h.c3
  simp only [List.length_nil] at hk1 hk2 c0 c2 c3 hcap
  go_enter Tryz.func73, Tryz.ntmps73
  go_wp2
  go_quiet (fail)
  go_wp2
  go_ret2
  exact ⟨rfl, below_drewN (Below.refl _ _) _⟩

theorem info_state : (Tryz.prog.info? 150).map (fun i => (i.zero, i.size, i.bytes)) = some (some (.agg #[.int .u32 0, .bool false]), 2, 8) := by kernel_rfl
theorem next_new (B p : Nat) (uv wv : Value) (A : AS) (hw : A.waiting = []) (hn : A.used.length < A.cap) (hA : A.Fit) (w : World) (h : ArAt w B p uv wv A) :
    Calls Tryz.prog 73 #[.pointer (some ⟨p, 0, none⟩)] w (NextPost w B p (arF p uv wv) A.used.length ⟨A.cap, A.most, A.used ++ [(0, false)], A.waiting, A.live⟩) := by
  obtain ⟨i0, hi, hz0, hz1, hz2⟩ := info_parts info_state
  obtain ⟨cap, most, used, waiting, live⟩ := A
  simp only at hw hn
  subst hw
  have hcap := hA.cap
  have hB : B ≤ w.heap.size := by have := h.base; have := blk_lt h.blk; omega
  obtain ⟨a1, k1, rfl, hk1, hm1⟩ := owns_form h.wait
  obtain ⟨a2, k2, rfl, hk2, hm2⟩ := owns_form h.used
  have c0 := h.c0
  have c2 := h.c2
  have c3 := h.c3
  have f2 := h.free 2
  have hp := blk_lt h.blk
  simp only [List.length_nil] at hk1 hk2 c0 c2 c3 hcap
  simp only [List.length_nil] at h
  have hne : ((used.length : Int) == cap) = false := by simp; omega
  unfold maxLen at hm1 hm2
  go_enter Tryz.func73, Tryz.ntmps73
  go_wp2
  go_quiet (fail)
  go_wp2_with (at_builtin; refine wpList_append_lies _ rfl _ _ 122 rfl B 150 i0 (.agg #[.int .u32 0, .bool false]) 2 8 Tryz.underlying122 hi hz0 hz1 hz2 rfl (by decide) _ _ _ rfl ((owns_later h.used (below_drewN (Below.refl _ _) _)).alloc _) ⟨w.heap.size, 0, none⟩ 1 1 [.int .u32 0, .bool false] rfl rfl ?c1 ?c2 (by decide) ?c3 ?c4 ?c5 (w.heap.size + 1) ?c6 ?_)
  case c1 => exact new_cells (w.drewN nq) #[.int .u32 0, .bool false] _ _ rfl
  case c2 => intro u hu; simp at hu; rcases hu with rfl | rfl <;> rfl
  case c3 => unfold maxLen; omega
  case c4 => omega
  case c5 => exact Nat.le_trans hB (((Keeps.refl (fun _ => False) w).drewN nq).alloc _).size
  case c6 => show (w.heap.push _).size = _; simp
  intro g cap' w2 hown hgrow hlies hlt
  have kp := grown_keeps hgrow
  have k0 : Keeps (rowF (.slice a2 used.length k2)) w w2 := ((((Keeps.refl _ w).drewN nq).alloc _).then (kp.mono fun _ _ h => h))
  have hblk := k0.blk h.blk (fun e => (h.apart p e).1 rfl)
  have hwt := owns_keeps h.wait k0 (fun b hb e => (h.apart b e).2 hb)
  have d2 : w2.cell? ⟨p, 2, none⟩ = some (.slice a2 used.length k2) := blk_cell hblk rfl
  have e2 := blk_free hblk 2
  have hpg : g ≠ p := by
    rcases hlies with hl | hl
    · exact (h.apart g hl).1
    · omega
  have hgw : ¬ rowF (.slice a1 0 k1) g := by
    rcases hlies with hl | hl
    · exact (h.apart g hl).2
    · intro hr; have := (h.wait.lt g hr).2; omega
  have hgn : rowF (.slice a2 used.length k2) g ∨ w.heap.size ≤ g := by
    rcases hlies with hl | hl
    · exact Or.inl hl
    · exact Or.inr (by omega)
  have k1' : Keeps (arF p (.slice a2 used.length k2) (.slice a1 0 k1)) w w2 := k0.mono fun _ _ hk => Or.inr (Or.inl hk)
  clear hlies kp
  go_wp2
  go_ret2
  have hp2 := lt_of_block hblk
  refine ⟨rfl, .slice (some ⟨g, 0, none⟩) (used.length + 1) cap', .slice a1 0 k1, ⟨blk_set hblk 2 _, owns_set_other (a := ⟨p, 2, none⟩) (by simpa [cellsU_append, cellsU] using hown) (fun e => hpg (by simpa [Value.ownBlock] using e)) _, owns_set_other (a := ⟨p, 2, none⟩) hwt (fun e => h.apart' p e rfl) _, h.base, fun k hk => ?_, h.apart'⟩, k1'.setCell _ (Or.inl (Or.inl rfl)) _, fun k hk => ?_⟩
  · obtain rfl : g = k := by simpa [rowF, Value.ownBlock] using hk
    exact ⟨hpg, hgw⟩
  · rcases hk with hk | hk | hk
    · exact Or.inl (Or.inl hk)
    · obtain rfl : g = k := by simpa [rowF, Value.ownBlock] using hk
      rcases hgn with hgn | hgn
      · exact Or.inl (Or.inr (Or.inl hgn))
      · exact Or.inr hgn
    · exact Or.inl (Or.inr (Or.inr hk))
end Go.Proofs.YtkcicnflcilekaaGreat

namespace Go.Proofs.YtkcicnflcilekaaGreat
open Go.RowKit Go.Sort

def HasArena (B p : Nat) (F : Nat → Prop) (A : AS) (w w' : World) : Prop := ∃ uv wv, ArAt w' B p uv wv A ∧ Moved F (arF p uv wv) w w'
def TakePost (w : World) (B p : Nat) (F : Nat → Prop) (i g : Nat) (A' : AS) (e : Ending) (w' : World) : Prop :=
  e = .returned (.tuple #[Hnd i g, .int .i64 0]) ∧ HasArena B p F A' w w'

theorem take_some (B p : Nat) (uv wv : Value) (A A1 : AS) (i g : Nat) (b : Bool) (hnext : ∀ w, ArAt w B p uv wv A → Calls Tryz.prog 73 #[.pointer (some ⟨p, 0, none⟩)] w (NextPost w B p (arF p uv wv) i A1))
    (hi : i < A1.used.length) (hg : A1.used.getD i (0, false) = (g, b)) (hm : g < 4294967295) (hu : A1.used.length ≤ 65536) (hl : A1.live ≤ 65536) (w : World) (h : ArAt w B p uv wv A) :
    Calls Tryz.prog 36 #[.pointer (some ⟨p, 0, none⟩)] w (TakePost w B p (arF p uv wv) i (g + 1) ⟨A1.cap, A1.most, A1.used.set i (g + 1, true), A1.waiting, A1.live + 1⟩) := by
  go_enter Tryz.func36, Tryz.ntmps36
  go_wp2_with fail
  refine (hnext _ (h.alloc _)).mono ?_
  rintro e w1 ⟨rfl, uv1, wv1, h1, m1⟩
  have hF := h.lt
  have k1 : Keeps (arF p uv wv) w w1 := ((Keeps.refl _ w).alloc _).then m1.keeps
  have hbox : Blk w1 w.heap.size #[.int .i64 0, .int .u32 0] 31 := m1.keeps.blk (blk_new w _ _) (fun hf => by have := (hF _ hf).2; omega)
  have hp1 := (hF p (Or.inl rfl)).2
  obtain ⟨gu, c, rfl, hc, hcm, hgB, hgl, hcell⟩ := owns_slice h1.used (by omega)
  have hgp : gu ≠ p := (h1.apart gu rfl).1
  have hgx : gu ≠ w.heap.size := by
    intro e
    rcases m1.grow gu (Or.inr (Or.inl rfl)) with hf | hf
    · have := (hF _ hf).2; omega
    · simp at hf; omega
  have hx : ¬ arF p (.slice (some ⟨gu, 0, none⟩) A1.used.length c) wv1 w.heap.size := fun hf => by
    rcases m1.grow _ hf with hf | hf
    · have := (hF _ hf).2; omega
    · simp at hf; omega
  have hgr : ∀ k, arF p (.slice (some ⟨gu, 0, none⟩) A1.used.length c) wv1 k → arF p uv wv k ∨ w.heap.size ≤ k := fun k hk => by
    rcases m1.grow _ hk with hf | hf
    · exact Or.inl hf
    · exact Or.inr (by simp at hf; omega)
  have hgc := cellsU_get A1.used i hi
  rw [hg] at hgc
  have a0 := hcell _ _ hgc.1
  have a1 := hcell _ _ hgc.2
  have c2 := h1.c2
  have c4 := h1.c4
  have f4 := h1.free 4
  have fb0 := blk_free hbox 0
  have fb1 := blk_free hbox 1
  have cb0 := blk_cell hbox (o := 0) rfl
  have cb1 := blk_cell hbox (o := 1) rfl
  have fu : ∀ j, w1.frozen? ⟨gu, j, none⟩ = false := h1.used.frozenAt
  have fu0 := fu (i * 2)
  have fu1 := fu (i * 2 + 1)
  have hpx : p ≠ w.heap.size := by omega
  have hpg := hgp.symm
  clear hcell hgc fu
  unfold maxLen at hcm
  simp only at a0 a1
  go_wp2
  refine bodyPost_ret (v := .tuple #[.agg #[.int .i64 i, .int .u32 (g + 1 : Nat)], .int .i64 0]) (by simp [results, Tryz.results36, go_sem, cb0, cb1]) rfl ?_
  have o1 := (h1.used.stored (i * 2) (.int .u32 (g + 1 : Nat))).1
  have o2 := (o1.stored (i * 2 + 1) (.bool true)).1
  rw [cellsU_set] at o2
  clear o1
  have hxu : (Value.slice (some ⟨gu, 0, none⟩) A1.used.length c).ownBlock ≠ some w.heap.size := fun e => hgx (by simpa [Value.ownBlock] using e)
  have hxw : wv1.ownBlock ≠ some w.heap.size := fun e => hx (Or.inr (Or.inr e))
  have hxp : (Value.slice (some ⟨gu, 0, none⟩) A1.used.length c).ownBlock ≠ some p := fun e => hgp (by simpa [Value.ownBlock] using e)
  have hwg : wv1.ownBlock ≠ some gu := fun e => (h1.apart gu rfl).2 e
  have hwp : wv1.ownBlock ≠ some p := fun e => h1.apart' p e rfl
  refine ⟨rfl, .slice (some ⟨gu, 0, none⟩) A1.used.length c, wv1, ⟨?_, ?_, ?_, h1.base, h1.apart, h1.apart'⟩, ?_, hgr⟩
  · exact blk_set_other (blk_set_other (blk_set (blk_set_other (blk_set_other h1.blk hgp _) hgp _) 4 _) hpx.symm _) hpx.symm _
  · rw [List.length_set]
    exact owns_set_other (a := ⟨w.heap.size, 1, none⟩) (owns_set_other (a := ⟨w.heap.size, 0, none⟩) (owns_set_other (a := ⟨p, 4, none⟩) o2 hxp _) hxu _) hxu _
  · exact owns_set_other (a := ⟨w.heap.size, 1, none⟩) (owns_set_other (a := ⟨w.heap.size, 0, none⟩) (owns_set_other (a := ⟨p, 4, none⟩) (owns_set_other (a := ⟨gu, i * 2 + 1, none⟩) (owns_set_other (a := ⟨gu, i * 2, none⟩) h1.wait hwg _) hwg _) hwp _) hxw _) hxw _
  · exact ((((k1.setCell ⟨gu, _, none⟩ (hgr gu (Or.inr (Or.inl rfl))) _).setCell ⟨gu, _, none⟩ (hgr gu (Or.inr (Or.inl rfl))) _).setCell ⟨p, 4, none⟩ (Or.inl (Or.inl rfl)) _).setCell ⟨w.heap.size, 0, none⟩ (Or.inr (Nat.le_refl _)) _).setCell ⟨w.heap.size, 1, none⟩ (Or.inr (Nat.le_refl _)) _

/-- Take, of whatever arena. -/
def TookPost (w : World) (B p : Nat) (F : Nat → Prop) (A : AS) (e : Ending) (w' : World) : Prop :=
  match takeA A with
  | some (i, g, A') => TakePost w B p F i g A' e w'
  | none => e = .returned (.tuple #[Hnd 0 0, .int .i64 32]) ∧ Below w.heap.size w w'
theorem take_full (B p : Nat) (uv wv : Value) (A : AS) (hw : A.waiting = []) (hn : A.used.length = A.cap) (hA : A.Fit) (w : World) (h : ArAt w B p uv wv A) :
    Calls Tryz.prog 36 #[.pointer (some ⟨p, 0, none⟩)] w fun e w' => e = .returned (.tuple #[Hnd 0 0, .int .i64 32]) ∧ Below w.heap.size w w' := by
  go_enter Tryz.func36, Tryz.ntmps36
  go_wp2_with fail
  refine (next_none B p uv wv A hw hn hA _ (h.alloc _)).mono ?_
  rintro e w1 ⟨rfl, hb⟩
  have hbox := later_blk hb (blk_new w #[.int .i64 0, .int .u32 0] 31)
  have fb0 := blk_free hbox 0
  have fb1 := blk_free hbox 1
  have cb0 := blk_cell hbox (o := 0) rfl
  have cb1 := blk_cell hbox (o := 1) rfl
  have hb' := below_alloc1 hb
  clear hb
  go_wp2
  refine bodyPost_ret (v := .tuple #[.agg #[.int .i64 0, .int .u32 0], .int .i64 32]) (by simp [results, Tryz.results36, go_sem, cb0, cb1]) rfl ⟨rfl, ?_⟩
  exact (hb'.setCell (p := ⟨w.heap.size, 0, none⟩) (Nat.le_refl _) _).setCell (p := ⟨w.heap.size, 1, none⟩) (Nat.le_refl _) _
theorem take_any (B p : Nat) (uv wv : Value) (A : AS) (hA : A.Fit) (w : World) (h : ArAt w B p uv wv A) :
    Calls Tryz.prog 36 #[.pointer (some ⟨p, 0, none⟩)] w (TookPost w B p (arF p uv wv) A) := by
  have h1 := hA.cap
  have h2 := hA.used
  have h3 := hA.liveLe
  have h4 := hA.most
  unfold TookPost
  rcases take_cases A with ⟨ws, i, hw, ht⟩ | ⟨hw, hc, ht⟩ | ⟨hw, hc, ht⟩
  · rw [ht]
    have hi := hA.waits i (by rw [hw]; simp)
    exact take_some B p uv wv A ⟨A.cap, A.most, A.used, ws, A.live⟩ i (A.used.getD i (0, false)).1 (A.used.getD i (0, false)).2 (fun w h => next_wait B p uv wv A ws i hw hA w h) hi.1 rfl (by have := hi.2.2; omega) (by simp only; omega) (by simp only; omega) w h
  · rw [ht]
    have := take_some B p uv wv A ⟨A.cap, A.most, A.used ++ [(0, false)], [], A.live⟩ A.used.length 0 false (fun w h => by have := next_new B p uv wv A hw hc hA w h; rw [hw] at this; exact this) (by simp) (by rw [getD_snocAr, if_pos rfl]) (by omega) (by simp; omega) (by simp only; omega) w h
    simpa using this
  · rw [ht]
    exact take_full B p uv wv A hw (by omega) hA w h
end Go.Proofs.YtkcicnflcilekaaGreat

namespace Go.Proofs.YtkcicnflcilekaaGreat
open Go.RowKit Go.Sort


end Go.Proofs.YtkcicnflcilekaaGreat

namespace Go.Proofs.YtkcicnflcilekaaGreat
open Go.RowKit Go.Sort

end Go.Proofs.YtkcicnflcilekaaGreat

namespace Go.Proofs.YtkcicnflcilekaaGreat
open Go.RowKit Go.Sort

/-- At p lies the arena A; its blocks are F, all from B on. -/
def AR (w : World) (B p : Nat) (F : Nat → Prop) (A : AS) : Prop := A.Fit ∧ ∃ uv wv, ArAt w B p uv wv A ∧ F = arF p uv wv
theorem AR.lt {w : World} {B p : Nat} {F : Nat → Prop} {A : AS} (h : AR w B p F A) : ∀ k, F k → B ≤ k ∧ k < w.heap.size := by
  obtain ⟨_, uv, wv, h, rfl⟩ := h; exact h.lt
theorem AR.fit {w : World} {B p : Nat} {F : Nat → Prop} {A : AS} (h : AR w B p F A) : A.Fit := h.1
theorem AR.keeps {G : Nat → Prop} {w w' : World} {B p : Nat} {F : Nat → Prop} {A : AS} (h : AR w B p F A) (k : Keeps G w w') (hn : ∀ b, F b → ¬ G b) : AR w' B p F A := by
  obtain ⟨hA, uv, wv, h, rfl⟩ := h; exact ⟨hA, uv, wv, h.keeps k hn, rfl⟩
def NewPostAr (w : World) (B n m : Nat) (e : Ending) (w' : World) : Prop :=
  e = .returned (.tuple #[.pointer (some ⟨w.heap.size, 0, none⟩), .int .i64 0]) ∧ ∃ F, AR w' B w.heap.size F ⟨n, m, [], [], 0⟩ ∧ (∀ k, F k → w.heap.size ≤ k) ∧ Below w.heap.size w w'
theorem new_ar (B n m : Nat) (w : World) (hn : n ≤ 65536) (hm : 1 ≤ m ∧ m ≤ 4294967295) (hB : B ≤ w.heap.size) :
    Calls Tryz.prog 34 #[.int .i64 n, .int .u32 m] w (NewPostAr w B n m) :=
  (new_ok B n m w hn hm hB).mono fun _ _ ⟨he, h, hb⟩ => ⟨he, _, ⟨⟨hn, hm, by simp, by simp, by simp, by simp, by simp, by simp⟩, _, _, h, rfl⟩, by simp [arF, rowF, Value.ownBlock], hb⟩
def MovedPostAr (w : World) (B p : Nat) (F : Nat → Prop) (A' : AS) (v : Value) (e : Ending) (w' : World) : Prop :=
  e = .returned v ∧ ∃ F', AR w' B p F' A' ∧ Moved F F' w w'
theorem take_ar {B p : Nat} {F : Nat → Prop} {A A' : AS} {i g : Nat} (ht : takeA A = some (i, g, A')) {w : World} (h : AR w B p F A) :
    Calls Tryz.prog 36 #[.pointer (some ⟨p, 0, none⟩)] w (MovedPostAr w B p F A' (.tuple #[Hnd i g, .int .i64 0])) := by
  obtain ⟨hA, uv, wv, h, rfl⟩ := h
  refine (take_any B p uv wv A hA w h).mono fun e w' hp => ?_
  unfold TookPost at hp
  rw [ht] at hp
  obtain ⟨he, uv', wv', h', m⟩ := hp
  exact ⟨he, _, ⟨(take_fit hA ht).1, uv', wv', h', rfl⟩, m⟩
theorem take_none_ar {B p : Nat} {F : Nat → Prop} {A : AS} (ht : takeA A = none) {w : World} (h : AR w B p F A) :
    Calls Tryz.prog 36 #[.pointer (some ⟨p, 0, none⟩)] w fun e w' => e = .returned (.tuple #[Hnd 0 0, .int .i64 32]) ∧ Below w.heap.size w w' := by
  obtain ⟨hA, uv, wv, h, rfl⟩ := h
  refine (take_any B p uv wv A hA w h).mono fun e w' hp => ?_
  unfold TookPost at hp
  rw [ht] at hp
  exact hp
theorem at_ar {B p : Nat} {F : Nat → Prop} {A : AS} (s : Int) {w : World} (h : AR w B p F A) :
    Calls Tryz.prog 37 #[.pointer (some ⟨p, 0, none⟩), .int .i64 s] w fun e w' => e = .returned (atV A s) ∧ Below w.heap.size w w' := by
  obtain ⟨hA, uv, wv, h, rfl⟩ := h
  exact at_any B p uv wv A hA s w h
theorem count_ar {B p : Nat} {F : Nat → Prop} {A : AS} {w : World} (h : AR w B p F A) :
    Calls Tryz.prog 41 #[.pointer (some ⟨p, 0, none⟩)] w fun e w' => e = .returned (.int .i64 A.live) ∧ w = w' := by
  obtain ⟨hA, uv, wv, h, rfl⟩ := h
  exact count_any p _ w h.c4
theorem capacity_ar {B p : Nat} {F : Nat → Prop} {A : AS} {w : World} (h : AR w B p F A) :
    Calls Tryz.prog 40 #[.pointer (some ⟨p, 0, none⟩)] w fun e w' => e = .returned (.int .i64 A.cap) ∧ w = w' := by
  obtain ⟨hA, uv, wv, h, rfl⟩ := h
  exact capacity_any p _ w h.c0

end Go.Proofs.YtkcicnflcilekaaGreat

namespace Go.Proofs.YtkcicnflcilekaaGreat
open Go.RowKit Go.Sort

/-- A thing in memory: what holds of it, and which blocks are its own. It holds on while no block of its own is turned. -/
structure Ob where
  holds : World → (Nat → Prop) → Prop
  keeps : ∀ {w w' : World} {F G : Nat → Prop}, holds w F → Keeps G w w' → (∀ b, F b → ¬ G b) → holds w' F
  lt : ∀ {w : World} {F : Nat → Prop}, holds w F → ∀ k, F k → k < w.heap.size
/-- A block that is known whole. -/
def Ob.box (b : Nat) (c : Array Value) (t : TypeId) : Ob where
  holds w F := Blk w b c t ∧ F = (· = b)
  keeps := by rintro w w' F G ⟨h, rfl⟩ k hn; exact ⟨k.blk h (hn b rfl), rfl⟩
  lt := by rintro w F ⟨h, rfl⟩ k rfl; exact blk_lt h
/-- A row of one's own. -/
def Ob.row (B : Nat) (e : TypeId) (size : Nat) (v : Value) (n : Nat) (xs : List Value) : Ob where
  holds w F := w.ownsRow B e size v n xs ∧ F = rowF v
  keeps := by rintro w w' F G ⟨h, rfl⟩ k hn; exact ⟨owns_keeps h k hn, rfl⟩
  lt := by rintro w F ⟨h, rfl⟩ k hk; exact (h.lt k hk).2
/-- Something that hangs on no memory. -/
def Ob.none : Ob where
  holds _ F := F = fun _ => False
  keeps := fun h _ _ => h
  lt := by rintro w F rfl k h; exact h.elim


namespace Scene
variable {W w w' : World} {l : List Ob}
theorem idx {i : Nat} {O : Ob} (hi : l[i]? = some O) : i < l.length := by
  by_cases hl : i < l.length
  · exact hl
  · rw [List.getElem?_eq_none (by omega)] at hi; cases hi
theorem idx' {α : Type} {l : List α} {i : Nat} {O : α} (hi : l[i]? = some O) : i < l.length := by
  by_cases hl : i < l.length
  · exact hl
  · rw [List.getElem?_eq_none (by omega)] at hi; cases hi

variable {P : Program} {f : FuncId} {args : Array Value} {O O' : Ob} {i : Nat} {v : Value}
end Scene
end Go.Proofs.YtkcicnflcilekaaGreat

namespace Go.Proofs.YtkcicnflcilekaaGreat
open Go.RowKit Go.Sort

/-- The value x is a slice of m elements that reads as news. -/
def RowReads (w : World) (size : Nat) (x : Value) (m : Nat) (news : List Value) : Prop :=
  news.length = m * size ∧ ((x = .slice none 0 0 ∧ m = 0) ∨ ∃ a c, x = .slice (some a) m c ∧ ∀ j u, news[j]? = some u → w.cell? (a.add j) = some u)
theorem add_at (g o j : Nat) : (⟨g, o, none⟩ : Addr).add j = ⟨g, o + j, none⟩ := by
  unfold Addr.add
  by_cases h0 : j = 0
  · simp [h0]
  · simp [h0]
/-- A row that was just written out. -/
theorem reads_new (w : World) (c : Array Value) (t : TypeId) (size m : Nat) (H : Nat) (hH : w.heap.size = H) (hs : c.size = m * size) : RowReads (w.alloc (.cells c t)) size (.slice (some ⟨H, 0, none⟩) m m) m c.toList :=
  ⟨by simpa using hs, Or.inr ⟨_, m, rfl, new_cells' w c t c.toList H hH rfl⟩⟩
/-- A row of none that was just written out is the call's own. -/
theorem owns_empty (w : World) (e : TypeId) (size base : Nat) (hb : base ≤ w.heap.size) : (w.alloc (.cells #[] e)).ownsRow base e size (.slice (some ⟨w.heap.size, 0, none⟩) 0 0) 0 [] := World.ownsRow_made w #[] 0 hb (by decide) (by simp)

section
variable {P : Program} (w : World)
theorem run_append_any (base : Nat) (t ty e : TypeId) (i : TypeInfo) (z : Value) (size bytes : Nat) (ht : P.underlying t = some (.slice e)) (hi : P.info? e = some i) (hz : i.zero = some z)
    (hsize : i.size = size) (hby : i.bytes = bytes) (hzs : z.cells.size = size) (hsz : 0 < size)
    (v : Value) (n : Nat) (xs : List Value) (hown : w.ownsRow base e size v n xs)
    (x : Value) (m : Nat) (news : List Value) (hr : RowReads w size x m news) (h1 : ∀ u ∈ news, u.oneCell' = true)
    (h63 : n + m ≤ maxLen) (hbytes : (n + m) * bytes ≤ 140737488355328) (hbase : base ≤ w.heap.size) :
    ∃ v' w', (Builtin.append_ #[t, t] ty #[v, x]).run P w = .ok v' w' ∧ w'.ownsRow base e size v' (n + m) (xs ++ news) ∧ w.grownBy w' v.ownBlock ∧ (∀ k, rowF v' k → rowF v k ∨ k = w.heap.size) := by
  obtain ⟨hl, ⟨rfl, rfl⟩ | ⟨a, c, rfl, hnews⟩⟩ := hr
  · have : news = [] := List.eq_nil_of_length_eq_zero (by simpa using hl)
    subst this
    refine ⟨v, w, run_append_owned_none w base t ty e i size ht hi v n xs hown, by simpa using hown, ⟨rfl, rfl, rfl, Nat.le_refl _, fun _ _ _ => rfl⟩, fun k hk => Or.inl hk⟩
  · obtain ⟨v', w', h2, h3, h4, _, h5⟩ := run_append_own_at (P := P) w base t ty e i z size bytes ht hi hz hsize hby hzs hsz v n xs hown a m c news hl hnews h1 h63 hbytes hbase
    refine ⟨v', w', h2, h3, h4, fun k hk => ?_⟩
    unfold rowF at *
    rcases h5 with h5 | h5
    · exact Or.inl (by rw [← h5]; exact hk)
    · rw [h5] at hk
      exact Or.inr (by injection hk with hk; exact hk.symm)



end
theorem reads_same {w w' : World} (hh : w'.heap = w.heap) {size : Nat} {x : Value} {m : Nat} {news : List Value} (h : RowReads w size x m news) : RowReads w' size x m news :=
  ⟨h.1, h.2.imp id fun ⟨a, c, hx, hr⟩ => ⟨a, c, hx, fun j u hj => by rw [World.cell?_of_block (w := w) (by rw [hh])]; exact hr j u hj⟩⟩
end Go.Proofs.YtkcicnflcilekaaGreat
