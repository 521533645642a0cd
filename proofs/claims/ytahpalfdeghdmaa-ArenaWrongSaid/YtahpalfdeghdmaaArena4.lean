/- The slot that goes out next. -/
import Derived.Test.YtahpalfdeghdmaaArena3
import Derived.Deep.AppendLies
namespace Go.Proofs.Ytahpalfdeghdmaa
open Go.RowKit Go.Sort

def NextPost (w : World) (B p : Nat) (F : Nat → Prop) (i : Nat) (A' : AS) (e : Ending) (w' : World) : Prop :=
  e = .returned (.tuple #[.int .i64 i, .bool true]) ∧ ∃ uv wv, ArAt w' B p uv wv A' ∧ Moved F (arF p uv wv) w w'

theorem next_wait (B p : Nat) (uv wv : Value) (A : AS) (ws : List Nat) (i : Nat) (hw : A.waiting = ws ++ [i]) (hA : A.Fit) (w : World) (h : ArAt w B p uv wv A) :
    Calls Try.prog 24 #[.pointer (some ⟨p, 0, none⟩)] w (NextPost w B p (arF p uv wv) i ⟨A.cap, A.most, A.used, ws, A.live⟩) := by
  obtain ⟨cap, most, used, waiting, live⟩ := A
  simp only at hw
  subst hw
  have hcap := hA.cap
  have hus := hA.used
  have hwt := hA.wait
  simp only [List.length_append, List.length_cons, List.length_nil, Nat.zero_add] at hcap hus hwt
  obtain ⟨g, c, hv, hc, hm, hg, hgl, hcell⟩ := owns_slice h.wait (by simp)
  simp only [List.length_append, List.length_cons, List.length_nil, Nat.zero_add] at hv hc
  subst hv
  have c3 := h.c3
  have f3 := h.free 3
  have ci : w.cell? ⟨g, ws.length, none⟩ = some (.int .i64 i) := hcell _ _ (by simp [cellsN])
  have hgp : g ≠ p := h.apart' g (by simp [rowF, Value.ownBlock])
  have hlen : ws.length ≤ 65536 := by omega
  have hpop : w.ownsRow B 3 1 (.slice (some ⟨g, 0, none⟩) ws.length c) ws.length (cellsN ws) := by
    have := h.wait
    simp only [List.length_append, List.length_cons, List.length_nil, Nat.zero_add, cellsN, List.map_append] at this
    exact ownsRow_pop (by simp [cellsN]) this
  unfold maxLen at hm
  clear hcell
  go_enter Try.func24, Try.ntmps24
  go_wp2
  go_ret2
  refine ⟨rfl, uv, .slice (some ⟨g, 0, none⟩) ws.length c, ⟨blk_set h.blk 3 _, owns_set_other (a := ⟨p, 3, none⟩) h.used (fun e => (h.apart p e).1 rfl) _, owns_set_other (a := ⟨p, 3, none⟩) hpop (fun e => hgp (by simpa [Value.ownBlock] using e)) _, h.base, fun k hk => ?_, fun k hk => ?_⟩, Keeps.setCell (Keeps.refl _ _) _ (Or.inl (Or.inl rfl)) _, fun k hk => Or.inl hk⟩
  · exact h.apart k hk
  · exact h.apart' k hk

theorem next_none (B p : Nat) (uv wv : Value) (A : AS) (hw : A.waiting = []) (hn : A.used.length = A.cap) (hA : A.Fit) (w : World) (h : ArAt w B p uv wv A) :
    Calls Try.prog 24 #[.pointer (some ⟨p, 0, none⟩)] w fun e w' => e = .returned (.tuple #[.int .i64 0, .bool false]) ∧ Below w.heap.size w w' := by
  obtain ⟨cap, most, used, waiting, live⟩ := A
  simp only at hw hn
  subst hw hn
  have hcap := hA.cap
  obtain ⟨a1, k1, rfl, hk1, hm1⟩ := owns_form h.wait
  obtain ⟨a2, k2, rfl, hk2, hm2⟩ := owns_form h.used
  have c0 := h.c0
  have c2 := h.c2
  have c3 := h.c3
  simp only [List.length_nil] at hk1 hk2 c0 c2 c3 hcap
  go_enter Try.func24, Try.ntmps24
  go_wp2
  go_quiet (fail)
  go_wp2
  go_ret2
  exact ⟨rfl, below_drewN (Below.refl _ _) _⟩

theorem info_state : (Try.prog.info? 61).map (fun i => (i.zero, i.size, i.bytes)) = some (some (.agg #[.int .u32 0, .bool false]), 2, 8) := by kernel_rfl
theorem next_new (B p : Nat) (uv wv : Value) (A : AS) (hw : A.waiting = []) (hn : A.used.length < A.cap) (hA : A.Fit) (w : World) (h : ArAt w B p uv wv A) :
    Calls Try.prog 24 #[.pointer (some ⟨p, 0, none⟩)] w (NextPost w B p (arF p uv wv) A.used.length ⟨A.cap, A.most, A.used ++ [(0, false)], A.waiting, A.live⟩) := by
  obtain ⟨i0, hi, hz0, hz1, hz2⟩ := info_parts info_state
  obtain ⟨cap, most, used, waiting, live⟩ := A
  simp only at hw hn
  subst hw
  have hcap := hA.cap
  have hB : B ≤ w.heap.size := by have := h.base; have := blk_lt h.blk; omega
  obtain ⟨a1, k1, rfl, hk1, hm1⟩ := owns_form h.wait
  obtain ⟨a2, k2, rfl, hk2, hm2⟩ := owns_form h.used
  have c0 := h.c0
  have c2 := h.c2
  have c3 := h.c3
  have f2 := h.free 2
  have hp := blk_lt h.blk
  simp only [List.length_nil] at hk1 hk2 c0 c2 c3 hcap
  simp only [List.length_nil] at h
  have hne : ((used.length : Int) == cap) = false := by simp; omega
  unfold maxLen at hm1 hm2
  go_enter Try.func24, Try.ntmps24
  go_wp2
  go_quiet (fail)
  go_wp2_with (at_builtin; refine wpList_append_lies _ rfl _ _ 56 rfl B 61 i0 (.agg #[.int .u32 0, .bool false]) 2 8 Try.underlying56 hi hz0 hz1 hz2 rfl (by decide) _ _ _ rfl ((owns_later h.used (below_drewN (Below.refl _ _) _)).alloc _) ⟨w.heap.size, 0, none⟩ 1 1 [.int .u32 0, .bool false] rfl rfl ?c1 ?c2 (by decide) ?c3 ?c4 ?c5 (w.heap.size + 1) ?c6 ?_)
  case c1 => exact new_cells (w.drewN nq) #[.int .u32 0, .bool false] _ _ rfl
  case c2 => intro u hu; simp at hu; rcases hu with rfl | rfl <;> rfl
  case c3 => unfold maxLen; omega
  case c4 => omega
  case c5 => exact Nat.le_trans hB (((Keeps.refl (fun _ => False) w).drewN nq).alloc _).size
  case c6 => show (w.heap.push _).size = _; simp
  intro g cap' w2 hown hgrow hlies hlt
  have kp := grown_keeps hgrow
  have k0 : Keeps (rowF (.slice a2 used.length k2)) w w2 := ((((Keeps.refl _ w).drewN nq).alloc _).then (kp.mono fun _ _ h => h))
  have hblk := k0.blk h.blk (fun e => (h.apart p e).1 rfl)
  have hwt := owns_keeps h.wait k0 (fun b hb e => (h.apart b e).2 hb)
  have d2 : w2.cell? ⟨p, 2, none⟩ = some (.slice a2 used.length k2) := blk_cell hblk rfl
  have e2 := blk_free hblk 2
  have hpg : g ≠ p := by
    rcases hlies with hl | hl
    · exact (h.apart g hl).1
    · omega
  have hgw : ¬ rowF (.slice a1 0 k1) g := by
    rcases hlies with hl | hl
    · exact (h.apart g hl).2
    · intro hr; have := (h.wait.lt g hr).2; omega
  have hgn : rowF (.slice a2 used.length k2) g ∨ w.heap.size ≤ g := by
    rcases hlies with hl | hl
    · exact Or.inl hl
    · exact Or.inr (by omega)
  have k1' : Keeps (arF p (.slice a2 used.length k2) (.slice a1 0 k1)) w w2 := k0.mono fun _ _ hk => Or.inr (Or.inl hk)
  clear hlies kp
  go_wp2
  go_ret2
  have hp2 := lt_of_block hblk
  refine ⟨rfl, .slice (some ⟨g, 0, none⟩) (used.length + 1) cap', .slice a1 0 k1, ⟨blk_set hblk 2 _, owns_set_other (a := ⟨p, 2, none⟩) (by simpa [cellsU_append, cellsU] using hown) (fun e => hpg (by simpa [Value.ownBlock] using e)) _, owns_set_other (a := ⟨p, 2, none⟩) hwt (fun e => h.apart' p e rfl) _, h.base, fun k hk => ?_, h.apart'⟩, k1'.setCell _ (Or.inl (Or.inl rfl)) _, fun k hk => ?_⟩
  · obtain rfl : g = k := by simpa [rowF, Value.ownBlock] using hk
    exact ⟨hpg, hgw⟩
  · rcases hk with hk | hk | hk
    · exact Or.inl (Or.inl hk)
    · obtain rfl : g = k := by simpa [rowF, Value.ownBlock] using hk
      rcases hgn with hgn | hgn
      · exact Or.inl (Or.inr (Or.inl hgn))
      · exact Or.inr hgn
    · exact Or.inl (Or.inr (Or.inr hk))
end Go.Proofs.Ytahpalfdeghdmaa
