/- Which handles are live. -/
import Derived.Test.YtahpalfdeghdmaaArena
namespace Go.Proofs.Ytahpalfdeghdmaa
open Go.RowKit Go.Sort

theorem later_alloc {w : World} {a : Addr} {v : Value} (h : w.cell? a = some v) (o : Obj) : (w.alloc o).cell? a = some v := later ((Below.refl _ _).alloc (Nat.le_refl _) o) h
theorem live_any (B p : Nat) (uv wv : Value) (A : AS) (hA : A.Fit) (s g : Int) (w : World) (h : ArAt w B p uv wv A) :
    Calls Try.prog 17 #[.pointer (some ⟨p, 0, none⟩), .agg #[.int .i64 s, .int .u32 g]] w fun e w' => e = .returned (.bool (liveB A s g)) ∧ Below w.heap.size w w' := by
  have c2 := h.c2
  have hp := blk_lt h.blk
  cases hh : hasB s A.used.length
  · obtain ⟨a, c, rfl, hc, hm⟩ := owns_form h.used
    have hl : liveB A s g = false := by simp [liveB, hh]
    rw [hl]
    have HH := Lib.hid hh
    clear hh hl
    go_enter Try.func17, Try.ntmps17
    go_wp2
    obtain ⟨c2', b0, b1⟩ : (w.alloc (Obj.cells #[Value.int IntKind.i64 s, Value.int IntKind.u32 g] 30)).cell? ⟨p, 2, none⟩ = some (.slice a A.used.length c) ∧ (w.alloc (Obj.cells #[Value.int IntKind.i64 s, Value.int IntKind.u32 g] 30)).cell? ⟨w.heap.size, 0, none⟩ = some (.int .i64 s) ∧ (w.alloc (Obj.cells #[Value.int IntKind.i64 s, Value.int IntKind.u32 g] 30)).cell? ⟨w.heap.size, 1, none⟩ = some (.int .u32 g) := ⟨by go_simp, by go_simp, by go_simp⟩
    have cA : ∀ d' os, Calls Try.prog 29 #[.pointer (some ⟨p, 0, none⟩), .int .i64 s] (grow (redrawn (w.alloc (Obj.cells #[Value.int IntKind.i64 s, Value.int IntKind.u32 g] 30)) d') os) fun e w'' => e = .returned (.bool false) ∧ ∃ p : Regrown, w'' = grow (redrawn (w.alloc (Obj.cells #[Value.int IntKind.i64 s, Value.int IntKind.u32 g] 30)) p.d) p.os := fun d' os => Calls.regrown_of ((has_any p _ _ _ s _ (cell_regrown c2' d' os)).mono (by rintro e w' ⟨rfl, rfl⟩; rw [HH.out]; exact ⟨rfl, Below.refl _ _⟩))
    have k2 := cell_regrown c2'
    have k0 := cell_regrown b0
    have k1 := cell_regrown b1
    refine wp_region_quiet_below (by kernel_rfl) (by kernel_rfl) ?_
    repeat (go_big_quiet_step (first | with_reducible exact cA _ _))
    refine wpQuiet_nil ?_
    intro W3 hw'
    replace hw' := below_regrown' hw'
    go_wp2_with fail
    go_ret
    exact ⟨rfl, below_alloc1 hw'⟩
  · have hi : s.toNat < A.used.length := by simp [hasB] at hh; omega
    obtain ⟨i, rfl⟩ : ∃ i : Nat, s = i := ⟨s.toNat, by simp [hasB] at hh; omega⟩
    simp only [Int.toNat_natCast] at hi
    have hcap := hA.used
    have hcap2 := hA.cap
    obtain ⟨b, c, hv, hc, hm, _, hb, hcell⟩ := owns_slice h.used (by omega)
    subst hv
    have hg := cellsU_get A.used i hi
    have a0 := hcell _ _ hg.1
    have a1 := hcell _ _ hg.2
    have HH := Lib.hid hh
    have HL : Hid (liveB A i g = (((A.used.getD i (0, false)).1 : Int) == g && (A.used.getD i (0, false)).2)) := Lib.hid (by simp [liveB, hh])
    generalize liveB A i g = lb at *
    clear hh hcell hg
    generalize (A.used.getD i (0, false)).1 = x at *
    generalize (A.used.getD i (0, false)).2 = y at *
    by_cases hx : (x : Int) = g
    · subst hx
      cases y
      all_goals
        go_enter Try.func17, Try.ntmps17
        go_wp2
        obtain ⟨c2', b0, b1⟩ : (w.alloc (Obj.cells #[Value.int IntKind.i64 i, Value.int IntKind.u32 (x : Int)] 30)).cell? ⟨p, 2, none⟩ = some (.slice (some ⟨b, 0, none⟩) A.used.length c) ∧ (w.alloc (Obj.cells #[Value.int IntKind.i64 i, Value.int IntKind.u32 (x : Int)] 30)).cell? ⟨w.heap.size, 0, none⟩ = some (.int .i64 i) ∧ (w.alloc (Obj.cells #[Value.int IntKind.i64 i, Value.int IntKind.u32 (x : Int)] 30)).cell? ⟨w.heap.size, 1, none⟩ = some (.int .u32 (x : Int)) := ⟨by go_simp, by go_simp, by go_simp⟩
        have cA : ∀ d' os, Calls Try.prog 29 #[.pointer (some ⟨p, 0, none⟩), .int .i64 i] (grow (redrawn (w.alloc (Obj.cells #[Value.int IntKind.i64 i, Value.int IntKind.u32 (x : Int)] 30)) d') os) fun e w'' => e = .returned (.bool true) ∧ ∃ p : Regrown, w'' = grow (redrawn (w.alloc (Obj.cells #[Value.int IntKind.i64 i, Value.int IntKind.u32 (x : Int)] 30)) p.d) p.os := fun d' os => Calls.regrown_of ((has_any p _ _ _ i _ (cell_regrown c2' d' os)).mono (by rintro e w' ⟨rfl, rfl⟩; rw [HH.out]; exact ⟨rfl, Below.refl _ _⟩))
        have k2 := cell_regrown c2'
        have k0 := cell_regrown b0
        have k1 := cell_regrown b1
        have a0' := cell_regrown (later_alloc a0 (Obj.cells #[Value.int IntKind.i64 i, Value.int IntKind.u32 (x : Int)] 30))
        have a1' := cell_regrown (later_alloc a1 (Obj.cells #[Value.int IntKind.i64 i, Value.int IntKind.u32 (x : Int)] 30))
        refine wp_region_quiet_below (by kernel_rfl) (by kernel_rfl) ?_
        repeat (first | go_big_quiet_step (first | with_reducible exact cA _ _) | quiet_step (fail))
        refine wpQuiet_nil ?_
        intro W3 hw'
        replace hw' := below_regrown' hw'
        go_wp2_with fail
        go_ret
        exact ⟨ret_bool (by rw [HL.out]; simp), below_alloc1 hw'⟩
    · have hx' : ((x : Int) == g) = false := by simpa using hx
      clear hx
      go_enter Try.func17, Try.ntmps17
      go_wp2
      obtain ⟨c2', b0, b1⟩ : (w.alloc (Obj.cells #[Value.int IntKind.i64 i, Value.int IntKind.u32 g] 30)).cell? ⟨p, 2, none⟩ = some (.slice (some ⟨b, 0, none⟩) A.used.length c) ∧ (w.alloc (Obj.cells #[Value.int IntKind.i64 i, Value.int IntKind.u32 g] 30)).cell? ⟨w.heap.size, 0, none⟩ = some (.int .i64 i) ∧ (w.alloc (Obj.cells #[Value.int IntKind.i64 i, Value.int IntKind.u32 g] 30)).cell? ⟨w.heap.size, 1, none⟩ = some (.int .u32 g) := ⟨by go_simp, by go_simp, by go_simp⟩
      have cA : ∀ d' os, Calls Try.prog 29 #[.pointer (some ⟨p, 0, none⟩), .int .i64 i] (grow (redrawn (w.alloc (Obj.cells #[Value.int IntKind.i64 i, Value.int IntKind.u32 g] 30)) d') os) fun e w'' => e = .returned (.bool true) ∧ ∃ p : Regrown, w'' = grow (redrawn (w.alloc (Obj.cells #[Value.int IntKind.i64 i, Value.int IntKind.u32 g] 30)) p.d) p.os := fun d' os => Calls.regrown_of ((has_any p _ _ _ i _ (cell_regrown c2' d' os)).mono (by rintro e w' ⟨rfl, rfl⟩; rw [HH.out]; exact ⟨rfl, Below.refl _ _⟩))
      have k2 := cell_regrown c2'
      have k0 := cell_regrown b0
      have k1 := cell_regrown b1
      have a0' := cell_regrown (later_alloc a0 (Obj.cells #[Value.int IntKind.i64 i, Value.int IntKind.u32 g] 30))
      have a1' := cell_regrown (later_alloc a1 (Obj.cells #[Value.int IntKind.i64 i, Value.int IntKind.u32 g] 30))
      refine wp_region_quiet_below (by kernel_rfl) (by kernel_rfl) ?_
      repeat (first | go_big_quiet_step (first | with_reducible exact cA _ _) | quiet_step (fail))
      refine wpQuiet_nil ?_
      intro W3 hw'
      replace hw' := below_regrown' hw'
      go_wp2_with fail
      go_ret
      exact ⟨ret_bool (by rw [HL.out, hx']; rfl), below_alloc1 hw'⟩
end Go.Proofs.Ytahpalfdeghdmaa
