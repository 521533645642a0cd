/- Merged of Cells, Cells2. -/
import Derived.Test.YtmoolbmbdnkooaaStage
import Derived.Test.YtmoolbmbdnkooaaNames
import Derived.Test.YtmoolbmbdnkooaaLess
import Derived.Deep.RegionHeld3
import Derived.Deep.RegionWith
namespace Go.Proofs.Ytmoolbmbdnkooaa
open Go.RowKit Go.Sort

def cellC (c : CellD) : List Value := [.int .i64 c.home, .int .i64 c.key, .int .u64 c.seq]
theorem cellC_len (c : CellD) : (cellC c).length = 3 := rfl
def cellV (c : CellD) : Value := .agg #[.int .i64 c.home, .int .i64 c.key, .int .u64 c.seq]
/-- Names as a thing. -/
def Ob.names (B p : Nat) (N : NS) : Ob where
  holds w F := NR w B p F N
  keeps h k hn := NR.keeps h k hn
  lt h k hk := (NR.lt h k hk).2
/-- What cells are made of: the block, names, the row of slots, and the map of sizes. -/
def cellParts (p : Nat) (N : NS) (raw : List CellD) (s : Int) (pn : Nat) (v : Value) (bm : Nat) (f : Int → Int) : List Ob :=
  [Ob.box p #[.int .i64 s, .pointer (some ⟨pn, 0, none⟩), v, .map (some bm)] 39,
   Ob.names 0 pn N,
   Ob.row 0 113 3 v raw.length (cellsBy cellC raw),
   Ob.imap Try.prog 3 3 bm f 65537]
/-- At p lie cells that tell the nest W; s steps were counted. -/
def Ob.cells (p : Nat) (W : WS) (s : Int) : Ob where
  holds w F := ∃ N raw pn v bm, RFit N raw ∧ W = absW N raw ∧ (0 ≤ s ∧ s ≤ 4611686018427387904) ∧ (Ob.group (cellParts p N raw s pn v bm (fun y => lenW W y))).holds w F
  keeps := by
    rintro w w' F G ⟨N, raw, pn, v, bm, h1, h2, h3, h⟩ k hn
    exact ⟨N, raw, pn, v, bm, h1, h2, h3, (Ob.group _).keeps h k hn⟩
  lt := by
    rintro w F ⟨N, raw, pn, v, bm, h1, h2, h3, h⟩
    exact (Ob.group _).lt h
theorem Ob.cells.fit {p : Nat} {W : WS} {s : Int} {w : World} {F : Nat → Prop} (h : (Ob.cells p W s).holds w F) : W.Fit := by
  obtain ⟨N, raw, pn, v, bm, h1, rfl, _, _⟩ := h
  exact abs_fit h1
theorem Ob.cells.steps {p : Nat} {W : WS} {s : Int} {w : World} {F : Nat → Prop} (h : (Ob.cells p W s).holds w F) : 0 ≤ s ∧ s ≤ 4611686018427387904 := by
  obtain ⟨N, raw, pn, v, bm, _, _, h3, _⟩ := h
  exact h3
theorem zero_int (w : World) : (zeroValue 3).run Try.prog w = .ok (.int .i64 0) w := by kernel_rfl

section
variable {F0 : Nat → Prop} {W0 w : World} {p : Nat} {N : NS} {raw : List CellD} {s : Int} {pn : Nat} {v : Value} {bm : Nat} {f : Int → Int}
theorem parts_c0 (h : Stage F0 W0 (cellParts p N raw s pn v bm f) w) : w.cell? ⟨p, 0, none⟩ = some (.int .i64 s) := h.cell 0 rfl rfl
theorem parts_c1 (h : Stage F0 W0 (cellParts p N raw s pn v bm f) w) : w.cell? ⟨p, 1, none⟩ = some (.pointer (some ⟨pn, 0, none⟩)) := h.cell 0 rfl rfl
theorem parts_c2 (h : Stage F0 W0 (cellParts p N raw s pn v bm f) w) : w.cell? ⟨p, 2, none⟩ = some v := h.cell 0 rfl rfl
theorem parts_c3 (h : Stage F0 W0 (cellParts p N raw s pn v bm f) w) : w.cell? ⟨p, 3, none⟩ = some (.map (some bm)) := h.cell 0 rfl rfl
theorem parts_form (h : Stage F0 W0 (cellParts p N raw s pn v bm f) w) : ∃ a c, v = .slice a raw.length c ∧ raw.length ≤ c ∧ c ≤ 9223372036854775807 := by
  obtain ⟨a, c, h1, h2, h3⟩ := owns_form (h.owns 2 rfl)
  exact ⟨a, c, h1, h2, by unfold maxLen at h3; omega⟩
theorem parts_row (h : Stage F0 W0 (cellParts p N raw s pn v bm f) w) (i : Nat) (hi : i < raw.length) : ∃ g c, v = .slice (some ⟨g, 0, none⟩) raw.length c ∧ raw.length ≤ c ∧ c ≤ 9223372036854775807 ∧ g ≠ p ∧ g < w.heap.size ∧
    w.cell? ⟨g, i * 3, none⟩ = some (.int .i64 (raw.getD i .off).home) ∧ w.cell? ⟨g, i * 3 + 1, none⟩ = some (.int .i64 (raw.getD i .off).key) ∧ w.cell? ⟨g, i * 3 + 2, none⟩ = some (.int .u64 (raw.getD i .off).seq) ∧ ∀ o, w.frozen? ⟨g, o, none⟩ = false := by
  obtain ⟨g, c, hv, h1, h2, _, h4, hc, hf⟩ := owns_at cellC_len .off (h.owns 2 rfl) rfl (by omega)
  have hne := h.rowNe 2 0 rfl rfl (by decide)
  subst hv
  exact ⟨g, c, rfl, h1, by unfold maxLen at h2; omega, fun e => hne (by rw [← e]; rfl), h4, hc i 0 _ hi (by omega) rfl, hc i 1 _ hi (by omega) rfl, hc i 2 _ hi (by omega) rfl, hf⟩

theorem held_any (c : CellD) (w : World) : Calls Try.prog 57 #[cellV c] w fun e w' => e = .returned (.bool (c.home != 0)) ∧ w' = w.alloc (.cells #[.int .i64 c.home, .int .i64 c.key, .int .u64 c.seq] 113) := by
  obtain ⟨h, k, q⟩ := c
  have hA : ((h : Int) != 0) = (h != 0) := by
    by_cases e : h = 0
    · subst e; rfl
    · have e' : (h : Int) ≠ 0 := by omega
      rw [bne_iff_ne.2 e, bne_iff_ne.2 e']
  simp only [← hA, cellV]
  clear hA
  go_enter Try.func57, Try.ntmps57
  go_wp2
  go_ret
  exact ⟨rfl, rfl⟩
theorem has_st (h : Stage F0 W0 (cellParts p N raw s pn v bm f) w) (_hraw : raw.length ≤ 65536) (x : Int) :
    Calls Try.prog 55 #[.pointer (some ⟨p, 0, none⟩), .int .i64 x] w fun e w' => e = .returned (.bool (slotR raw x)) ∧ w = w' := by
  obtain ⟨a, c, rfl, hc1, hc2⟩ := parts_form h
  have c2 := parts_c2 h
  unfold slotR
  by_cases hx : 0 ≤ x
  · have hd := Lib.hid (show decide (0 ≤ x ∧ x < (raw.length : Int)) = decide (x < (raw.length : Int)) by congr 1; apply propext; omega)
    rw [hd.out]
    clear h hd
    generalize raw.length = n at *
    go_enter Try.func55, Try.ntmps55
    go_wp2
    go_ret
    exact ⟨rfl, rfl⟩
  · rw [decide_eq_false (fun e => hx e.1)]
    clear h
    generalize raw.length = n at *
    go_enter Try.func55, Try.ntmps55
    go_wp2
    go_ret
    exact ⟨rfl, rfl⟩
theorem at_st (h : Stage F0 W0 (cellParts p N raw s pn v bm f) w) (hraw : raw.length ≤ 65536) (x : Int) :
    Calls Try.prog 56 #[.pointer (some ⟨p, 0, none⟩), .int .i64 x] w fun e w' => e = .returned (cellV (rawAt raw x)) ∧ Below w.heap.size w w' := by
  have hH := fun w (h : Stage F0 W0 (cellParts p N raw s pn v bm f) w) => has_st h hraw x
  unfold rawAt
  have hh := hH _ (h.later ((Below.refl _ w).alloc (Nat.le_refl _) (.cells #[.int .i64 0, .int .i64 0, .int .u64 0] 113)))
  cases hs : slotR raw x
  · rw [hs] at hh
    go_enter Try.func56, Try.ntmps56
    go_wp2_with fail
    refine hh.mono ?_
    rintro e w1 ⟨rfl, rfl⟩
    go_wp2_with fail
    refine bodyPost_ret (v := cellV .off) (by simp [results, Try.results56, go_sem]; rfl) rfl ⟨rfl, (Below.refl _ _).alloc (Nat.le_refl _) _⟩
  · simp only [slotR, decide_eq_true_eq] at hs
    rw [show slotR raw x = true by simpa [slotR] using hs] at hh
    obtain ⟨i, rfl⟩ : ∃ i : Nat, x = i := ⟨x.toNat, by omega⟩
    have hi : i < raw.length := by omega
    obtain ⟨g, c, rfl, hc1, hc2, hgp, hg, e0, e1, e2, hf⟩ := parts_row h i hi
    have c2 := parts_c2 h
    have hp := h.lt 0 rfl
    rw [if_pos rfl, Int.toNat_natCast]
    generalize raw.getD i .off = d at *
    clear hs hf h
    generalize raw.length = n at *
    go_enter Try.func56, Try.ntmps56
    go_wp2_with fail
    refine hh.mono ?_
    rintro e w1 ⟨rfl, rfl⟩
    go_wp2_with fail
    refine bodyPost_ret (v := cellV d) (by simp [results, Try.results56, go_sem]; rfl) rfl ⟨rfl, (Below.refl _ _).alloc (Nat.le_refl _) _⟩
end
end Go.Proofs.Ytmoolbmbdnkooaa

namespace Go.Proofs.Ytmoolbmbdnkooaa
open Go.RowKit Go.Sort

section
variable {F0 : Nat → Prop} {W0 w : World} {p : Nat} {N : NS} {raw : List CellD} {s : Int} {pn : Nat} {v : Value} {bm : Nat} {f : Int → Int}
theorem grow_st (hs : Stage F0 W0 (cellParts p N raw s pn v bm f) w) (h : Nat) (hh : h < 65537) (x d u : Int) (hx : f h = x) (hu : x + d = u) (bx : -9223372036854775808 ≤ u ∧ u ≤ 9223372036854775807) :
    Calls Try.prog 58 #[.pointer (some ⟨p, 0, none⟩), .int .i64 h, .int .i64 d] w fun e w' => e = .returned (.tuple #[]) ∧ Stage F0 W0 (cellParts p N raw s pn v bm (setI f h u)) w' := by
  have c3 := parts_c3 hs
  have l0 := hs.look 3 rfl Try.underlying37 Try.underlying3 Try.underlying3 (zero_int w) h (by omega)
  rw [hx] at l0
  have e1 : IntKind.i64.wrap (x + d) = u := by rw [hu]; exact IntWalk.i64_in _ bx
  clear hx hu
  go_enter Try.func58, Try.ntmps58
  go_wp2_with (at_mapUpdate; refine hs.wp_put (t := 37) 3 rfl rfl _ _ _ rfl Try.underlying37 Try.underlying3 Try.underlying3 (by unfold maxLen; omega) rfl h u rfl rfl (by omega) bx ?_)
  intro w1 hs1
  replace hs1 : Stage F0 W0 (cellParts p N raw s pn v bm (setI f h u)) w1 := hs1
  have c31 := parts_c3 hs1
  have l1 := hs1.look 3 rfl Try.underlying37 Try.underlying3 Try.underlying3 (zero_int w1) h (by omega)
  rw [setI_same] at l1
  clear l0 c3 hs
  by_cases hz : u = 0
  · subst hz
    go_wp2_with (at_delete; refine hs1.wp_delete 3 rfl rfl _ _ rfl Try.underlying37 Try.underlying3 rfl h rfl (by omega) ?_)
    intro w2 hs2
    replace hs2 : Stage F0 W0 (cellParts p N raw s pn v bm (setI (setI f h 0) h 0)) w2 := hs2
    rw [setI_set] at hs2
    go_wp2_with fail
    go_end0
    exact ⟨rfl, hs2⟩
  · have hz' : (u == 0) = false := by simpa using hz
    go_wp2_with fail
    go_end0
    exact ⟨rfl, hs1⟩
theorem cells_close {W : WS} {N' : NS} {raw' : List CellD} {s' : Int} {F : Nat → Prop} {f' : Int → Int} {w' : World} (hs : Stage F w (cellParts p N' raw' s' pn v bm f') w') (hF : ∀ b, F b → b < w.heap.size) (hR : RFit N' raw') (hW : W = absW N' raw') (hf : ∀ y, f' y = lenW W y) (hr : 0 ≤ s' ∧ s' ≤ 4611686018427387904) :
    ∃ F', (Ob.cells p W s').holds w' F' ∧ Moved F F' w w' := by
  obtain ⟨F', h1, m⟩ := hs.close hF
  obtain rfl : f' = fun y => (lenW W y : Int) := funext hf
  exact ⟨F', ⟨N', raw', pn, v, bm, hR, hW, hr, h1⟩, m⟩
end

section
variable {w : World} {p : Nat} {W : WS} {s : Int} {F : Nat → Prop}
theorem capacity_cl (h : (Ob.cells p W s).holds w F) : Calls Try.prog 10 #[.pointer (some ⟨p, 0, none⟩)] w fun e w' => e = .returned (.int .i64 W.cells.length) ∧ w = w' := by
  obtain ⟨N, raw, pn, v, bm, hR, rfl, _, h⟩ := h
  have hs := Ob.group.open h
  obtain ⟨a, c, rfl, hc1, hc2⟩ := parts_form hs
  have c2 := parts_c2 hs
  rw [abs_len]
  clear h hs
  generalize raw.length = n at *
  go_enter Try.func10, Try.ntmps10
  go_wp2
  go_ret
  exact ⟨rfl, rfl⟩
theorem has_cl (y : Int) (h : (Ob.cells p W s).holds w F) : Calls Try.prog 12 #[.pointer (some ⟨p, 0, none⟩), .int .i64 y] w fun e w' => e = .returned (.bool (hasW W y)) ∧ w = w' := by
  obtain ⟨N, raw, pn, v, bm, hR, rfl, _, h⟩ := h
  have hs := Ob.group.open h
  have c1 := parts_c1 hs
  have hH := hs.ask 1 rfl (fun _ ho => has_nm y ho)
  rw [abs_has]
  clear h hs
  go_enter Try.func12, Try.ntmps12
  go_wp2_with fail
  refine hH.mono ?_
  rintro e w1 ⟨rfl, rfl⟩
  go_wp2
  go_ret
  exact ⟨rfl, rfl⟩
theorem len_cl (y : Int) (hy : -9223372036854775808 ≤ y ∧ y ≤ 9223372036854775807) (h : (Ob.cells p W s).holds w F) : Calls Try.prog 13 #[.pointer (some ⟨p, 0, none⟩), .int .i64 y] w fun e w' => e = .returned (.int .i64 (lenW W y)) ∧ w = w' := by
  obtain ⟨N, raw, pn, v, bm, hR, rfl, _, h⟩ := h
  have hs := Ob.group.open h
  have c3 := parts_c3 hs
  have l0 := hs.look 3 rfl Try.underlying37 Try.underlying3 Try.underlying3 (zero_int w) y hy
  clear h hs
  generalize (lenW (absW N raw) y : Int) = x at *
  go_enter Try.func13, Try.ntmps13
  go_wp2
  go_ret
  exact ⟨rfl, rfl⟩
theorem steps_cl (h : (Ob.cells p W s).holds w F) : Calls Try.prog 11 #[.pointer (some ⟨p, 0, none⟩)] w fun e w' => e = .returned (.int .i64 s) ∧ w = w' := by
  obtain ⟨N, raw, pn, v, bm, hR, rfl, _, h⟩ := h
  exact meter_steps p 0 s w (parts_c0 (Ob.group.open h))
theorem frozen_old {w : World} {b : Nat} (h : b < w.heap.size) (o : Nat) (x : Obj) : (w.alloc x).frozen? ⟨b, o, none⟩ = w.frozen? ⟨b, o, none⟩ := World.frozen?_of_block (w := w) (Below.heap_alloc w x b h)
theorem frozen_drew (w : World) (a : Addr) : w.drew.frozen? a = w.frozen? a := rfl
theorem size_drew (w : World) : w.drew.heap.size = w.heap.size := rfl
theorem field_home (h k q : Int) (w : World) : (Instr.field 113 (.agg #[.int .i64 h, .int .i64 k, .int .u64 q]) 0).run Try.prog w = .ok (.int .i64 h) w := by kernel_rfl
theorem home_cl (x : Int) (h : (Ob.cells p W s).holds w F) : Calls Try.prog 93 #[.pointer (some ⟨p, 0, none⟩), .int .i64 x] w fun e w' => e = .returned (.tuple #[.int .i64 (cellW W x).home, .bool (inW W x)]) ∧ ∃ F', (Ob.cells p W s).holds w' F' ∧ Moved F F' w w' := by
  have hF := (Ob.cells p W s).lt h
  obtain ⟨N, raw, pn, v, bm, hR, rfl, hr, h⟩ := h
  have hs := Ob.group.open h
  have hA := at_st hs.drew hR.cap x
  obtain ⟨e1, e2⟩ := abs_home hR x
  rw [← e1, ← e2]
  have hs0 := hs.drew
  have x0 := parts_c1 hs0
  clear h e1 e2
  generalize rawAt raw x = d at *
  simp only [cellV] at hA
  have hfl := field_home (d.home : Int) d.key d.seq
  go_enter Try.func93, Try.ntmps93
  go_wp2_with fail
  go_region_held3 (fun w' => w'.cell? ⟨p, 1, none⟩ = some (.pointer (some ⟨pn, 0, none⟩))) (first | assumption)
    (first
      | (go_at_call 56; with_reducible refine hA.mono ?_; rintro e w1 ⟨rfl, hb1⟩; have hs1 := hs0.later hb1; have x1 := parts_c1 hs1; have hK := hs1.call 1 rfl (O' := Ob.names 0 pn N) (fun _ ho => root_nm (d.home : Int) ho))
      | (go_at_call 102; with_reducible refine hK.mono ?_; rintro e w2 ⟨rfl, hs2⟩; have x2 := parts_c1 hs2))
  all_goals
    go_wp2_with fail
    go_ret2
    exact ⟨rfl, cells_close hs2 hF hR rfl (fun _ => rfl) hr⟩
theorem entry_cl (x : Int) (h : (Ob.cells p W s).holds w F) : Calls Try.prog 91 #[.pointer (some ⟨p, 0, none⟩), .int .i64 x] w fun e w' => e = .returned (.tuple #[.agg #[.int .i64 (cellW W x).key, .int .u64 (cellW W x).seq], .bool (inW W x)]) ∧ Below w.heap.size w w' := by
  obtain ⟨N, raw, pn, v, bm, hR, rfl, hr, h⟩ := h
  have hs := Ob.group.open h
  obtain ⟨w0, hw0, hb0, hs0⟩ : ∃ w0, w.alloc (.cells #[.int .i64 0, .int .u64 0] 59) = w0 ∧ Below w.heap.size w w0 ∧ Stage F w _ w0 := ⟨_, rfl, (Below.refl _ _).alloc (Nat.le_refl _) _, hs.alloc #[.int .i64 0, .int .u64 0] 59⟩
  have hA := at_st (hs0.take 4) hR.cap x
  have e1 := abs_in hR x
  have e2 : (cellW (absW N raw) x).key = (rawAt raw x).key ∧ (cellW (absW N raw) x).seq = (rawAt raw x).seq := by rw [abs_cell hR]; exact ⟨rfl, rfl⟩
  rw [e1, e2.1, e2.2]
  clear e1 e2 h
  generalize rawAt raw x = d at *
  have hH := fun w => held_any d w
  simp only [cellV] at hA hH
  have hb4 : w.heap.size ≤ w.heap.size := Nat.le_refl _
  go_enter Try.func91, Try.ntmps91
  go_wp2_with fail
  generalize hb : w.heap.size = b at *
  refine hA.mono ?_
  rintro e w1 ⟨rfl, hb1⟩
  have hs1 := hs0.later hb1
  have f4 := hs1.free 4 rfl
  have l4 := hs1.lt 4 rfl
  have x4 := hs1.blk 4 rfl
  have hbl : Below b w w1 := by rw [← hb] at hb0 ⊢; exact below_chain hb0 hb1
  clear hA hs0 hs hb1 hb0 hw0
  go_wp2_with fail
  obtain ⟨V, hV, hs2⟩ : ∃ V : World, w1.alloc (.cells #[.int .i64 d.home, .int .i64 d.key, .int .u64 d.seq] 113) = V ∧ Stage F w _ V := ⟨_, rfl, hs1.alloc #[.int .i64 d.home, .int .i64 d.key, .int .u64 d.seq] 113⟩
  replace hbl : Below b w V := by rw [← hV]; exact hbl.alloc (Nat.le_of_lt l4) _
  rw [hV]
  have n46 := hs2.ne 4 5 rfl rfl (by decide)
  generalize w1.heap.size = b6 at *
  have y0 : V.cell? ⟨b6, 0, none⟩ = some (.int .i64 d.home) := hs2.cell 5 rfl rfl
  have y1 : V.cell? ⟨b6, 1, none⟩ = some (.int .i64 d.key) := hs2.cell 5 rfl rfl
  have y2 : V.cell? ⟨b6, 2, none⟩ = some (.int .u64 d.seq) := hs2.cell 5 rfl rfl
  have g40 := hs2.free 4 rfl 0
  have g41 := hs2.free 4 rfl 1
  have l42 := hs2.lt 4 rfl
  have l62 := hs2.lt 5 rfl
  have z40 : V.cell? ⟨b, 0, none⟩ = some (.int .i64 0) := hs2.cell 4 rfl rfl
  have z41 : V.cell? ⟨b, 1, none⟩ = some (.int .u64 0) := hs2.cell 4 rfl rfl
  clear hV x4 l4 f4 hs1 hs2
  go_region_held3 (fun w' => w'.cell? ⟨b6, 0, none⟩ = some (.int .i64 d.home) ∧ w'.cell? ⟨b6, 1, none⟩ = some (.int .i64 d.key) ∧ w'.cell? ⟨b6, 2, none⟩ = some (.int .u64 d.seq) ∧ w'.frozen? ⟨b, 0, none⟩ = false ∧ w'.frozen? ⟨b, 1, none⟩ = false) (simp [*, World.cell?_alloc_some, World.cell?_setCell_far, frozen_old])
    (first
      | (go_at_call 57; with_reducible refine (hH _).mono ?_; rintro e w9 ⟨rfl, rfl⟩))
  all_goals
    go_wp2_with fail
    refine bodyPost_ret (v := .tuple #[.agg #[.int .i64 d.key, .int .u64 d.seq], .bool (d.home != 0)]) (by simp [*, results, Try.results91, go_sem, World.cell?_alloc_some]) rfl ⟨rfl, ?_⟩
    rw [hb]
    refine (((hbl.setCell (p := ⟨b, 0, none⟩) (Nat.le_refl _) _).setCell (p := ⟨b, 1, none⟩) (Nat.le_refl _) _).alloc ?_ _).drew
    simp [World.setCell]
    omega
end
end Go.Proofs.Ytmoolbmbdnkooaa
