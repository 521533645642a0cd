/- Merged of Cells, Cells2, Cells3. -/
import Derived.Test.YtcjjglaimfhofaaStage
import Derived.Test.YtcjjglaimfhofaaCellsMath
import Derived.Test.YtcjjglaimfhofaaLess
import Derived.Deep.RegionHeld3
import Derived.Deep.RegionWith
namespace Go.Proofs.Ytcjjglaimfhofaa
open Go.RowKit Go.Sort

def cellC (c : CellD) : List Value := [.int .i64 c.home, .int .i64 c.key, .int .u64 c.seq]
theorem cellC_len (c : CellD) : (cellC c).length = 3 := rfl
def cellV (c : CellD) : Value := .agg #[.int .i64 c.home, .int .i64 c.key, .int .u64 c.seq]
/-- Names as a thing. -/
def Ob.names (B p : Nat) (N : NS) : Ob where
  holds w F := NR w B p F N
  keeps h k hn := NR.keeps h k hn
  lt h k hk := (NR.lt h k hk).2
/-- What cells are made of: the block, names, the row of slots, and the map of sizes. -/
def cellParts (p : Nat) (N : NS) (raw : List CellD) (s : Int) (pn : Nat) (v : Value) (bm : Nat) (f : Int → Int) : List Ob :=
  [Ob.box p #[.int .i64 s, .pointer (some ⟨pn, 0, none⟩), v, .map (some bm)] 39,
   Ob.names 0 pn N,
   Ob.row 0 122 3 v raw.length (cellsBy cellC raw),
   Ob.imap Try.prog 3 3 bm f 65537]
/-- At p lie cells that tell the nest W; s steps were counted. -/
def Ob.cells (p : Nat) (W : WS) (s : Int) : Ob where
  holds w F := ∃ N raw pn v bm, RFit N raw ∧ W = absW N raw ∧ (0 ≤ s ∧ s ≤ 4611686018427387904) ∧ (Ob.group (cellParts p N raw s pn v bm (fun y => lenW W y))).holds w F
  keeps := by
    rintro w w' F G ⟨N, raw, pn, v, bm, h1, h2, h3, h⟩ k hn
    exact ⟨N, raw, pn, v, bm, h1, h2, h3, (Ob.group _).keeps h k hn⟩
  lt := by
    rintro w F ⟨N, raw, pn, v, bm, h1, h2, h3, h⟩
    exact (Ob.group _).lt h
theorem Ob.cells.fit {p : Nat} {W : WS} {s : Int} {w : World} {F : Nat → Prop} (h : (Ob.cells p W s).holds w F) : W.Fit := by
  obtain ⟨N, raw, pn, v, bm, h1, rfl, _, _⟩ := h
  exact abs_fit h1
theorem Ob.cells.steps {p : Nat} {W : WS} {s : Int} {w : World} {F : Nat → Prop} (h : (Ob.cells p W s).holds w F) : 0 ≤ s ∧ s ≤ 4611686018427387904 := by
  obtain ⟨N, raw, pn, v, bm, _, _, h3, _⟩ := h
  exact h3
theorem zero_int (w : World) : (zeroValue 3).run Try.prog w = .ok (.int .i64 0) w := by kernel_rfl

section
variable {F0 : Nat → Prop} {W0 w : World} {p : Nat} {N : NS} {raw : List CellD} {s : Int} {pn : Nat} {v : Value} {bm : Nat} {f : Int → Int}
theorem parts_c0 (h : Stage F0 W0 (cellParts p N raw s pn v bm f) w) : w.cell? ⟨p, 0, none⟩ = some (.int .i64 s) := h.cell 0 rfl rfl
theorem parts_c1 (h : Stage F0 W0 (cellParts p N raw s pn v bm f) w) : w.cell? ⟨p, 1, none⟩ = some (.pointer (some ⟨pn, 0, none⟩)) := h.cell 0 rfl rfl
theorem parts_c2 (h : Stage F0 W0 (cellParts p N raw s pn v bm f) w) : w.cell? ⟨p, 2, none⟩ = some v := h.cell 0 rfl rfl
theorem parts_c3 (h : Stage F0 W0 (cellParts p N raw s pn v bm f) w) : w.cell? ⟨p, 3, none⟩ = some (.map (some bm)) := h.cell 0 rfl rfl
theorem parts_form (h : Stage F0 W0 (cellParts p N raw s pn v bm f) w) : ∃ a c, v = .slice a raw.length c ∧ raw.length ≤ c ∧ c ≤ 9223372036854775807 := by
  obtain ⟨a, c, h1, h2, h3⟩ := owns_form (h.owns 2 rfl)
  exact ⟨a, c, h1, h2, by unfold maxLen at h3; omega⟩
theorem parts_row (h : Stage F0 W0 (cellParts p N raw s pn v bm f) w) (i : Nat) (hi : i < raw.length) : ∃ g c, v = .slice (some ⟨g, 0, none⟩) raw.length c ∧ raw.length ≤ c ∧ c ≤ 9223372036854775807 ∧ g ≠ p ∧ g < w.heap.size ∧
    w.cell? ⟨g, i * 3, none⟩ = some (.int .i64 (raw.getD i .off).home) ∧ w.cell? ⟨g, i * 3 + 1, none⟩ = some (.int .i64 (raw.getD i .off).key) ∧ w.cell? ⟨g, i * 3 + 2, none⟩ = some (.int .u64 (raw.getD i .off).seq) ∧ ∀ o, w.frozen? ⟨g, o, none⟩ = false := by
  obtain ⟨g, c, hv, h1, h2, _, h4, hc, hf⟩ := owns_at cellC_len .off (h.owns 2 rfl) rfl (by omega)
  have hne := h.rowNe 2 0 rfl rfl (by decide)
  subst hv
  exact ⟨g, c, rfl, h1, by unfold maxLen at h2; omega, fun e => hne (by rw [← e]; rfl), h4, hc i 0 _ hi (by omega) rfl, hc i 1 _ hi (by omega) rfl, hc i 2 _ hi (by omega) rfl, hf⟩

theorem held_any (c : CellD) (w : World) : Calls Try.prog 67 #[cellV c] w fun e w' => e = .returned (.bool (c.home != 0)) ∧ w' = w.alloc (.cells #[.int .i64 c.home, .int .i64 c.key, .int .u64 c.seq] 122) := by
  obtain ⟨h, k, q⟩ := c
  have hA : ((h : Int) != 0) = (h != 0) := by
    by_cases e : h = 0
    · subst e; rfl
    · have e' : (h : Int) ≠ 0 := by omega
      rw [bne_iff_ne.2 e, bne_iff_ne.2 e']
  simp only [← hA, cellV]
  clear hA
  go_enter Try.func67, Try.ntmps67
  go_wp2
  go_ret
  exact ⟨rfl, rfl⟩
theorem has_st (h : Stage F0 W0 (cellParts p N raw s pn v bm f) w) (_hraw : raw.length ≤ 65536) (x : Int) :
    Calls Try.prog 65 #[.pointer (some ⟨p, 0, none⟩), .int .i64 x] w fun e w' => e = .returned (.bool (slotR raw x)) ∧ w = w' := by
  obtain ⟨a, c, rfl, hc1, hc2⟩ := parts_form h
  have c2 := parts_c2 h
  unfold slotR
  by_cases hx : 0 ≤ x
  · have hd := Lib.hid (show decide (0 ≤ x ∧ x < (raw.length : Int)) = decide (x < (raw.length : Int)) by congr 1; apply propext; omega)
    rw [hd.out]
    clear h hd
    generalize raw.length = n at *
    go_enter Try.func65, Try.ntmps65
    go_wp2
    go_ret
    exact ⟨rfl, rfl⟩
  · rw [decide_eq_false (fun e => hx e.1)]
    clear h
    generalize raw.length = n at *
    go_enter Try.func65, Try.ntmps65
    go_wp2
    go_ret
    exact ⟨rfl, rfl⟩
theorem at_st (h : Stage F0 W0 (cellParts p N raw s pn v bm f) w) (hraw : raw.length ≤ 65536) (x : Int) :
    Calls Try.prog 66 #[.pointer (some ⟨p, 0, none⟩), .int .i64 x] w fun e w' => e = .returned (cellV (rawAt raw x)) ∧ Below w.heap.size w w' := by
  have hH := fun w (h : Stage F0 W0 (cellParts p N raw s pn v bm f) w) => has_st h hraw x
  unfold rawAt
  have hh := hH _ (h.later ((Below.refl _ w).alloc (Nat.le_refl _) (.cells #[.int .i64 0, .int .i64 0, .int .u64 0] 122)))
  cases hs : slotR raw x
  · rw [hs] at hh
    go_enter Try.func66, Try.ntmps66
    go_wp2_with fail
    refine hh.mono ?_
    rintro e w1 ⟨rfl, rfl⟩
    go_wp2_with fail
    refine bodyPost_ret (v := cellV .off) (by simp [results, Try.results66, go_sem]; rfl) rfl ⟨rfl, (Below.refl _ _).alloc (Nat.le_refl _) _⟩
  · simp only [slotR, decide_eq_true_eq] at hs
    rw [show slotR raw x = true by simpa [slotR] using hs] at hh
    obtain ⟨i, rfl⟩ : ∃ i : Nat, x = i := ⟨x.toNat, by omega⟩
    have hi : i < raw.length := by omega
    obtain ⟨g, c, rfl, hc1, hc2, hgp, hg, e0, e1, e2, hf⟩ := parts_row h i hi
    have c2 := parts_c2 h
    have hp := h.lt 0 rfl
    rw [if_pos rfl, Int.toNat_natCast]
    generalize raw.getD i .off = d at *
    clear hs hf h
    generalize raw.length = n at *
    go_enter Try.func66, Try.ntmps66
    go_wp2_with fail
    refine hh.mono ?_
    rintro e w1 ⟨rfl, rfl⟩
    go_wp2_with fail
    refine bodyPost_ret (v := cellV d) (by simp [results, Try.results66, go_sem]; rfl) rfl ⟨rfl, (Below.refl _ _).alloc (Nat.le_refl _) _⟩
end
end Go.Proofs.Ytcjjglaimfhofaa

namespace Go.Proofs.Ytcjjglaimfhofaa
open Go.RowKit Go.Sort

section
variable {F0 : Nat → Prop} {W0 w : World} {p : Nat} {N : NS} {raw : List CellD} {s : Int} {pn : Nat} {v : Value} {bm : Nat} {f : Int → Int}
theorem grow_st (hs : Stage F0 W0 (cellParts p N raw s pn v bm f) w) (h : Nat) (hh : h < 65537) (x d u : Int) (hx : f h = x) (hu : x + d = u) (bx : -9223372036854775808 ≤ u ∧ u ≤ 9223372036854775807) :
    Calls Try.prog 68 #[.pointer (some ⟨p, 0, none⟩), .int .i64 h, .int .i64 d] w fun e w' => e = .returned (.tuple #[]) ∧ Stage F0 W0 (cellParts p N raw s pn v bm (setI f h u)) w' := by
  have c3 := parts_c3 hs
  have l0 := hs.look 3 rfl Try.underlying37 Try.underlying3 Try.underlying3 (zero_int w) h (by omega)
  rw [hx] at l0
  have e1 : IntKind.i64.wrap (x + d) = u := by rw [hu]; exact IntWalk.i64_in _ bx
  clear hx hu
  go_enter Try.func68, Try.ntmps68
  go_wp2_with (at_mapUpdate; refine hs.wp_put (t := 37) 3 rfl rfl _ _ _ rfl Try.underlying37 Try.underlying3 Try.underlying3 (by unfold maxLen; omega) rfl h u rfl rfl (by omega) bx ?_)
  intro w1 hs1
  replace hs1 : Stage F0 W0 (cellParts p N raw s pn v bm (setI f h u)) w1 := hs1
  have c31 := parts_c3 hs1
  have l1 := hs1.look 3 rfl Try.underlying37 Try.underlying3 Try.underlying3 (zero_int w1) h (by omega)
  rw [setI_same] at l1
  clear l0 c3 hs
  by_cases hz : u = 0
  · subst hz
    go_wp2_with (at_delete; refine hs1.wp_delete 3 rfl rfl _ _ rfl Try.underlying37 Try.underlying3 rfl h rfl (by omega) ?_)
    intro w2 hs2
    replace hs2 : Stage F0 W0 (cellParts p N raw s pn v bm (setI (setI f h 0) h 0)) w2 := hs2
    rw [setI_set] at hs2
    go_wp2_with fail
    go_end0
    exact ⟨rfl, hs2⟩
  · have hz' : (u == 0) = false := by simpa using hz
    go_wp2_with fail
    go_end0
    exact ⟨rfl, hs1⟩
theorem cells_close {W : WS} {N' : NS} {raw' : List CellD} {s' : Int} {F : Nat → Prop} {f' : Int → Int} {w' : World} (hs : Stage F w (cellParts p N' raw' s' pn v bm f') w') (hF : ∀ b, F b → b < w.heap.size) (hR : RFit N' raw') (hW : W = absW N' raw') (hf : ∀ y, f' y = lenW W y) (hr : 0 ≤ s' ∧ s' ≤ 4611686018427387904) :
    ∃ F', (Ob.cells p W s').holds w' F' ∧ Moved F F' w w' := by
  obtain ⟨F', h1, m⟩ := hs.close hF
  obtain rfl : f' = fun y => (lenW W y : Int) := funext hf
  exact ⟨F', ⟨N', raw', pn, v, bm, hR, hW, hr, h1⟩, m⟩
end

section
variable {w : World} {p : Nat} {W : WS} {s : Int} {F : Nat → Prop}
theorem capacity_cl (h : (Ob.cells p W s).holds w F) : Calls Try.prog 12 #[.pointer (some ⟨p, 0, none⟩)] w fun e w' => e = .returned (.int .i64 W.cells.length) ∧ w = w' := by
  obtain ⟨N, raw, pn, v, bm, hR, rfl, _, h⟩ := h
  have hs := Ob.group.open h
  obtain ⟨a, c, rfl, hc1, hc2⟩ := parts_form hs
  have c2 := parts_c2 hs
  rw [abs_len]
  clear h hs
  generalize raw.length = n at *
  go_enter Try.func12, Try.ntmps12
  go_wp2
  go_ret
  exact ⟨rfl, rfl⟩
theorem has_cl (y : Int) (h : (Ob.cells p W s).holds w F) : Calls Try.prog 14 #[.pointer (some ⟨p, 0, none⟩), .int .i64 y] w fun e w' => e = .returned (.bool (hasW W y)) ∧ w = w' := by
  obtain ⟨N, raw, pn, v, bm, hR, rfl, _, h⟩ := h
  have hs := Ob.group.open h
  have c1 := parts_c1 hs
  have hH := hs.ask 1 rfl (fun _ ho => has_nm y ho)
  rw [abs_has]
  clear h hs
  go_enter Try.func14, Try.ntmps14
  go_wp2_with fail
  refine hH.mono ?_
  rintro e w1 ⟨rfl, rfl⟩
  go_wp2
  go_ret
  exact ⟨rfl, rfl⟩
theorem len_cl (y : Int) (hy : -9223372036854775808 ≤ y ∧ y ≤ 9223372036854775807) (h : (Ob.cells p W s).holds w F) : Calls Try.prog 15 #[.pointer (some ⟨p, 0, none⟩), .int .i64 y] w fun e w' => e = .returned (.int .i64 (lenW W y)) ∧ w = w' := by
  obtain ⟨N, raw, pn, v, bm, hR, rfl, _, h⟩ := h
  have hs := Ob.group.open h
  have c3 := parts_c3 hs
  have l0 := hs.look 3 rfl Try.underlying37 Try.underlying3 Try.underlying3 (zero_int w) y hy
  clear h hs
  generalize (lenW (absW N raw) y : Int) = x at *
  go_enter Try.func15, Try.ntmps15
  go_wp2
  go_ret
  exact ⟨rfl, rfl⟩
theorem steps_cl (h : (Ob.cells p W s).holds w F) : Calls Try.prog 13 #[.pointer (some ⟨p, 0, none⟩)] w fun e w' => e = .returned (.int .i64 s) ∧ w = w' := by
  obtain ⟨N, raw, pn, v, bm, hR, rfl, _, h⟩ := h
  exact meter_steps p 0 s w (parts_c0 (Ob.group.open h))
theorem frozen_old {w : World} {b : Nat} (h : b < w.heap.size) (o : Nat) (x : Obj) : (w.alloc x).frozen? ⟨b, o, none⟩ = w.frozen? ⟨b, o, none⟩ := World.frozen?_of_block (w := w) (Below.heap_alloc w x b h)
theorem frozen_drew (w : World) (a : Addr) : w.drew.frozen? a = w.frozen? a := rfl
theorem size_drew (w : World) : w.drew.heap.size = w.heap.size := rfl
theorem field_home (h k q : Int) (w : World) : (Instr.field 122 (.agg #[.int .i64 h, .int .i64 k, .int .u64 q]) 0).run Try.prog w = .ok (.int .i64 h) w := by kernel_rfl
theorem home_cl (x : Int) (h : (Ob.cells p W s).holds w F) : Calls Try.prog 71 #[.pointer (some ⟨p, 0, none⟩), .int .i64 x] w fun e w' => e = .returned (.tuple #[.int .i64 (cellW W x).home, .bool (inW W x)]) ∧ ∃ F', (Ob.cells p W s).holds w' F' ∧ Moved F F' w w' := by
  have hF := (Ob.cells p W s).lt h
  obtain ⟨N, raw, pn, v, bm, hR, rfl, hr, h⟩ := h
  have hs := Ob.group.open h
  have hA := at_st hs.drew hR.cap x
  obtain ⟨e1, e2⟩ := abs_home hR x
  rw [← e1, ← e2]
  have hs0 := hs.drew
  have x0 := parts_c1 hs0
  clear h e1 e2
  generalize rawAt raw x = d at *
  simp only [cellV] at hA
  have hfl := field_home (d.home : Int) d.key d.seq
  go_enter Try.func71, Try.ntmps71
  go_wp2_with fail
  go_region_held3 (fun w' => w'.cell? ⟨p, 1, none⟩ = some (.pointer (some ⟨pn, 0, none⟩))) (first | assumption)
    (first
      | (go_at_call 66; with_reducible refine hA.mono ?_; rintro e w1 ⟨rfl, hb1⟩; have hs1 := hs0.later hb1; have x1 := parts_c1 hs1; have hK := hs1.call 1 rfl (O' := Ob.names 0 pn N) (fun _ ho => root_nm (d.home : Int) ho))
      | (go_at_call 83; with_reducible refine hK.mono ?_; rintro e w2 ⟨rfl, hs2⟩; have x2 := parts_c1 hs2))
  all_goals
    go_wp2_with fail
    go_ret2
    exact ⟨rfl, cells_close hs2 hF hR rfl (fun _ => rfl) hr⟩
theorem entry_cl (x : Int) (h : (Ob.cells p W s).holds w F) : Calls Try.prog 123 #[.pointer (some ⟨p, 0, none⟩), .int .i64 x] w fun e w' => e = .returned (.tuple #[.agg #[.int .i64 (cellW W x).key, .int .u64 (cellW W x).seq], .bool (inW W x)]) ∧ Below w.heap.size w w' := by
  obtain ⟨N, raw, pn, v, bm, hR, rfl, hr, h⟩ := h
  have hs := Ob.group.open h
  obtain ⟨w0, hw0, hb0, hs0⟩ : ∃ w0, w.alloc (.cells #[.int .i64 0, .int .u64 0] 63) = w0 ∧ Below w.heap.size w w0 ∧ Stage F w _ w0 := ⟨_, rfl, (Below.refl _ _).alloc (Nat.le_refl _) _, hs.alloc #[.int .i64 0, .int .u64 0] 63⟩
  have hA := at_st (hs0.take 4) hR.cap x
  have e1 := abs_in hR x
  have e2 : (cellW (absW N raw) x).key = (rawAt raw x).key ∧ (cellW (absW N raw) x).seq = (rawAt raw x).seq := by rw [abs_cell hR]; exact ⟨rfl, rfl⟩
  rw [e1, e2.1, e2.2]
  clear e1 e2 h
  generalize rawAt raw x = d at *
  have hH := fun w => held_any d w
  simp only [cellV] at hA hH
  have hb4 : w.heap.size ≤ w.heap.size := Nat.le_refl _
  go_enter Try.func123, Try.ntmps123
  go_wp2_with fail
  generalize hb : w.heap.size = b at *
  refine hA.mono ?_
  rintro e w1 ⟨rfl, hb1⟩
  have hs1 := hs0.later hb1
  have f4 := hs1.free 4 rfl
  have l4 := hs1.lt 4 rfl
  have x4 := hs1.blk 4 rfl
  have hbl : Below b w w1 := by rw [← hb] at hb0 ⊢; exact below_chain hb0 hb1
  clear hA hs0 hs hb1 hb0 hw0
  go_wp2_with fail
  obtain ⟨V, hV, hs2⟩ : ∃ V : World, w1.alloc (.cells #[.int .i64 d.home, .int .i64 d.key, .int .u64 d.seq] 122) = V ∧ Stage F w _ V := ⟨_, rfl, hs1.alloc #[.int .i64 d.home, .int .i64 d.key, .int .u64 d.seq] 122⟩
  replace hbl : Below b w V := by rw [← hV]; exact hbl.alloc (Nat.le_of_lt l4) _
  rw [hV]
  have n46 := hs2.ne 4 5 rfl rfl (by decide)
  generalize w1.heap.size = b6 at *
  have y0 : V.cell? ⟨b6, 0, none⟩ = some (.int .i64 d.home) := hs2.cell 5 rfl rfl
  have y1 : V.cell? ⟨b6, 1, none⟩ = some (.int .i64 d.key) := hs2.cell 5 rfl rfl
  have y2 : V.cell? ⟨b6, 2, none⟩ = some (.int .u64 d.seq) := hs2.cell 5 rfl rfl
  have g40 := hs2.free 4 rfl 0
  have g41 := hs2.free 4 rfl 1
  have l42 := hs2.lt 4 rfl
  have l62 := hs2.lt 5 rfl
  have z40 : V.cell? ⟨b, 0, none⟩ = some (.int .i64 0) := hs2.cell 4 rfl rfl
  have z41 : V.cell? ⟨b, 1, none⟩ = some (.int .u64 0) := hs2.cell 4 rfl rfl
  clear hV x4 l4 f4 hs1 hs2
  go_region_held3 (fun w' => w'.cell? ⟨b6, 0, none⟩ = some (.int .i64 d.home) ∧ w'.cell? ⟨b6, 1, none⟩ = some (.int .i64 d.key) ∧ w'.cell? ⟨b6, 2, none⟩ = some (.int .u64 d.seq) ∧ w'.frozen? ⟨b, 0, none⟩ = false ∧ w'.frozen? ⟨b, 1, none⟩ = false) (simp [*, World.cell?_alloc_some, World.cell?_setCell_far, frozen_old])
    (first
      | (go_at_call 67; with_reducible refine (hH _).mono ?_; rintro e w9 ⟨rfl, rfl⟩))
  all_goals
    go_wp2_with fail
    refine bodyPost_ret (v := .tuple #[.agg #[.int .i64 d.key, .int .u64 d.seq], .bool (d.home != 0)]) (by simp [*, results, Try.results123, go_sem, World.cell?_alloc_some]) rfl ⟨rfl, ?_⟩
    rw [hb]
    refine (((hbl.setCell (p := ⟨b, 0, none⟩) (Nat.le_refl _) _).setCell (p := ⟨b, 1, none⟩) (Nat.le_refl _) _).alloc ?_ _).drew
    simp [World.setCell]
    omega
end
end Go.Proofs.Ytcjjglaimfhofaa

namespace Go.Proofs.Ytcjjglaimfhofaa
open Go.RowKit Go.Sort

theorem cellC_put (raw : List CellD) (i : Nat) (hi : i < raw.length) (c : CellD) : (((cellsBy cellC raw).set (i * 3) (.int .i64 c.home)).set (i * 3 + 1) (.int .i64 c.key)).set (i * 3 + 2) (.int .u64 c.seq) = cellsBy cellC (raw.set i c) := by
  obtain ⟨h, k, q⟩ := c
  have s0 := cellsBy_set cellC 3 cellC_len .off raw i 0 (.int .i64 h) ⟨h, (raw.getD i .off).key, (raw.getD i .off).seq⟩ hi (by omega) rfl
  rw [Nat.add_zero] at s0
  rw [s0]
  have s1 := cellsBy_set cellC 3 cellC_len .off (raw.set i ⟨h, (raw.getD i .off).key, (raw.getD i .off).seq⟩) i 1 (.int .i64 k) ⟨h, k, (raw.getD i .off).seq⟩ (by simpa using hi) (by omega) (by rw [getD_set' _ _ _ _ _ hi, if_pos rfl]; rfl)
  rw [s1, List.set_set]
  have s2 := cellsBy_set cellC 3 cellC_len .off (raw.set i ⟨h, k, (raw.getD i .off).seq⟩) i 2 (.int .u64 q) ⟨h, k, q⟩ (by simpa using hi) (by omega) (by rw [getD_set' _ _ _ _ _ hi, if_pos rfl]; rfl)
  rw [s2, List.set_set]
theorem cells_below {p : Nat} {W : WS} {s : Int} {w w' : World} {F : Nat → Prop} (h : (Ob.cells p W s).holds w F) (hb : Below w.heap.size w w') : ∃ F', (Ob.cells p W s).holds w' F' ∧ Moved F F' w w' :=
  ⟨F, (Ob.cells p W s).keeps h (Keeps.of_below_all hb (fun _ => False)) (fun _ _ x => x), Moved.of_below hb⟩
/-- All three cells of one slot are written. -/
theorem parts_put {F0 : Nat → Prop} {W0 w : World} {p : Nat} {N : NS} {raw : List CellD} {s : Int} {pn g c bm : Nat} {f : Int → Int} (hs : Stage F0 W0 (cellParts p N raw s pn (.slice (some ⟨g, 0, none⟩) raw.length c) bm f) w) (i : Nat) (hi : i < raw.length) (d : CellD) :
    Stage F0 W0 (cellParts p N (raw.set i d) s pn (.slice (some ⟨g, 0, none⟩) (raw.set i d).length c) bm f) (((w.setCell ⟨g, i * 3, none⟩ (.int .i64 d.home)).setCell ⟨g, i * 3 + 1, none⟩ (.int .i64 d.key)).setCell ⟨g, i * 3 + 2, none⟩ (.int .u64 d.seq)) := by
  have h3 := ((hs.storeRow 2 rfl (i * 3) (.int .i64 d.home) rfl).storeRow 2 rfl (i * 3 + 1) (.int .i64 d.key) rfl).storeRow 2 rfl (i * 3 + 2) (.int .u64 d.seq) (cellC_put raw i hi d)
  rw [List.length_set]
  unfold cellParts
  rw [List.length_set]
  exact h3
def NewPostC (w : World) (n : Nat) (e : Ending) (w' : World) : Prop :=
  ∃ p, e = .returned (.tuple #[.pointer (some ⟨p, 0, none⟩), .int .i64 0]) ∧ ∃ F', (Ob.cells p (newW n) 0).holds w' F' ∧ (∀ k, F' k → w.heap.size ≤ k) ∧ Below w.heap.size w w'
theorem info_cell : (Try.prog.info? 122).map (fun i => (i.zero, i.size, i.bytes)) = some (some (.agg #[.int .i64 0, .int .i64 0, .int .u64 0]), 3, 24) := by kernel_rfl
theorem new_cl (n : Nat) (hn : n ≤ 65536) (w : World) : Calls Try.prog 32 #[.int .i64 n] w (NewPostC w n) := by
  have hmk := run_make_rows (P := Try.prog) 36 122 _ 3 24 Try.underlying36 info_cell n (by omega) (by omega)
  have hmm := @run_makeMap Try.prog
  have hN := new_nm 0 65536 w (Nat.le_refl _) (Nat.zero_le _)
  go_enter Try.func32, Try.ntmps32
  go_wp2_with fail
  refine hN.mono ?_
  rintro e w1 ⟨rfl, F1, hn1, hF1, hb1⟩
  have hs : Stage (fun _ => False) w [Ob.names 0 (w.heap.size + 1) (newN 65536)] w1 := (Stage.start w).add hb1 hn1 hF1
  generalize w.heap.size + 1 = pn at *
  go_wp2_with fail
  go_ret2
  have hs2 := ((hs.newRow 122 3 n (madeCells #[.int .i64 0, .int .i64 0, .int .u64 0] (n * 3)) (size_madeCells _ _) (by unfold maxLen; omega)).newMap Try.prog 3 3 65537 (b := w1.heap.size + 1) (size_alloc _ _)).alloc' #[.int .i64 0, .pointer (some ⟨pn, 0, none⟩), .slice (some ⟨w1.heap.size, 0, none⟩) n n, .map (some (w1.heap.size + 1))] 39 (b := w1.heap.size + 1 + 1) (by rw [size_alloc, size_alloc])
  rw [made_rows cellC_len (by decide) .off #[.int .i64 0, .int .i64 0, .int .u64 0] rfl n] at hs2
  have hs3 := hs2.select [3, 0, 1, 2] (by decide) rfl
  have hl : (List.replicate n CellD.off).length = n := List.length_replicate
  have hs4 : ∀ w', Stage (fun _ => False) w [_, _, _, _] w' → Stage (fun _ => False) w (cellParts (w1.heap.size + 1 + 1) (newN 65536) (List.replicate n .off) 0 pn (.slice (some ⟨w1.heap.size, 0, none⟩) n n) (w1.heap.size + 1) (fun _ => 0)) w' := fun w' h => by
    unfold cellParts
    rw [hl]
    exact h
  obtain ⟨F', h1, h2, h3⟩ := (hs4 _ hs3).closeNew
  have hf : (fun _ => 0) = fun y : Int => (lenW (newW n) y : Int) := by
    funext y
    have : lenW (newW n) y = 0 := by
      unfold lenW
      split
      · rename_i hy
        rw [List.countP_eq_zero]
        intro c hc
        have : c = .off := List.eq_of_mem_replicate hc
        subst this
        have : ¬ ((0 : Int) = y) := by omega
        simpa [CellD.off] using this
      · rfl
    rw [this]; rfl
  rw [hf] at h1
  exact ⟨_, rfl, F', ⟨_, _, _, _, _, new_rfit hn, abs_new.symm, by decide, h1⟩, h2, h3⟩
theorem new_no (n : Int) (w : World) (hn : ¬ (0 ≤ n ∧ n ≤ 65536)) :
    Calls Try.prog 32 #[.int .i64 n] w fun e w' => e = .returned (.tuple #[.pointer none, .int .i64 31]) ∧ w = w' := by
  go_enter Try.func32, Try.ntmps32
  go_wp2
  all_goals first
  | (go_ret2; exact ⟨rfl, rfl⟩)
  | (exfalso; apply hn; simp_all; try omega)

section
variable {w : World} {p : Nat} {W : WS} {s : Int} {F : Nat → Prop}
theorem make_cl (h : (Ob.cells p W s).holds w F) : Calls Try.prog 29 #[.pointer (some ⟨p, 0, none⟩)] w fun e w' => e = .returned (.int .i64 (madeW W)) ∧ ∃ F', (Ob.cells p (makeW W) s).holds w' F' ∧ Moved F F' w w' := by
  have hF := (Ob.cells p W s).lt h
  obtain ⟨N, raw, pn, v, bm, hR, rfl, hr, h⟩ := h
  have hs := Ob.group.open h
  have c1 := parts_c1 hs
  obtain ⟨e1, e2⟩ := abs_make hR
  have hl : ∀ y, lenW (makeW (absW N raw)) y = lenW (absW N raw) y := fun y => by unfold makeW; split <;> rfl
  have hK := hs.call 1 rfl (O' := Ob.names 0 pn (afterM N)) (fun _ ho => make_nm ho)
  rw [abs_made hR]
  clear h
  go_enter Try.func29, Try.ntmps29
  go_wp2_with fail
  refine hK.mono ?_
  rintro e w1 ⟨rfl, hs1⟩
  go_wp2_with fail
  go_ret
  exact ⟨rfl, cells_close hs1 hF e2 e1.symm (fun y => by rw [hl]) hr⟩
theorem put_cl (y x k q : Int) (h : (Ob.cells p W s).holds w F) : Calls Try.prog 48 #[.pointer (some ⟨p, 0, none⟩), .int .i64 y, .int .i64 x, .agg #[.int .i64 k, .int .u64 q]] w fun e w' => e = .returned (.bool (putB W y x)) ∧ ∃ F', (Ob.cells p (putW W y x k q) s).holds w' F' ∧ Moved F F' w w' := by
  have hF := (Ob.cells p W s).lt h
  have hb0 : Below w.heap.size w (w.alloc (.cells #[.int .i64 k, .int .u64 q] 63)) := (Below.refl _ _).alloc (Nat.le_refl _) _
  obtain ⟨F0, h0, m0⟩ := cells_below h hb0
  have hH := has_cl y h0
  have hno : putB W y x = false → putW W y x k q = W := fun e => by simp [putW, e]
  cases c1 : hasW W y
  · have e1 : putB W y x = false := by simp [putB, c1]
    rw [c1] at hH
    rw [e1, hno e1]
    go_enter Try.func48, Try.ntmps48
    go_wp2_with fail
    refine hH.mono ?_
    rintro e w1 ⟨rfl, rfl⟩
    go_wp2_with fail
    go_ret
    exact ⟨rfl, F0, h0, m0⟩
  · rw [c1] at hH
    have h' := h
    obtain ⟨N, raw, pn, v, bm, hR, rfl, hr, hg⟩ := h'
    have hs := (Ob.group.open hg).alloc #[.int .i64 k, .int .u64 q] 63
    have hS := has_st (hs.take 4) hR.cap x
    have hA := at_st (hs.take 4) hR.cap x
    cases c2 : slotR raw x
    · have e1 : putB (absW N raw) y x = false := by simp [putB, abs_slot, c2]
      rw [c2] at hS
      rw [e1, hno e1]
      clear hA hg
      go_enter Try.func48, Try.ntmps48
      go_wp2_with fail
      refine hH.mono ?_
      rintro e w1 ⟨rfl, rfl⟩
      go_wp2_with fail
      refine hS.mono ?_
      rintro e w1 ⟨rfl, rfl⟩
      go_wp2_with fail
      go_ret
      exact ⟨rfl, F0, h0, m0⟩
    · rw [c2] at hS
      have hin := abs_in hR x
      have hD := fun w => held_any (rawAt raw x) w
      rw [← hin] at hD
      cases c3 : inW (absW N raw) x
      · have e1 : putB (absW N raw) y x = true := by simp [putB, abs_slot, c1, c2, c3]
        rw [c3] at hD
        clear hin c1 c2 c3 hno h0 m0
        obtain ⟨i, j, rfl, rfl, i1, i2, hj, e2, hR2, hlen⟩ := abs_put (k := k) (s := q) hR e1
        rw [e1]
        simp only [cellV] at hA hD
        generalize rawAt raw (j : Int) = d at *
        go_enter Try.func48, Try.ntmps48
        go_wp2_with fail
        refine hH.mono ?_
        rintro e w1 ⟨rfl, rfl⟩
        go_wp2_with fail
        refine hS.mono ?_
        rintro e w1 ⟨rfl, rfl⟩
        go_wp2_with fail
        refine hA.mono ?_
        rintro e w1 ⟨rfl, hb1⟩
        go_wp2_with fail
        refine (hD _).mono ?_
        rintro e w2 ⟨rfl, rfl⟩
        replace hs := (hs.later hb1).later ((Below.refl _ _).alloc (Nat.le_refl _) (.cells #[.int .i64 d.home, .int .i64 d.key, .int .u64 d.seq] 122))
        generalize hb5 : w.heap.size = b5 at *
        generalize w1.alloc _ = V at *
        have hp : Stage F w (cellParts p N raw s pn v bm fun y => lenW (absW N raw) y) V := hs.take 4
        obtain ⟨g, c, rfl, hc1, hc2, hgp, hg, u0, u1, u2, hf⟩ := parts_row hp j hj
        have c2 := parts_c2 hp
        have k0 : V.cell? ⟨b5, 0, none⟩ = some (.int .i64 k) := hs.cell 4 rfl rfl
        have k1 : V.cell? ⟨b5, 1, none⟩ = some (.int .u64 q) := hs.cell 4 rfl rfl
        have hf0 := hf (j * 3)
        have hf1 := hf (j * 3 + 1)
        have hf2 := hf (j * 3 + 2)
        obtain ⟨V2, hV2, hp2⟩ : ∃ V2, (((V.setCell ⟨g, j * 3, none⟩ (.int .i64 i)).setCell ⟨g, j * 3 + 1, none⟩ (.int .i64 k)).setCell ⟨g, j * 3 + 2, none⟩ (.int .u64 q)).drew = V2 ∧ Stage F w (cellParts p N (raw.set j ⟨i, k, q⟩) s pn (.slice (some ⟨g, 0, none⟩) (raw.set j ⟨i, k, q⟩).length c) bm fun y => lenW (absW N raw) y) V2 := ⟨_, rfl, (parts_put hp j hj ⟨i, k, q⟩).drew⟩
        have hcap := hR.cap
        have hlp := len_le (absW N raw) i
        rw [abs_len] at hlp
        have hNl := hR.nfit.lenLe
        clear hf hp hs hA hS hH hD hb1 h hg hgp
        generalize hn : raw.length = n at *
        go_wp2_with fail
        go_region
        clear hV2
        go_wp2_with fail
        refine (grow_st hp2 i (by omega) (lenW (absW N raw) i) 1 (lenW (absW N raw) i + 1) rfl rfl (by omega)).mono ?_
        rintro e w3 ⟨rfl, hs3⟩
        go_wp2_with fail
        go_ret
        exact ⟨rfl, cells_close hs3 (by rw [hb5]; exact hF) hR2 e2 (fun y => by rw [hlen]; rfl) hr⟩
      · have e1 : putB (absW N raw) y x = false := by simp [putB, abs_slot, c1, c2, c3]
        rw [c3] at hD
        rw [e1, hno e1]
        simp only [cellV] at hA hD
        generalize rawAt raw x = d at *
        go_enter Try.func48, Try.ntmps48
        go_wp2_with fail
        refine hH.mono ?_
        rintro e w1 ⟨rfl, rfl⟩
        go_wp2_with fail
        refine hS.mono ?_
        rintro e w1 ⟨rfl, rfl⟩
        go_wp2_with fail
        refine hA.mono ?_
        rintro e w1 ⟨rfl, hb1⟩
        go_wp2_with fail
        refine (hD _).mono ?_
        rintro e w2 ⟨rfl, rfl⟩
        have hb2 := below_chain hb0 hb1
        go_wp2_with fail
        go_ret
        exact ⟨rfl, cells_below h (hb2.alloc hb2.size _)⟩
theorem drop_cl (x : Int) (h : (Ob.cells p W s).holds w F) : Calls Try.prog 73 #[.pointer (some ⟨p, 0, none⟩), .int .i64 x] w fun e w' => e = .returned (.bool (inW W x)) ∧ ∃ F', (Ob.cells p (dropW W x) s).holds w' F' ∧ Moved F F' w w' := by
  have hH := home_cl x h
  cases c1 : inW W x
  · have e1 : dropW W x = W := by simp [dropW, c1]
    rw [c1] at hH
    rw [e1]
    go_enter Try.func73, Try.ntmps73
    go_wp2_with fail
    refine hH.mono ?_
    rintro e w1 ⟨rfl, hm⟩
    go_wp2_with fail
    go_ret
    exact ⟨rfl, hm⟩
  · rw [c1] at hH
    go_enter Try.func73, Try.ntmps73
    go_wp2_with fail
    refine hH.mono ?_
    rintro e w1 ⟨rfl, F1, h1, m1⟩
    have hF := (Ob.cells p W s).lt h1
    obtain ⟨N, raw, pn, v, bm, hR, rfl, hr, hg⟩ := h1
    obtain ⟨j, r, rfl, hj, r1, r2, er, e2, hR2, hlen⟩ := abs_drop hR c1
    have hp := Ob.group.open hg
    obtain ⟨g, c, rfl, hc1, hc2, hgp, hg, u0, u1, u2, hf⟩ := parts_row hp j hj
    have c2 := parts_c2 hp
    have hf0 := hf (j * 3)
    have hf1 := hf (j * 3 + 1)
    have hf2 := hf (j * 3 + 2)
    obtain ⟨V2, hV2, hp2⟩ : ∃ V2, ((w1.setCell ⟨g, j * 3, none⟩ (.int .i64 0)).setCell ⟨g, j * 3 + 1, none⟩ (.int .i64 0)).setCell ⟨g, j * 3 + 2, none⟩ (.int .u64 0) = V2 ∧ Stage F1 w1 (cellParts p N (raw.set j .off) s pn (.slice (some ⟨g, 0, none⟩) (raw.set j .off).length c) bm fun y => lenW (absW N raw) y) V2 := ⟨_, rfl, parts_put hp j hj .off⟩
    have hcap := hR.cap
    have hlp := len_le (absW N raw) r
    rw [abs_len] at hlp
    have hNl := hR.nfit.lenLe
    rw [← er]
    clear hf hp hH h hgp er
    generalize hn : raw.length = n at *
    go_wp2_with fail
    refine (grow_st hp2 r (by omega) (lenW (absW N raw) r) (-1) (lenW (absW N raw) r - 1) rfl (by omega) (by omega)).mono ?_
    rintro e w3 ⟨rfl, hs3⟩
    go_wp2_with fail
    go_ret
    obtain ⟨F2, h2, m2⟩ := cells_close hs3 hF hR2 e2 (fun y => by rw [hlen]; rfl) hr
    exact ⟨rfl, F2, h2, m1.trans m2⟩
end
end Go.Proofs.Ytcjjglaimfhofaa
