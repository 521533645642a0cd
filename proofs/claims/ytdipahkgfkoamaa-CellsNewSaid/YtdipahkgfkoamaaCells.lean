/- The program's cells in memory, and what each of the package's functions returns that only looks. -/
import Derived.Test.YtdipahkgfkoamaaStage
import Derived.Test.YtdipahkgfkoamaaCellsMath
import Derived.Test.YtdipahkgfkoamaaNames3
import Derived.Test.YtdipahkgfkoamaaLess
namespace Go.Proofs.Ytdipahkgfkoamaa
open Go.RowKit Go.Sort

def cellC (c : CellD) : List Value := [.int .i64 c.home, .int .i64 c.key, .int .u64 c.seq]
theorem cellC_len (c : CellD) : (cellC c).length = 3 := rfl
def cellV (c : CellD) : Value := .agg #[.int .i64 c.home, .int .i64 c.key, .int .u64 c.seq]
/-- Names as a thing. -/
def Ob.names (B p : Nat) (N : NS) : Ob where
  holds w F := NR w B p F N
  keeps h k hn := NR.keeps h k hn
  lt h k hk := (NR.lt h k hk).2
/-- What cells are made of: the block, names, the row of slots, and the map of sizes. -/
def cellParts (p : Nat) (N : NS) (raw : List CellD) (s : Int) (pn : Nat) (v : Value) (bm : Nat) (f : Int → Int) : List Ob :=
  [Ob.box p #[.int .i64 s, .pointer (some ⟨pn, 0, none⟩), v, .map (some bm)] 36,
   Ob.names 0 pn N,
   Ob.row 0 72 3 v raw.length (cellsBy cellC raw),
   Ob.imap Try.prog 3 3 bm f 65537]
/-- At p lie cells that tell the nest W; s steps were counted. -/
def Ob.cells (p : Nat) (W : WS) (s : Int) : Ob where
  holds w F := ∃ N raw pn v bm, RFit N raw ∧ W = absW N raw ∧ (0 ≤ s ∧ s ≤ 4611686018427387904) ∧ (Ob.group (cellParts p N raw s pn v bm (fun y => lenW W y))).holds w F
  keeps := by
    rintro w w' F G ⟨N, raw, pn, v, bm, h1, h2, h3, h⟩ k hn
    exact ⟨N, raw, pn, v, bm, h1, h2, h3, (Ob.group _).keeps h k hn⟩
  lt := by
    rintro w F ⟨N, raw, pn, v, bm, h1, h2, h3, h⟩
    exact (Ob.group _).lt h
theorem Ob.cells.fit {p : Nat} {W : WS} {s : Int} {w : World} {F : Nat → Prop} (h : (Ob.cells p W s).holds w F) : W.Fit := by
  obtain ⟨N, raw, pn, v, bm, h1, rfl, _, _⟩ := h
  exact abs_fit h1
theorem Ob.cells.steps {p : Nat} {W : WS} {s : Int} {w : World} {F : Nat → Prop} (h : (Ob.cells p W s).holds w F) : 0 ≤ s ∧ s ≤ 4611686018427387904 := by
  obtain ⟨N, raw, pn, v, bm, _, _, h3, _⟩ := h
  exact h3
theorem zero_int (w : World) : (zeroValue 3).run Try.prog w = .ok (.int .i64 0) w := by kernel_rfl

section
variable {F0 : Nat → Prop} {W0 w : World} {p : Nat} {N : NS} {raw : List CellD} {s : Int} {pn : Nat} {v : Value} {bm : Nat} {f : Int → Int}
theorem parts_c0 (h : Stage F0 W0 (cellParts p N raw s pn v bm f) w) : w.cell? ⟨p, 0, none⟩ = some (.int .i64 s) := h.cell 0 rfl rfl
theorem parts_c1 (h : Stage F0 W0 (cellParts p N raw s pn v bm f) w) : w.cell? ⟨p, 1, none⟩ = some (.pointer (some ⟨pn, 0, none⟩)) := h.cell 0 rfl rfl
theorem parts_c2 (h : Stage F0 W0 (cellParts p N raw s pn v bm f) w) : w.cell? ⟨p, 2, none⟩ = some v := h.cell 0 rfl rfl
theorem parts_c3 (h : Stage F0 W0 (cellParts p N raw s pn v bm f) w) : w.cell? ⟨p, 3, none⟩ = some (.map (some bm)) := h.cell 0 rfl rfl
theorem parts_form (h : Stage F0 W0 (cellParts p N raw s pn v bm f) w) : ∃ a c, v = .slice a raw.length c ∧ raw.length ≤ c ∧ c ≤ 9223372036854775807 := by
  obtain ⟨a, c, h1, h2, h3⟩ := owns_form (h.owns 2 rfl)
  exact ⟨a, c, h1, h2, by unfold maxLen at h3; omega⟩
theorem parts_row (h : Stage F0 W0 (cellParts p N raw s pn v bm f) w) (i : Nat) (hi : i < raw.length) : ∃ g c, v = .slice (some ⟨g, 0, none⟩) raw.length c ∧ raw.length ≤ c ∧ c ≤ 9223372036854775807 ∧ g ≠ p ∧ g < w.heap.size ∧
    w.cell? ⟨g, i * 3, none⟩ = some (.int .i64 (raw.getD i .off).home) ∧ w.cell? ⟨g, i * 3 + 1, none⟩ = some (.int .i64 (raw.getD i .off).key) ∧ w.cell? ⟨g, i * 3 + 2, none⟩ = some (.int .u64 (raw.getD i .off).seq) ∧ ∀ o, w.frozen? ⟨g, o, none⟩ = false := by
  obtain ⟨g, c, hv, h1, h2, _, h4, hc, hf⟩ := owns_at cellC_len .off (h.owns 2 rfl) rfl (by omega)
  have hne := h.rowNe 2 0 rfl rfl (by decide)
  subst hv
  exact ⟨g, c, rfl, h1, by unfold maxLen at h2; omega, fun e => hne (by rw [← e]; rfl), h4, hc i 0 _ hi (by omega) rfl, hc i 1 _ hi (by omega) rfl, hc i 2 _ hi (by omega) rfl, hf⟩

theorem held_any (c : CellD) (w : World) : Calls Try.prog 33 #[cellV c] w fun e w' => e = .returned (.bool (c.home != 0)) ∧ w' = w.alloc (.cells #[.int .i64 c.home, .int .i64 c.key, .int .u64 c.seq] 72) := by
  obtain ⟨h, k, q⟩ := c
  have hA : ((h : Int) != 0) = (h != 0) := by
    by_cases e : h = 0
    · subst e; rfl
    · have e' : (h : Int) ≠ 0 := by omega
      rw [bne_iff_ne.2 e, bne_iff_ne.2 e']
  simp only [← hA, cellV]
  clear hA
  go_enter Try.func33, Try.ntmps33
  go_wp2
  go_ret
  exact ⟨rfl, rfl⟩
theorem has_st (h : Stage F0 W0 (cellParts p N raw s pn v bm f) w) (hraw : raw.length ≤ 65536) (x : Int) :
    Calls Try.prog 31 #[.pointer (some ⟨p, 0, none⟩), .int .i64 x] w fun e w' => e = .returned (.bool (slotR raw x)) ∧ w = w' := by
  obtain ⟨a, c, rfl, hc1, hc2⟩ := parts_form h
  have c2 := parts_c2 h
  unfold slotR
  by_cases hx : 0 ≤ x
  · have hd := Lib.hid (show decide (0 ≤ x ∧ x < (raw.length : Int)) = decide (x < (raw.length : Int)) by congr 1; apply propext; omega)
    rw [hd.out]
    clear h hd
    generalize raw.length = n at *
    go_enter Try.func31, Try.ntmps31
    go_wp2
    go_ret
    exact ⟨rfl, rfl⟩
  · rw [decide_eq_false (fun e => hx e.1)]
    clear h
    generalize raw.length = n at *
    go_enter Try.func31, Try.ntmps31
    go_wp2
    go_ret
    exact ⟨rfl, rfl⟩
theorem at_st (h : Stage F0 W0 (cellParts p N raw s pn v bm f) w) (hraw : raw.length ≤ 65536) (x : Int) :
    Calls Try.prog 32 #[.pointer (some ⟨p, 0, none⟩), .int .i64 x] w fun e w' => e = .returned (cellV (rawAt raw x)) ∧ Below w.heap.size w w' := by
  have hH := fun w (h : Stage F0 W0 (cellParts p N raw s pn v bm f) w) => has_st h hraw x
  unfold rawAt
  have hh := hH _ (h.later ((Below.refl _ w).alloc (Nat.le_refl _) (.cells #[.int .i64 0, .int .i64 0, .int .u64 0] 72)))
  cases hs : slotR raw x
  · rw [hs] at hh
    go_enter Try.func32, Try.ntmps32
    go_wp2_with fail
    refine hh.mono ?_
    rintro e w1 ⟨rfl, rfl⟩
    go_wp2_with fail
    refine bodyPost_ret (v := cellV .off) (by simp [results, Try.results32, go_sem]; rfl) rfl ⟨rfl, (Below.refl _ _).alloc (Nat.le_refl _) _⟩
  · simp only [slotR, decide_eq_true_eq] at hs
    rw [show slotR raw x = true by simpa [slotR] using hs] at hh
    obtain ⟨i, rfl⟩ : ∃ i : Nat, x = i := ⟨x.toNat, by omega⟩
    have hi : i < raw.length := by omega
    obtain ⟨g, c, rfl, hc1, hc2, hgp, hg, e0, e1, e2, hf⟩ := parts_row h i hi
    have c2 := parts_c2 h
    have hp := h.lt 0 rfl
    rw [if_pos rfl, Int.toNat_natCast]
    generalize raw.getD i .off = d at *
    clear hs hf h
    generalize raw.length = n at *
    go_enter Try.func32, Try.ntmps32
    go_wp2_with fail
    refine hh.mono ?_
    rintro e w1 ⟨rfl, rfl⟩
    go_wp2_with fail
    refine bodyPost_ret (v := cellV d) (by simp [results, Try.results32, go_sem]; rfl) rfl ⟨rfl, (Below.refl _ _).alloc (Nat.le_refl _) _⟩
end
end Go.Proofs.Ytdipahkgfkoamaa
