/- Merged of Less, Cells. -/
import Derived.Test.YtdfjgmellkmamaaMem
import Derived.Test.YtdfjgmellkmamaaNestMath
import Derived.Test.YtdfjgmellkmamaaChecked
import Derived.WalkLawsBesides
import Derived.WalkSpells
import Derived.IntWalk
import Derived.StillTailTactics
import Derived.BigRegion
import Derived.Test.YtdfjgmellkmamaaStage
import Derived.Test.YtdfjgmellkmamaaCellsMath
import Derived.Test.YtdfjgmellkmamaaNames3
namespace Go.Proofs.Ytdfjgmellkmamaa
open Go.RowKit Go.Sort

theorem less_any (k1 s1 k2 s2 : Int) (w : World) :
    Calls Try.prog 103 #[.agg #[.int .i64 k1, .int .u64 s1], .agg #[.int .i64 k2, .int .u64 s2]] w fun e w' => e = .returned (.bool (lessB k1 s1 k2 s2)) ∧ Below w.heap.size w w' := by
  by_cases hk : k1 = k2
  · subst hk
    go_enter Try.func103, Try.ntmps103
    go_wp2
    go_ret
    exact ⟨ret_bool (lessB_same _ _ _).symm, ((Below.refl _ _).alloc (Nat.le_refl _) _).alloc (by simp) _⟩
  · have hk1 : (k1 == k2) = false := by simpa using hk
    have hk2 : (k1 != k2) = true := by simpa using hk
    have HL := Lib.hid (lessB_other hk s1 s2)
    clear hk
    go_enter Try.func103, Try.ntmps103
    go_wp2
    go_ret
    exact ⟨ret_bool HL.out.symm, ((Below.refl _ _).alloc (Nat.le_refl _) _).alloc (by simp) _⟩
theorem refLess_any (k1 s1 k2 s2 : Int) (w : World) :
    Calls Try.prog 75 #[.agg #[.int .i64 k1, .int .u64 s1], .agg #[.int .i64 k2, .int .u64 s2]] w fun e w' => e = .returned (.bool (lessB k1 s1 k2 s2)) ∧ Below w.heap.size w w' := by
  by_cases hk : k1 = k2
  · subst hk
    go_enter Try.func75, Try.ntmps75
    go_wp2
    go_ret
    exact ⟨ret_bool (lessB_same _ _ _).symm, ((Below.refl _ _).alloc (Nat.le_refl _) _).alloc (by simp) _⟩
  · have hk1 : (k1 == k2) = false := by simpa using hk
    have hk2 : (k1 != k2) = true := by simpa using hk
    have HL := Lib.hid (lessB_other hk s1 s2)
    clear hk
    go_enter Try.func75, Try.ntmps75
    go_wp2
    go_ret
    exact ⟨ret_bool HL.out.symm, ((Below.refl _ _).alloc (Nat.le_refl _) _).alloc (by simp) _⟩

/-- What a meter shows, when some are counted. -/
def addI (s n : Int) : Int := if n ≤ 0 then s else if 4611686018427387904 - s ≤ n then 4611686018427387904 else s + n
theorem add_range {s : Int} (hs : 0 ≤ s ∧ s ≤ 4611686018427387904) (n : Int) : 0 ≤ addI s n ∧ addI s n ≤ 4611686018427387904 := by
  unfold addI; repeat' split
  all_goals omega
theorem add_one {s : Int} (hs : s < 4611686018427387904) : addI s 1 = s + 1 := by
  unfold addI; repeat' split
  all_goals omega
theorem meter_steps (b o : Nat) (s : Int) (w : World) (hc : w.cell? ⟨b, o, none⟩ = some (.int .i64 s)) :
    Calls Try.prog 11 #[.pointer (some ⟨b, o, none⟩)] w fun e w' => e = .returned (.int .i64 s) ∧ w = w' := by
  go_enter Try.func11, Try.ntmps11
  go_wp2
  go_ret
  exact ⟨rfl, rfl⟩
theorem meter_count (b o : Nat) (s n : Int) (hs : 0 ≤ s ∧ s ≤ 4611686018427387904) (w : World) (hc : w.cell? ⟨b, o, none⟩ = some (.int .i64 s)) (hf : w.frozen? ⟨b, o, none⟩ = false) :
    Calls Try.prog 106 #[.pointer (some ⟨b, o, none⟩), .int .i64 n] w fun e w' => e = .returned (.tuple #[]) ∧ Wrote ⟨b, o, none⟩ (.int .i64 (addI s n)) w w' := by
  obtain ⟨hs0, hs1⟩ := hs
  by_cases hn : n < 0
  · have hw : Wrote ⟨b, o, none⟩ (.int .i64 (addI s n)) w w := by
      have : addI s n = s := by unfold addI; rw [if_pos (by omega)]
      rw [this]
      exact wrote_same hc
    go_enter Try.func106, Try.ntmps106
    go_wp2
    refine bodyPost_ret (results_none rfl _ _ _) rfl ?_
    exact ⟨rfl, hw⟩
  · have HA : Hid (s + (if 4611686018427387904 - s < n then 4611686018427387904 - s else n) = addI s n) := by
      have : s + (if 4611686018427387904 - s < n then 4611686018427387904 - s else n) = addI s n := by
        unfold addI
        repeat' split
        all_goals omega
      exact Lib.hid this
    go_enter Try.func106, Try.ntmps106
    go_wp2
    go_region
    go_end0
    exact ⟨rfl, by rw [← HA.out]; exact ⟨rfl, rfl, rfl, rfl⟩⟩
end Go.Proofs.Ytdfjgmellkmamaa

namespace Go.Proofs.Ytdfjgmellkmamaa
open Go.RowKit Go.Sort

def cellC (c : CellD) : List Value := [.int .i64 c.home, .int .i64 c.key, .int .u64 c.seq]
theorem cellC_len (c : CellD) : (cellC c).length = 3 := rfl
def cellV (c : CellD) : Value := .agg #[.int .i64 c.home, .int .i64 c.key, .int .u64 c.seq]
/-- Names as a thing. -/
def Ob.names (B p : Nat) (N : NS) : Ob where
  holds w F := NR w B p F N
  keeps h k hn := NR.keeps h k hn
  lt h k hk := (NR.lt h k hk).2
/-- What cells are made of: the block, names, the row of slots, and the map of sizes. -/
def cellParts (p : Nat) (N : NS) (raw : List CellD) (s : Int) (pn : Nat) (v : Value) (bm : Nat) (f : Int → Int) : List Ob :=
  [Ob.box p #[.int .i64 s, .pointer (some ⟨pn, 0, none⟩), v, .map (some bm)] 39,
   Ob.names 0 pn N,
   Ob.row 0 98 3 v raw.length (cellsBy cellC raw),
   Ob.imap Try.prog 3 3 bm f 65537]
/-- At p lie cells that tell the nest W; s steps were counted. -/
def Ob.cells (p : Nat) (W : WS) (s : Int) : Ob where
  holds w F := ∃ N raw pn v bm, RFit N raw ∧ W = absW N raw ∧ (0 ≤ s ∧ s ≤ 4611686018427387904) ∧ (Ob.group (cellParts p N raw s pn v bm (fun y => lenW W y))).holds w F
  keeps := by
    rintro w w' F G ⟨N, raw, pn, v, bm, h1, h2, h3, h⟩ k hn
    exact ⟨N, raw, pn, v, bm, h1, h2, h3, (Ob.group _).keeps h k hn⟩
  lt := by
    rintro w F ⟨N, raw, pn, v, bm, h1, h2, h3, h⟩
    exact (Ob.group _).lt h
theorem Ob.cells.fit {p : Nat} {W : WS} {s : Int} {w : World} {F : Nat → Prop} (h : (Ob.cells p W s).holds w F) : W.Fit := by
  obtain ⟨N, raw, pn, v, bm, h1, rfl, _, _⟩ := h
  exact abs_fit h1
theorem Ob.cells.steps {p : Nat} {W : WS} {s : Int} {w : World} {F : Nat → Prop} (h : (Ob.cells p W s).holds w F) : 0 ≤ s ∧ s ≤ 4611686018427387904 := by
  obtain ⟨N, raw, pn, v, bm, _, _, h3, _⟩ := h
  exact h3
theorem zero_int (w : World) : (zeroValue 3).run Try.prog w = .ok (.int .i64 0) w := by kernel_rfl

section
variable {F0 : Nat → Prop} {W0 w : World} {p : Nat} {N : NS} {raw : List CellD} {s : Int} {pn : Nat} {v : Value} {bm : Nat} {f : Int → Int}
theorem parts_c0 (h : Stage F0 W0 (cellParts p N raw s pn v bm f) w) : w.cell? ⟨p, 0, none⟩ = some (.int .i64 s) := h.cell 0 rfl rfl
theorem parts_c1 (h : Stage F0 W0 (cellParts p N raw s pn v bm f) w) : w.cell? ⟨p, 1, none⟩ = some (.pointer (some ⟨pn, 0, none⟩)) := h.cell 0 rfl rfl
theorem parts_c2 (h : Stage F0 W0 (cellParts p N raw s pn v bm f) w) : w.cell? ⟨p, 2, none⟩ = some v := h.cell 0 rfl rfl
theorem parts_c3 (h : Stage F0 W0 (cellParts p N raw s pn v bm f) w) : w.cell? ⟨p, 3, none⟩ = some (.map (some bm)) := h.cell 0 rfl rfl
theorem parts_form (h : Stage F0 W0 (cellParts p N raw s pn v bm f) w) : ∃ a c, v = .slice a raw.length c ∧ raw.length ≤ c ∧ c ≤ 9223372036854775807 := by
  obtain ⟨a, c, h1, h2, h3⟩ := owns_form (h.owns 2 rfl)
  exact ⟨a, c, h1, h2, by unfold maxLen at h3; omega⟩
theorem parts_row (h : Stage F0 W0 (cellParts p N raw s pn v bm f) w) (i : Nat) (hi : i < raw.length) : ∃ g c, v = .slice (some ⟨g, 0, none⟩) raw.length c ∧ raw.length ≤ c ∧ c ≤ 9223372036854775807 ∧ g ≠ p ∧ g < w.heap.size ∧
    w.cell? ⟨g, i * 3, none⟩ = some (.int .i64 (raw.getD i .off).home) ∧ w.cell? ⟨g, i * 3 + 1, none⟩ = some (.int .i64 (raw.getD i .off).key) ∧ w.cell? ⟨g, i * 3 + 2, none⟩ = some (.int .u64 (raw.getD i .off).seq) ∧ ∀ o, w.frozen? ⟨g, o, none⟩ = false := by
  obtain ⟨g, c, hv, h1, h2, _, h4, hc, hf⟩ := owns_at cellC_len .off (h.owns 2 rfl) rfl (by omega)
  have hne := h.rowNe 2 0 rfl rfl (by decide)
  subst hv
  exact ⟨g, c, rfl, h1, by unfold maxLen at h2; omega, fun e => hne (by rw [← e]; rfl), h4, hc i 0 _ hi (by omega) rfl, hc i 1 _ hi (by omega) rfl, hc i 2 _ hi (by omega) rfl, hf⟩

theorem held_any (c : CellD) (w : World) : Calls Try.prog 47 #[cellV c] w fun e w' => e = .returned (.bool (c.home != 0)) ∧ w' = w.alloc (.cells #[.int .i64 c.home, .int .i64 c.key, .int .u64 c.seq] 98) := by
  obtain ⟨h, k, q⟩ := c
  have hA : ((h : Int) != 0) = (h != 0) := by
    by_cases e : h = 0
    · subst e; rfl
    · have e' : (h : Int) ≠ 0 := by omega
      rw [bne_iff_ne.2 e, bne_iff_ne.2 e']
  simp only [← hA, cellV]
  clear hA
  go_enter Try.func47, Try.ntmps47
  go_wp2
  go_ret
  exact ⟨rfl, rfl⟩
theorem has_st (h : Stage F0 W0 (cellParts p N raw s pn v bm f) w) (hraw : raw.length ≤ 65536) (x : Int) :
    Calls Try.prog 45 #[.pointer (some ⟨p, 0, none⟩), .int .i64 x] w fun e w' => e = .returned (.bool (slotR raw x)) ∧ w = w' := by
  obtain ⟨a, c, rfl, hc1, hc2⟩ := parts_form h
  have c2 := parts_c2 h
  unfold slotR
  by_cases hx : 0 ≤ x
  · have hd := Lib.hid (show decide (0 ≤ x ∧ x < (raw.length : Int)) = decide (x < (raw.length : Int)) by congr 1; apply propext; omega)
    rw [hd.out]
    clear h hd
    generalize raw.length = n at *
    go_enter Try.func45, Try.ntmps45
    go_wp2
    go_ret
    exact ⟨rfl, rfl⟩
  · rw [decide_eq_false (fun e => hx e.1)]
    clear h
    generalize raw.length = n at *
    go_enter Try.func45, Try.ntmps45
    go_wp2
    go_ret
    exact ⟨rfl, rfl⟩
theorem at_st (h : Stage F0 W0 (cellParts p N raw s pn v bm f) w) (hraw : raw.length ≤ 65536) (x : Int) :
    Calls Try.prog 46 #[.pointer (some ⟨p, 0, none⟩), .int .i64 x] w fun e w' => e = .returned (cellV (rawAt raw x)) ∧ Below w.heap.size w w' := by
  have hH := fun w (h : Stage F0 W0 (cellParts p N raw s pn v bm f) w) => has_st h hraw x
  unfold rawAt
  have hh := hH _ (h.later ((Below.refl _ w).alloc (Nat.le_refl _) (.cells #[.int .i64 0, .int .i64 0, .int .u64 0] 98)))
  cases hs : slotR raw x
  · rw [hs] at hh
    go_enter Try.func46, Try.ntmps46
    go_wp2_with fail
    refine hh.mono ?_
    rintro e w1 ⟨rfl, rfl⟩
    go_wp2_with fail
    refine bodyPost_ret (v := cellV .off) (by simp [results, Try.results46, go_sem]; rfl) rfl ⟨rfl, (Below.refl _ _).alloc (Nat.le_refl _) _⟩
  · simp only [slotR, decide_eq_true_eq] at hs
    rw [show slotR raw x = true by simpa [slotR] using hs] at hh
    obtain ⟨i, rfl⟩ : ∃ i : Nat, x = i := ⟨x.toNat, by omega⟩
    have hi : i < raw.length := by omega
    obtain ⟨g, c, rfl, hc1, hc2, hgp, hg, e0, e1, e2, hf⟩ := parts_row h i hi
    have c2 := parts_c2 h
    have hp := h.lt 0 rfl
    rw [if_pos rfl, Int.toNat_natCast]
    generalize raw.getD i .off = d at *
    clear hs hf h
    generalize raw.length = n at *
    go_enter Try.func46, Try.ntmps46
    go_wp2_with fail
    refine hh.mono ?_
    rintro e w1 ⟨rfl, rfl⟩
    go_wp2_with fail
    refine bodyPost_ret (v := cellV d) (by simp [results, Try.results46, go_sem]; rfl) rfl ⟨rfl, (Below.refl _ _).alloc (Nat.le_refl _) _⟩
end
end Go.Proofs.Ytdfjgmellkmamaa
