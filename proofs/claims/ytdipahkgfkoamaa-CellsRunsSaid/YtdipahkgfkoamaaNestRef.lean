/- The document's nest in memory, and what its functions that only look return. -/
import Derived.Test.YtdipahkgfkoamaaStageAppend
import Derived.Test.YtdipahkgfkoamaaNestMath
import Derived.Test.YtdipahkgfkoamaaLess
import Derived.Deep.RegionLaw
import Derived.Deep.RegionHeld3
import Derived.Deep.DeepCutAuto
namespace Go.Proofs.Ytdipahkgfkoamaa
open Go.RowKit Go.Sort

def boolC (b : Bool) : List Value := [.bool b]
theorem boolC_len (b : Bool) : (boolC b).length = 1 := rfl
def ncellC (c : CellD) : List Value := [.int .i64 c.home, .int .i64 c.key, .int .u64 c.seq]
theorem ncellC_len (c : CellD) : (ncellC c).length = 3 := rfl
/-- hv and cv are the rows of the nest W; nobody writes them. -/
structure NestAt (w : World) (hv cv : Value) (W : WS) : Prop where
  hrow : w.ownsRow 0 4 1 hv W.heaps.length (cellsBy boolC W.heaps)
  crow : w.ownsRow 0 78 3 cv W.cells.length (cellsBy ncellC W.cells)
  hlen : W.heaps.length ≤ 65537
  clen : W.cells.length ≤ 65536
def nestF (hv cv : Value) : Nat → Prop := fun k => rowF hv k ∨ rowF cv k
theorem NestAt.keeps {G : Nat → Prop} {w w' : World} {hv cv : Value} {W : WS} (h : NestAt w hv cv W) (k : Keeps G w w') (hn : ∀ b, nestF hv cv b → ¬ G b) : NestAt w' hv cv W :=
  ⟨owns_keeps h.hrow k (fun b hb => hn b (Or.inl hb)), owns_keeps h.crow k (fun b hb => hn b (Or.inr hb)), h.hlen, h.clen⟩
theorem NestAt.later {w w' : World} {hv cv : Value} {W : WS} (h : NestAt w hv cv W) (hb : Below w.heap.size w w') : NestAt w' hv cv W :=
  h.keeps (Keeps.of_below_all hb (fun _ => False)) (fun _ _ x => x)
theorem NestAt.lt {w : World} {hv cv : Value} {W : WS} (h : NestAt w hv cv W) : ∀ k, nestF hv cv k → k < w.heap.size := by
  rintro k (hk | hk)
  · exact (h.hrow.lt k hk).2
  · exact (h.crow.lt k hk).2
/-- The document's nest as a thing. -/
def Ob.nest (hv cv : Value) (W : WS) : Ob where
  holds w F := NestAt w hv cv W ∧ F = nestF hv cv
  keeps := by rintro w w' F G ⟨h, rfl⟩ k hn; exact ⟨h.keeps k hn, rfl⟩
  lt := by rintro w F ⟨h, rfl⟩; exact h.lt
section
variable {w : World} {hv cv : Value} {W : WS}
theorem NestAt.hform (h : NestAt w hv cv W) : ∃ a c, hv = .slice a W.heaps.length c ∧ W.heaps.length ≤ c ∧ c ≤ 9223372036854775807 := by
  obtain ⟨a, c, h1, h2, h3⟩ := owns_form h.hrow
  exact ⟨a, c, h1, h2, by unfold maxLen at h3; omega⟩
theorem NestAt.cform (h : NestAt w hv cv W) : ∃ a c, cv = .slice a W.cells.length c ∧ W.cells.length ≤ c ∧ c ≤ 9223372036854775807 := by
  obtain ⟨a, c, h1, h2, h3⟩ := owns_form h.crow
  exact ⟨a, c, h1, h2, by unfold maxLen at h3; omega⟩
theorem NestAt.hcell (h : NestAt w hv cv W) (i : Nat) (hi : i < W.heaps.length) : ∃ g c, hv = .slice (some ⟨g, 0, none⟩) W.heaps.length c ∧ g < w.heap.size ∧ w.cell? ⟨g, i, none⟩ = some (.bool (W.heaps.getD i false)) := by
  obtain ⟨g, c, hv, _, _, _, h4, hc, _⟩ := owns_at boolC_len false h.hrow rfl (by omega)
  refine ⟨g, c, hv, h4, ?_⟩
  have := hc i 0 _ hi (by omega) rfl
  rwa [Nat.mul_one, Nat.add_zero] at this
theorem NestAt.ccell (h : NestAt w hv cv W) (i : Nat) (hi : i < W.cells.length) : ∃ g c, cv = .slice (some ⟨g, 0, none⟩) W.cells.length c ∧ g < w.heap.size ∧
    w.cell? ⟨g, i * 3, none⟩ = some (.int .i64 (W.cells.getD i .off).home) ∧ w.cell? ⟨g, i * 3 + 1, none⟩ = some (.int .i64 (W.cells.getD i .off).key) ∧ w.cell? ⟨g, i * 3 + 2, none⟩ = some (.int .u64 (W.cells.getD i .off).seq) := by
  obtain ⟨g, c, hv, _, _, _, h4, hc, _⟩ := owns_at ncellC_len .off h.crow rfl (by omega)
  exact ⟨g, c, hv, h4, hc i 0 _ hi (by omega) rfl, hc i 1 _ hi (by omega) rfl, hc i 2 _ hi (by omega) rfl⟩

theorem refhas_any (y : Int) (h : NestAt w hv cv W) : Calls Try.prog 36 #[.agg #[hv, cv], .int .i64 y] w fun e w' => e = .returned (.bool (hasW W y)) ∧ Below w.heap.size w w' := by
  have hB : Below w.heap.size w (w.alloc (.cells #[hv, cv] 45)) := (Below.refl _ _).alloc (Nat.le_refl _) _
  obtain ⟨a, c, rfl, h1, h2⟩ := h.hform
  have hl := h.hlen
  by_cases hy : 1 ≤ y
  · by_cases hy2 : y < W.heaps.length
    · obtain ⟨i, rfl⟩ : ∃ i : Nat, y = i := ⟨y.toNat, by omega⟩
      obtain ⟨g, c', hv', hg, hc⟩ := h.hcell i (by omega)
      cases hv'
      have e1 : hasW W i = W.heaps.getD i false := by simp [hasW]; omega
      rw [e1]
      generalize W.heaps.getD i false = z at *
      clear h e1
      generalize W.heaps.length = n at *
      have hi : i < n := by omega
      go_enter Try.func36, Try.ntmps36
      go_wp2
      go_ret
      exact ⟨rfl, hB⟩
    · have e1 : hasW W y = false := by simp [hasW]; omega
      rw [e1]
      clear h e1
      generalize W.heaps.length = n at *
      go_enter Try.func36, Try.ntmps36
      go_wp2
      go_ret
      exact ⟨rfl, hB⟩
  · have e1 : hasW W y = false := by simp [hasW]; omega
    rw [e1]
    clear h e1
    generalize W.heaps.length = n at *
    go_enter Try.func36, Try.ntmps36
    go_wp2
    go_ret
    exact ⟨rfl, hB⟩
theorem refin_any (x : Int) (h : NestAt w hv cv W) : Calls Try.prog 25 #[.agg #[hv, cv], .int .i64 x] w fun e w' => e = .returned (.bool (inW W x)) ∧ Below w.heap.size w w' := by
  have hB : Below w.heap.size w (w.alloc (.cells #[hv, cv] 45)) := (Below.refl _ _).alloc (Nat.le_refl _) _
  obtain ⟨a, c, rfl, h1, h2⟩ := h.cform
  have hl := h.clen
  by_cases hx : 0 ≤ x
  · by_cases hx2 : x < W.cells.length
    · obtain ⟨i, rfl⟩ : ∃ i : Nat, x = i := ⟨x.toNat, by omega⟩
      obtain ⟨g, c', hv', hg, hc, _, _⟩ := h.ccell i (by omega)
      cases hv'
      have e1 : inW W i = decide (0 < (W.cells.getD i .off).home) := by
        rw [inW, cell_nat W i (by omega)]
        by_cases e : (W.cells.getD i .off).home = 0
        · rw [e]; rfl
        · rw [bne_iff_ne.2 e, decide_eq_true (by omega)]
      rw [e1]
      generalize W.cells.getD i .off = z at *
      clear h e1
      generalize W.cells.length = n at *
      have hi : i < n := by omega
      go_enter Try.func25, Try.ntmps25
      go_wp2
      go_ret
      exact ⟨rfl, hB⟩
    · have e1 : inW W x = false := by
        have : slotW W x = false := by simp [slotW]; omega
        rw [inW, cell_off this]; rfl
      rw [e1]
      clear h e1
      generalize W.cells.length = n at *
      go_enter Try.func25, Try.ntmps25
      go_wp2
      go_ret
      exact ⟨rfl, hB⟩
  · have e1 : inW W x = false := by
      have : slotW W x = false := by simp [slotW]; omega
      rw [inW, cell_off this]; rfl
    rw [e1]
    clear h e1
    generalize W.cells.length = n at *
    go_enter Try.func25, Try.ntmps25
    go_wp2
    go_ret
    exact ⟨rfl, hB⟩
end
end Go.Proofs.Ytdipahkgfkoamaa
