/- Names in memory, and what each of the package's functions returns. -/
import Derived.Test.YtdfjgmellkmamaaScene
import Derived.Test.YtdfjgmellkmamaaNamesMath
import Derived.Test.YtdfjgmellkmamaaChecked
import Derived.WalkLawsBesides
import Derived.WalkSpells
import Derived.IntWalk
import Derived.StillTailTactics
import Derived.Deep.AppendLies
import Derived.BigRegion
namespace Go.Proofs.Ytdfjgmellkmamaa
open Go.RowKit Go.Sort

def cellsN (l : List Nat) : List Value := l.map fun n : Nat => .int .i64 n
theorem cellsN_length (l : List Nat) : (cellsN l).length = l.length := by simp [cellsN]
theorem cellsN_get (l : List Nat) (i : Nat) (h : i < l.length) : (cellsN l)[i]? = some (.int .i64 (l.getD i 0)) := by
  simp [cellsN, List.getD_eq_getElem?_getD, h]
theorem cellsN_set (l : List Nat) (i n : Nat) : (cellsN l).set i (.int .i64 n) = cellsN (l.set i n) := by
  simp [cellsN, List.map_set]

/-- The names N lie at block p; v is the row, l what it holds. -/
structure NmAt (w : World) (B p : Nat) (v : Value) (l : List Nat) (N : NS) : Prop where
  blk : Blk w p #[.int .i64 N.most, v, .int .i64 N.count] 80
  row : w.ownsRow B 3 1 v l.length (cellsN l)
  base : B ≤ p
  apart : ∀ k, rowF v k → k ≠ p
def nmF (p : Nat) (v : Value) : Nat → Prop := fun k => k = p ∨ rowF v k
theorem NmAt.lt {w : World} {B p : Nat} {v : Value} {l : List Nat} {N : NS} (h : NmAt w B p v l N) : ∀ k, nmF p v k → B ≤ k ∧ k < w.heap.size := by
  rintro k (rfl | hk)
  · exact ⟨h.base, blk_lt h.blk⟩
  · exact h.row.lt k hk
theorem NmAt.keeps {G : Nat → Prop} {w w' : World} {B p : Nat} {v : Value} {l : List Nat} {N : NS} (h : NmAt w B p v l N) (k : Keeps G w w') (hn : ∀ b, nmF p v b → ¬ G b) : NmAt w' B p v l N :=
  ⟨k.blk h.blk (hn p (Or.inl rfl)), owns_keeps h.row k (fun b hb => hn b (Or.inr hb)), h.base, h.apart⟩
theorem NmAt.later {w w' : World} {B p : Nat} {v : Value} {l : List Nat} {N : NS} (h : NmAt w B p v l N) (hb : Below w.heap.size w w') : NmAt w' B p v l N :=
  h.keeps (Keeps.of_below_all hb (fun _ => False)) (fun _ _ x => x)
theorem NmAt.c0 {w : World} {B p : Nat} {v : Value} {l : List Nat} {N : NS} (h : NmAt w B p v l N) : w.cell? ⟨p, 0, none⟩ = some (.int .i64 N.most) := blk_cell h.blk rfl
theorem NmAt.c1 {w : World} {B p : Nat} {v : Value} {l : List Nat} {N : NS} (h : NmAt w B p v l N) : w.cell? ⟨p, 1, none⟩ = some v := blk_cell h.blk rfl
theorem NmAt.c2 {w : World} {B p : Nat} {v : Value} {l : List Nat} {N : NS} (h : NmAt w B p v l N) : w.cell? ⟨p, 2, none⟩ = some (.int .i64 N.count) := blk_cell h.blk rfl
theorem NmAt.free {w : World} {B p : Nat} {v : Value} {l : List Nat} {N : NS} (h : NmAt w B p v l N) (o : Nat) : w.frozen? ⟨p, o, none⟩ = false := blk_free h.blk o
/-- At p lie the names N; their blocks are F, all from B on. -/
def NR (w : World) (B p : Nat) (F : Nat → Prop) (N : NS) : Prop := N.Fit ∧ ∃ v l d, NmAt w B p v l N ∧ Tree l N d ∧ F = nmF p v
theorem NR.lt {w : World} {B p : Nat} {F : Nat → Prop} {N : NS} (h : NR w B p F N) : ∀ k, F k → B ≤ k ∧ k < w.heap.size := by
  obtain ⟨_, v, l, d, h, _, rfl⟩ := h; exact h.lt
theorem NR.fit {w : World} {B p : Nat} {F : Nat → Prop} {N : NS} (h : NR w B p F N) : N.Fit := h.1
theorem NR.keeps {G : Nat → Prop} {w w' : World} {B p : Nat} {F : Nat → Prop} {N : NS} (h : NR w B p F N) (k : Keeps G w w') (hn : ∀ b, F b → ¬ G b) : NR w' B p F N := by
  obtain ⟨hN, v, l, d, h, ht, rfl⟩ := h; exact ⟨hN, v, l, d, h.keeps k hn, ht, rfl⟩
theorem NR.later {w w' : World} {B p : Nat} {F : Nat → Prop} {N : NS} (h : NR w B p F N) (hb : Below w.heap.size w w') : NR w' B p F N := h.keeps (Keeps.of_below_all hb (fun _ => False)) (fun _ _ x => x)
theorem NR.alloc {w : World} {B p : Nat} {F : Nat → Prop} {N : NS} (h : NR w B p F N) (o : Obj) : NR (w.alloc o) B p F N := h.later ((Below.refl _ _).alloc (Nat.le_refl _) o)
def MovedPost (w : World) (B p : Nat) (F : Nat → Prop) (N' : NS) (v : Value) (e : Ending) (w' : World) : Prop :=
  e = .returned v ∧ ∃ F', NR w' B p F' N' ∧ Moved F F' w w'

theorem last_any (p n c : Nat) (a : Option Addr) (hn : 1 ≤ n ∧ n ≤ 65537) (w : World) (h1 : w.cell? ⟨p, 1, none⟩ = some (.slice a n c)) :
    Calls Try.prog 44 #[.pointer (some ⟨p, 0, none⟩)] w fun e w' => e = .returned (.int .i64 ((n : Int) - 1)) ∧ w = w' := by
  obtain ⟨hn1, hn2⟩ := hn
  have e1 : IntKind.i64.wrap ((n : Int) - 1) = (n : Int) - 1 := IntWalk.i64_in _ (by omega)
  go_enter Try.func44, Try.ntmps44
  go_wp2
  go_ret
  exact ⟨rfl, rfl⟩
theorem made_any (p n c : Nat) (a : Option Addr) (s : Int) (hn : 1 ≤ n ∧ n ≤ 65537) (w : World) (h1 : w.cell? ⟨p, 1, none⟩ = some (.slice a n c)) :
    Calls Try.prog 36 #[.pointer (some ⟨p, 0, none⟩), .int .i64 s] w fun e w' => e = .returned (.bool (decide (1 ≤ s ∧ s < n))) ∧ w = w' := by
  by_cases hs : 1 ≤ s
  · have hb : decide (1 ≤ s ∧ s < n) = decide (s ≤ (n : Int) - 1) := by
      congr 1; apply propext; omega
    rw [hb]
    clear hb
    go_enter Try.func36, Try.ntmps36
    go_wp2_with fail
    refine (last_any p n c a hn w h1).mono ?_
    rintro e w1 ⟨rfl, rfl⟩
    go_wp2
    go_ret
    exact ⟨rfl, rfl⟩
  · have hb : decide (1 ≤ s ∧ s < n) = false := by simp [hs]
    rw [hb]
    clear hb
    go_enter Try.func36, Try.ntmps36
    go_wp2
    go_ret
    exact ⟨rfl, rfl⟩
theorem NmAt.slice {w : World} {B p : Nat} {v : Value} {l : List Nat} {N : NS} (h : NmAt w B p v l N) (ht : l.length = N.roots.length) (hN : N.Fit) :
    ∃ g c, v = .slice (some ⟨g, 0, none⟩) l.length c ∧ l.length ≤ c ∧ c ≤ maxLen ∧ g ≠ p ∧ g < w.heap.size ∧ ∀ i, i < l.length → w.cell? ⟨g, i, none⟩ = some (.int .i64 (l.getD i 0)) := by
  have hp := hN.pos
  obtain ⟨g, c, hv, hc, hm, _, hg, hcell⟩ := owns_slice h.row (by omega)
  refine ⟨g, c, hv, hc, hm, h.apart g (by rw [hv]; rfl), hg, fun i hi => hcell _ _ (cellsN_get l i hi)⟩
theorem made_nm {B p : Nat} {F : Nat → Prop} {N : NS} (s : Int) {w : World} (h : NR w B p F N) :
    Calls Try.prog 36 #[.pointer (some ⟨p, 0, none⟩), .int .i64 s] w fun e w' => e = .returned (.bool (madeB N s)) ∧ w = w' := by
  obtain ⟨hN, v, l, d, h, ht, rfl⟩ := h
  obtain ⟨g, c, rfl, _⟩ := h.slice ht.len hN
  have hl := ht.len
  have := hN.pos
  have := hN.lenLe
  refine (made_any p l.length c _ s (by omega) w h.c1).mono ?_
  rintro e w' ⟨rfl, rfl⟩
  exact ⟨by rw [hl]; rfl, rfl⟩
theorem last_nm {B p : Nat} {F : Nat → Prop} {N : NS} {w : World} (h : NR w B p F N) :
    Calls Try.prog 44 #[.pointer (some ⟨p, 0, none⟩)] w fun e w' => e = .returned (.int .i64 ((N.roots.length : Int) - 1)) ∧ w = w' := by
  obtain ⟨hN, v, l, d, h, ht, rfl⟩ := h
  obtain ⟨g, c, rfl, _⟩ := h.slice ht.len hN
  have hl := ht.len
  have := hN.pos
  have := hN.lenLe
  rw [← hl]
  exact last_any p l.length c _ (by omega) w h.c1
theorem has_nm {B p : Nat} {F : Nat → Prop} {N : NS} (s : Int) {w : World} (h : NR w B p F N) :
    Calls Try.prog 22 #[.pointer (some ⟨p, 0, none⟩), .int .i64 s] w fun e w' => e = .returned (.bool (hasB N s)) ∧ w = w' := by
  have hmd := made_nm s h
  obtain ⟨hN, v, l, d, h, ht, rfl⟩ := h
  obtain ⟨g, c, rfl, hc, hm, hgp, hg, hcell⟩ := h.slice ht.len hN
  have c1 := h.c1
  have hl := ht.len
  cases hmb : madeB N s
  · have HA : hasB N s = false := by simp [hasB, hmb]
    rw [HA]
    rw [hmb] at hmd
    clear HA hmb
    go_enter Try.func22, Try.ntmps22
    go_wp2_with fail
    refine hmd.mono ?_
    rintro e w1 ⟨rfl, rfl⟩
    go_wp2
    go_ret
    exact ⟨rfl, rfl⟩
  · obtain ⟨i, rfl⟩ : ∃ i : Nat, s = i := ⟨s.toNat, by simp [madeB] at hmb; omega⟩
    have hi : i < l.length := by simp [madeB] at hmb; omega
    have hlen : l.length ≤ 65537 := by have := hN.lenLe; omega
    have ci := hcell i hi
    have ha := tree_at ht hi
    have HA : hasB N i = ((l.getD i 0 : Int) == i) := by
      simp only [hasB, hmb, Bool.true_and, Int.toNat_natCast]
      rw [Bool.eq_iff_iff]
      simp only [beq_iff_eq, Int.natCast_inj]
      exact ha.symm
    rw [HA]
    rw [hmb] at hmd
    unfold maxLen at hm
    clear HA hmb ha hcell
    generalize l.getD i 0 = x at *
    go_enter Try.func22, Try.ntmps22
    go_wp2_with fail
    refine hmd.mono ?_
    rintro e w1 ⟨rfl, rfl⟩
    clear hmd
    go_wp2
    go_ret
    exact ⟨rfl, rfl⟩
theorem new_none (n : Int) (w : World) (hn : ¬ (0 ≤ n ∧ n ≤ 65536)) :
    Calls Try.prog 35 #[.int .i64 n] w fun e w' => e = .returned (.tuple #[.pointer none, .int .i64 31]) ∧ w = w' := by
  go_enter Try.func35, Try.ntmps35
  go_wp2
  all_goals first
  | (go_ret2; exact ⟨rfl, rfl⟩)
  | (exfalso; apply hn; simp_all; try omega)
end Go.Proofs.Ytdfjgmellkmamaa
