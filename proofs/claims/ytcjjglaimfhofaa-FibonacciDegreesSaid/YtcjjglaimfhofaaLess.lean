/- Merged of Names, Names2, Names3, Less. -/
import Derived.Test.YtcjjglaimfhofaaAppend
import Derived.Test.YtcjjglaimfhofaaCellsMath
import Derived.Test.YtcjjglaimfhofaaChecked
import Derived.WalkLawsBesides
import Derived.WalkSpells
import Derived.IntWalk
import Derived.StillTailTactics
import Derived.Deep.AppendLies
import Derived.BigRegion
import Derived.Deep.RegionLaw
import Derived.Test.YtcjjglaimfhofaaLaw
import Derived.Test.YtcjjglaimfhofaaNestMath
namespace Go.Proofs.Ytcjjglaimfhofaa
open Go.RowKit Go.Sort

def cellsN (l : List Nat) : List Value := l.map fun n : Nat => .int .i64 n
theorem cellsN_length (l : List Nat) : (cellsN l).length = l.length := by simp [cellsN]
theorem cellsN_get (l : List Nat) (i : Nat) (h : i < l.length) : (cellsN l)[i]? = some (.int .i64 (l.getD i 0)) := by
  simp [cellsN, List.getD_eq_getElem?_getD, h]
theorem cellsN_set (l : List Nat) (i n : Nat) : (cellsN l).set i (.int .i64 n) = cellsN (l.set i n) := by
  simp [cellsN, List.map_set]

/-- The names N lie at block p; v is the row, l what it holds. -/
structure NmAt (w : World) (B p : Nat) (v : Value) (l : List Nat) (N : NS) : Prop where
  blk : Blk w p #[.int .i64 N.most, v, .int .i64 N.count] 114
  row : w.ownsRow B 3 1 v l.length (cellsN l)
  base : B ≤ p
  apart : ∀ k, rowF v k → k ≠ p
def nmF (p : Nat) (v : Value) : Nat → Prop := fun k => k = p ∨ rowF v k
theorem NmAt.lt {w : World} {B p : Nat} {v : Value} {l : List Nat} {N : NS} (h : NmAt w B p v l N) : ∀ k, nmF p v k → B ≤ k ∧ k < w.heap.size := by
  rintro k (rfl | hk)
  · exact ⟨h.base, blk_lt h.blk⟩
  · exact h.row.lt k hk
theorem NmAt.keeps {G : Nat → Prop} {w w' : World} {B p : Nat} {v : Value} {l : List Nat} {N : NS} (h : NmAt w B p v l N) (k : Keeps G w w') (hn : ∀ b, nmF p v b → ¬ G b) : NmAt w' B p v l N :=
  ⟨k.blk h.blk (hn p (Or.inl rfl)), owns_keeps h.row k (fun b hb => hn b (Or.inr hb)), h.base, h.apart⟩
theorem NmAt.later {w w' : World} {B p : Nat} {v : Value} {l : List Nat} {N : NS} (h : NmAt w B p v l N) (hb : Below w.heap.size w w') : NmAt w' B p v l N :=
  h.keeps (Keeps.of_below_all hb (fun _ => False)) (fun _ _ x => x)
theorem NmAt.c0 {w : World} {B p : Nat} {v : Value} {l : List Nat} {N : NS} (h : NmAt w B p v l N) : w.cell? ⟨p, 0, none⟩ = some (.int .i64 N.most) := blk_cell h.blk rfl
theorem NmAt.c1 {w : World} {B p : Nat} {v : Value} {l : List Nat} {N : NS} (h : NmAt w B p v l N) : w.cell? ⟨p, 1, none⟩ = some v := blk_cell h.blk rfl
theorem NmAt.c2 {w : World} {B p : Nat} {v : Value} {l : List Nat} {N : NS} (h : NmAt w B p v l N) : w.cell? ⟨p, 2, none⟩ = some (.int .i64 N.count) := blk_cell h.blk rfl
theorem NmAt.free {w : World} {B p : Nat} {v : Value} {l : List Nat} {N : NS} (h : NmAt w B p v l N) (o : Nat) : w.frozen? ⟨p, o, none⟩ = false := blk_free h.blk o
/-- At p lie the names N; their blocks are F, all from B on. -/
def NR (w : World) (B p : Nat) (F : Nat → Prop) (N : NS) : Prop := N.Fit ∧ ∃ v l d, NmAt w B p v l N ∧ Tree l N d ∧ F = nmF p v
theorem NR.lt {w : World} {B p : Nat} {F : Nat → Prop} {N : NS} (h : NR w B p F N) : ∀ k, F k → B ≤ k ∧ k < w.heap.size := by
  obtain ⟨_, v, l, d, h, _, rfl⟩ := h; exact h.lt
theorem NR.fit {w : World} {B p : Nat} {F : Nat → Prop} {N : NS} (h : NR w B p F N) : N.Fit := h.1
theorem NR.keeps {G : Nat → Prop} {w w' : World} {B p : Nat} {F : Nat → Prop} {N : NS} (h : NR w B p F N) (k : Keeps G w w') (hn : ∀ b, F b → ¬ G b) : NR w' B p F N := by
  obtain ⟨hN, v, l, d, h, ht, rfl⟩ := h; exact ⟨hN, v, l, d, h.keeps k hn, ht, rfl⟩
theorem NR.later {w w' : World} {B p : Nat} {F : Nat → Prop} {N : NS} (h : NR w B p F N) (hb : Below w.heap.size w w') : NR w' B p F N := h.keeps (Keeps.of_below_all hb (fun _ => False)) (fun _ _ x => x)
theorem NR.alloc {w : World} {B p : Nat} {F : Nat → Prop} {N : NS} (h : NR w B p F N) (o : Obj) : NR (w.alloc o) B p F N := h.later ((Below.refl _ _).alloc (Nat.le_refl _) o)
def MovedPost (w : World) (B p : Nat) (F : Nat → Prop) (N' : NS) (v : Value) (e : Ending) (w' : World) : Prop :=
  e = .returned v ∧ ∃ F', NR w' B p F' N' ∧ Moved F F' w w'

theorem last_any (p n c : Nat) (a : Option Addr) (hn : 1 ≤ n ∧ n ≤ 65537) (w : World) (h1 : w.cell? ⟨p, 1, none⟩ = some (.slice a n c)) :
    Calls Try.prog 64 #[.pointer (some ⟨p, 0, none⟩)] w fun e w' => e = .returned (.int .i64 ((n : Int) - 1)) ∧ w = w' := by
  obtain ⟨hn1, hn2⟩ := hn
  have e1 : IntKind.i64.wrap ((n : Int) - 1) = (n : Int) - 1 := IntWalk.i64_in _ (by omega)
  go_enter Try.func64, Try.ntmps64
  go_wp2
  go_ret
  exact ⟨rfl, rfl⟩
theorem made_any (p n c : Nat) (a : Option Addr) (s : Int) (hn : 1 ≤ n ∧ n ≤ 65537) (w : World) (h1 : w.cell? ⟨p, 1, none⟩ = some (.slice a n c)) :
    Calls Try.prog 56 #[.pointer (some ⟨p, 0, none⟩), .int .i64 s] w fun e w' => e = .returned (.bool (decide (1 ≤ s ∧ s < n))) ∧ w = w' := by
  by_cases hs : 1 ≤ s
  · have hb : decide (1 ≤ s ∧ s < n) = decide (s ≤ (n : Int) - 1) := by
      congr 1; apply propext; omega
    rw [hb]
    clear hb
    go_enter Try.func56, Try.ntmps56
    go_wp2_with fail
    refine (last_any p n c a hn w h1).mono ?_
    rintro e w1 ⟨rfl, rfl⟩
    go_wp2
    go_ret
    exact ⟨rfl, rfl⟩
  · have hb : decide (1 ≤ s ∧ s < n) = false := by simp [hs]
    rw [hb]
    clear hb
    go_enter Try.func56, Try.ntmps56
    go_wp2
    go_ret
    exact ⟨rfl, rfl⟩
theorem NmAt.slice {w : World} {B p : Nat} {v : Value} {l : List Nat} {N : NS} (h : NmAt w B p v l N) (ht : l.length = N.roots.length) (hN : N.Fit) :
    ∃ g c, v = .slice (some ⟨g, 0, none⟩) l.length c ∧ l.length ≤ c ∧ c ≤ maxLen ∧ g ≠ p ∧ g < w.heap.size ∧ ∀ i, i < l.length → w.cell? ⟨g, i, none⟩ = some (.int .i64 (l.getD i 0)) := by
  have hp := hN.pos
  obtain ⟨g, c, hv, hc, hm, _, hg, hcell⟩ := owns_slice h.row (by omega)
  refine ⟨g, c, hv, hc, hm, h.apart g (by rw [hv]; rfl), hg, fun i hi => hcell _ _ (cellsN_get l i hi)⟩
theorem made_nm {B p : Nat} {F : Nat → Prop} {N : NS} (s : Int) {w : World} (h : NR w B p F N) :
    Calls Try.prog 56 #[.pointer (some ⟨p, 0, none⟩), .int .i64 s] w fun e w' => e = .returned (.bool (madeB N s)) ∧ w = w' := by
  obtain ⟨hN, v, l, d, h, ht, rfl⟩ := h
  obtain ⟨g, c, rfl, _⟩ := h.slice ht.len hN
  have hl := ht.len
  have := hN.pos
  have := hN.lenLe
  refine (made_any p l.length c _ s (by omega) w h.c1).mono ?_
  rintro e w' ⟨rfl, rfl⟩
  exact ⟨by rw [hl]; rfl, rfl⟩
theorem last_nm {B p : Nat} {F : Nat → Prop} {N : NS} {w : World} (h : NR w B p F N) :
    Calls Try.prog 64 #[.pointer (some ⟨p, 0, none⟩)] w fun e w' => e = .returned (.int .i64 ((N.roots.length : Int) - 1)) ∧ w = w' := by
  obtain ⟨hN, v, l, d, h, ht, rfl⟩ := h
  obtain ⟨g, c, rfl, _⟩ := h.slice ht.len hN
  have hl := ht.len
  have := hN.pos
  have := hN.lenLe
  rw [← hl]
  exact last_any p l.length c _ (by omega) w h.c1
theorem has_nm {B p : Nat} {F : Nat → Prop} {N : NS} (s : Int) {w : World} (h : NR w B p F N) :
    Calls Try.prog 34 #[.pointer (some ⟨p, 0, none⟩), .int .i64 s] w fun e w' => e = .returned (.bool (hasB N s)) ∧ w = w' := by
  have hmd := made_nm s h
  obtain ⟨hN, v, l, d, h, ht, rfl⟩ := h
  obtain ⟨g, c, rfl, hc, hm, hgp, hg, hcell⟩ := h.slice ht.len hN
  have c1 := h.c1
  have hl := ht.len
  cases hmb : madeB N s
  · have HA : hasB N s = false := by simp [hasB, hmb]
    rw [HA]
    rw [hmb] at hmd
    clear HA hmb
    go_enter Try.func34, Try.ntmps34
    go_wp2_with fail
    refine hmd.mono ?_
    rintro e w1 ⟨rfl, rfl⟩
    go_wp2
    go_ret
    exact ⟨rfl, rfl⟩
  · obtain ⟨i, rfl⟩ : ∃ i : Nat, s = i := ⟨s.toNat, by simp [madeB] at hmb; omega⟩
    have hi : i < l.length := by simp [madeB] at hmb; omega
    have hlen : l.length ≤ 65537 := by have := hN.lenLe; omega
    have ci := hcell i hi
    have ha := tree_at ht hi
    have HA : hasB N i = ((l.getD i 0 : Int) == i) := by
      simp only [hasB, hmb, Bool.true_and, Int.toNat_natCast]
      rw [Bool.eq_iff_iff]
      simp only [beq_iff_eq, Int.natCast_inj]
      exact ha.symm
    rw [HA]
    rw [hmb] at hmd
    unfold maxLen at hm
    clear HA hmb ha hcell
    generalize l.getD i 0 = x at *
    go_enter Try.func34, Try.ntmps34
    go_wp2_with fail
    refine hmd.mono ?_
    rintro e w1 ⟨rfl, rfl⟩
    clear hmd
    go_wp2
    go_ret
    exact ⟨rfl, rfl⟩
theorem new_none (n : Int) (w : World) (hn : ¬ (0 ≤ n ∧ n ≤ 65536)) :
    Calls Try.prog 53 #[.int .i64 n] w fun e w' => e = .returned (.tuple #[.pointer none, .int .i64 31]) ∧ w = w' := by
  go_enter Try.func53, Try.ntmps53
  go_wp2
  all_goals first
  | (go_ret2; exact ⟨rfl, rfl⟩)
  | (exfalso; apply hn; simp_all; try omega)
end Go.Proofs.Ytcjjglaimfhofaa

namespace Go.Proofs.Ytcjjglaimfhofaa
open Go.RowKit Go.Sort

def NewPost (w : World) (B n : Nat) (e : Ending) (w' : World) : Prop :=
  e = .returned (.tuple #[.pointer (some ⟨w.heap.size + 1, 0, none⟩), .int .i64 0]) ∧ ∃ F, NR w' B (w.heap.size + 1) F (newN n) ∧ (∀ k, F k → w.heap.size ≤ k) ∧ Below w.heap.size w w'
theorem new_nm (B n : Nat) (w : World) (hn : n ≤ 65536) (hB : B ≤ w.heap.size) :
    Calls Try.prog 53 #[.int .i64 n] w (NewPost w B n) := by
  have hmk : ∀ w, (Instr.makeSlice 112 (.int .i64 1) (.int .i64 1)).run Try.prog w = .ok (.slice (some ⟨w.heap.size, 0, none⟩) 1 1) (w.alloc (.cells #[.int .i64 0] 3)) := fun _ => by kernel_rfl
  go_enter Try.func53, Try.ntmps53
  go_wp2
  go_ret2
  have hown := owns_new (w := w) (base := B) (e := 3) (size := 1) (n := 1) (c := #[.int .i64 0]) hB (by decide) (by decide)
  have hown2 := owns_later hown ((Below.refl _ (w.alloc (.cells #[.int .i64 0] 3))).alloc (Nat.le_refl _) (.cells #[.int .i64 n, .slice (some ⟨w.heap.size, 0, none⟩) 1 1, .int .i64 0] 114))
  refine ⟨rfl, nmF (w.heap.size + 1) (.slice (some ⟨w.heap.size, 0, none⟩) 1 1), ⟨new_fit hn, _, [0], _, ⟨?_, ?_, by omega, ?_⟩, tree_new n, rfl⟩, ?_, ?_⟩
  · have := blk_new (w.alloc (.cells #[.int .i64 0] 3)) #[.int .i64 n, .slice (some ⟨w.heap.size, 0, none⟩) 1 1, .int .i64 0] 114
    rw [size_alloc] at this
    exact this
  · exact hown2
  · intro k hk
    have : w.heap.size = k := by simpa [rowF, Value.ownBlock] using hk
    omega
  · rintro k (rfl | hk)
    · omega
    · have : w.heap.size = k := by simpa [rowF, Value.ownBlock] using hk
      omega
  · have b1 : Below w.heap.size w (w.alloc (.cells #[.int .i64 0] 3)) := (Below.refl _ w).alloc (Nat.le_refl _) _
    exact b1.alloc b1.size _

theorem info_int : (Try.prog.info? 3).map (fun i => (i.zero, i.size, i.bytes)) = some (some (.int .i64 0), 1, 8) := by kernel_rfl
theorem make_full {B p : Nat} {F : Nat → Prop} {N : NS} {w : World} (hc : canMake N = false) (h : NR w B p F N) :
    Calls Try.prog 47 #[.pointer (some ⟨p, 0, none⟩)] w fun e w' => e = .returned (.tuple #[.int .i64 0, .bool false]) ∧ Below w.heap.size w w' := by
  have hL := fun w h => last_nm (B := B) (p := p) (F := F) (N := N) (w := w) h
  have h' := h
  obtain ⟨hN, v, l, d, h, ht, rfl⟩ := h
  have c0 := h.c0
  have hm := hN.most
  have hlen := hN.len
  have he : (N.roots.length : Int) - 1 = N.most := by simp [canMake] at hc; omega
  rw [he] at hL
  have cA : ∀ d' os, Calls Try.prog 64 #[.pointer (some ⟨p, 0, none⟩)] (grow (redrawn w d') os) fun e w'' => e = .returned (.int .i64 N.most) ∧ ∃ p : Regrown, w'' = grow (redrawn w p.d) p.os := fun d' os => Calls.regrown_of ((hL _ (h'.later (below_regrown _ _ _))).mono (by rintro e w' ⟨rfl, rfl⟩; exact ⟨rfl, Below.refl _ _⟩))
  have k0 := cell_regrown c0
  clear hL h' he hc
  go_enter Try.func47, Try.ntmps47
  go_wp2
  refine wp_region_quiet_below (by kernel_rfl) (by kernel_rfl) ?_
  repeat (go_big_quiet_step (first | with_reducible exact cA _ _))
  refine wpQuiet_nil ?_
  intro W3 hw'
  replace hw' := below_regrown' hw'
  go_wp2_with fail
  go_ret2
  exact ⟨rfl, hw'⟩
theorem make_one {B p : Nat} {F : Nat → Prop} {N : NS} {w : World} (hc : canMake N = true) (h : NR w B p F N) :
    Calls Try.prog 47 #[.pointer (some ⟨p, 0, none⟩)] w (MovedPost w B p F (makeN N) (.tuple #[.int .i64 N.roots.length, .bool true])) := by
  obtain ⟨i0, hi, hz0, hz1, hz2⟩ := info_parts info_int
  have hL := fun w h => last_nm (B := B) (p := p) (F := F) (N := N) (w := w) h
  have h' := h
  obtain ⟨hN, v, l, d, h, ht, rfl⟩ := h
  obtain ⟨g, c, rfl, hlc, hcm, hgp, hg, _⟩ := h.slice ht.len hN
  have hm := hN.most
  have hlen := hN.len
  have hpos := hN.pos
  have hcl := hN.countLe
  have hfit := make_fit hN (by simpa [canMake] using hc)
  have ht' := tree_make ht hN
  have htl := ht.len
  have he : ((N.roots.length : Int) - 1 == N.most) = false := by simp [canMake] at hc ⊢; omega
  have c0 := h.c0
  have hB : B ≤ w.heap.size := by have := h.base; have := blk_lt h.blk; omega
  have cA : ∀ d' os, Calls Try.prog 64 #[.pointer (some ⟨p, 0, none⟩)] (grow (redrawn w d') os) fun e w'' => e = .returned (.int .i64 ((N.roots.length : Int) - 1)) ∧ ∃ p : Regrown, w'' = grow (redrawn w p.d) p.os := fun d' os => Calls.regrown_of ((hL _ (h'.later (below_regrown _ _ _))).mono (by rintro e w' ⟨rfl, rfl⟩; exact ⟨rfl, Below.refl _ _⟩))
  have k0 := cell_regrown c0
  have hlt : l.length ≤ 65536 := by simp [canMake] at hc; omega
  clear hL h' hc
  rw [← htl] at *
  unfold maxLen at hcm
  go_enter Try.func47, Try.ntmps47
  go_wp2
  refine wp_region_quiet_below (by kernel_rfl) (by kernel_rfl) ?_
  repeat (go_big_quiet_step (first | with_reducible exact cA _ _))
  refine wpQuiet_nil ?_
  intro W3 hw'
  replace hw' := below_regrown' hw'
  have h3 := h.later hw'
  have hB3 : B ≤ W3.heap.size := Nat.le_trans hB hw'.size
  clear cA k0 c0
  have c1 := h3.c1
  have c2 := h3.c2
  have f1 := h3.free 1
  have f2 := h3.free 2
  have hp3 := blk_lt h3.blk
  go_wp2_with (at_builtin; refine wpList_append_lies _ rfl _ _ 112 rfl B 3 i0 (.int .i64 0) 1 8 Try.underlying112 hi hz0 hz1 hz2 rfl (by decide) _ _ _ rfl (h3.row.alloc _) ⟨W3.heap.size, 0, none⟩ 1 1 [.int .i64 l.length] rfl rfl ?c1 ?c2 (by decide) ?c3 ?c4 ?c5 (W3.heap.size + 1) ?c6 ?_)
  case c1 => exact new_cells W3 #[.int .i64 l.length] _ _ rfl
  case c2 => intro u hu; simp at hu; rcases hu with rfl | rfl <;> rfl
  case c3 => unfold maxLen; omega
  case c4 => omega
  case c5 => rw [size_alloc]; omega
  case c6 => show (W3.heap.push _).size = _; simp
  intro g2 cap' w2 hown hgrow hlies hlt2
  have kp := grown_keeps hgrow
  have k3 : Keeps (rowF (.slice (some ⟨g, 0, none⟩) l.length c)) W3 w2 := ((Keeps.refl _ W3).alloc _).then (kp.mono fun _ _ h => h)
  have hblk := k3.blk h3.blk (fun e => h.apart p e rfl)
  have d1 : w2.cell? ⟨p, 1, none⟩ = some (.slice (some ⟨g, 0, none⟩) l.length c) := blk_cell hblk rfl
  have d2 : w2.cell? ⟨p, 2, none⟩ = some (.int .i64 N.count) := blk_cell hblk rfl
  have e1 := blk_free hblk 1
  have e2 := blk_free hblk 2
  have hpg : g2 ≠ p := by
    rcases hlies with hl | hl
    · exact h.apart g2 hl
    · omega
  have hgn : rowF (.slice (some ⟨g, 0, none⟩) l.length c) g2 ∨ W3.heap.size ≤ g2 := by
    rcases hlies with hl | hl
    · exact Or.inl hl
    · exact Or.inr (by omega)
  clear hlies kp
  go_wp2
  go_ret2
  have hs : (cellsN (l ++ [l.length])) = cellsN l ++ [.int .i64 l.length] := by simp [cellsN]
  refine ⟨rfl, nmF p (.slice (some ⟨g2, 0, none⟩) (l.length + 1) cap'), ⟨hfit, .slice (some ⟨g2, 0, none⟩) (l.length + 1) cap', l ++ [l.length], d, ⟨?_, ?_, h.base, ?_⟩, ht', rfl⟩, ?_, ?_⟩
  · exact blk_set (blk_set hblk 1 _) 2 _
  · have e : (l ++ [l.length]).length = l.length + 1 := by simp
    rw [hs, e]
    exact owns_set_other (a := ⟨p, 2, none⟩) (owns_set_other (a := ⟨p, 1, none⟩) hown (fun e => hpg (by simpa [Value.ownBlock] using e)) _) (fun e => hpg (by simpa [Value.ownBlock] using e)) _
  · intro k hk
    obtain rfl : g2 = k := by simpa [rowF, Value.ownBlock] using hk
    exact hpg
  · have k4 : Keeps (nmF p (.slice (some ⟨g, 0, none⟩) l.length c)) w w2 := (Keeps.of_below_all hw' _).then (k3.mono fun _ _ hk => Or.inr hk)
    exact (k4.setCell ⟨p, 1, none⟩ (Or.inl (Or.inl rfl)) _).setCell ⟨p, 2, none⟩ (Or.inl (Or.inl rfl)) _
  · rintro k (hk | hk)
    · exact Or.inl (Or.inl hk)
    · obtain rfl : g2 = k := by simpa [rowF, Value.ownBlock] using hk
      rcases hgn with hgn | hgn
      · exact Or.inl (Or.inr hgn)
      · exact Or.inr (Nat.le_trans hw'.size hgn)
/-- Make, of whatever names. -/
theorem make_nm {B p : Nat} {F : Nat → Prop} {N : NS} {w : World} (h : NR w B p F N) :
    Calls Try.prog 47 #[.pointer (some ⟨p, 0, none⟩)] w (MovedPost w B p F (afterM N) (.tuple #[.int .i64 (madeI N), .bool (canMake N)])) := by
  cases hc : canMake N
  · refine (make_full hc h).mono fun e w' ⟨he, hb⟩ => ⟨?_, F, ?_, Moved.of_below hb⟩
    · rw [he]; simp [madeI, hc]
    · simp only [afterM, hc]; exact h.later hb
  · refine (make_one hc h).mono fun e w' ⟨he, F', h', m⟩ => ⟨?_, F', ?_, m⟩
    · rw [he]; simp [madeI, hc]
    · simp only [afterM, hc, if_true]; exact h'

theorem join_no {B p : Nat} {F : Nat → Prop} {N : NS} {a b : Int} {w : World} (hc : joinB N a b = false) (h : NR w B p F N) :
    Calls Try.prog 129 #[.pointer (some ⟨p, 0, none⟩), .int .i64 a, .int .i64 b] w fun e w' => e = .returned (.bool false) ∧ w = w' := by
  have hA := has_nm a h
  have hB := has_nm b h
  clear h
  by_cases hab : a = b
  · subst hab
    clear hA hB hc
    go_enter Try.func129, Try.ntmps129
    go_wp2
    go_ret
    exact ⟨rfl, rfl⟩
  · have hne : (a == b) = false := by simpa using hab
    cases h1 : hasB N a
    · rw [h1] at hA
      clear hB hc h1 hab
      go_enter Try.func129, Try.ntmps129
      go_wp2_with fail
      refine hA.mono ?_
      rintro e w1 ⟨rfl, rfl⟩
      go_wp2
      go_ret
      exact ⟨rfl, rfl⟩
    · have h2 : hasB N b = false := by simpa [joinB, h1, hab] using hc
      rw [h1] at hA
      rw [h2] at hB
      clear hc h1 h2 hab
      go_enter Try.func129, Try.ntmps129
      go_wp2_with fail
      refine hA.mono ?_
      rintro e w1 ⟨rfl, rfl⟩
      go_wp2_with fail
      refine hB.mono ?_
      rintro e w1 ⟨rfl, rfl⟩
      go_wp2
      go_ret
      exact ⟨rfl, rfl⟩
theorem join_yes {B p : Nat} {F : Nat → Prop} {N : NS} {a b : Nat} {w : World} (hab : a ≠ b) (ha : 1 ≤ a ∧ a < N.roots.length) (hb : 1 ≤ b ∧ b < N.roots.length) (ea : N.at a = a) (eb : N.at b = b) (h : NR w B p F N) :
    Calls Try.prog 129 #[.pointer (some ⟨p, 0, none⟩), .int .i64 a, .int .i64 b] w (MovedPost w B p F (joinN N a b) (.bool true)) := by
  have hA := has_nm a h
  have hB := has_nm b h
  rw [has_of ha.1 ha.2 ea] at hA
  rw [has_of hb.1 hb.2 eb] at hB
  have hne : ((a : Int) == b) = false := by simp; omega
  obtain ⟨hN, v, l, d, h, ht, rfl⟩ := h
  obtain ⟨g, c, rfl, hlc, hcm, hgp, hg, hcell⟩ := h.slice ht.len hN
  obtain ⟨hfit, hcnt⟩ := join_fit hN ha hb ea eb hab
  obtain ⟨d', ht'⟩ := tree_join ht ha.2 hb.2 ea eb hab
  have htl := ht.len
  have hlen := hN.lenLe
  have hbl : b < l.length := by omega
  have hcl := hN.countLe
  have hc1 : ((joinN N a b).count : Int) = (N.count : Int) - 1 := by omega
  have c1 := h.c1
  have c2 := h.c2
  have f2 := h.free 2
  have cb := hcell b hbl
  have fb := h.row.frozenAt b
  have hpg : p ≠ g := hgp.symm
  unfold maxLen at hcm
  clear ha hb ea eb hab hcell
  go_enter Try.func129, Try.ntmps129
  go_wp2_with fail
  refine hA.mono ?_
  rintro e w1 ⟨rfl, rfl⟩
  go_wp2_with fail
  refine hB.mono ?_
  rintro e w1 ⟨rfl, rfl⟩
  clear hA hB
  go_wp2
  go_ret
  have hrow : ((w.setCell ⟨g, b, none⟩ (.int .i64 a)).ownsRow B 3 1 (.slice (some ⟨g, 0, none⟩) l.length c) l.length (cellsN (l.set b a))) := by
    have := (h.row.stored b (.int .i64 a)).1
    rw [cellsN_set] at this
    exact this
  refine ⟨rfl, _, ⟨hfit, .slice (some ⟨g, 0, none⟩) l.length c, l.set b a, d', ⟨?_, ?_, h.base, h.apart⟩, ht', rfl⟩, ?_, fun k hk => Or.inl hk⟩
  · have := blk_set (blk_set_other h.blk (a := ⟨g, b, none⟩) hgp (.int .i64 a)) 2 (.int .i64 ((N.count : Int) - 1))
    rw [hc1]
    exact this
  · rw [List.length_set]
    exact owns_set_other (a := ⟨p, 2, none⟩) hrow (fun e => hgp (by simpa [Value.ownBlock] using e)) _
  · exact ((Keeps.refl _ w).setCell ⟨g, b, none⟩ (Or.inl (Or.inr rfl)) _).setCell ⟨p, 2, none⟩ (Or.inl (Or.inl rfl)) _
/-- Join, of whatever names. -/
theorem join_nm {B p : Nat} {F : Nat → Prop} {N : NS} (a b : Int) {w : World} (h : NR w B p F N) :
    Calls Try.prog 129 #[.pointer (some ⟨p, 0, none⟩), .int .i64 a, .int .i64 b] w (MovedPost w B p F (afterJ N a b) (.bool (joinB N a b))) := by
  cases hc : joinB N a b
  · refine (join_no hc h).mono fun e w' ⟨he, hw⟩ => ⟨he, F, ?_, ?_⟩
    · subst hw; simp only [afterJ, hc]; exact h
    · subst hw; exact Moved.refl _ _
  · obtain ⟨i, j, rfl, rfl, hij, hi, hj, ei, ej⟩ := joinB_at hc
    refine (join_yes hij hi hj ei ej h).mono fun e w' ⟨he, F', h', m⟩ => ⟨he, F', ?_, m⟩
    simp only [afterJ, hc, if_true, Int.toNat_natCast]; exact h'
end Go.Proofs.Ytcjjglaimfhofaa

namespace Go.Proofs.Ytcjjglaimfhofaa
open Go.RowKit Go.Sort

theorem root_none {B p : Nat} {F : Nat → Prop} {N : NS} {s : Int} {w : World} (hc : madeB N s = false) (h : NR w B p F N) :
    Calls Try.prog 83 #[.pointer (some ⟨p, 0, none⟩), .int .i64 s] w fun e w' => e = .returned (.tuple #[.int .i64 0, .bool false]) ∧ w = w' := by
  have hM := made_nm s h
  rw [hc] at hM
  clear hc h
  go_enter Try.func83, Try.ntmps83
  go_wp2_with fail
  refine hM.mono ?_
  rintro e w1 ⟨rfl, rfl⟩
  go_wp2
  go_ret2
  exact ⟨rfl, rfl⟩
theorem root_some {B p : Nat} {F : Nat → Prop} {N : NS} {s : Nat} {w : World} (hs : 1 ≤ s ∧ s < N.roots.length) (h : NR w B p F N) :
    Calls Try.prog 83 #[.pointer (some ⟨p, 0, none⟩), .int .i64 s] w (MovedPost w B p F N (.tuple #[.int .i64 (N.at s), .bool true])) := by
  have hM := made_nm (s : Int) h
  rw [show madeB N s = true by simp [madeB]; omega] at hM
  obtain ⟨hN, v, l, d, h, ht, rfl⟩ := h
  have hlen := hN.lenLe
  have hpos := hN.pos
  have htl := ht.len
  obtain ⟨g0, c0, hv, _⟩ := h.slice ht.len hN
  obtain ⟨R, hR⟩ : ∃ R, R = N.at s := ⟨_, rfl⟩
  rw [← hR]
  have hsl : s < l.length := by omega
  obtain ⟨n, hn⟩ : ∃ n, n = l.length := ⟨_, rfl⟩
  subst hv
  rw [← hn] at h hsl htl
  have hnl : n ≤ 65537 := by omega
  have hnr := Lib.hid htl
  clear htl hlen hpos
  go_enter Try.func83, Try.ntmps83
  go_wp2_with fail
  refine hM.mono ?_
  rintro e w1 ⟨rfl, rfl⟩
  clear hM
  go_wp2_with fail
  go_loopw [1] (fun v wr => ∃ (i : Nat) (l' : List Nat), i < n ∧ v = .int .i64 i ∧ N.at i = R ∧ l'.length = n ∧ NmAt wr B p (.slice (some ⟨g0, 0, none⟩) n c0) l' N ∧ Tree l' N d ∧ Keeps (nmF p (.slice (some ⟨g0, 0, none⟩) n c0)) w wr) (fun v _ => d (intOf v).toNat)
  case atStart => exact ⟨s, l, hsl, rfl, hR.symm, hn.symm, h, ht, Keeps.refl _ _⟩
  case round =>
    clear h ht hR hsl hs
    obtain ⟨i, l', hi, rfl, hiR, hll, h, ht, hk⟩ := hrel
    obtain ⟨g, c, hv, hlc, hcm, hgp, hg, hcell⟩ := h.slice ht.len hN
    rw [hll] at hv hlc
    cases hv
    have c1 := h.c1
    have ci := hcell i (by omega)
    have hx := ht.lt i (by omega)
    have cx := hcell _ hx
    have hrow := h.row
    rw [hll] at hrow
    have fi := hrow.frozenAt i
    unfold maxLen at hcm
    by_cases hlx : l'.getD i 0 = i
    · have hii := Lib.hid ((tree_at ht (by omega)).1 hlx)
      rw [hlx] at ci
      clear cx hlx hx hcell
      go_wp2_with fail
      go_ret2
      exact ⟨by rw [← hiR, hii.out]; rfl, _, ⟨hN, _, l', d, h, ht, rfl⟩, hk, fun k hk => Or.inl hk⟩
    · have ht2 := tree_half ht (by omega) hlx
      have hdx := ht.dep i (by omega) hlx
      have hdz : d (l'.getD (l'.getD i 0) 0) < d i := by
        by_cases e : l'.getD (l'.getD i 0) 0 = l'.getD i 0
        · rw [e]; exact hdx
        · have := ht.dep _ hx e; exact Nat.lt_trans this hdx
      have hRz : N.at (l'.getD (l'.getD i 0) 0) = R := by rw [ht.par _ hx, ht.par i (by omega)]; exact hiR
      have hne : ((l'.getD i 0 : Int) == i) = false := by simp only [beq_eq_false_iff_ne, ne_eq, Int.natCast_inj]; exact hlx
      have hz : l'.getD (l'.getD i 0) 0 < n := by have := ht.lt _ hx; omega
      rw [hll] at hx
      generalize l'.getD (l'.getD i 0) 0 = z at *
      generalize l'.getD i 0 = x at *
      clear hlx hdx hcell
      go_wp2_with fail
      go_region
      obtain ⟨w2, h2, k2, hw2⟩ : ∃ w2, NmAt w2 B p (.slice (some ⟨g0, 0, none⟩) n c0) (l'.set i z) N ∧ Keeps (nmF p (.slice (some ⟨g0, 0, none⟩) n c0)) w w2 ∧ (wr.setCell ⟨g0, i, none⟩ (.int .i64 z)).drew = w2 := by
        refine ⟨_, ⟨blk_drew (blk_set_other h.blk (a := ⟨g0, i, none⟩) hgp _), ?_, h.base, h.apart⟩, (hk.setCell ⟨g0, i, none⟩ (Or.inl (Or.inr rfl)) _).drew, rfl⟩
        have := (hrow.stored i (.int .i64 z)).1
        rw [cellsN_set] at this
        rw [List.length_set, hll]
        exact this.drew
      rw [hw2]
      have hc2 := (h2.slice (by rw [List.length_set, hll, ← hnr.out]) hN)
      obtain ⟨g2, c2, hv2, _, _, _, _, hcell2⟩ := hc2
      rw [List.length_set, hll] at hv2 hcell2
      cases hv2
      have d1 := h2.c1
      have di := hcell2 i hi
      rw [getD_set _ _ _ _ _ (by omega), if_pos rfl] at di
      clear hw2 hcell2 c1 ci cx fi h hrow ht hk
      go_wp2_with fail
      go_roundw
      case rel => exact ⟨z, l'.set i z, hz, rfl, hRz, by rw [List.length_set, hll], h2, ht2, k2⟩
      case measure => simpa [intOf] using hdz
/-- Root, of whatever names. -/
theorem root_nm {B p : Nat} {F : Nat → Prop} {N : NS} (s : Int) {w : World} (h : NR w B p F N) :
    Calls Try.prog 83 #[.pointer (some ⟨p, 0, none⟩), .int .i64 s] w (MovedPost w B p F N (.tuple #[.int .i64 (rootI N s), .bool (madeB N s)])) := by
  cases hc : madeB N s
  · refine (root_none hc h).mono fun e w' ⟨he, hw⟩ => ⟨?_, F, ?_, ?_⟩
    · rw [he]; simp [rootI, hc]
    · subst hw; exact h
    · subst hw; exact Moved.refl _ _
  · obtain ⟨i, rfl⟩ : ∃ i : Nat, s = i := ⟨s.toNat, by simp [madeB] at hc; omega⟩
    refine (root_some (by simp [madeB] at hc; omega) h).mono fun e w' ⟨he, hw⟩ => ⟨?_, hw⟩
    rw [he]; simp [rootI, hc]
end Go.Proofs.Ytcjjglaimfhofaa

namespace Go.Proofs.Ytcjjglaimfhofaa
open Go.RowKit Go.Sort

theorem less_any (k1 s1 k2 s2 : Int) (w : World) :
    Calls Try.prog 94 #[.agg #[.int .i64 k1, .int .u64 s1], .agg #[.int .i64 k2, .int .u64 s2]] w fun e w' => e = .returned (.bool (lessB k1 s1 k2 s2)) ∧ Below w.heap.size w w' := by
  by_cases hk : k1 = k2
  · subst hk
    go_enter Try.func94, Try.ntmps94
    go_wp2
    go_ret
    exact ⟨ret_bool (lessB_same _ _ _).symm, ((Below.refl _ _).alloc (Nat.le_refl _) _).alloc (by simp) _⟩
  · have hk1 : (k1 == k2) = false := by simpa using hk
    have hk2 : (k1 != k2) = true := by simpa using hk
    have HL := Lib.hid (lessB_other hk s1 s2)
    clear hk
    go_enter Try.func94, Try.ntmps94
    go_wp2
    go_ret
    exact ⟨ret_bool HL.out.symm, ((Below.refl _ _).alloc (Nat.le_refl _) _).alloc (by simp) _⟩
theorem refLess_any (k1 s1 k2 s2 : Int) (w : World) :
    Calls Try.prog 63 #[.agg #[.int .i64 k1, .int .u64 s1], .agg #[.int .i64 k2, .int .u64 s2]] w fun e w' => e = .returned (.bool (lessB k1 s1 k2 s2)) ∧ Below w.heap.size w w' := by
  by_cases hk : k1 = k2
  · subst hk
    go_enter Try.func63, Try.ntmps63
    go_wp2
    go_ret
    exact ⟨ret_bool (lessB_same _ _ _).symm, ((Below.refl _ _).alloc (Nat.le_refl _) _).alloc (by simp) _⟩
  · have hk1 : (k1 == k2) = false := by simpa using hk
    have hk2 : (k1 != k2) = true := by simpa using hk
    have HL := Lib.hid (lessB_other hk s1 s2)
    clear hk
    go_enter Try.func63, Try.ntmps63
    go_wp2
    go_ret
    exact ⟨ret_bool HL.out.symm, ((Below.refl _ _).alloc (Nat.le_refl _) _).alloc (by simp) _⟩

/-- What a meter shows, when some are counted. -/
def addI (s n : Int) : Int := if n ≤ 0 then s else if 4611686018427387904 - s ≤ n then 4611686018427387904 else s + n
theorem add_range {s : Int} (hs : 0 ≤ s ∧ s ≤ 4611686018427387904) (n : Int) : 0 ≤ addI s n ∧ addI s n ≤ 4611686018427387904 := by
  unfold addI; repeat' split
  all_goals omega
theorem add_one {s : Int} (hs : s < 4611686018427387904) : addI s 1 = s + 1 := by
  unfold addI; repeat' split
  all_goals omega
theorem meter_steps (b o : Nat) (s : Int) (w : World) (hc : w.cell? ⟨b, o, none⟩ = some (.int .i64 s)) :
    Calls Try.prog 13 #[.pointer (some ⟨b, o, none⟩)] w fun e w' => e = .returned (.int .i64 s) ∧ w = w' := by
  go_enter Try.func13, Try.ntmps13
  go_wp2
  go_ret
  exact ⟨rfl, rfl⟩
theorem meter_count (b o : Nat) (s n : Int) (hs : 0 ≤ s ∧ s ≤ 4611686018427387904) (w : World) (hc : w.cell? ⟨b, o, none⟩ = some (.int .i64 s)) (hf : w.frozen? ⟨b, o, none⟩ = false) :
    Calls Try.prog 93 #[.pointer (some ⟨b, o, none⟩), .int .i64 n] w fun e w' => e = .returned (.tuple #[]) ∧ Wrote ⟨b, o, none⟩ (.int .i64 (addI s n)) w w' := by
  obtain ⟨hs0, hs1⟩ := hs
  by_cases hn : n < 0
  · have hw : Wrote ⟨b, o, none⟩ (.int .i64 (addI s n)) w w := by
      have : addI s n = s := by unfold addI; rw [if_pos (by omega)]
      rw [this]
      exact wrote_same hc
    go_enter Try.func93, Try.ntmps93
    go_wp2
    refine bodyPost_ret (results_none rfl _ _ _) rfl ?_
    exact ⟨rfl, hw⟩
  · have HA : Hid (s + (if 4611686018427387904 - s < n then 4611686018427387904 - s else n) = addI s n) := by
      have : s + (if 4611686018427387904 - s < n then 4611686018427387904 - s else n) = addI s n := by
        unfold addI
        repeat' split
        all_goals omega
      exact Lib.hid this
    go_enter Try.func93, Try.ntmps93
    go_wp2
    go_region
    go_end0
    exact ⟨rfl, by rw [← HA.out]; exact ⟨rfl, rfl, rfl, rfl⟩⟩
end Go.Proofs.Ytcjjglaimfhofaa
