/- Merged of Names2, Names3, Less, Cells, Cells2. -/
import Derived.Test.YtkcicnflcilekaaGreatNames
import Derived.Deep.RegionLaw
import Derived.Test.YtkcicnflcilekaaGreatArenaMath
import Derived.Test.YtkcicnflcilekaaGreatArena2
import Derived.Test.YtkcicnflcilekaaGreatChecked
import Derived.WalkLawsBesides
import Derived.WalkSpells
import Derived.IntWalk
import Derived.StillTailTactics
import Derived.BigRegion
import Derived.Test.YtkcicnflcilekaaGreatArenaObj
import Derived.Deep.RegionHeld3
import Derived.Deep.RegionWith
namespace Go.Proofs.YtkcicnflcilekaaGreat
open Go.RowKit Go.Sort

def NewPost (w : World) (B n : Nat) (e : Ending) (w' : World) : Prop :=
  e = .returned (.tuple #[.pointer (some ⟨w.heap.size + 1, 0, none⟩), .int .i64 0]) ∧ ∃ F, NR w' B (w.heap.size + 1) F (newN n) ∧ (∀ k, F k → w.heap.size ≤ k) ∧ Below w.heap.size w w'
theorem new_nm (B n : Nat) (w : World) (hn : n ≤ 65536) (hB : B ≤ w.heap.size) :
    Calls Tryz.prog 104 #[.int .i64 n] w (NewPost w B n) := by
  have hmk : ∀ w, (Instr.makeSlice 75 (.int .i64 1) (.int .i64 1)).run Tryz.prog w = .ok (.slice (some ⟨w.heap.size, 0, none⟩) 1 1) (w.alloc (.cells #[.int .i64 0] 3)) := fun _ => by kernel_rfl
  go_enter Tryz.func104, Tryz.ntmps104
  go_wp2
  go_ret2
  have hown := owns_new (w := w) (base := B) (e := 3) (size := 1) (n := 1) (c := #[.int .i64 0]) hB (by decide) (by decide)
  have hown2 := owns_later hown ((Below.refl _ (w.alloc (.cells #[.int .i64 0] 3))).alloc (Nat.le_refl _) (.cells #[.int .i64 n, .slice (some ⟨w.heap.size, 0, none⟩) 1 1, .int .i64 0] 257))
  refine ⟨rfl, nmF (w.heap.size + 1) (.slice (some ⟨w.heap.size, 0, none⟩) 1 1), ⟨new_fit hn, _, [0], _, ⟨?_, ?_, by omega, ?_⟩, tree_new n, rfl⟩, ?_, ?_⟩
  · have := blk_new (w.alloc (.cells #[.int .i64 0] 3)) #[.int .i64 n, .slice (some ⟨w.heap.size, 0, none⟩) 1 1, .int .i64 0] 257
    rw [size_alloc] at this
    exact this
  · exact hown2
  · intro k hk
    have : w.heap.size = k := by simpa [rowF, Value.ownBlock] using hk
    omega
  · rintro k (rfl | hk)
    · omega
    · have : w.heap.size = k := by simpa [rowF, Value.ownBlock] using hk
      omega
  · have b1 : Below w.heap.size w (w.alloc (.cells #[.int .i64 0] 3)) := (Below.refl _ w).alloc (Nat.le_refl _) _
    exact b1.alloc b1.size _

theorem info_int : (Tryz.prog.info? 3).map (fun i => (i.zero, i.size, i.bytes)) = some (some (.int .i64 0), 1, 8) := by kernel_rfl
theorem make_full {B p : Nat} {F : Nat → Prop} {N : NS} {w : World} (hc : canMake N = false) (h : NR w B p F N) :
    Calls Tryz.prog 155 #[.pointer (some ⟨p, 0, none⟩)] w fun e w' => e = .returned (.tuple #[.int .i64 0, .bool false]) ∧ Below w.heap.size w w' := by
  have hL := fun w h => last_nm (B := B) (p := p) (F := F) (N := N) (w := w) h
  have h' := h
  obtain ⟨hN, v, l, d, h, ht, rfl⟩ := h
  have c0 := h.c0
  have hm := hN.most
  have hlen := hN.len
  have he : (N.roots.length : Int) - 1 = N.most := by simp [canMake] at hc; omega
  rw [he] at hL
  have cA : ∀ d' os, Calls Tryz.prog 167 #[.pointer (some ⟨p, 0, none⟩)] (grow (redrawn w d') os) fun e w'' => e = .returned (.int .i64 N.most) ∧ ∃ p : Regrown, w'' = grow (redrawn w p.d) p.os := fun d' os => Calls.regrown_of ((hL _ (h'.later (below_regrown _ _ _))).mono (by rintro e w' ⟨rfl, rfl⟩; exact ⟨rfl, Below.refl _ _⟩))
  have k0 := cell_regrown c0
  clear hL h' he hc
  go_enter Tryz.func155, Tryz.ntmps155
  go_wp2
  refine wp_region_quiet_below (by kernel_rfl) (by kernel_rfl) ?_
  repeat (go_big_quiet_step (first | with_reducible exact cA _ _))
  refine wpQuiet_nil ?_
  intro W3 hw'
  replace hw' := below_regrown' hw'
  go_wp2_with fail
  go_ret2
  exact ⟨rfl, hw'⟩
theorem make_one {B p : Nat} {F : Nat → Prop} {N : NS} {w : World} (hc : canMake N = true) (h : NR w B p F N) :
    Calls Tryz.prog 155 #[.pointer (some ⟨p, 0, none⟩)] w (MovedPost w B p F (makeN N) (.tuple #[.int .i64 N.roots.length, .bool true])) := by
  obtain ⟨i0, hi, hz0, hz1, hz2⟩ := info_parts info_int
  have hL := fun w h => last_nm (B := B) (p := p) (F := F) (N := N) (w := w) h
  have h' := h
  obtain ⟨hN, v, l, d, h, ht, rfl⟩ := h
  obtain ⟨g, c, rfl, hlc, hcm, hgp, hg, _⟩ := h.slice ht.len hN
  have hm := hN.most
  have hlen := hN.len
  have hpos := hN.pos
  have hcl := hN.countLe
  have hfit := make_fit hN (by simpa [canMake] using hc)
  have ht' := tree_make ht hN
  have htl := ht.len
  have he : ((N.roots.length : Int) - 1 == N.most) = false := by simp [canMake] at hc ⊢; omega
  have c0 := h.c0
  have hB : B ≤ w.heap.size := by have := h.base; have := blk_lt h.blk; omega
  have cA : ∀ d' os, Calls Tryz.prog 167 #[.pointer (some ⟨p, 0, none⟩)] (grow (redrawn w d') os) fun e w'' => e = .returned (.int .i64 ((N.roots.length : Int) - 1)) ∧ ∃ p : Regrown, w'' = grow (redrawn w p.d) p.os := fun d' os => Calls.regrown_of ((hL _ (h'.later (below_regrown _ _ _))).mono (by rintro e w' ⟨rfl, rfl⟩; exact ⟨rfl, Below.refl _ _⟩))
  have k0 := cell_regrown c0
  have hlt : l.length ≤ 65536 := by simp [canMake] at hc; omega
  clear hL h' hc
  rw [← htl] at *
  unfold maxLen at hcm
  go_enter Tryz.func155, Tryz.ntmps155
  go_wp2
  refine wp_region_quiet_below (by kernel_rfl) (by kernel_rfl) ?_
  repeat (go_big_quiet_step (first | with_reducible exact cA _ _))
  refine wpQuiet_nil ?_
  intro W3 hw'
  replace hw' := below_regrown' hw'
  have h3 := h.later hw'
  have hB3 : B ≤ W3.heap.size := Nat.le_trans hB hw'.size
  clear cA k0 c0
  have c1 := h3.c1
  have c2 := h3.c2
  have f1 := h3.free 1
  have f2 := h3.free 2
  have hp3 := blk_lt h3.blk
  go_wp2_with (at_builtin; refine wpList_append_lies _ rfl _ _ 75 rfl B 3 i0 (.int .i64 0) 1 8 Tryz.underlying75 hi hz0 hz1 hz2 rfl (by decide) _ _ _ rfl (h3.row.alloc _) ⟨W3.heap.size, 0, none⟩ 1 1 [.int .i64 l.length] rfl rfl ?c1 ?c2 (by decide) ?c3 ?c4 ?c5 (W3.heap.size + 1) ?c6 ?_)
  case c1 => exact new_cells W3 #[.int .i64 l.length] _ _ rfl
  case c2 => intro u hu; simp at hu; rcases hu with rfl | rfl <;> rfl
  case c3 => unfold maxLen; omega
  case c4 => omega
  case c5 => rw [size_alloc]; omega
  case c6 => show (W3.heap.push _).size = _; simp
  intro g2 cap' w2 hown hgrow hlies hlt2
  have kp := grown_keeps hgrow
  have k3 : Keeps (rowF (.slice (some ⟨g, 0, none⟩) l.length c)) W3 w2 := ((Keeps.refl _ W3).alloc _).then (kp.mono fun _ _ h => h)
  have hblk := k3.blk h3.blk (fun e => h.apart p e rfl)
  have d1 : w2.cell? ⟨p, 1, none⟩ = some (.slice (some ⟨g, 0, none⟩) l.length c) := blk_cell hblk rfl
  have d2 : w2.cell? ⟨p, 2, none⟩ = some (.int .i64 N.count) := blk_cell hblk rfl
  have e1 := blk_free hblk 1
  have e2 := blk_free hblk 2
  have hpg : g2 ≠ p := by
    rcases hlies with hl | hl
    · exact h.apart g2 hl
    · omega
  have hgn : rowF (.slice (some ⟨g, 0, none⟩) l.length c) g2 ∨ W3.heap.size ≤ g2 := by
    rcases hlies with hl | hl
    · exact Or.inl hl
    · exact Or.inr (by omega)
  clear hlies kp
  go_wp2
  go_ret2
  have hs : (cellsN (l ++ [l.length])) = cellsN l ++ [.int .i64 l.length] := by simp [cellsN]
  refine ⟨rfl, nmF p (.slice (some ⟨g2, 0, none⟩) (l.length + 1) cap'), ⟨hfit, .slice (some ⟨g2, 0, none⟩) (l.length + 1) cap', l ++ [l.length], d, ⟨?_, ?_, h.base, ?_⟩, ht', rfl⟩, ?_, ?_⟩
  · exact blk_set (blk_set hblk 1 _) 2 _
  · have e : (l ++ [l.length]).length = l.length + 1 := by simp
    rw [hs, e]
    exact owns_set_other (a := ⟨p, 2, none⟩) (owns_set_other (a := ⟨p, 1, none⟩) hown (fun e => hpg (by simpa [Value.ownBlock] using e)) _) (fun e => hpg (by simpa [Value.ownBlock] using e)) _
  · intro k hk
    obtain rfl : g2 = k := by simpa [rowF, Value.ownBlock] using hk
    exact hpg
  · have k4 : Keeps (nmF p (.slice (some ⟨g, 0, none⟩) l.length c)) w w2 := (Keeps.of_below_all hw' _).then (k3.mono fun _ _ hk => Or.inr hk)
    exact (k4.setCell ⟨p, 1, none⟩ (Or.inl (Or.inl rfl)) _).setCell ⟨p, 2, none⟩ (Or.inl (Or.inl rfl)) _
  · rintro k (hk | hk)
    · exact Or.inl (Or.inl hk)
    · obtain rfl : g2 = k := by simpa [rowF, Value.ownBlock] using hk
      rcases hgn with hgn | hgn
      · exact Or.inl (Or.inr hgn)
      · exact Or.inr (Nat.le_trans hw'.size hgn)
/-- Make, of whatever names. -/
theorem make_nm {B p : Nat} {F : Nat → Prop} {N : NS} {w : World} (h : NR w B p F N) :
    Calls Tryz.prog 155 #[.pointer (some ⟨p, 0, none⟩)] w (MovedPost w B p F (afterM N) (.tuple #[.int .i64 (madeI N), .bool (canMake N)])) := by
  cases hc : canMake N
  · refine (make_full hc h).mono fun e w' ⟨he, hb⟩ => ⟨?_, F, ?_, Moved.of_below hb⟩
    · rw [he]; simp [madeI, hc]
    · simp only [afterM, hc]; exact h.later hb
  · refine (make_one hc h).mono fun e w' ⟨he, F', h', m⟩ => ⟨?_, F', ?_, m⟩
    · rw [he]; simp [madeI, hc]
    · simp only [afterM, hc, if_true]; exact h'

end Go.Proofs.YtkcicnflcilekaaGreat

namespace Go.Proofs.YtkcicnflcilekaaGreat
open Go.RowKit Go.Sort

end Go.Proofs.YtkcicnflcilekaaGreat

namespace Go.Proofs.YtkcicnflcilekaaGreat
open Go.RowKit Go.Sort

theorem less_any (k1 s1 k2 s2 : Int) (w : World) :
    Calls Tryz.prog 160 #[.agg #[.int .i64 k1, .int .u64 s1], .agg #[.int .i64 k2, .int .u64 s2]] w fun e w' => e = .returned (.bool (lessB k1 s1 k2 s2)) ∧ Below w.heap.size w w' := by
  by_cases hk : k1 = k2
  · subst hk
    go_enter Tryz.func160, Tryz.ntmps160
    go_wp2
    go_ret
    exact ⟨ret_bool (lessB_same _ _ _).symm, ((Below.refl _ _).alloc (Nat.le_refl _) _).alloc (by simp) _⟩
  · have hk1 : (k1 == k2) = false := by simpa using hk
    have hk2 : (k1 != k2) = true := by simpa using hk
    have HL := Lib.hid (lessB_other hk s1 s2)
    clear hk
    go_enter Tryz.func160, Tryz.ntmps160
    go_wp2
    go_ret
    exact ⟨ret_bool HL.out.symm, ((Below.refl _ _).alloc (Nat.le_refl _) _).alloc (by simp) _⟩

/-- What a meter shows, when some are counted. -/
def addI (s n : Int) : Int := if n ≤ 0 then s else if 4611686018427387904 - s ≤ n then 4611686018427387904 else s + n
theorem add_range {s : Int} (hs : 0 ≤ s ∧ s ≤ 4611686018427387904) (n : Int) : 0 ≤ addI s n ∧ addI s n ≤ 4611686018427387904 := by
  unfold addI; repeat' split
  all_goals omega
theorem meter_steps (b o : Nat) (s : Int) (w : World) (hc : w.cell? ⟨b, o, none⟩ = some (.int .i64 s)) :
    Calls Tryz.prog 142 #[.pointer (some ⟨b, o, none⟩)] w fun e w' => e = .returned (.int .i64 s) ∧ w = w' := by
  go_enter Tryz.func142, Tryz.ntmps142
  go_wp2
  go_ret
  exact ⟨rfl, rfl⟩
theorem meter_count (b o : Nat) (s n : Int) (hs : 0 ≤ s ∧ s ≤ 4611686018427387904) (w : World) (hc : w.cell? ⟨b, o, none⟩ = some (.int .i64 s)) (hf : w.frozen? ⟨b, o, none⟩ = false) :
    Calls Tryz.prog 180 #[.pointer (some ⟨b, o, none⟩), .int .i64 n] w fun e w' => e = .returned (.tuple #[]) ∧ Wrote ⟨b, o, none⟩ (.int .i64 (addI s n)) w w' := by
  obtain ⟨hs0, hs1⟩ := hs
  by_cases hn : n < 0
  · have hw : Wrote ⟨b, o, none⟩ (.int .i64 (addI s n)) w w := by
      have : addI s n = s := by unfold addI; rw [if_pos (by omega)]
      rw [this]
      exact wrote_same hc
    go_enter Tryz.func180, Tryz.ntmps180
    go_wp2
    refine bodyPost_ret (results_none rfl _ _ _) rfl ?_
    exact ⟨rfl, hw⟩
  · have HA : Hid (s + (if 4611686018427387904 - s < n then 4611686018427387904 - s else n) = addI s n) := by
      have : s + (if 4611686018427387904 - s < n then 4611686018427387904 - s else n) = addI s n := by
        unfold addI
        repeat' split
        all_goals omega
      exact Lib.hid this
    go_enter Tryz.func180, Tryz.ntmps180
    go_wp2
    go_region
    go_end0
    exact ⟨rfl, by rw [← HA.out]; exact ⟨rfl, rfl, rfl, rfl⟩⟩
end Go.Proofs.YtkcicnflcilekaaGreat

namespace Go.Proofs.YtkcicnflcilekaaGreat
open Go.RowKit Go.Sort

def cellC (c : CellD) : List Value := [.int .i64 c.home, .int .i64 c.key, .int .u64 c.seq]
theorem cellC_len (c : CellD) : (cellC c).length = 3 := rfl
def cellV (c : CellD) : Value := .agg #[.int .i64 c.home, .int .i64 c.key, .int .u64 c.seq]
/-- Names as a thing. -/
def Ob.names (B p : Nat) (N : NS) : Ob where
  holds w F := NR w B p F N
  keeps h k hn := NR.keeps h k hn
  lt h k hk := (NR.lt h k hk).2
/-- What cells are made of: the block, names, the row of slots, and the map of sizes. -/
def cellParts (p : Nat) (N : NS) (raw : List CellD) (s : Int) (pn : Nat) (v : Value) (bm : Nat) (f : Int → Int) : List Ob :=
  [Ob.box p #[.int .i64 s, .pointer (some ⟨pn, 0, none⟩), v, .map (some bm)] 226,
   Ob.names 0 pn N,
   Ob.row 0 300 3 v raw.length (cellsBy cellC raw),
   Ob.imap Tryz.prog 3 3 bm f 65537]
/-- At p lie cells that tell the nest W; s steps were counted. -/
def Ob.cells (p : Nat) (W : WS) (s : Int) : Ob where
  holds w F := ∃ N raw pn v bm, RFit N raw ∧ W = absW N raw ∧ (0 ≤ s ∧ s ≤ 4611686018427387904) ∧ (Ob.group (cellParts p N raw s pn v bm (fun y => lenW W y))).holds w F
  keeps := by
    rintro w w' F G ⟨N, raw, pn, v, bm, h1, h2, h3, h⟩ k hn
    exact ⟨N, raw, pn, v, bm, h1, h2, h3, (Ob.group _).keeps h k hn⟩
  lt := by
    rintro w F ⟨N, raw, pn, v, bm, h1, h2, h3, h⟩
    exact (Ob.group _).lt h
theorem Ob.cells.fit {p : Nat} {W : WS} {s : Int} {w : World} {F : Nat → Prop} (h : (Ob.cells p W s).holds w F) : W.Fit := by
  obtain ⟨N, raw, pn, v, bm, h1, rfl, _, _⟩ := h
  exact abs_fit h1
theorem Ob.cells.steps {p : Nat} {W : WS} {s : Int} {w : World} {F : Nat → Prop} (h : (Ob.cells p W s).holds w F) : 0 ≤ s ∧ s ≤ 4611686018427387904 := by
  obtain ⟨N, raw, pn, v, bm, _, _, h3, _⟩ := h
  exact h3
theorem zero_int (w : World) : (zeroValue 3).run Tryz.prog w = .ok (.int .i64 0) w := by kernel_rfl

section
variable {F0 : Nat → Prop} {W0 w : World} {p : Nat} {N : NS} {raw : List CellD} {s : Int} {pn : Nat} {v : Value} {bm : Nat} {f : Int → Int}
theorem parts_c0 (h : Stage F0 W0 (cellParts p N raw s pn v bm f) w) : w.cell? ⟨p, 0, none⟩ = some (.int .i64 s) := h.cell 0 rfl rfl
theorem parts_c1 (h : Stage F0 W0 (cellParts p N raw s pn v bm f) w) : w.cell? ⟨p, 1, none⟩ = some (.pointer (some ⟨pn, 0, none⟩)) := h.cell 0 rfl rfl
theorem parts_c2 (h : Stage F0 W0 (cellParts p N raw s pn v bm f) w) : w.cell? ⟨p, 2, none⟩ = some v := h.cell 0 rfl rfl
theorem parts_c3 (h : Stage F0 W0 (cellParts p N raw s pn v bm f) w) : w.cell? ⟨p, 3, none⟩ = some (.map (some bm)) := h.cell 0 rfl rfl
theorem parts_form (h : Stage F0 W0 (cellParts p N raw s pn v bm f) w) : ∃ a c, v = .slice a raw.length c ∧ raw.length ≤ c ∧ c ≤ 9223372036854775807 := by
  obtain ⟨a, c, h1, h2, h3⟩ := owns_form (h.owns 2 rfl)
  exact ⟨a, c, h1, h2, by unfold maxLen at h3; omega⟩
theorem parts_row (h : Stage F0 W0 (cellParts p N raw s pn v bm f) w) (i : Nat) (hi : i < raw.length) : ∃ g c, v = .slice (some ⟨g, 0, none⟩) raw.length c ∧ raw.length ≤ c ∧ c ≤ 9223372036854775807 ∧ g ≠ p ∧ g < w.heap.size ∧
    w.cell? ⟨g, i * 3, none⟩ = some (.int .i64 (raw.getD i .off).home) ∧ w.cell? ⟨g, i * 3 + 1, none⟩ = some (.int .i64 (raw.getD i .off).key) ∧ w.cell? ⟨g, i * 3 + 2, none⟩ = some (.int .u64 (raw.getD i .off).seq) ∧ ∀ o, w.frozen? ⟨g, o, none⟩ = false := by
  obtain ⟨g, c, hv, h1, h2, _, h4, hc, hf⟩ := owns_at cellC_len .off (h.owns 2 rfl) rfl (by omega)
  have hne := h.rowNe 2 0 rfl rfl (by decide)
  subst hv
  exact ⟨g, c, rfl, h1, by unfold maxLen at h2; omega, fun e => hne (by rw [← e]; rfl), h4, hc i 0 _ hi (by omega) rfl, hc i 1 _ hi (by omega) rfl, hc i 2 _ hi (by omega) rfl, hf⟩

theorem held_any (c : CellD) (w : World) : Calls Tryz.prog 150 #[cellV c] w fun e w' => e = .returned (.bool (c.home != 0)) ∧ w' = w.alloc (.cells #[.int .i64 c.home, .int .i64 c.key, .int .u64 c.seq] 300) := by
  obtain ⟨h, k, q⟩ := c
  have hA : ((h : Int) != 0) = (h != 0) := by
    by_cases e : h = 0
    · subst e; rfl
    · have e' : (h : Int) ≠ 0 := by omega
      rw [bne_iff_ne.2 e, bne_iff_ne.2 e']
  simp only [← hA, cellV]
  clear hA
  go_enter Tryz.func150, Tryz.ntmps150
  go_wp2
  go_ret
  exact ⟨rfl, rfl⟩
theorem has_st (h : Stage F0 W0 (cellParts p N raw s pn v bm f) w) (_hraw : raw.length ≤ 65536) (x : Int) :
    Calls Tryz.prog 165 #[.pointer (some ⟨p, 0, none⟩), .int .i64 x] w fun e w' => e = .returned (.bool (slotR raw x)) ∧ w = w' := by
  obtain ⟨a, c, rfl, hc1, hc2⟩ := parts_form h
  have c2 := parts_c2 h
  unfold slotR
  by_cases hx : 0 ≤ x
  · have hd := Lib.hid (show decide (0 ≤ x ∧ x < (raw.length : Int)) = decide (x < (raw.length : Int)) by congr 1; apply propext; omega)
    rw [hd.out]
    clear h hd
    generalize raw.length = n at *
    go_enter Tryz.func165, Tryz.ntmps165
    go_wp2
    go_ret
    exact ⟨rfl, rfl⟩
  · rw [decide_eq_false (fun e => hx e.1)]
    clear h
    generalize raw.length = n at *
    go_enter Tryz.func165, Tryz.ntmps165
    go_wp2
    go_ret
    exact ⟨rfl, rfl⟩
theorem at_st (h : Stage F0 W0 (cellParts p N raw s pn v bm f) w) (hraw : raw.length ≤ 65536) (x : Int) :
    Calls Tryz.prog 149 #[.pointer (some ⟨p, 0, none⟩), .int .i64 x] w fun e w' => e = .returned (cellV (rawAt raw x)) ∧ Below w.heap.size w w' := by
  have hH := fun w (h : Stage F0 W0 (cellParts p N raw s pn v bm f) w) => has_st h hraw x
  unfold rawAt
  have hh := hH _ (h.later ((Below.refl _ w).alloc (Nat.le_refl _) (.cells #[.int .i64 0, .int .i64 0, .int .u64 0] 300)))
  cases hs : slotR raw x
  · rw [hs] at hh
    go_enter Tryz.func149, Tryz.ntmps149
    go_wp2_with fail
    refine hh.mono ?_
    rintro e w1 ⟨rfl, rfl⟩
    go_wp2_with fail
    refine bodyPost_ret (v := cellV .off) (by simp [results, Tryz.results149, go_sem]; rfl) rfl ⟨rfl, (Below.refl _ _).alloc (Nat.le_refl _) _⟩
  · simp only [slotR, decide_eq_true_eq] at hs
    rw [show slotR raw x = true by simpa [slotR] using hs] at hh
    obtain ⟨i, rfl⟩ : ∃ i : Nat, x = i := ⟨x.toNat, by omega⟩
    have hi : i < raw.length := by omega
    obtain ⟨g, c, rfl, hc1, hc2, hgp, hg, e0, e1, e2, hf⟩ := parts_row h i hi
    have c2 := parts_c2 h
    have hp := h.lt 0 rfl
    rw [if_pos rfl, Int.toNat_natCast]
    generalize raw.getD i .off = d at *
    clear hs hf h
    generalize raw.length = n at *
    go_enter Tryz.func149, Tryz.ntmps149
    go_wp2_with fail
    refine hh.mono ?_
    rintro e w1 ⟨rfl, rfl⟩
    go_wp2_with fail
    refine bodyPost_ret (v := cellV d) (by simp [results, Tryz.results149, go_sem]; rfl) rfl ⟨rfl, (Below.refl _ _).alloc (Nat.le_refl _) _⟩
end
end Go.Proofs.YtkcicnflcilekaaGreat

namespace Go.Proofs.YtkcicnflcilekaaGreat
open Go.RowKit Go.Sort

section
variable {F0 : Nat → Prop} {W0 w : World} {p : Nat} {N : NS} {raw : List CellD} {s : Int} {pn : Nat} {v : Value} {bm : Nat} {f : Int → Int}
theorem grow_st (hs : Stage F0 W0 (cellParts p N raw s pn v bm f) w) (h : Nat) (hh : h < 65537) (x d u : Int) (hx : f h = x) (hu : x + d = u) (bx : -9223372036854775808 ≤ u ∧ u ≤ 9223372036854775807) :
    Calls Tryz.prog 164 #[.pointer (some ⟨p, 0, none⟩), .int .i64 h, .int .i64 d] w fun e w' => e = .returned (.tuple #[]) ∧ Stage F0 W0 (cellParts p N raw s pn v bm (setI f h u)) w' := by
  have c3 := parts_c3 hs
  have l0 := hs.look 3 rfl Tryz.underlying185 Tryz.underlying3 Tryz.underlying3 (zero_int w) h (by omega)
  rw [hx] at l0
  have e1 : IntKind.i64.wrap (x + d) = u := by rw [hu]; exact IntWalk.i64_in _ bx
  clear hx hu
  go_enter Tryz.func164, Tryz.ntmps164
  go_wp2_with (at_mapUpdate; refine hs.wp_put (t := 185) 3 rfl rfl _ _ _ rfl Tryz.underlying185 Tryz.underlying3 Tryz.underlying3 (by unfold maxLen; omega) rfl h u rfl rfl (by omega) bx ?_)
  intro w1 hs1
  replace hs1 : Stage F0 W0 (cellParts p N raw s pn v bm (setI f h u)) w1 := hs1
  have c31 := parts_c3 hs1
  have l1 := hs1.look 3 rfl Tryz.underlying185 Tryz.underlying3 Tryz.underlying3 (zero_int w1) h (by omega)
  rw [setI_same] at l1
  clear l0 c3 hs
  by_cases hz : u = 0
  · subst hz
    go_wp2_with (at_delete; refine hs1.wp_delete 3 rfl rfl _ _ rfl Tryz.underlying185 Tryz.underlying3 rfl h rfl (by omega) ?_)
    intro w2 hs2
    replace hs2 : Stage F0 W0 (cellParts p N raw s pn v bm (setI (setI f h 0) h 0)) w2 := hs2
    rw [setI_set] at hs2
    go_wp2_with fail
    go_end0
    exact ⟨rfl, hs2⟩
  · have hz' : (u == 0) = false := by simpa using hz
    go_wp2_with fail
    go_end0
    exact ⟨rfl, hs1⟩
theorem cells_close {W : WS} {N' : NS} {raw' : List CellD} {s' : Int} {F : Nat → Prop} {f' : Int → Int} {w' : World} (hs : Stage F w (cellParts p N' raw' s' pn v bm f') w') (hF : ∀ b, F b → b < w.heap.size) (hR : RFit N' raw') (hW : W = absW N' raw') (hf : ∀ y, f' y = lenW W y) (hr : 0 ≤ s' ∧ s' ≤ 4611686018427387904) :
    ∃ F', (Ob.cells p W s').holds w' F' ∧ Moved F F' w w' := by
  obtain ⟨F', h1, m⟩ := hs.close hF
  obtain rfl : f' = fun y => (lenW W y : Int) := funext hf
  exact ⟨F', ⟨N', raw', pn, v, bm, hR, hW, hr, h1⟩, m⟩
end

section
variable {w : World} {p : Nat} {W : WS} {s : Int} {F : Nat → Prop}
theorem capacity_cl (h : (Ob.cells p W s).holds w F) : Calls Tryz.prog 107 #[.pointer (some ⟨p, 0, none⟩)] w fun e w' => e = .returned (.int .i64 W.cells.length) ∧ w = w' := by
  obtain ⟨N, raw, pn, v, bm, hR, rfl, _, h⟩ := h
  have hs := Ob.group.open h
  obtain ⟨a, c, rfl, hc1, hc2⟩ := parts_form hs
  have c2 := parts_c2 hs
  rw [abs_len]
  clear h hs
  generalize raw.length = n at *
  go_enter Tryz.func107, Tryz.ntmps107
  go_wp2
  go_ret
  exact ⟨rfl, rfl⟩
theorem has_cl (y : Int) (h : (Ob.cells p W s).holds w F) : Calls Tryz.prog 135 #[.pointer (some ⟨p, 0, none⟩), .int .i64 y] w fun e w' => e = .returned (.bool (hasW W y)) ∧ w = w' := by
  obtain ⟨N, raw, pn, v, bm, hR, rfl, _, h⟩ := h
  have hs := Ob.group.open h
  have c1 := parts_c1 hs
  have hH := hs.ask 1 rfl (fun _ ho => has_nm y ho)
  rw [abs_has]
  clear h hs
  go_enter Tryz.func135, Tryz.ntmps135
  go_wp2_with fail
  refine hH.mono ?_
  rintro e w1 ⟨rfl, rfl⟩
  go_wp2
  go_ret
  exact ⟨rfl, rfl⟩
theorem len_cl (y : Int) (hy : -9223372036854775808 ≤ y ∧ y ≤ 9223372036854775807) (h : (Ob.cells p W s).holds w F) : Calls Tryz.prog 138 #[.pointer (some ⟨p, 0, none⟩), .int .i64 y] w fun e w' => e = .returned (.int .i64 (lenW W y)) ∧ w = w' := by
  obtain ⟨N, raw, pn, v, bm, hR, rfl, _, h⟩ := h
  have hs := Ob.group.open h
  have c3 := parts_c3 hs
  have l0 := hs.look 3 rfl Tryz.underlying185 Tryz.underlying3 Tryz.underlying3 (zero_int w) y hy
  clear h hs
  generalize (lenW (absW N raw) y : Int) = x at *
  go_enter Tryz.func138, Tryz.ntmps138
  go_wp2
  go_ret
  exact ⟨rfl, rfl⟩
theorem steps_cl (h : (Ob.cells p W s).holds w F) : Calls Tryz.prog 142 #[.pointer (some ⟨p, 0, none⟩)] w fun e w' => e = .returned (.int .i64 s) ∧ w = w' := by
  obtain ⟨N, raw, pn, v, bm, hR, rfl, _, h⟩ := h
  exact meter_steps p 0 s w (parts_c0 (Ob.group.open h))
theorem frozen_old {w : World} {b : Nat} (h : b < w.heap.size) (o : Nat) (x : Obj) : (w.alloc x).frozen? ⟨b, o, none⟩ = w.frozen? ⟨b, o, none⟩ := World.frozen?_of_block (w := w) (Below.heap_alloc w x b h)
theorem entry_cl (x : Int) (h : (Ob.cells p W s).holds w F) : Calls Tryz.prog 134 #[.pointer (some ⟨p, 0, none⟩), .int .i64 x] w fun e w' => e = .returned (.tuple #[.agg #[.int .i64 (cellW W x).key, .int .u64 (cellW W x).seq], .bool (inW W x)]) ∧ Below w.heap.size w w' := by
  obtain ⟨N, raw, pn, v, bm, hR, rfl, hr, h⟩ := h
  have hs := Ob.group.open h
  obtain ⟨w0, hw0, hb0, hs0⟩ : ∃ w0, w.alloc (.cells #[.int .i64 0, .int .u64 0] 94) = w0 ∧ Below w.heap.size w w0 ∧ Stage F w _ w0 := ⟨_, rfl, (Below.refl _ _).alloc (Nat.le_refl _) _, hs.alloc #[.int .i64 0, .int .u64 0] 94⟩
  have hA := at_st (hs0.take 4) hR.cap x
  have e1 := abs_in hR x
  have e2 : (cellW (absW N raw) x).key = (rawAt raw x).key ∧ (cellW (absW N raw) x).seq = (rawAt raw x).seq := by rw [abs_cell hR]; exact ⟨rfl, rfl⟩
  rw [e1, e2.1, e2.2]
  clear e1 e2 h
  generalize rawAt raw x = d at *
  have hH := fun w => held_any d w
  simp only [cellV] at hA hH
  have hb4 : w.heap.size ≤ w.heap.size := Nat.le_refl _
  go_enter Tryz.func134, Tryz.ntmps134
  go_wp2_with fail
  generalize hb : w.heap.size = b at *
  refine hA.mono ?_
  rintro e w1 ⟨rfl, hb1⟩
  have hs1 := hs0.later hb1
  have f4 := hs1.free 4 rfl
  have l4 := hs1.lt 4 rfl
  have x4 := hs1.blk 4 rfl
  have hbl : Below b w w1 := by rw [← hb] at hb0 ⊢; exact below_chain hb0 hb1
  clear hA hs0 hs hb1 hb0 hw0
  go_wp2_with fail
  obtain ⟨V, hV, hs2⟩ : ∃ V : World, w1.alloc (.cells #[.int .i64 d.home, .int .i64 d.key, .int .u64 d.seq] 300) = V ∧ Stage F w _ V := ⟨_, rfl, hs1.alloc #[.int .i64 d.home, .int .i64 d.key, .int .u64 d.seq] 300⟩
  replace hbl : Below b w V := by rw [← hV]; exact hbl.alloc (Nat.le_of_lt l4) _
  rw [hV]
  have n46 := hs2.ne 4 5 rfl rfl (by decide)
  generalize w1.heap.size = b6 at *
  have y0 : V.cell? ⟨b6, 0, none⟩ = some (.int .i64 d.home) := hs2.cell 5 rfl rfl
  have y1 : V.cell? ⟨b6, 1, none⟩ = some (.int .i64 d.key) := hs2.cell 5 rfl rfl
  have y2 : V.cell? ⟨b6, 2, none⟩ = some (.int .u64 d.seq) := hs2.cell 5 rfl rfl
  have g40 := hs2.free 4 rfl 0
  have g41 := hs2.free 4 rfl 1
  have l42 := hs2.lt 4 rfl
  have l62 := hs2.lt 5 rfl
  have z40 : V.cell? ⟨b, 0, none⟩ = some (.int .i64 0) := hs2.cell 4 rfl rfl
  have z41 : V.cell? ⟨b, 1, none⟩ = some (.int .u64 0) := hs2.cell 4 rfl rfl
  clear hV x4 l4 f4 hs1 hs2
  go_region_held3 (fun w' => w'.cell? ⟨b6, 0, none⟩ = some (.int .i64 d.home) ∧ w'.cell? ⟨b6, 1, none⟩ = some (.int .i64 d.key) ∧ w'.cell? ⟨b6, 2, none⟩ = some (.int .u64 d.seq) ∧ w'.frozen? ⟨b, 0, none⟩ = false ∧ w'.frozen? ⟨b, 1, none⟩ = false) (simp [*, World.cell?_alloc_some, World.cell?_setCell_far, frozen_old])
    (first
      | (go_at_call 150; with_reducible refine (hH _).mono ?_; rintro e w9 ⟨rfl, rfl⟩))
  all_goals
    go_wp2_with fail
    refine bodyPost_ret (v := .tuple #[.agg #[.int .i64 d.key, .int .u64 d.seq], .bool (d.home != 0)]) (by simp [*, results, Tryz.results134, go_sem, World.cell?_alloc_some]) rfl ⟨rfl, ?_⟩
    rw [hb]
    refine (((hbl.setCell (p := ⟨b, 0, none⟩) (Nat.le_refl _) _).setCell (p := ⟨b, 1, none⟩) (Nat.le_refl _) _).alloc ?_ _).drew
    simp [World.setCell]
    omega
end
end Go.Proofs.YtkcicnflcilekaaGreat
