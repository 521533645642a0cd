/- Merged of Names2, Names3, Less. -/
import Derived.Test.YtmoolbmbdnkooaaGreatNames
import Derived.Deep.RegionLaw
import Derived.Test.YtmoolbmbdnkooaaGreatLaw
import Derived.Test.YtmoolbmbdnkooaaGreatNestMath
import Derived.Test.YtmoolbmbdnkooaaGreatChecked
import Derived.WalkLawsBesides
import Derived.WalkSpells
import Derived.IntWalk
import Derived.StillTailTactics
import Derived.BigRegion
namespace Go.Proofs.YtmoolbmbdnkooaaGreat
open Go.RowKit Go.Sort

def NewPost (w : World) (B n : Nat) (e : Ending) (w' : World) : Prop :=
  e = .returned (.tuple #[.pointer (some ⟨w.heap.size + 1, 0, none⟩), .int .i64 0]) ∧ ∃ F, NR w' B (w.heap.size + 1) F (newN n) ∧ (∀ k, F k → w.heap.size ≤ k) ∧ Below w.heap.size w w'
theorem new_nm (B n : Nat) (w : World) (hn : n ≤ 65536) (hB : B ≤ w.heap.size) :
    Calls Tryz.prog 22 #[.int .i64 n] w (NewPost w B n) := by
  have hmk : ∀ w, (Instr.makeSlice 44 (.int .i64 1) (.int .i64 1)).run Tryz.prog w = .ok (.slice (some ⟨w.heap.size, 0, none⟩) 1 1) (w.alloc (.cells #[.int .i64 0] 3)) := fun _ => by kernel_rfl
  go_enter Tryz.func22, Tryz.ntmps22
  go_wp2
  go_ret2
  have hown := owns_new (w := w) (base := B) (e := 3) (size := 1) (n := 1) (c := #[.int .i64 0]) hB (by decide) (by decide)
  have hown2 := owns_later hown ((Below.refl _ (w.alloc (.cells #[.int .i64 0] 3))).alloc (Nat.le_refl _) (.cells #[.int .i64 n, .slice (some ⟨w.heap.size, 0, none⟩) 1 1, .int .i64 0] 87))
  refine ⟨rfl, nmF (w.heap.size + 1) (.slice (some ⟨w.heap.size, 0, none⟩) 1 1), ⟨new_fit hn, _, [0], _, ⟨?_, ?_, by omega, ?_⟩, tree_new n, rfl⟩, ?_, ?_⟩
  · have := blk_new (w.alloc (.cells #[.int .i64 0] 3)) #[.int .i64 n, .slice (some ⟨w.heap.size, 0, none⟩) 1 1, .int .i64 0] 87
    rw [size_alloc] at this
    exact this
  · exact hown2
  · intro k hk
    have : w.heap.size = k := by simpa [rowF, Value.ownBlock] using hk
    omega
  · rintro k (rfl | hk)
    · omega
    · have : w.heap.size = k := by simpa [rowF, Value.ownBlock] using hk
      omega
  · have b1 : Below w.heap.size w (w.alloc (.cells #[.int .i64 0] 3)) := (Below.refl _ w).alloc (Nat.le_refl _) _
    exact b1.alloc b1.size _

theorem info_int : (Tryz.prog.info? 3).map (fun i => (i.zero, i.size, i.bytes)) = some (some (.int .i64 0), 1, 8) := by kernel_rfl
theorem make_full {B p : Nat} {F : Nat → Prop} {N : NS} {w : World} (hc : canMake N = false) (h : NR w B p F N) :
    Calls Tryz.prog 17 #[.pointer (some ⟨p, 0, none⟩)] w fun e w' => e = .returned (.tuple #[.int .i64 0, .bool false]) ∧ Below w.heap.size w w' := by
  have hL := fun w h => last_nm (B := B) (p := p) (F := F) (N := N) (w := w) h
  have h' := h
  obtain ⟨hN, v, l, d, h, ht, rfl⟩ := h
  have c0 := h.c0
  have hm := hN.most
  have hlen := hN.len
  have he : (N.roots.length : Int) - 1 = N.most := by simp [canMake] at hc; omega
  rw [he] at hL
  have cA : ∀ d' os, Calls Tryz.prog 30 #[.pointer (some ⟨p, 0, none⟩)] (grow (redrawn w d') os) fun e w'' => e = .returned (.int .i64 N.most) ∧ ∃ p : Regrown, w'' = grow (redrawn w p.d) p.os := fun d' os => Calls.regrown_of ((hL _ (h'.later (below_regrown _ _ _))).mono (by rintro e w' ⟨rfl, rfl⟩; exact ⟨rfl, Below.refl _ _⟩))
  have k0 := cell_regrown c0
  clear hL h' he hc
  go_enter Tryz.func17, Tryz.ntmps17
  go_wp2
  refine wp_region_quiet_below (by kernel_rfl) (by kernel_rfl) ?_
  repeat (go_big_quiet_step (first | with_reducible exact cA _ _))
  refine wpQuiet_nil ?_
  intro W3 hw'
  replace hw' := below_regrown' hw'
  go_wp2_with fail
  go_ret2
  exact ⟨rfl, hw'⟩
theorem make_one {B p : Nat} {F : Nat → Prop} {N : NS} {w : World} (hc : canMake N = true) (h : NR w B p F N) :
    Calls Tryz.prog 17 #[.pointer (some ⟨p, 0, none⟩)] w (MovedPost w B p F (makeN N) (.tuple #[.int .i64 N.roots.length, .bool true])) := by
  obtain ⟨i0, hi, hz0, hz1, hz2⟩ := info_parts info_int
  have hL := fun w h => last_nm (B := B) (p := p) (F := F) (N := N) (w := w) h
  have h' := h
  obtain ⟨hN, v, l, d, h, ht, rfl⟩ := h
  obtain ⟨g, c, rfl, hlc, hcm, hgp, hg, _⟩ := h.slice ht.len hN
  have hm := hN.most
  have hlen := hN.len
  have hpos := hN.pos
  have hcl := hN.countLe
  have hfit := make_fit hN (by simpa [canMake] using hc)
  have ht' := tree_make ht hN
  have htl := ht.len
  have he : ((N.roots.length : Int) - 1 == N.most) = false := by simp [canMake] at hc ⊢; omega
  have c0 := h.c0
  have hB : B ≤ w.heap.size := by have := h.base; have := blk_lt h.blk; omega
  have cA : ∀ d' os, Calls Tryz.prog 30 #[.pointer (some ⟨p, 0, none⟩)] (grow (redrawn w d') os) fun e w'' => e = .returned (.int .i64 ((N.roots.length : Int) - 1)) ∧ ∃ p : Regrown, w'' = grow (redrawn w p.d) p.os := fun d' os => Calls.regrown_of ((hL _ (h'.later (below_regrown _ _ _))).mono (by rintro e w' ⟨rfl, rfl⟩; exact ⟨rfl, Below.refl _ _⟩))
  have k0 := cell_regrown c0
  have hlt : l.length ≤ 65536 := by simp [canMake] at hc; omega
  clear hL h' hc
  rw [← htl] at *
  unfold maxLen at hcm
  go_enter Tryz.func17, Tryz.ntmps17
  go_wp2
  refine wp_region_quiet_below (by kernel_rfl) (by kernel_rfl) ?_
  repeat (go_big_quiet_step (first | with_reducible exact cA _ _))
  refine wpQuiet_nil ?_
  intro W3 hw'
  replace hw' := below_regrown' hw'
  have h3 := h.later hw'
  have hB3 : B ≤ W3.heap.size := Nat.le_trans hB hw'.size
  clear cA k0 c0
  have c1 := h3.c1
  have c2 := h3.c2
  have f1 := h3.free 1
  have f2 := h3.free 2
  have hp3 := blk_lt h3.blk
  go_wp2_with (at_builtin; refine wpList_append_lies _ rfl _ _ 44 rfl B 3 i0 (.int .i64 0) 1 8 Tryz.underlying44 hi hz0 hz1 hz2 rfl (by decide) _ _ _ rfl (h3.row.alloc _) ⟨W3.heap.size, 0, none⟩ 1 1 [.int .i64 l.length] rfl rfl ?c1 ?c2 (by decide) ?c3 ?c4 ?c5 (W3.heap.size + 1) ?c6 ?_)
  case c1 => exact new_cells W3 #[.int .i64 l.length] _ _ rfl
  case c2 => intro u hu; simp at hu; rcases hu with rfl | rfl <;> rfl
  case c3 => unfold maxLen; omega
  case c4 => omega
  case c5 => rw [size_alloc]; omega
  case c6 => show (W3.heap.push _).size = _; simp
  intro g2 cap' w2 hown hgrow hlies hlt2
  have kp := grown_keeps hgrow
  have k3 : Keeps (rowF (.slice (some ⟨g, 0, none⟩) l.length c)) W3 w2 := ((Keeps.refl _ W3).alloc _).then (kp.mono fun _ _ h => h)
  have hblk := k3.blk h3.blk (fun e => h.apart p e rfl)
  have d1 : w2.cell? ⟨p, 1, none⟩ = some (.slice (some ⟨g, 0, none⟩) l.length c) := blk_cell hblk rfl
  have d2 : w2.cell? ⟨p, 2, none⟩ = some (.int .i64 N.count) := blk_cell hblk rfl
  have e1 := blk_free hblk 1
  have e2 := blk_free hblk 2
  have hpg : g2 ≠ p := by
    rcases hlies with hl | hl
    · exact h.apart g2 hl
    · omega
  have hgn : rowF (.slice (some ⟨g, 0, none⟩) l.length c) g2 ∨ W3.heap.size ≤ g2 := by
    rcases hlies with hl | hl
    · exact Or.inl hl
    · exact Or.inr (by omega)
  clear hlies kp
  go_wp2
  go_ret2
  have hs : (cellsN (l ++ [l.length])) = cellsN l ++ [.int .i64 l.length] := by simp [cellsN]
  refine ⟨rfl, nmF p (.slice (some ⟨g2, 0, none⟩) (l.length + 1) cap'), ⟨hfit, .slice (some ⟨g2, 0, none⟩) (l.length + 1) cap', l ++ [l.length], d, ⟨?_, ?_, h.base, ?_⟩, ht', rfl⟩, ?_, ?_⟩
  · exact blk_set (blk_set hblk 1 _) 2 _
  · have e : (l ++ [l.length]).length = l.length + 1 := by simp
    rw [hs, e]
    exact owns_set_other (a := ⟨p, 2, none⟩) (owns_set_other (a := ⟨p, 1, none⟩) hown (fun e => hpg (by simpa [Value.ownBlock] using e)) _) (fun e => hpg (by simpa [Value.ownBlock] using e)) _
  · intro k hk
    obtain rfl : g2 = k := by simpa [rowF, Value.ownBlock] using hk
    exact hpg
  · have k4 : Keeps (nmF p (.slice (some ⟨g, 0, none⟩) l.length c)) w w2 := (Keeps.of_below_all hw' _).then (k3.mono fun _ _ hk => Or.inr hk)
    exact (k4.setCell ⟨p, 1, none⟩ (Or.inl (Or.inl rfl)) _).setCell ⟨p, 2, none⟩ (Or.inl (Or.inl rfl)) _
  · rintro k (hk | hk)
    · exact Or.inl (Or.inl hk)
    · obtain rfl : g2 = k := by simpa [rowF, Value.ownBlock] using hk
      rcases hgn with hgn | hgn
      · exact Or.inl (Or.inr hgn)
      · exact Or.inr (Nat.le_trans hw'.size hgn)
/-- Make, of whatever names. -/
theorem make_nm {B p : Nat} {F : Nat → Prop} {N : NS} {w : World} (h : NR w B p F N) :
    Calls Tryz.prog 17 #[.pointer (some ⟨p, 0, none⟩)] w (MovedPost w B p F (afterM N) (.tuple #[.int .i64 (madeI N), .bool (canMake N)])) := by
  cases hc : canMake N
  · refine (make_full hc h).mono fun e w' ⟨he, hb⟩ => ⟨?_, F, ?_, Moved.of_below hb⟩
    · rw [he]; simp [madeI, hc]
    · simp only [afterM, hc]; exact h.later hb
  · refine (make_one hc h).mono fun e w' ⟨he, F', h', m⟩ => ⟨?_, F', ?_, m⟩
    · rw [he]; simp [madeI, hc]
    · simp only [afterM, hc, if_true]; exact h'

theorem join_no {B p : Nat} {F : Nat → Prop} {N : NS} {a b : Int} {w : World} (hc : joinB N a b = false) (h : NR w B p F N) :
    Calls Tryz.prog 113 #[.pointer (some ⟨p, 0, none⟩), .int .i64 a, .int .i64 b] w fun e w' => e = .returned (.bool false) ∧ w = w' := by
  have hA := has_nm a h
  have hB := has_nm b h
  clear h
  by_cases hab : a = b
  · subst hab
    clear hA hB hc
    go_enter Tryz.func113, Tryz.ntmps113
    go_wp2
    go_ret
    exact ⟨rfl, rfl⟩
  · have hne : (a == b) = false := by simpa using hab
    cases h1 : hasB N a
    · rw [h1] at hA
      clear hB hc h1 hab
      go_enter Tryz.func113, Tryz.ntmps113
      go_wp2_with fail
      refine hA.mono ?_
      rintro e w1 ⟨rfl, rfl⟩
      go_wp2
      go_ret
      exact ⟨rfl, rfl⟩
    · have h2 : hasB N b = false := by simpa [joinB, h1, hab] using hc
      rw [h1] at hA
      rw [h2] at hB
      clear hc h1 h2 hab
      go_enter Tryz.func113, Tryz.ntmps113
      go_wp2_with fail
      refine hA.mono ?_
      rintro e w1 ⟨rfl, rfl⟩
      go_wp2_with fail
      refine hB.mono ?_
      rintro e w1 ⟨rfl, rfl⟩
      go_wp2
      go_ret
      exact ⟨rfl, rfl⟩
theorem join_yes {B p : Nat} {F : Nat → Prop} {N : NS} {a b : Nat} {w : World} (hab : a ≠ b) (ha : 1 ≤ a ∧ a < N.roots.length) (hb : 1 ≤ b ∧ b < N.roots.length) (ea : N.at a = a) (eb : N.at b = b) (h : NR w B p F N) :
    Calls Tryz.prog 113 #[.pointer (some ⟨p, 0, none⟩), .int .i64 a, .int .i64 b] w (MovedPost w B p F (joinN N a b) (.bool true)) := by
  have hA := has_nm a h
  have hB := has_nm b h
  rw [has_of ha.1 ha.2 ea] at hA
  rw [has_of hb.1 hb.2 eb] at hB
  have hne : ((a : Int) == b) = false := by simp; omega
  obtain ⟨hN, v, l, d, h, ht, rfl⟩ := h
  obtain ⟨g, c, rfl, hlc, hcm, hgp, hg, hcell⟩ := h.slice ht.len hN
  obtain ⟨hfit, hcnt⟩ := join_fit hN ha hb ea eb hab
  obtain ⟨d', ht'⟩ := tree_join ht ha.2 hb.2 ea eb hab
  have htl := ht.len
  have hlen := hN.lenLe
  have hbl : b < l.length := by omega
  have hcl := hN.countLe
  have hc1 : ((joinN N a b).count : Int) = (N.count : Int) - 1 := by omega
  have c1 := h.c1
  have c2 := h.c2
  have f2 := h.free 2
  have cb := hcell b hbl
  have fb := h.row.frozenAt b
  have hpg : p ≠ g := hgp.symm
  unfold maxLen at hcm
  clear ha hb ea eb hab hcell
  go_enter Tryz.func113, Tryz.ntmps113
  go_wp2_with fail
  refine hA.mono ?_
  rintro e w1 ⟨rfl, rfl⟩
  go_wp2_with fail
  refine hB.mono ?_
  rintro e w1 ⟨rfl, rfl⟩
  clear hA hB
  go_wp2
  go_ret
  have hrow : ((w.setCell ⟨g, b, none⟩ (.int .i64 a)).ownsRow B 3 1 (.slice (some ⟨g, 0, none⟩) l.length c) l.length (cellsN (l.set b a))) := by
    have := (h.row.stored b (.int .i64 a)).1
    rw [cellsN_set] at this
    exact this
  refine ⟨rfl, _, ⟨hfit, .slice (some ⟨g, 0, none⟩) l.length c, l.set b a, d', ⟨?_, ?_, h.base, h.apart⟩, ht', rfl⟩, ?_, fun k hk => Or.inl hk⟩
  · have := blk_set (blk_set_other h.blk (a := ⟨g, b, none⟩) hgp (.int .i64 a)) 2 (.int .i64 ((N.count : Int) - 1))
    rw [hc1]
    exact this
  · rw [List.length_set]
    exact owns_set_other (a := ⟨p, 2, none⟩) hrow (fun e => hgp (by simpa [Value.ownBlock] using e)) _
  · exact ((Keeps.refl _ w).setCell ⟨g, b, none⟩ (Or.inl (Or.inr rfl)) _).setCell ⟨p, 2, none⟩ (Or.inl (Or.inl rfl)) _
/-- Join, of whatever names. -/
theorem join_nm {B p : Nat} {F : Nat → Prop} {N : NS} (a b : Int) {w : World} (h : NR w B p F N) :
    Calls Tryz.prog 113 #[.pointer (some ⟨p, 0, none⟩), .int .i64 a, .int .i64 b] w (MovedPost w B p F (afterJ N a b) (.bool (joinB N a b))) := by
  cases hc : joinB N a b
  · refine (join_no hc h).mono fun e w' ⟨he, hw⟩ => ⟨he, F, ?_, ?_⟩
    · subst hw; simp only [afterJ, hc]; exact h
    · subst hw; exact Moved.refl _ _
  · obtain ⟨i, j, rfl, rfl, hij, hi, hj, ei, ej⟩ := joinB_at hc
    refine (join_yes hij hi hj ei ej h).mono fun e w' ⟨he, F', h', m⟩ => ⟨he, F', ?_, m⟩
    simp only [afterJ, hc, if_true, Int.toNat_natCast]; exact h'
end Go.Proofs.YtmoolbmbdnkooaaGreat

namespace Go.Proofs.YtmoolbmbdnkooaaGreat
open Go.RowKit Go.Sort

theorem root_none {B p : Nat} {F : Nat → Prop} {N : NS} {s : Int} {w : World} (hc : madeB N s = false) (h : NR w B p F N) :
    Calls Tryz.prog 106 #[.pointer (some ⟨p, 0, none⟩), .int .i64 s] w fun e w' => e = .returned (.tuple #[.int .i64 0, .bool false]) ∧ w = w' := by
  have hM := made_nm s h
  rw [hc] at hM
  clear hc h
  go_enter Tryz.func106, Tryz.ntmps106
  go_wp2_with fail
  refine hM.mono ?_
  rintro e w1 ⟨rfl, rfl⟩
  go_wp2
  go_ret2
  exact ⟨rfl, rfl⟩
theorem root_some {B p : Nat} {F : Nat → Prop} {N : NS} {s : Nat} {w : World} (hs : 1 ≤ s ∧ s < N.roots.length) (h : NR w B p F N) :
    Calls Tryz.prog 106 #[.pointer (some ⟨p, 0, none⟩), .int .i64 s] w (MovedPost w B p F N (.tuple #[.int .i64 (N.at s), .bool true])) := by
  have hM := made_nm (s : Int) h
  rw [show madeB N s = true by simp [madeB]; omega] at hM
  obtain ⟨hN, v, l, d, h, ht, rfl⟩ := h
  have hlen := hN.lenLe
  have hpos := hN.pos
  have htl := ht.len
  obtain ⟨g0, c0, hv, _⟩ := h.slice ht.len hN
  obtain ⟨R, hR⟩ : ∃ R, R = N.at s := ⟨_, rfl⟩
  rw [← hR]
  have hsl : s < l.length := by omega
  obtain ⟨n, hn⟩ : ∃ n, n = l.length := ⟨_, rfl⟩
  subst hv
  rw [← hn] at h hsl htl
  have hnl : n ≤ 65537 := by omega
  have hnr := Lib.hid htl
  clear htl hlen hpos
  go_enter Tryz.func106, Tryz.ntmps106
  go_wp2_with fail
  refine hM.mono ?_
  rintro e w1 ⟨rfl, rfl⟩
  clear hM
  go_wp2_with fail
  go_loopw [1] (fun v wr => ∃ (i : Nat) (l' : List Nat), i < n ∧ v = .int .i64 i ∧ N.at i = R ∧ l'.length = n ∧ NmAt wr B p (.slice (some ⟨g0, 0, none⟩) n c0) l' N ∧ Tree l' N d ∧ Keeps (nmF p (.slice (some ⟨g0, 0, none⟩) n c0)) w wr) (fun v _ => d (intOf v).toNat)
  case atStart => exact ⟨s, l, hsl, rfl, hR.symm, hn.symm, h, ht, Keeps.refl _ _⟩
  case round =>
    clear h ht hR hsl hs
    obtain ⟨i, l', hi, rfl, hiR, hll, h, ht, hk⟩ := hrel
    obtain ⟨g, c, hv, hlc, hcm, hgp, hg, hcell⟩ := h.slice ht.len hN
    rw [hll] at hv hlc
    cases hv
    have c1 := h.c1
    have ci := hcell i (by omega)
    have hx := ht.lt i (by omega)
    have cx := hcell _ hx
    have hrow := h.row
    rw [hll] at hrow
    have fi := hrow.frozenAt i
    unfold maxLen at hcm
    by_cases hlx : l'.getD i 0 = i
    · have hii := Lib.hid ((tree_at ht (by omega)).1 hlx)
      rw [hlx] at ci
      clear cx hlx hx hcell
      go_wp2_with fail
      go_ret2
      exact ⟨by rw [← hiR, hii.out]; rfl, _, ⟨hN, _, l', d, h, ht, rfl⟩, hk, fun k hk => Or.inl hk⟩
    · have ht2 := tree_half ht (by omega) hlx
      have hdx := ht.dep i (by omega) hlx
      have hdz : d (l'.getD (l'.getD i 0) 0) < d i := by
        by_cases e : l'.getD (l'.getD i 0) 0 = l'.getD i 0
        · rw [e]; exact hdx
        · have := ht.dep _ hx e; exact Nat.lt_trans this hdx
      have hRz : N.at (l'.getD (l'.getD i 0) 0) = R := by rw [ht.par _ hx, ht.par i (by omega)]; exact hiR
      have hne : ((l'.getD i 0 : Int) == i) = false := by simp only [beq_eq_false_iff_ne, ne_eq, Int.natCast_inj]; exact hlx
      have hz : l'.getD (l'.getD i 0) 0 < n := by have := ht.lt _ hx; omega
      rw [hll] at hx
      generalize l'.getD (l'.getD i 0) 0 = z at *
      generalize l'.getD i 0 = x at *
      clear hlx hdx hcell
      go_wp2_with fail
      go_region
      obtain ⟨w2, h2, k2, hw2⟩ : ∃ w2, NmAt w2 B p (.slice (some ⟨g0, 0, none⟩) n c0) (l'.set i z) N ∧ Keeps (nmF p (.slice (some ⟨g0, 0, none⟩) n c0)) w w2 ∧ (wr.setCell ⟨g0, i, none⟩ (.int .i64 z)).drew = w2 := by
        refine ⟨_, ⟨blk_drew (blk_set_other h.blk (a := ⟨g0, i, none⟩) hgp _), ?_, h.base, h.apart⟩, (hk.setCell ⟨g0, i, none⟩ (Or.inl (Or.inr rfl)) _).drew, rfl⟩
        have := (hrow.stored i (.int .i64 z)).1
        rw [cellsN_set] at this
        rw [List.length_set, hll]
        exact this.drew
      rw [hw2]
      have hc2 := (h2.slice (by rw [List.length_set, hll, ← hnr.out]) hN)
      obtain ⟨g2, c2, hv2, _, _, _, _, hcell2⟩ := hc2
      rw [List.length_set, hll] at hv2 hcell2
      cases hv2
      have d1 := h2.c1
      have di := hcell2 i hi
      rw [getD_set _ _ _ _ _ (by omega), if_pos rfl] at di
      clear hw2 hcell2 c1 ci cx fi h hrow ht hk
      go_wp2_with fail
      go_roundw
      case rel => exact ⟨z, l'.set i z, hz, rfl, hRz, by rw [List.length_set, hll], h2, ht2, k2⟩
      case measure => simpa [intOf] using hdz
/-- Root, of whatever names. -/
theorem root_nm {B p : Nat} {F : Nat → Prop} {N : NS} (s : Int) {w : World} (h : NR w B p F N) :
    Calls Tryz.prog 106 #[.pointer (some ⟨p, 0, none⟩), .int .i64 s] w (MovedPost w B p F N (.tuple #[.int .i64 (rootI N s), .bool (madeB N s)])) := by
  cases hc : madeB N s
  · refine (root_none hc h).mono fun e w' ⟨he, hw⟩ => ⟨?_, F, ?_, ?_⟩
    · rw [he]; simp [rootI, hc]
    · subst hw; exact h
    · subst hw; exact Moved.refl _ _
  · obtain ⟨i, rfl⟩ : ∃ i : Nat, s = i := ⟨s.toNat, by simp [madeB] at hc; omega⟩
    refine (root_some (by simp [madeB] at hc; omega) h).mono fun e w' ⟨he, hw⟩ => ⟨?_, hw⟩
    rw [he]; simp [rootI, hc]
end Go.Proofs.YtmoolbmbdnkooaaGreat

namespace Go.Proofs.YtmoolbmbdnkooaaGreat
open Go.RowKit Go.Sort

theorem less_any (k1 s1 k2 s2 : Int) (w : World) :
    Calls Tryz.prog 98 #[.agg #[.int .i64 k1, .int .u64 s1], .agg #[.int .i64 k2, .int .u64 s2]] w fun e w' => e = .returned (.bool (lessB k1 s1 k2 s2)) ∧ Below w.heap.size w w' := by
  by_cases hk : k1 = k2
  · subst hk
    go_enter Tryz.func98, Tryz.ntmps98
    go_wp2
    go_ret
    exact ⟨ret_bool (lessB_same _ _ _).symm, ((Below.refl _ _).alloc (Nat.le_refl _) _).alloc (by simp) _⟩
  · have hk1 : (k1 == k2) = false := by simpa using hk
    have hk2 : (k1 != k2) = true := by simpa using hk
    have HL := Lib.hid (lessB_other hk s1 s2)
    clear hk
    go_enter Tryz.func98, Tryz.ntmps98
    go_wp2
    go_ret
    exact ⟨ret_bool HL.out.symm, ((Below.refl _ _).alloc (Nat.le_refl _) _).alloc (by simp) _⟩
theorem refLess_any (k1 s1 k2 s2 : Int) (w : World) :
    Calls Tryz.prog 62 #[.agg #[.int .i64 k1, .int .u64 s1], .agg #[.int .i64 k2, .int .u64 s2]] w fun e w' => e = .returned (.bool (lessB k1 s1 k2 s2)) ∧ Below w.heap.size w w' := by
  by_cases hk : k1 = k2
  · subst hk
    go_enter Tryz.func62, Tryz.ntmps62
    go_wp2
    go_ret
    exact ⟨ret_bool (lessB_same _ _ _).symm, ((Below.refl _ _).alloc (Nat.le_refl _) _).alloc (by simp) _⟩
  · have hk1 : (k1 == k2) = false := by simpa using hk
    have hk2 : (k1 != k2) = true := by simpa using hk
    have HL := Lib.hid (lessB_other hk s1 s2)
    clear hk
    go_enter Tryz.func62, Tryz.ntmps62
    go_wp2
    go_ret
    exact ⟨ret_bool HL.out.symm, ((Below.refl _ _).alloc (Nat.le_refl _) _).alloc (by simp) _⟩

/-- What a meter shows, when some are counted. -/
def addI (s n : Int) : Int := if n ≤ 0 then s else if 4611686018427387904 - s ≤ n then 4611686018427387904 else s + n
theorem add_range {s : Int} (hs : 0 ≤ s ∧ s ≤ 4611686018427387904) (n : Int) : 0 ≤ addI s n ∧ addI s n ≤ 4611686018427387904 := by
  unfold addI; repeat' split
  all_goals omega
theorem add_one {s : Int} (hs : s < 4611686018427387904) : addI s 1 = s + 1 := by
  unfold addI; repeat' split
  all_goals omega
theorem meter_steps (b o : Nat) (s : Int) (w : World) (hc : w.cell? ⟨b, o, none⟩ = some (.int .i64 s)) :
    Calls Tryz.prog 12 #[.pointer (some ⟨b, o, none⟩)] w fun e w' => e = .returned (.int .i64 s) ∧ w = w' := by
  go_enter Tryz.func12, Tryz.ntmps12
  go_wp2
  go_ret
  exact ⟨rfl, rfl⟩
theorem meter_count (b o : Nat) (s n : Int) (hs : 0 ≤ s ∧ s ≤ 4611686018427387904) (w : World) (hc : w.cell? ⟨b, o, none⟩ = some (.int .i64 s)) (hf : w.frozen? ⟨b, o, none⟩ = false) :
    Calls Tryz.prog 97 #[.pointer (some ⟨b, o, none⟩), .int .i64 n] w fun e w' => e = .returned (.tuple #[]) ∧ Wrote ⟨b, o, none⟩ (.int .i64 (addI s n)) w w' := by
  obtain ⟨hs0, hs1⟩ := hs
  by_cases hn : n < 0
  · have hw : Wrote ⟨b, o, none⟩ (.int .i64 (addI s n)) w w := by
      have : addI s n = s := by unfold addI; rw [if_pos (by omega)]
      rw [this]
      exact wrote_same hc
    go_enter Tryz.func97, Tryz.ntmps97
    go_wp2
    refine bodyPost_ret (results_none rfl _ _ _) rfl ?_
    exact ⟨rfl, hw⟩
  · have HA : Hid (s + (if 4611686018427387904 - s < n then 4611686018427387904 - s else n) = addI s n) := by
      have : s + (if 4611686018427387904 - s < n then 4611686018427387904 - s else n) = addI s n := by
        unfold addI
        repeat' split
        all_goals omega
      exact Lib.hid this
    go_enter Tryz.func97, Tryz.ntmps97
    go_wp2
    go_region
    go_end0
    exact ⟨rfl, by rw [← HA.out]; exact ⟨rfl, rfl, rfl, rfl⟩⟩
end Go.Proofs.YtmoolbmbdnkooaaGreat
