/- Give. -/
import Derived.Test.YtahpalfdeghdmaaArena5
import Derived.Deep.RegionLaw
namespace Go.Proofs.Ytahpalfdeghdmaa
open Go.RowKit Go.Sort

theorem give_stale (B p : Nat) (uv wv : Value) (A : AS) (hA : A.Fit) (s g : Int) (hs : liveB A s g = false) (w : World) (h : ArAt w B p uv wv A) :
    Calls Try.prog 10 #[.pointer (some ⟨p, 0, none⟩), .agg #[.int .i64 s, .int .u32 g]] w fun e w' => e = .returned (.int .i64 33) ∧ Below w.heap.size w w' := by
  have hL := live_any B p uv wv A hA s g _ (h.alloc (.cells #[.int .i64 s, .int .u32 g] 30))
  rw [hs] at hL
  clear hs
  go_enter Try.func10, Try.ntmps10
  go_wp2_with fail
  refine hL.mono ?_
  rintro e w1 ⟨rfl, hb⟩
  go_wp2
  go_ret
  exact ⟨rfl, below_alloc1 hb⟩

theorem info_int : (Try.prog.info? 3).map (fun i => (i.zero, i.size, i.bytes)) = some (some (.int .i64 0), 1, 8) := by kernel_rfl
theorem give_live (B p : Nat) (uv wv : Value) (A : AS) (hA : A.Fit) (i g : Nat) (hi : i < A.used.length) (hg : A.used.getD i (0, false) = (g, true)) (w : World) (h : ArAt w B p uv wv A) :
    Calls Try.prog 10 #[.pointer (some ⟨p, 0, none⟩), .agg #[.int .i64 i, .int .u32 g]] w fun e w' => e = .returned (.int .i64 0) ∧ HasArena B p (arF p uv wv) (giveA A i g) w w' := by
  have hL := live_any B p uv wv A hA i g _ (h.alloc (.cells #[.int .i64 i, .int .u32 g] 30))
  rw [live_of hi hg] at hL
  have hfit := (give_fit hA hi hg).2.1
  have hF := h.lt
  have hcap := hA.cap
  have hus := hA.used
  have hwl := hA.wait
  have hll := hA.liveLe
  go_enter Try.func10, Try.ntmps10
  go_wp2_with fail
  refine hL.mono ?_
  rintro e w1 ⟨rfl, hb⟩
  have hbox := later_blk hb (blk_new w #[.int .i64 i, .int .u32 g] 30)
  have hb' := below_alloc1 hb
  have h1 := h.later hb'
  clear hL
  obtain ⟨gu, c, rfl, hc, hcm, hgB, hgl, hcell⟩ := owns_slice h1.used (by omega)
  have hgp : gu ≠ p := (h1.apart gu rfl).1
  have hgx : gu ≠ w.heap.size := by have := (hF gu (Or.inr (Or.inl rfl))).2; omega
  have hpx : p ≠ w.heap.size := by have := (hF p (Or.inl rfl)).2; omega
  obtain ⟨wa, wc, rfl, hwc, hwm⟩ := owns_form h1.wait
  have hpg := hgp.symm
  have c2 := h1.c2
  have c4 := h1.c4
  have c1 := h1.c1
  have c3 := h1.c3
  have f4 := h1.free 4
  have f3 := h1.free 3
  have hgc := cellsU_get A.used i hi
  rw [hg] at hgc
  have a1 := hcell _ _ hgc.2
  have cb0 := blk_cell hbox (o := 0) rfl
  have cb1 := blk_cell hbox (o := 1) rfl
  have fu1 := h1.used.frozenAt (i * 2 + 1)
  unfold maxLen at hcm hwm
  simp only at a1 cb0 cb1
  clear hcell hgc
  go_wp2
  go_region
  have hl1 : ((A.live - 1 : Nat) : Int) = A.live - 1 := by omega
  go_wp2
  obtain ⟨w2, h2, k2, hbox2, hsz2, hw2⟩ : ∃ w2, ArAt w2 B p (.slice (some ⟨gu, 0, none⟩) A.used.length c) (.slice wa A.waiting.length wc) ⟨A.cap, A.most, A.used.set i (g, false), A.waiting, A.live - 1⟩ ∧ Keeps (arF p (.slice (some ⟨gu, 0, none⟩) A.used.length c) (.slice wa A.waiting.length wc)) w w2 ∧ Blk w2 w.heap.size #[.int .i64 i, .int .u32 g] 30 ∧ w.heap.size < w2.heap.size ∧
      ((w1.setCell ⟨gu, i * 2 + 1, none⟩ (.bool false)).setCell ⟨p, 4, none⟩ (.int .i64 (A.live - 1))).drew = w2 := by
    refine ⟨_, ⟨?_, ?_, ?_, h1.base, h1.apart, h1.apart'⟩, ?_, ?_, ?_, rfl⟩
    · refine blk_drew ?_
      have := blk_set (blk_set_other h1.blk (a := ⟨gu, i * 2 + 1, none⟩) hgp (.bool false)) 4 (.int .i64 (A.live - 1))
      show Blk _ p #[.int .i64 A.cap, .int .u32 A.most, _, _, .int .i64 ((A.live - 1 : Nat) : Int)] _
      rw [hl1]
      exact this
    · have o1 := (h1.used.stored (i * 2 + 1) (.bool false)).1
      rw [cellsU_set1, hg] at o1
      rw [List.length_set]
      exact (owns_set_other (a := ⟨p, 4, none⟩) o1 (fun e => hgp (by simpa [Value.ownBlock] using e)) _).drew
    · exact (owns_set_other (a := ⟨p, 4, none⟩) (owns_set_other (a := ⟨gu, i * 2 + 1, none⟩) h1.wait (fun e => (h1.apart gu rfl).2 e) _) (fun e => h1.apart' p e rfl) _).drew
    · exact ((((Keeps.of_below_all hb' _).setCell ⟨gu, _, none⟩ (Or.inl (Or.inr (Or.inl rfl))) _).setCell ⟨p, 4, none⟩ (Or.inl (Or.inl rfl)) _)).drew
    · exact blk_drew (blk_set_other (blk_set_other hbox hgx _) hpx _)
    · have := blk_lt hbox
      simpa [World.drew, World.setCell] using this
  rw [hw2]
  clear hw2 c1 c2 c3 c4 f3 f4 fu1 a1 cb0 cb1 hbox
  have c1 := h2.c1
  have cb0 := blk_cell hbox2 (o := 0) rfl
  have cb1 := blk_cell hbox2 (o := 1) rfl
  simp only at c1 cb0 cb1
  by_cases hm : g = A.most
  · subst hm
    go_quiet (fail)
    go_wp2
    go_ret
    refine ⟨rfl, .slice (some ⟨gu, 0, none⟩) A.used.length c, .slice wa A.waiting.length wc, ?_, k2.drewN nq, fun k hk => Or.inl hk⟩
    have := h2.drewN nq
    simpa [giveA] using this
  · have hne : ((g : Int) == A.most) = false := by simp; omega
    go_quiet (fail)
    obtain ⟨w3, h3, k3, hbox3, hsz3, hw3⟩ : ∃ w3, ArAt w3 B p (.slice (some ⟨gu, 0, none⟩) A.used.length c) (.slice wa A.waiting.length wc) ⟨A.cap, A.most, A.used.set i (g, false), A.waiting, A.live - 1⟩ ∧ Keeps (arF p (.slice (some ⟨gu, 0, none⟩) A.used.length c) (.slice wa A.waiting.length wc)) w w3 ∧ Blk w3 w.heap.size #[.int .i64 i, .int .u32 g] 30 ∧ w.heap.size < w3.heap.size ∧ w2.drewN nq = w3 :=
      ⟨_, h2.drewN nq, k2.drewN nq, blk_drewN hbox2 nq, hsz2, rfl⟩
    rw [hw3]
    clear hw3 h2 k2 hbox2 c1 cb0 cb1
    have c3 := h3.c3
    have cb0 : w3.cell? ⟨w.heap.size, 0, none⟩ = some (.int .i64 i) := blk_cell hbox3 rfl
    have hB3 : B ≤ w3.heap.size := by have := h3.lt p (Or.inl rfl); omega
    have f3 := h3.free 3
    have hp3 := (h3.lt p (Or.inl rfl)).2
    obtain ⟨i0, hi0, hz0, hz1, hz2⟩ := info_parts info_int
    go_wp2
    go_region_law (refine step_append_lies _ rfl _ _ 57 rfl B 3 i0 (.int .i64 0) 1 8 Try.underlying57 hi0 hz0 hz1 hz2 rfl (by decide) _ _ _ rfl (h3.wait.drew.alloc _) ⟨w3.heap.size, 0, none⟩ 1 1 [.int .i64 i] rfl rfl (new_cells w3.drew #[.int .i64 i] _ _ rfl) (by intro u hu; simp at hu; subst hu; rfl) (by decide) (by unfold maxLen; simp; omega) (by simp; omega) (by show B ≤ (w3.heap.push _).size; simp; omega) (w3.heap.size + 1) (by show (w3.heap.push _).size = _; simp) ?_; intro g' cap' w4 hown hgrow hlies hlt; have kp := grown_keeps hgrow; have hblk : Blk w4 p _ _ := kp.blk (blk_alloc (blk_drew h3.blk) _) (fun e => h3.apart' p e rfl); have d3 : w4.cell? ⟨p, 3, none⟩ = some (.slice wa A.waiting.length wc) := blk_cell hblk rfl; have e3 := blk_free hblk 3)
    all_goals
      go_wp2
      go_ret
      have k4 : Keeps (arF p (.slice (some ⟨gu, 0, none⟩) A.used.length c) (.slice wa A.waiting.length wc)) w w4 := (k3.drew.alloc _).then (kp.mono fun _ _ hk => Or.inr (Or.inr hk))
      have hus4 := owns_keeps (h3.used.drew.alloc _) kp (fun b hb e => (h3.apart b hb).2 e)
      have hg1 : g' ≠ p ∧ ¬ rowF (.slice (some ⟨gu, 0, none⟩) A.used.length c) g' ∧ (rowF (.slice wa A.waiting.length wc) g' ∨ w.heap.size ≤ g') := by
        rcases hlies with hl | hl
        · exact ⟨h3.apart' g' hl, fun hf => (h3.apart g' hf).2 hl, Or.inl hl⟩
        · refine ⟨by omega, fun hf => ?_, Or.inr (by omega)⟩
          have := (h3.used.lt g' hf).2
          omega
      refine ⟨rfl, .slice (some ⟨gu, 0, none⟩) A.used.length c, .slice (some ⟨g', 0, none⟩) (A.waiting.length + 1) cap', ?_, k4.setCell ⟨p, 3, none⟩ (Or.inl (Or.inl rfl)) _, fun k hk => ?_⟩
      · have e : giveA A i g = ⟨A.cap, A.most, A.used.set i (g, false), A.waiting ++ [i], A.live - 1⟩ := by simp [giveA, hm]
        rw [e]
        refine ⟨blk_set hblk 3 _, owns_set_other (a := ⟨p, 3, none⟩) hus4 (fun e => hgp (by simpa [Value.ownBlock] using e)) _, ?_, h3.base, fun k hk => ⟨(h3.apart k hk).1, fun hf => ?_⟩, fun k hk => ?_⟩
        · refine owns_set_other (a := ⟨p, 3, none⟩) ?_ (fun e => hg1.1 (by simpa [Value.ownBlock] using e)) _
          simpa [cellsN] using hown
        · obtain rfl : g' = k := by simpa [rowF, Value.ownBlock] using hf
          exact hg1.2.1 hk
        · obtain rfl : g' = k := by simpa [rowF, Value.ownBlock] using hk
          exact hg1.1
      · rcases hk with hk | hk | hk
        · exact Or.inl (Or.inl hk)
        · exact Or.inl (Or.inr (Or.inl hk))
        · obtain rfl : g' = k := by simpa [rowF, Value.ownBlock] using hk
          rcases hg1.2.2 with h | h
          · exact Or.inl (Or.inr (Or.inr h))
          · exact Or.inr h
end Go.Proofs.Ytahpalfdeghdmaa
