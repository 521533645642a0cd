/- The statement ArenaFills, walked: the call returns true, in every memory; of what was in memory nothing is changed. -/
import Derived.Test.YtahpalfdeghdmaaArena8
import Derived.Test.YtahpalfdeghdmaaArenaFillMath
namespace Go.Proofs.Ytahpalfdeghdmaa
open Go.RowKit Go.Sort

def cellsH (l : List (Nat × Nat)) : List Value := l.flatMap fun p => [.int .i64 p.1, .int .u32 p.2]
theorem cellsH_append (a b : List (Nat × Nat)) : cellsH (a ++ b) = cellsH a ++ cellsH b := by simp [cellsH]
theorem cellsH_get (l : List (Nat × Nat)) (i : Nat) (h : i < l.length) : (cellsH l)[i * 2]? = some (.int .i64 (l.getD i (0, 0)).1) ∧ (cellsH l)[i * 2 + 1]? = some (.int .u32 (l.getD i (0, 0)).2) := by
  induction l generalizing i with
  | nil => simp at h
  | cons p r ih =>
    cases i with
    | zero => simp [cellsH]
    | succ i =>
      have := ih i (by simpa using h)
      have e : (i + 1) * 2 = i * 2 + 2 := by omega
      have e2 : (i + 1) * 2 + 1 = i * 2 + 1 + 2 := by omega
      rw [e2, e]
      simpa [cellsH] using this
theorem info_handle : (Try.prog.info? 30).map (fun i => (i.zero, i.size, i.bytes)) = some (some (.agg #[.int .i64 0, .int .u32 0]), 2, 16) := by kernel_rfl

set_option maxRecDepth 100000 in
set_option maxHeartbeats 4000000 in
theorem fills_walk (c m r : Nat) (hc : c ≤ 255) (hm : m ≤ 4294967295) (hr : r ≤ 255) (w : World) :
    Calls Try.prog 6 #[.int .u8 c, .int .u32 m, .int .u8 r] w fun e w' => e = .returned (.bool true) ∧ Below w.heap.size w w' := by
  obtain ⟨i0, hi0, hz0, hz1, hz2⟩ := info_parts info_handle
  by_cases hm0 : m = 0
  · subst hm0
    have hn := new_any ((c : Int) % 20) 0
    go_enter Try.func6, Try.ntmps6
    go_wp2_with fail
    refine (alive_any _).mono ?_
    rintro e W ⟨rfl, hb⟩
    go_wp2_with fail
    refine (hn _ (by omega)).mono ?_
    rintro e w1 ⟨rfl, rfl⟩
    clear hn
    go_wp2_with fail
    go_ret
    exact ⟨rfl, hb⟩
  · go_enter Try.func6, Try.ntmps6
    go_wp2_with fail
    refine (alive_any _).mono ?_
    rintro e W ⟨rfl, hb⟩
    go_wp2_with fail
    refine (new_ar W.heap.size (c % 20) m W (by omega) (by omega) (Nat.le_refl _)).mono ?_
    rintro e w1 ⟨rfl, F1, h1, hF1, hb1⟩
    have hM := Lib.hid hm0
    have hs := fill_start (c % 20) m (by omega) (by omega)
    clear hF1 hm0
    go_wp2_with fail
    go_loopw [10] (fun i wr => ∃ (k : Nat) (A : AS) (F : Nat → Prop), k ≤ r % 6 + 1 ∧ i = .int .i64 k ∧ AR wr W.heap.size W.heap.size F A ∧ FillA k (c % 20) m 0 A [] ∧ Below W.heap.size W wr) (fun i _ => r % 6 + 1 - (intOf i).toNat)
    case atStart => exact ⟨0, _, F1, Nat.zero_le _, rfl, h1, hs, hb1⟩
    case round =>
      clear h1 hs hb1 F1
      obtain ⟨k, A, F, hk, rfl, h, hf, hbr⟩ := hrel
      by_cases hlt : k < r % 6 + 1
      · have hki : (k : Int) ≤ (r : Int) % 6 := by omega
        have hu := Lib.hid hf.usable
        have hul := usable_le h
        go_wp2_with fail
        refine (usable_ar h).mono ?_
        rintro e w2 ⟨rfl, hb2⟩
        replace h := h.later hb2
        replace hbr := below_chain hbr hb2
        clear hb2
        obtain ⟨N, hN⟩ : ∃ N, N = usableN A := ⟨_, rfl⟩
        have hNl : Hid (N = leftN k (c % 20) m) := Lib.hid (by rw [hN]; simpa using hu.out)
        rw [← hN]
        rw [← hN] at hul
        clear hN hu
        go_wp2_with fail
        obtain ⟨wo, rfl⟩ : ∃ wo : World, wo = w2 := ⟨_, rfl⟩
        go_loopw [12, 13] (fun v i wr => ∃ (j : Nat) (A : AS) (F : Nat → Prop) (l : List (Nat × Nat)), j ≤ N ∧ i = .int .i64 j ∧ AR wr W.heap.size W.heap.size F A ∧ FillA k (c % 20) m j A l ∧ wr.ownsRow W.heap.size 30 2 v j (cellsH l) ∧ (∀ b, rowF v b → ¬ F b) ∧ Below W.heap.size W wr) (fun _ i _ => N - (intOf i).toNat)
        case atStart => exact ⟨0, A, F, [], Nat.zero_le _, rfl, h, hf, World.ownsRow_nil _ _ _ _, by simp [rowF, Value.ownBlock], hbr⟩
        case round =>
          clear h hf hbr F A
          obtain ⟨j, A, F, l, hj, rfl, h, hf, hown, hap, hbr⟩ := hrel
          by_cases hlj : j < N
          · have hji : (j : Int) < N := by omega
            obtain ⟨s, g, A', ht⟩ := fill_more hf (by rw [← hNl.out]; exact hlj)
            obtain ⟨hf', hgb, hgk⟩ := fill_take hf ht
            clear hgk
            have hgn : ((s : Nat) : Int) < (c : Int) % 20 := by omega
            have hj6 : j ≤ 65536 := by omega
            go_wp2_with fail
            refine (take_ar ht h).mono ?_
            rintro e w3 ⟨rfl, F', h', mv⟩
            unfold Hnd
            have hlt3 := fun b hb => (hown.lt b hb).2
            have hap' := mv.apart hlt3 (fun b hb hr => hap b hr hb)
            replace hown := owns_keeps hown mv.keeps hap
            replace hbr := hbr.trans (mv.below_old h.lt hbr.size)
            clear mv h hlt3 ht hap
            have hap'r := hap'
            have x := Box.new (F := F') (fun b hb => (h'.lt b hb).2) #[.int .i64 s, .int .u32 g] 30
            replace h' := h'.alloc (.cells #[.int .i64 s, .int .u32 g] 30)
            replace hown := hown.alloc (.cells #[.int .i64 s, .int .u32 g] 30)
            replace hbr := hbr.alloc hbr.size (.cells #[.int .i64 s, .int .u32 g] 30)
            go_wp2_with (at_builtin; refine wpList_append_lies _ rfl _ _ 32 rfl W.heap.size 30 i0 (.agg #[.int .i64 0, .int .u32 0]) 2 16 Try.underlying32 hi0 hz0 hz1 hz2 rfl (by decide) _ _ _ rfl (hown.alloc _) ⟨w3.heap.size + 1, 0, none⟩ 1 1 [.int .i64 s, .int .u32 g] rfl rfl ?c1 ?c2 (by decide) ?c3 ?c4 ?c5 (w3.heap.size + 2) ?c6 ?_)
            case c1 => exact new_cells' _ #[.int .i64 s, .int .u32 g] _ _ _ (size_alloc _ _) rfl
            case c2 => intro u hu; simp at hu; rcases hu with rfl | rfl <;> rfl
            case c3 => unfold maxLen; omega
            case c4 => omega
            case c5 => rw [size_alloc]; exact Nat.le_succ_of_le hbr.size
            case c6 => rw [size_alloc, size_alloc]
            intro g2 cap' w4 hown2 hgrow hlies hlt
            have kp := grown_keeps hgrow
            have h4 := (h'.alloc (.cells #[.int .i64 s, .int .u32 g] 30)).keeps kp hap'r
            have hap4 : ∀ b, rowF (.slice (some ⟨g2, 0, none⟩) (j + 1) cap') b → ¬ F' b := by
              intro b hb hF
              obtain rfl : g2 = b := by simpa [rowF, Value.ownBlock] using hb
              rcases hlies with hl | hl
              · exact hap' _ hF hl
              · have := (h'.lt _ hF).2; rw [size_alloc] at this; omega
            have hbr4 := (hbr.alloc hbr.size (.cells #[.int .i64 s, .int .u32 g] 30)).trans (kp.below (by rw [size_alloc]; exact Nat.le_succ_of_le hbr.size) (fun b hb => (hown.lt b hb).1))
            clear hap' hlies kp hgrow hown hbr h' hap'r
            go_wp2
            go_roundw
            case rel => exact ⟨j + 1, A', F', l ++ [(s, g)], by omega, by go_num, h4, hf', by rw [cellsH_append]; exact hown2, hap4, hbr4⟩
            case measure => simp [intOf]; try omega
          · have hji : ¬ (j : Int) < N := by omega
            obtain rfl : j = N := by omega
            have hlen := Lib.hid hf.len
            rw [hNl.out] at hf
            obtain ⟨va, vc, hv, hvc, hvm⟩ := owns_form hown
            subst hv
            unfold maxLen at hvm
            obtain ⟨ht, hu0⟩ := fill_full hf
            have hlv := hf.live
            have hgv := fill_give hf
            have hk6 : k ≤ 6 := by omega
            have hj6 : j ≤ 65536 := by omega
            have hj0 : 0 ≤ (j : Int) := by omega
            have hmm := hM.out
            have hU := fun w h => usable_ar (B := W.heap.size) (p := W.heap.size) (F := F) (A := A) (w := w) h
            have hC := fun w h => count_ar (B := W.heap.size) (p := W.heap.size) (F := F) (A := A) (w := w) h
            rw [hu0] at hU
            rw [hlv, ← hNl.out] at hC
            have hcase : (k = 0 ∧ (k : Int) < m ∧ ¬ (0 : Int) < k ∧ ((j : Int) != (c : Int) % 20) = false) ∨ ((0 : Int) < k ∧ (k : Int) < m ∧ ((m : Int) == 1) = false ∧ ((j : Int) != (c : Int) % 20) = false) ∨ ((0 : Int) < k ∧ ¬ (k : Int) < m ∧ ((m : Int) == 1) = false ∧ j = 0) ∨ ((0 : Int) < k ∧ ¬ (k : Int) < m ∧ ((m : Int) == 1) = true ∧ j = 0) := by
              have hN := hNl.out
              unfold leftN at hN
              simp only [beq_eq_false_iff_ne, beq_iff_eq, bne_eq_false_iff_eq]
              by_cases h1 : k < m
              · rw [if_pos h1] at hN
                by_cases h0 : k = 0
                · left; omega
                · right; left; omega
              · rw [if_neg h1] at hN
                by_cases h2 : m = 1
                · right; right; right; omega
                · right; right; left; omega
            clear hf hlv hu0 hmm
            rcases hcase with ⟨rfl, d1, d2, d3⟩ | ⟨d1, d2, d3, d4⟩ | ⟨d1, d2, d3, rfl⟩ | ⟨d1, d2, d3, rfl⟩
            · go_wp2_with fail
              refine (take_none_ar ht h).mono ?_
              rintro e w3 ⟨rfl, hb3⟩
              unfold Hnd
              replace h := h.later hb3
              replace hown := owns_later hown hb3
              replace hbr := below_chain hbr hb3
              replace h := h.alloc (.cells #[.int .i64 0, .int .u32 0] 30)
              replace hown := hown.alloc (.cells #[.int .i64 0, .int .u32 0] 30)
              replace hbr := hbr.alloc hbr.size (.cells #[.int .i64 0, .int .u32 0] 30)
              clear hb3 ht
              go_wp2_with fail
              refine (hU _ h).mono ?_
              rintro e w4 ⟨rfl, hb4⟩
              replace h := h.later hb4
              replace hown := owns_later hown hb4
              replace hbr := below_chain hbr hb4
              clear hb4
              go_wp2_with fail
              refine (hC _ h).mono ?_
              rintro e w5 ⟨rfl, rfl⟩
              clear hU hC
              go_wp2_with fail
              clear d1 d2 d3
              obtain ⟨wo, rfl⟩ : ∃ wo : World, wo = w4 := ⟨_, rfl⟩
              go_loopw [118] (fun i wr => ∃ (q : Nat) (A : AS) (F : Nat → Prop), q ≤ j ∧ i = .int .i64 q ∧ AR wr W.heap.size W.heap.size F A ∧ GiveA 0 (c % 20) m q A l ∧ wr.ownsRow W.heap.size 30 2 (.slice va j vc) j (cellsH l) ∧ (∀ b, rowF (.slice va j vc) b → ¬ F b) ∧ Below W.heap.size W wr) (fun i _ => j - (intOf i).toNat)
              case atStart => exact ⟨0, A, F, Nat.zero_le _, rfl, h, hgv, hown, hap, hbr⟩
              case round =>
                clear h hgv hown hap hbr A F
                obtain ⟨q, A, F, hq, rfl, h, hgv, hown, hap, hbr⟩ := hrel
                by_cases hlq : q < j
                · have hqi : (q : Int) < j := by omega
                  have hql : q < l.length := by rw [hlen.out]; exact hlq
                  obtain ⟨gv, cv, hv, _, _, _, _, hcell⟩ := owns_slice hown (by omega)
                  cases hv
                  have hg2 := cellsH_get l q hql
                  have a0 := hcell _ _ hg2.1
                  have a1 := hcell _ _ hg2.2
                  obtain ⟨hxi, hxg, hnext⟩ := give_step hgv hql
                  have HG := Lib.hid hxg
                  clear hcell hg2 hgv hxg
                  generalize (l.getD q (0, 0)).1 = x at *
                  generalize (l.getD q (0, 0)).2 = y at *
                  go_wp2_with fail
                  refine (give_ar (i := x) (g := y) hxi HG.out (h.alloc _)).mono ?_
                  rintro e w6 ⟨rfl, F', h', mv⟩
                  have hown1 := hown.alloc (.cells #[.int .i64 x, .int .u32 y] 30)
                  have hap' := mv.apart (fun b hb => (hown1.lt b hb).2) (fun b hb hr => hap b hr hb)
                  have hown2 := owns_keeps hown1 mv.keeps hap
                  have hbr2 := (hbr.alloc hbr.size (.cells #[.int .i64 x, .int .u32 y] 30)).trans (mv.below_old (h.alloc _).lt (by rw [size_alloc]; exact Nat.le_succ_of_le hbr.size))
                  clear mv hown1 hown hbr h hap a0 a1 HG hxi
                  go_wp2_with fail
                  go_roundw
                  case rel => exact ⟨q + 1, _, F', by omega, by go_num, h', hnext, hown2, fun b hb hr => hap' b hr hb, hbr2⟩
                  case measure => simp [intOf]; try omega
                · have hqi : ¬ (q : Int) < j := by omega
                  have hqe : q = l.length := by rw [hlen.out]; omega
                  rw [hqe] at hgv
                  have hfe := give_end hgv
                  clear hgv hown hap hqe
                  go_wp2_with fail
                  go_roundw
                  case rel => exact ⟨0 + 1, A, F, by omega, by go_num, h, hfe, hbr⟩
                  case measure => simp [intOf]; try omega
            · go_wp2_with fail
              refine (take_none_ar ht h).mono ?_
              rintro e w3 ⟨rfl, hb3⟩
              unfold Hnd
              replace h := h.later hb3
              replace hown := owns_later hown hb3
              replace hbr := below_chain hbr hb3
              replace h := h.alloc (.cells #[.int .i64 0, .int .u32 0] 30)
              replace hown := hown.alloc (.cells #[.int .i64 0, .int .u32 0] 30)
              replace hbr := hbr.alloc hbr.size (.cells #[.int .i64 0, .int .u32 0] 30)
              clear hb3 ht
              go_wp2_with fail
              refine (hU _ h).mono ?_
              rintro e w4 ⟨rfl, hb4⟩
              replace h := h.later hb4
              replace hown := owns_later hown hb4
              replace hbr := below_chain hbr hb4
              clear hb4
              go_wp2_with fail
              refine (hC _ h).mono ?_
              rintro e w5 ⟨rfl, rfl⟩
              clear hU hC
              go_wp2_with fail
              clear d1 d2 d3 d4
              obtain ⟨wo, rfl⟩ : ∃ wo : World, wo = w4 := ⟨_, rfl⟩
              go_loopw [118] (fun i wr => ∃ (q : Nat) (A : AS) (F : Nat → Prop), q ≤ j ∧ i = .int .i64 q ∧ AR wr W.heap.size W.heap.size F A ∧ GiveA k (c % 20) m q A l ∧ wr.ownsRow W.heap.size 30 2 (.slice va j vc) j (cellsH l) ∧ (∀ b, rowF (.slice va j vc) b → ¬ F b) ∧ Below W.heap.size W wr) (fun i _ => j - (intOf i).toNat)
              case atStart => exact ⟨0, A, F, Nat.zero_le _, rfl, h, hgv, hown, hap, hbr⟩
              case round =>
                clear h hgv hown hap hbr A F
                obtain ⟨q, A, F, hq, rfl, h, hgv, hown, hap, hbr⟩ := hrel
                by_cases hlq : q < j
                · have hqi : (q : Int) < j := by omega
                  have hql : q < l.length := by rw [hlen.out]; exact hlq
                  obtain ⟨gv, cv, hv, _, _, _, _, hcell⟩ := owns_slice hown (by omega)
                  cases hv
                  have hg2 := cellsH_get l q hql
                  have a0 := hcell _ _ hg2.1
                  have a1 := hcell _ _ hg2.2
                  obtain ⟨hxi, hxg, hnext⟩ := give_step hgv hql
                  have HG := Lib.hid hxg
                  clear hcell hg2 hgv hxg
                  generalize (l.getD q (0, 0)).1 = x at *
                  generalize (l.getD q (0, 0)).2 = y at *
                  go_wp2_with fail
                  refine (give_ar (i := x) (g := y) hxi HG.out (h.alloc _)).mono ?_
                  rintro e w6 ⟨rfl, F', h', mv⟩
                  have hown1 := hown.alloc (.cells #[.int .i64 x, .int .u32 y] 30)
                  have hap' := mv.apart (fun b hb => (hown1.lt b hb).2) (fun b hb hr => hap b hr hb)
                  have hown2 := owns_keeps hown1 mv.keeps hap
                  have hbr2 := (hbr.alloc hbr.size (.cells #[.int .i64 x, .int .u32 y] 30)).trans (mv.below_old (h.alloc _).lt (by rw [size_alloc]; exact Nat.le_succ_of_le hbr.size))
                  clear mv hown1 hown hbr h hap a0 a1 HG hxi
                  go_wp2_with fail
                  go_roundw
                  case rel => exact ⟨q + 1, _, F', by omega, by go_num, h', hnext, hown2, fun b hb hr => hap' b hr hb, hbr2⟩
                  case measure => simp [intOf]; try omega
                · have hqi : ¬ (q : Int) < j := by omega
                  have hqe : q = l.length := by rw [hlen.out]; omega
                  rw [hqe] at hgv
                  have hfe := give_end hgv
                  clear hgv hown hap hqe
                  go_wp2_with fail
                  go_roundw
                  case rel => exact ⟨k + 1, A, F, by omega, by go_num, h, hfe, hbr⟩
                  case measure => simp [intOf]; try omega
            · go_wp2_with fail
              refine (take_none_ar ht h).mono ?_
              rintro e w3 ⟨rfl, hb3⟩
              unfold Hnd
              replace h := h.later hb3
              replace hown := owns_later hown hb3
              replace hbr := below_chain hbr hb3
              replace h := h.alloc (.cells #[.int .i64 0, .int .u32 0] 30)
              replace hown := hown.alloc (.cells #[.int .i64 0, .int .u32 0] 30)
              replace hbr := hbr.alloc hbr.size (.cells #[.int .i64 0, .int .u32 0] 30)
              clear hb3 ht
              go_wp2_with fail
              refine (hU _ h).mono ?_
              rintro e w4 ⟨rfl, hb4⟩
              replace h := h.later hb4
              replace hown := owns_later hown hb4
              replace hbr := below_chain hbr hb4
              clear hb4
              go_wp2_with fail
              refine (hC _ h).mono ?_
              rintro e w5 ⟨rfl, rfl⟩
              clear hU hC
              go_wp2_with fail
              clear d1 d2 d3
              obtain ⟨wo, rfl⟩ : ∃ wo : World, wo = w4 := ⟨_, rfl⟩
              go_loopw [118] (fun i wr => ∃ (q : Nat) (A : AS) (F : Nat → Prop), q ≤ 0 ∧ i = .int .i64 q ∧ AR wr W.heap.size W.heap.size F A ∧ GiveA k (c % 20) m q A l ∧ wr.ownsRow W.heap.size 30 2 (.slice va 0 vc) 0 (cellsH l) ∧ (∀ b, rowF (.slice va 0 vc) b → ¬ F b) ∧ Below W.heap.size W wr) (fun i _ => 0 - (intOf i).toNat)
              case atStart => exact ⟨0, A, F, Nat.zero_le _, rfl, h, hgv, hown, hap, hbr⟩
              case round =>
                clear h hgv hown hap hbr A F
                obtain ⟨q, A, F, hq, rfl, h, hgv, hown, hap, hbr⟩ := hrel
                by_cases hlq : q < 0
                · exact absurd hlq (by omega)
                · have hqi : ¬ (q : Int) < 0 := by omega
                  have hqe : q = l.length := by rw [hlen.out]; omega
                  rw [hqe] at hgv
                  have hfe := give_end hgv
                  clear hgv hown hap hqe
                  go_wp2_with fail
                  go_roundw
                  case rel => exact ⟨k + 1, A, F, by omega, by go_num, h, hfe, hbr⟩
                  case measure => simp [intOf]; try omega
            · go_wp2_with fail
              refine (take_none_ar ht h).mono ?_
              rintro e w3 ⟨rfl, hb3⟩
              unfold Hnd
              replace h := h.later hb3
              replace hown := owns_later hown hb3
              replace hbr := below_chain hbr hb3
              replace h := h.alloc (.cells #[.int .i64 0, .int .u32 0] 30)
              replace hown := hown.alloc (.cells #[.int .i64 0, .int .u32 0] 30)
              replace hbr := hbr.alloc hbr.size (.cells #[.int .i64 0, .int .u32 0] 30)
              clear hb3 ht
              go_wp2_with fail
              refine (hU _ h).mono ?_
              rintro e w4 ⟨rfl, hb4⟩
              replace h := h.later hb4
              replace hown := owns_later hown hb4
              replace hbr := below_chain hbr hb4
              clear hb4
              go_wp2_with fail
              refine (hC _ h).mono ?_
              rintro e w5 ⟨rfl, rfl⟩
              clear hU hC
              go_wp2_with fail
              clear d1 d2 d3
              obtain ⟨wo, rfl⟩ : ∃ wo : World, wo = w4 := ⟨_, rfl⟩
              go_loopw [118] (fun i wr => ∃ (q : Nat) (A : AS) (F : Nat → Prop), q ≤ 0 ∧ i = .int .i64 q ∧ AR wr W.heap.size W.heap.size F A ∧ GiveA k (c % 20) m q A l ∧ wr.ownsRow W.heap.size 30 2 (.slice va 0 vc) 0 (cellsH l) ∧ (∀ b, rowF (.slice va 0 vc) b → ¬ F b) ∧ Below W.heap.size W wr) (fun i _ => 0 - (intOf i).toNat)
              case atStart => exact ⟨0, A, F, Nat.zero_le _, rfl, h, hgv, hown, hap, hbr⟩
              case round =>
                clear h hgv hown hap hbr A F
                obtain ⟨q, A, F, hq, rfl, h, hgv, hown, hap, hbr⟩ := hrel
                by_cases hlq : q < 0
                · exact absurd hlq (by omega)
                · have hqi : ¬ (q : Int) < 0 := by omega
                  have hqe : q = l.length := by rw [hlen.out]; omega
                  rw [hqe] at hgv
                  have hfe := give_end hgv
                  clear hgv hown hap hqe
                  go_wp2_with fail
                  go_roundw
                  case rel => exact ⟨k + 1, A, F, by omega, by go_num, h, hfe, hbr⟩
                  case measure => simp [intOf]; try omega
      · have hki : ¬ (k : Int) ≤ (r : Int) % 6 := by omega
        have hl := hf.live
        have hc := fun w h => count_ar (B := W.heap.size) (p := W.heap.size) (F := F) (A := A) (w := w) h
        rw [hl] at hc
        clear hl
        go_wp2_with fail
        refine (hc _ h).mono ?_
        rintro e w2 ⟨rfl, rfl⟩
        go_wp2_with fail
        go_ret
        exact ⟨rfl, below_chain hb hbr⟩
end Go.Proofs.Ytahpalfdeghdmaa
