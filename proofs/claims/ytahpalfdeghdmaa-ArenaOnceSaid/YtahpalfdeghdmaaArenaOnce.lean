/- The statement ArenaOnce, walked: the call returns true, in every memory; of what was in memory nothing is changed. -/
import Derived.Test.YtahpalfdeghdmaaArena9
import Derived.Test.YtahpalfdeghdmaaArenaOnceMath
import Derived.Test.YtahpalfdeghdmaaAppend
namespace Go.Proofs.Ytahpalfdeghdmaa
open Go.RowKit Go.Sort

theorem cellsH_length (l : List (Nat × Nat)) : (cellsH l).length = l.length * 2 := by
  induction l with
  | nil => rfl
  | cons p r ih => simp [cellsH] at ih ⊢; omega
theorem cellsH_take (l : List (Nat × Nat)) (k : Nat) : (cellsH l).take (k * 2) = cellsH (l.take k) := by
  induction l generalizing k with
  | nil => simp [cellsH]
  | cons p r ih =>
    cases k with
    | zero => simp [cellsH]
    | succ k =>
      have := ih k
      have e : (k + 1) * 2 = k * 2 + 2 := by omega
      rw [e]
      simpa [cellsH] using this
theorem cellsH_drop (l : List (Nat × Nat)) (k : Nat) : (cellsH l).drop (k * 2) = cellsH (l.drop k) := by
  induction l generalizing k with
  | nil => simp [cellsH]
  | cons p r ih =>
    cases k with
    | zero => simp [cellsH]
    | succ k =>
      have := ih k
      have e : (k + 1) * 2 = k * 2 + 2 := by omega
      rw [e]
      simpa [cellsH] using this
theorem cellsH_one (l : List (Nat × Nat)) : ∀ u ∈ cellsH l, u.oneCell' = true := by
  intro u hu
  simp only [cellsH, List.mem_flatMap] at hu
  obtain ⟨p, _, hp⟩ := hu
  simp at hp
  rcases hp with rfl | rfl <;> rfl

theorem once_own {w : World} {base : Nat} {e : TypeId} {v : Value} {l : List (Nat × Nat)} {n2 nl kk : Nat} (h : w.ownsRow base e 2 v (0 + kk + (nl - (kk + 1))) ([] ++ ((cellsH l).drop (0 * 2)).take (kk * 2) ++ ((cellsH l).drop ((kk + 1) * 2)).take ((nl - (kk + 1)) * 2))) (hn : n2 = 0 + kk + (nl - (kk + 1))) (hl : l.length ≤ kk + 1 + (nl - (kk + 1))) : w.ownsRow base e 2 v n2 (cellsH (l.take kk ++ l.drop (kk + 1))) := by
  rw [hn, cellsH_append, ← cellsH_take, ← cellsH_drop]
  have : ((cellsH l).drop ((kk + 1) * 2)).take ((nl - (kk + 1)) * 2) = (cellsH l).drop ((kk + 1) * 2) := List.take_of_length_le (by rw [List.length_drop, cellsH_length]; omega)
  rw [this] at h
  simpa using h
theorem once_own0 {w : World} {base : Nat} {e : TypeId} {v : Value} {l : List (Nat × Nat)} {n2 kk : Nat} (h : w.ownsRow base e 2 v (0 + kk + 0) ([] ++ ((cellsH l).drop (0 * 2)).take (kk * 2) ++ [])) (hn : n2 = kk) (hl : l.length = kk + 1) : w.ownsRow base e 2 v n2 (cellsH (l.take kk ++ l.drop (kk + 1))) := by
  rw [hn, cellsH_append, ← cellsH_take, List.drop_eq_nil_of_le (by omega)]
  simpa [cellsH] using h

set_option maxRecDepth 100000 in
set_option maxHeartbeats 4000000 in
theorem once_walk (c m : Nat) (a : Option Addr) (cap : Nat) (acts : List Bool) (hc : c ≤ 255) (hm : m ≤ 4294967295) (w : World) (hlen : acts.length ≤ 9223372036854775807)
    (hact : ∀ k, k < acts.length → ∃ b off, a = some ⟨b, off, none⟩ ∧ w.cell? ⟨b, off + k, none⟩ = some (.bool (acts.getD k false))) :
    Calls Try.prog 5 #[.int .u8 c, .int .u32 m, .slice a acts.length cap] w fun e w' => e = .returned (.bool true) ∧ Below w.heap.size w w' := by
  obtain ⟨i0, hi0, hz0, hz1, hz2⟩ := info_parts info_handle
  by_cases hm0 : m = 0
  · subst hm0
    have hn := new_any ((c : Int) % 20) 0
    go_enter Try.func5, Try.ntmps5
    go_wp2_with fail
    refine (alive_any _).mono ?_
    rintro e W ⟨rfl, hb⟩
    go_wp2_with fail
    refine (hn _ (by omega)).mono ?_
    rintro e w1 ⟨rfl, rfl⟩
    clear hn
    go_wp2_with fail
    all_goals
      go_ret
      exact ⟨ret_bool (by simp_all), hb⟩
  · go_enter Try.func5, Try.ntmps5
    go_wp2_with fail
    refine (alive_any _).mono ?_
    rintro e W ⟨rfl, hb⟩
    go_wp2_with fail
    refine (new_ar W.heap.size (c % 20) m W (by omega) (by omega) (Nat.le_refl _)).mono ?_
    rintro e w1 ⟨rfl, F1, h1, hF1, hb1⟩
    have hs := once_start (c % 20) m (by omega) (by omega)
    clear hF1 hm0
    by_cases hl80 : 80 < acts.length
    · go_wp2_with fail
      go_ret
      exact ⟨rfl, below_chain hb hb1⟩
    · go_wp2_with fail
      have ho9 : ((w1.alloc (.cells #[] 30)).alloc (.cells #[] 30)).ownsRow W.heap.size 30 2 (.slice (some ⟨w1.heap.size, 0, none⟩) 0 0) 0 (cellsH []) := (owns_empty w1 _ 2 _ hb1.size).alloc _
      have ho10 : ((w1.alloc (.cells #[] 30)).alloc (.cells #[] 30)).ownsRow W.heap.size 30 2 (.slice (some ⟨w1.heap.size + 1, 0, none⟩) 0 0) 0 (cellsH []) := by
        have := owns_empty (w1.alloc (.cells #[] 30)) 30 2 W.heap.size (by rw [size_alloc]; exact Nat.le_succ_of_le hb1.size)
        rw [size_alloc] at this
        exact this
      have hlt1 := fun b hb => (h1.lt b hb).2
      have hA0 := (h1.alloc (.cells #[] 30)).alloc (.cells #[] 30)
      have hb0 := (hb1.alloc hb1.size (.cells #[] 30)).alloc (by rw [size_alloc]; exact Nat.le_succ_of_le hb1.size) (.cells #[] 30)
      go_loopw [9, 10, 53] (fun v9 v10 i wr => ∃ (k : Nat) (A : AS) (F : Nat → Prop) (l e : List (Nat × Nat)) (nl ne : Nat), k ≤ acts.length ∧ nl ≤ k ∧ ne ≤ k ∧ i = .int .i64 k ∧ AR wr W.heap.size W.heap.size F A ∧ OnceA A l e nl ne ∧
        wr.ownsRow W.heap.size 30 2 v9 nl (cellsH l) ∧ wr.ownsRow W.heap.size 30 2 v10 ne (cellsH e) ∧ (∀ b, rowF v9 b → ¬ F b) ∧ (∀ b, rowF v10 b → ¬ F b) ∧ (∀ b, rowF v9 b → ¬ rowF v10 b) ∧ Below W.heap.size W wr) (fun _ _ i _ => acts.length - (intOf i).toNat)
      case atStart =>
        refine ⟨0, _, F1, [], [], 0, 0, Nat.zero_le _, Nat.le_refl _, Nat.le_refl _, rfl, hA0, hs, ho9, ho10, ?_, ?_, ?_, hb0⟩
        · intro b hb hf
          obtain rfl : w1.heap.size = b := by simpa [rowF, Value.ownBlock] using hb
          exact absurd (hlt1 _ hf) (by omega)
        · intro b hb hf
          obtain rfl : w1.heap.size + 1 = b := by simpa [rowF, Value.ownBlock] using hb
          exact absurd (hlt1 _ hf) (by omega)
        · intro b hb hf
          obtain rfl : w1.heap.size = b := by simpa [rowF, Value.ownBlock] using hb
          simp [rowF, Value.ownBlock] at hf
      case round =>
        clear h1 hs ho9 ho10 hlt1 hA0 hb0 hb1 F1
        obtain ⟨k, A, F, l, e, nl, ne, hk, hnl, hne, rfl, har, hon, hown9, hown10, hd9, hd10, hdd, hbr⟩ := hrel
        by_cases hlt : k < acts.length
        · obtain ⟨ba, offa, rfl, hcell⟩ := hact k hlt
          replace hcell := later hbr (later hb hcell)
          have hki : (k : Int) < acts.length := by omega
          cases hav : acts.getD k false
          · rw [hav] at hcell
            clear hav
            obtain ⟨v9a, v9c, hv9, hv9c, hv9m⟩ := owns_form hown9
            subst hv9
            have hnl2 : nl ≤ 80 := by omega
            unfold maxLen at hv9m
            rcases Nat.eq_zero_or_pos nl with rfl | hpos
            · go_wp2_with fail
              obtain ⟨wo, hwo⟩ : ∃ wo : World, wo = wr := ⟨_, rfl⟩
              subst hwo
              go_loopw [122] (fun i wr => ∃ q : Nat, q ≤ 0 ∧ i = .int .i64 q ∧ Below wo.heap.size wo wr) (fun i _ => 0 - (intOf i).toNat)
              case atStart => exact ⟨0, Nat.zero_le _, rfl, Below.refl _ _⟩
              case round =>
                obtain ⟨q, hq, rfl, hb3⟩ := hrel
                by_cases hlq : q < 0
                · exact absurd hlq (by omega)
                · have hqi : ¬ (q : Int) < 0 := by omega
                  obtain rfl : q = 0 := by omega
                  have hC := count_ar (har.later hb3)
                  rw [hon.live] at hC
                  have hA1 := har.later hb3
                  have ho1 := owns_later hown9 hb3
                  have ho2 := owns_later hown10 hb3
                  have hbr1 := below_chain hbr hb3
                  clear har hown9 hown10 hbr hb3
                  go_wp2_with fail
                  refine hC.mono ?_
                  rintro e w7 ⟨rfl, rfl⟩
                  clear hC
                  go_wp2_with fail
                  go_roundw
                  case rel => exact ⟨k + 1, _, _, _, _, _, _, by omega, by omega, by omega, by go_num, hA1, hon, ho1, ho2, hd9, hd10, hdd, hbr1⟩
                  case measure => simp [intOf]; omega
            · obtain ⟨gv, cv, hv, _, _, hgB, hgl, hcel9⟩ := owns_slice hown9 hpos
              cases hv
              obtain ⟨kk, hkk, hke⟩ : ∃ kk : Nat, kk < nl ∧ (k : Int) % (nl : Int) = (kk : Int) := ⟨k % nl, Nat.mod_lt _ hpos, rfl⟩
              have hposI : (0 : Int) < nl := by omega
              have hg2 := cellsH_get l kk (by rw [hon.len]; exact hkk)
              have a0 := hcel9 _ _ hg2.1
              have a1 := hcel9 _ _ hg2.2
              obtain ⟨hgi, hgg, hon2, hdead⟩ := once_give hon hkk
              have HG := Lib.hid hgg
              have HD := Lib.hid hdead
              clear hcel9 hg2 hgg hdead
              generalize (l.getD kk (0, 0)).1 = x at *
              generalize (l.getD kk (0, 0)).2 = y at *
              have hkkI : (kk : Int) < nl := by omega
              by_cases hcv : v9c = kk + 1
              · have hnk : nl = kk + 1 := by omega
                have hcv' := Lib.hid hcv
                have hnk' := Lib.hid hnk
                have hlenl := Lib.hid hon.len
                clear hcv hnk
                go_wp2_with fail
                rw [hke]
                clear hke
                obtain rfl := hcv'.out
                obtain rfl := hnk'.out
                replace hlenl := hlenl.out
                clear hcv' hnk'
                have hB5 : W.heap.size ≤ (wr.alloc (.cells #[.int .i64 x, .int .u32 y] 30)).heap.size := by rw [size_alloc]; exact Nat.le_succ_of_le hbr.size
                have x18 := blk_new wr #[.int .i64 x, .int .u32 y] 30
                have hoff : ∀ b, b = wr.heap.size → ¬ F b := fun b e hb => absurd (har.lt b hb).2 (by omega)
                have hown9s := hown9.alloc (.cells #[.int .i64 x, .int .u32 y] 30)
                have hown10s := hown10.alloc (.cells #[.int .i64 x, .int .u32 y] 30)
                have hars := har.alloc (.cells #[.int .i64 x, .int .u32 y] 30)
                have hbrs := hbr.alloc hbr.size (.cells #[.int .i64 x, .int .u32 y] 30)
                obtain ⟨w5, hw5⟩ : ∃ w5 : World, w5 = wr.alloc (.cells #[.int .i64 x, .int .u32 y] 30) := ⟨_, rfl⟩
                rw [← hw5]
                rw [← hw5] at hB5 x18 hown9s hown10s hars hbrs
                generalize wr.heap.size = b18 at *
                clear hw5 hown9 hown10 har hbr a0 a1 hcell
                have s1 : IntKind.i64.wrap ((kk : Int) + 1) = (kk : Int) + 1 := IntWalk.i64_in _ (by omega)
                have s2 : 0 ≤ (kk : Int) + 1 := by omega
                have s3 : ((kk : Int) + 1).toNat = kk + 1 := by omega
                have s4 : (kk : Int) + 1 ≤ (kk + 1 : Nat) := by omega
                have s5 : (kk : Int) ≤ (kk : Int) + 1 := by omega
                have s6 : True := trivial
                have s7 : True := trivial
                have s8 : True := trivial
                have hz5 : w5.heap.size ≤ ((w5.alloc (.cells #[] 30)).drew).heap.size := (((Below.refl _ w5).alloc (Nat.le_refl _) (.cells #[] 30)).drew).size
                go_region_law (first
                  | (refine step_append_any _ rfl _ _ 32 rfl W.heap.size 30 i0 (.agg #[.int .i64 0, .int .u32 0]) 2 16 Try.underlying32 hi0 hz0 hz1 hz2 rfl (by decide) _ _ _ rfl (owns_empty w5 _ 2 _ hB5).drew _ kk (((cellsH l).drop (0 * 2)).take (kk * 2)) rfl ((reads_sub hown9s 0 kk _ (by omega)).later (((Below.refl _ _).alloc (Nat.le_refl _) _).drew)) (fun u hu => cellsH_one l u (List.mem_of_mem_drop (List.mem_of_mem_take hu))) (by unfold maxLen; omega) (by omega) (Nat.le_trans hB5 hz5) ?_; intro v1 w6 hown1 hgrow1 hlies1; have hv1 := fresh_first hgrow1 hlies1)
                  | (refine step_append_any _ rfl _ _ 32 rfl W.heap.size 30 i0 (.agg #[.int .i64 0, .int .u32 0]) 2 16 Try.underlying32 hi0 hz0 hz1 hz2 rfl (by decide) v1 _ _ rfl hown1 _ 0 [] rfl (reads_empty _ _ _ _) (fun u hu => by simp at hu) (by unfold maxLen; omega) (by omega) (Nat.le_trans hB5 hv1.1.size) ?_; intro v2 w7 hown2 hgrow2 hlies2; have hv2 := fresh_next hv1.1 (Nat.le_refl _) hv1.2 hgrow2 hlies2))
                obtain ⟨n2, hn2, hn2k⟩ : ∃ n2 : Nat, n2 = kk + 1 - 1 ∧ n2 ≤ k := ⟨_, rfl, by omega⟩
                have hon := hon2
                rw [← hn2] at hon
                have hown9 : w7.ownsRow W.heap.size 30 2 v2 n2 (cellsH (l.take kk ++ l.drop (kk + 1))) := once_own0 hown2 (by omega) hlenl
                have hown10 := owns_later hown10s hv2.1
                have har := hars.later hv2.1
                have hbr := below_chain hbrs hv2.1
                have x18b : Box F w7 b18 #[.int .i64 x, .int .u32 y] 30 := ⟨later_blk hv2.1 x18, hoff _ rfl⟩
                have hd9 : ∀ b, rowF v2 b → ¬ F b := fun b hb hf => absurd (hars.lt b hf).2 (by have := hv2.2 b hb; omega)
                have hdd : ∀ b, rowF v2 b → ¬ rowF u10 b := fun b hb hf => absurd (hown10s.lt b hf).2 (by have := hv2.2 b hb; omega)
                have p0 := x18b.cell (o := 0) (v := .int .i64 x) rfl
                have p1 := x18b.cell (o := 1) (v := .int .u32 y) rfl
                have hn280 : n2 ≤ 80 := by omega
                clear hv1 hv2 hgrow1 hgrow2 hlies1 hlies2 hown1 hown2 hown9s hown10s hars hbrs x18 hoff hz5 hB5 s1 s2 s3 s4 s5 s6 s7 s8 hn2 hkkI hon2 hlenl
                obtain ⟨v9a', v9c', hv9', hv9c', hv9m'⟩ := owns_form hown9
                subst hv9'
                unfold maxLen at hv9m'
                go_wp2_with fail
                refine (give_ar (i := x) (g := y) hgi HG.out har).mono ?_
                rintro e5 w8 ⟨rfl, F', har2, mv⟩
                have hd9' := mv.apart (fun b hb => (hown9.lt b hb).2) (fun b hb hr => hd9 b hr hb)
                have hd10' := mv.apart (fun b hb => (hown10.lt b hb).2) (fun b hb hr => hd10 b hr hb)
                replace hown9 := owns_keeps hown9 mv.keeps hd9
                replace hown10 := owns_keeps hown10 mv.keeps hd10
                replace hbr := hbr.trans (mv.below_old har.lt hbr.size)
                have x18c := x18b.moved mv
                clear p0 p1 mv har hd9 hd10 HG hgi x18b
                have p0 := x18c.cell (o := 0) (v := .int .i64 x) rfl
                have p1 := x18c.cell (o := 1) (v := .int .u32 y) rfl
                have hL := live_ar (x : Int) (y : Int) har2
                rw [HD.out] at hL
                go_wp2_with fail
                refine hL.mono ?_
                rintro e5 w9 ⟨rfl, hb9⟩
                replace hown9 := owns_later hown9 hb9
                replace hown10 := owns_later hown10 hb9
                replace hbr := below_chain hbr hb9
                replace x18c := x18c.later hb9
                replace har2 := har2.later hb9
                clear hb9 p0 p1 hL
                have p0 := x18c.cell (o := 0) (v := .int .i64 x) rfl
                have p1 := x18c.cell (o := 1) (v := .int .u32 y) rfl
                go_wp2_with fail
                refine (stale_ar HD.out har2).mono ?_
                rintro e5 w10 ⟨rfl, hb10⟩
                replace hown9 := owns_later hown9 hb10
                replace hown10 := owns_later hown10 hb10
                replace hbr := below_chain hbr hb10
                have har := har2.later hb10
                have hd9 := fun b hb hf => hd9' b hf hb
                have hd10 := fun b hb hf => hd10' b hf hb
                clear hb10 p0 p1 har2 x18c HD hd9' hd10'
                go_wp2_with fail
                obtain ⟨wo, hwo⟩ : ∃ wo : World, wo = w10 := ⟨_, rfl⟩
                subst hwo
                go_loopw [122] (fun i wr => ∃ q : Nat, q ≤ n2 ∧ i = .int .i64 q ∧ Below wo.heap.size wo wr) (fun i _ => n2 - (intOf i).toNat)
                case atStart => exact ⟨0, Nat.zero_le _, rfl, Below.refl _ _⟩
                case round =>
                  obtain ⟨q, hq, rfl, hb3⟩ := hrel
                  by_cases hlq : q < n2
                  · have hqi : (q : Int) < n2 := by omega
                    obtain ⟨gq, cq, hv, _, _, _, _, hcell⟩ := owns_slice hown9 (by omega)
                    cases hv
                    have hg2 := cellsH_get (l.take kk ++ l.drop (kk + 1)) q (by rw [hon.len]; exact hlq)
                    have a0 := later hb3 (hcell _ _ hg2.1)
                    have a1 := later hb3 (hcell _ _ hg2.2)
                    have HV := Lib.hid (once_live hon hlq)
                    clear hcell hg2
                    generalize ((l.take kk ++ l.drop (kk + 1)).getD q (0, 0)).1 = x at *
                    generalize ((l.take kk ++ l.drop (kk + 1)).getD q (0, 0)).2 = y at *
                    go_wp2_with fail
                    refine (live_ar x y ((har.later hb3).alloc _)).mono ?_
                    rintro e w6 ⟨rfl, hb6⟩
                    rw [HV.out]
                    replace hb6 := below_chain hb3 (below_alloc1 hb6)
                    clear hb3 a0 a1 HV
                    go_wp2_with fail
                    go_roundw
                    case rel => exact ⟨q + 1, by omega, by go_num, hb6⟩
                    case measure => simp [intOf]; omega
                  · have hqi : ¬ (q : Int) < n2 := by omega
                    obtain rfl : q = n2 := by omega
                    have hC := count_ar (har.later hb3)
                    rw [hon.live] at hC
                    have hA1 := har.later hb3
                    have ho1 := owns_later hown9 hb3
                    have ho2 := owns_later hown10 hb3
                    have hbr1 := below_chain hbr hb3
                    clear har hown9 hown10 hbr hb3
                    go_wp2_with fail
                    refine hC.mono ?_
                    rintro e w7 ⟨rfl, rfl⟩
                    clear hC
                    go_wp2_with fail
                    go_roundw
                    case rel => exact ⟨k + 1, _, _, _, _, _, _, by omega, by omega, by omega, by go_num, hA1, hon, ho1, ho2, hd9, hd10, hdd, hbr1⟩
                    case measure => simp [intOf]; omega
              · have hlenl := Lib.hid hon.len
                go_wp2_with fail
                rw [hke]
                clear hke
                have hB5 : W.heap.size ≤ (wr.alloc (.cells #[.int .i64 x, .int .u32 y] 30)).heap.size := by rw [size_alloc]; exact Nat.le_succ_of_le hbr.size
                have x18 := blk_new wr #[.int .i64 x, .int .u32 y] 30
                have hoff : ∀ b, b = wr.heap.size → ¬ F b := fun b e hb => absurd (har.lt b hb).2 (by omega)
                have hown9s := hown9.alloc (.cells #[.int .i64 x, .int .u32 y] 30)
                have hown10s := hown10.alloc (.cells #[.int .i64 x, .int .u32 y] 30)
                have hars := har.alloc (.cells #[.int .i64 x, .int .u32 y] 30)
                have hbrs := hbr.alloc hbr.size (.cells #[.int .i64 x, .int .u32 y] 30)
                obtain ⟨w5, hw5⟩ : ∃ w5 : World, w5 = wr.alloc (.cells #[.int .i64 x, .int .u32 y] 30) := ⟨_, rfl⟩
                rw [← hw5]
                rw [← hw5] at hB5 x18 hown9s hown10s hars hbrs
                generalize wr.heap.size = b18 at *
                clear hw5 hown9 hown10 har hbr a0 a1 hcell
                have s1 : IntKind.i64.wrap ((kk : Int) + 1) = (kk : Int) + 1 := IntWalk.i64_in _ (by omega)
                have s2 : 0 ≤ (kk : Int) + 1 := by omega
                have s3 : ((kk : Int) + 1).toNat = kk + 1 := by omega
                have s4 : (kk : Int) + 1 ≤ nl := by omega
                have s5 : kk ≤ v9c := by omega
                have s6 : kk + 1 ≤ nl := by omega
                have s7 : nl ≤ v9c := by omega
                have s8 : kk ≤ nl := by omega
                have hz5 : w5.heap.size ≤ ((w5.alloc (.cells #[] 30)).drew).heap.size := (((Below.refl _ w5).alloc (Nat.le_refl _) (.cells #[] 30)).drew).size
                go_region_law (first
                  | (refine step_append_any _ rfl _ _ 32 rfl W.heap.size 30 i0 (.agg #[.int .i64 0, .int .u32 0]) 2 16 Try.underlying32 hi0 hz0 hz1 hz2 rfl (by decide) _ _ _ rfl (owns_empty w5 _ 2 _ hB5).drew _ kk (((cellsH l).drop (0 * 2)).take (kk * 2)) rfl ((reads_sub hown9s 0 kk _ (by omega)).later (((Below.refl _ _).alloc (Nat.le_refl _) _).drew)) (fun u hu => cellsH_one l u (List.mem_of_mem_drop (List.mem_of_mem_take hu))) (by unfold maxLen; omega) (by omega) (Nat.le_trans hB5 hz5) ?_; intro v1 w6 hown1 hgrow1 hlies1; have hv1 := fresh_first hgrow1 hlies1)
                  | (refine step_append_any _ rfl _ _ 32 rfl W.heap.size 30 i0 (.agg #[.int .i64 0, .int .u32 0]) 2 16 Try.underlying32 hi0 hz0 hz1 hz2 rfl (by decide) v1 _ _ rfl hown1 _ (nl - (kk + 1)) (((cellsH l).drop ((kk + 1) * 2)).take ((nl - (kk + 1)) * 2)) rfl ((reads_sub hown9s (kk + 1) (nl - (kk + 1)) _ (by omega)).later hv1.1) (fun u hu => cellsH_one l u (List.mem_of_mem_drop (List.mem_of_mem_take hu))) (by unfold maxLen; omega) (by omega) (Nat.le_trans hB5 hv1.1.size) ?_; intro v2 w7 hown2 hgrow2 hlies2; have hv2 := fresh_next hv1.1 (Nat.le_refl _) hv1.2 hgrow2 hlies2))
                obtain ⟨n2, hn2, hn2k⟩ : ∃ n2 : Nat, n2 = nl - 1 ∧ n2 ≤ k := ⟨_, rfl, by omega⟩
                have hon := hon2
                rw [← hn2] at hon
                have hown9 : w7.ownsRow W.heap.size 30 2 v2 n2 (cellsH (l.take kk ++ l.drop (kk + 1))) := once_own hown2 (by have := hon.elen; omega) (by rw [hlenl.out]; omega)
                have hown10 := owns_later hown10s hv2.1
                have har := hars.later hv2.1
                have hbr := below_chain hbrs hv2.1
                have x18b : Box F w7 b18 #[.int .i64 x, .int .u32 y] 30 := ⟨later_blk hv2.1 x18, hoff _ rfl⟩
                have hd9 : ∀ b, rowF v2 b → ¬ F b := fun b hb hf => absurd (hars.lt b hf).2 (by have := hv2.2 b hb; omega)
                have hdd : ∀ b, rowF v2 b → ¬ rowF u10 b := fun b hb hf => absurd (hown10s.lt b hf).2 (by have := hv2.2 b hb; omega)
                have p0 := x18b.cell (o := 0) (v := .int .i64 x) rfl
                have p1 := x18b.cell (o := 1) (v := .int .u32 y) rfl
                have hn280 : n2 ≤ 80 := by omega
                clear hv1 hv2 hgrow1 hgrow2 hlies1 hlies2 hown1 hown2 hown9s hown10s hars hbrs x18 hoff hz5 hB5 s1 s2 s3 s4 s5 s6 s7 s8 hn2 hkkI hon2 hlenl
                obtain ⟨v9a', v9c', hv9', hv9c', hv9m'⟩ := owns_form hown9
                subst hv9'
                unfold maxLen at hv9m'
                go_wp2_with fail
                refine (give_ar (i := x) (g := y) hgi HG.out har).mono ?_
                rintro e5 w8 ⟨rfl, F', har2, mv⟩
                have hd9' := mv.apart (fun b hb => (hown9.lt b hb).2) (fun b hb hr => hd9 b hr hb)
                have hd10' := mv.apart (fun b hb => (hown10.lt b hb).2) (fun b hb hr => hd10 b hr hb)
                replace hown9 := owns_keeps hown9 mv.keeps hd9
                replace hown10 := owns_keeps hown10 mv.keeps hd10
                replace hbr := hbr.trans (mv.below_old har.lt hbr.size)
                have x18c := x18b.moved mv
                clear p0 p1 mv har hd9 hd10 HG hgi x18b
                have p0 := x18c.cell (o := 0) (v := .int .i64 x) rfl
                have p1 := x18c.cell (o := 1) (v := .int .u32 y) rfl
                have hL := live_ar (x : Int) (y : Int) har2
                rw [HD.out] at hL
                go_wp2_with fail
                refine hL.mono ?_
                rintro e5 w9 ⟨rfl, hb9⟩
                replace hown9 := owns_later hown9 hb9
                replace hown10 := owns_later hown10 hb9
                replace hbr := below_chain hbr hb9
                replace x18c := x18c.later hb9
                replace har2 := har2.later hb9
                clear hb9 p0 p1 hL
                have p0 := x18c.cell (o := 0) (v := .int .i64 x) rfl
                have p1 := x18c.cell (o := 1) (v := .int .u32 y) rfl
                go_wp2_with fail
                refine (stale_ar HD.out har2).mono ?_
                rintro e5 w10 ⟨rfl, hb10⟩
                replace hown9 := owns_later hown9 hb10
                replace hown10 := owns_later hown10 hb10
                replace hbr := below_chain hbr hb10
                have har := har2.later hb10
                have hd9 := fun b hb hf => hd9' b hf hb
                have hd10 := fun b hb hf => hd10' b hf hb
                clear hb10 p0 p1 har2 x18c HD hd9' hd10'
                go_wp2_with fail
                obtain ⟨wo, hwo⟩ : ∃ wo : World, wo = w10 := ⟨_, rfl⟩
                subst hwo
                go_loopw [122] (fun i wr => ∃ q : Nat, q ≤ n2 ∧ i = .int .i64 q ∧ Below wo.heap.size wo wr) (fun i _ => n2 - (intOf i).toNat)
                case atStart => exact ⟨0, Nat.zero_le _, rfl, Below.refl _ _⟩
                case round =>
                  obtain ⟨q, hq, rfl, hb3⟩ := hrel
                  by_cases hlq : q < n2
                  · have hqi : (q : Int) < n2 := by omega
                    obtain ⟨gq, cq, hv, _, _, _, _, hcell⟩ := owns_slice hown9 (by omega)
                    cases hv
                    have hg2 := cellsH_get (l.take kk ++ l.drop (kk + 1)) q (by rw [hon.len]; exact hlq)
                    have a0 := later hb3 (hcell _ _ hg2.1)
                    have a1 := later hb3 (hcell _ _ hg2.2)
                    have HV := Lib.hid (once_live hon hlq)
                    clear hcell hg2
                    generalize ((l.take kk ++ l.drop (kk + 1)).getD q (0, 0)).1 = x at *
                    generalize ((l.take kk ++ l.drop (kk + 1)).getD q (0, 0)).2 = y at *
                    go_wp2_with fail
                    refine (live_ar x y ((har.later hb3).alloc _)).mono ?_
                    rintro e w6 ⟨rfl, hb6⟩
                    rw [HV.out]
                    replace hb6 := below_chain hb3 (below_alloc1 hb6)
                    clear hb3 a0 a1 HV
                    go_wp2_with fail
                    go_roundw
                    case rel => exact ⟨q + 1, by omega, by go_num, hb6⟩
                    case measure => simp [intOf]; omega
                  · have hqi : ¬ (q : Int) < n2 := by omega
                    obtain rfl : q = n2 := by omega
                    have hC := count_ar (har.later hb3)
                    rw [hon.live] at hC
                    have hA1 := har.later hb3
                    have ho1 := owns_later hown9 hb3
                    have ho2 := owns_later hown10 hb3
                    have hbr1 := below_chain hbr hb3
                    clear har hown9 hown10 hbr hb3
                    go_wp2_with fail
                    refine hC.mono ?_
                    rintro e w7 ⟨rfl, rfl⟩
                    clear hC
                    go_wp2_with fail
                    go_roundw
                    case rel => exact ⟨k + 1, _, _, _, _, _, _, by omega, by omega, by omega, by go_num, hA1, hon, ho1, ho2, hd9, hd10, hdd, hbr1⟩
                    case measure => simp [intOf]; omega
          · rw [hav] at hcell
            clear hav
            go_wp2_with fail
            cases ht : takeA A with
            | none =>
              refine (take_none_ar ht har).mono ?_
              rintro e w3 ⟨rfl, hb3⟩
              unfold Hnd
              replace har := (har.later hb3).alloc (.cells #[.int .i64 0, .int .u32 0] 30)
              replace hown9 := (owns_later hown9 hb3).alloc (.cells #[.int .i64 0, .int .u32 0] 30)
              replace hown10 := (owns_later hown10 hb3).alloc (.cells #[.int .i64 0, .int .u32 0] 30)
              replace hbr := (below_chain hbr hb3)
              replace hbr := hbr.alloc hbr.size (.cells #[.int .i64 0, .int .u32 0] 30)
              clear hb3 hcell ht
              go_wp2_with fail
              go_roundw
              case rel => exact ⟨k + 1, A, F, l, e, nl, ne, by omega, by omega, by omega, by go_num, har, hon, hown9, hown10, hd9, hd10, hdd, hbr⟩
              case measure => simp [intOf]; omega
            | some tk =>
              obtain ⟨s, g, A'⟩ := tk
              obtain ⟨hne2, hon2⟩ := once_take hon ht
              refine (take_ar ht har).mono ?_
              rintro e2 w3 ⟨rfl, F', har2, mv⟩
              unfold Hnd
              have hd9' := mv.apart (fun b hb => (hown9.lt b hb).2) (fun b hb hr => hd9 b hr hb)
              have hd10' := mv.apart (fun b hb => (hown10.lt b hb).2) (fun b hb hr => hd10 b hr hb)
              have hoff9 : ∀ b, b = w3.heap.size → ¬ rowF _ b := fun b e hb => absurd ((owns_keeps hown9 mv.keeps hd9).lt b hb).2 (by omega)
              replace hown9 := (owns_keeps hown9 mv.keeps hd9).alloc (.cells #[.int .i64 s, .int .u32 g] 30)
              replace hown10 := (owns_keeps hown10 mv.keeps hd10).alloc (.cells #[.int .i64 s, .int .u32 g] 30)
              replace hbr := hbr.trans (mv.below_old har.lt hbr.size)
              replace hbr := hbr.alloc hbr.size (.cells #[.int .i64 s, .int .u32 g] 30)
              clear mv har hd9 hd10 ht hcell
              have hlt3 := fun b hb => (har2.lt b hb).2
              replace har := har2.alloc (.cells #[.int .i64 s, .int .u32 g] 30)
              have x13 := blk_new w3 #[.int .i64 s, .int .u32 g] 30
              obtain ⟨va, vc, hv, hvc, hvm⟩ := owns_form hown10
              subst hv
              unfold maxLen at hvm
              go_wp2_with fail
              obtain ⟨wo, hwo⟩ : ∃ wo : World, wo = w3.alloc (.cells #[.int .i64 s, .int .u32 g] 30) := ⟨_, rfl⟩
              rw [← hwo]
              rw [← hwo] at har hown9 hown10 hbr x13
              clear hwo
              go_loopw [68] (fun i wr => ∃ q : Nat, q ≤ ne ∧ i = .int .i64 q ∧ Below wo.heap.size wo wr) (fun i _ => ne - (intOf i).toNat)
              case atStart => exact ⟨0, Nat.zero_le _, rfl, Below.refl _ _⟩
              case round =>
                obtain ⟨q, hq, rfl, hb3⟩ := hrel
                have hl13 := blk_lt (later_blk hb3 x13)
                have p0 := later hb3 (blk_cell x13 (o := 0) (v := .int .i64 s) rfl)
                have p1 := later hb3 (blk_cell x13 (o := 1) (v := .int .u32 g) rfl)
                by_cases hlq : q < ne
                · have hqi : (q : Int) < ne := by omega
                  obtain ⟨gq, cq, hv, _, _, _, _, hcell⟩ := owns_slice hown10 (by omega)
                  cases hv
                  have hg2 := cellsH_get e q (by rw [hon.elen]; exact hlq)
                  have a0 := later hb3 (hcell _ _ hg2.1)
                  have a1 := later hb3 (hcell _ _ hg2.2)
                  have hneq := hne2 _ (mem_getD e q (0, 0) (by rw [hon.elen]; exact hlq))
                  clear hcell hg2
                  generalize (e.getD q (0, 0)).1 = x at *
                  generalize (e.getD q (0, 0)).2 = y at *
                  have hb4 := hb3.alloc hb3.size (.cells #[.int .i64 x, .int .u32 y] 30)
                  by_cases hx : x = s
                  · subst hx
                    have hy : ((y : Int) == g) = false := by simp; omega
                    clear hneq
                    go_wp2_with fail
                    go_roundw
                    case rel => exact ⟨q + 1, by omega, by go_num, hb4⟩
                    case measure => simp [intOf]; omega
                  · have hx' : ((x : Int) == s) = false := by simp; omega
                    clear hneq
                    go_wp2_with fail
                    go_roundw
                    case rel => exact ⟨q + 1, by omega, by go_num, hb4⟩
                    case measure => simp [intOf]; omega
                · have hqi : ¬ (q : Int) < ne := by omega
                  obtain rfl : q = ne := by omega
                  replace har := har.later hb3
                  replace hown9 := owns_later hown9 hb3
                  replace hown10 := owns_later hown10 hb3
                  replace x13 := later_blk hb3 x13
                  replace hbr := below_chain hbr hb3
                  have hlt13 := fun b hb => (har.lt b hb).2
                  clear hb3 hne2 hlt3
                  go_wp2_with (at_builtin; refine wpList_append_any _ rfl _ _ 32 rfl W.heap.size 30 i0 (.agg #[.int .i64 0, .int .u32 0]) 2 16 Try.underlying32 hi0 hz0 hz1 hz2 rfl (by decide) _ _ _ rfl (hown9.alloc _) _ 1 [.int .i64 s, .int .u32 g] rfl (reads_new _ #[.int .i64 s, .int .u32 g] _ 2 1 _ ?c1 rfl) ?c2 ?c3 ?c4 ?c5 ?_)
                  case c1 => rfl
                  case c2 => first | exact ⟨rfl, rfl⟩ | (intro u hu; simp at hu; rcases hu with rfl | rfl <;> rfl)
                  case c3 => unfold maxLen; omega
                  case c4 => omega
                  case c5 => first | exact Nat.le_succ_of_le hbr.size | (rw [size_alloc]; exact Nat.le_succ_of_le hbr.size)
                  intro v9 w4 hown9' hgrow hlies
                  have kp := grown_keeps hgrow
                  have bl9 := fun b hb => (hown9.lt b hb).1
                  have lt10 := fun b hb => (hown10.lt b hb).2
                  try rw [size_alloc] at hlies
                  replace har := (har.alloc (.cells #[.int .i64 s, .int .u32 g] 30)).keeps kp hd9'
                  replace hown10 := owns_keeps (hown10.alloc (.cells #[.int .i64 s, .int .u32 g] 30)) kp (fun b hb hr => hdd b hr hb)
                  replace x13 := kp.blk (blk_alloc x13 _) (hoff9 _ rfl)
                  replace hbr := (hbr.alloc hbr.size (.cells #[.int .i64 s, .int .u32 g] 30)).trans (kp.below (by rw [size_alloc]; exact Nat.le_succ_of_le hbr.size) bl9)
                  have hd9 : ∀ b, rowF v9 b → ¬ F' b := fun b hb hF => by
                    rcases hlies b hb with h1 | h1
                    · exact hd9' b hF h1
                    · exact absurd (hlt13 b hF) (by omega)
                  replace hdd : ∀ b, rowF v9 b → ¬ rowF (.slice va q vc) b := fun b hb hF => by
                    rcases hlies b hb with h1 | h1
                    · exact hdd b h1 hF
                    · exact absurd (lt10 b hF) (by omega)
                  have hlt14 := fun b hb => (har.lt b hb).2
                  have hown9 := hown9'
                  clear hlies kp hgrow hown9' hd9' hlt13 bl9 lt10 hoff9 p0 p1
                  have p0 := blk_cell x13 (o := 0) (v := .int .i64 s) rfl
                  have p1 := blk_cell x13 (o := 1) (v := .int .u32 g) rfl
                  have hl13 := blk_lt x13
                  go_wp2_with (at_builtin; refine wpList_append_any _ rfl _ _ 32 rfl W.heap.size 30 i0 (.agg #[.int .i64 0, .int .u32 0]) 2 16 Try.underlying32 hi0 hz0 hz1 hz2 rfl (by decide) _ _ _ rfl (hown10.alloc _) _ 1 [.int .i64 s, .int .u32 g] rfl (reads_new _ #[.int .i64 s, .int .u32 g] _ 2 1 _ ?d1 rfl) ?d2 ?d3 ?d4 ?d5 ?_)
                  case d1 => rfl
                  case d2 => first | exact ⟨rfl, rfl⟩ | (intro u hu; simp at hu; rcases hu with rfl | rfl <;> rfl)
                  case d3 => unfold maxLen; omega
                  case d4 => omega
                  case d5 => first | exact Nat.le_succ_of_le hbr.size | (rw [size_alloc]; exact Nat.le_succ_of_le hbr.size)
                  intro v10 w5 hown10' hgrow hlies
                  have kp := grown_keeps hgrow
                  have bl10 := fun b hb => (hown10.lt b hb).1
                  have lt9 := fun b hb => (hown9.lt b hb).2
                  try rw [size_alloc] at hlies
                  replace har := (har.alloc (.cells #[.int .i64 s, .int .u32 g] 30)).keeps kp hd10'
                  replace hown9 := owns_keeps (hown9.alloc (.cells #[.int .i64 s, .int .u32 g] 30)) kp hdd
                  replace hbr := (hbr.alloc hbr.size (.cells #[.int .i64 s, .int .u32 g] 30)).trans (kp.below (by rw [size_alloc]; exact Nat.le_succ_of_le hbr.size) bl10)
                  have hd10 : ∀ b, rowF v10 b → ¬ F' b := fun b hb hF => by
                    rcases hlies b hb with h1 | h1
                    · exact hd10' b hF h1
                    · exact absurd (hlt14 b hF) (by omega)
                  replace hdd : ∀ b, rowF v9 b → ¬ rowF v10 b := fun b hb hF => by
                    rcases hlies b hF with h1 | h1
                    · exact hdd b hb h1
                    · exact absurd (lt9 b hb) (by omega)
                  replace hown10 := hown10'
                  clear hlies kp hgrow hown10' hd10' hlt14 bl10 lt9 p0 p1 x13 hl13
                  replace hown9 : w5.ownsRow W.heap.size 30 2 v9 (nl + 1) (cellsH (l ++ [(s, g)])) := by rw [cellsH_append]; exact hown9
                  replace hown10 : w5.ownsRow W.heap.size 30 2 v10 (q + 1) (cellsH (e ++ [(s, g)])) := by rw [cellsH_append]; exact hown10
                  clear hon
                  have hon := hon2
                  clear hon2
                  obtain ⟨v9a, v9c, hv9, hv9c, hv9m⟩ := owns_form hown9
                  subst hv9
                  unfold maxLen at hv9m
                  go_wp2_with fail
                  obtain ⟨wo, hwo⟩ : ∃ wo : World, wo = w5 := ⟨_, rfl⟩
                  subst hwo
                  go_loopw [122] (fun i wr => ∃ q : Nat, q ≤ (nl + 1) ∧ i = .int .i64 q ∧ Below wo.heap.size wo wr) (fun i _ => (nl + 1) - (intOf i).toNat)
                  case atStart => exact ⟨0, Nat.zero_le _, rfl, Below.refl _ _⟩
                  case round =>
                    obtain ⟨q, hq, rfl, hb3⟩ := hrel
                    by_cases hlq : q < (nl + 1)
                    · have hqi : (q : Int) < (nl + 1) := by omega
                      obtain ⟨gq, cq, hv, _, _, _, _, hcell⟩ := owns_slice hown9 (by omega)
                      cases hv
                      have hg2 := cellsH_get (l ++ [(s, g)]) q (by rw [hon.len]; exact hlq)
                      have a0 := later hb3 (hcell _ _ hg2.1)
                      have a1 := later hb3 (hcell _ _ hg2.2)
                      have HV := Lib.hid (once_live hon hlq)
                      clear hcell hg2
                      generalize ((l ++ [(s, g)]).getD q (0, 0)).1 = x at *
                      generalize ((l ++ [(s, g)]).getD q (0, 0)).2 = y at *
                      go_wp2_with fail
                      refine (live_ar x y ((har.later hb3).alloc _)).mono ?_
                      rintro e w6 ⟨rfl, hb6⟩
                      rw [HV.out]
                      replace hb6 := below_chain hb3 (below_alloc1 hb6)
                      clear hb3 a0 a1 HV
                      go_wp2_with fail
                      go_roundw
                      case rel => exact ⟨q + 1, by omega, by go_num, hb6⟩
                      case measure => simp [intOf]; omega
                    · have hqi : ¬ (q : Int) < (nl + 1) := by omega
                      obtain rfl : q = (nl + 1) := by omega
                      have hC := count_ar (har.later hb3)
                      rw [hon.live] at hC
                      have hA1 := har.later hb3
                      have ho1 := owns_later hown9 hb3
                      have ho2 := owns_later hown10 hb3
                      have hbr1 := below_chain hbr hb3
                      clear har hown9 hown10 hbr hb3
                      go_wp2_with fail
                      refine hC.mono ?_
                      rintro e w7 ⟨rfl, rfl⟩
                      clear hC
                      go_wp2_with fail
                      go_roundw
                      case rel => exact ⟨k + 1, _, _, _, _, _, _, by omega, by omega, by omega, by go_num, hA1, hon, ho1, ho2, hd9, hd10, hdd, hbr1⟩
                      case measure => simp [intOf]; omega
        · have hki : ¬ (k : Int) < acts.length := by omega
          go_wp2_with fail
          go_ret
          exact ⟨rfl, below_chain hb hbr⟩
end Go.Proofs.Ytahpalfdeghdmaa
