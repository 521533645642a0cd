/- The document's arena: Take. -/
import Derived.Test.YtahpalfdeghdmaaArenaRef5
import Derived.Deep.RegionWith
namespace Go.Proofs.Ytahpalfdeghdmaa
open Go.RowKit Go.Sort

/-- Between: the new row stands in the arena's box; all other blocks are as they were. -/
def Mid2 (w V : World) (b0 off : Nat) (c : Array Value) (m : Nat) (G : List (Nat × Nat)) (wx : World) : Prop :=
  ∃ va vc, Blk wx b0 (c.setIfInBounds off (.slice va m vc)) 34 ∧ wx.ownsRow w.heap.size 30 2 (.slice va m vc) m (cellsH G) ∧ (∀ k, rowF (.slice va m vc) k → V.heap.size ≤ k) ∧ (∀ b c t, b ≠ b0 → Blk V b c t → Blk wx b c t) ∧ Below w.heap.size w wx
theorem mid2_of {w V w7 : World} {b0 off m : Nat} {c : Array Value} {G : List (Nat × Nat)} {s g : Nat} {va : Option Addr} {vc : Nat} (hbw : Below w.heap.size w V) (h0 : w.heap.size ≤ b0) (hV : b0 < V.heap.size)
    (x2 : Blk V b0 c 34) (hown : w7.ownsRow V.heap.size 30 2 (.slice va (0 + m + 1) vc) (0 + m + 1) ([] ++ cellsH G ++ [.int .i64 s, .int .u32 g]))
    (hv : Below V.heap.size V w7 ∧ ∀ k, rowF (.slice va (0 + m + 1) vc) k → V.heap.size ≤ k) : Mid2 w V b0 off c (m + 1) (G ++ [(s, g)]) (w7.setCell ⟨b0, off, none⟩ (.slice va (m + 1) vc)) := by
  have e01 : 0 + m + 1 = m + 1 := by omega
  rw [e01] at hown hv
  have hz := hbw.size
  have ho : w7.ownsRow w.heap.size 30 2 (.slice va (m + 1) vc) (m + 1) (cellsH (G ++ [(s, g)])) := by
    rw [cellsH_append]
    rw [List.nil_append] at hown
    exact ⟨hown.1, hown.2.imp id (fun ⟨g, cap, cur, hv, hb, r⟩ => ⟨g, cap, cur, hv, by omega, r⟩)⟩
  refine ⟨va, vc, blk_set (later_blk hv.1 x2) off _, owns_set_other (a := ⟨b0, off, none⟩) ho (fun e => by have := hv.2 _ e; simp at this; omega) _, hv.2, fun b c t hne hb => blk_set_other (later_blk hv.1 hb) (fun e => hne e.symm) _, ?_⟩
  exact (below_chain hbw hv.1).setCell (p := ⟨b0, off, none⟩) h0 _
/-- Behind the choice of the slot. -/
def Chosen (w V : World) (b6 : Nat) (s g : Nat) (wx : World) : Prop :=
  Blk wx b6 #[.int .i64 s, .int .u32 g] 30 ∧ (∀ b c t, b ≠ b6 → Blk V b c t → Blk wx b c t) ∧ Below w.heap.size w wx
def TookRPost (w : World) (cap most : Nat) (gv : Value) (n : Nat) (T : List (Nat × Nat)) (s g : Nat) (e : Ending) (w' : World) : Prop :=
  ∃ tv, e = .returned (.tuple #[RV cap most tv gv, .agg #[.int .i64 s, .int .u32 g], .int .i64 0]) ∧ w'.ownsRow w.heap.size 30 2 tv n (cellsH T) ∧ Below w.heap.size w w'

set_option maxHeartbeats 4000000 in
theorem reftake_some (B cap most : Nat) (hmost : most ≤ 4294967295) (tv gv : Value) (n m : Nat) (T G : List (Nat × Nat)) (s g : Nat) (hcase : (∃ r, waitsH most T G = s :: r ∧ g = lastH T s + 1 ∧ lastH T s < most) ∨ (waitsH most T G = [] ∧ freshH T < cap ∧ s = freshH T ∧ g = 1)) (w : World) (h : HRow w B tv n T) (h2 : HRow w B gv m G) :
    Calls Try.prog 13 #[RV cap most tv gv] w (TookRPost w cap most gv (n + 1) (T ++ [(s, g)]) s g) := by
  obtain ⟨i0, hi0, hz0, hz1, hz2⟩ := info_parts info_handle
  have hn60 := h.2.2
  have hwl := waitsH_le most T G
  have hm60 := h2.2
  obtain ⟨ta, tc, rfl, _, _⟩ := h.form
  obtain ⟨ga, gc, rfl, _, _⟩ := h2.form
  have hW0 := fun w' h h2 => waits_any B cap most (.slice ta n tc) (.slice ga m gc) n m T G w' h h2
  have hF0 := fun w' h => fresh_any B cap most (.slice ta n tc) (.slice ga m gc) n T w' h
  have hL0 := fun x w' h => last_any B cap most (.slice ta n tc) (.slice ga m gc) n T x w' h
  have hfl := freshH_le T
  have hnl := h.2.1
  have HC := Lib.hid hcase
  have hfr : freshH T ≤ 60 := by omega
  have hwl60 : (waitsH most T G).length ≤ 60 := by omega
  clear hcase hfl hnl hwl hm60
  go_enter Try.func13, Try.ntmps13
  go_wp2_with fail
  obtain ⟨W, hW, hbW, x1, x2, x3⟩ : ∃ W : World, W = ((w.alloc (.cells #[.int .i64 cap, .int .u32 most, .slice ta n tc, .slice ga m gc] 34)).alloc (.cells #[.int .i64 0, .int .u32 0, .slice none 0 0, .slice none 0 0] 34)).alloc (.cells #[.int .i64 0, .int .u32 0] 30) ∧ Below w.heap.size w W ∧
      Blk W w.heap.size #[.int .i64 cap, .int .u32 most, .slice ta n tc, .slice ga m gc] 34 ∧ Blk W (w.heap.size + 1) #[.int .i64 0, .int .u32 0, .slice none 0 0, .slice none 0 0] 34 ∧ Blk W (w.heap.size + 1 + 1) #[.int .i64 0, .int .u32 0] 30 := by
    refine ⟨_, rfl, (((Below.refl _ _).alloc (Nat.le_refl _) _).alloc (by rw [size_alloc]; omega) _).alloc (by rw [size_alloc, size_alloc]; omega) _, blk_alloc (blk_alloc (blk_new w _ _) _) _, blk_alloc ?_ _, ?_⟩
    · have := blk_new (w.alloc (.cells #[.int .i64 cap, .int .u32 most, .slice ta n tc, .slice ga m gc] 34)) #[.int .i64 0, .int .u32 0, .slice none 0 0, .slice none 0 0] 34
      rw [size_alloc] at this
      exact this
    · have := blk_new ((w.alloc (.cells #[.int .i64 cap, .int .u32 most, .slice ta n tc, .slice ga m gc] 34)).alloc (.cells #[.int .i64 0, .int .u32 0, .slice none 0 0, .slice none 0 0] 34)) #[.int .i64 0, .int .u32 0] 30
      rw [size_alloc, size_alloc] at this
      exact this
  rw [← hW]
  clear hW
  refine (hW0 _ (h.later hbW) (h2.later hbW)).mono ?_
  rintro e V ⟨wv, rfl, hwo, hbV⟩
  replace x1 := later_blk hbV x1
  replace x2 := later_blk hbV x2
  replace x3 := later_blk hbV x3
  have hbw := below_chain hbW hbV
  clear hbW hbV hW0
  have c0 := blk_cell x1 (o := 0) (v := .int .i64 cap) rfl
  have c1 := blk_cell x1 (o := 1) (v := .int .u32 most) rfl
  have c2 := blk_cell x1 (o := 2) (v := .slice ta n tc) rfl
  have c3 := blk_cell x1 (o := 3) (v := .slice ga m gc) rfl
  obtain ⟨wa, wcap, rfl, _, _⟩ := owns_form hwo
  go_wp2_with fail
  refine (hF0 _ (h.later hbw)).mono ?_
  rintro e V2 ⟨rfl, hb2⟩
  have hb6n := blk_lt (later_blk hb2 x3)
  replace x1 := blk_alloc (later_blk hb2 x1) (.cells #[.int .i64 (freshH T), .int .u32 1] 30)
  replace x2 := blk_alloc (later_blk hb2 x2) (.cells #[.int .i64 (freshH T), .int .u32 1] 30)
  replace x3 := blk_alloc (later_blk hb2 x3) (.cells #[.int .i64 (freshH T), .int .u32 1] 30)
  have hwV2 : w.heap.size ≤ V2.heap.size := Nat.le_trans hbw.size hb2.size
  have x6 := blk_new V2 #[.int .i64 (freshH T), .int .u32 1] 30
  replace hwo := (owns_later hwo hb2).alloc (.cells #[.int .i64 (freshH T), .int .u32 1] 30)
  replace hbw := (below_chain hbw hb2).alloc (Nat.le_trans hbw.size hb2.size) (.cells #[.int .i64 (freshH T), .int .u32 1] 30)
  clear c0 c1 c2 c3 hb2
  go_upto_if 14 with fail
  have hF0' := fun w' h => hF0 w' h
  obtain ⟨V3, hV3⟩ : ∃ V3 : World, V3 = V2.alloc (.cells #[.int .i64 (freshH T), .int .u32 1] 30) := ⟨_, rfl⟩
  rw [← hV3]
  rw [← hV3] at x1 x2 x3 x6 hwo hbw
  generalize V2.heap.size = b6 at *
  clear hV3
  go_cut [5, 6, 8, 12, 13, 14] (fun _ s6 _ _ _ _ wx => s6 = .pointer (some ⟨b6, 0, none⟩) ∧ Chosen w V3 b6 s g wx)
  case first =>
    have c0 := blk_cell x1 (o := 0) (v := .int .i64 cap) rfl
    have c1 := blk_cell x1 (o := 1) (v := .int .u32 most) rfl
    have c2 := blk_cell x1 (o := 2) (v := .slice ta n tc) rfl
    have c3 := blk_cell x1 (o := 3) (v := .slice ga m gc) rfl
    have c6 := blk_cell x6 (o := 0) (v := .int .i64 (freshH T)) rfl
    have c7 := blk_cell x6 (o := 1) (v := .int .u32 1) rfl
    have f6 := blk_free x6 0
    have f7 := blk_free x6 1
    have l6 := blk_lt x6
    rcases HC.out with ⟨r, hw, hg, hlt⟩ | ⟨hw, hfc, hs, hg⟩
    · rw [hw] at hwo ⊢
      simp only [List.length_cons] at hwo ⊢
      obtain ⟨gw, cw, hv, hcw, hcm, _, _, hcell⟩ := owns_slice hwo (by omega)
      cases hv
      have w0 : V3.cell? ⟨gw, 0, none⟩ = some (.int .i64 s) := hcell 0 _ rfl
      have hL := fun w' h => hL0 s w' h
      have hr60 : r.length ≤ 60 := by rw [hw] at hwl60; simp at hwl60; omega
      have hg' := Lib.hid hg
      have hlt4 : lastH T s < 4294967295 := by omega
      unfold maxLen at hcm
      clear hcell hwo hw hg hlt hwl60
      generalize lastH T s = q at *
      have hq1 : IntKind.u32.wrap ((q : Int) + 1) = (q : Int) + 1 := IntWalk.u32_in _ (by omega)
      go_wp2_with fail
      go_region_with (go_at_call 27; refine (hL _ ?_).mono ?_; (first | exact h.later (below_chain hbw ((Below.refl _ _).drew)) | exact h.later hbw); rintro e w9 ⟨rfl, hb9⟩; have hb9' : Below V3.heap.size V3 w9 := (by first | exact ((Below.refl V3.heap.size V3).drew).trans hb9 | exact hb9); have y6 := later_blk hb9' x6; have c6' := blk_cell y6 (o := 0) (v := .int .i64 (freshH T)) rfl; have c7' := blk_cell y6 (o := 1) (v := .int .u32 1) rfl; have f6' := blk_free y6 0; have f7' := blk_free y6 1; have l6' := blk_lt y6; have w0' := later hb9' w0)
      all_goals
        go_wp2_with fail
        go_meet
        refine ⟨rfl, ?_, fun b c t hne hb => ?_, ?_⟩
        · have := blk_set (blk_set y6 0 (.int .i64 s)) 1 (.int .u32 ((q : Int) + 1))
          rw [hg'.out]
          exact this
        · exact blk_set_other (a := ⟨b6, 1, none⟩) (blk_set_other (a := ⟨b6, 0, none⟩) (later_blk hb9' hb) (fun e => hne e.symm) _) (fun e => hne e.symm) _
        · exact ((below_chain hbw hb9').setCell (p := ⟨b6, 0, none⟩) (by simp; omega) _).setCell (p := ⟨b6, 1, none⟩) (by simp; omega) _
    · rw [hw] at hwo ⊢
      simp only [List.length_nil] at hwo ⊢
      subst hg
      have hs' := Lib.hid hs
      clear hs
      have hfcI : decide ((cap : Int) ≤ freshH T) = false := by simp; omega
      have hfcN : decide (cap ≤ freshH T) = false := by simp; omega
      clear hw hfc
      go_wp2_with fail
      have k0 := cell_regrown c0
      have k1 := cell_regrown c1
      have k2 := cell_regrown c2
      have k3 := cell_regrown c3
      have cF : ∀ d' os, Calls Try.prog 26 #[RV cap most (.slice ta n tc) (.slice ga m gc)] (grow (redrawn V3 d') os) fun e w'' => e = .returned (.int .i64 (freshH T)) ∧ ∃ p : Regrown, w'' = grow (redrawn V3 p.d) p.os := fun d' os => Calls.regrown_of (hF0' _ (h.later (below_chain hbw (below_regrown _ d' os))))
      refine wp_region_quiet_below (by kernel_rfl) (by kernel_rfl) ?_
      repeat (go_big_quiet_step (first | with_reducible exact cF _ _))
      refine wpQuiet_nil ?_
      intro W3 hw'
      replace hw' := below_regrown' hw'
      go_wp2_with fail
      go_meet
      refine ⟨rfl, by rw [hs'.out]; exact later_blk hw' x6, fun b c t _ hb => later_blk hw' hb, below_chain hbw hw'⟩
  case rest =>
    obtain ⟨rfl, y6, hkeep, hbX⟩ := hcut
    have hn1 : w.heap.size ≠ b6 := by omega
    have hn2 : w.heap.size + 1 ≠ b6 := by omega
    have hn3 : w.heap.size + 1 + 1 ≠ b6 := by omega
    replace x1 := hkeep _ _ _ hn1 x1
    replace x2 := hkeep _ _ _ hn2 x2
    replace x3 := hkeep _ _ _ hn3 x3
    replace h := h.later hbX
    clear hkeep hwo hbw HC hF0 hF0' hL0 hwl60 hfr x6
    obtain ⟨V, hV⟩ : ∃ V : World, V = wc := ⟨_, rfl⟩
    subst hV
    go_wp2_with fail
    have c2 := blk_cell x1 (o := 2) (v := .slice ta n tc) rfl
    have d0 := blk_cell y6 (o := 0) (v := .int .i64 s) rfl
    have d1 := blk_cell y6 (o := 1) (v := .int .u32 g) rfl
    have f2 := blk_free x1 2
    have l1 := blk_lt x1
    have l6 := blk_lt y6
    have hVa : ∀ o, V.heap.size ≤ (V.alloc o).heap.size := fun o => by rw [size_alloc]; omega
    have hA1 : Below V.heap.size V (V.alloc (.cells #[] 30)) := (Below.refl _ _).alloc (Nat.le_refl _) _
    have hA2 : Below V.heap.size V ((V.alloc (.cells #[] 30)).alloc (.cells #[.int .i64 s, .int .u32 g] 30)) := hA1.alloc hA1.size _
    have hA3 : Below V.heap.size V ((V.alloc (.cells #[.int .i64 s, .int .u32 g] 30)).alloc (.cells #[] 30)) := ((Below.refl _ _).alloc (Nat.le_refl _) _).alloc (hVa _) _
    go_cut [38] (fun _ wx => Mid2 w V w.heap.size 2 #[.int .i64 cap, .int .u32 most, .slice ta n tc, .slice ga m gc] (n + 1) (T ++ [(s, g)]) wx)
    case first =>
      go_region_law (first
        | ((refine step_append_any _ rfl (.tmp 32) (.tmp 34) 32 rfl V.heap.size 30 i0 (.agg #[.int .i64 0, .int .u32 0]) 2 16 Try.underlying32 hi0 hz0 hz1 hz2 rfl (by decide) _ 0 [] rfl ?_ (.slice ta n tc) n (cellsH T) rfl ?_ (fun u hu => cellsH_one T u hu) (by unfold maxLen; omega) (by omega) ?_ ?_)
           · first
              | exact owns_same (w := V.alloc (.cells #[] 30)) rfl (owns_empty V _ 2 _ (Nat.le_refl _))
              | exact owns_same (w := (V.alloc (.cells #[] 30)).alloc (.cells #[.int .i64 s, .int .u32 g] 30)) rfl ((owns_empty V _ 2 _ (Nat.le_refl _)).alloc _)
              | exact owns_same (w := (V.alloc (.cells #[.int .i64 s, .int .u32 g] 30)).alloc (.cells #[] 30)) rfl (owns_empty' (V.alloc (.cells #[.int .i64 s, .int .u32 g] 30)) _ 2 _ _ (size_alloc _ _) (hVa _))
           · first | exact (reads_own h.1).later hA1.drew | exact (reads_own h.1).later hA2.drew | exact (reads_own h.1).later hA3.drew
           · first | exact hA1.drew.size | exact hA2.drew.size | exact hA3.drew.size
           intro v1 w6 hown1 hgrow1 hlies1
           have hv1 := fresh_next (B := V.heap.size) (w := V) (by first | exact hA1.drew | exact hA2.drew | exact hA3.drew) (Nat.le_refl _) (fun k hk => by first | (have h' : V.heap.size = k := Option.some.inj (show some V.heap.size = some k from hk); omega) | (have h' : V.heap.size + 1 = k := Option.some.inj (show some (V.heap.size + 1) = some k from hk); omega)) hgrow1 hlies1
           have c2' := later hv1.1 c2
           have d0' := later hv1.1 d0
           have d1' := later hv1.1 d1
           have f2' := (blk_free (later_blk hv1.1 x1) 2)
           have l1' := (blk_lt (later_blk hv1.1 x1))
           have l6' := (blk_lt (later_blk hv1.1 y6)))
        | ((refine step_append_any _ rfl (.tmp 35) (.tmp 37) 32 rfl V.heap.size 30 i0 (.agg #[.int .i64 0, .int .u32 0]) 2 16 Try.underlying32 hi0 hz0 hz1 hz2 rfl (by decide) v1 (0 + n) ([] ++ cellsH T) rfl ?_ _ 1 [.int .i64 s, .int .u32 g] rfl ?_ (fun u hu => by simp at hu; rcases hu with rfl | rfl <;> rfl) (by unfold maxLen; omega) (by omega) ?_ ?_)
           · first | exact owns_same rfl hown1 | exact owns_same (w := w6.alloc (.cells #[.int .i64 s, .int .u32 g] 30)) rfl (hown1.alloc _)
           · first
              | exact reads_same (w := w6.alloc (.cells #[.int .i64 s, .int .u32 g] 30)) rfl (reads_new w6 #[.int .i64 s, .int .u32 g] _ 2 1 _ rfl rfl)
              | exact reads_same (w := w6) rfl (reads_grown hgrow1 (reads_same (w := (V.alloc (.cells #[] 30)).alloc (.cells #[.int .i64 s, .int .u32 g] 30)) rfl (reads_new (V.alloc (.cells #[] 30)) #[.int .i64 s, .int .u32 g] _ 2 1 _ (size_alloc _ _) rfl)) (by omega))
              | exact reads_same (w := w6) rfl (reads_grown hgrow1 (reads_same (w := (V.alloc (.cells #[.int .i64 s, .int .u32 g] 30)).alloc (.cells #[] 30)) rfl ((reads_new V #[.int .i64 s, .int .u32 g] 30 2 1 _ rfl rfl).later ((Below.refl _ _).alloc (Nat.le_refl _) _))) (by omega))
           · first | exact hv1.1.size | exact (hv1.1.alloc hv1.1.size _).size
           intro v2 w7 hown2 hgrow2 hlies2
           have hv2 := fresh_next (B := V.heap.size) (w := V) (by first | exact hv1.1 | exact hv1.1.alloc hv1.1.size _) (Nat.le_refl _) hv1.2 hgrow2 hlies2
           obtain ⟨v2a, v2c, hv2e, _, _⟩ := owns_form hown2
           subst hv2e
           have f2'' := (blk_free (later_blk hv2.1 x1) 2)
           have c2'' := later hv2.1 c2
           have l1'' := (blk_lt (later_blk hv2.1 x1))))
      all_goals (go_wp2_with fail; go_meet; exact mid2_of hbX (Nat.le_refl _) l1 x1 hown2 hv2)
    case rest =>
      obtain ⟨va, vc, z1, ho, hk, hkeep, hb7⟩ := hcut
      have z2 := hkeep _ _ _ (by omega) x2
      have z3 := hkeep _ _ _ (by omega) x3
      have z6 := hkeep _ _ _ (by omega) y6
      have l2 := blk_lt x2
      have l3 := blk_lt x3
      have hne : ∀ b, b < V.heap.size → (Value.slice va (n + 1) vc).ownBlock ≠ some b := fun b hb e => by have := hk _ e; omega
      clear c2 d0 d1 f2 hkeep hA1 hA2 hA3 hVa
      have m1 := blk_lt z1
      have m2 := blk_lt z2
      have m3 := blk_lt z3
      have m6 := blk_lt z6
      have p0 := blk_cell z1 (o := 0) (v := .int .i64 cap) rfl
      have p1 := blk_cell z1 (o := 1) (v := .int .u32 most) rfl
      have p2 := blk_cell z1 (o := 2) (v := .slice va (n + 1) vc) rfl
      have p3 := blk_cell z1 (o := 3) (v := .slice ga m gc) rfl
      have q0 := blk_cell z2 (o := 0) (v := .int .i64 0) rfl
      have q1 := blk_cell z2 (o := 1) (v := .int .u32 0) rfl
      have q2 := blk_cell z2 (o := 2) (v := .slice none 0 0) rfl
      have q3 := blk_cell z2 (o := 3) (v := .slice none 0 0) rfl
      have g0 := blk_free z2 0
      have g1 := blk_free z2 1
      have g2 := blk_free z2 2
      have g3 := blk_free z2 3
      have r0 := blk_cell z3 (o := 0) (v := .int .i64 0) rfl
      have r1 := blk_cell z3 (o := 1) (v := .int .u32 0) rfl
      have e0 := blk_free z3 0
      have e1 := blk_free z3 1
      have d0 := blk_cell z6 (o := 0) (v := .int .i64 s) rfl
      have d1 := blk_cell z6 (o := 1) (v := .int .u32 g) rfl
      have u1 : w.heap.size + 1 ≠ b6 := by omega
      have u2 : b6 ≠ w.heap.size + 1 := by omega
      have u3 : w.heap.size + 1 + 1 ≠ b6 := by omega
      have u4 : b6 ≠ w.heap.size + 1 + 1 := by omega
      have u5 : b6 ≠ w.heap.size := by omega
      go_wp2_with fail
      go_region
      all_goals
        go_wp2
        refine bodyPost_ret (v := .tuple #[.agg #[.int .i64 cap, .int .u32 most, .slice va (n + 1) vc, .slice ga m gc], .agg #[.int .i64 s, .int .u32 g], .int .i64 0]) (by simp [results, Try.results13, go_sem, q0, q1, q2, q3, r0, r1]) rfl ⟨.slice va (n + 1) vc, rfl, ?_, ?_⟩
        · refine World.ownsRow.drew ?_
          exact owns_set_other (a := ⟨_, 1, none⟩) (owns_set_other (a := ⟨_, 0, none⟩) (owns_set_other (a := ⟨_, 3, none⟩) (owns_set_other (a := ⟨_, 2, none⟩) (owns_set_other (a := ⟨_, 1, none⟩) (owns_set_other (a := ⟨_, 0, none⟩) ho (hne _ l2) _) (hne _ l2) _) (hne _ l2) _) (hne _ l2) _) (hne _ l3) _) (hne _ l3) _
        · exact ((((((hb7.setCell (p := ⟨w.heap.size + 1, 0, none⟩) (by simp) _).setCell (p := ⟨w.heap.size + 1, 1, none⟩) (by simp) _).setCell (p := ⟨w.heap.size + 1, 2, none⟩) (by simp) _).setCell (p := ⟨w.heap.size + 1, 3, none⟩) (by simp) _).setCell (p := ⟨w.heap.size + 1 + 1, 0, none⟩) (by simp; omega) _).setCell (p := ⟨w.heap.size + 1 + 1, 1, none⟩) (by simp; omega) _).drew
theorem reftake_full (B cap most : Nat) (tv gv : Value) (n m : Nat) (T G : List (Nat × Nat)) (hw0 : waitsH most T G = []) (hf0 : cap ≤ freshH T) (w : World) (h : HRow w B tv n T) (h2 : HRow w B gv m G) :
    Calls Try.prog 13 #[RV cap most tv gv] w fun e w' => e = .returned (.tuple #[RV cap most tv gv, .agg #[.int .i64 0, .int .u32 0], .int .i64 32]) ∧ Below w.heap.size w w' := by
  obtain ⟨ta, tc, rfl, _, _⟩ := h.form
  obtain ⟨ga, gc, rfl, _, _⟩ := h2.form
  have hW0 := fun w' h h2 => waits_any B cap most (.slice ta n tc) (.slice ga m gc) n m T G w' h h2
  have hF0 := fun w' h => fresh_any B cap most (.slice ta n tc) (.slice ga m gc) n T w' h
  rw [hw0] at hW0
  generalize freshH T = R at *
  have hfcI : decide ((cap : Int) ≤ R) = true := by simp; omega
  have hfcN : decide (cap ≤ R) = true := by simp; omega
  clear hw0 hf0
  go_enter Try.func13, Try.ntmps13
  go_wp2_with fail
  obtain ⟨W, hW, hbW, x1, x2, x3⟩ : ∃ W : World, W = ((w.alloc (.cells #[.int .i64 cap, .int .u32 most, .slice ta n tc, .slice ga m gc] 34)).alloc (.cells #[.int .i64 0, .int .u32 0, .slice none 0 0, .slice none 0 0] 34)).alloc (.cells #[.int .i64 0, .int .u32 0] 30) ∧ Below w.heap.size w W ∧
      Blk W w.heap.size #[.int .i64 cap, .int .u32 most, .slice ta n tc, .slice ga m gc] 34 ∧ Blk W (w.heap.size + 1) #[.int .i64 0, .int .u32 0, .slice none 0 0, .slice none 0 0] 34 ∧ Blk W (w.heap.size + 1 + 1) #[.int .i64 0, .int .u32 0] 30 := by
    refine ⟨_, rfl, (((Below.refl _ _).alloc (Nat.le_refl _) _).alloc (by rw [size_alloc]; omega) _).alloc (by rw [size_alloc, size_alloc]; omega) _, blk_alloc (blk_alloc (blk_new w _ _) _) _, blk_alloc ?_ _, ?_⟩
    · have := blk_new (w.alloc (.cells #[.int .i64 cap, .int .u32 most, .slice ta n tc, .slice ga m gc] 34)) #[.int .i64 0, .int .u32 0, .slice none 0 0, .slice none 0 0] 34
      rw [size_alloc] at this
      exact this
    · have := blk_new ((w.alloc (.cells #[.int .i64 cap, .int .u32 most, .slice ta n tc, .slice ga m gc] 34)).alloc (.cells #[.int .i64 0, .int .u32 0, .slice none 0 0, .slice none 0 0] 34)) #[.int .i64 0, .int .u32 0] 30
      rw [size_alloc, size_alloc] at this
      exact this
  rw [← hW]
  clear hW
  refine (hW0 _ (h.later hbW) (h2.later hbW)).mono ?_
  rintro e V ⟨wv, rfl, hwo, hbV⟩
  replace x1 := later_blk hbV x1
  replace x2 := later_blk hbV x2
  replace x3 := later_blk hbV x3
  have hbw := below_chain hbW hbV
  clear hbW hbV hW0
  have c0 := blk_cell x1 (o := 0) (v := .int .i64 cap) rfl
  have c1 := blk_cell x1 (o := 1) (v := .int .u32 most) rfl
  have c2 := blk_cell x1 (o := 2) (v := .slice ta n tc) rfl
  have c3 := blk_cell x1 (o := 3) (v := .slice ga m gc) rfl
  obtain ⟨wa, wcap, rfl, _, _⟩ := owns_form hwo
  simp only [List.length_nil] at hwo
  go_wp2_with fail
  refine (hF0 _ (h.later hbw)).mono ?_
  rintro e V2 ⟨rfl, hb2⟩
  replace x1 := blk_alloc (later_blk hb2 x1) (.cells #[.int .i64 R, .int .u32 1] 30)
  replace x2 := blk_alloc (later_blk hb2 x2) (.cells #[.int .i64 R, .int .u32 1] 30)
  replace x3 := blk_alloc (later_blk hb2 x3) (.cells #[.int .i64 R, .int .u32 1] 30)
  replace hbw := (below_chain hbw hb2).alloc (Nat.le_trans hbw.size hb2.size) (.cells #[.int .i64 R, .int .u32 1] 30)
  clear c0 c1 c2 c3 hb2 hwo
  obtain ⟨V3, hV3⟩ : ∃ V3 : World, V3 = V2.alloc (.cells #[.int .i64 R, .int .u32 1] 30) := ⟨_, rfl⟩
  go_wp2_with fail
  rw [← hV3]
  rw [← hV3] at x1 x2 x3 hbw
  clear hV3
  have k0 := cell_regrown (blk_cell x1 (o := 0) (v := .int .i64 cap) rfl)
  have k1 := cell_regrown (blk_cell x1 (o := 1) (v := .int .u32 most) rfl)
  have k2 := cell_regrown (blk_cell x1 (o := 2) (v := .slice ta n tc) rfl)
  have k3 := cell_regrown (blk_cell x1 (o := 3) (v := .slice ga m gc) rfl)
  have cF : ∀ d' os, Calls Try.prog 26 #[RV cap most (.slice ta n tc) (.slice ga m gc)] (grow (redrawn V3 d') os) fun e w'' => e = .returned (.int .i64 R) ∧ ∃ p : Regrown, w'' = grow (redrawn V3 p.d) p.os := fun d' os => Calls.regrown_of (hF0 _ (h.later (below_chain hbw (below_regrown _ d' os))))
  refine wp_region_quiet_below (by kernel_rfl) (by kernel_rfl) ?_
  repeat (go_big_quiet_step (first | with_reducible exact cF _ _))
  refine wpQuiet_nil ?_
  intro W3 hw'
  replace hw' := below_regrown' hw'
  have z1 := later_blk hw' x1
  have z2 := later_blk hw' x2
  have z3 := later_blk hw' x3
  have hb7 := below_chain hbw hw'
  clear k0 k1 k2 k3 cF hF0
  have m1 := blk_lt z1
  have m2 := blk_lt z2
  have m3 := blk_lt z3
  have p0 := blk_cell z1 (o := 0) (v := .int .i64 cap) rfl
  have p1 := blk_cell z1 (o := 1) (v := .int .u32 most) rfl
  have p2 := blk_cell z1 (o := 2) (v := .slice ta n tc) rfl
  have p3 := blk_cell z1 (o := 3) (v := .slice ga m gc) rfl
  have q0 := blk_cell z2 (o := 0) (v := .int .i64 0) rfl
  have q1 := blk_cell z2 (o := 1) (v := .int .u32 0) rfl
  have q2 := blk_cell z2 (o := 2) (v := .slice none 0 0) rfl
  have q3 := blk_cell z2 (o := 3) (v := .slice none 0 0) rfl
  have g0 := blk_free z2 0
  have g1 := blk_free z2 1
  have g2 := blk_free z2 2
  have g3 := blk_free z2 3
  have r0 := blk_cell z3 (o := 0) (v := .int .i64 0) rfl
  have r1 := blk_cell z3 (o := 1) (v := .int .u32 0) rfl
  have e0 := blk_free z3 0
  have e1 := blk_free z3 1
  go_wp2
  refine bodyPost_ret (v := .tuple #[.agg #[.int .i64 cap, .int .u32 most, .slice ta n tc, .slice ga m gc], .agg #[.int .i64 0, .int .u32 0], .int .i64 32]) (by simp [results, Try.results13, go_sem, q0, q1, q2, q3, r0, r1]) rfl ⟨rfl, ?_⟩
  exact ((((((hb7.setCell (p := ⟨w.heap.size + 1, 0, none⟩) (by simp) _).setCell (p := ⟨w.heap.size + 1, 1, none⟩) (by simp) _).setCell (p := ⟨w.heap.size + 1, 2, none⟩) (by simp) _).setCell (p := ⟨w.heap.size + 1, 3, none⟩) (by simp) _).setCell (p := ⟨w.heap.size + 1 + 1, 0, none⟩) (by simp; omega) _).setCell (p := ⟨w.heap.size + 1 + 1, 1, none⟩) (by simp; omega) _)
end Go.Proofs.Ytahpalfdeghdmaa
