/- The document's arena: Give. -/
import Derived.Test.YtahpalfdeghdmaaArenaRef4
namespace Go.Proofs.Ytahpalfdeghdmaa
open Go.RowKit Go.Sort

def GavePost (w : World) (cap most : Nat) (tv : Value) (m : Nat) (G : List (Nat × Nat)) (e : Ending) (w' : World) : Prop :=
  ∃ gv, e = .returned (.tuple #[RV cap most tv gv, .int .i64 0]) ∧ w'.ownsRow w.heap.size 30 2 gv m (cellsH G) ∧ Below w.heap.size w w'
/-- Between: the new row stands in the arena's box. -/
def Mid (w : World) (b4 : Nat) (c4 : Array Value) (off : Nat) (c : Array Value) (m : Nat) (G : List (Nat × Nat)) (wx : World) : Prop :=
  ∃ va vc, Blk wx w.heap.size (c.setIfInBounds off (.slice va m vc)) 34 ∧ wx.ownsRow w.heap.size 30 2 (.slice va m vc) m (cellsH G) ∧ (∀ k, rowF (.slice va m vc) k → b4 < k) ∧ Blk wx b4 c4 34 ∧ Below w.heap.size w wx
theorem mid_of {w V w7 : World} {b4 off m : Nat} {c c4 : Array Value} {G : List (Nat × Nat)} {s g : Nat} {va : Option Addr} {vc : Nat} (hbw : Below w.heap.size w V) (hV : w.heap.size < V.heap.size) (h4 : b4 < V.heap.size) (hne : b4 ≠ w.heap.size)
    (x2 : Blk V w.heap.size c 34) (x4 : Blk V b4 c4 34) (hown : w7.ownsRow V.heap.size 30 2 (.slice va (0 + m + 1) vc) (0 + m + 1) ([] ++ cellsH G ++ [.int .i64 s, .int .u32 g]))
    (hv : Below V.heap.size V w7 ∧ ∀ k, rowF (.slice va (0 + m + 1) vc) k → V.heap.size ≤ k) : Mid w b4 c4 off c (m + 1) (G ++ [(s, g)]) (w7.setCell ⟨w.heap.size, off, none⟩ (.slice va (m + 1) vc)) := by
  have e01 : 0 + m + 1 = m + 1 := by omega
  rw [e01] at hown hv
  have ho : w7.ownsRow w.heap.size 30 2 (.slice va (m + 1) vc) (m + 1) (cellsH (G ++ [(s, g)])) := by
    rw [cellsH_append]
    rw [List.nil_append] at hown
    exact ⟨hown.1, hown.2.imp id (fun ⟨g, cap, cur, hv, hb, r⟩ => ⟨g, cap, cur, hv, by omega, r⟩)⟩
  refine ⟨va, vc, blk_set (later_blk hv.1 x2) off _, owns_set_other (a := ⟨w.heap.size, off, none⟩) ho (fun e => by have := hv.2 _ e; simp at this; omega) _, fun k hk => Nat.lt_of_lt_of_le h4 (hv.2 k hk), blk_set_other (later_blk hv.1 x4) (fun e => hne e.symm) _, ?_⟩
  exact (below_chain hbw hv.1).setCell (p := ⟨w.heap.size, off, none⟩) (Nat.le_refl _) _
set_option maxHeartbeats 2000000 in
theorem refgive_live (B cap most : Nat) (tv gv : Value) (n m : Nat) (T G : List (Nat × Nat)) (s g : Nat) (hl : (hasH T s g && !hasH G s g) = true) (w : World) (h : HRow w B tv n T) (h2 : HRow w B gv m G) :
    Calls Try.prog 15 #[RV cap most tv gv, .agg #[.int .i64 s, .int .u32 g]] w (GavePost w cap most tv (m + 1) (G ++ [(s, g)])) := by
  obtain ⟨i0, hi0, hz0, hz1, hz2⟩ := info_parts info_handle
  have hm60 := h2.2.2
  obtain ⟨ta, tc, rfl, _, _⟩ := h.form
  have hL0 := fun w' h h2 => liveref_any B cap most (.slice ta n tc) gv n m T G s g w' h h2
  rw [hl] at hL0
  clear hl
  go_enter Try.func15, Try.ntmps15
  go_wp2_with fail
  obtain ⟨W, hW, hbW, x2, x3, x4⟩ : ∃ W : World, W = ((w.alloc (.cells #[.int .i64 cap, .int .u32 most, (.slice ta n tc), gv] 34)).alloc (.cells #[.int .i64 s, .int .u32 g] 30)).alloc (.cells #[.int .i64 0, .int .u32 0, .slice none 0 0, .slice none 0 0] 34) ∧ Below w.heap.size w W ∧
      Blk W w.heap.size #[.int .i64 cap, .int .u32 most, (.slice ta n tc), gv] 34 ∧ Blk W (w.heap.size + 1) #[.int .i64 s, .int .u32 g] 30 ∧ Blk W (w.heap.size + 1 + 1) #[.int .i64 0, .int .u32 0, .slice none 0 0, .slice none 0 0] 34 := by
    refine ⟨_, rfl, (((Below.refl _ _).alloc (Nat.le_refl _) _).alloc (by rw [size_alloc]; omega) _).alloc (by rw [size_alloc, size_alloc]; omega) _, blk_alloc (blk_alloc (blk_new w _ _) _) _, blk_alloc ?_ _, ?_⟩
    · have := blk_new (w.alloc (.cells #[.int .i64 cap, .int .u32 most, (.slice ta n tc), gv] 34)) #[.int .i64 s, .int .u32 g] 30
      rw [size_alloc] at this
      exact this
    · have := blk_new ((w.alloc (.cells #[.int .i64 cap, .int .u32 most, (.slice ta n tc), gv] 34)).alloc (.cells #[.int .i64 s, .int .u32 g] 30)) #[.int .i64 0, .int .u32 0, .slice none 0 0, .slice none 0 0] 34
      rw [size_alloc, size_alloc] at this
      exact this
  rw [← hW]
  clear hW
  refine (hL0 _ (h.later hbW) (h2.later hbW)).mono ?_
  rintro e V ⟨rfl, hbV⟩
  replace x2 := later_blk hbV x2
  replace x3 := later_blk hbV x3
  replace x4 := later_blk hbV x4
  have hbw := below_chain hbW hbV
  clear hbW hbV hL0 W
  have h2V := h2.later hbw
  have hsz := blk_lt x4
  go_wp2_with fail
  have hS : ∀ w' : World, Below V.heap.size V w' → w'.cell? ⟨w.heap.size, 3, none⟩ = some gv ∧ w'.cell? ⟨w.heap.size + 1, 0, none⟩ = some (.int .i64 s) ∧ w'.cell? ⟨w.heap.size + 1, 1, none⟩ = some (.int .u32 g) ∧ Below V.heap.size V w' := fun w' hb =>
    ⟨blk_cell (later_blk hb x2) rfl, blk_cell (later_blk hb x3) rfl, blk_cell (later_blk hb x3) rfl, hb⟩
  have hbD : Below V.heap.size V V.drew := (Below.refl _ _).drew
  have hVa : ∀ o, V.heap.size ≤ (V.alloc o).heap.size := fun o => by rw [size_alloc]; omega
  have hA1 : Below V.heap.size V (V.alloc (.cells #[] 30)) := (Below.refl _ _).alloc (Nat.le_refl _) _
  have hA2 : Below V.heap.size V ((V.alloc (.cells #[] 30)).alloc (.cells #[.int .i64 s, .int .u32 g] 30)) := hA1.alloc hA1.size _
  have hA3 : Below V.heap.size V ((V.alloc (.cells #[.int .i64 s, .int .u32 g] 30)).alloc (.cells #[] 30)) := ((Below.refl _ _).alloc (Nat.le_refl _) _).alloc (hVa _) _
  have hA4 : Below V.heap.size V (V.alloc (.cells #[.int .i64 s, .int .u32 g] 30)) := (Below.refl _ _).alloc (Nat.le_refl _) _
  have c3 := blk_cell x2 (o := 3) (v := gv) rfl
  have d0 := blk_cell x3 (o := 0) (v := .int .i64 s) rfl
  have d1 := blk_cell x3 (o := 1) (v := .int .u32 g) rfl
  have f3 := blk_free x2 3
  have l2 := blk_lt x2
  have l3 := blk_lt x3
  go_cut [17] (fun _ wx => Mid w (w.heap.size + 1 + 1) #[.int .i64 0, .int .u32 0, .slice none 0 0, .slice none 0 0] 3 #[.int .i64 cap, .int .u32 most, .slice ta n tc, gv] (m + 1) (G ++ [(s, g)]) wx)
  case first =>
   go_region_law (first
      | ((refine step_append_any _ rfl (.tmp 11) (.tmp 13) 32 rfl V.heap.size 30 i0 (.agg #[.int .i64 0, .int .u32 0]) 2 16 Try.underlying32 hi0 hz0 hz1 hz2 rfl (by decide) _ 0 [] rfl ?_ gv m (cellsH G) rfl ?_ (fun u hu => cellsH_one G u hu) (by unfold maxLen; omega) (by omega) ?_ ?_)
         · first
            | exact owns_same (w := V.alloc (.cells #[] 30)) rfl (owns_empty V _ 2 _ (Nat.le_refl _))
            | exact owns_same (w := (V.alloc (.cells #[] 30)).alloc (.cells #[.int .i64 s, .int .u32 g] 30)) rfl ((owns_empty V _ 2 _ (Nat.le_refl _)).alloc _)
            | exact owns_same (w := (V.alloc (.cells #[.int .i64 s, .int .u32 g] 30)).alloc (.cells #[] 30)) rfl (owns_empty' (V.alloc (.cells #[.int .i64 s, .int .u32 g] 30)) _ 2 _ _ (size_alloc _ _) (hVa _))
         · first | exact (reads_own h2V.1).later hA1.drew | exact (reads_own h2V.1).later hA2.drew | exact (reads_own h2V.1).later hA3.drew
         · first | exact hA1.drew.size | exact hA2.drew.size | exact hA3.drew.size
         intro v1 w6 hown1 hgrow1 hlies1
         have hv1 := fresh_next (B := V.heap.size) (w := V) (by first | exact hA1.drew | exact hA2.drew | exact hA3.drew) (Nat.le_refl _) (fun k hk => by first | (have h' : V.heap.size = k := Option.some.inj (show some V.heap.size = some k from hk); omega) | (have h' : V.heap.size + 1 = k := Option.some.inj (show some (V.heap.size + 1) = some k from hk); omega)) hgrow1 hlies1
         have c3' := later hv1.1 c3
         have d0' := later hv1.1 d0
         have d1' := later hv1.1 d1
         have f3' := (blk_free (later_blk hv1.1 x2) 3)
         have l2' := (blk_lt (later_blk hv1.1 x2))
         have l3' := (blk_lt (later_blk hv1.1 x3)))
      | ((refine step_append_any _ rfl (.tmp 14) (.tmp 16) 32 rfl V.heap.size 30 i0 (.agg #[.int .i64 0, .int .u32 0]) 2 16 Try.underlying32 hi0 hz0 hz1 hz2 rfl (by decide) v1 (0 + m) ([] ++ cellsH G) rfl ?_ _ 1 [.int .i64 s, .int .u32 g] rfl ?_ (fun u hu => by simp at hu; rcases hu with rfl | rfl <;> rfl) (by unfold maxLen; omega) (by omega) ?_ ?_)
         · first | exact owns_same rfl hown1 | exact owns_same (w := w6.alloc (.cells #[.int .i64 s, .int .u32 g] 30)) rfl (hown1.alloc _)
         · first
            | exact reads_same (w := w6.alloc (.cells #[.int .i64 s, .int .u32 g] 30)) rfl (reads_new w6 #[.int .i64 s, .int .u32 g] _ 2 1 _ rfl rfl)
            | exact reads_same (w := w6) rfl (reads_grown hgrow1 (reads_same (w := (V.alloc (.cells #[] 30)).alloc (.cells #[.int .i64 s, .int .u32 g] 30)) rfl (reads_new (V.alloc (.cells #[] 30)) #[.int .i64 s, .int .u32 g] _ 2 1 _ (size_alloc _ _) rfl)) (by omega))
            | exact reads_same (w := w6) rfl (reads_grown hgrow1 (reads_same (w := (V.alloc (.cells #[.int .i64 s, .int .u32 g] 30)).alloc (.cells #[] 30)) rfl ((reads_new V #[.int .i64 s, .int .u32 g] 30 2 1 _ rfl rfl).later ((Below.refl _ _).alloc (Nat.le_refl _) _))) (by omega))
         · first | exact hv1.1.size | exact (hv1.1.alloc hv1.1.size _).size
         intro v2 w7 hown2 hgrow2 hlies2
         have hv2 := fresh_next (B := V.heap.size) (w := V) (by first | exact hv1.1 | exact hv1.1.alloc hv1.1.size _) (Nat.le_refl _) hv1.2 hgrow2 hlies2
         obtain ⟨v2a, v2c, hv2e, _, _⟩ := owns_form hown2
         subst hv2e
         have f3'' := (blk_free (later_blk hv2.1 x2) 3)
         have c3'' := later hv2.1 c3
         have l2'' := (blk_lt (later_blk hv2.1 x2))))
   all_goals (go_wp2_with fail; go_meet; exact mid_of hbw l2 hsz (by omega) x2 x4 hown2 hv2)
  case rest =>
    obtain ⟨va, vc, z2, ho, hk4, z4, hb7⟩ := hcut
    have l2' := blk_lt z2
    have l4' := blk_lt z4
    have p0 := blk_cell z2 (o := 0) (v := .int .i64 cap) rfl
    have p1 := blk_cell z2 (o := 1) (v := .int .u32 most) rfl
    have p2 := blk_cell z2 (o := 2) (v := .slice ta n tc) rfl
    have p3 := blk_cell z2 (o := 3) (v := .slice va (m + 1) vc) rfl
    have q0 := blk_cell z4 (o := 0) (v := .int .i64 0) rfl
    have q1 := blk_cell z4 (o := 1) (v := .int .u32 0) rfl
    have q2 := blk_cell z4 (o := 2) (v := .slice none 0 0) rfl
    have q3 := blk_cell z4 (o := 3) (v := .slice none 0 0) rfl
    have g0 := blk_free z4 0
    have g1 := blk_free z4 1
    have g2 := blk_free z4 2
    have g3 := blk_free z4 3
    go_wp2
    refine bodyPost_ret (v := .tuple #[.agg #[.int .i64 cap, .int .u32 most, .slice ta n tc, .slice va (m + 1) vc], .int .i64 0]) (by simp [results, Try.results15, go_sem, q0, q1, q2, q3]) rfl ⟨.slice va (m + 1) vc, rfl, ?_, ?_⟩
    · have hne : (Value.slice va (m + 1) vc).ownBlock ≠ some (w.heap.size + 1 + 1) := fun e => by have := hk4 _ e; omega
      exact owns_set_other (a := ⟨_, 3, none⟩) (owns_set_other (a := ⟨_, 2, none⟩) (owns_set_other (a := ⟨_, 1, none⟩) (owns_set_other (a := ⟨_, 0, none⟩) ho hne _) hne _) hne _) hne _
    · exact ((((hb7.setCell (p := ⟨_, 0, none⟩) (by simp; omega) _).setCell (p := ⟨_, 1, none⟩) (by simp; omega) _).setCell (p := ⟨_, 2, none⟩) (by simp; omega) _).setCell (p := ⟨_, 3, none⟩) (by simp; omega) _)

theorem refgive_stale (B cap most : Nat) (tv gv : Value) (n m : Nat) (T G : List (Nat × Nat)) (s g : Int) (hl : (hasH T s g && !hasH G s g) = false) (w : World) (h : HRow w B tv n T) (h2 : HRow w B gv m G) :
    Calls Try.prog 15 #[RV cap most tv gv, .agg #[.int .i64 s, .int .u32 g]] w fun e w' => e = .returned (.tuple #[RV cap most tv gv, .int .i64 33]) ∧ Below w.heap.size w w' := by
  have hL0 := fun w' h h2 => liveref_any B cap most tv gv n m T G s g w' h h2
  rw [hl] at hL0
  clear hl
  obtain ⟨ta, tc, rfl, _, _⟩ := h.form
  obtain ⟨ga, gc, rfl, _, _⟩ := h2.form
  go_enter Try.func15, Try.ntmps15
  go_wp2_with fail
  obtain ⟨W, hW, hbW, x2, x4⟩ : ∃ W : World, W = ((w.alloc (.cells #[.int .i64 cap, .int .u32 most, .slice ta n tc, .slice ga m gc] 34)).alloc (.cells #[.int .i64 s, .int .u32 g] 30)).alloc (.cells #[.int .i64 0, .int .u32 0, .slice none 0 0, .slice none 0 0] 34) ∧ Below w.heap.size w W ∧
      Blk W w.heap.size #[.int .i64 cap, .int .u32 most, .slice ta n tc, .slice ga m gc] 34 ∧ Blk W (w.heap.size + 1 + 1) #[.int .i64 0, .int .u32 0, .slice none 0 0, .slice none 0 0] 34 := by
    refine ⟨_, rfl, (((Below.refl _ _).alloc (Nat.le_refl _) _).alloc (by rw [size_alloc]; omega) _).alloc (by rw [size_alloc, size_alloc]; omega) _, blk_alloc (blk_alloc (blk_new w _ _) _) _, ?_⟩
    have := blk_new ((w.alloc (.cells #[.int .i64 cap, .int .u32 most, .slice ta n tc, .slice ga m gc] 34)).alloc (.cells #[.int .i64 s, .int .u32 g] 30)) #[.int .i64 0, .int .u32 0, .slice none 0 0, .slice none 0 0] 34
    rw [size_alloc, size_alloc] at this
    exact this
  rw [← hW]
  clear hW
  refine (hL0 _ (h.later hbW) (h2.later hbW)).mono ?_
  rintro e V ⟨rfl, hbV⟩
  have z2 := later_blk hbV x2
  have z4 := later_blk hbV x4
  have hb7 := below_chain hbW hbV
  clear hbW hbV hL0 W x2 x4
  have l2' := blk_lt z2
  have l4' := blk_lt z4
  have p0 := blk_cell z2 (o := 0) (v := .int .i64 cap) rfl
  have p1 := blk_cell z2 (o := 1) (v := .int .u32 most) rfl
  have p2 := blk_cell z2 (o := 2) (v := .slice ta n tc) rfl
  have p3 := blk_cell z2 (o := 3) (v := .slice ga m gc) rfl
  have q0 := blk_cell z4 (o := 0) (v := .int .i64 0) rfl
  have q1 := blk_cell z4 (o := 1) (v := .int .u32 0) rfl
  have q2 := blk_cell z4 (o := 2) (v := .slice none 0 0) rfl
  have q3 := blk_cell z4 (o := 3) (v := .slice none 0 0) rfl
  have g0 := blk_free z4 0
  have g1 := blk_free z4 1
  have g2 := blk_free z4 2
  have g3 := blk_free z4 3
  go_wp2
  refine bodyPost_ret (v := .tuple #[.agg #[.int .i64 cap, .int .u32 most, .slice ta n tc, .slice ga m gc], .int .i64 33]) (by simp [results, Try.results15, go_sem, q0, q1, q2, q3]) rfl ⟨rfl, ?_⟩
  exact ((((hb7.setCell (p := ⟨_, 0, none⟩) (by simp; omega) _).setCell (p := ⟨_, 1, none⟩) (by simp; omega) _).setCell (p := ⟨_, 2, none⟩) (by simp; omega) _).setCell (p := ⟨_, 3, none⟩) (by simp; omega) _)
end Go.Proofs.Ytahpalfdeghdmaa
