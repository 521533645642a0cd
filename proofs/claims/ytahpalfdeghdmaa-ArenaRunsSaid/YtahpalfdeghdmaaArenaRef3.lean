/- The document's arena: which slots wait. -/
import Derived.Test.YtahpalfdeghdmaaArenaRef2
namespace Go.Proofs.Ytahpalfdeghdmaa
open Go.RowKit Go.Sort

def waitsD (m : Nat) (T D : List (Nat × Nat)) : List Nat := (D.reverse.filter (waitB m T)).map (·.1)
theorem waitsD_cons (m : Nat) (T D : List (Nat × Nat)) (x : Nat × Nat) : waitsD m T (x :: D) = waitsD m T D ++ (if waitB m T x then [x.1] else []) := by
  unfold waitsD
  rw [List.reverse_cons, List.filter_append, List.map_append]
  congr 1
  simp only [List.filter_cons, List.filter_nil]
  split <;> rfl
theorem drop_consH (G : List (Nat × Nat)) (j : Nat) (h : j < G.length) : G.drop j = G.getD j (0, 0) :: G.drop (j + 1) := by
  rw [List.drop_eq_getElem_cons h]; simp [List.getD_eq_getElem?_getD, h]
theorem cellsN_append (a b : List Nat) : cellsN (a ++ b) = cellsN a ++ cellsN b := by simp [cellsN]

/-- A row of slots, all its own. -/
def NRow (w : World) (B : Nat) (v : Value) (l : List Nat) : Prop := w.ownsRow B 3 1 v l.length (cellsN l)
def WaitsPost (w : World) (l : List Nat) (e : Ending) (w' : World) : Prop := ∃ v, e = .returned v ∧ NRow w' w.heap.size v l ∧ Below w.heap.size w w'

theorem waits_any (B cap most : Nat) (tv gv : Value) (n m : Nat) (T G : List (Nat × Nat)) (w : World) (h : HRow w B tv n T) (h2 : HRow w B gv m G) :
    Calls Try.prog 25 #[RV cap most tv gv] w (WaitsPost w (waitsH most T G)) := by
  obtain ⟨i0, hi0, hz0, hz1, hz2⟩ := info_parts info_int
  obtain ⟨a, c, rfl, hc, hm⟩ := h2.form
  have hn := h2.2.2
  have hlen := Lib.hid h2.2.1
  go_enter Try.func25, Try.ntmps25
  go_wp2_with fail
  obtain ⟨W, hW, hbW, x1, ho⟩ : ∃ W : World, W = (w.alloc (.cells #[.int .i64 cap, .int .u32 most, tv, .slice a m c] 34)).alloc (.cells #[] 3) ∧ Below w.heap.size w W ∧ Blk W w.heap.size #[.int .i64 cap, .int .u32 most, tv, .slice a m c] 34 ∧ W.ownsRow (w.heap.size + 1) 3 1 (.slice (some ⟨w.heap.size + 1, 0, none⟩) 0 0) 0 [] := by
    refine ⟨_, rfl, ((Below.refl _ _).alloc (Nat.le_refl _) _).alloc (by rw [size_alloc]; omega) _, blk_alloc (blk_new w _ _) _, ?_⟩
    have := owns_empty (w.alloc (.cells #[.int .i64 cap, .int .u32 most, tv, .slice a m c] 34)) 3 1 (w.heap.size + 1) (by rw [size_alloc]; omega)
    rw [size_alloc] at this
    exact this
  rw [← hW]
  have hsz : W.heap.size = w.heap.size + 2 := by rw [hW, size_alloc, size_alloc]
  clear hW
  go_loopw [3, 4] (fun v i wr => ∃ (j k : Nat) (l : List Nat), j ≤ m ∧ k + j ≤ m ∧ i = .int .i64 ((j : Int) - 1) ∧ l.length = k ∧ l = waitsD most T (G.drop j) ∧ wr.ownsRow (w.heap.size + 1) 3 1 v k (cellsN l) ∧ Below (w.heap.size + 1) W wr) (fun _ i _ => (intOf i + 1).toNat)
  case atStart => exact ⟨m, 0, [], Nat.le_refl _, by omega, rfl, rfl, by rw [List.drop_of_length_le (by rw [hlen.out]; exact Nat.le_refl _)]; rfl, ho, Below.refl _ _⟩
  case round =>
    clear ho
    obtain ⟨j, k, l, hj, hkj, rfl, hlk, hl, ho, hb⟩ := hrel
    have y1 : Blk wr w.heap.size #[.int .i64 cap, .int .u32 most, tv, .slice a m c] 34 := (Keeps.of_below hb).blk x1 (by omega)
    have c0 := blk_cell y1 (o := 0) (v := .int .i64 cap) rfl
    have c1 := blk_cell y1 (o := 1) (v := .int .u32 most) rfl
    have c2 := blk_cell y1 (o := 2) (v := tv) rfl
    have c3 := blk_cell y1 (o := 3) (v := .slice a m c) rfl
    have l1 := blk_lt y1
    have hbw := hbW.trans (hb.mono (by omega))
    have HL := Lib.hid hl
    have HK := Lib.hid hlk
    clear hl hlk
    by_cases hlt : 0 < j
    · obtain ⟨q, rfl⟩ : ∃ q, j = q + 1 := ⟨j - 1, by omega⟩
      have hqm : q < m := by omega
      have eq1 : (((q + 1 : Nat) : Int) - 1) = q := by omega
      obtain ⟨gq, rfl, a0, a1⟩ := h2.cell q hqm
      replace a0 := later hbw a0
      replace a1 := later hbw a1
      have hd : Hid (waitsD most T (G.drop q) = l ++ if waitB most T (G.getD q (0, 0)) then [(G.getD q (0, 0)).1] else []) := Lib.hid (by rw [drop_consH G q (by rw [hlen.out]; exact hqm), waitsD_cons, ← HL.out])
      obtain ⟨⟨x, y⟩, hxe⟩ : ∃ x, x = G.getD q (0, 0) := ⟨_, rfl⟩
      rw [← hxe] at a0 a1 hd
      clear hxe HL
      simp only at a0 a1 hd
      rw [eq1]
      clear eq1
      have hk60 : k ≤ 60 := by omega
      have hc3 := last_any B cap most tv (.slice (some ⟨gq, 0, none⟩) m c) n T x
      by_cases hy : y < most
      · have hyI : (y : Int) < most := by omega
        go_wp2_with fail
        obtain ⟨V, hV, hbV, d0, d1⟩ : ∃ V : World, V = wr.alloc (.cells #[.int .i64 x, .int .u32 y] 30) ∧ Below wr.heap.size wr V ∧ V.cell? ⟨wr.heap.size, 0, none⟩ = some (.int .i64 x) ∧ V.cell? ⟨wr.heap.size, 1, none⟩ = some (.int .u32 y) := ⟨_, rfl, (Below.refl _ _).alloc (Nat.le_refl _) _, by go_simp, by go_simp⟩
        have hl' := blk_lt y1
        have e0 := cell_regrown (later hbV c0)
        have e1 := cell_regrown (later hbV c1)
        have e2 := cell_regrown (later hbV c2)
        have e3 := cell_regrown (later hbV c3)
        have e4 := cell_regrown d0
        have e5 := cell_regrown d1
        have hL : ∀ d' os, Calls Try.prog 27 #[RV cap most tv (.slice (some ⟨gq, 0, none⟩) m c), .int .i64 x] (grow (redrawn V d') os) fun e w'' => e = .returned (.int .u32 (lastH T x)) ∧ ∃ p : Regrown, w'' = grow (redrawn V p.d) p.os := fun d' os => Calls.regrown_of (hc3 _ (h.later (below_chain hbw (below_chain hbV (below_regrown _ d' os)))))
        rw [← hV]
        clear hV
        clear hc3
        cases hz : lastH T x == y
        · have hz' : ((lastH T x : Int) == y) = false := by rw [beq_eq_false_iff_ne] at *; omega
          have hwB : waitB most T (x, y) = false := by simp [waitB, hz]
          have hn2 : Hid (l = waitsD most T (G.drop q)) := Lib.hid (by rw [hd.out, hwB]; simp)
          clear hwB
          clear hz
          refine wp_region_quiet_below (by kernel_rfl) (by kernel_rfl) ?_
          repeat (go_big_quiet_step (first | with_reducible exact hL _ _))
          refine wpQuiet_nil ?_
          intro W3 hw'
          replace hw' := below_regrown' hw'
          clear hL e0 e1 e2 e3 e4 e5
          have ho3 := owns_later (owns_later ho hbV) hw'
          have hb3 : Below (w.heap.size + 1) W W3 := hb.trans ((below_chain hbV hw').mono (by have := hb.size; omega))
          clear hw' hbV
          go_wp2_with fail
          go_roundw
          case rel => exact ⟨q, k, l, by omega, by omega, by go_num, HK.out, hn2.out, ho3, hb3⟩
          case measure => simp [intOf]; try omega
        · have hz' : ((lastH T x : Int) == y) = true := by rw [beq_iff_eq] at *; omega
          have hwB : waitB most T (x, y) = true := by simp [waitB, hz, hy]
          have hn2 : Hid (l ++ [x] = waitsD most T (G.drop q)) := Lib.hid (by rw [hd.out, hwB]; rfl)
          clear hwB
          clear hz
          refine wp_region_quiet_below (by kernel_rfl) (by kernel_rfl) ?_
          repeat (go_big_quiet_step (first | with_reducible exact hL _ _))
          refine wpQuiet_nil ?_
          intro W3 hw'
          replace hw' := below_regrown' hw'
          clear hL e0 e1 e2 e3 e4 e5
          have ho3 := owns_later (owns_later ho hbV) hw'
          have hb3 : Below (w.heap.size + 1) W W3 := hb.trans ((below_chain hbV hw').mono (by have := hb.size; omega))
          have q0 := later hw' d0
          clear hw' hbV d0 d1
          go_wp2_with (at_builtin; refine wpList_append_any _ rfl _ _ 57 rfl (w.heap.size + 1) 3 i0 (.int .i64 0) 1 8 Try.underlying57 hi0 hz0 hz1 hz2 rfl (by decide) _ _ _ rfl (ho3.alloc _) _ 1 [.int .i64 x] rfl (reads_new _ #[.int .i64 x] _ 1 1 _ ?c1 rfl) ?c2 ?c3 ?c4 ?c5 ?_)
          case c1 => rfl
          case c2 => first | rfl | (intro u hu; simp at hu; subst hu; rfl)
          case c3 => unfold maxLen; omega
          case c4 => omega
          case c5 => have := hb3.size; first | omega | (rw [size_alloc]; omega)
          intro v9 w4 ho4 hgrow hlies
          have kp := grown_keeps hgrow
          have hb4 := (hb3.alloc (by have := hb3.size; omega) (.cells #[.int .i64 x] 3)).trans (kp.below (by have := hb3.size; rw [size_alloc]; omega) (fun b hb => (ho3.lt b hb).1))
          clear hlies kp hgrow ho3 hb3
          go_wp2_with fail
          go_roundw
          case rel => exact ⟨q, k + 1, l ++ [x], by omega, by omega, by go_num, by simp [HK.out], hn2.out, by rw [cellsN_append]; exact ho4, hb4⟩
          case measure => simp [intOf]; try omega
      · have hyI : ¬ (y : Int) < most := by omega
        have hwB : waitB most T (x, y) = false := by simp [waitB, hy]
        have hn2 : Hid (l = waitsD most T (G.drop q)) := Lib.hid (by rw [hd.out, hwB]; simp)
        clear hwB
        have hyD : decide (y < most) = false := by simpa using hy
        clear hy
        go_wp2_with fail
        obtain ⟨V, hV, hbV, d0, d1⟩ : ∃ V : World, V = wr.alloc (.cells #[.int .i64 x, .int .u32 y] 30) ∧ Below wr.heap.size wr V ∧ V.cell? ⟨wr.heap.size, 0, none⟩ = some (.int .i64 x) ∧ V.cell? ⟨wr.heap.size, 1, none⟩ = some (.int .u32 y) := ⟨_, rfl, (Below.refl _ _).alloc (Nat.le_refl _) _, by go_simp, by go_simp⟩
        have e0 := cell_regrown (later hbV c0)
        have e1 := cell_regrown (later hbV c1)
        have e2 := cell_regrown (later hbV c2)
        have e3 := cell_regrown (later hbV c3)
        have e4 := cell_regrown d0
        have e5 := cell_regrown d1
        rw [← hV]
        clear hV
        have hL := True.intro
        refine wp_region_quiet_below (by kernel_rfl) (by kernel_rfl) ?_
        repeat (go_big_quiet_step (fail))
        refine wpQuiet_nil ?_
        intro W3 hw'
        replace hw' := below_regrown' hw'
        clear hL e0 e1 e2 e3 e4 e5
        have ho3 := owns_later (owns_later ho hbV) hw'
        have hb3 : Below (w.heap.size + 1) W W3 := hb.trans ((below_chain hbV hw').mono (by have := hb.size; omega))
        clear hw' hbV hc3
        go_wp2_with fail
        go_roundw
        case rel => exact ⟨q, k, l, by omega, by omega, by go_num, HK.out, hn2.out, ho3, hb3⟩
        case measure => simp [intOf]; try omega
    · obtain rfl : j = 0 := by omega
      have hT : Hid (l = waitsH most T G) := Lib.hid (by rw [HL.out]; rfl)
      go_wp2_with fail
      go_ret
      refine ⟨_, rfl, ?_, ?_⟩
      · unfold NRow
        rw [← hT.out, HK.out]
        exact ⟨ho.1, ho.2.imp id (fun ⟨g, cap, cur, hv, hb, r⟩ => ⟨g, cap, cur, hv, by omega, r⟩)⟩
      · exact hbW.trans (hb.mono (by omega))
end Go.Proofs.Ytahpalfdeghdmaa
