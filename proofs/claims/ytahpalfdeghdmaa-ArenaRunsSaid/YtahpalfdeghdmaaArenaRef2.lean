/- The document's arena: which handles are live, which slots wait. -/
import Derived.Test.YtahpalfdeghdmaaArenaRef
namespace Go.Proofs.Ytahpalfdeghdmaa
open Go.RowKit Go.Sort

theorem atH_snoc (l G : List (Nat × Nat)) (x : Nat × Nat) (s : Int) (h : atH l G s = none) : atH (l ++ [x]) G s = if ((x.1 : Int) == s && !hasH G x.1 x.2) = true then some x else none := by
  unfold atH at *
  rw [List.find?_append, h]
  simp only [List.find?_cons, List.find?_nil, Option.none_or]
  generalize ((x.1 : Int) == s && !hasH G x.1 x.2) = b
  cases b <;> rfl
theorem liveref_any (B cap most : Nat) (tv gv : Value) (n m : Nat) (T G : List (Nat × Nat)) (s g : Int) (w : World) (h : HRow w B tv n T) (h2 : HRow w B gv m G) :
    Calls Try.prog 18 #[RV cap most tv gv, .agg #[.int .i64 s, .int .u32 g]] w fun e w' => e = .returned (.bool (hasH T s g && !hasH G s g)) ∧ Below w.heap.size w w' := by
  have hT := fun w h => hasref_any B tv n T s g w h
  have hG := fun w h => hasref_any B gv m G s g w h
  generalize hasH T s g = x at *
  generalize hasH G s g = y at *
  go_enter Try.func18, Try.ntmps18
  go_wp2_with fail
  have hb0 : Below w.heap.size w ((w.alloc (.cells #[.int .i64 cap, .int .u32 most, tv, gv] 34)).alloc (.cells #[.int .i64 s, .int .u32 g] 30)) := ((Below.refl _ _).alloc (Nat.le_refl _) _).alloc (by rw [size_alloc]; omega) _
  have x1 := blk_alloc (blk_new w #[.int .i64 cap, .int .u32 most, tv, gv] 34) (.cells #[.int .i64 s, .int .u32 g] 30)
  have x2 := blk_new (w.alloc (.cells #[.int .i64 cap, .int .u32 most, tv, gv] 34)) #[.int .i64 s, .int .u32 g] 30
  rw [size_alloc] at x2
  refine (hT _ (h.later hb0)).mono ?_
  rintro e w1 ⟨rfl, hb1⟩
  replace x1 := later_blk hb1 x1
  replace x2 := later_blk hb1 x2
  have hb := below_chain hb0 hb1
  have c3 := blk_cell x1 (o := 3) (v := gv) rfl
  have d0 := blk_cell x2 (o := 0) (v := .int .i64 s) rfl
  have d1 := blk_cell x2 (o := 1) (v := .int .u32 g) rfl
  clear hb0 hb1 x1 x2
  cases x
  · go_wp2_with fail
    go_ret
    exact ⟨rfl, hb⟩
  · go_wp2_with fail
    refine (hG _ (h2.later hb)).mono ?_
    rintro e w2 ⟨rfl, hb2⟩
    go_wp2_with fail
    go_ret
    exact ⟨by simp, below_chain hb hb2⟩

/-- The document's At, as a value. -/
def atRV (o : Option (Nat × Nat)) : Value := match o with | some x => .tuple #[.agg #[.int .i64 x.1, .int .u32 x.2], .bool true] | none => .tuple #[.agg #[.int .i64 0, .int .u32 0], .bool false]
theorem atref_any (B cap most : Nat) (tv gv : Value) (n m : Nat) (T G : List (Nat × Nat)) (s : Int) (w : World) (h : HRow w B tv n T) (h2 : HRow w B gv m G) :
    Calls Try.prog 14 #[RV cap most tv gv, .int .i64 s] w fun e w' => e = .returned (atRV (atH T G s)) ∧ Below w.heap.size w w' := by
  obtain ⟨a, c, rfl, hc, hm⟩ := h.form
  have hn := h.2.2
  have hlen := Lib.hid h.2.1
  obtain ⟨ans, hans⟩ : ∃ ans, ans = atRV (atH T G s) := ⟨_, rfl⟩
  rw [← hans]
  have HA := Lib.hid hans
  clear hans
  go_enter Try.func14, Try.ntmps14
  go_wp2_with fail
  obtain ⟨W, hW, hbW, x2, x4⟩ : ∃ W : World, W = (w.alloc (.cells #[.int .i64 cap, .int .u32 most, .slice a n c, gv] 34)).alloc (.cells #[.int .i64 0, .int .u32 0] 30) ∧ Below w.heap.size w W ∧ Blk W w.heap.size #[.int .i64 cap, .int .u32 most, .slice a n c, gv] 34 ∧ Blk W (w.heap.size + 1) #[.int .i64 0, .int .u32 0] 30 := by
    refine ⟨_, rfl, ((Below.refl _ _).alloc (Nat.le_refl _) _).alloc (by rw [size_alloc]; omega) _, blk_alloc (blk_new w _ _) _, ?_⟩
    have := blk_new (w.alloc (.cells #[.int .i64 cap, .int .u32 most, .slice a n c, gv] 34)) #[.int .i64 0, .int .u32 0] 30
    rw [size_alloc] at this
    exact this
  replace h := h.later hbW
  replace h2 := h2.later hbW
  rw [← hW]
  clear hW
  go_loopw [11] (fun i wr => ∃ k : Nat, k ≤ n ∧ i = .int .i64 k ∧ atH (T.take k) G s = none ∧ Below W.heap.size W wr) (fun i _ => n - (intOf i).toNat)
  case atStart => exact ⟨0, Nat.zero_le _, rfl, by simp [atH], Below.refl _ _⟩
  case round =>
    obtain ⟨k, hk, rfl, hno, hb⟩ := hrel
    have HN := Lib.hid hno
    have y2 := later_blk hb x2
    have y4 := later_blk hb x4
    have c3 := blk_cell y2 (o := 3) (v := gv) rfl
    have l2 := blk_lt y2
    have l4 := blk_lt y4
    have q0 := blk_cell y4 (o := 0) (v := .int .i64 0) rfl
    have q1 := blk_cell y4 (o := 1) (v := .int .u32 0) rfl
    have f0 := blk_free y4 0
    have f1 := blk_free y4 1
    clear hno
    by_cases hlt : k < n
    · have hki : (k : Int) < n := by omega
      obtain ⟨gq, rfl, a0, a1⟩ := h.cell k hlt
      replace a0 := later hb a0
      replace a1 := later hb a1
      have hkT : k < T.length := by rw [hlen.out]; exact hlt
      have hs : Hid (atH (T.take (k + 1)) G s = if (((T.getD k (0, 0)).1 : Int) == s && !hasH G (T.getD k (0, 0)).1 (T.getD k (0, 0)).2) = true then some (T.getD k (0, 0)) else none) := Lib.hid (by rw [take_snocH T k hkT]; exact atH_snoc _ _ _ _ HN.out)
      have hT : Hid (∀ x, atH (T.take (k + 1)) G s = some x → atH T G s = some x) := Lib.hid (fun x hx => by
        unfold atH at *
        rw [← List.take_append_drop (k + 1) T, List.find?_append, hx]; rfl)
      have hkT' := Lib.hid hkT
      clear hkT
      obtain ⟨⟨x, y⟩, hxe⟩ : ∃ x, x = T.getD k (0, 0) := ⟨_, rfl⟩
      rw [← hxe] at a0 a1 hs
      clear hxe
      simp only at a0 a1 hs
      have hb2 := hb.alloc hb.size (.cells #[.int .i64 x, .int .u32 y] 30)
      have hG := hasref_any B gv m G x y _ ((h2.later hb).alloc (.cells #[.int .i64 x, .int .u32 y] 30))
      by_cases h1 : (x : Int) = s
      · subst h1
        cases hh : hasH G x y
        · rw [hh] at hG
          have hA : Hid (ans = .tuple #[.agg #[.int .i64 x, .int .u32 y], .bool true]) := Lib.hid (by rw [HA.out, hT.out (x, y) (by rw [hs.out, hh]; simp)]; rfl)
          clear hh
          go_wp2_with fail
          refine hG.mono ?_
          rintro e w3 ⟨rfl, hb3⟩
          replace y4 := later_blk hb3 (blk_alloc y4 _)
          have z5 := later_blk hb3 (blk_new wr #[.int .i64 x, .int .u32 y] 30)
          replace q0 := blk_cell y4 (o := 0) (v := .int .i64 0) rfl
          replace q1 := blk_cell y4 (o := 1) (v := .int .u32 0) rfl
          replace f0 := blk_free y4 0
          replace f1 := blk_free y4 1
          have t0 := blk_cell z5 (o := 0) (v := .int .i64 x) rfl
          have t1 := blk_cell z5 (o := 1) (v := .int .u32 y) rfl
          have hb4 := below_chain hbW (below_chain hb2 hb3)
          go_wp2_with fail
          refine bodyPost_ret (v := .tuple #[.agg #[.int .i64 x, .int .u32 y], .bool true]) (by simp [results, Try.results14, go_sem, q0, q1]) rfl ⟨by rw [hA.out], ?_⟩
          exact (hb4.setCell (p := ⟨w.heap.size + 1, 0, none⟩) (by simp) _).setCell (p := ⟨w.heap.size + 1, 1, none⟩) (by simp) _
        · rw [hh] at hG
          have hn2 : Hid (atH (T.take (k + 1)) G x = none) := Lib.hid (by rw [hs.out, hh]; simp)
          clear hh
          go_wp2_with fail
          refine hG.mono ?_
          rintro e w3 ⟨rfl, hb3⟩
          have hb4 := below_chain hb2 hb3
          go_wp2_with fail
          go_roundw
          case rel => exact ⟨k + 1, by omega, by go_num, hn2.out, hb4⟩
          case measure => simp [intOf]; omega
      · have h1' : ((x : Int) == s) = false := by simpa using h1
        have hn2 : Hid (atH (T.take (k + 1)) G s = none) := Lib.hid (by rw [hs.out, h1']; simp)
        clear h1
        go_wp2_with fail
        go_roundw
        case rel => exact ⟨k + 1, by omega, by go_num, hn2.out, hb2⟩
        case measure => simp [intOf]; omega
    · have hki : ¬ (k : Int) < n := by omega
      have HT : Hid (ans = .tuple #[.agg #[.int .i64 0, .int .u32 0], .bool false]) := Lib.hid (by rw [HA.out]; have := HN.out; rw [List.take_of_length_le (by rw [hlen.out]; omega)] at this; rw [this]; rfl)
      go_wp2_with fail
      refine bodyPost_ret (v := .tuple #[.agg #[.int .i64 0, .int .u32 0], .bool false]) (by simp [results, Try.results14, go_sem, q0, q1]) rfl ⟨by rw [HT.out], ?_⟩
      exact ((below_chain hbW hb).setCell (p := ⟨w.heap.size + 1, 0, none⟩) (by simp) _).setCell (p := ⟨w.heap.size + 1, 1, none⟩) (by simp) _
end Go.Proofs.Ytahpalfdeghdmaa
