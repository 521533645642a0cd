/- Merged of NestRuns, NestOne, BinNests, BinSame, BinAlive. -/
import Derived.Test.YtmoolbmbdnkooaaGreatNestDo
import Derived.Deep.CutBlock
import Derived.Deep.DeepCutAuto
import Derived.Test.YtmoolbmbdnkooaaGreatGaugeMath
import Derived.Test.YtmoolbmbdnkooaaGreatBinNest5
import Derived.Test.YtmoolbmbdnkooaaGreatBinLift
import Derived.Deep.QuietTactic
namespace Go.Proofs.YtmoolbmbdnkooaaGreat
open Go.RowKit Go.Sort

section
variable {γ : Type} {O : WS → γ → Ob} {st : γ → Int} {R : WS → Int → Int → Int → Int → Int → γ → γ → Prop} {H : World → Prop} {T : TypeId} {v : Value} {f : NestFns}
/-- Do, on a stage that has more than the two nests. -/
theorem do_st (N : Nests O st R H T v f) {hv cv : Value} {W : WS} {g : γ} {r : List Ob} {F0 : Nat → Prop} {W0 w : World} (k y x q s : Int) (hy : inInt y) (hx : inInt x) (hs : Stage F0 W0 ([O W g, Ob.nest hv cv W] ++ r) w) :
    Calls Tryz.prog 28 #[.iface T v, .agg #[hv, cv], .agg #[.int .i64 k, .int .i64 y, .int .i64 x, .int .i64 q, .int .u64 s]] w fun e w' =>
      ∃ a n c a' n' c' g', e = .returned (.tuple #[.agg #[.slice a n c, .slice a' n' c'], .bool true]) ∧ R W k y x q s g g' ∧ Stage F0 W0 ([O (doW W k y x q s) g', Ob.nest (.slice a n c) (.slice a' n' c') (doW W k y x q s)] ++ r) w' := by
  refine (hs.frameEx (α := Option Addr × Nat × Nat × Option Addr × Nat × Nat × γ) (Post := fun t e => e = .returned (.tuple #[.agg #[.slice t.1 t.2.1 t.2.2.1, .slice t.2.2.2.1 t.2.2.2.2.1 t.2.2.2.2.2.1], .bool true]) ∧ R W k y x q s g t.2.2.2.2.2.2)
    (l' := fun t => [O (doW W k y x q s) t.2.2.2.2.2.2, Ob.nest (.slice t.1 t.2.1 t.2.2.1) (.slice t.2.2.2.1 t.2.2.2.2.1 t.2.2.2.2.2.1) (doW W k y x q s)])
    fun F hF h => (do_any N k y x q s hy hx h).mono fun e w' ⟨a, n, c, a', n', c', g', h1, h2, h3⟩ => ⟨(a, n, c, a', n', c', g'), ⟨h1, h2⟩, h3⟩).mono ?_
  rintro e w' ⟨⟨a, n, c, a', n', c', g'⟩, ⟨h1, h2⟩, h3⟩
  exact ⟨a, n, c, a', n', c', g', h1, h2, h3⟩
theorem put_cells (W : WS) (h x k s : Int) : (putW W h x k s).cells.length = W.cells.length := by unfold putW; split <;> simp
theorem lower_cells (W : WS) (x k s : Int) : (lowerW W x k s).cells.length = W.cells.length := by unfold lowerW; split <;> simp
theorem join_cells (W : WS) (a b : Int) : (joinW W a b).cells.length = W.cells.length := by unfold joinW; split <;> simp
theorem make_cells (W : WS) : (makeW W).cells.length = W.cells.length := by unfold makeW; split <;> simp
theorem ex_cells (W : WS) (h : Int) : (exW W h).cells.length = W.cells.length := by
  unfold exW
  split
  · exact drop_cells _ _
  · rfl
theorem do_cells (W : WS) (k y x q r : Int) : (doW W k y x q r).cells.length = W.cells.length := by
  unfold doW
  repeat' split
  all_goals first | exact make_cells _ | exact put_cells _ _ _ _ _ | exact ex_cells _ _ | exact lower_cells _ _ _ _ | exact drop_cells _ _ | exact join_cells _ _ _ | rfl

/-- Acts that lie in memory, five cells each. -/
def ActsAt (w : World) (a0 : Option Addr) (n0 : Nat) : Prop := ∀ k, k < n0 → ∃ b off x y z q r, a0 = some ⟨b, off, none⟩ ∧ w.cell? ⟨b, off + k * 5, none⟩ = some (.int .i64 x) ∧ w.cell? ⟨b, off + k * 5 + 1, none⟩ = some (.int .i64 y) ∧ w.cell? ⟨b, off + k * 5 + 2, none⟩ = some (.int .i64 z) ∧ w.cell? ⟨b, off + k * 5 + 3, none⟩ = some (.int .i64 q) ∧ w.cell? ⟨b, off + k * 5 + 4, none⟩ = some (.int .u64 r) ∧ inInt y ∧ inInt z

end
end Go.Proofs.YtmoolbmbdnkooaaGreat

namespace Go.Proofs.YtmoolbmbdnkooaaGreat
open Go.RowKit Go.Sort

theorem one_any (w : World) : Calls Tryz.prog 15 #[.bool true] w fun e w' => e = .returned (.int .i64 1) ∧ w = w' := by
  go_enter Tryz.func15, Tryz.ntmps15
  go_wp2
  go_ret
  exact ⟨rfl, rfl⟩
section
variable {W0 w : World} {args : Array Value}
end
section
variable {γ : Type} {O : WS → γ → Ob} {st : γ → Int} {R : WS → Int → Int → Int → Int → Int → γ → γ → Prop} {H : World → Prop} {T : TypeId} {v : Value} {f : NestFns}
end
theorem lt_bits : ∀ m : Nat, m ≤ 9223372036854775807 → m < 2 ^ Lib.bitLen m := by
  intro m
  induction m using Nat.strongRecOn with
  | ind m ih =>
    intro hm
    by_cases h0 : m = 0
    · subst h0; exact Nat.pos_of_ne_zero (by simp)
    · have h1 := bits_half m (by omega) hm
      have h2 := ih (m / 2) (by omega) (by omega)
      rw [h1, Nat.add_comm, Nat.pow_succ]
      omega
end Go.Proofs.YtmoolbmbdnkooaaGreat

namespace Go.Proofs.YtmoolbmbdnkooaaGreat
open Go.RowKit Go.Sort

/-- How many slots are in the heap of a call; in both of a Meld. -/
def binSz (W : WS) (k y x : Int) : Nat := if k = 6 then lenW W y + lenW W x else if k = 4 ∨ k = 5 then (if inW W x then lenW W (cellW W x).home else 0) else lenW W y
/-- How a call turns the steps. -/
def binR (W : WS) (k y x _q _r s s' : Int) : Prop := s ≤ s' ∧ s' ≤ s + 4 * ((Lib.bitLen (binSz W k y x) : Nat) + 1) ∧ (¬ (0 ≤ k ∧ k ≤ 6) → s' = s)
/-- The functions that such a nest's calls enter. -/
def binFns (p c : Nat) : NestFns where
  make := ⟨8, ptrV c⟩
  ins := ⟨9, ptrV p⟩
  min := ⟨96, ptrV p⟩
  ext := ⟨94, ptrV p⟩
  dec := ⟨92, ptrV p⟩
  del := ⟨93, ptrV p⟩
  meld := ⟨95, ptrV p⟩
  steps := ⟨12, ptrV c⟩
  home := ⟨99, ptrV c⟩
section
variable {w : World} {p c : Nat} {W : WS} {s : Int} {F : Nat → Prop}
theorem bin_there (h : (Ob.binom p c W s).holds w F) : binH p c w := by
  obtain ⟨f, t, bm, n, K, R, vs, _, _, _, hg⟩ := h
  exact bn_p0 (q := []) (Ob.group.open hg)
theorem bin_fit (h : (Ob.binom p c W s).holds w F) : W.Fit := by
  obtain ⟨f, t, bm, n, K, R, vs, _, h, _, hg⟩ := h; exact h
theorem bin_range (h : (Ob.binom p c W s).holds w F) : 0 ≤ s ∧ s ≤ 4611686018427387904 := by
  obtain ⟨f, t, bm, n, K, R, vs, _, _, h, hg⟩ := h; exact h
/-- A call on the cells alone. -/
theorem bin_cells {f : FuncId} {args : Array Value} {v : Value} {W' : WS} (h : (Ob.binom p c W s).holds w F) (hW : W'.cells = W.cells)
    (hc : ∀ G, (Ob.cells c W s).holds w G → Calls Tryz.prog f args w fun e w' => e = .returned v ∧ ∃ G', (Ob.cells c W' s).holds w' G' ∧ Moved G G' w w') :
    Calls Tryz.prog f args w fun e w' => e = .returned v ∧ ∃ F', (Ob.binom p c W' s).holds w' F' ∧ Moved F F' w w' := by
  have hF := (Ob.binom p c W s).lt h
  obtain ⟨f, t, bm, n, K, R, vs, A, hf, _, hg⟩ := h
  have hs := Ob.group.open hg
  refine (hs.call 1 rfl hc).mono ?_
  rintro e w' ⟨rfl, hs1⟩
  have hs2 : Stage F w (binParts p f c t bm n W' s K (rowsM R vs) (rowsF R vs)) w' := hs1
  exact ⟨rfl, binom_close hs2 hF (A.congr hW)⟩
/-- .. that only asks. -/
theorem bin_ask {f : FuncId} {args : Array Value} {v : Value} (h : (Ob.binom p c W s).holds w F) (hc : ∀ G, (Ob.cells c W s).holds w G → Calls Tryz.prog f args w fun e w' => e = .returned v ∧ Below w.heap.size w w') :
    Calls Tryz.prog f args w fun e w' => e = .returned v ∧ Below w.heap.size w w' := by
  obtain ⟨f, t, bm, n, K, R, vs, A, hf, _, hg⟩ := h
  obtain ⟨G, ho⟩ := (Ob.group.open hg).get (i := 1) rfl
  exact hc G ho
theorem bsame_below {f : FuncId} {args : Array Value} {v : Value} (h : Calls Tryz.prog f args w fun e w' => e = .returned v ∧ w = w') : Calls Tryz.prog f args w fun e w' => e = .returned v ∧ Below w.heap.size w w' := h.mono fun _ _ ⟨h1, h2⟩ => ⟨h1, by subst h2; exact Below.refl _ _⟩
end
abbrev btoMeter : FieldStep := { struct := 52, index := 0, deref := true }
theorem bload_cells {p c : Nat} {w : World} (h : binH p c w) : (loadVar 34 ⟨p, 0, none⟩).run Tryz.prog w = .ok (ptrV c) w := by
  unfold binH at h
  go_simp
/-- A method of the cells, by the nest. -/
theorem bm_prom {n : String} {f : FuncId} {p c : Nat} {w : World} (h : binH p c w) (e : (method 256 24 (ptrV p) n).run Tryz.prog w = (do let v ← loadVar 34 ⟨p, 0, none⟩; pure (f, v) : Sem (FuncId × Value)).run Tryz.prog w) : (method 256 24 (ptrV p) n).run Tryz.prog w = .ok (f, ptrV c) w := by
  rw [e, Sem.run_bind, bload_cells h]
  rfl
set_option maxRecDepth 100000 in
theorem bm_steps {p c : Nat} {w : World} (h : binH p c w) : (method 256 24 (ptrV p) "Steps").run Tryz.prog w = .ok (12, ptrV c) w := by
  have e : (method 256 24 (ptrV p) "Steps").run Tryz.prog w = (do let x ← follow [btoMeter] 34 (.var ⟨p, 0, none⟩); let r ← receiverAt x.1 x.2 true none; pure (12, r) : Sem (FuncId × Value)).run Tryz.prog w := by kernel_rfl
  have e1 : (follow [btoMeter] 34 (.var ⟨p, 0, none⟩)).run Tryz.prog w = (do let v ← loadVar 34 ⟨p, 0, none⟩; follow [btoMeter] 34 (.val v)).run Tryz.prog w := by kernel_rfl
  have e2 : (follow [btoMeter] 34 (.val (ptrV c))).run Tryz.prog w = .ok (47, .var ⟨c, 0, none⟩) w := by kernel_rfl
  have e3 : (follow [btoMeter] 34 (.var ⟨p, 0, none⟩)).run Tryz.prog w = .ok (47, .var ⟨c, 0, none⟩) w := by
    rw [e1, Sem.run_bind, bload_cells h, Result.andThen_ok]
    exact e2
  have e4 : (do let r ← receiverAt 47 (.var ⟨c, 0, none⟩) true none; pure (12, r) : Sem (FuncId × Value)).run Tryz.prog w = .ok (12, ptrV c) w := by kernel_rfl
  rw [e, Sem.run_bind, e3, Result.andThen_ok]
  exact e4
theorem made_cells (W : WS) : (makeW W).cells = W.cells := by unfold makeW; split <;> rfl
theorem bin_nests (p c : Nat) : Nests (fun W s => Ob.binom p c W s) id binR (binH p c) 24 (ptrV p) (binFns p c) where
  there := bin_there
  fit h := bin_fit h
  still W k y x q r g h := ⟨Int.le_refl _, by omega, fun _ => rfl⟩
  home {W g w F} x h := bin_cells h rfl fun _ ho => home_cl x ho
  steps h := bin_ask h fun _ ho => bsame_below (steps_cl ho)
  make {W g w F} h := (bin_cells h (W' := makeW W) (made_cells W) fun _ ho => make_cl ho).mono fun e w' ⟨h1, h2⟩ => ⟨h1, g, fun _ _ _ _ => ⟨Int.le_refl _, by omega, fun _ => rfl⟩, h2⟩
  ins {W g w F} y x k q _ _ h := (insert_bn y x k q h).mono fun e w' ⟨h1, s', ⟨h2, h3, _⟩, h4⟩ => ⟨h1, s', ⟨h2, by have e1 : binSz W 1 y x = lenW W y := rfl; rw [e1]; omega, fun e => by omega⟩, h4⟩
  min {W g w F} y hy h := (min_bn y hy h).mono fun e w' ⟨h1, s', ⟨h2, h3⟩, h4⟩ => ⟨h1, s', fun x _ _ => ⟨h2, by have e1 : binSz W 2 y x = lenW W y := rfl; rw [e1]; omega, fun e => by omega⟩, h4⟩
  ext {W g w F} y hy h := (extract_bn y hy h).mono fun e w' ⟨h1, s', ⟨h2, h3⟩, h4⟩ => ⟨h1, s', fun x _ _ => ⟨h2, by have e1 : binSz W 3 y x = lenW W y := rfl; rw [e1]; omega, fun e => by omega⟩, h4⟩
  dec {W g w F} x k q _ h := (decrease_bn x k q h).mono fun e w' ⟨h1, s', ⟨h2, h5, h3⟩, h4⟩ => ⟨h1, s', fun y => ⟨h2, by
    have e1 : binSz W 4 y x = if inW W x then lenW W (cellW W x).home else 0 := rfl
    rw [e1]
    cases hB : inW W x
    · have := h5 hB; omega
    · rw [if_pos rfl]; omega, fun e => by omega⟩, h4⟩
  del {W g w F} x _ h := (delete_bn x h).mono fun e w' ⟨h1, s', ⟨h2, h5, h3⟩, h4⟩ => ⟨h1, s', fun y _ _ => ⟨h2, by
    have e1 : binSz W 5 y x = if inW W x then lenW W (cellW W x).home else 0 := rfl
    rw [e1]
    cases hB : inW W x
    · have := h5 hB; omega
    · rw [if_pos rfl]; omega, fun e => by omega⟩, h4⟩
  meld {W g w F} a b _ _ h := (meld_bn a b h).mono fun e w' ⟨h1, s', ⟨h2, h3⟩, h4⟩ => ⟨h1, s', fun _ _ => ⟨h2, by have e1 : binSz W 6 a b = lenW W a + lenW W b := rfl; rw [e1]; omega, fun e => by omega⟩, h4⟩
  mMake := ⟨fun w h => bm_prom h (by kernel_rfl), fun _ _ => by kernel_rfl⟩
  mIns := ⟨fun _ _ => by kernel_rfl, fun _ _ => by kernel_rfl⟩
  mMin := ⟨fun _ _ => by kernel_rfl, fun _ _ => by kernel_rfl⟩
  mExt := ⟨fun _ _ => by kernel_rfl, fun _ _ => by kernel_rfl⟩
  mDec := ⟨fun _ _ => by kernel_rfl, fun _ _ => by kernel_rfl⟩
  mDel := ⟨fun _ _ => by kernel_rfl, fun _ _ => by kernel_rfl⟩
  mMeld := ⟨fun _ _ => by kernel_rfl, fun _ _ => by kernel_rfl⟩
  mSteps := ⟨fun w h => bm_steps h, fun _ _ => by kernel_rfl⟩
  mHome := ⟨fun w h => bm_prom h (by kernel_rfl), fun _ _ => by kernel_rfl⟩
end Go.Proofs.YtmoolbmbdnkooaaGreat

namespace Go.Proofs.YtmoolbmbdnkooaaGreat
open Go.RowKit Go.Sort

variable {w : World}
/-- Are two rows one? -/
theorem same_at (la lb : List Int) (a1 a2 : Option Addr) (c1 c2 : Nat) (hc1 : la.length ≤ c1 ∧ c1 ≤ 9223372036854775807) (hc2 : lb.length ≤ c2 ∧ c2 ≤ 9223372036854775807) (h1 : IntsAt w .i64 a1 la) (h2 : IntsAt w .i64 a2 lb) :
    Calls Tryz.prog 10 #[.slice a1 la.length c1, .slice a2 lb.length c2] w fun e w' => e = .returned (.bool (decide (la = lb))) ∧ Below w.heap.size w w' := by
  obtain ⟨h11, h12⟩ := hc1
  obtain ⟨h21, h22⟩ := hc2
  by_cases hl : la.length = lb.length
  · have hA : ∀ wr, Below w.heap.size w wr → ∀ k, k < la.length → ∃ g o g' o', a1 = some ⟨g, o, none⟩ ∧ a2 = some ⟨g', o', none⟩ ∧ wr.cell? ⟨g, o + k, none⟩ = some (.int .i64 (la.getD k 0)) ∧ wr.cell? ⟨g', o' + k, none⟩ = some (.int .i64 (lb.getD k 0)) := fun wr hb k hk => by
      obtain ⟨g, o, e1, h5⟩ := h1 k hk
      obtain ⟨g', o', e2, h6⟩ := h2 k (by omega)
      exact ⟨g, o, g', o', e1, e2, later hb h5, later hb h6⟩
    have hne : ∀ k, k < la.length → la.getD k 0 ≠ lb.getD k 0 → decide (la = lb) = false := fun k _ h => decide_eq_false (fun e => h (by rw [e]))
    have heq : (∀ k, k < la.length → la.getD k 0 = lb.getD k 0) → decide (la = lb) = true := fun h => decide_eq_true (by
      apply List.ext_getElem hl
      intro k h1 h2
      have := h k h1
      simpa [List.getD_eq_getElem?_getD, h1, h2] using this)
    rw [← hl] at h21 ⊢
    generalize decide (la = lb) = B at *
    clear h1 h2
    generalize la.length = m at *
    go_enter Tryz.func10, Tryz.ntmps10
    go_wp2_with fail
    go_loopw [13] (fun i wr => ∃ k : Nat, i = .int .i64 k ∧ k ≤ m ∧ (∀ i, i < k → la.getD i 0 = lb.getD i 0) ∧ Below w.heap.size w wr) (fun i _ => m - (intOf i).toNat)
    case atStart => exact ⟨0, rfl, Nat.zero_le _, fun i hi => absurd hi (Nat.not_lt_zero _), Below.refl _ _⟩
    case round =>
      obtain ⟨k, rfl, hk, hall, hb⟩ := hrel
      by_cases hkm : k < m
      · have hki : (k : Int) < m := by omega
        obtain ⟨g, o, g', o', rfl, rfl, u1, u2⟩ := hA wr hb k hkm
        by_cases e : la.getD k 0 = lb.getD k 0
        · have hall2 : ∀ i, i < k + 1 → la.getD i 0 = lb.getD i 0 := fun i hi => by
            by_cases e2 : i = k
            · rw [e2]; exact e
            · exact hall i (by omega)
          rw [e] at u1
          generalize lb.getD k 0 = y at *
          clear hA hne heq hall e
          go_wp2_with fail
          go_quiet (fail)
          go_wp2_with fail
          go_roundw
          case rel => exact ⟨k + 1, by go_num, by omega, hall2, below_drewN hb _⟩
          case measure => simp [intOf]; omega
        · have hB := hne k hkm e
          subst hB
          have e1 : (la.getD k 0 == lb.getD k 0) = false := by simpa using e
          have e2 : (la.getD k 0 != lb.getD k 0) = true := by simpa using e
          clear hA hne heq hall e
          generalize la.getD k 0 = x at *
          generalize lb.getD k 0 = y at *
          go_wp2_with fail
          go_quiet (fail)
          go_wp2_with fail
          go_ret
          exact ⟨rfl, below_drewN hb _⟩
      · obtain rfl : k = m := by omega
        have hB := heq hall
        subst hB
        clear hA hne heq hall
        go_wp2_with fail
        go_ret
        exact ⟨rfl, hb⟩
  · rw [decide_eq_false (fun e => hl (by rw [e]))]
    have hl1 : ((la.length : Int) == lb.length) = false := by simp; omega
    have hl2 : ((la.length : Int) != lb.length) = true := by simp; omega
    clear h1 h2
    generalize la.length = m at *
    generalize lb.length = m2 at *
    go_enter Tryz.func10, Tryz.ntmps10
    go_wp2_with fail
    go_ret
    exact ⟨rfl, Below.refl _ _⟩
end Go.Proofs.YtmoolbmbdnkooaaGreat

namespace Go.Proofs.YtmoolbmbdnkooaaGreat
open Go.RowKit Go.Sort

section
variable {F0 F : Nat → Prop} {W0 w : World} {p c : Nat} {W : WS} {s : Int} {l q : List Ob}
theorem binom_open (hs : Stage F0 W0 (l ++ [Ob.binom p c W s]) w) : ∃ f t bm n K R vs, BinAll W n K R ∧ W.Fit ∧ (0 ≤ s ∧ s ≤ 4611686018427387904) ∧ Stage F0 W0 (l ++ binParts p f c t bm n W s K (rowsM R vs) (rowsF R vs)) w := by
  obtain ⟨hk, G, h1, h2, h3⟩ := hs
  obtain ⟨f, t, bm, n, K, R, vs, A, hf, hr, hg⟩ := h1 l.length (Ob.binom p c W s) (by simp)
  refine ⟨f, t, bm, n, K, R, vs, A, hf, hr, Stage.ungroup ⟨hk, G, fun i O hi => ?_, h2, h3⟩⟩
  by_cases e : i < l.length
  · rw [List.getElem?_append_left e] at hi
    exact h1 i O (by rw [List.getElem?_append_left e]; exact hi)
  · have e2 : i = l.length := by have := Scene.idx' hi; simp at this; omega
    subst e2
    simp at hi
    subst hi
    exact hg
theorem binom_shut {f t bm n : Nat} {K : Int → List Int} {R : Nat → List Int} {vs : Nat → Value} (hs : Stage F0 W0 (l ++ binParts p f c t bm n W s K (rowsM R vs) (rowsF R vs)) w) (A : BinAll W n K R) (hf : W.Fit) (hr : 0 ≤ s ∧ s ≤ 4611686018427387904) : Stage F0 W0 (l ++ [Ob.binom p c W s]) w := by
  have h := hs.regroup.weaken (i := l.length) (O := Ob.group (binParts p f c t bm n W s K (rowsM R vs) (rowsF R vs))) (O' := Ob.binom p c W s) (by simp) (fun F hF => ⟨f, t, bm, n, K, R, vs, A, hf, hr, hF⟩)
  simpa using h
theorem bdeg_one (y : Int) (hy : inInt y) (hs : Stage F0 W0 [Ob.binom p c W s] w) : Calls Tryz.prog 11 #[.pointer (some ⟨p, 0, none⟩), .int .i64 y] w fun e w' => ∃ v, e = .returned v ∧ Stage F0 W0 [Ob.binom p c W s, Ob.ints v (digI (lenW W y))] w' := by
  obtain ⟨f, t, bm, n, K, R, vs, A, hf, hr, h⟩ := binom_open (l := []) hs
  refine (deg_st y hy A hf h).mono ?_
  rintro e w' ⟨v, he, h2⟩
  have h3 : Stage F0 W0 ([Ob.ints v (digI (lenW W y))] ++ binParts p f c t bm n W s K (rowsM R vs) (rowsF R vs)) w' := h2.select [6, 0, 1, 2, 3, 4, 5] (by decide) rfl
  exact ⟨v, he, (binom_shut h3 A hf hr).select [1, 0] (by decide) rfl⟩
/-- Degrees, within a stage. -/
theorem Stage.bdegs (y : Int) (hy : inInt y) (hs : Stage F0 W0 ([Ob.binom p c W s] ++ q) w) : Calls Tryz.prog 11 #[.pointer (some ⟨p, 0, none⟩), .int .i64 y] w fun e w' => ∃ v, e = .returned v ∧ Stage F0 W0 ([Ob.binom p c W s, Ob.ints v (digI (lenW W y))] ++ q) w' :=
  (hs.frameEx (α := Value) (Post := fun x e => e = .returned x) (l' := fun x => [Ob.binom p c W s, Ob.ints x (digI (lenW W y))])
    fun _ _ h => (bdeg_one y hy h).mono fun _ _ ⟨v, he, h1⟩ => ⟨v, he, h1⟩).mono
  fun _ _ ⟨v, he, h1⟩ => ⟨v, he, h1⟩
end
theorem bin_start {W0 w : World} {l : List Ob} (n : Nat) (hn : n ≤ 65536) (hs : Stage (fun _ => False) W0 l w) : Calls Tryz.prog 5 #[.int .i64 n] w fun e w' => ∃ p c, e = .returned (.tuple #[.pointer (some ⟨p, 0, none⟩), .int .i64 0]) ∧ Stage (fun _ => False) W0 (l ++ [Ob.binom p c (newW n) 0]) w' :=
  (new_bn n hn w).mono fun _ _ ⟨p, c, he, _, h1, h2, h3⟩ => ⟨p, c, he, hs.add h3 h1 h2⟩
/-- The example's nest with so many slots in. -/
def thI (k : Nat) : WS := ⟨[false, true], (List.range 13).map fun (i : Nat) => if i < k then ⟨1, (i : Int), 0⟩ else .off⟩
theorem th_put : ∀ k, k < 13 → putB (thI k) 1 k = true ∧ putW (thI k) 1 k (k : Int) 0 = thI (k + 1) ∧ lenW (thI k) 1 = k := by
  intro k hk
  have : k = 0 ∨ k = 1 ∨ k = 2 ∨ k = 3 ∨ k = 4 ∨ k = 5 ∨ k = 6 ∨ k = 7 ∨ k = 8 ∨ k = 9 ∨ k = 10 ∨ k = 11 ∨ k = 12 := by omega
  rcases this with rfl | rfl | rfl | rfl | rfl | rfl | rfl | rfl | rfl | rfl | rfl | rfl | rfl <;> exact ⟨rfl, rfl, rfl⟩
theorem dig_13 : digI 13 = [0, 2, 3] := by decide
/-- The next slot comes in. -/
theorem balive_ins {w w' : World} {p c : Nat} {s : Int} {k : Nat} (hk : k < 13) (hp : 2 ≤ k → 0 < s) (h0 : 0 ≤ s) (hs : Stage (fun _ => False) w [Ob.binom p c (thI k) s] w') :
    Calls Tryz.prog 9 #[ptrV p, .int .i64 1, .int .i64 k, .agg #[.int .i64 k, .int .u64 0]] w' fun e w'' => e = .returned (.bool true) ∧ ∃ s' : Int, ((2 ≤ k + 1 → 0 < s') ∧ 0 ≤ s') ∧ Stage (fun _ => False) w [Ob.binom p c (thI (k + 1)) s'] w'' := by
  obtain ⟨e1, e2, e3⟩ := th_put k hk
  exact hs.callEx (Q := fun s' : Int => (2 ≤ k + 1 → 0 < s') ∧ 0 ≤ s') (O' := fun s' => Ob.binom p c (thI (k + 1)) s') 0 rfl (fun F ho => by
    have := insert_bn (1 : Int) k (k : Int) 0 ho
    rw [e1, e2] at this
    exact this.mono fun e w2 ⟨h1, s', ⟨h2, _, h3⟩, h4⟩ => ⟨h1, s', ⟨fun h => by
      by_cases e : k = 1
      · exact h3 rfl (by rw [e3, e])
      · have := hp (by omega); omega, by omega⟩, h4⟩)
set_option maxRecDepth 100000 in
set_option maxHeartbeats 2000000 in
theorem balive_any (w : World) : Calls Tryz.prog 4 #[] w fun e w' => e = .returned (.bool true) ∧ Below w.heap.size w w' := by
  go_enter Tryz.func4, Tryz.ntmps4
  go_wp2_with fail
  refine (bin_start 13 (by omega) (Stage.start w)).mono ?_
  rintro e w1 ⟨p, c, rfl, hs⟩
  have p0 := (hs.get (i := 0) rfl).elim fun _ ho => bin_there ho
  unfold binH at p0
  have hM : Calls Tryz.prog 8 #[ptrV c] w1 fun e w' => e = .returned (.int .i64 1) ∧ Stage (fun _ => False) w [Ob.binom p c (thI 0) 0] w' := hs.call 0 rfl (fun _ ho => bin_cells ho (W' := makeW (newW 13)) (made_cells _) fun _ ho => make_cl ho)
  go_wp2_with fail
  refine hM.mono ?_
  rintro e w2 ⟨rfl, hs2⟩
  clear hM hs p0
  go_wp2_with fail
  go_loopw [3] (fun i wr => ∃ (k : Nat) (s : Int), i = .int .i64 k ∧ k ≤ 13 ∧ (2 ≤ k → 0 < s) ∧ 0 ≤ s ∧ Stage (fun _ => False) w [Ob.binom p c (thI k) s] wr) (fun i _ => 13 - (intOf i).toNat)
  case atStart => exact ⟨0, 0, rfl, by omega, by omega, Int.le_refl _, hs2⟩
  case round =>
    clear hs2
    obtain ⟨k, s, rfl, hk, hpos, h0, hs⟩ := hrel
    by_cases hlt : k < 13
    · have hki : (k : Int) < 13 := by omega
      have hI := balive_ins hlt hpos h0 hs
      clear hs hpos h0
      go_wp2_with fail
      refine hI.mono ?_
      rintro e w4 ⟨rfl, s', ⟨hpos', h0'⟩, hs4⟩
      clear hI
      go_wp2_with fail
      go_roundw
      case rel => exact ⟨k + 1, s', by go_num, by omega, hpos', h0', hs4⟩
      case measure => simp [intOf]; omega
    · obtain rfl : k = 13 := by omega
      have hp := hpos (by omega)
      clear hpos hlt hk h0
      have hD := Stage.bdegs (q := []) 1 ⟨by omega, by omega⟩ hs
      have e13 : lenW (thI 13) 1 = 13 := rfl
      rw [e13, dig_13] at hD
      clear hs e13
      go_wp2_with fail
      refine hD.mono ?_
      rintro e w5 ⟨v, rfl, hs5⟩
      clear hD
      obtain ⟨a, cv, rfl, hc1, hc2⟩ := hs5.intsForm 1 rfl
      obtain ⟨w6, hw6, hs6⟩ : ∃ w6, w5.alloc (.cells #[.int .i64 0, .int .i64 2, .int .i64 3] 3) = w6 ∧ Stage (fun _ => False) w [Ob.binom p c (thI 13) s, Ob.ints (.slice a 3 cv) [0, 2, 3], Ob.ints (.slice (some ⟨w5.heap.size, 0, none⟩) 3 3) [0, 2, 3]] w6 := ⟨_, rfl, hs5.newRow' 3 1 3 #[.int .i64 0, .int .i64 2, .int .i64 3] rfl (by decide) rfl⟩
      have hS := same_at [0, 2, 3] [0, 2, 3] a (some ⟨w5.heap.size, 0, none⟩) cv 3 ⟨hc1, hc2⟩ (by decide) (hs6.intsAtI 1 rfl) (hs6.intsAtI 2 rfl)
      rw [decide_eq_true rfl] at hS
      replace hS : Calls Tryz.prog 10 #[.slice a 3 cv, .slice (some ⟨w5.heap.size, 0, none⟩) 3 3] w6 fun e w' => e = .returned (.bool true) ∧ Below w6.heap.size w6 w' := hS
      clear hs5
      go_wp2_with fail
      try rw [hw6]
      clear hw6
      generalize w5.heap.size = o5 at *
      refine hS.mono ?_
      rintro e w7 ⟨rfl, hb⟩
      have hs7 := hs6.later hb
      clear hS hb hs6
      have p0 := (hs7.get (i := 0) rfl).elim fun _ ho => bin_there ho
      unfold binH at p0
      have hSt : Calls Tryz.prog 12 #[ptrV c] w7 fun e w' => e = .returned (.int .i64 s) ∧ Stage (fun _ => False) w [Ob.binom p c (thI 13) s, Ob.ints (.slice a 3 cv) [0, 2, 3], Ob.ints (.slice (some ⟨o5, 0, none⟩) 3 3) [0, 2, 3]] w' := hs7.askB 0 rfl (fun _ ho => (bin_nests p c).steps (g := s) ho)
      clear hs7
      go_wp2_with fail
      refine hSt.mono ?_
      rintro e w8 ⟨rfl, hs8⟩
      go_wp2_with fail
      go_ret
      exact ⟨rfl, hs8.below⟩
end Go.Proofs.YtmoolbmbdnkooaaGreat
