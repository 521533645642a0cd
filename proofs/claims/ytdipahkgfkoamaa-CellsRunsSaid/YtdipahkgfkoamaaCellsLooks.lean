/- 'looks', of whatever tells where slots are, beside the document's nest. -/
import Derived.Test.YtdipahkgfkoamaaCellsJoins
import Derived.Test.YtdipahkgfkoamaaNestRef8
import Derived.Test.YtdipahkgfkoamaaStageFrame
namespace Go.Proofs.Ytdipahkgfkoamaa
open Go.RowKit Go.Sort

/-- The thing O at p tells where the slots of W are, by these functions. -/
structure Tells (O : Ob) (p : Nat) (W : WS) (fE fH fB fL : FuncId) : Prop where
  fit : W.Fit
  entry : ∀ (x : Int) (w : World) (F : Nat → Prop), O.holds w F → Calls Try.prog fE #[.pointer (some ⟨p, 0, none⟩), .int .i64 x] w fun e w' => e = .returned (.tuple #[.agg #[.int .i64 (cellW W x).key, .int .u64 (cellW W x).seq], .bool (inW W x)]) ∧ Below w.heap.size w w'
  home : ∀ (x : Int) (w : World) (F : Nat → Prop), O.holds w F → Calls Try.prog fH #[.pointer (some ⟨p, 0, none⟩), .int .i64 x] w fun e w' => e = .returned (.tuple #[.int .i64 (cellW W x).home, .bool (inW W x)]) ∧ ∃ F', O.holds w' F' ∧ Moved F F' w w'
  has : ∀ (y : Int) (w : World) (F : Nat → Prop), O.holds w F → Calls Try.prog fB #[.pointer (some ⟨p, 0, none⟩), .int .i64 y] w fun e w' => e = .returned (.bool (hasW W y)) ∧ Below w.heap.size w w'
  len : ∀ (y : Int), -9223372036854775808 ≤ y ∧ y ≤ 9223372036854775807 → ∀ (w : World) (F : Nat → Prop), O.holds w F → Calls Try.prog fL #[.pointer (some ⟨p, 0, none⟩), .int .i64 y] w fun e w' => e = .returned (.int .i64 (lenW W y)) ∧ Below w.heap.size w w'
theorem Stage.nestAt {F0 : Nat → Prop} {W0 w : World} {l : List Ob} (h : Stage F0 W0 l w) (i : Nat) {hv cv : Value} {W : WS} (hi : l[i]? = some (Ob.nest hv cv W)) : NestAt w hv cv W := by
  obtain ⟨F, h, _⟩ := h.get hi; exact h
/-- By the name n a value of type T at p is called by f. -/
structure Meth (T : TypeId) (p : Nat) (n : String) (f : FuncId) : Prop where
  find : ∀ w, (method 203 T (.pointer (some ⟨p, 0, none⟩)) n).run Try.prog w = .ok (f, .pointer (some ⟨p, 0, none⟩)) w
  enter : ∀ args w, (callFunc f args).run Try.prog w = .ok (.enter f args) w
set_option maxHeartbeats 1000000 in
theorem looks_any {O : Ob} {p : Nat} {W : WS} {T : TypeId} {fE fH fB fL : FuncId} (hT : Tells O p W fE fH fB fL)
    (mE : Meth T p "Entry" fE) (mH : Meth T p "Home" fH) (mB : Meth T p "Has" fB) (mL : Meth T p "Len" fL)
    {hv cv : Value} (k y x q r : Int) (hy : -9223372036854775808 ≤ y ∧ y ≤ 9223372036854775807) {F : Nat → Prop} {w : World} (hs : Stage F w [O, Ob.nest hv cv W] w) :
    Calls Try.prog 26 #[.iface T (.pointer (some ⟨p, 0, none⟩)), .agg #[hv, cv], .agg #[.int .i64 k, .int .i64 y, .int .i64 x, .int .i64 q, .int .u64 r]] w fun e w' => e = .returned (.bool true) ∧ Stage F w [O, Ob.nest hv cv W] w' := by
  have hN := hs.nestAt 1 rfl
  obtain ⟨a9, c9, hhv, _, _⟩ := hN.hform
  generalize hn9 : W.heaps.length = n9 at hhv
  subst hhv
  obtain ⟨a8, c8, hcv, b81, b82⟩ := hN.cform
  have hl8 := hN.clen
  generalize hn8 : W.cells.length = n8 at hcv b81 hl8
  subst hcv
  obtain ⟨V, hV, hs1⟩ : ∃ V, (w.alloc (.cells #[.slice a9 n9 c9, .slice a8 n8 c8] 45)).alloc (.cells #[.int .i64 k, .int .i64 y, .int .i64 x, .int .i64 q, .int .u64 r] 48) = V ∧
      Stage F w [O, Ob.nest (.slice a9 n9 c9) (.slice a8 n8 c8) W, Ob.box w.heap.size #[.slice a9 n9 c9, .slice a8 n8 c8] 45, Ob.box (w.heap.size + 1) #[.int .i64 k, .int .i64 y, .int .i64 x, .int .i64 q, .int .u64 r] 48] V :=
    ⟨_, rfl, (hs.alloc _ _).alloc' _ _ (size_alloc _ _)⟩
  have a2 := hs1.cell 3 rfl (o := 2) rfl
  have hE := hs1.askB 0 rfl (fun F' ho => hT.entry x V F' ho)
  have m1 := mE.find
  have m2 := mE.enter
  clear hN
  go_enter Try.func26, Try.ntmps26
  go_wp2_with fail
  clear hV m1 m2
  refine hE.mono ?_
  rintro e w1 ⟨rfl, hs2⟩
  clear hE a2 hs1
  have hs3 := hs2.alloc #[.int .i64 (cellW W x).key, .int .u64 (cellW W x).seq] 40
  obtain ⟨V1, hV1, hs3⟩ : ∃ V1, w1.alloc (.cells #[.int .i64 (cellW W x).key, .int .u64 (cellW W x).seq] 40) = V1 ∧ Stage F w _ V1 := ⟨_, rfl, hs3⟩
  have a2 := hs3.cell 3 rfl (o := 2) rfl
  have hH := hs3.call 0 rfl (fun F' ho => hT.home x V1 F' ho)
  have m1 := mH.find
  have m2 := mH.enter
  go_wp2_with fail
  clear hV1 m1 m2 hs2
  refine hH.mono ?_
  rintro e w2 ⟨rfl, hs4⟩
  clear hH a2 hs3
  generalize w1.heap.size = b4 at *
  have a2 := hs4.cell 3 rfl (o := 2) rfl
  have n0 := hs4.cell 2 rfl (o := 0) rfl
  have n1 := hs4.cell 2 rfl (o := 1) rfl
  have hI := refin_any x (hs4.nestAt 1 rfl)
  go_wp2_with fail
  clear a2 n0 n1
  refine hI.mono ?_
  rintro e w3 ⟨rfl, hb⟩
  have hs5 := hs4.later hb
  clear hI hb hs4
  have a1 := cell_regrown (hs5.cell 3 rfl (o := 1) rfl)
  have n0 := cell_regrown (hs5.cell 2 rfl (o := 0) rfl)
  have n1 := cell_regrown (hs5.cell 2 rfl (o := 1) rfl)
  have cA : ∀ d' os, Calls Try.prog fB #[.pointer (some ⟨p, 0, none⟩), .int .i64 y] (grow (redrawn w3 d') os) fun e w'' => e = .returned (.bool (hasW W y)) ∧ ∃ p : Regrown, w'' = grow (redrawn w3 p.d) p.os := fun d' os => Calls.regrown_of (by obtain ⟨F', ho⟩ := (hs5.later (below_regrown w3 d' os)).get (i := 0) rfl; exact hT.has y _ F' ho)
  have cB : ∀ d' os, Calls Try.prog fL #[.pointer (some ⟨p, 0, none⟩), .int .i64 y] (grow (redrawn w3 d') os) fun e w'' => e = .returned (.int .i64 (lenW W y)) ∧ ∃ p : Regrown, w'' = grow (redrawn w3 p.d) p.os := fun d' os => Calls.regrown_of (by obtain ⟨F', ho⟩ := (hs5.later (below_regrown w3 d' os)).get (i := 0) rfl; exact hT.len y hy _ F' ho)
  have cC : ∀ d' os, Calls Try.prog 36 #[.agg #[.slice a9 n9 c9, .slice a8 n8 c8], .int .i64 y] (grow (redrawn w3 d') os) fun e w'' => e = .returned (.bool (hasW W y)) ∧ ∃ p : Regrown, w'' = grow (redrawn w3 p.d) p.os := fun d' os => Calls.regrown_of (refhas_any y ((hs5.nestAt 1 rfl).later (below_regrown w3 d' os)))
  have cD : ∀ d' os, Calls Try.prog 42 #[.agg #[.slice a9 n9 c9, .slice a8 n8 c8], .int .i64 y] (grow (redrawn w3 d') os) fun e w'' => e = .returned (.int .i64 (lenW W y)) ∧ ∃ p : Regrown, w'' = grow (redrawn w3 p.d) p.os := fun d' os => Calls.regrown_of (reflen_any y ((hs5.nestAt 1 rfl).later (below_regrown w3 d' os)))
  have m1 := mB.find
  have m2 := mB.enter
  have m3 := mL.find
  have m4 := mL.enter
  go_wp2_with fail
  refine wp_region_quiet_below (by kernel_rfl) (by kernel_rfl) ?_
  repeat (first | go_big_quiet_step (first | with_reducible exact cA _ _ | with_reducible exact cB _ _ | with_reducible exact cC _ _ | with_reducible exact cD _ _) | quiet_step (fail))
  refine wpQuiet_nil ?_
  intro W3 hw
  replace hw := below_regrown' hw
  have hs6 := hs5.later hw
  clear cA cB cC cD m1 m2 m3 m4 a1 n0 n1 hs5 hw
  have e0 := hs6.cell 4 rfl (o := 0) rfl
  have e1 := hs6.cell 4 rfl (o := 1) rfl
  have a2 := hs6.cell 3 rfl (o := 2) rfl
  have n1 := hs6.cell 2 rfl (o := 1) rfl
  cases hin : inW W x
  · have ho := hT.fit.cellOff hin
    rw [ho]
    replace e0 : W3.cell? ⟨b4, 0, none⟩ = some (.int .i64 0) := by rw [ho] at e0; exact e0
    replace e1 : W3.cell? ⟨b4, 1, none⟩ = some (.int .u64 0) := by rw [ho] at e1; exact e1
    have h0 : (CellD.off.home : Int) = 0 := rfl
    clear ho
    go_wp2_with fail
    go_ret
    exact ⟨rfl, hs6.take 2⟩
  · obtain ⟨i, rfl, hi, _⟩ := in_nat hin
    have hc := cell_nat W i hi
    rw [hc] at e0 e1
    rw [hc]
    obtain ⟨g, c8', hcc, hg, u0, u1, u2⟩ := (hs6.nestAt 1 rfl).ccell i hi
    rw [hn8] at hcc
    cases hcc
    generalize W.cells.getD i .off = c at *
    have hi8 : i < n8 := by omega
    clear hc
    go_wp2_with fail
    go_quiet (fail)
    go_wp2_with fail
    go_ret
    exact ⟨rfl, (hs6.drewN _).take 2⟩

/-! ### the program's cells tell so -/
theorem tells_cells {p : Nat} {W : WS} (s : Int) (hW : W.Fit) : Tells (Ob.cells p W s) p W 28 27 9 10 where
  fit := hW
  entry x _ _ ho := entry_cl x ho
  home x _ _ ho := home_cl x ho
  has y _ _ ho := (has_cl y ho).mono fun _ _ ⟨h1, h2⟩ => ⟨h1, by subst h2; exact Below.refl _ _⟩
  len y hy _ _ ho := (len_cl y hy ho).mono fun _ _ ⟨h1, h2⟩ => ⟨h1, by subst h2; exact Below.refl _ _⟩
theorem meth_entry (p : Nat) : Meth 23 p "Entry" 28 := ⟨fun _ => by kernel_rfl, fun _ _ => by kernel_rfl⟩
theorem meth_home (p : Nat) : Meth 23 p "Home" 27 := ⟨fun _ => by kernel_rfl, fun _ _ => by kernel_rfl⟩
theorem meth_has (p : Nat) : Meth 23 p "Has" 9 := ⟨fun _ => by kernel_rfl, fun _ _ => by kernel_rfl⟩
theorem meth_len (p : Nat) : Meth 23 p "Len" 10 := ⟨fun _ => by kernel_rfl, fun _ _ => by kernel_rfl⟩
end Go.Proofs.Ytdipahkgfkoamaa
