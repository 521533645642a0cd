/- Merged of CellsLooks, NestCalls. -/
import Derived.Test.YtdfjgmellkmamaaStageAppend
import Derived.Test.YtdfjgmellkmamaaNestRef8
import Derived.Test.YtdfjgmellkmamaaStageFrame
import Derived.Test.YtdfjgmellkmamaaNestOrder
import Derived.Test.YtdfjgmellkmamaaNestSortMath
namespace Go.Proofs.Ytdfjgmellkmamaa
open Go.RowKit Go.Sort

/-- A function that a call by a name enters, and the receiver that it is handed. -/
structure Fn where
  id : FuncId
  rv : Value
/-- The thing O tells where the slots of W are, by these functions. -/
structure Tells (O : Ob) (H : World → Prop) (W : WS) (fE fH fB fL : Fn) : Prop where
  fit : W.Fit
  there : ∀ {w : World} {F : Nat → Prop}, O.holds w F → H w
  entry : ∀ (x : Int) (w : World) (F : Nat → Prop), O.holds w F → Calls Try.prog fE.id #[fE.rv, .int .i64 x] w fun e w' => e = .returned (.tuple #[.agg #[.int .i64 (cellW W x).key, .int .u64 (cellW W x).seq], .bool (inW W x)]) ∧ Below w.heap.size w w'
  home : ∀ (x : Int) (w : World) (F : Nat → Prop), O.holds w F → Calls Try.prog fH.id #[fH.rv, .int .i64 x] w fun e w' => e = .returned (.tuple #[.int .i64 (cellW W x).home, .bool (inW W x)]) ∧ ∃ F', O.holds w' F' ∧ Moved F F' w w'
  has : ∀ (y : Int) (w : World) (F : Nat → Prop), O.holds w F → Calls Try.prog fB.id #[fB.rv, .int .i64 y] w fun e w' => e = .returned (.bool (hasW W y)) ∧ Below w.heap.size w w'
  len : ∀ (y : Int), -9223372036854775808 ≤ y ∧ y ≤ 9223372036854775807 → ∀ (w : World) (F : Nat → Prop), O.holds w F → Calls Try.prog fL.id #[fL.rv, .int .i64 y] w fun e w' => e = .returned (.int .i64 (lenW W y)) ∧ Below w.heap.size w w'
theorem Stage.nestAt {F0 : Nat → Prop} {W0 w : World} {l : List Ob} (h : Stage F0 W0 l w) (i : Nat) {hv cv : Value} {W : WS} (hi : l[i]? = some (Ob.nest hv cv W)) : NestAt w hv cv W := by
  obtain ⟨F, h, _⟩ := h.get hi; exact h
/-- By the name n the value v of type T is called by f, in each world in which H holds. -/
structure Meth (H : World → Prop) (T : TypeId) (v : Value) (n : String) (f : Fn) : Prop where
  find : ∀ w, H w → (method 251 T v n).run Try.prog w = .ok (f.id, f.rv) w
  enter : ∀ args w, (callFunc f.id args).run Try.prog w = .ok (.enter f.id args) w
set_option maxHeartbeats 1000000 in
set_option maxRecDepth 100000 in
theorem looks_any {O : Ob} {H : World → Prop} {v : Value} {W : WS} {T : TypeId} {fE fH fB fL : Fn} (hT : Tells O H W fE fH fB fL)
    (mE : Meth H T v "Entry" fE) (mH : Meth H T v "Home" fH) (mB : Meth H T v "Has" fB) (mL : Meth H T v "Len" fL)
    {hv cv : Value} (k y x q r : Int) (hy : -9223372036854775808 ≤ y ∧ y ≤ 9223372036854775807) {F : Nat → Prop} {w : World} (hs : Stage F w [O, Ob.nest hv cv W] w) :
    Calls Try.prog 39 #[.iface T v, .agg #[hv, cv], .agg #[.int .i64 k, .int .i64 y, .int .i64 x, .int .i64 q, .int .u64 r]] w fun e w' => e = .returned (.bool true) ∧ Stage F w [O, Ob.nest hv cv W] w' := by
  have hN := hs.nestAt 1 rfl
  obtain ⟨a9, c9, hhv, _, _⟩ := hN.hform
  generalize hn9 : W.heaps.length = n9 at hhv
  subst hhv
  obtain ⟨a8, c8, hcv, b81, b82⟩ := hN.cform
  have hl8 := hN.clen
  generalize hn8 : W.cells.length = n8 at hcv b81 hl8
  subst hcv
  obtain ⟨V, hV, hs1⟩ : ∃ V, (w.alloc (.cells #[.slice a9 n9 c9, .slice a8 n8 c8] 83)).alloc (.cells #[.int .i64 k, .int .i64 y, .int .i64 x, .int .i64 q, .int .u64 r] 86) = V ∧
      Stage F w [O, Ob.nest (.slice a9 n9 c9) (.slice a8 n8 c8) W, Ob.box w.heap.size #[.slice a9 n9 c9, .slice a8 n8 c8] 83, Ob.box (w.heap.size + 1) #[.int .i64 k, .int .i64 y, .int .i64 x, .int .i64 q, .int .u64 r] 86] V :=
    ⟨_, rfl, (hs.alloc _ _).alloc' _ _ (size_alloc _ _)⟩
  have a2 := hs1.cell 3 rfl (o := 2) rfl
  have hE := hs1.askB 0 rfl (fun F' ho => hT.entry x V F' ho)
  have hH := (hs1.get (i := 0) rfl).elim fun _ h => hT.there h
  have m1 := mE.find _ hH
  have m2 := mE.enter
  clear hN
  go_enter Try.func39, Try.ntmps39
  go_wp2_with fail
  clear hV m1 m2 hH
  refine hE.mono ?_
  rintro e w1 ⟨rfl, hs2⟩
  clear hE a2 hs1
  have hs3 := hs2.alloc #[.int .i64 (cellW W x).key, .int .u64 (cellW W x).seq] 59
  obtain ⟨V1, hV1, hs3⟩ : ∃ V1, w1.alloc (.cells #[.int .i64 (cellW W x).key, .int .u64 (cellW W x).seq] 59) = V1 ∧ Stage F w _ V1 := ⟨_, rfl, hs3⟩
  have a2 := hs3.cell 3 rfl (o := 2) rfl
  have hH := hs3.call 0 rfl (fun F' ho => hT.home x V1 F' ho)
  have hH := (hs3.get (i := 0) rfl).elim fun _ h => hT.there h
  have m1 := mH.find _ hH
  have m2 := mH.enter
  go_wp2_with fail
  clear hV1 m1 m2 hs2 hH
  refine hH.mono ?_
  rintro e w2 ⟨rfl, hs4⟩
  clear hH a2 hs3
  generalize w1.heap.size = b4 at *
  have a2 := hs4.cell 3 rfl (o := 2) rfl
  have n0 := hs4.cell 2 rfl (o := 0) rfl
  have n1 := hs4.cell 2 rfl (o := 1) rfl
  have hI := refin_any x (hs4.nestAt 1 rfl)
  go_wp2_with fail
  clear a2 n0 n1
  refine hI.mono ?_
  rintro e w3 ⟨rfl, hb⟩
  have hs5 := hs4.later hb
  clear hI hb hs4
  have a1 := cell_regrown (hs5.cell 3 rfl (o := 1) rfl)
  have n0 := cell_regrown (hs5.cell 2 rfl (o := 0) rfl)
  have n1 := cell_regrown (hs5.cell 2 rfl (o := 1) rfl)
  have cA : ∀ d' os, Calls Try.prog fB.id #[fB.rv, .int .i64 y] (grow (redrawn w3 d') os) fun e w'' => e = .returned (.bool (hasW W y)) ∧ ∃ p : Regrown, w'' = grow (redrawn w3 p.d) p.os := fun d' os => Calls.regrown_of (by obtain ⟨F', ho⟩ := (hs5.later (below_regrown w3 d' os)).get (i := 0) rfl; exact hT.has y _ F' ho)
  have cB : ∀ d' os, Calls Try.prog fL.id #[fL.rv, .int .i64 y] (grow (redrawn w3 d') os) fun e w'' => e = .returned (.int .i64 (lenW W y)) ∧ ∃ p : Regrown, w'' = grow (redrawn w3 p.d) p.os := fun d' os => Calls.regrown_of (by obtain ⟨F', ho⟩ := (hs5.later (below_regrown w3 d' os)).get (i := 0) rfl; exact hT.len y hy _ F' ho)
  have cC : ∀ d' os, Calls Try.prog 62 #[.agg #[.slice a9 n9 c9, .slice a8 n8 c8], .int .i64 y] (grow (redrawn w3 d') os) fun e w'' => e = .returned (.bool (hasW W y)) ∧ ∃ p : Regrown, w'' = grow (redrawn w3 p.d) p.os := fun d' os => Calls.regrown_of (refhas_any y ((hs5.nestAt 1 rfl).later (below_regrown w3 d' os)))
  have cD : ∀ d' os, Calls Try.prog 63 #[.agg #[.slice a9 n9 c9, .slice a8 n8 c8], .int .i64 y] (grow (redrawn w3 d') os) fun e w'' => e = .returned (.int .i64 (lenW W y)) ∧ ∃ p : Regrown, w'' = grow (redrawn w3 p.d) p.os := fun d' os => Calls.regrown_of (reflen_any y ((hs5.nestAt 1 rfl).later (below_regrown w3 d' os)))
  have hH : ∀ d' os, H (grow (redrawn w3 d') os) := fun d' os => ((hs5.later (below_regrown w3 d' os)).get (i := 0) rfl).elim fun _ h => hT.there h
  have m1 := fun d' os => mB.find _ (hH d' os)
  have m2 := mB.enter
  have m3 := fun d' os => mL.find _ (hH d' os)
  have m4 := mL.enter
  go_wp2_with fail
  refine wp_region_quiet_below (by kernel_rfl) (by kernel_rfl) ?_
  repeat (first | go_big_quiet_step (first | with_reducible exact cA _ _ | with_reducible exact cB _ _ | with_reducible exact cC _ _ | with_reducible exact cD _ _) | quiet_step (fail))
  refine wpQuiet_nil ?_
  intro W3 hw
  replace hw := below_regrown' hw
  have hs6 := hs5.later hw
  clear hH cA cB cC cD m1 m2 m3 m4 a1 n0 n1 hs5 hw
  have e0 := hs6.cell 4 rfl (o := 0) rfl
  have e1 := hs6.cell 4 rfl (o := 1) rfl
  have a2 := hs6.cell 3 rfl (o := 2) rfl
  have n1 := hs6.cell 2 rfl (o := 1) rfl
  cases hin : inW W x
  · have ho := hT.fit.cellOff hin
    rw [ho]
    replace e0 : W3.cell? ⟨b4, 0, none⟩ = some (.int .i64 0) := by rw [ho] at e0; exact e0
    replace e1 : W3.cell? ⟨b4, 1, none⟩ = some (.int .u64 0) := by rw [ho] at e1; exact e1
    have h0 : (CellD.off.home : Int) = 0 := rfl
    clear ho
    go_wp2_with fail
    go_ret
    exact ⟨rfl, hs6.take 2⟩
  · obtain ⟨i, rfl, hi, _⟩ := in_nat hin
    have hc := cell_nat W i hi
    rw [hc] at e0 e1
    rw [hc]
    obtain ⟨g, c8', hcc, hg, u0, u1, u2⟩ := (hs6.nestAt 1 rfl).ccell i hi
    rw [hn8] at hcc
    cases hcc
    generalize W.cells.getD i .off = c at *
    have hi8 : i < n8 := by omega
    clear hc
    go_wp2_with fail
    go_quiet (fail)
    go_wp2_with fail
    go_ret
    exact ⟨rfl, (hs6.drewN _).take 2⟩

end Go.Proofs.Ytdfjgmellkmamaa

namespace Go.Proofs.Ytdfjgmellkmamaa
open Go.RowKit Go.Sort

namespace Stage
variable {F0 : Nat → Prop} {W w w' : World} {l : List Ob} {P : Program} {f : FuncId} {args : Array Value} {O : Ob} {v : Value}
/-- A call on one thing, which it turns into one of some things. -/
theorem callEx {α : Type} {Q : α → Prop} {O' : α → Ob} (h : Stage F0 W l w) (i : Nat) (hi : l[i]? = some O) (hc : ∀ F, O.holds w F → Calls P f args w fun e w' => e = .returned v ∧ ∃ a, Q a ∧ ∃ F', (O' a).holds w' F' ∧ Moved F F' w w') :
    Calls P f args w fun e w' => e = .returned v ∧ ∃ a, Q a ∧ Stage F0 W (l.set i (O' a)) w' := by
  obtain ⟨hbl, F, h1, h2, h3⟩ := h
  exact (hc (F i) (h1 i O hi)).mono fun e w' ⟨he, a, hq, F', ho, m⟩ => ⟨he, a, hq, swap hbl h1 h2 h3 (Scene.idx hi) ho m⟩
/-- The document's nest becomes another one. -/
theorem nestCall {hv cv : Value} {W0 W' : WS} {res : Value → Value} (h : Stage F0 W l w) (i : Nat) (hi : l[i]? = some (Ob.nest hv cv W0)) (hc : Calls Try.prog f args w (NestPost w hv cv W' res)) :
    Calls Try.prog f args w fun e w' => ∃ a n c a' n' c', e = .returned (res (.agg #[.slice a n c, .slice a' n' c'])) ∧ Stage F0 W (l.set i (Ob.nest (.slice a n c) (.slice a' n' c') W')) w' :=
  hc.mono fun e w' ⟨hv', cv', he, hb, hN, hF⟩ => by
    obtain ⟨a, c, rfl, _, _⟩ := hN.hform
    obtain ⟨a', c', rfl, _, _⟩ := hN.cform
    refine ⟨_, _, _, _, _, _, he, h.moved hi fun F ⟨_, hF0⟩ => ⟨nestF _ _, ⟨hN, rfl⟩, ⟨Keeps.of_below_all hb F, ?_⟩⟩⟩
    subst hF0
    exact hF
theorem nestForms {hv cv : Value} {W0 : WS} (h : Stage F0 W l w) (i : Nat) (hi : l[i]? = some (Ob.nest hv cv W0)) : ∃ a n c a' n' c', hv = .slice a n c ∧ cv = .slice a' n' c' := by
  obtain ⟨a, c, h1, _, _⟩ := (h.nestAt i hi).hform
  obtain ⟨a', c', h2, _, _⟩ := (h.nestAt i hi).cform
  exact ⟨_, _, _, _, _, _, h1, h2⟩
end Stage

/-- The functions that a nest's calls enter. -/
structure NestFns where
  cap : Fn
  make : Fn
  ins : Fn
  min : Fn
  ext : Fn
  dec : Fn
  del : Fn
  meld : Fn
  steps : Fn
  entry : Fn
  home : Fn
  has : Fn
  len : Fn
def inInt (y : Int) : Prop := -9223372036854775808 ≤ y ∧ y ≤ 9223372036854775807
abbrev ptrV (p : Nat) : Value := .pointer (some ⟨p, 0, none⟩)
/-- What holds of a nest's calls: O W g is the nest v that says what the document's W says; R: how a call turns g. -/
structure Nests {γ : Type} (O : WS → γ → Ob) (st : γ → Int) (R : WS → Int → Int → Int → γ → γ → Prop) (H : World → Prop) (T : TypeId) (v : Value) (f : NestFns) : Prop where
  there : ∀ {W g w F}, (O W g).holds w F → H w
  fit : ∀ {W g w F}, (O W g).holds w F → W.Fit
  still : ∀ W k y x g, ¬ (0 ≤ k ∧ k ≤ 6) → R W k y x g g
  entry : ∀ {W g w F} (x : Int), (O W g).holds w F → Calls Try.prog f.entry.id #[f.entry.rv, .int .i64 x] w fun e w' => e = .returned (.tuple #[.agg #[.int .i64 (cellW W x).key, .int .u64 (cellW W x).seq], .bool (inW W x)]) ∧ Below w.heap.size w w'
  home : ∀ {W g w F} (x : Int), (O W g).holds w F → Calls Try.prog f.home.id #[f.home.rv, .int .i64 x] w fun e w' => e = .returned (.tuple #[.int .i64 (cellW W x).home, .bool (inW W x)]) ∧ ∃ F', (O W g).holds w' F' ∧ Moved F F' w w'
  has : ∀ {W g w F} (y : Int), (O W g).holds w F → Calls Try.prog f.has.id #[f.has.rv, .int .i64 y] w fun e w' => e = .returned (.bool (hasW W y)) ∧ Below w.heap.size w w'
  len : ∀ {W g w F} (y : Int), inInt y → (O W g).holds w F → Calls Try.prog f.len.id #[f.len.rv, .int .i64 y] w fun e w' => e = .returned (.int .i64 (lenW W y)) ∧ Below w.heap.size w w'
  cap : ∀ {W g w F}, (O W g).holds w F → Calls Try.prog f.cap.id #[f.cap.rv] w fun e w' => e = .returned (.int .i64 W.cells.length) ∧ Below w.heap.size w w'
  steps : ∀ {W g w F}, (O W g).holds w F → Calls Try.prog f.steps.id #[f.steps.rv] w fun e w' => e = .returned (.int .i64 (st g)) ∧ Below w.heap.size w w'
  make : ∀ {W g w F}, (O W g).holds w F → Calls Try.prog f.make.id #[f.make.rv] w fun e w' => e = .returned (.int .i64 (madeW W)) ∧ ∃ g', (∀ y x, R W 0 y x g g') ∧ ∃ F', (O (makeW W) g').holds w' F' ∧ Moved F F' w w'
  ins : ∀ {W g w F} (y x k q : Int), inInt y → inInt x → (O W g).holds w F → Calls Try.prog f.ins.id #[f.ins.rv, .int .i64 y, .int .i64 x, .agg #[.int .i64 k, .int .u64 q]] w fun e w' => e = .returned (.bool (putB W y x)) ∧ ∃ g', R W 1 y x g g' ∧ ∃ F', (O (putW W y x k q) g').holds w' F' ∧ Moved F F' w w'
  min : ∀ {W g w F} (y : Int), inInt y → (O W g).holds w F → Calls Try.prog f.min.id #[f.min.rv, .int .i64 y] w fun e w' => e = .returned (.tuple #[.int .i64 (minI W y), .bool (minB W y)]) ∧ ∃ g', (∀ x, R W 2 y x g g') ∧ ∃ F', (O W g').holds w' F' ∧ Moved F F' w w'
  ext : ∀ {W g w F} (y : Int), inInt y → (O W g).holds w F → Calls Try.prog f.ext.id #[f.ext.rv, .int .i64 y] w fun e w' => e = .returned (.tuple #[.int .i64 (minI W y), .bool (minB W y)]) ∧ ∃ g', (∀ x, R W 3 y x g g') ∧ ∃ F', (O (exW W y) g').holds w' F' ∧ Moved F F' w w'
  dec : ∀ {W g w F} (x k q : Int), inInt x → (O W g).holds w F → Calls Try.prog f.dec.id #[f.dec.rv, .int .i64 x, .agg #[.int .i64 k, .int .u64 q]] w fun e w' => e = .returned (.bool (lowerB W x k q)) ∧ ∃ g', (∀ y, R W 4 y x g g') ∧ ∃ F', (O (lowerW W x k q) g').holds w' F' ∧ Moved F F' w w'
  del : ∀ {W g w F} (x : Int), inInt x → (O W g).holds w F → Calls Try.prog f.del.id #[f.del.rv, .int .i64 x] w fun e w' => e = .returned (.bool (inW W x)) ∧ ∃ g', (∀ y, R W 5 y x g g') ∧ ∃ F', (O (dropW W x) g').holds w' F' ∧ Moved F F' w w'
  meld : ∀ {W g w F} (a b : Int), inInt a → inInt b → (O W g).holds w F → Calls Try.prog f.meld.id #[f.meld.rv, .int .i64 a, .int .i64 b] w fun e w' => e = .returned (.bool (joinBW W a b)) ∧ ∃ g', R W 6 a b g g' ∧ ∃ F', (O (joinW W a b) g').holds w' F' ∧ Moved F F' w w'
  mCap : Meth H T v "Capacity" f.cap
  mMake : Meth H T v "Make" f.make
  mIns : Meth H T v "Insert" f.ins
  mMin : Meth H T v "Min" f.min
  mExt : Meth H T v "Extract" f.ext
  mDec : Meth H T v "Decrease" f.dec
  mDel : Meth H T v "Delete" f.del
  mMeld : Meth H T v "Meld" f.meld
  mSteps : Meth H T v "Steps" f.steps
  mEntry : Meth H T v "Entry" f.entry
  mHome : Meth H T v "Home" f.home
  mHas : Meth H T v "Has" f.has
  mLen : Meth H T v "Len" f.len
section
variable {γ : Type} {O : WS → γ → Ob} {st : γ → Int} {R : WS → Int → Int → Int → γ → γ → Prop} {H : World → Prop} {T : TypeId} {v : Value} {f : NestFns}
theorem Nests.tells (N : Nests O st R H T v f) {W : WS} {g : γ} (h : W.Fit) : Tells (O W g) H W f.entry f.home f.has f.len where
  fit := h
  there h := N.there h
  entry x _ _ ho := N.entry x ho
  home x _ _ ho := N.home x ho
  has y _ _ ho := N.has y ho
  len y hy _ _ ho := N.len y hy ho
/-- What an act turns the document's nest into. -/
def doW (W : WS) (k y x q r : Int) : WS := if k = 0 then makeW W else if k = 1 then putW W y x q r else if k = 3 then exW W y else if k = 4 then lowerW W x q r else if k = 5 then dropW W x else if k = 6 then joinW W y x else W
end
end Go.Proofs.Ytdfjgmellkmamaa
