/- Merged of NestOrder, NestCalls, FiNest. -/
import Derived.Test.YtcjjglaimfhofaaNestMin
import Derived.Test.YtcjjglaimfhofaaNestSortMath
import Derived.Test.YtcjjglaimfhofaaFiRemove
import Derived.Test.YtcjjglaimfhofaaTMap
namespace Go.Proofs.Ytcjjglaimfhofaa
open Go.RowKit Go.Sort

def natC (x : Nat) : List Value := [.int .i64 x]
theorem natC_len (x : Nat) : (natC x).length = 1 := rfl
theorem nats_one (l : List Nat) : ∀ u ∈ cellsBy natC l, u.oneCell' = true := by
  intro u hu
  unfold cellsBy at hu
  rw [List.mem_flatMap] at hu
  obtain ⟨p, _, hp⟩ := hu
  simp only [natC, List.mem_cons, List.not_mem_nil, or_false] at hp
  subst hp; rfl
theorem info_order : (Try.prog.info? 3).map (fun i => (i.zero, i.size, i.bytes)) = some (some (.int .i64 0), 1, 8) := by kernel_rfl
def lenOf : Value → Nat | .slice _ n _ => n | _ => 0
/-- The order that is told: a row of its own. -/
def OrderPost (w : World) (l : List Nat) (e : Ending) (w' : World) : Prop := ∃ a c, e = .returned (.slice a l.length c) ∧ Stage (fun _ => False) w [Ob.row 0 3 1 (.slice a l.length c) l.length (cellsBy natC l)] w'
theorem order_le (W : WS) (y : Int) : (orderW W y).length ≤ W.cells.length := by rw [order_len]; exact len_le W y
theorem drop_cells (V : WS) (x : Int) : (dropW V x).cells.length = V.cells.length := by
  unfold dropW
  split
  · simp
  · rfl
section
variable {w : World} {hv cv : Value} {W : WS}
set_option maxHeartbeats 1000000 in
theorem reforder_any (y : Int) (h : NestAt w hv cv W) : Calls Try.prog 58 #[.agg #[hv, cv], .int .i64 y] w (OrderPost w (orderW W y)) := by
  obtain ⟨a9, c9, hhv, _, _⟩ := h.hform
  obtain ⟨a8, c8, hcv, b81, b82⟩ := h.cform
  have hcl := h.clen
  have hol := order_le W y
  obtain ⟨L, hL⟩ : ∃ L, L = orderW W y := ⟨_, rfl⟩
  rw [← hL] at hol ⊢
  generalize hn9 : W.heaps.length = n9 at hhv
  subst hhv
  generalize hn8 : W.cells.length = n8 at hcv b81 hcl hol
  subst hcv
  obtain ⟨V, hV, hs⟩ : ∃ V, (w.alloc (.cells #[.slice a9 n9 c9, .slice a8 n8 c8] 59)).alloc (.cells #[] 3) = V ∧ Stage (fun _ => False) w [Ob.box w.heap.size #[.slice a9 n9 c9, .slice a8 n8 c8] 59, Ob.row 0 3 1 (.slice (some ⟨w.heap.size + 1, 0, none⟩) 0 0) 0 (cellsBy natC [])] V :=
    ⟨_, rfl, ((Stage.start w).alloc _ _).emptyRow' _ _ (size_alloc _ _)⟩
  have hap : ∀ k, nestF (.slice a9 n9 c9) (.slice a8 n8 c8) k → k ≠ w.heap.size ∧ ¬ rowF (.slice (some ⟨w.heap.size + 1, 0, none⟩) 0 0) k := fun k hk => by
    have := h.lt k hk
    refine ⟨by omega, fun hr => ?_⟩
    have : w.heap.size + 1 = k := by simpa [rowF, Value.ownBlock] using hr
    omega
  have hN := h.later hs.below
  obtain ⟨i0, hi0, hzz⟩ := Option.map_eq_some_iff.1 info_order
  simp only [Prod.mk.injEq] at hzz
  obtain ⟨hz0, hz1, hz2⟩ := hzz
  go_enter Try.func58, Try.ntmps58
  go_wp2_with fail
  clear hV
  have hbl := hs.size
  generalize w.heap.size = b0 at *
  go_loopw [5] (fun v wr => ∃ (U : WS) (l : List Nat) (ha : Option Addr) (hn hc : Nat) (ca : Option Addr) (cn cc : Nat) (a : Option Addr) (c : Nat), v = .slice a l.length c ∧ U.cells.length = n8 ∧ l ++ orderW U y = L ∧ NestAt wr (.slice ha hn hc) (.slice ca cn cc) U ∧
      (∀ k, nestF (.slice ha hn hc) (.slice ca cn cc) k → k ≠ b0 ∧ ¬ rowF (.slice a l.length c) k) ∧ Stage (fun _ => False) w [Ob.box b0 #[.slice ha hn hc, .slice ca cn cc] 59, Ob.row 0 3 1 (.slice a l.length c) l.length (cellsBy natC l)] wr) (fun v _ => L.length - lenOf v)
  case atStart => exact ⟨W, [], a9, n9, c9, a8, n8, c8, _, 0, rfl, hn8, hL.symm, hN, hap, hs⟩
  case round =>
    clear hs hap hN hL
    obtain ⟨U, l, ha, hn, hc, ca, cn, cc, a, c, rfl, hUl, hU, hN, hap, hs⟩ := hrel
    have k0 := hs.cell 0 rfl (o := 0) rfl
    have k1 := hs.cell 0 rfl (o := 1) rfl
    go_wp2_with fail
    refine (refmin_any y hN).mono ?_
    rintro e w1 ⟨rfl, hb1⟩
    clear k0 k1
    have hs1 := hs.later hb1
    have hN1 := hN.later hb1
    clear hs hN hb1
    cases hm : minW U y with
    | none =>
      obtain ⟨q1, q2⟩ := minI_none hm
      rw [q1, q2]
      have hl : l = L := by rw [order_none hm, List.append_nil] at hU; exact hU
      subst hl
      go_wp2_with fail
      go_ret
      exact ⟨a, c, rfl, hs1.select [1] (by decide) rfl⟩
    | some m =>
      obtain ⟨q1, q2⟩ := minI_some hm
      rw [q1, q2]
      have ho := order_some hm
      rw [ho] at hU
      have hll : l.length < L.length := by rw [← hU]; simp
      have hs2 := hs1.later (below_alloc1 (o := .cells #[.int .i64 m] 3) (Below.refl _ _))
      have hN2 := hN1.later (below_alloc1 (o := .cells #[.int .i64 m] 3) (Below.refl _ _))
      have k0 := hs1.cell 0 rfl (o := 0) rfl
      have k1 := hs1.cell 0 rfl (o := 1) rfl
      go_wp2_with (at_builtin; refine wpList_append_any _ rfl _ _ 112 rfl 0 3 i0 (.int .i64 0) 1 8 Try.underlying112 hi0 hz0 hz1 hz2 rfl (by decide) _ l.length (cellsBy natC l) rfl (hs2.owns 1 rfl) _ 1 [.int .i64 m] rfl (reads_new w1 #[.int .i64 m] _ 1 1 _ rfl rfl) (by intro u hu; simp at hu; subst hu; rfl) (by unfold maxLen; omega) (by omega) (Nat.zero_le _) ?_)
      intro v1 w2 ho1 hg1 hl1
      clear k0 k1
      have hs3 := hs2.grown 1 rfl (m := l.length + 1) (ys := cellsBy natC (l ++ [m])) (by rw [cellsBy_append, cellsBy_one]; exact ho1) hg1 hl1
      have hN3 := hN2.keeps (grown_keeps hg1) (fun b hb => (hap b hb).2)
      have hap3 : ∀ k, nestF (.slice ha hn hc) (.slice ca cn cc) k → k ≠ b0 ∧ ¬ rowF v1 k := fun k hk => ⟨(hap k hk).1, fun hr => by
        rcases hl1 k hr with h1 | h1
        · exact (hap k hk).2 h1
        · have := hN2.lt k hk; have := size_alloc w1 (.cells #[.int .i64 m] 3); omega⟩
      obtain ⟨a1, c1, rfl, _, _⟩ := owns_form (hs3.owns 1 rfl)
      clear ho1 hg1 hl1 hs2 hN2 hs1 hN1 hap
      replace hs3 : Stage (fun _ => False) w [Ob.box b0 #[.slice ha hn hc, .slice ca cn cc] 59, Ob.row 0 3 1 (.slice a1 (l.length + 1) c1) (l.length + 1) (cellsBy natC (l ++ [m]))] w2 := hs3
      have k0 := hs3.cell 0 rfl (o := 0) rfl
      have k1 := hs3.cell 0 rfl (o := 1) rfl
      have hD := refdrop_any m hN3
      go_wp2_with fail
      refine hD.mono ?_
      rintro e w3 ⟨hv', cv', rfl, hb4, hN4, hF4⟩
      obtain ⟨ha', hc', rfl, _, _⟩ := hN4.hform
      obtain ⟨ca', cc', hcv', _, _⟩ := hN4.cform
      have hUd : (dropW U m).cells.length = n8 := by rw [drop_cells]; exact hUl
      rw [hUd] at hcv'
      subst hcv'
      generalize dropW U m = U' at *
      generalize U'.heaps.length = hn' at *
      have hb0 := hs3.lt 0 rfl
      have hs4 := hs3.later hb4
      have hr4 : ∀ k, rowF (.slice a1 (l.length + 1) c1) k → k < w2.heap.size := fun k hk => ((hs3.owns 1 rfl).lt k hk).2
      have hap4 : ∀ k, nestF (.slice ha' hn' hc') (.slice ca' n8 cc') k → k ≠ b0 ∧ ¬ rowF (.slice a1 (l.length + 1) c1) k := fun k hk => by
        rcases hF4 k hk with h1 | h1
        · exact hap3 k h1
        · exact ⟨by omega, fun hr => by have := hr4 k hr; omega⟩
      clear k0 k1 hD hs3 hF4 hap3 hr4 hN3
      have g0 := hs4.free 0 rfl 0
      have g1 := hs4.free 0 rfl 1
      have k0 := hs4.cell 0 rfl (o := 0) rfl
      have k1 := hs4.cell 0 rfl (o := 1) rfl
      have l0 := hs4.lt 0 rfl
      obtain ⟨w4, hw4, hs5, hN5⟩ : ∃ w4, (w3.setCell ⟨b0, 0, none⟩ (.slice ha' hn' hc')).setCell ⟨b0, 1, none⟩ (.slice ca' n8 cc') = w4 ∧ Stage (fun _ => False) w [Ob.box b0 #[.slice ha' hn' hc', .slice ca' n8 cc'] 59, Ob.row 0 3 1 (.slice a1 (l.length + 1) c1) (l.length + 1) (cellsBy natC (l ++ [m]))] w4 ∧ NestAt w4 (.slice ha' hn' hc') (.slice ca' n8 cc') U' :=
        ⟨_, rfl, (hs4.store 0 rfl 0 _).store 0 rfl 1 _, hN4.keeps (((Keeps.refl (· = b0) _).setCell ⟨b0, 0, none⟩ (Or.inl rfl) _).setCell ⟨b0, 1, none⟩ (Or.inl rfl) _) (fun b hb e => (hap4 b hb).1 e)⟩
      go_wp2_with fail
      go_roundw
      case rel =>
        refine ⟨U', l ++ [m], ha', hn', hc', ca', n8, cc', a1, c1, by simp, ?_, by rw [List.append_assoc]; exact hU, hN5, by rw [List.length_append]; exact hap4, by rw [List.length_append]; exact hs5⟩
        exact hUd
      case measure => simp [lenOf]; omega
end
end Go.Proofs.Ytcjjglaimfhofaa

namespace Go.Proofs.Ytcjjglaimfhofaa
open Go.RowKit Go.Sort

namespace Stage
variable {F0 : Nat → Prop} {W w w' : World} {l : List Ob} {P : Program} {f : FuncId} {args : Array Value} {O : Ob} {v : Value}
/-- The document's nest becomes another one. -/
theorem nestCall {hv cv : Value} {W0 W' : WS} {res : Value → Value} (h : Stage F0 W l w) (i : Nat) (hi : l[i]? = some (Ob.nest hv cv W0)) (hc : Calls Try.prog f args w (NestPost w hv cv W' res)) :
    Calls Try.prog f args w fun e w' => ∃ a n c a' n' c', e = .returned (res (.agg #[.slice a n c, .slice a' n' c'])) ∧ Stage F0 W (l.set i (Ob.nest (.slice a n c) (.slice a' n' c') W')) w' :=
  hc.mono fun e w' ⟨hv', cv', he, hb, hN, hF⟩ => by
    obtain ⟨a, c, rfl, _, _⟩ := hN.hform
    obtain ⟨a', c', rfl, _, _⟩ := hN.cform
    refine ⟨_, _, _, _, _, _, he, h.moved hi fun F ⟨_, hF0⟩ => ⟨nestF _ _, ⟨hN, rfl⟩, ⟨Keeps.of_below_all hb F, ?_⟩⟩⟩
    subst hF0
    exact hF
theorem nestForms {hv cv : Value} {W0 : WS} (h : Stage F0 W l w) (i : Nat) (hi : l[i]? = some (Ob.nest hv cv W0)) : ∃ a n c a' n' c', hv = .slice a n c ∧ cv = .slice a' n' c' := by
  obtain ⟨a, c, h1, _, _⟩ := (h.nestAt i hi).hform
  obtain ⟨a', c', h2, _, _⟩ := (h.nestAt i hi).cform
  exact ⟨_, _, _, _, _, _, h1, h2⟩
end Stage

/-- The functions that a nest's calls enter. -/
structure NestFns where
  cap : Fn
  make : Fn
  ins : Fn
  min : Fn
  ext : Fn
  dec : Fn
  del : Fn
  meld : Fn
  steps : Fn
  entry : Fn
  home : Fn
  has : Fn
  len : Fn
/-- What holds of a nest's calls: O W g is the nest v that says what the document's W says; R: how a call turns g. -/
structure Nests {γ : Type} (O : WS → γ → Ob) (st : γ → Int) (R : WS → Int → Int → Int → Int → Int → γ → γ → Prop) (H : World → Prop) (T : TypeId) (v : Value) (f : NestFns) : Prop where
  there : ∀ {W g w F}, (O W g).holds w F → H w
  fit : ∀ {W g w F}, (O W g).holds w F → W.Fit
  still : ∀ W k y x q r g, ¬ (0 ≤ k ∧ k ≤ 6) → R W k y x q r g g
  entry : ∀ {W g w F} (x : Int), (O W g).holds w F → Calls Try.prog f.entry.id #[f.entry.rv, .int .i64 x] w fun e w' => e = .returned (.tuple #[.agg #[.int .i64 (cellW W x).key, .int .u64 (cellW W x).seq], .bool (inW W x)]) ∧ Below w.heap.size w w'
  home : ∀ {W g w F} (x : Int), (O W g).holds w F → Calls Try.prog f.home.id #[f.home.rv, .int .i64 x] w fun e w' => e = .returned (.tuple #[.int .i64 (cellW W x).home, .bool (inW W x)]) ∧ ∃ F', (O W g).holds w' F' ∧ Moved F F' w w'
  has : ∀ {W g w F} (y : Int), (O W g).holds w F → Calls Try.prog f.has.id #[f.has.rv, .int .i64 y] w fun e w' => e = .returned (.bool (hasW W y)) ∧ Below w.heap.size w w'
  len : ∀ {W g w F} (y : Int), inInt y → (O W g).holds w F → Calls Try.prog f.len.id #[f.len.rv, .int .i64 y] w fun e w' => e = .returned (.int .i64 (lenW W y)) ∧ Below w.heap.size w w'
  cap : ∀ {W g w F}, (O W g).holds w F → Calls Try.prog f.cap.id #[f.cap.rv] w fun e w' => e = .returned (.int .i64 W.cells.length) ∧ Below w.heap.size w w'
  steps : ∀ {W g w F}, (O W g).holds w F → Calls Try.prog f.steps.id #[f.steps.rv] w fun e w' => e = .returned (.int .i64 (st g)) ∧ Below w.heap.size w w'
  make : ∀ {W g w F}, (O W g).holds w F → Calls Try.prog f.make.id #[f.make.rv] w fun e w' => e = .returned (.int .i64 (madeW W)) ∧ ∃ g', (∀ y x q r, R W 0 y x q r g g') ∧ ∃ F', (O (makeW W) g').holds w' F' ∧ Moved F F' w w'
  ins : ∀ {W g w F} (y x k q : Int), inInt y → inInt x → (O W g).holds w F → Calls Try.prog f.ins.id #[f.ins.rv, .int .i64 y, .int .i64 x, .agg #[.int .i64 k, .int .u64 q]] w fun e w' => e = .returned (.bool (putB W y x)) ∧ ∃ g', R W 1 y x k q g g' ∧ ∃ F', (O (putW W y x k q) g').holds w' F' ∧ Moved F F' w w'
  min : ∀ {W g w F} (y : Int), inInt y → (O W g).holds w F → Calls Try.prog f.min.id #[f.min.rv, .int .i64 y] w fun e w' => e = .returned (.tuple #[.int .i64 (minI W y), .bool (minB W y)]) ∧ ∃ g', (∀ x q r, R W 2 y x q r g g') ∧ ∃ F', (O W g').holds w' F' ∧ Moved F F' w w'
  ext : ∀ {W g w F} (y : Int), inInt y → (O W g).holds w F → Calls Try.prog f.ext.id #[f.ext.rv, .int .i64 y] w fun e w' => e = .returned (.tuple #[.int .i64 (minI W y), .bool (minB W y)]) ∧ ∃ g', (∀ x q r, R W 3 y x q r g g') ∧ ∃ F', (O (exW W y) g').holds w' F' ∧ Moved F F' w w'
  dec : ∀ {W g w F} (x k q : Int), inInt x → (O W g).holds w F → Calls Try.prog f.dec.id #[f.dec.rv, .int .i64 x, .agg #[.int .i64 k, .int .u64 q]] w fun e w' => e = .returned (.bool (lowerB W x k q)) ∧ ∃ g', (∀ y, R W 4 y x k q g g') ∧ ∃ F', (O (lowerW W x k q) g').holds w' F' ∧ Moved F F' w w'
  del : ∀ {W g w F} (x : Int), inInt x → (O W g).holds w F → Calls Try.prog f.del.id #[f.del.rv, .int .i64 x] w fun e w' => e = .returned (.bool (inW W x)) ∧ ∃ g', (∀ y q r, R W 5 y x q r g g') ∧ ∃ F', (O (dropW W x) g').holds w' F' ∧ Moved F F' w w'
  meld : ∀ {W g w F} (a b : Int), inInt a → inInt b → (O W g).holds w F → Calls Try.prog f.meld.id #[f.meld.rv, .int .i64 a, .int .i64 b] w fun e w' => e = .returned (.bool (joinBW W a b)) ∧ ∃ g', (∀ q r, R W 6 a b q r g g') ∧ ∃ F', (O (joinW W a b) g').holds w' F' ∧ Moved F F' w w'
  mCap : Meth H T v "Capacity" f.cap
  mMake : Meth H T v "Make" f.make
  mIns : Meth H T v "Insert" f.ins
  mMin : Meth H T v "Min" f.min
  mExt : Meth H T v "Extract" f.ext
  mDec : Meth H T v "Decrease" f.dec
  mDel : Meth H T v "Delete" f.del
  mMeld : Meth H T v "Meld" f.meld
  mSteps : Meth H T v "Steps" f.steps
  mEntry : Meth H T v "Entry" f.entry
  mHome : Meth H T v "Home" f.home
  mHas : Meth H T v "Has" f.has
  mLen : Meth H T v "Len" f.len
section
variable {γ : Type} {O : WS → γ → Ob} {st : γ → Int} {R : WS → Int → Int → Int → Int → Int → γ → γ → Prop} {H : World → Prop} {T : TypeId} {v : Value} {f : NestFns}
theorem Nests.tells (N : Nests O st R H T v f) {W : WS} {g : γ} (h : W.Fit) : Tells (O W g) H W f.entry f.home f.has f.len where
  fit := h
  there h := N.there h
  entry x _ _ ho := N.entry x ho
  home x _ _ ho := N.home x ho
  has y _ _ ho := N.has y ho
  len y hy _ _ ho := N.len y hy ho
/-- What an act turns the document's nest into. -/
def doW (W : WS) (k y x q r : Int) : WS := if k = 0 then makeW W else if k = 1 then putW W y x q r else if k = 3 then exW W y else if k = 4 then lowerW W x q r else if k = 5 then dropW W x else if k = 6 then joinW W y x else W
end
end Go.Proofs.Ytcjjglaimfhofaa

namespace Go.Proofs.Ytcjjglaimfhofaa
open Go.RowKit Go.Sort

/-- What the map holds: of each heap with something in it, what is first and how many trees it has. -/
def trF (z : Nat → Int) (N : Nat → Nat) : Int → Option Value := fun h => if 0 ≤ h ∧ N h.toNat ≠ 0 then some (trV (z h.toNat) (N h.toNat)) else none
def updN (N : Nat → Nat) (h k : Nat) : Nat → Nat := fun g => if g = h then k else N g
def lenR (R : Nat → List Int) : Nat → Nat := fun h => (R h).length
theorem lenR_upd (R : Nat → List Int) (h : Nat) (l : List Int) : lenR (updR R h l) = updN (lenR R) h l.length := by
  funext g; unfold lenR updR updN; split <;> rfl
theorem lenR_off {R R' : Nat → List Int} {h : Nat} (ho : ∀ g, g ≠ h → R' g = R g) : lenR R' = updN (lenR R) h (R' h).length := by
  funext g; unfold lenR updN; split
  · rename_i e; rw [e]
  · rename_i e; rw [ho g e]
theorem trF_put (z : Nat → Int) (N : Nat → Nat) (h : Nat) (a : Int) {k : Nat} (hk : k ≠ 0) : setV (trF z N) h (some (trV a k)) = trF (updZ z h a) (updN N h k) := by
  funext i
  unfold setV trF
  by_cases e : i = h
  · subst e
    have e2 : ((h : Int)).toNat = h := by simp
    rw [if_pos rfl, e2, updZ_at, show updN N h k h = k from if_pos rfl, if_pos ⟨by omega, hk⟩]
  · rw [if_neg e]
    by_cases h0 : 0 ≤ i
    · have e2 : i.toNat ≠ h := by omega
      rw [updZ_off _ _ e2, show updN N h k i.toNat = N i.toNat from if_neg e2]
    · rw [if_neg (fun e3 => h0 e3.1), if_neg (fun e3 => h0 e3.1)]
theorem trF_del (z : Nat → Int) (N : Nat → Nat) (h : Nat) (a : Int) : setV (trF z N) h none = trF (updZ z h a) (updN N h 0) := by
  funext i
  unfold setV trF
  by_cases e : i = h
  · subst e
    have e2 : ((h : Int)).toNat = h := by simp
    rw [if_pos rfl, e2, show updN N h 0 h = 0 from if_pos rfl, if_neg (fun e3 => e3.2 rfl)]
  · rw [if_neg e]
    by_cases h0 : 0 ≤ i
    · have e2 : i.toNat ≠ h := by omega
      rw [updZ_off _ _ e2, show updN N h 0 i.toNat = N i.toNat from if_neg e2]
    · rw [if_neg (fun e3 => h0 e3.1), if_neg (fun e3 => h0 e3.1)]
theorem trF_at (z : Nat → Int) (N : Nat → Nat) (h : Nat) : (trF z N h).getD (trV 0 0) = trV (if N h = 0 then 0 else z h) (N h) ∧ (trF z N h).isSome = decide (N h ≠ 0) := by
  unfold trF
  have e2 : ((h : Int)).toNat = h := by simp
  rw [e2]
  by_cases e : N h = 0
  · rw [if_neg (fun e3 => e3.2 e), if_pos e, e]
    exact ⟨rfl, by simp⟩
  · rw [if_pos ⟨by omega, e⟩, if_neg e]
    exact ⟨rfl, by simp [e]⟩
abbrev Ob.trees (bm : Nat) (z : Nat → Int) (N : Nat → Nat) : Ob := Ob.tmap Try.prog 3 bm (trF z N) 65537
theorem tzero_trees (w : World) : (zeroValue 88).run Try.prog w = .ok (trV 0 0) w := by kernel_rfl
abbrev fbQ (p f c bm : Nat) (z : Nat → Int) (N : Nat → Nat) : List Ob := [Ob.box p #[ptrV c, ptrV f, .map (some bm)] 32, Ob.trees bm z N]
def fbN (p f c rp bm : Nat) (v : Value) (n : Nat) (W : WS) (s : Int) (T : Int → Node) (S : RSt) (z : Nat → Int) (N : Nat → Nat) : List Ob := fbF f c rp v n W s T S ++ fbQ p f c bm z N
/-- What there is to tell of such a nest: its steps, what hangs below what, each heap's roots, the nodes. -/
structure FiG where
  s : Int
  K : Int → List Int
  R : Nat → List Int
  T : Int → Node
/-- A nest of Fibonacci's trees at p, whose cells are at c. -/
def Ob.fibn (p c : Nat) (W : WS) (g : FiG) : Ob where
  holds w F := ∃ f rp bm v n S z, FiOk n W g.K g.R g.T S z ∧ W.Fit ∧ (0 ≤ g.s ∧ g.s ≤ 4611686018427387904) ∧ (Ob.group (fbN p f c rp bm v n W g.s g.T S z (lenR g.R))).holds w F
  keeps := fun ⟨f, rp, bm, v, n, S, z, h1, h2, h3, h⟩ k hn => ⟨f, rp, bm, v, n, S, z, h1, h2, h3, (Ob.group _).keeps h k hn⟩
  lt := fun ⟨_, _, _, _, _, _, _, _, _, _, h⟩ => (Ob.group _).lt h
def fibH (p c : Nat) (w : World) : Prop := w.cell? ⟨p, 0, none⟩ = some (ptrV c)
section
variable {F0 : Nat → Prop} {W0 w : World} {p f c rp bm n : Nat} {v : Value} {W : WS} {s : Int} {T : Int → Node} {S : RSt} {z : Nat → Int} {N : Nat → Nat}
theorem fn_p0 (h : Stage F0 W0 (fbN p f c rp bm v n W s T S z N) w) : w.cell? ⟨p, 0, none⟩ = some (ptrV c) := h.cell 4 rfl rfl
theorem fn_p1 (h : Stage F0 W0 (fbN p f c rp bm v n W s T S z N) w) : w.cell? ⟨p, 1, none⟩ = some (ptrV f) := h.cell 4 rfl rfl
theorem fn_p2 (h : Stage F0 W0 (fbN p f c rp bm v n W s T S z N) w) : w.cell? ⟨p, 2, none⟩ = some (.map (some bm)) := h.cell 4 rfl rfl
theorem fn_look (h : Stage F0 W0 (fbN p f c rp bm v n W s T S z N) w) (y : Int) (hy : inInt y) : (Instr.lookup 30 (.map (some bm)) (.int .i64 y) false).run Try.prog w = .ok ((trF z N y).getD (trV 0 0)) w :=
  h.lookT 5 rfl Try.underlying30 Try.underlying3 (tzero_trees w) y hy
theorem fn_lookOk (h : Stage F0 W0 (fbN p f c rp bm v n W s T S z N) w) (y : Int) (hy : inInt y) : (Instr.lookup 30 (.map (some bm)) (.int .i64 y) true).run Try.prog w = .ok (.tuple #[(trF z N y).getD (trV 0 0), .bool (trF z N y).isSome]) w :=
  h.lookOkT 5 rfl Try.underlying30 Try.underlying3 (tzero_trees w) y hy
theorem keep0_fb (h : Stage F0 W0 (fbN p f c rp bm v n W s T S z N) w) {i : Nat} (hi : i < 65537) (a : Int) : Calls Try.prog 49 #[.pointer (some ⟨p, 0, none⟩), .int .i64 i, trV a 0] w fun e w' =>
    e = .returned (.tuple #[]) ∧ Stage F0 W0 (fbN p f c rp bm v n W s T S (updZ z i a) (updN N i 0)) w' := by
  obtain ⟨w1, hw1, h1⟩ : ∃ w1, w.alloc (.cells #[.int .i64 a, .int .i64 0] 88) = w1 ∧ Stage F0 W0 (fbN p f c rp bm v n W s T S z N ++ [Ob.box w.heap.size #[.int .i64 a, .int .i64 0] 88]) w1 := ⟨_, rfl, h.alloc _ _⟩
  have t0 := h1.cell 6 rfl (o := 0) rfl
  have t1 := h1.cell 6 rfl (o := 1) rfl
  have p2 : w1.cell? ⟨p, 2, none⟩ = some (.map (some bm)) := h1.cell 4 rfl rfl
  unfold trV
  clear h
  go_enter Try.func49, Try.ntmps49
  go_wp2_with (at_delete; refine Stage.wp_deleteT h1 5 rfl rfl _ _ rfl Try.underlying30 Try.underlying3 rfl i rfl ⟨by omega, by omega⟩ ?_)
  intro w2 h2
  have h3 : Stage F0 W0 (fbN p f c rp bm v n W s T S (updZ z i a) (updN N i 0)) w2 := by
    have h4 := h2.take 6
    rw [trF_del z N i a] at h4
    exact h4
  go_wp2_with fail
  refine bodyPost_ret (results_none rfl _ _ _) rfl ?_
  exact ⟨rfl, h3⟩
set_option maxRecDepth 100000 in
/-- Those are a heap's trees. -/
theorem keep_fb (h : Stage F0 W0 (fbN p f c rp bm v n W s T S z N) w) {i : Nat} (hi : i < 65537) (a : Int) (k : Nat) : Calls Try.prog 49 #[.pointer (some ⟨p, 0, none⟩), .int .i64 i, trV a k] w fun e w' =>
    e = .returned (.tuple #[]) ∧ Stage F0 W0 (fbN p f c rp bm v n W s T S (updZ z i a) (updN N i k)) w' := by
  by_cases hk : k = 0
  · subst hk
    exact keep0_fb h hi a
  have hk1 : ((k : Int) == 0) = false := by rw [beq_eq_false_iff_ne]; omega
  obtain ⟨w1, hw1, h1⟩ : ∃ w1, w.alloc (.cells #[.int .i64 a, .int .i64 k] 88) = w1 ∧ Stage F0 W0 (fbN p f c rp bm v n W s T S z N ++ [Ob.box w.heap.size #[.int .i64 a, .int .i64 k] 88]) w1 := ⟨_, rfl, h.alloc _ _⟩
  have t0 := h1.cell 6 rfl (o := 0) rfl
  have t1 := h1.cell 6 rfl (o := 1) rfl
  have p2 : w1.cell? ⟨p, 2, none⟩ = some (.map (some bm)) := h1.cell 4 rfl rfl
  unfold trV
  clear h
  go_enter Try.func49, Try.ntmps49
  go_wp2_with fail
  go_still_tail 6, (by kernel_rfl)
  change wpList _ _ _ _ _ w1.drew
  go_wp2_with (at_mapUpdate; refine Stage.wp_putT h1.drew 5 rfl rfl _ _ _ rfl Try.underlying30 Try.underlying3 (by unfold maxLen; omega) rfl i (trV a k) rfl rfl hi ?_)
  intro w2 h2
  have h3 : Stage F0 W0 (fbN p f c rp bm v n W s T S (updZ z i a) (updN N i k)) w2 := by
    have h4 := h2.take 6
    rw [trF_put z N i a hk] at h4
    exact h4
  go_wp2_with fail
  go_end0
  exact ⟨rfl, h3⟩
end
end Go.Proofs.Ytcjjglaimfhofaa
