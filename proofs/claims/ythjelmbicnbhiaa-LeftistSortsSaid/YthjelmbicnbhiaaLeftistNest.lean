/- Merged of NestCalls, ZMapL, LeftistNest. -/
import Derived.Test.YthjelmbicnbhiaaNestOrder
import Derived.Test.YthjelmbicnbhiaaNestSortMath
import Derived.Test.YthjelmbicnbhiaaZMap
import Derived.Lib.Hide
import Derived.Test.YthjelmbicnbhiaaNestRef
namespace Go.Proofs.Ythjelmbicnbhiaa
open Go.RowKit Go.Sort

namespace Stage
variable {F0 : Nat → Prop} {W w w' : World} {l : List Ob} {P : Program} {f : FuncId} {args : Array Value} {O : Ob} {v : Value}
/-- The document's nest becomes another one. -/
theorem nestCall {hv cv : Value} {W0 W' : WS} {res : Value → Value} (h : Stage F0 W l w) (i : Nat) (hi : l[i]? = some (Ob.nest hv cv W0)) (hc : Calls Try.prog f args w (NestPost w hv cv W' res)) :
    Calls Try.prog f args w fun e w' => ∃ a n c a' n' c', e = .returned (res (.agg #[.slice a n c, .slice a' n' c'])) ∧ Stage F0 W (l.set i (Ob.nest (.slice a n c) (.slice a' n' c') W')) w' :=
  hc.mono fun e w' ⟨hv', cv', he, hb, hN, hF⟩ => by
    obtain ⟨a, c, rfl, _, _⟩ := hN.hform
    obtain ⟨a', c', rfl, _, _⟩ := hN.cform
    refine ⟨_, _, _, _, _, _, he, h.moved hi fun F ⟨_, hF0⟩ => ⟨nestF _ _, ⟨hN, rfl⟩, ⟨Keeps.of_below_all hb F, ?_⟩⟩⟩
    subst hF0
    exact hF
theorem nestForms {hv cv : Value} {W0 : WS} (h : Stage F0 W l w) (i : Nat) (hi : l[i]? = some (Ob.nest hv cv W0)) : ∃ a n c a' n' c', hv = .slice a n c ∧ cv = .slice a' n' c' := by
  obtain ⟨a, c, h1, _, _⟩ := (h.nestAt i hi).hform
  obtain ⟨a', c', h2, _, _⟩ := (h.nestAt i hi).cform
  exact ⟨_, _, _, _, _, _, h1, h2⟩
end Stage

/-- The functions that a nest's calls enter. -/
structure NestFns where
  cap : Fn
  make : Fn
  ins : Fn
  min : Fn
  ext : Fn
  dec : Fn
  del : Fn
  meld : Fn
  steps : Fn
  entry : Fn
  home : Fn
  has : Fn
  len : Fn
/-- What holds of a nest's calls: O W g is the nest v that says what the document's W says; R: how a call turns g. -/
structure Nests {γ : Type} (O : WS → γ → Ob) (st : γ → Int) (R : WS → Int → Int → Int → γ → γ → Prop) (H : World → Prop) (T : TypeId) (v : Value) (f : NestFns) : Prop where
  there : ∀ {W g w F}, (O W g).holds w F → H w
  fit : ∀ {W g w F}, (O W g).holds w F → W.Fit
  still : ∀ W k y x g, ¬ (0 ≤ k ∧ k ≤ 6) → R W k y x g g
  entry : ∀ {W g w F} (x : Int), (O W g).holds w F → Calls Try.prog f.entry.id #[f.entry.rv, .int .i64 x] w fun e w' => e = .returned (.tuple #[.agg #[.int .i64 (cellW W x).key, .int .u64 (cellW W x).seq], .bool (inW W x)]) ∧ Below w.heap.size w w'
  home : ∀ {W g w F} (x : Int), (O W g).holds w F → Calls Try.prog f.home.id #[f.home.rv, .int .i64 x] w fun e w' => e = .returned (.tuple #[.int .i64 (cellW W x).home, .bool (inW W x)]) ∧ ∃ F', (O W g).holds w' F' ∧ Moved F F' w w'
  has : ∀ {W g w F} (y : Int), (O W g).holds w F → Calls Try.prog f.has.id #[f.has.rv, .int .i64 y] w fun e w' => e = .returned (.bool (hasW W y)) ∧ Below w.heap.size w w'
  len : ∀ {W g w F} (y : Int), inInt y → (O W g).holds w F → Calls Try.prog f.len.id #[f.len.rv, .int .i64 y] w fun e w' => e = .returned (.int .i64 (lenW W y)) ∧ Below w.heap.size w w'
  cap : ∀ {W g w F}, (O W g).holds w F → Calls Try.prog f.cap.id #[f.cap.rv] w fun e w' => e = .returned (.int .i64 W.cells.length) ∧ Below w.heap.size w w'
  steps : ∀ {W g w F}, (O W g).holds w F → Calls Try.prog f.steps.id #[f.steps.rv] w fun e w' => e = .returned (.int .i64 (st g)) ∧ Below w.heap.size w w'
  make : ∀ {W g w F}, (O W g).holds w F → Calls Try.prog f.make.id #[f.make.rv] w fun e w' => e = .returned (.int .i64 (madeW W)) ∧ ∃ g', (∀ y x, R W 0 y x g g') ∧ ∃ F', (O (makeW W) g').holds w' F' ∧ Moved F F' w w'
  ins : ∀ {W g w F} (y x k q : Int), inInt y → inInt x → (O W g).holds w F → Calls Try.prog f.ins.id #[f.ins.rv, .int .i64 y, .int .i64 x, .agg #[.int .i64 k, .int .u64 q]] w fun e w' => e = .returned (.bool (putB W y x)) ∧ ∃ g', R W 1 y x g g' ∧ ∃ F', (O (putW W y x k q) g').holds w' F' ∧ Moved F F' w w'
  min : ∀ {W g w F} (y : Int), inInt y → (O W g).holds w F → Calls Try.prog f.min.id #[f.min.rv, .int .i64 y] w fun e w' => e = .returned (.tuple #[.int .i64 (minI W y), .bool (minB W y)]) ∧ ∃ g', (∀ x, R W 2 y x g g') ∧ ∃ F', (O W g').holds w' F' ∧ Moved F F' w w'
  ext : ∀ {W g w F} (y : Int), inInt y → (O W g).holds w F → Calls Try.prog f.ext.id #[f.ext.rv, .int .i64 y] w fun e w' => e = .returned (.tuple #[.int .i64 (minI W y), .bool (minB W y)]) ∧ ∃ g', (∀ x, R W 3 y x g g') ∧ ∃ F', (O (exW W y) g').holds w' F' ∧ Moved F F' w w'
  dec : ∀ {W g w F} (x k q : Int), inInt x → (O W g).holds w F → Calls Try.prog f.dec.id #[f.dec.rv, .int .i64 x, .agg #[.int .i64 k, .int .u64 q]] w fun e w' => e = .returned (.bool (lowerB W x k q)) ∧ ∃ g', (∀ y, R W 4 y x g g') ∧ ∃ F', (O (lowerW W x k q) g').holds w' F' ∧ Moved F F' w w'
  del : ∀ {W g w F} (x : Int), inInt x → (O W g).holds w F → Calls Try.prog f.del.id #[f.del.rv, .int .i64 x] w fun e w' => e = .returned (.bool (inW W x)) ∧ ∃ g', (∀ y, R W 5 y x g g') ∧ ∃ F', (O (dropW W x) g').holds w' F' ∧ Moved F F' w w'
  meld : ∀ {W g w F} (a b : Int), inInt a → inInt b → (O W g).holds w F → Calls Try.prog f.meld.id #[f.meld.rv, .int .i64 a, .int .i64 b] w fun e w' => e = .returned (.bool (joinBW W a b)) ∧ ∃ g', R W 6 a b g g' ∧ ∃ F', (O (joinW W a b) g').holds w' F' ∧ Moved F F' w w'
  mCap : Meth H T v "Capacity" f.cap
  mMake : Meth H T v "Make" f.make
  mIns : Meth H T v "Insert" f.ins
  mMin : Meth H T v "Min" f.min
  mExt : Meth H T v "Extract" f.ext
  mDec : Meth H T v "Decrease" f.dec
  mDel : Meth H T v "Delete" f.del
  mMeld : Meth H T v "Meld" f.meld
  mSteps : Meth H T v "Steps" f.steps
  mEntry : Meth H T v "Entry" f.entry
  mHome : Meth H T v "Home" f.home
  mHas : Meth H T v "Has" f.has
  mLen : Meth H T v "Len" f.len
section
variable {γ : Type} {O : WS → γ → Ob} {st : γ → Int} {R : WS → Int → Int → Int → γ → γ → Prop} {H : World → Prop} {T : TypeId} {v : Value} {f : NestFns}
theorem Nests.tells (N : Nests O st R H T v f) {W : WS} {g : γ} (h : W.Fit) : Tells (O W g) H W f.entry f.home f.has f.len where
  fit := h
  there h := N.there h
  entry x _ _ ho := N.entry x ho
  home x _ _ ho := N.home x ho
  has y _ _ ho := N.has y ho
  len y hy _ _ ho := N.len y hy ho
/-- What an act turns the document's nest into. -/
def doW (W : WS) (k y x q r : Int) : WS := if k = 0 then makeW W else if k = 1 then putW W y x q r else if k = 3 then exW W y else if k = 4 then lowerW W x q r else if k = 5 then dropW W x else if k = 6 then joinW W y x else W
end
end Go.Proofs.Ythjelmbicnbhiaa

namespace Go.Proofs.Ythjelmbicnbhiaa
open Go.RowKit Go.Sort

namespace Stage
variable {F0 : Nat → Prop} {W w : World} {l : List Ob} {P : Program} {t k e : TypeId} {b n : Nat} {f : Int → Option Int}
/-- 'm[k] = v' at the operation. -/
theorem wp_putZL {ops : Array Oper} {rest : List Oper} {o : Oper} {a : Act} {Q : Exit → Act → World → Prop} (n' : Nat) (f' : Int → Option Int) (h : Stage F0 W l w) (i : Nat) (hi : l[i]? = some (Ob.zmap P k e b f n)) (hg : o.guard = none) (m x v : Operand) (hop : o.op = Op.mapUpdate t m x v)
    (ht : P.underlying t = some (.map k e)) (hk : P.underlying k = some (.int .i64)) (he : P.underlying e = some (.int .i64)) (hM : n < maxLen)
    (hm : a.eval m = .map (some b)) (key val : Int) (hx : a.eval x = .int .i64 key) (hv : a.eval v = .int .i64 val) (hkey : -9223372036854775808 ≤ key ∧ key ≤ 9223372036854775807) (hval : -9223372036854775808 ≤ val ∧ val ≤ 9223372036854775807)
    (hn : Hid ((if (f key).isSome then n else n + 1) = n')) (hf : Hid (setZ f key (some val) = f'))
    (hK : ∀ w', Stage F0 W (l.set i (Ob.zmap P k e b f' n')) w' → wpList P ops Q rest (a.put o.dst undef) w') : wpList P ops Q (o :: rest) a w :=
  h.wp_putZ i hi hg m x v hop ht hk he hM hm key val hx hv hkey hval fun w' hs => hK w' (by rw [← hn.out, ← hf.out]; exact hs)
/-- 'delete(m, k)' at the operation. -/
theorem wp_deleteZL {ops : Array Oper} {rest : List Oper} {o : Oper} {a : Act} {Q : Exit → Act → World → Prop} (n' : Nat) (f' : Int → Option Int) (h : Stage F0 W l w) (i : Nat) (hi : l[i]? = some (Ob.zmap P k e b f n)) (hg : o.guard = none) (m x : Operand) (hop : o.op = Op.call { callee := Callee.builtin Builtin.delete, args := #[m, x], argTypes := #[t, k] })
    (ht : P.underlying t = some (.map k e)) (hk : P.underlying k = some (.int .i64))
    (hm : a.eval m = .map (some b)) (key : Int) (hx : a.eval x = .int .i64 key) (hkey : -9223372036854775808 ≤ key ∧ key ≤ 9223372036854775807)
    (hn : Hid ((if (f key).isSome then n - 1 else n) = n')) (hf : Hid (setZ f key none = f'))
    (hK : ∀ w', Stage F0 W (l.set i (Ob.zmap P k e b f' n')) w' → wpList P ops Q rest (a.put o.dst (.tuple #[])) w') : wpList P ops Q (o :: rest) a w :=
  h.wp_deleteZ i hi hg m x hop ht hk hm key hx hkey fun w' hs => hK w' (by rw [← hn.out, ← hf.out]; exact hs)
end Stage
end Go.Proofs.Ythjelmbicnbhiaa

namespace Go.Proofs.Ythjelmbicnbhiaa
open Go.RowKit Go.Sort

/-- What is topmost in each heap. -/
def topsT (Ts : Nat → Tr) (h : Int) : Option Int := if 0 ≤ h then (Ts h.toNat).top else none
theorem topsT_nat (Ts : Nat → Tr) (h : Nat) : topsT Ts h = (Ts h).top := by simp [topsT]
theorem topsT_upd (Ts : Nat → Tr) (h : Nat) (T : Tr) : topsT (updT Ts h T) = setZ (topsT Ts) h T.top := by
  funext i
  unfold topsT setZ updT
  by_cases e : i = h
  · subst e; simp
  · rw [if_neg e]
    by_cases hi : 0 ≤ i
    · have : i.toNat ≠ h := by omega
      simp [hi, this]
    · simp [hi]
/-- How many heaps have something in them. -/
def cntT (Ts : Nat → Tr) : Nat := (List.range 65537).countP fun h => (Ts h).top.isSome
theorem cntT_le (Ts : Nat → Tr) : cntT Ts ≤ 65537 := by
  have := List.countP_le_length (p := fun h => (Ts h).top.isSome) (l := List.range 65537)
  rw [List.length_range] at this
  exact this
theorem count_range (p p' : Nat → Bool) (h : Nat) (hp : ∀ i, i ≠ h → p' i = p i) : ∀ N, h < N → (List.range N).countP p' + (if p h then 1 else 0) = (List.range N).countP p + (if p' h then 1 else 0) := by
  have hlow : ∀ N, N ≤ h → (List.range N).countP p' = (List.range N).countP p := fun N hN => List.countP_congr fun i hi => by
    rw [List.mem_range] at hi
    rw [hp i (by omega)]
  intro N
  induction N with
  | zero => intro hN; omega
  | succ N ih =>
    intro hN
    rw [List.range_succ, List.countP_append, List.countP_append]
    simp only [List.countP_singleton]
    by_cases e : N = h
    · subst e
      rw [hlow N (Nat.le_refl _)]
      omega
    · have := ih (by omega)
      rw [hp N e]
      omega
theorem cntT_upd (Ts : Nat → Tr) {h : Nat} (hh : h < 65537) (T : Tr) : cntT (updT Ts h T) + (if (Ts h).top.isSome then 1 else 0) = cntT Ts + (if T.top.isSome then 1 else 0) := by
  have := count_range (fun h => (Ts h).top.isSome) (fun i => (updT Ts h T i).top.isSome) h (fun i hi => by rw [updT_ne _ _ hi]) 65537 hh
  simp only [updT_at] at this
  exact this
theorem cntT_put (Ts : Nat → Tr) {h : Nat} (hh : h < 65537) {T : Tr} (hT : T.top.isSome = true) : (if (topsT Ts h).isSome then cntT Ts else cntT Ts + 1) = cntT (updT Ts h T) := by
  have := cntT_upd Ts hh T
  rw [hT] at this
  rw [topsT_nat]
  cases h2 : (Ts h).top.isSome
  · rw [h2] at this; simp only [Bool.false_eq_true, if_false, if_true] at this ⊢; omega
  · rw [h2] at this; simp only [if_true] at this ⊢; omega
theorem cntT_del (Ts : Nat → Tr) {h : Nat} (hh : h < 65537) : (if (topsT Ts h).isSome then cntT Ts - 1 else cntT Ts) = cntT (updT Ts h .nil) := by
  have := cntT_upd Ts hh .nil
  have e : Tr.nil.top.isSome = false := rfl
  rw [e] at this
  rw [topsT_nat]
  cases h2 : (Ts h).top.isSome
  · rw [h2] at this; simp only [Bool.false_eq_true, if_false] at this ⊢; omega
  · rw [h2] at this; simp only [Bool.false_eq_true, if_false, if_true] at this ⊢; omega
/-- .. where what is topmost stays. -/
theorem tops_same (Ts : Nat → Tr) {h : Nat} {T : Tr} (e : T.top = (Ts h).top) : topsT (updT Ts h T) = topsT Ts ∧ cntT (updT Ts h T) = cntT Ts := by
  have h1 : ∀ i, (updT Ts h T i).top = (Ts i).top := fun i => by
    by_cases e2 : i = h
    · rw [e2, updT_at, e]
    · rw [updT_ne _ _ e2]
  refine ⟨?_, ?_⟩
  · funext i; unfold topsT; simp only [h1]
  · unfold cntT; simp only [h1]
def leftParts (p f c t bm : Nat) (v : Value) (n : Nat) (W : WS) (s : Int) (L : List Hg) (R : List Int) (Ts : Nat → Tr) : List Ob :=
  forestParts f c t v n W s L R ++ [Ob.box p #[ptrV c, ptrV f, .map (some bm)] 32, Ob.zmap Try.prog 3 3 bm (topsT Ts) (cntT Ts)]
/-- A nest of leftist trees at p, whose cells are at c. -/
def Ob.leftist (p c : Nat) (W : WS) (s : Int) (Ts : Nat → Tr) : Ob where
  holds w F := ∃ f t bm v n L R, TInv W Ts ∧ LefInv Ts L (rkL R) ∧ R.length = n ∧ W.cells.length = n ∧ W.Fit ∧ (0 ≤ s ∧ s ≤ 4611686018427387904) ∧ (Ob.group (leftParts p f c t bm v n W s L R Ts)).holds w F
  keeps := fun ⟨f, t, bm, v, n, L, R, h1, h2, h3, h4, h5, h6, h⟩ k hn => ⟨f, t, bm, v, n, L, R, h1, h2, h3, h4, h5, h6, (Ob.group _).keeps h k hn⟩
  lt := fun ⟨_, _, _, _, _, _, _, _, _, _, _, _, _, h⟩ => (Ob.group _).lt h
/-- At p lies a pointer to the cells at c. -/
def leftH (p c : Nat) (w : World) : Prop := w.cell? ⟨p, 0, none⟩ = some (ptrV c)
section
variable {F0 : Nat → Prop} {W0 w : World} {p f c t bm n : Nat} {v : Value} {W : WS} {s : Int} {L : List Hg} {R : List Int} {Ts : Nat → Tr}
theorem le_p0 (h : Stage F0 W0 (leftParts p f c t bm v n W s L R Ts) w) : w.cell? ⟨p, 0, none⟩ = some (ptrV c) := h.cell 4 rfl rfl
theorem le_p1 (h : Stage F0 W0 (leftParts p f c t bm v n W s L R Ts) w) : w.cell? ⟨p, 1, none⟩ = some (ptrV f) := h.cell 4 rfl rfl
theorem le_p2 (h : Stage F0 W0 (leftParts p f c t bm v n W s L R Ts) w) : w.cell? ⟨p, 2, none⟩ = some (.map (some bm)) := h.cell 4 rfl rfl
theorem lzero_int (w : World) : (zeroValue 3).run Try.prog w = .ok (.int .i64 0) w := by kernel_rfl
theorem le_look (h : Stage F0 W0 (leftParts p f c t bm v n W s L R Ts) w) (y : Int) (hy : inInt y) : (Instr.lookup 30 (.map (some bm)) (.int .i64 y) true).run Try.prog w = .ok (.tuple #[.int .i64 ((topsT Ts y).getD 0), .bool (topsT Ts y).isSome]) w :=
  h.lookOkZ 5 rfl Try.underlying30 Try.underlying3 Try.underlying3 (lzero_int w) y hy
theorem le_look1 (h : Stage F0 W0 (leftParts p f c t bm v n W s L R Ts) w) (y : Int) (hy : inInt y) : (Instr.lookup 30 (.map (some bm)) (.int .i64 y) false).run Try.prog w = .ok (.int .i64 ((topsT Ts y).getD 0)) w :=
  h.lookZ 5 rfl Try.underlying30 Try.underlying3 Try.underlying3 (lzero_int w) y hy
theorem in_int64 {W : WS} (hf : W.Fit) {x : Int} (h : inW W x = true) : inInt x := by
  obtain ⟨i, rfl, hi, _⟩ := in_nat h
  have := hf.cap
  exact ⟨by omega, by omega⟩
/-- A tree comes into a heap. -/
def AddPost (F0 : Nat → Prop) (W0 : World) (p f c t bm : Nat) (v : Value) (n : Nat) (W : WS) (s : Int) (L : List Hg) (R : List Int) (Ts : Nat → Tr) (h : Nat) (tb : Tr) (e : Ending) (w' : World) : Prop :=
  ∃ (T : Tr) (L' : List Hg) (R' : List Int) (s' : Int), e = .returned (.tuple #[]) ∧ R'.length = n ∧ T.slots.Perm ((Ts h).slots ++ tb.slots) ∧ Tr.Ok (aheadW W) T ∧ Stands L' (rkL R') T ∧ SameL ((Ts h).slots ++ tb.slots) L L' (rkL R) (rkL R') ∧
    (s ≤ s' ∧ s' ≤ s + (Tr.spine (Ts h) + Tr.spine tb : Nat) ∧ (Ts h = .nil → s' = s) ∧ (Ts h ≠ .nil → 0 < s')) ∧ (Ts h = .nil → T = tb) ∧ Exact W (Ts h) tb T ∧ Stage F0 W0 (leftParts p f c t bm v n W s' L' R' (updT Ts h T)) w'
set_option maxRecDepth 100000 in
set_option maxHeartbeats 1000000 in
theorem add_le (hs : Stage F0 W0 (leftParts p f c t bm v n W s L R Ts) w) {h : Nat} (hh : h < 65537) {tb : Tr} {x : Int} (hx : tb.top = some x) (H : Two W n L R (Ts h) tb) :
    Calls Try.prog 51 #[.pointer (some ⟨p, 0, none⟩), .int .i64 h, .int .i64 x] w (AddPost F0 W0 p f c t bm v n W s L R Ts h tb) := by
  have p1 := le_p1 hs
  have p2 := le_p2 hs
  have hl := le_look hs h ⟨by omega, by omega⟩
  have hf := (fo_fit (q := [_, _]) hs).1
  have hcnt : cntT Ts < maxLen := by have := cntT_le Ts; unfold maxLen; omega
  rw [topsT_nat] at hl
  unfold AddPost
  cases ht : (Ts h).top with
  | none =>
    have hnil : Ts h = .nil := by cases e : Ts h with
      | nil => rfl
      | node a b d => rw [e] at ht; cases ht
    rw [ht] at hl
    replace hl : (Instr.lookup 30 (.map (some bm)) (.int .i64 h) true).run Try.prog w = .ok (.tuple #[.int .i64 0, .bool false]) w := hl
    have hx64 : inInt x := in_int64 hf (H.ins x (by simp [Tr.top_in hx]))
    have hn1 := Lib.hid (cntT_put Ts hh (T := tb) (by rw [hx]; rfl))
    have hf1 := Lib.hid (show setZ (topsT Ts) h (some x) = topsT (updT Ts h tb) by rw [topsT_upd, hx])
    have hpm : tb.slots.Perm ((Ts h).slots ++ tb.slots) := by rw [hnil]; exact List.Perm.refl _
    replace hnil := Lib.hid hnil
    clear ht
    go_enter Try.func51, Try.ntmps51
    go_wp2_with (at_mapUpdate; refine Stage.wp_putZL (cntT (updT Ts h tb)) (topsT (updT Ts h tb)) hs 5 rfl rfl _ _ _ rfl Try.underlying30 Try.underlying3 Try.underlying3 hcnt rfl h x rfl rfl ⟨by omega, by omega⟩ hx64 hn1 hf1 ?_)
    intro w1 h1
    replace h1 : Stage F0 W0 (leftParts p f c t bm v n W s L R (updT Ts h tb)) w1 := h1
    go_wp2_with fail
    go_end0
    exact ⟨tb, L, R, s, rfl, H.rows, hpm, H.kb, H.sb, SameL.refl _ _ _, ⟨Int.le_refl _, by omega, fun _ => rfl, fun e => absurd hnil.out e⟩, fun _ => rfl, fun a l b e _ _ => (by rw [hnil.out] at e; cases e), h1⟩
  | some y =>
    have hne : Ts h ≠ .nil := fun e => by rw [e] at ht; cases ht
    have hne2 := Lib.hid hne
    rw [ht] at hl
    replace hl : (Instr.lookup 30 (.map (some bm)) (.int .i64 h) true).run Try.prog w = .ok (.tuple #[.int .i64 y, .bool true]) w := hl
    have hM := merge_st (q := [_, _]) _ (Nat.le_refl _) hs H ht hx
    go_enter Try.func51, Try.ntmps51
    go_wp2_with fail
    refine hM.mono ?_
    rintro e w1 ⟨T, m, L', R', s', rfl, m1, m2, m3, m4, m5, m6, m7, m8, h1⟩
    replace h1 : Stage F0 W0 (leftParts p f c t bm v n W s' L' R' Ts) w1 := h1
    clear hM hs hl p1 p2
    have p2 := le_p2 h1
    have hm64 : inInt m := in_int64 hf (H.ins m (m3.mem_iff.1 (Tr.top_in m1)))
    have hn1 := Lib.hid (cntT_put Ts hh (T := T) (by rw [m1]; rfl))
    have hf1 := Lib.hid (show setZ (topsT Ts) h (some m) = topsT (updT Ts h T) by rw [topsT_upd, m1])
    have hst := Lib.hid (show s ≤ s' ∧ s' ≤ s + (Tr.spine (Ts h) + Tr.spine tb : Nat) ∧ (Ts h = .nil → s' = s) ∧ (Ts h ≠ .nil → 0 < s') from ⟨m7.1, m7.2.1, fun e => absurd e hne, fun _ => m7.2.2⟩)
    clear ht hne m7
    go_wp2_with (at_mapUpdate; refine Stage.wp_putZL (cntT (updT Ts h T)) (topsT (updT Ts h T)) h1 5 rfl rfl _ _ _ rfl Try.underlying30 Try.underlying3 Try.underlying3 hcnt rfl h m rfl rfl ⟨by omega, by omega⟩ hm64 hn1 hf1 ?_)
    intro w2 h2
    replace h2 : Stage F0 W0 (leftParts p f c t bm v n W s' L' R' (updT Ts h T)) w2 := h2
    go_wp2_with fail
    go_end0
    exact ⟨T, L', R', s', rfl, m2, m3, m4, m5, m6, hst.out, fun e => absurd e hne2.out, m8, h2⟩
end
end Go.Proofs.Ythjelmbicnbhiaa
