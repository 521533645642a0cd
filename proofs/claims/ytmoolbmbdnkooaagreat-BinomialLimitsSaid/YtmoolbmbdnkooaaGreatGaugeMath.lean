/- Merged of NestCalls, BinNest, GaugeMath. -/
import Derived.Test.YtmoolbmbdnkooaaGreatNestOrder
import Derived.Test.YtmoolbmbdnkooaaGreatNestSortMath
import Derived.Test.YtmoolbmbdnkooaaGreatBinRemove
import Derived.Test.YtmoolbmbdnkooaaGreatNestRef2
import Derived.Lib.BitFns
import Derived.Lib.ItoaNum
import Derived.Lib.Hide
import GoSem.ClaimJoined
namespace Go.Proofs.YtmoolbmbdnkooaaGreat
open Go.RowKit Go.Sort

namespace Stage
variable {F0 : Nat → Prop} {W w w' : World} {l : List Ob} {P : Program} {f : FuncId} {args : Array Value} {O : Ob} {v : Value}
/-- The document's nest becomes another one. -/
theorem nestCall {hv cv : Value} {W0 W' : WS} {res : Value → Value} (h : Stage F0 W l w) (i : Nat) (hi : l[i]? = some (Ob.nest hv cv W0)) (hc : Calls Tryz.prog f args w (NestPost w hv cv W' res)) :
    Calls Tryz.prog f args w fun e w' => ∃ a n c a' n' c', e = .returned (res (.agg #[.slice a n c, .slice a' n' c'])) ∧ Stage F0 W (l.set i (Ob.nest (.slice a n c) (.slice a' n' c') W')) w' :=
  hc.mono fun e w' ⟨hv', cv', he, hb, hN, hF⟩ => by
    obtain ⟨a, c, rfl, _, _⟩ := hN.hform
    obtain ⟨a', c', rfl, _, _⟩ := hN.cform
    refine ⟨_, _, _, _, _, _, he, h.moved hi fun F ⟨_, hF0⟩ => ⟨nestF _ _, ⟨hN, rfl⟩, ⟨Keeps.of_below_all hb F, ?_⟩⟩⟩
    subst hF0
    exact hF
theorem nestForms {hv cv : Value} {W0 : WS} (h : Stage F0 W l w) (i : Nat) (hi : l[i]? = some (Ob.nest hv cv W0)) : ∃ a n c a' n' c', hv = .slice a n c ∧ cv = .slice a' n' c' := by
  obtain ⟨a, c, h1, _, _⟩ := (h.nestAt i hi).hform
  obtain ⟨a', c', h2, _, _⟩ := (h.nestAt i hi).cform
  exact ⟨_, _, _, _, _, _, h1, h2⟩
end Stage

/-- The functions that a nest's calls enter. -/
structure NestFns where
  make : Fn
  ins : Fn
  min : Fn
  ext : Fn
  dec : Fn
  del : Fn
  meld : Fn
  steps : Fn
  home : Fn
/-- What holds of a nest's calls: O W g is the nest v that says what the document's W says; R: how a call turns g. -/
structure Nests {γ : Type} (O : WS → γ → Ob) (st : γ → Int) (R : WS → Int → Int → Int → Int → Int → γ → γ → Prop) (H : World → Prop) (T : TypeId) (v : Value) (f : NestFns) : Prop where
  there : ∀ {W g w F}, (O W g).holds w F → H w
  fit : ∀ {W g w F}, (O W g).holds w F → W.Fit
  still : ∀ W k y x q r g, ¬ (0 ≤ k ∧ k ≤ 6) → R W k y x q r g g
  home : ∀ {W g w F} (x : Int), (O W g).holds w F → Calls Tryz.prog f.home.id #[f.home.rv, .int .i64 x] w fun e w' => e = .returned (.tuple #[.int .i64 (cellW W x).home, .bool (inW W x)]) ∧ ∃ F', (O W g).holds w' F' ∧ Moved F F' w w'
  steps : ∀ {W g w F}, (O W g).holds w F → Calls Tryz.prog f.steps.id #[f.steps.rv] w fun e w' => e = .returned (.int .i64 (st g)) ∧ Below w.heap.size w w'
  make : ∀ {W g w F}, (O W g).holds w F → Calls Tryz.prog f.make.id #[f.make.rv] w fun e w' => e = .returned (.int .i64 (madeW W)) ∧ ∃ g', (∀ y x q r, R W 0 y x q r g g') ∧ ∃ F', (O (makeW W) g').holds w' F' ∧ Moved F F' w w'
  ins : ∀ {W g w F} (y x k q : Int), inInt y → inInt x → (O W g).holds w F → Calls Tryz.prog f.ins.id #[f.ins.rv, .int .i64 y, .int .i64 x, .agg #[.int .i64 k, .int .u64 q]] w fun e w' => e = .returned (.bool (putB W y x)) ∧ ∃ g', R W 1 y x k q g g' ∧ ∃ F', (O (putW W y x k q) g').holds w' F' ∧ Moved F F' w w'
  min : ∀ {W g w F} (y : Int), inInt y → (O W g).holds w F → Calls Tryz.prog f.min.id #[f.min.rv, .int .i64 y] w fun e w' => e = .returned (.tuple #[.int .i64 (minI W y), .bool (minB W y)]) ∧ ∃ g', (∀ x q r, R W 2 y x q r g g') ∧ ∃ F', (O W g').holds w' F' ∧ Moved F F' w w'
  ext : ∀ {W g w F} (y : Int), inInt y → (O W g).holds w F → Calls Tryz.prog f.ext.id #[f.ext.rv, .int .i64 y] w fun e w' => e = .returned (.tuple #[.int .i64 (minI W y), .bool (minB W y)]) ∧ ∃ g', (∀ x q r, R W 3 y x q r g g') ∧ ∃ F', (O (exW W y) g').holds w' F' ∧ Moved F F' w w'
  dec : ∀ {W g w F} (x k q : Int), inInt x → (O W g).holds w F → Calls Tryz.prog f.dec.id #[f.dec.rv, .int .i64 x, .agg #[.int .i64 k, .int .u64 q]] w fun e w' => e = .returned (.bool (lowerB W x k q)) ∧ ∃ g', (∀ y, R W 4 y x k q g g') ∧ ∃ F', (O (lowerW W x k q) g').holds w' F' ∧ Moved F F' w w'
  del : ∀ {W g w F} (x : Int), inInt x → (O W g).holds w F → Calls Tryz.prog f.del.id #[f.del.rv, .int .i64 x] w fun e w' => e = .returned (.bool (inW W x)) ∧ ∃ g', (∀ y q r, R W 5 y x q r g g') ∧ ∃ F', (O (dropW W x) g').holds w' F' ∧ Moved F F' w w'
  meld : ∀ {W g w F} (a b : Int), inInt a → inInt b → (O W g).holds w F → Calls Tryz.prog f.meld.id #[f.meld.rv, .int .i64 a, .int .i64 b] w fun e w' => e = .returned (.bool (joinBW W a b)) ∧ ∃ g', (∀ q r, R W 6 a b q r g g') ∧ ∃ F', (O (joinW W a b) g').holds w' F' ∧ Moved F F' w w'
  mMake : Meth H T v "Make" f.make
  mIns : Meth H T v "Insert" f.ins
  mMin : Meth H T v "Min" f.min
  mExt : Meth H T v "Extract" f.ext
  mDec : Meth H T v "Decrease" f.dec
  mDel : Meth H T v "Delete" f.del
  mMeld : Meth H T v "Meld" f.meld
  mSteps : Meth H T v "Steps" f.steps
  mHome : Meth H T v "Home" f.home
section
variable {γ : Type} {O : WS → γ → Ob} {st : γ → Int} {R : WS → Int → Int → Int → Int → Int → γ → γ → Prop} {H : World → Prop} {T : TypeId} {v : Value} {f : NestFns}
/-- What an act turns the document's nest into. -/
def doW (W : WS) (k y x q r : Int) : WS := if k = 0 then makeW W else if k = 1 then putW W y x q r else if k = 3 then exW W y else if k = 4 then lowerW W x q r else if k = 5 then dropW W x else if k = 6 then joinW W y x else W
end
end Go.Proofs.YtmoolbmbdnkooaaGreat

namespace Go.Proofs.YtmoolbmbdnkooaaGreat
open Go.RowKit Go.Sort

/-- A heap's row; nothing, where nothing is in it. -/
def rowG (v : Value) (l : List Int) : Ob := if l = [] then Ob.none else Ob.ints v l
def rowsF (R : Nat → List Int) (vs : Nat → Value) : Nat → Ob := fun h => rowG (vs h) (R h)
def rowsM (R : Nat → List Int) (vs : Nat → Value) : Int → Option Value := fun h => if 0 ≤ h ∧ R h.toNat ≠ [] then some (vs h.toNat) else none
def updV (vs : Nat → Value) (h : Nat) (v : Value) : Nat → Value := fun i => if i = h then v else vs i
def binParts (p f c t bm n : Nat) (W : WS) (s : Int) (K : Int → List Int) (m : Int → Option Value) (g : Nat → Ob) : List Ob :=
  binF f c t n W s K ++ [Ob.box p #[ptrV c, ptrV f, .map (some bm)] 38, Ob.vmap Tryz.prog 3 bm m 65537, Ob.fam g]
/-- A nest of binomial heaps at p, whose cells are at c. -/
def Ob.binom (p c : Nat) (W : WS) (s : Int) : Ob where
  holds w F := ∃ f t bm n K R vs, BinAll W n K R ∧ W.Fit ∧ (0 ≤ s ∧ s ≤ 4611686018427387904) ∧ (Ob.group (binParts p f c t bm n W s K (rowsM R vs) (rowsF R vs))).holds w F
  keeps := fun ⟨f, t, bm, n, K, R, vs, h1, h2, h3, h⟩ k hn => ⟨f, t, bm, n, K, R, vs, h1, h2, h3, (Ob.group _).keeps h k hn⟩
  lt := fun ⟨_, _, _, _, _, _, _, _, _, _, h⟩ => (Ob.group _).lt h
/-- At p lies a pointer to the cells at c. -/
def binH (p c : Nat) (w : World) : Prop := w.cell? ⟨p, 0, none⟩ = some (ptrV c)
theorem zero_ints (w : World) : (zeroValue 44).run Tryz.prog w = .ok (.slice none 0 0) w := by kernel_rfl
theorem rows_none {R : Nat → List Int} (vs : Nat → Value) {k : Nat} (h : R k = []) : updO (rowsF R vs) k Ob.none = rowsF R vs := by
  funext i
  unfold updO rowsF rowG
  split
  · rename_i e; subst e; simp [h]
  · rfl
theorem rows_map (R : Nat → List Int) (vs : Nat → Value) (k : Nat) (r : List Int) (v : Value) : setV (rowsM R vs) k (if r = [] then none else some v) = rowsM (updI R k r) (updV vs k v) := by
  funext i
  unfold setV rowsM updI updV
  by_cases e : i = k
  · subst e
    simp only [if_true, Int.toNat_natCast, Int.natCast_nonneg, true_and]
    by_cases e2 : r = [] <;> simp [e2]
  · rw [if_neg e]
    by_cases hi : 0 ≤ i
    · have : i.toNat ≠ k := by omega
      simp [this]
    · simp [hi]
theorem rows_fam (R : Nat → List Int) (vs : Nat → Value) (k : Nat) (r : List Int) (v : Value) (O : Ob) : updO (updO (rowsF R vs) k O) k (rowG v r) = rowsF (updI R k r) (updV vs k v) := by
  rw [upd_upd]
  funext i
  unfold updO rowsF updI updV
  split <;> rfl
section
variable {F0 F : Nat → Prop} {W0 w : World} {p f c t bm n k : Nat} {W : WS} {s : Int} {K : Int → List Int} {R : Nat → List Int} {vs : Nat → Value} {m : Int → Option Value} {g : Nat → Ob} {q : List Ob} {v : Value} {r : List Int}
theorem bn_p0 (h : Stage F0 W0 (binParts p f c t bm n W s K m g ++ q) w) : w.cell? ⟨p, 0, none⟩ = some (.pointer (some ⟨c, 0, none⟩)) := h.cell 3 rfl rfl
theorem bn_p1 (h : Stage F0 W0 (binParts p f c t bm n W s K m g ++ q) w) : w.cell? ⟨p, 1, none⟩ = some (.pointer (some ⟨f, 0, none⟩)) := h.cell 3 rfl rfl
theorem bn_p2 (h : Stage F0 W0 (binParts p f c t bm n W s K m g ++ q) w) : w.cell? ⟨p, 2, none⟩ = some (.map (some bm)) := h.cell 3 rfl rfl
theorem bn_look (h : Stage F0 W0 (binParts p f c t bm n W s K m g ++ q) w) (y : Int) (hy : inInt y) : (Instr.lookup 36 (.map (some bm)) (.int .i64 y) false).run Tryz.prog w = .ok ((m y).getD (.slice none 0 0)) w :=
  h.lookV 4 rfl Tryz.underlying36 Tryz.underlying3 (zero_ints w) y hy
/-- A heap's row in hand. -/
theorem btake (h : Stage F0 W0 (binParts p f c t bm n W s K (rowsM R vs) (rowsF R vs)) w) (k : Nat) :
    ∃ a cv, (rowsM R vs k).getD (.slice none 0 0) = .slice a (R k).length cv ∧ (R k ≠ [] → .slice a (R k).length cv = vs k) ∧ Stage F0 W0 (binParts p f c t bm n W s K (rowsM R vs) (updO (rowsF R vs) k Ob.none) ++ [Ob.ints (.slice a (R k).length cv) (R k)]) w := by
  by_cases e : R k = []
  · have e1 : rowsM R vs k = none := by simp [rowsM, e]
    refine ⟨none, 0, by rw [e1, e]; rfl, fun h => absurd e h, ?_⟩
    rw [rows_none vs e, e]
    exact h.nilRow 0 3 1
  · have e1 : rowsM R vs k = some (vs k) := by simp [rowsM, e]
    have h1 := h.pull 5 rfl k
    have e2 : rowsF R vs k = Ob.ints (vs k) (R k) := by simp [rowsF, rowG, e]
    rw [e2] at h1
    obtain ⟨a, cv, ev, _, _⟩ := h1.intsForm 6 rfl
    refine ⟨a, cv, by rw [e1, ← ev]; rfl, fun _ => ev.symm, ?_⟩
    rw [← ev]
    exact h1
/-- .. laid back. -/
theorem bback {L : List Ob} (i : Nat) (hi : L[i]? = some (Ob.fam (updO (rowsF R vs) k Ob.none))) (hv : R k ≠ [] → v = vs k) (h : Stage F0 W0 (L ++ [Ob.ints v (R k)]) w) : Stage F0 W0 (L.set i (Ob.fam (rowsF R vs))) w := by
  by_cases e : R k = []
  · rw [rows_none vs e] at hi
    have h1 := h.take L.length
    rw [List.take_left] at h1
    have h2 : L.set i (Ob.fam (rowsF R vs)) = L := by
      obtain ⟨hl, h3⟩ := List.getElem?_eq_some_iff.1 hi
      rw [← h3, List.set_getElem_self]
    rw [h2]
    exact h1
  · have h1 := h.push i hi k (upd_same _ _ _)
    have e2 : updO (updO (rowsF R vs) k Ob.none) k (Ob.ints v (R k)) = rowsF R vs := by
      rw [upd_upd, hv e]
      funext j
      unfold updO
      split
      · rename_i e3; subst e3; simp [rowsF, rowG, e]
      · rfl
    rw [e2] at h1
    exact h1
set_option maxRecDepth 100000 in
/-- 'keep'. -/
theorem keep_st (hs : Stage F0 W0 (binParts p f c t bm n W s K m g ++ [Ob.ints v r]) w) (hk : k < 65537) (hg : g k = Ob.none) :
    Calls Tryz.prog 19 #[.pointer (some ⟨p, 0, none⟩), .int .i64 k, v] w fun e w' => e = .returned (.tuple #[]) ∧ Stage F0 W0 (binParts p f c t bm n W s K (setV m k (if r = [] then none else some v)) (updO g k (rowG v r))) w' := by
  have p2 := bn_p2 hs
  obtain ⟨a, cv, rfl, hc1, hc2⟩ := hs.intsForm 6 rfl
  by_cases hn : r = []
  · subst hn
    rw [if_pos rfl]
    have eG : updO g k (rowG (.slice a (List.length ([] : List Int)) cv) []) = g := by
      funext i; unfold updO rowG; split
      · rename_i e; subst e; simp [hg]
      · rfl
    rw [eG]
    show Calls _ _ #[_, _, .slice a 0 cv] _ _
    go_enter Tryz.func19, Tryz.ntmps19
    go_wp2_with (at_delete; refine hs.wp_deleteV 4 rfl rfl _ _ rfl Tryz.underlying36 Tryz.underlying3 rfl k rfl (by omega) ?_)
    intro w2 hs2
    have hs3 : Stage F0 W0 (binParts p f c t bm n W s K (setV m k none) g) w2 := hs2.take 6
    go_wp2_with fail
    exact bodyPost_ret (results_none rfl _ _ _) rfl ⟨rfl, hs3⟩
  · have hl0 : ((r.length : Int) == 0) = false := by
      have := List.length_pos_iff.2 hn
      simp; omega
    rw [if_neg hn]
    have hG : rowG (.slice a r.length cv) r = Ob.ints (.slice a r.length cv) r := by unfold rowG; rw [if_neg hn]
    rw [hG]
    generalize hm : r.length = mm at *
    replace hm := Lib.hid hm
    go_enter Tryz.func19, Tryz.ntmps19
    go_wp2_with (at_mapUpdate; refine hs.wp_putV 4 rfl rfl _ _ _ rfl Tryz.underlying36 Tryz.underlying3 (by unfold maxLen; omega) rfl k _ rfl rfl hk ?_)
    intro w2 hs2
    have hs3 : Stage F0 W0 (binParts p f c t bm n W s K (setV m k (some (.slice a mm cv))) (updO g k (Ob.ints (.slice a mm cv) r))) w2 := hs2.push (l := [_, _, _, _, _, _]) 5 rfl k hg
    go_wp2_with fail
    go_end0
    exact ⟨rfl, hs3⟩
theorem binom_close {w' : World} (hs : Stage F w (binParts p f c t bm n W s K (rowsM R vs) (rowsF R vs)) w') (hF : ∀ b, F b → b < w.heap.size) (A : BinAll W n K R) : ∃ F', (Ob.binom p c W s).holds w' F' ∧ Moved F F' w w' := by
  obtain ⟨F', h1, m⟩ := hs.close hF
  obtain ⟨G, ho⟩ := hs.get (i := 1) rfl
  exact ⟨F', ⟨f, t, bm, n, K, R, vs, A, Ob.cells.fit ho, Ob.cells.steps ho, h1⟩, m⟩
end
end Go.Proofs.YtmoolbmbdnkooaaGreat

namespace Go.Proofs.YtmoolbmbdnkooaaGreat

def fitsB (k d : Int) : Bool := (k == 2 && decide (2 ≤ d) && decide (d ≤ 16)) || (k != 2 && d == 0)
def checkI (k d : Int) : Int := if k < 1 then 21 else if 8 < k then 21 else if fitsB k d then 0 else 22
def arityI (k d : Int) : Int := if checkI k d = 0 then (if k = 1 then 2 else if k = 2 then d else 0) else 0
def bitsI (n : Int) : Int := (Lib.bitLen n.toNat : Int)
def nearI (n : Int) : Int := if n < 0 then 0 else if 1099511627776 < n then 1099511627776 else n
def callI (k d : Int) : Int := if checkI k d = 0 then (if k = 1 then 2 else if k = 2 then d else if k = 3 ∨ k = 6 ∨ k = 8 then 4 else 0) else 0
def wholeFI (k d : Int) : Int := if checkI k d = 0 then (if k = 4 ∨ k = 5 ∨ k = 7 then 16 else 0) else 0
def limitI (k d m : Int) : Int := callI k d * (2 + bitsI (nearI m))
def wholeI (k d n : Int) : Int := wholeFI k d * nearI n * (2 + bitsI (nearI n))

theorem check_cases (k d : Int) : (checkI k d = 21 ∧ (k < 1 ∨ 8 < k)) ∨ (checkI k d = 0 ∧ 1 ≤ k ∧ k ≤ 8 ∧ fitsB k d = true) ∨ (checkI k d = 22 ∧ 1 ≤ k ∧ k ≤ 8 ∧ fitsB k d = false) := by
  unfold checkI
  by_cases h1 : k < 1
  · simp [h1]
  · by_cases h2 : 8 < k
    · simp [h1, h2]
    · cases h3 : fitsB k d <;> simp [h1, h2] <;> omega
theorem fits_cases {k d : Int} (h : fitsB k d = true) : (k = 2 ∧ 2 ≤ d ∧ d ≤ 16) ∨ (k ≠ 2 ∧ d = 0) := by
  unfold fitsB at h
  simp at h
  omega
theorem near_range (n : Int) : 0 ≤ nearI n ∧ nearI n ≤ 1099511627776 := by unfold nearI; split <;> (try split) <;> omega
theorem near_mono {a b : Int} (h : a ≤ b) : nearI a ≤ nearI b := by
  unfold nearI; repeat' split
  all_goals omega
theorem bits_neg {n : Int} (h : n < 0) : bitsI n = 0 := by
  unfold bitsI; rw [show n.toNat = 0 by omega]; decide
theorem bits_range (n : Int) (h : n ≤ 9223372036854775807) : 0 ≤ bitsI n ∧ bitsI n ≤ 64 := by
  unfold bitsI
  have : Lib.bitLen n.toNat ≤ 64 := Lib.bitLen_le n.toNat 64 (by omega) (by omega)
  omega
theorem bits_near (n : Int) : 0 ≤ bitsI (nearI n) ∧ bitsI (nearI n) ≤ 41 := by
  have ⟨h0, h1⟩ := near_range n
  unfold bitsI
  have : Lib.bitLen (nearI n).toNat ≤ 41 := Lib.bitLen_le _ 41 (by omega) (by omega)
  omega
theorem bitLen_mono {a b : Nat} (h : a ≤ b) (hb : b < 2 ^ 64) : Lib.bitLen a ≤ Lib.bitLen b := by
  have hle : Lib.bitLen b ≤ 64 := Lib.bitLen_le b 64 (by omega) hb
  by_cases h0 : b = 0
  · rw [show a = b by omega]; exact Nat.le_refl _
  · exact Lib.bitLen_le a (Lib.bitLen b) hle (Nat.lt_of_le_of_lt h (Lib.bitLenAux_bounds 64 b hb h0).2.2)
theorem bits_mono {a b : Int} (h : a ≤ b) (hb : b ≤ 9223372036854775807) : bitsI a ≤ bitsI b := by
  unfold bitsI
  have := bitLen_mono (a := a.toNat) (b := b.toNat) (by omega) (by omega)
  omega
theorem call_range (k d : Int) : 0 ≤ callI k d ∧ callI k d ≤ 16 := by
  unfold callI
  split
  · rename_i h
    rcases check_cases k d with ⟨h', _⟩ | ⟨_, _, _, hf⟩ | ⟨h', _⟩
    · omega
    · have := fits_cases hf
      repeat' split
      all_goals omega
    · omega
  · omega
theorem whole_range (k d : Int) : wholeFI k d = 0 ∨ wholeFI k d = 16 := by
  unfold wholeFI
  repeat' split
  all_goals simp
theorem arity_range (k d : Int) : 0 ≤ arityI k d ∧ arityI k d ≤ 16 := by
  unfold arityI
  split
  · rcases check_cases k d with ⟨h', _⟩ | ⟨_, _, _, hf⟩ | ⟨h', _⟩
    · omega
    · have := fits_cases hf
      repeat' split
      all_goals omega
    · omega
  · omega
theorem mul_range {a b : Int} {m n : Int} (ha : 0 ≤ a ∧ a ≤ m) (hb : 0 ≤ b ∧ b ≤ n) : 0 ≤ a * b ∧ a * b ≤ m * n :=
  ⟨Int.mul_nonneg ha.1 hb.1, Int.mul_le_mul ha.2 hb.2 hb.1 (by omega)⟩
theorem limit_range (k d m : Int) : 0 ≤ limitI k d m ∧ limitI k d m ≤ 688 := by
  have := bits_near m
  have h := mul_range (call_range k d) (b := 2 + bitsI (nearI m)) (n := 43) (by omega)
  unfold limitI
  omega
theorem wholeN_range (k d n : Int) : 0 ≤ wholeFI k d * nearI n ∧ wholeFI k d * nearI n ≤ 17592186044416 := by
  have := mul_range (a := wholeFI k d) (m := 16) (by have := whole_range k d; omega) (near_range n)
  omega
theorem whole_all_range (k d n : Int) : 0 ≤ wholeI k d n ∧ wholeI k d n ≤ 756463999909888 := by
  have := bits_near n
  have h := mul_range (wholeN_range k d n) (b := 2 + bitsI (nearI n)) (n := 43) (by omega)
  unfold wholeI
  omega
theorem limit_mono (k d : Int) {a b : Int} (h : a ≤ b) : limitI k d a ≤ limitI k d b := by
  have h1 := bits_mono (near_mono h) (by have := near_range b; omega)
  unfold limitI
  exact Int.mul_le_mul_of_nonneg_left (by omega) (call_range k d).1
theorem whole_mono (k d : Int) {a b : Int} (h : a ≤ b) : wholeI k d a ≤ wholeI k d b := by
  have h1 := bits_mono (near_mono h) (by have := near_range b; omega)
  have h2 : 0 ≤ wholeFI k d := by have := whole_range k d; omega
  unfold wholeI
  refine Int.mul_le_mul (Int.mul_le_mul_of_nonneg_left (near_mono h) h2) (by omega) (by have := bits_near a; omega) (wholeN_range k d b).1
/-- Of each kind there is one bound, and just one. -/
theorem one_bound (k d a : Int) (h : checkI k d = 0) : decide (0 < limitI k d a) = !decide (0 < wholeI k d 1) := by
  rcases check_cases k d with ⟨h', _⟩ | ⟨_, h1, h8, hf⟩ | ⟨h', _⟩
  · omega
  · have hc := fits_cases hf
    have hb := bits_near a
    have hw : wholeI k d 1 = wholeFI k d * 3 := by
      unfold wholeI
      rw [show nearI 1 = 1 by decide, show bitsI 1 = 1 by decide]
      omega
    rw [hw]
    unfold limitI
    have e : wholeFI k d = if k = 4 ∨ k = 5 ∨ k = 7 then 16 else 0 := by unfold wholeFI; rw [if_pos h]
    have e2 : callI k d = if k = 1 then 2 else if k = 2 then d else if k = 3 ∨ k = 6 ∨ k = 8 then 4 else 0 := by unfold callI; rw [if_pos h]
    by_cases hk : k = 4 ∨ k = 5 ∨ k = 7
    · have z : callI k d = 0 := by rw [e2]; repeat' split
                                   all_goals omega
      rw [z, e, if_pos hk]; simp
    · rw [e, if_neg hk]
      have z : 1 ≤ callI k d := by rw [e2]; repeat' split
                                   all_goals omega
      have : 0 < callI k d * (2 + bitsI (nearI a)) := Int.mul_pos (by omega) (by omega)
      simp [this]
  · omega
theorem limit_none {k d : Int} (h : ¬ checkI k d = 0) (a : Int) : limitI k d a = 0 := by unfold limitI callI; simp [h]
theorem whole_none {k d : Int} (h : ¬ checkI k d = 0) (a : Int) : wholeI k d a = 0 := by unfold wholeI wholeFI; simp [h]
theorem limit_steps (k d m : Int) : limitI k d m = if checkI k d ≠ 0 then 0 else if k ≤ 2 then arityI k d * (2 + bitsI (nearI m)) else if k = 3 ∨ k = 6 ∨ k = 8 then 4 * (2 + bitsI (nearI m)) else 0 := by
  by_cases h : checkI k d = 0
  · rcases check_cases k d with ⟨h', _⟩ | ⟨_, h1, h8, hf⟩ | ⟨h', _⟩
    · omega
    · unfold limitI callI arityI
      simp only [h, if_true, ne_eq, not_true_eq_false, if_false]
      by_cases e1 : k = 1
      · simp [e1]
      · by_cases e2 : k = 2
        · simp [e2]
        · rw [if_neg e1, if_neg e2, if_neg (by omega : ¬ k ≤ 2)]
          split <;> simp
    · omega
  · rw [limit_none h, if_pos h]
theorem whole_steps (k d n : Int) : wholeI k d n = if checkI k d ≠ 0 then 0 else if k = 4 ∨ k = 5 ∨ k = 7 then 16 * nearI n * (2 + bitsI (nearI n)) else 0 := by
  by_cases h : checkI k d = 0
  · unfold wholeI wholeFI
    simp only [h, if_true, ne_eq, not_true_eq_false, if_false]
    split <;> simp
  · rw [whole_none h, if_pos h]
theorem bits_half (m : Nat) (h0 : 0 < m) (h : m ≤ 9223372036854775807) : Lib.bitLen m = 1 + Lib.bitLen (m / 2) := Lib.bitLen_half m (by omega) (by omega)
end Go.Proofs.YtmoolbmbdnkooaaGreat
