/- Merged of NestCalls, DaryObj, DaryRow. -/
import Derived.Test.YtlbbgdpdaelcdaaCellsLooks
import Derived.Test.YtlbbgdpdaelcdaaNestOrder
import Derived.Test.YtlbbgdpdaelcdaaNestSortMath
import Derived.Test.YtlbbgdpdaelcdaaDaryInv
import Derived.Test.YtlbbgdpdaelcdaaSiftCalls3
import Derived.Test.YtlbbgdpdaelcdaaPMap
import Derived.Test.YtlbbgdpdaelcdaaCells5
namespace Go.Proofs.Ytlbbgdpdaelcdaa
open Go.RowKit Go.Sort

namespace Stage
variable {F0 : Nat → Prop} {W w w' : World} {l : List Ob} {P : Program} {f : FuncId} {args : Array Value} {O : Ob} {v : Value}
/-- The document's nest becomes another one. -/
theorem nestCall {hv cv : Value} {W0 W' : WS} {res : Value → Value} (h : Stage F0 W l w) (i : Nat) (hi : l[i]? = some (Ob.nest hv cv W0)) (hc : Calls Try.prog f args w (NestPost w hv cv W' res)) :
    Calls Try.prog f args w fun e w' => ∃ a n c a' n' c', e = .returned (res (.agg #[.slice a n c, .slice a' n' c'])) ∧ Stage F0 W (l.set i (Ob.nest (.slice a n c) (.slice a' n' c') W')) w' :=
  hc.mono fun e w' ⟨hv', cv', he, hb, hN, hF⟩ => by
    obtain ⟨a, c, rfl, _, _⟩ := hN.hform
    obtain ⟨a', c', rfl, _, _⟩ := hN.cform
    refine ⟨_, _, _, _, _, _, he, h.moved hi fun F ⟨_, hF0⟩ => ⟨nestF _ _, ⟨hN, rfl⟩, ⟨Keeps.of_below_all hb F, ?_⟩⟩⟩
    subst hF0
    exact hF
theorem nestForms {hv cv : Value} {W0 : WS} (h : Stage F0 W l w) (i : Nat) (hi : l[i]? = some (Ob.nest hv cv W0)) : ∃ a n c a' n' c', hv = .slice a n c ∧ cv = .slice a' n' c' := by
  obtain ⟨a, c, h1, _, _⟩ := (h.nestAt i hi).hform
  obtain ⟨a', c', h2, _, _⟩ := (h.nestAt i hi).cform
  exact ⟨_, _, _, _, _, _, h1, h2⟩
end Stage

/-- The functions that a nest's calls enter. -/
structure NestFns where
  cap : Fn
  make : Fn
  ins : Fn
  min : Fn
  ext : Fn
  dec : Fn
  del : Fn
  meld : Fn
  steps : Fn
  entry : Fn
  home : Fn
  has : Fn
  len : Fn
/-- What holds of a nest's calls: O W g is the nest v that says what the document's W says; R: how a call turns g. -/
structure Nests {γ : Type} (O : WS → γ → Ob) (st : γ → Int) (R : WS → Int → Int → Int → γ → γ → Prop) (H : World → Prop) (T : TypeId) (v : Value) (f : NestFns) : Prop where
  there : ∀ {W g w F}, (O W g).holds w F → H w
  fit : ∀ {W g w F}, (O W g).holds w F → W.Fit
  still : ∀ W k y x g, ¬ (0 ≤ k ∧ k ≤ 6) → R W k y x g g
  entry : ∀ {W g w F} (x : Int), (O W g).holds w F → Calls Try.prog f.entry.id #[f.entry.rv, .int .i64 x] w fun e w' => e = .returned (.tuple #[.agg #[.int .i64 (cellW W x).key, .int .u64 (cellW W x).seq], .bool (inW W x)]) ∧ Below w.heap.size w w'
  home : ∀ {W g w F} (x : Int), (O W g).holds w F → Calls Try.prog f.home.id #[f.home.rv, .int .i64 x] w fun e w' => e = .returned (.tuple #[.int .i64 (cellW W x).home, .bool (inW W x)]) ∧ ∃ F', (O W g).holds w' F' ∧ Moved F F' w w'
  has : ∀ {W g w F} (y : Int), (O W g).holds w F → Calls Try.prog f.has.id #[f.has.rv, .int .i64 y] w fun e w' => e = .returned (.bool (hasW W y)) ∧ Below w.heap.size w w'
  len : ∀ {W g w F} (y : Int), inInt y → (O W g).holds w F → Calls Try.prog f.len.id #[f.len.rv, .int .i64 y] w fun e w' => e = .returned (.int .i64 (lenW W y)) ∧ Below w.heap.size w w'
  cap : ∀ {W g w F}, (O W g).holds w F → Calls Try.prog f.cap.id #[f.cap.rv] w fun e w' => e = .returned (.int .i64 W.cells.length) ∧ Below w.heap.size w w'
  steps : ∀ {W g w F}, (O W g).holds w F → Calls Try.prog f.steps.id #[f.steps.rv] w fun e w' => e = .returned (.int .i64 (st g)) ∧ Below w.heap.size w w'
  make : ∀ {W g w F}, (O W g).holds w F → Calls Try.prog f.make.id #[f.make.rv] w fun e w' => e = .returned (.int .i64 (madeW W)) ∧ ∃ g', (∀ y x, R W 0 y x g g') ∧ ∃ F', (O (makeW W) g').holds w' F' ∧ Moved F F' w w'
  ins : ∀ {W g w F} (y x k q : Int), inInt y → inInt x → (O W g).holds w F → Calls Try.prog f.ins.id #[f.ins.rv, .int .i64 y, .int .i64 x, .agg #[.int .i64 k, .int .u64 q]] w fun e w' => e = .returned (.bool (putB W y x)) ∧ ∃ g', R W 1 y x g g' ∧ ∃ F', (O (putW W y x k q) g').holds w' F' ∧ Moved F F' w w'
  min : ∀ {W g w F} (y : Int), inInt y → (O W g).holds w F → Calls Try.prog f.min.id #[f.min.rv, .int .i64 y] w fun e w' => e = .returned (.tuple #[.int .i64 (minI W y), .bool (minB W y)]) ∧ ∃ g', (∀ x, R W 2 y x g g') ∧ ∃ F', (O W g').holds w' F' ∧ Moved F F' w w'
  ext : ∀ {W g w F} (y : Int), inInt y → (O W g).holds w F → Calls Try.prog f.ext.id #[f.ext.rv, .int .i64 y] w fun e w' => e = .returned (.tuple #[.int .i64 (minI W y), .bool (minB W y)]) ∧ ∃ g', (∀ x, R W 3 y x g g') ∧ ∃ F', (O (exW W y) g').holds w' F' ∧ Moved F F' w w'
  dec : ∀ {W g w F} (x k q : Int), inInt x → (O W g).holds w F → Calls Try.prog f.dec.id #[f.dec.rv, .int .i64 x, .agg #[.int .i64 k, .int .u64 q]] w fun e w' => e = .returned (.bool (lowerB W x k q)) ∧ ∃ g', (∀ y, R W 4 y x g g') ∧ ∃ F', (O (lowerW W x k q) g').holds w' F' ∧ Moved F F' w w'
  del : ∀ {W g w F} (x : Int), inInt x → (O W g).holds w F → Calls Try.prog f.del.id #[f.del.rv, .int .i64 x] w fun e w' => e = .returned (.bool (inW W x)) ∧ ∃ g', (∀ y, R W 5 y x g g') ∧ ∃ F', (O (dropW W x) g').holds w' F' ∧ Moved F F' w w'
  meld : ∀ {W g w F} (a b : Int), inInt a → inInt b → (O W g).holds w F → Calls Try.prog f.meld.id #[f.meld.rv, .int .i64 a, .int .i64 b] w fun e w' => e = .returned (.bool (joinBW W a b)) ∧ ∃ g', R W 6 a b g g' ∧ ∃ F', (O (joinW W a b) g').holds w' F' ∧ Moved F F' w w'
  mCap : Meth H T v "Capacity" f.cap
  mMake : Meth H T v "Make" f.make
  mIns : Meth H T v "Insert" f.ins
  mMin : Meth H T v "Min" f.min
  mExt : Meth H T v "Extract" f.ext
  mDec : Meth H T v "Decrease" f.dec
  mDel : Meth H T v "Delete" f.del
  mMeld : Meth H T v "Meld" f.meld
  mSteps : Meth H T v "Steps" f.steps
  mEntry : Meth H T v "Entry" f.entry
  mHome : Meth H T v "Home" f.home
  mHas : Meth H T v "Has" f.has
  mLen : Meth H T v "Len" f.len
section
variable {γ : Type} {O : WS → γ → Ob} {st : γ → Int} {R : WS → Int → Int → Int → γ → γ → Prop} {H : World → Prop} {T : TypeId} {v : Value} {f : NestFns}
theorem Nests.tells (N : Nests O st R H T v f) {W : WS} {g : γ} (h : W.Fit) : Tells (O W g) H W f.entry f.home f.has f.len where
  fit := h
  there h := N.there h
  entry x _ _ ho := N.entry x ho
  home x _ _ ho := N.home x ho
  has y _ _ ho := N.has y ho
  len y hy _ _ ho := N.len y hy ho
/-- What an act turns the document's nest into. -/
def doW (W : WS) (k y x q r : Int) : WS := if k = 0 then makeW W else if k = 1 then putW W y x q r else if k = 3 then exW W y else if k = 4 then lowerW W x q r else if k = 5 then dropW W x else if k = 6 then joinW W y x else W
end
end Go.Proofs.Ytlbbgdpdaelcdaa

namespace Go.Proofs.Ytlbbgdpdaelcdaa
open Go.RowKit Go.Sort

/-- Whoever is asked: the nest's own block, and its cells. -/
def Ob.dcells (p c d bm : Nat) (W : WS) (s : Int) : Ob := Ob.group [Ob.box p #[ptrV c, .int .i64 d, .map (some bm)] 32, Ob.cells c W s]
/-- A row of slots, at q; none, if there is nothing in it. -/
def drowO (d q : Nat) (l : List Int) : Ob := if l = [] then Ob.none else Ob.ex fun x : Nat × Value => Ob.group (rowO q x.1 x.2 d l)
def dfamO (d : Nat) (Ls : Nat → List Int) (qs : Nat → Nat) : Nat → Ob := fun h => drowO d (qs h) (Ls h)
def dmapO (Ls : Nat → List Int) (qs : Nat → Nat) : Int → Option Nat := fun h => if 0 ≤ h ∧ Ls h.toNat ≠ [] then some (qs h.toNat) else none
def daryParts (p c d bm : Nat) (W : WS) (s : Int) (f : Int → Option Nat) (g : Nat → Ob) : List Ob :=
  [Ob.dcells p c d bm W s, Ob.pmap Try.prog 3 bm f 65537, Ob.fam g]
/-- A nest of rows at p, whose cells are at c. -/
def Ob.dary (p c d : Nat) (W : WS) (s : Int) : Ob where
  holds w F := ∃ bm Ls qs, DInv W d Ls ∧ W.Fit ∧ (0 ≤ s ∧ s ≤ 4611686018427387904) ∧ (Ob.group (daryParts p c d bm W s (dmapO Ls qs) (dfamO d Ls qs))).holds w F
  keeps := fun ⟨bm, Ls, qs, h1, h2, h3, h⟩ k hn => ⟨bm, Ls, qs, h1, h2, h3, (Ob.group _).keeps h k hn⟩
  lt := fun ⟨_, _, _, _, _, _, h⟩ => (Ob.group _).lt h
def updQ (qs : Nat → Nat) (h q : Nat) : Nat → Nat := fun i => if i = h then q else qs i
theorem dupd_fam (d : Nat) (Ls : Nat → List Int) (qs : Nat → Nat) (h q : Nat) (ys : List Int) : updO (dfamO d Ls qs) h (drowO d q ys) = dfamO d (updI Ls h ys) (updQ qs h q) := by
  funext i
  unfold updO dfamO updI updQ
  split <;> rfl
theorem dupd_none (d : Nat) (Ls : Nat → List Int) (qs : Nat → Nat) (h : Nat) (hn : Ls h = []) : updO (dfamO d Ls qs) h Ob.none = dfamO d Ls qs := by
  funext i
  unfold updO dfamO
  split
  · rename_i e; subst e; simp [drowO, hn]
  · rfl
theorem dupd_map (Ls : Nat → List Int) (qs : Nat → Nat) (h q : Nat) (ys : List Int) : setP (dmapO Ls qs) h (if ys = [] then none else some q) = dmapO (updI Ls h ys) (updQ qs h q) := by
  funext i
  unfold setP dmapO updI updQ
  by_cases e : i = h
  · subst e
    simp only [if_true, Int.toNat_natCast, Int.natCast_nonneg, true_and]
    by_cases e2 : ys = [] <;> simp [e2]
  · rw [if_neg e]
    by_cases hi : 0 ≤ i
    · have : i.toNat ≠ h := by omega
      simp [this]
    · simp [hi]
theorem dzero_ptr (w : World) : (zeroValue 73).run Try.prog w = .ok (.pointer none) w := by kernel_rfl
/-- At p lies a pointer to the cells at c. -/
def daryH (p c : Nat) (w : World) : Prop := w.cell? ⟨p, 0, none⟩ = some (ptrV c)
/-- One question which slot is ahead. -/
def dR (s s' : Int) : Prop := s ≤ s' ∧ s' ≤ s + 1 ∧ 0 < s'
section
variable {w : World} {p c d bm : Nat} {W : WS} {s : Int} {F : Nat → Prop}
theorem dcells_cell (h : (Ob.dcells p c d bm W s).holds w F) : w.cell? ⟨p, 0, none⟩ = some (ptrV c) ∧ w.cell? ⟨p, 1, none⟩ = some (.int .i64 d) ∧ w.cell? ⟨p, 2, none⟩ = some (.map (some bm)) :=
  ⟨(Ob.group.open h).cell 0 rfl (o := 0) rfl, (Ob.group.open h).cell 0 rfl (o := 1) rfl, (Ob.group.open h).cell 0 rfl (o := 2) rfl⟩
theorem dcells_fit (h : (Ob.dcells p c d bm W s).holds w F) : W.Fit := by
  obtain ⟨G, ho⟩ := (Ob.group.open h).get (i := 1) rfl
  exact Ob.cells.fit ho
theorem dcells_steps (h : (Ob.dcells p c d bm W s).holds w F) : 0 ≤ s ∧ s ≤ 4611686018427387904 := by
  obtain ⟨G, ho⟩ := (Ob.group.open h).get (i := 1) rfl
  exact Ob.cells.steps ho
/-- A call on the cells. -/
theorem dcells_call {f : FuncId} {args : Array Value} {v : Value} {W' : WS} {s' : Int} (h : (Ob.dcells p c d bm W s).holds w F)
    (hc : ∀ G, (Ob.cells c W s).holds w G → Calls Try.prog f args w fun e w' => e = .returned v ∧ ∃ G', (Ob.cells c W' s').holds w' G' ∧ Moved G G' w w') :
    Calls Try.prog f args w fun e w' => e = .returned v ∧ ∃ F', (Ob.dcells p c d bm W' s').holds w' F' ∧ Moved F F' w w' :=
  ((Ob.group.open h).call 1 rfl hc).mono fun _ _ ⟨h1, h2⟩ => ⟨h1, h2.close ((Ob.dcells p c d bm W s).lt h)⟩
/-- .. that only asks. -/
theorem dcells_ask {f : FuncId} {args : Array Value} {v : Value} (h : (Ob.dcells p c d bm W s).holds w F) (hc : ∀ G, (Ob.cells c W s).holds w G → Calls Try.prog f args w fun e w' => e = .returned v ∧ w = w') :
    Calls Try.prog f args w fun e w' => e = .returned v ∧ w = w' := by
  obtain ⟨G, ho⟩ := (Ob.group.open h).get (i := 1) rfl
  exact hc G ho
end
theorem dload_cells {p c : Nat} {w : World} (h : daryH p c w) : (loadVar 29 ⟨p, 0, none⟩).run Try.prog w = .ok (ptrV c) w := by
  unfold daryH at h
  go_simp
/-- A method of the cells, by the nest. -/
theorem dm_prom {n : String} {f : FuncId} {p c : Nat} {w : World} (h : daryH p c w) (e : (method 260 23 (ptrV p) n).run Try.prog w = (do let v ← loadVar 29 ⟨p, 0, none⟩; pure (f, v) : Sem (FuncId × Value)).run Try.prog w) : (method 260 23 (ptrV p) n).run Try.prog w = .ok (f, ptrV c) w := by
  rw [e, Sem.run_bind, dload_cells h]
  rfl
/-- The nest as the order of its rows. -/
theorem dary_asks (p c d bm : Nat) (W : WS) : Asks (Ob.dcells p c d bm W) dR (fun x => inW W x = true) (aheadW W) (daryH p c) 23 (ptrV p) ⟨123, ptrV c⟩ where
  there h := (dcells_cell h).1
  meth := ⟨fun w h => dm_prom h (by kernel_rfl), fun _ _ => by kernel_rfl⟩
  ask := by
    intro s w F a b ha hb h
    have hs := dcells_steps h
    refine (dcells_call h (fun G ho => ahead_cl a b ho)).mono ?_
    rintro e w' ⟨rfl, h2⟩
    refine ⟨rfl, _, ?_, h2⟩
    have e2 : aheadS W s a b = addI s 1 := by simp [aheadS, ha, hb]
    rw [e2]
    unfold dR addI
    repeat' split
    all_goals omega
theorem strictM_ahead (W : WS) (P : Int → Prop) (h : ∀ x, P x → inW W x = true) : StrictM (aheadW W) P :=
  ⟨fun x _ => dahead_irr W x, fun _ _ _ _ _ _ a b => dahead_trans a b, fun x y hx hy hne e => dahead_total (h x hx) (h y hy) hne e⟩
theorem within_dR {n : Nat} {s s' : Int} (h : Within dR n s s') : s ≤ s' ∧ s' ≤ s + n := by
  obtain ⟨m, hm, h⟩ := h
  have : s ≤ s' ∧ s' ≤ s + m := by
    clear hm
    induction h with
    | none => exact ⟨Int.le_refl _, by omega⟩
    | more _ r ih => obtain ⟨r1, r2, _⟩ := r; omega
  omega
theorem asked_dR {s s' : Int} (h : askedR dR s s') : 0 < s' := by
  obtain ⟨t, r, m, h⟩ := h
  have h2 := (within_dR ⟨m, Nat.le_refl _, h⟩).1
  have := r.2.2
  omega
end Go.Proofs.Ytlbbgdpdaelcdaa

namespace Go.Proofs.Ytlbbgdpdaelcdaa
open Go.RowKit Go.Sort

/-- A row in hand, and the rest of the nest. -/
abbrev dhand (p c d bm : Nat) (W : WS) (s : Int) (f : Int → Option Nat) (g : Nat → Ob) (q b : Nat) (v : Value) (xs : List Int) : List Ob :=
  rowO q b v d xs ++ Ob.dcells p c d bm W s :: [Ob.pmap Try.prog 3 bm f 65537, Ob.fam g]
section
variable {F0 : Nat → Prop} {W0 w : World} {p c d bm : Nat} {W : WS} {s : Int} {f : Int → Option Nat} {g : Nat → Ob} {q b : Nat} {v : Value} {xs : List Int} {Ls : Nat → List Int} {qs : Nat → Nat}
/-- A heap's row in hand. -/
theorem dtake_hand (h : Stage F0 W0 (daryParts p c d bm W s f (dfamO d Ls qs)) w) (k : Nat) (hn : Ls k ≠ []) :
    ∃ b v, Stage F0 W0 (dhand p c d bm W s f (updO (dfamO d Ls qs) k Ob.none) (qs k) b v (Ls k)) w := by
  have h1 := h.pull 2 rfl k
  have e : dfamO d Ls qs k = Ob.ex fun x : Nat × Value => Ob.group (rowO (qs k) x.1 x.2 d (Ls k)) := by
    unfold dfamO drowO; rw [if_neg hn]
  rw [e] at h1
  obtain ⟨⟨b, v⟩, h2⟩ := h1.openEx
  exact ⟨b, v, h2.ungroup.select [3, 4, 5, 0, 1, 2] (by decide) rfl⟩
/-- .. laid back. -/
theorem dlay_hand (h : Stage F0 W0 (dhand p c d bm W s f g q b v xs) w) (k : Nat) (hg : g k = Ob.none) : Stage F0 W0 (daryParts p c d bm W s f (updO g k (drowO d q xs))) w := by
  by_cases e : xs = []
  · have e1 : drowO d q xs = Ob.none := by simp [drowO, e]
    have e2 : updO g k (drowO d q xs) = g := by
      rw [e1]; funext i; unfold updO; split
      · rename_i e; subst e; exact hg.symm
      · rfl
    rw [e2]
    exact h.select [3, 4, 5] (by decide) rfl
  · have e1 : drowO d q xs = Ob.ex fun x : Nat × Value => Ob.group (rowO q x.1 x.2 d xs) := by simp [drowO, e]
    have h1 := h.select [3, 4, 5, 0, 1, 2] (by decide) rfl
    have h2 : Stage F0 W0 ([Ob.dcells p c d bm W s, Ob.pmap Try.prog 3 bm f 65537, Ob.fam g] ++ rowO q b v d xs) w := h1
    have h3 := h2.regroup.closeEx (O := fun x : Nat × Value => Ob.group (rowO q x.1 x.2 d xs)) (b, v)
    rw [← e1] at h3
    exact h3.push 2 rfl k hg
/-- 'row', where there is one. -/
theorem drow_st (hs : Stage F0 W0 (daryParts p c d bm W s (dmapO Ls qs) g) w) (k : Nat) (hk : k < 65537) (hn : Ls k ≠ []) :
    Calls Try.prog 39 #[.pointer (some ⟨p, 0, none⟩), .int .i64 k] w fun e w' => e = .returned (.pointer (some ⟨qs k, 0, none⟩)) ∧ w = w' := by
  have p2 := (hs.get (i := 0) rfl).elim fun _ h => (dcells_cell h).2.2
  have hL := hs.lookP 1 rfl Try.underlying30 Try.underlying3 (dzero_ptr w) k (by omega)
  have e : dmapO Ls qs k = some (qs k) := by simp [dmapO, hn]
  rw [e] at hL
  replace hL : (Instr.lookup 30 (.map (some bm)) (.int .i64 k) true).run Try.prog w = .ok (.tuple #[.pointer (some ⟨qs k, 0, none⟩), .bool true]) w := hL
  generalize qs k = q at *
  go_enter Try.func39, Try.ntmps39
  go_wp2_with fail
  go_ret
  exact ⟨rfl, rfl⟩
/-- .. where there is none, whatever else is there. -/
theorem drow_none {l : List Ob} (hs : Stage F0 W0 l w) (i : Nat) (hi : l[i]? = some (Ob.dcells p c d bm W s)) (m : Nat) (hm : l[m]? = some (Ob.pmap Try.prog 3 bm f 65537)) (hd : 2 ≤ d ∧ d ≤ 16) (k : Nat) (hk : k < 65537) (hf : f k = none) :
    Calls Try.prog 39 #[.pointer (some ⟨p, 0, none⟩), .int .i64 k] w fun e w' => ∃ q b, e = .returned (.pointer (some ⟨q, 0, none⟩)) ∧ Stage F0 W0 (l ++ rowO q b (.slice none 0 0) d []) w' := by
  obtain ⟨_, p1, p2⟩ := (hs.get hi).elim fun _ h => dcells_cell h
  have hL := hs.lookP m hm Try.underlying30 Try.underlying3 (dzero_ptr w) k (by omega)
  rw [hf] at hL
  replace hL : (Instr.lookup 30 (.map (some bm)) (.int .i64 k) true).run Try.prog w = .ok (.tuple #[.pointer none, .bool false]) w := hL
  have hN := snew_st hs d hd
  go_enter Try.func39, Try.ntmps39
  go_wp2_with fail
  refine hN.mono ?_
  rintro e w1 ⟨rfl, hs2⟩
  go_wp2_with fail
  go_ret
  exact ⟨_, _, rfl, hs2⟩
theorem drow_some {l : List Ob} (hs : Stage F0 W0 l w) (i : Nat) (hi : l[i]? = some (Ob.dcells p c d bm W s)) (m : Nat) (hm : l[m]? = some (Ob.pmap Try.prog 3 bm f 65537)) (k : Nat) (hk : k < 65537) (hf : f k = some q) :
    Calls Try.prog 39 #[.pointer (some ⟨p, 0, none⟩), .int .i64 k] w fun e w' => e = .returned (.pointer (some ⟨q, 0, none⟩)) ∧ w = w' := by
  have p2 := (hs.get hi).elim fun _ h => (dcells_cell h).2.2
  have hL := hs.lookP m hm Try.underlying30 Try.underlying3 (dzero_ptr w) k (by omega)
  rw [hf] at hL
  replace hL : (Instr.lookup 30 (.map (some bm)) (.int .i64 k) true).run Try.prog w = .ok (.tuple #[.pointer (some ⟨q, 0, none⟩), .bool true]) w := hL
  go_enter Try.func39, Try.ntmps39
  go_wp2_with fail
  go_ret
  exact ⟨rfl, rfl⟩
/-- 'row', whatever there is: it is in hand. -/
theorem drow_hand (hs : Stage F0 W0 (daryParts p c d bm W s (dmapO Ls qs) (dfamO d Ls qs)) w) (hd : 2 ≤ d ∧ d ≤ 16) (k : Nat) (hk : k < 65537) :
    Calls Try.prog 39 #[.pointer (some ⟨p, 0, none⟩), .int .i64 k] w fun e w' => ∃ q b v, e = .returned (.pointer (some ⟨q, 0, none⟩)) ∧ Stage F0 W0 (dhand p c d bm W s (dmapO Ls qs) (updO (dfamO d Ls qs) k Ob.none) q b v (Ls k)) w' := by
  by_cases hn : Ls k = []
  · have e : dmapO Ls qs k = none := by simp [dmapO, hn]
    refine (drow_none hs 0 rfl 1 rfl hd k hk e).mono ?_
    rintro e w' ⟨q, b, rfl, h⟩
    rw [dupd_none d Ls qs k hn, hn]
    exact ⟨_, _, _, rfl, h.select [3, 4, 5, 0, 1, 2] (by decide) rfl⟩
  · obtain ⟨b, v, h⟩ := dtake_hand hs k hn
    refine (drow_st hs k hk hn).mono ?_
    rintro e w' ⟨rfl, rfl⟩
    exact ⟨_, b, v, rfl, h⟩
set_option maxRecDepth 100000 in
/-- 'keep'. -/
theorem dkeep_st (hs : Stage F0 W0 (dhand p c d bm W s f g q b v xs) w) (k : Nat) (hk : k < 65537) (hg : g k = Ob.none) :
    Calls Try.prog 41 #[.pointer (some ⟨p, 0, none⟩), .int .i64 k, .pointer (some ⟨q, 0, none⟩)] w fun e w' => e = .returned (.tuple #[]) ∧ Stage F0 W0 (daryParts p c d bm W s (setP f k (if xs = [] then none else some q)) (updO g k (drowO d q xs))) w' := by
  have hL := slen_st hs
  have p2 := (hs.get (i := 3) rfl).elim fun _ h => (dcells_cell h).2.2
  by_cases hn : xs = []
  · have hl0 : (xs.length : Int) = 0 := by rw [hn]; rfl
    rw [hl0] at hL
    rw [if_pos hn]
    go_enter Try.func41, Try.ntmps41
    go_wp2_with fail
    refine hL.mono ?_
    rintro e w1 ⟨rfl, rfl⟩
    go_wp2_with (at_delete; refine hs.wp_deleteP 4 rfl rfl _ _ rfl Try.underlying30 Try.underlying3 rfl k rfl (by omega) ?_)
    intro w2 hs2
    have hs3 := dlay_hand hs2 k hg
    go_wp2_with fail
    exact bodyPost_ret (results_none rfl _ _ _) rfl ⟨rfl, by rw [hn]; exact hs3⟩
  · have hl0 : ((xs.length : Int) == 0) = false := by
      have := List.length_pos_iff.2 hn
      simp; omega
    rw [if_neg hn]
    generalize hm : (xs.length : Int) = m at hL hl0
    go_enter Try.func41, Try.ntmps41
    go_wp2_with fail
    refine hL.mono ?_
    rintro e w1 ⟨rfl, rfl⟩
    go_wp2_with (at_mapUpdate; refine hs.wp_putP 4 rfl rfl _ _ _ rfl Try.underlying30 Try.underlying3 (by unfold maxLen; omega) rfl k q rfl rfl hk ?_)
    intro w2 hs2
    have hs3 := dlay_hand hs2 k hg
    go_wp2_with fail
    go_end0
    exact ⟨rfl, hs3⟩
end
end Go.Proofs.Ytlbbgdpdaelcdaa
