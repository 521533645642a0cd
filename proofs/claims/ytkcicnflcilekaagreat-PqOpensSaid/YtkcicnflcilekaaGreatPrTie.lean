/- Merged of BinNests, FibMath, FbForest, PrMath, PrTie. -/
import Derived.Test.YtkcicnflcilekaaGreatBinNest5
import Derived.Test.YtkcicnflcilekaaGreatPqHeld
import Derived.Test.YtkcicnflcilekaaGreatSiftRunsMath
import GoSem.ClaimData
import Derived.Test.YtkcicnflcilekaaGreatCarryMath
import Derived.Test.YtkcicnflcilekaaGreatRow
namespace Go.Proofs.YtkcicnflcilekaaGreat
open Go.RowKit Go.Sort

/-- The functions that such a nest's calls enter. -/
def binFns (p c : Nat) : NestFns where
  make := ⟨139, ptrV c⟩
  ins := ⟨177, ptrV p⟩
  min := ⟨179, ptrV p⟩
  steps := ⟨142, ptrV c⟩
  entry := ⟨134, ptrV c⟩
  has := ⟨135, ptrV c⟩
section
variable {w : World} {p c : Nat} {W : WS} {s : Int} {F : Nat → Prop}
theorem bin_there (h : (Ob.binom p c W s).holds w F) : binH p c w := by
  obtain ⟨f, t, bm, n, K, R, vs, _, _, _, hg⟩ := h
  exact bn_p0 (q := []) (Ob.group.open hg)
theorem bin_fit (h : (Ob.binom p c W s).holds w F) : W.Fit := by
  obtain ⟨f, t, bm, n, K, R, vs, _, h, _, hg⟩ := h; exact h
/-- A call on the cells alone. -/
theorem bin_cells {f : FuncId} {args : Array Value} {v : Value} {W' : WS} (h : (Ob.binom p c W s).holds w F) (hW : W'.cells = W.cells)
    (hc : ∀ G, (Ob.cells c W s).holds w G → Calls Tryz.prog f args w fun e w' => e = .returned v ∧ ∃ G', (Ob.cells c W' s).holds w' G' ∧ Moved G G' w w') :
    Calls Tryz.prog f args w fun e w' => e = .returned v ∧ ∃ F', (Ob.binom p c W' s).holds w' F' ∧ Moved F F' w w' := by
  have hF := (Ob.binom p c W s).lt h
  obtain ⟨f, t, bm, n, K, R, vs, A, hf, _, hg⟩ := h
  have hs := Ob.group.open hg
  refine (hs.call 1 rfl hc).mono ?_
  rintro e w' ⟨rfl, hs1⟩
  have hs2 : Stage F w (binParts p f c t bm n W' s K (rowsM R vs) (rowsF R vs)) w' := hs1
  exact ⟨rfl, binom_close hs2 hF (A.congr hW)⟩
/-- .. that only asks. -/
theorem bin_ask {f : FuncId} {args : Array Value} {v : Value} (h : (Ob.binom p c W s).holds w F) (hc : ∀ G, (Ob.cells c W s).holds w G → Calls Tryz.prog f args w fun e w' => e = .returned v ∧ Below w.heap.size w w') :
    Calls Tryz.prog f args w fun e w' => e = .returned v ∧ Below w.heap.size w w' := by
  obtain ⟨f, t, bm, n, K, R, vs, A, hf, _, hg⟩ := h
  obtain ⟨G, ho⟩ := (Ob.group.open hg).get (i := 1) rfl
  exact hc G ho
theorem bsame_below {f : FuncId} {args : Array Value} {v : Value} (h : Calls Tryz.prog f args w fun e w' => e = .returned v ∧ w = w') : Calls Tryz.prog f args w fun e w' => e = .returned v ∧ Below w.heap.size w w' := h.mono fun _ _ ⟨h1, h2⟩ => ⟨h1, by subst h2; exact Below.refl _ _⟩
end
abbrev btoMeter : FieldStep := { struct := 226, index := 0, deref := true }
theorem bload_cells {p c : Nat} {w : World} (h : binH p c w) : (loadVar 166 ⟨p, 0, none⟩).run Tryz.prog w = .ok (ptrV c) w := by
  unfold binH at h
  go_simp
/-- A method of the cells, by the nest. -/
theorem bm_prom {n : String} {f : FuncId} {p c : Nat} {w : World} (h : binH p c w) (e : (method 470 131 (ptrV p) n).run Tryz.prog w = (do let v ← loadVar 166 ⟨p, 0, none⟩; pure (f, v) : Sem (FuncId × Value)).run Tryz.prog w) : (method 470 131 (ptrV p) n).run Tryz.prog w = .ok (f, ptrV c) w := by
  rw [e, Sem.run_bind, bload_cells h]
  rfl
set_option maxRecDepth 100000 in
theorem bm_steps {p c : Nat} {w : World} (h : binH p c w) : (method 470 131 (ptrV p) "Steps").run Tryz.prog w = .ok (142, ptrV c) w := by
  have e : (method 470 131 (ptrV p) "Steps").run Tryz.prog w = (do let x ← follow [btoMeter] 166 (.var ⟨p, 0, none⟩); let r ← receiverAt x.1 x.2 true none; pure (142, r) : Sem (FuncId × Value)).run Tryz.prog w := by kernel_rfl
  have e1 : (follow [btoMeter] 166 (.var ⟨p, 0, none⟩)).run Tryz.prog w = (do let v ← loadVar 166 ⟨p, 0, none⟩; follow [btoMeter] 166 (.val v)).run Tryz.prog w := by kernel_rfl
  have e2 : (follow [btoMeter] 166 (.val (ptrV c))).run Tryz.prog w = .ok (224, .var ⟨c, 0, none⟩) w := by kernel_rfl
  have e3 : (follow [btoMeter] 166 (.var ⟨p, 0, none⟩)).run Tryz.prog w = .ok (224, .var ⟨c, 0, none⟩) w := by
    rw [e1, Sem.run_bind, bload_cells h, Result.andThen_ok]
    exact e2
  have e4 : (do let r ← receiverAt 224 (.var ⟨c, 0, none⟩) true none; pure (142, r) : Sem (FuncId × Value)).run Tryz.prog w = .ok (142, ptrV c) w := by kernel_rfl
  rw [e, Sem.run_bind, e3, Result.andThen_ok]
  exact e4
theorem made_cells (W : WS) : (makeW W).cells = W.cells := by unfold makeW; split <;> rfl
theorem bin_nests (p c : Nat) : Nests (fun W s => Ob.binom p c W s) id (binH p c) 131 (ptrV p) (binFns p c) where
  there := bin_there
  fit h := bin_fit h
  entry x h := bin_ask h fun _ ho => entry_cl x ho
  has y h := bin_ask h fun _ ho => bsame_below (has_cl y ho)
  steps h := bin_ask h fun _ ho => bsame_below (steps_cl ho)
  make {W g w F} h := (bin_cells h (W' := makeW W) (made_cells W) fun _ ho => make_cl ho).mono fun e w' ⟨h1, h2⟩ => ⟨h1, g, h2⟩
  ins y x k q _ _ h := (insert_bn y x k q h).mono fun e w' ⟨h1, s', _, h4⟩ => ⟨h1, s', h4⟩
  min y hy h := (min_bn y hy h).mono fun e w' ⟨h1, s', _, h4⟩ => ⟨h1, s', h4⟩
  mMake := ⟨fun w h => bm_prom h (by kernel_rfl), fun _ _ => by kernel_rfl⟩
  mIns := ⟨fun _ _ => by kernel_rfl, fun _ _ => by kernel_rfl⟩
  mMin := ⟨fun _ _ => by kernel_rfl, fun _ _ => by kernel_rfl⟩
  mSteps := ⟨fun w h => bm_steps h, fun _ _ => by kernel_rfl⟩
  mEntry := ⟨fun w h => bm_prom h (by kernel_rfl), fun _ _ => by kernel_rfl⟩
  mHas := ⟨fun w h => bm_prom h (by kernel_rfl), fun _ _ => by kernel_rfl⟩
end Go.Proofs.YtkcicnflcilekaaGreat

namespace Go.Proofs.YtkcicnflcilekaaGreat


/-! ### what keeps it so: of each child how many children it has, or had when it came there -/
def SparseE (E : List Nat) : Prop := ∀ j, (E.filter fun e => decide (e < j)).length ≤ j
theorem sparseE_nil : SparseE [] := fun j => by simp
end Go.Proofs.YtkcicnflcilekaaGreat

namespace Go.Proofs.YtkcicnflcilekaaGreat

def inB (n : Nat) (x : Int) : Prop := 0 ≤ x ∧ x < n
/-- Each thing hangs once, and none below itself. -/
structure FbInv (n : Nat) (K : Int → List Int) : Prop where
  rng : ∀ p x, x ∈ K p → inB n p ∧ inB n x
  one : ∀ p q x, x ∈ K p → x ∈ K q → p = q
  nodup : ∀ p, (K p).Nodup
  low : ∃ m : Int → Nat, ∀ p x, x ∈ K p → m x < m p
def fbTop (K : Int → List Int) (x : Int) : Prop := ∀ p, x ∉ K p
/-- y is x, or anywhere below it. -/
inductive Des (K : Int → List Int) (x : Int) : Int → Prop
  | refl : Des K x x
  | step {p y : Int} : Des K x p → y ∈ K p → Des K x y
section
variable {n : Nat} {K : Int → List Int}
/-- Above each thing there is a topmost one. -/
theorem Des.root (I : FbInv n K) (y : Int) : ∃ r, fbTop K r ∧ Des K r y := by
  obtain ⟨m, hm⟩ := I.low
  -- so far up there is room
  have hb : ∃ b, ∀ p x, x ∈ K p → m p ≤ b := by
    refine ⟨((List.range n).map fun i : Nat => m (i : Int)).sum, fun p x h => ?_⟩
    have hp := (I.rng p x h).1
    have hmem : m p ∈ (List.range n).map fun i : Nat => m (i : Int) := List.mem_map.2 ⟨p.toNat, List.mem_range.2 (by have := hp.2; have := hp.1; omega), by rw [show ((p.toNat : Nat) : Int) = p by have := hp.1; omega]⟩
    generalize (List.range n).map (fun i : Nat => m (i : Int)) = l at hmem ⊢
    induction l with
    | nil => cases hmem
    | cons a l ih =>
      rw [List.sum_cons]
      rcases List.mem_cons.1 hmem with e | e
      · omega
      · have := ih e; omega
  obtain ⟨b, hb⟩ := hb
  have hgo : ∀ (k : Nat) (y : Int), b + 1 - m y ≤ k → ∃ r, fbTop K r ∧ Des K r y := by
    intro k
    induction k with
    | zero =>
      intro y hk
      refine ⟨y, fun p hp => ?_, .refl⟩
      have := hb p y hp
      have := hm p y hp
      omega
    | succ k ih =>
      intro y hk
      by_cases h : ∃ p, y ∈ K p
      · obtain ⟨p, hp⟩ := h
        have h1 := hb p y hp
        have h2 := hm p y hp
        obtain ⟨r, hr, h3⟩ := ih p (by omega)
        exact ⟨r, hr, .step h3 hp⟩
      · exact ⟨y, fun p hp => h ⟨p, hp⟩, .refl⟩
  exact hgo _ y (Nat.le_refl _)
/-! ### all that is below a thing, as a list -/
theorem ints_nodup (n : Nat) : ((List.range n).map fun i : Nat => (i : Int)).Nodup := by
  rw [List.nodup_iff_pairwise_ne, List.pairwise_map]
  exact List.nodup_range.imp fun h e => h (by omega)
theorem mem_ints {n : Nat} {y : Int} : y ∈ (List.range n).map (fun i : Nat => (i : Int)) ↔ inB n y := by
  rw [List.mem_map]
  constructor
  · rintro ⟨i, hi, rfl⟩; rw [List.mem_range] at hi; exact ⟨by omega, by omega⟩
  · rintro ⟨h1, h2⟩; exact ⟨y.toNat, List.mem_range.2 (by omega), by omega⟩
/-! ### what is hung, cut, and comes off -/
def fbHang (K : Int → List Int) (a : Int) (l : List Int) : Int → List Int := fun z => if z = a then l else K z
theorem hang_inv (I : FbInv n K) {a b : Int} {l : List Int} (ha : inB n a) (hb : inB n b) (ta : fbTop K a) (tb : fbTop K b) (hne : a ≠ b) (hl : l.Perm (b :: K a)) : FbInv n (fbHang K a l) := by
  have hm : ∀ p x, x ∈ fbHang K a l p ↔ x ∈ K p ∨ p = a ∧ x = b := fun p x => by
    unfold fbHang
    by_cases e : p = a
    · subst e; rw [if_pos rfl, hl.mem_iff, List.mem_cons]
      constructor
      · rintro (h | h)
        · exact Or.inr ⟨rfl, h⟩
        · exact Or.inl h
      · rintro (h | ⟨_, h⟩)
        · exact Or.inr h
        · exact Or.inl h
    · rw [if_neg e]; simp [e]
  refine ⟨fun p x h => ?_, fun p q x h1 h2 => ?_, fun p => ?_, ?_⟩
  · rcases (hm p x).1 h with h | ⟨rfl, rfl⟩
    · exact I.rng p x h
    · exact ⟨ha, hb⟩
  · rcases (hm p x).1 h1 with h1 | ⟨rfl, rfl⟩
    · rcases (hm q x).1 h2 with h2 | ⟨_, e⟩
      · exact I.one p q x h1 h2
      · exact absurd (e ▸ h1) (tb p)
    · rcases (hm q _).1 h2 with h2 | ⟨e, _⟩
      · exact absurd h2 (tb q)
      · exact e.symm
  · unfold fbHang; split
    · rw [hl.nodup_iff]; exact List.nodup_cons.2 ⟨tb a, I.nodup a⟩
    · exact I.nodup p
  · obtain ⟨m, hm2⟩ := I.low
    refine ⟨fun z => if z = a then m a + m b + 1 else m z, fun p x h => ?_⟩
    rcases (hm p x).1 h with h | ⟨rfl, rfl⟩
    · have h1 := hm2 p x h
      have hxa : x ≠ a := fun e => ta p (e ▸ h)
      show (if x = a then _ else m x) < (if p = a then _ else m p)
      rw [if_neg hxa]
      split
      · rename_i e; subst e; omega
      · exact h1
    · show (if x = p then _ else m x) < (if p = p then _ else m p)
      rw [if_pos rfl, if_neg (fun e => hne e.symm)]
      omega
end
end Go.Proofs.YtkcicnflcilekaaGreat

namespace Go.Proofs.YtkcicnflcilekaaGreat

/-- All slots of a heap. -/
def slotsW (W : WS) (h : Nat) : List Int := if h = 0 then [] else ((List.range W.cells.length).map fun i : Nat => (i : Int)).filter fun y => (cellW W y).home == h
theorem homes_all (W : WS) : HomeInv W (slotsW W) := by
  refine ⟨fun h x hp => ?_, rfl, fun h => ?_⟩
  · unfold slotsW
    rw [if_neg (by omega), List.mem_filter, mem_ints]
    simp only [beq_iff_eq]
    constructor
    · exact fun h => h.2
    · intro e
      obtain ⟨k, h2, h3, _⟩ := dcell_in hp e
      exact ⟨⟨by omega, by omega⟩, e⟩
  · unfold slotsW; split
    · exact List.nodup_nil
    · exact (ints_nodup _).filter _
theorem in_home {W : WS} {x : Int} : inW W x = true ↔ 1 ≤ (cellW W x).home := by
  unfold inW
  rw [bne_iff_ne]; omega
theorem prin_slot {W : WS} {x : Int} (h : inW W x = true) : inB W.cells.length x := by
  obtain ⟨k, h2, h3, _⟩ := dcell_in (in_home.1 h) rfl
  exact ⟨by omega, by omega⟩
structure PrF (W : WS) (K : Int → List Int) : Prop where
  fb : FbInv W.cells.length K
  kin : ∀ p x, x ∈ K p → inW W x = true ∧ (cellW W x).home = (cellW W p).home ∧ aheadW W x p = false
structure PrMid (W : WS) (K : Int → List Int) (R : Nat → Option Int) (E : Int → Prop) : Prop where
  f : PrF W K
  top : ∀ x, inW W x = true → fbTop K x → R (cellW W x).home = some x ∨ E x
  is : ∀ h x, R h = some x → 1 ≤ h ∧ inW W x = true ∧ (cellW W x).home = h ∧ fbTop K x ∧ ¬ E x
  pend : ∀ x, E x → inW W x = true ∧ fbTop K x
abbrev noE : Int → Prop := fun _ => False
section
variable {W : WS} {K : Int → List Int} {R : Nat → Option Int} {E : Int → Prop}
theorem PrF.par (I : PrF W K) {p x : Int} (h : x ∈ K p) : inW W p = true := by
  obtain ⟨h1, h2, _⟩ := I.kin p x h
  rw [in_home] at h1 ⊢; omega
theorem PrF.out (I : PrF W K) {x : Int} (h : inW W x = false) : fbTop K x ∧ K x = [] := by
  refine ⟨fun p hp => ?_, ?_⟩
  · rw [(I.kin p x hp).1] at h; cases h
  · cases e : K x with
    | nil => rfl
    | cons y l => rw [I.par (x := y) (by rw [e]; simp)] at h; cases h
theorem PrF.root (I : PrF W K) {x : Int} (h : inW W x = true) : ∃ r, fbTop K r ∧ inW W r = true ∧ (cellW W r).home = (cellW W x).home ∧ aheadW W x r = false := by
  obtain ⟨r, hr, hd⟩ := Des.root I.fb x
  refine ⟨r, hr, ?_⟩
  clear hr
  revert h
  induction hd with
  | refl => exact fun h => ⟨h, rfl, dahead_irr _ _⟩
  | @step p y _ hy ih =>
    intro h
    obtain ⟨h1, h2, h3⟩ := ih (I.par hy)
    obtain ⟨_, k2, k3⟩ := I.kin p y hy
    exact ⟨h1, h2.trans k2.symm, hm_neg h (I.par hy) k3 h3⟩
theorem PrMid.min (I : PrMid W K R noE) {h : Nat} {x : Int} (hx : R h = some x) : ∃ k : Nat, x = k ∧ IsMin W h k := by
  obtain ⟨h1, h2, h3, _⟩ := I.is h x hx
  refine (homes_all W).min (((homes_all W).mem h x h1).2 h3) fun y hy => ?_
  obtain ⟨_, h4, h5, _⟩ := (homes_all W).in' hy
  obtain ⟨r, r1, r2, r3, r4⟩ := I.f.root h5
  rcases I.top r r2 r1 with e | e
  · rw [r3, h4, hx] at e; cases e; exact r4
  · exact e.elim
theorem PrMid.none (I : PrMid W K R noE) {h : Nat} (hp : 1 ≤ h) (hx : R h = none) : lenW W h = 0 := by
  rw [← (homes_all W).empty hp]
  cases e : slotsW W h with
  | nil => rfl
  | cons y l =>
    obtain ⟨_, h4, h5, _⟩ := (homes_all W).in' (show y ∈ slotsW W h by rw [e]; simp)
    obtain ⟨r, r1, r2, r3, r4⟩ := I.f.root h5
    rcases I.top r r2 r1 with e | e
    · rw [r3, h4, hx] at e; cases e
    · exact e.elim
theorem PrMid.zero (I : PrMid W K R E) : R 0 = .none := by
  cases e : R 0 with
  | none => rfl
  | some x => have := (I.is 0 x e).1; omega
/-! ### what links and cuts turn -/
def linkC (W : WS) (a b : Int) : Int := if aheadW W b a then b else a
def linkD (W : WS) (a b : Int) : Int := if aheadW W b a then a else b
def linkP (W : WS) (K : Int → List Int) (a b : Int) : Int → List Int := fbHang K (linkC W a b) (linkD W a b :: K (linkC W a b))
theorem mem_hang {a b p x : Int} {l : List Int} : x ∈ fbHang K a (b :: l) p ↔ (p = a ∧ (x = b ∨ x ∈ l)) ∨ (p ≠ a ∧ x ∈ K p) := by
  unfold fbHang
  by_cases e : p = a
  · rw [if_pos e]; simp [e]
  · rw [if_neg e]; simp [e]
theorem PrMid.same (I : PrMid W K R E) {E' : Int → Prop} (h : ∀ y, E' y ↔ E y) : PrMid W K R E' :=
  ⟨I.f, fun x h1 h2 => (I.top x h1 h2).imp_right (h x).2, fun g x h1 => by obtain ⟨a, b, c, d, e⟩ := I.is g x h1; exact ⟨a, b, c, d, fun k => e ((h x).1 k)⟩, fun x h1 => I.pend x ((h x).1 h1)⟩
theorem linkCD (a b : Int) : (linkC W a b = a ∧ linkD W a b = b ∧ aheadW W b a = false) ∨ (linkC W a b = b ∧ linkD W a b = a ∧ aheadW W a b = false) := by
  unfold linkC linkD
  cases h : aheadW W b a
  · exact Or.inl ⟨rfl, rfl, rfl⟩
  · exact Or.inr ⟨rfl, rfl, hm_asym h⟩
theorem PrF.hang (I : PrF W K) {c d : Int} (hc : inW W c = true) (hd : inW W d = true) (tc : fbTop K c) (td : fbTop K d) (hne : c ≠ d) (hh : (cellW W c).home = (cellW W d).home) (ha : aheadW W d c = false) :
    PrF W (fbHang K c (d :: K c)) ∧ ∀ y, fbTop (fbHang K c (d :: K c)) y ↔ fbTop K y ∧ y ≠ d := by
  refine ⟨⟨hang_inv I.fb (prin_slot hc) (prin_slot hd) tc td hne (List.Perm.refl _), fun p x h => ?_⟩, fun y => ⟨fun h => ⟨fun p hp => ?_, fun e => ?_⟩, fun h p hp => ?_⟩⟩
  · rcases mem_hang.1 h with ⟨rfl, rfl | h⟩ | ⟨_, h⟩
    · exact ⟨hd, hh.symm, ha⟩
    · exact I.kin _ _ h
    · exact I.kin _ _ h
  · refine h p (mem_hang.2 ?_)
    by_cases e : p = c
    · subst e; exact Or.inl ⟨rfl, Or.inr hp⟩
    · exact Or.inr ⟨e, hp⟩
  · exact h c (mem_hang.2 (Or.inl ⟨rfl, Or.inl e⟩))
  · rcases mem_hang.1 hp with ⟨rfl, e | hp⟩ | ⟨_, hp⟩
    · exact h.2 e
    · exact h.1 _ hp
    · exact h.1 _ hp
theorem PrF.link (I : PrF W K) {a b : Int} (hc : inW W a = true) (hd : inW W b = true) (tc : fbTop K a) (td : fbTop K b) (hne : a ≠ b) (hh : (cellW W a).home = (cellW W b).home) :
    PrF W (linkP W K a b) ∧ ∀ y, fbTop (linkP W K a b) y ↔ fbTop K y ∧ y ≠ linkD W a b := by
  unfold linkP
  rcases linkCD (W := W) a b with ⟨e1, e2, e3⟩ | ⟨e1, e2, e3⟩ <;> rw [e1, e2]
  · exact I.hang hc hd tc td hne hh e3
  · exact I.hang hd hc td tc (fun e => hne e.symm) hh.symm e3
/-- A root comes to its heap's tree. -/
theorem PrMid.add0 {h : Nat} {t : Int} (I : PrMid W K R fun y => y = t ∨ E y) (ht : ¬ E t) (hh : (cellW W t).home = h) (hR : R h = Option.none) : PrMid W K (fun g => if g = h then some t else R g) E := by
  obtain ⟨h1, h2⟩ := I.pend t (Or.inl rfl)
  refine ⟨I.f, fun x k1 k2 => ?_, fun g x k => ?_, fun x k => I.pend x (Or.inr k)⟩
  · rcases I.top x k1 k2 with e | e | e
    · refine Or.inl ?_
      show (if _ then _ else _) = _
      rw [if_neg]
      · exact e
      · intro k; rw [k, hR] at e; cases e
    · subst e; exact Or.inl (if_pos hh)
    · exact Or.inr e
  · split at k
    · rename_i e; cases k; subst e
      exact ⟨by rw [← hh]; exact in_home.1 h1, h1, hh, h2, ht⟩
    · obtain ⟨a, b, c, d, e⟩ := I.is g x k
      exact ⟨a, b, c, d, fun e2 => e (Or.inr e2)⟩
theorem PrMid.add1 {h : Nat} {t f : Int} (I : PrMid W K R fun y => y = t ∨ E y) (ht : ¬ E t) (hh : (cellW W t).home = h) (hR : R h = some f) :
    (f ≠ t ∧ inW W f = true ∧ inW W t = true ∧ fbTop K f ∧ fbTop K t) ∧ (linkC W f t = f ∨ linkC W f t = t) ∧ PrMid W (linkP W K f t) (fun g => if g = h then some (linkC W f t) else R g) E ∧ ∀ y, E y → linkP W K f t y = K y := by
  obtain ⟨h1, h2⟩ := I.pend t (Or.inl rfl)
  obtain ⟨f1, f2, f3, f4, f5⟩ := I.is h f hR
  have hne : f ≠ t := fun e => f5 (Or.inl e)
  have hfE : ¬ E f := fun e => f5 (Or.inr e)
  obtain ⟨F, T⟩ := I.f.link f2 h1 f4 h2 hne (f3.trans hh.symm)
  have hCD := linkCD (W := W) f t
  have hC : inW W (linkC W f t) = true ∧ (cellW W (linkC W f t)).home = h ∧ fbTop K (linkC W f t) ∧ ¬ E (linkC W f t) ∧ linkC W f t ≠ linkD W f t := by
    rcases hCD with ⟨e1, e2, _⟩ | ⟨e1, e2, _⟩ <;> rw [e1, e2]
    · exact ⟨f2, f3, f4, hfE, hne⟩
    · exact ⟨h1, hh, h2, ht, fun e => hne e.symm⟩
  have hD : ¬ E (linkD W f t) := by rcases hCD with ⟨_, e2, _⟩ | ⟨_, e2, _⟩ <;> rw [e2] <;> assumption
  refine ⟨⟨hne, f2, h1, f4, h2⟩, hCD.imp (fun e => e.1) (fun e => e.1), ⟨F, fun x k1 k2 => ?_, fun g x k => ?_, fun x k => ⟨(I.pend x (Or.inr k)).1, (T x).2 ⟨(I.pend x (Or.inr k)).2, fun e => hD (e ▸ k)⟩⟩⟩, fun y hy => ?_⟩
  · obtain ⟨k3, k4⟩ := (T x).1 k2
    rcases I.top x k1 k3 with e | e | e
    · refine Or.inl ?_
      show (if _ then _ else _) = _
      split
      · rename_i e2; rw [e2, hR] at e; cases e
        rcases hCD with ⟨e1, e2, _⟩ | ⟨e1, e2, _⟩
        · rw [e1]
        · rw [e2] at k4; exact absurd rfl k4
      · exact e
    · subst e
      refine Or.inl ?_
      show (if _ then _ else _) = _
      rw [if_pos hh]
      rcases hCD with ⟨e1, e2, _⟩ | ⟨e1, e2, _⟩
      · rw [e2] at k4; exact absurd rfl k4
      · rw [e1]
    · exact Or.inr e
  · split at k
    · rename_i e; cases k; subst e
      exact ⟨f1, hC.1, hC.2.1, (T _).2 ⟨hC.2.2.1, hC.2.2.2.2⟩, hC.2.2.2.1⟩
    · rename_i e2
      obtain ⟨a, b, c, d, e⟩ := I.is g x k
      refine ⟨a, b, c, (T x).2 ⟨d, fun e3 => ?_⟩, fun e2 => e (Or.inr e2)⟩
      have : (cellW W (linkD W f t)).home = h := by rcases hCD with ⟨_, e4, _⟩ | ⟨_, e4, _⟩ <;> rw [e4] <;> assumption
      rw [← e3] at this; exact e2 (c.symm.trans this)
  · unfold linkP fbHang
    rw [if_neg]
    intro e; exact hC.2.2.2.1 (e ▸ hy)
/-! ### what the cells' calls turn -/
theorem PrMid.cells {W' : WS} (I : PrMid W K R E) (h : W'.cells = W.cells) : PrMid W' K R E := by
  have e1 : ∀ y, cellW W' y = cellW W y := fun y => by rw [dcells_eq h]
  have e2 : ∀ y, inW W' y = inW W y := fun y => by unfold inW; rw [e1]
  have e3 : ∀ a b, aheadW W' a b = aheadW W a b := fun a b => by unfold aheadW aheadC; rw [e2, e2, e1, e1]
  exact ⟨⟨by rw [h]; exact I.f.fb, fun p x hx => by rw [e1, e1, e2, e3]; exact I.f.kin p x hx⟩, fun x k1 k2 => by rw [e1]; exact I.top x (by rw [← e2]; exact k1) k2, fun g x k => by rw [e1, e2]; exact I.is g x k, fun x k => by rw [e2]; exact I.pend x k⟩
theorem PrMid.put {x k s : Int} {h : Nat} (I : PrMid W K R noE) (hp : putB W h x = true) (h1 : 1 ≤ h) : PrMid (putW W h x k s) K R (fun y => y = x) ∧ K x = [] ∧ (cellW (putW W h x k s) x).home = h := by
  obtain ⟨q1, q2, q3, q4, q5⟩ := homes_put (k := k) (s := s) (homes_all W) hp h1
  have H := q5 (fun g => if g = h then x :: slotsW W g else slotsW W g) (by rw [if_pos rfl]) (fun g hg => by rw [if_neg hg])
  have hx : (cellW (putW W h x k s) x).home = h := (H.mem h x h1).1 (by simp)
  obtain ⟨o1, o2⟩ := I.f.out q2
  have hl : (putW W h x k s).cells.length = W.cells.length := by unfold putW; split <;> simp
  have hin : ∀ y, y ≠ x → inW (putW W h x k s) y = inW W y := fun y hy => by unfold inW; rw [q4 y hy]
  have hne : ∀ {p y}, y ∈ K p → y ≠ x ∧ p ≠ x := fun {p y} hy => ⟨fun e => o1 p (e ▸ hy), fun e => by rw [e, o2] at hy; cases hy⟩
  refine ⟨⟨⟨by rw [hl]; exact I.f.fb, fun p y hy => ?_⟩, fun y k1 k2 => ?_, fun g y k => ?_, ?_⟩, o2, hx⟩
  · obtain ⟨n1, n2⟩ := hne hy
    obtain ⟨a1, a2, a3⟩ := I.f.kin p y hy
    exact ⟨by rw [hin y n1]; exact a1, by rw [q4 y n1, q4 p n2]; exact a2, by rw [dahead_same (q4 y n1) (q4 p n2)]; exact a3⟩
  · by_cases e : y = x
    · exact Or.inr e
    · rw [hin y e] at k1
      rw [q4 y e]
      exact Or.inl ((I.top y k1 k2).elim id False.elim)
  · obtain ⟨a, b, c, d, _⟩ := I.is g y k
    have e : y ≠ x := fun e => by rw [e, q2] at b; cases b
    exact ⟨a, by rw [hin y e]; exact b, by rw [q4 y e]; exact c, d, e⟩
  · rintro y rfl; exact ⟨q3, o1⟩
end
end Go.Proofs.YtkcicnflcilekaaGreat

namespace Go.Proofs.YtkcicnflcilekaaGreat
open Go.RowKit

structure Tie where
  kid : Int
  older : Int
  back : Int
def tieC (t : Tie) : List Value := [.int .i64 t.kid, .int .i64 t.older, .int .i64 t.back]
theorem tieC_len (t : Tie) : (tieC t).length = 3 := rfl
def Tie.no : Tie := ⟨-1, -1, -1⟩
def setT (T : Int → Tie) (x : Int) (t : Tie) : Int → Tie := fun z => if z = x then t else T z
def rawT (n : Nat) (T : Int → Tie) : List Tie := (List.range n).map fun i : Nat => T i
theorem rawT_len (n : Nat) (T : Int → Tie) : (rawT n T).length = n := by simp [rawT]
theorem rawT_at {n i : Nat} (T : Int → Tie) (h : i < n) (d : Tie) : (rawT n T).getD i d = T i := by simp [rawT, List.getD_eq_getElem?_getD, h]
theorem rawT_set {n i : Nat} (T : Int → Tie) (t : Tie) (_h : i < n) : (rawT n T).set i t = rawT n (setT T i t) := by
  apply List.ext_getElem
  · simp [rawT]
  · intro j h1 h2
    simp only [rawT, List.length_set, List.length_map, List.length_range] at h1
    by_cases e : i = j
    · subst e; simp [rawT, setT]
    · simp [rawT, setT, List.getElem_set, e, show ¬ (j : Int) = i by omega]
/-- One cell of the row is written. -/
theorem tie_kid {n i : Nat} (T : Int → Tie) (h : i < n) (v : Int) : (cellsBy tieC (rawT n T)).set (i * 3) (.int .i64 v) = cellsBy tieC (rawT n (setT T i ⟨v, (T i).older, (T i).back⟩)) := by
  have := cellsBy_set tieC 3 tieC_len .no (rawT n T) i 0 (.int .i64 v) ⟨v, (T i).older, (T i).back⟩ (by rw [rawT_len]; exact h) (by omega) (by rw [rawT_at T h]; rfl)
  rwa [Nat.add_zero, rawT_set T _ h] at this
theorem tie_older {n i : Nat} (T : Int → Tie) (h : i < n) (v : Int) : (cellsBy tieC (rawT n T)).set (i * 3 + 1) (.int .i64 v) = cellsBy tieC (rawT n (setT T i ⟨(T i).kid, v, (T i).back⟩)) := by
  have := cellsBy_set tieC 3 tieC_len .no (rawT n T) i 1 (.int .i64 v) ⟨(T i).kid, v, (T i).back⟩ (by rw [rawT_len]; exact h) (by omega) (by rw [rawT_at T h]; rfl)
  rwa [rawT_set T _ h] at this
theorem tie_back {n i : Nat} (T : Int → Tie) (h : i < n) (v : Int) : (cellsBy tieC (rawT n T)).set (i * 3 + 2) (.int .i64 v) = cellsBy tieC (rawT n (setT T i ⟨(T i).kid, (T i).older, v⟩)) := by
  have := cellsBy_set tieC 3 tieC_len .no (rawT n T) i 2 (.int .i64 v) ⟨(T i).kid, (T i).older, v⟩ (by rw [rawT_len]; exact h) (by omega) (by rw [rawT_at T h]; rfl)
  rwa [rawT_set T _ h] at this
def hdI : List Int → Int
  | [] => -1
  | x :: _ => x
def lstI (p : Int) (a : List Int) : Int := a.getLastD p
theorem hdI_mem {a : List Int} (h : a ≠ []) : hdI a ∈ a := by cases a with | nil => exact absurd rfl h | cons => simp [hdI]
theorem lstI_app (p : Int) (a : List Int) {b : List Int} (h : b ≠ []) (q : Int) : lstI p (a ++ b) = lstI q b := by
  obtain ⟨c, z, rfl⟩ : ∃ c z, b = c ++ [z] := ⟨b.dropLast, b.getLast h, (List.dropLast_concat_getLast h).symm⟩
  unfold lstI
  rw [← List.append_assoc, List.getLastD_concat, List.getLastD_concat]
structure Tied (n : Nat) (K : Int → List Int) (T : Int → Tie) : Prop where
  kid : ∀ p, inB n p → (T p).kid = hdI (K p)
  row : ∀ p a x b, K p = a ++ x :: b → (T x).older = hdI b ∧ (T x).back = lstI p a
  free : ∀ x, inB n x → fbTop K x → (T x).older = -1 ∧ (T x).back = -1
section
variable {n : Nat} {K : Int → List Int} {T T' : Int → Tie}
theorem tied_new (n : Nat) : Tied n (fun _ => []) (fun _ => .no) := ⟨fun _ _ => rfl, fun _ _ _ _ h => by simp at h, fun _ _ _ => ⟨rfl, rfl⟩⟩
theorem FbInv.self (I : FbInv n K) {x p : Int} (h : x ∈ K p) : x ≠ p := fun e => by
  obtain ⟨m, hm⟩ := I.low
  have := hm p x h
  rw [e] at this; omega
theorem hd_in (I : FbInv n K) {p : Int} (h : K p ≠ []) : hdI (K p) ∈ K p ∧ hdI (K p) ≠ p ∧ inB n (hdI (K p)) := ⟨hdI_mem h, I.self (hdI_mem h), (I.rng _ _ (hdI_mem h)).2⟩
theorem hd_none (I : FbInv n K) {p : Int} : hdI (K p) = -1 ↔ K p = [] := by
  constructor
  · intro h
    cases e : K p with
    | nil => rfl
    | cons y l =>
      have := (I.rng p y (by rw [e]; simp)).2
      rw [e] at h; unfold inB at this; simp only [hdI] at h; omega
  · intro h; rw [h]; rfl
theorem tied_hang (I : FbInv n K) (H : Tied n K T) {p x : Int} (tx : fbTop K x) (hne : p ≠ x)
    (hk : ∀ y, (T' y).kid = if y = p then x else (T y).kid) (ho : ∀ y, (T' y).older = if y = x then hdI (K p) else (T y).older)
    (hb : ∀ y, (T' y).back = if y = hdI (K p) ∧ hdI (K p) ≠ -1 then x else if y = x then p else (T y).back) : Tied n (fbHang K p (x :: K p)) T' := by
  refine ⟨fun q hq => ?_, fun q a y b e => ?_, fun y hy ht => ?_⟩
  · rw [hk]; unfold fbHang
    split
    · rfl
    · exact H.kid q hq
  · unfold fbHang at e
    rw [ho, hb]
    have hox : ¬ (x = hdI (K p) ∧ hdI (K p) ≠ -1) := fun h => by
      have h1 : K p ≠ [] := fun h2 => h.2 ((hd_none I).2 h2)
      exact tx p (by rw [h.1]; exact hdI_mem h1)
    split at e
    · rename_i e1; subst e1
      cases a with
      | nil =>
        simp only [List.nil_append, List.cons.injEq] at e
        obtain ⟨rfl, rfl⟩ := e
        rw [if_pos rfl, if_neg hox, if_pos rfl]
        exact ⟨rfl, rfl⟩
      | cons z a =>
        simp only [List.cons_append, List.cons.injEq] at e
        obtain ⟨rfl, e⟩ := e
        have hyx : y ≠ x := fun e2 => tx q (by rw [e, ← e2]; simp)
        obtain ⟨r1, r2⟩ := H.row q a y b e
        rw [if_neg hyx]
        refine ⟨r1, ?_⟩
        have hnd := I.nodup q
        cases a with
        | nil =>
          rw [if_pos]
          · rfl
          · rw [e]; refine ⟨rfl, fun h => ?_⟩
            have := (I.rng q y (by rw [e]; simp)).2
            unfold inB at this; simp only [List.nil_append, hdI] at h; omega
        | cons z a =>
          rw [if_neg, if_neg hyx, r2]
          · exact (lstI_app q [x] (by simp) q).symm
          · rw [e] at hnd ⊢
            rintro ⟨h, _⟩
            simp only [List.cons_append, hdI] at h
            simp [h] at hnd
    · rename_i e1
      obtain ⟨r1, r2⟩ := H.row q a y b e
      have hyq : y ∈ K q := by rw [e]; simp
      have hyx : y ≠ x := fun e2 => tx q (e2 ▸ hyq)
      rw [if_neg hyx, if_neg, if_neg hyx]
      · exact ⟨r1, r2⟩
      · rintro ⟨h1, h2⟩
        have h3 : K p ≠ [] := fun h => h2 ((hd_none I).2 h)
        exact e1 (I.one q p y hyq (by rw [h1]; exact hdI_mem h3))
  · have hyx : y ≠ x := fun e => ht p (by unfold fbHang; rw [if_pos rfl, e]; simp)
    have ht' : fbTop K y := fun q hq => ht q (by unfold fbHang; split; · rename_i e; subst e; simp [hq]
                                                 · exact hq)
    rw [ho, hb, if_neg hyx, if_neg, if_neg hyx]
    · exact H.free y hy ht'
    · rintro ⟨h1, h2⟩
      have h3 : K p ≠ [] := fun h => h2 ((hd_none I).2 h)
      exact ht' p (by rw [h1]; exact hdI_mem h3)
end
end Go.Proofs.YtkcicnflcilekaaGreat
