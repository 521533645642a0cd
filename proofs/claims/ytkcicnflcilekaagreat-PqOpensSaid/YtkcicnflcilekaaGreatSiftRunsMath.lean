/- Merged of ShedMeld, GaugeMath, BitsMath, ShedNests, SiftHeap, SiftMath, SiftRunsMath. -/
import Derived.Test.YtkcicnflcilekaaGreatShedMeldMath
import Derived.Deep.CutBlock
import Derived.Deep.DeepCutAuto
import Derived.Lib.BitFns
import Derived.Lib.ItoaNum
import Derived.Lib.Hide
import GoSem.ClaimJoined
import Derived.Test.YtkcicnflcilekaaGreatPqHeld
import GoSem.ClaimData
namespace Go.Proofs.YtkcicnflcilekaaGreat
open Go.RowKit Go.Sort

section
variable {F0 : Nat → Prop} {W0 w : World} {p c bm : Nat} {vp : Value} {W : WS} {s : Int} {pl : List Nat} {q : Nat} {v : Value} {xs : List Nat} {Ls : Nat → List Nat} {qs : Nat → Nat}
end
section
variable {w : World} {p c : Nat} {W : WS} {s : Int} {F : Nat → Prop}
end
end Go.Proofs.YtkcicnflcilekaaGreat

namespace Go.Proofs.YtkcicnflcilekaaGreat

def fitsB (k d : Int) : Bool := (k == 2 && decide (2 ≤ d) && decide (d ≤ 16)) || (k != 2 && d == 0)
def checkI (k d : Int) : Int := if k < 1 then 21 else if 8 < k then 21 else if fitsB k d then 0 else 22
def arityI (k d : Int) : Int := if checkI k d = 0 then (if k = 1 then 2 else if k = 2 then d else 0) else 0

theorem check_cases (k d : Int) : (checkI k d = 21 ∧ (k < 1 ∨ 8 < k)) ∨ (checkI k d = 0 ∧ 1 ≤ k ∧ k ≤ 8 ∧ fitsB k d = true) ∨ (checkI k d = 22 ∧ 1 ≤ k ∧ k ≤ 8 ∧ fitsB k d = false) := by
  unfold checkI
  by_cases h1 : k < 1
  · simp [h1]
  · by_cases h2 : 8 < k
    · simp [h1, h2]
    · cases h3 : fitsB k d <;> simp [h1, h2] <;> omega
theorem fits_cases {k d : Int} (h : fitsB k d = true) : (k = 2 ∧ 2 ≤ d ∧ d ≤ 16) ∨ (k ≠ 2 ∧ d = 0) := by
  unfold fitsB at h
  simp at h
  omega
theorem bits_half (m : Nat) (h0 : 0 < m) (h : m ≤ 9223372036854775807) : Lib.bitLen m = 1 + Lib.bitLen (m / 2) := Lib.bitLen_half m (by omega) (by omega)
end Go.Proofs.YtkcicnflcilekaaGreat

namespace Go.Proofs.YtkcicnflcilekaaGreat

theorem lt_bits : ∀ m : Nat, m ≤ 9223372036854775807 → m < 2 ^ Lib.bitLen m := by
  intro m
  induction m using Nat.strongRecOn with
  | ind m ih =>
    intro hm
    by_cases h0 : m = 0
    · subst h0; exact Nat.pos_of_ne_zero (by simp)
    · have h1 := bits_half m (by omega) hm
      have h2 := ih (m / 2) (by omega) (by omega)
      rw [h1, Nat.add_comm, Nat.pow_succ]
      omega
end Go.Proofs.YtkcicnflcilekaaGreat

namespace Go.Proofs.YtkcicnflcilekaaGreat
open Go.RowKit Go.Sort

/-- The functions that a shed's calls enter. -/
def shedF (p c : Nat) : NestFns where
  make := ⟨139, ptrV c⟩
  ins := ⟨296, ptrV p⟩
  min := ⟨298, ptrV p⟩
  steps := ⟨142, ptrV c⟩
  entry := ⟨134, ptrV c⟩
  has := ⟨135, ptrV c⟩
/-- At p lies a pointer to the cells at c. -/
def shedH (p c : Nat) (w : World) : Prop := w.cell? ⟨p, 0, none⟩ = some (ptrV c)
section
variable {w : World} {p c : Nat} {W : WS} {s : Int} {F : Nat → Prop}
theorem shed_there (h : (Ob.shed p c W s).holds w F) : shedH p c w := by
  obtain ⟨bm, vp, pl, Ls, qs, _, _, _, hg⟩ := h
  exact (Ob.group.open hg).cell 0 rfl (o := 0) rfl
/-- A call on the cells alone. -/
theorem shed_cells {f : FuncId} {args : Array Value} {v : Value} {W' : WS} (h : (Ob.shed p c W s).holds w F) (hW : ∀ pl Ls, SInv W pl Ls → SInv W' pl Ls)
    (hc : ∀ G, (Ob.cells c W s).holds w G → Calls Tryz.prog f args w fun e w' => e = .returned v ∧ ∃ G', (Ob.cells c W' s).holds w' G' ∧ Moved G G' w w') :
    Calls Tryz.prog f args w fun e w' => e = .returned v ∧ ∃ F', (Ob.shed p c W' s).holds w' F' ∧ Moved F F' w w' := by
  have hF := (Ob.shed p c W s).lt h
  obtain ⟨bm, vp, pl, Ls, qs, I, hf, _, hg⟩ := h
  have hs := Ob.group.open hg
  refine (hs.call 1 rfl hc).mono ?_
  rintro e w' ⟨rfl, hs1⟩
  have hs2 : Stage F w (shedParts p c bm vp W' s pl (mapO Ls qs) (famO p Ls qs)) w' := hs1
  exact ⟨rfl, shed_close hs2 hF (hW pl Ls I) (parts_fit hs2)⟩
/-- .. that only asks. -/
theorem shed_asks {f : FuncId} {args : Array Value} {v : Value} (h : (Ob.shed p c W s).holds w F) (hc : ∀ G, (Ob.cells c W s).holds w G → Calls Tryz.prog f args w fun e w' => e = .returned v ∧ Below w.heap.size w w') :
    Calls Tryz.prog f args w fun e w' => e = .returned v ∧ Below w.heap.size w w' := by
  obtain ⟨bm, vp, pl, Ls, qs, _, _, _, hg⟩ := h
  obtain ⟨G, ho⟩ := (Ob.group.open hg).get (i := 1) rfl
  exact hc G ho
theorem same_below {f : FuncId} {args : Array Value} {v : Value} (h : Calls Tryz.prog f args w fun e w' => e = .returned v ∧ w = w') : Calls Tryz.prog f args w fun e w' => e = .returned v ∧ Below w.heap.size w w' := h.mono fun _ _ ⟨h1, h2⟩ => ⟨h1, by subst h2; exact Below.refl _ _⟩
end
theorem load_cells {p c : Nat} {w : World} (h : shedH p c w) : (loadVar 166 ⟨p, 0, none⟩).run Tryz.prog w = .ok (ptrV c) w := by
  unfold shedH at h
  go_simp
/-- A method of the cells, by the nest. -/
theorem m_prom {n : String} {f : FuncId} {p c : Nat} {w : World} (h : shedH p c w) (e : (method 470 146 (ptrV p) n).run Tryz.prog w = (do let v ← loadVar 166 ⟨p, 0, none⟩; pure (f, v) : Sem (FuncId × Value)).run Tryz.prog w) : (method 470 146 (ptrV p) n).run Tryz.prog w = .ok (f, ptrV c) w := by
  rw [e, Sem.run_bind, load_cells h]
  rfl
abbrev toMeter : FieldStep := { struct := 226, index := 0, deref := true }
set_option maxRecDepth 100000 in
theorem m_steps {p c : Nat} {w : World} (h : shedH p c w) : (method 470 146 (ptrV p) "Steps").run Tryz.prog w = .ok (142, ptrV c) w := by
  have e : (method 470 146 (ptrV p) "Steps").run Tryz.prog w = (do let x ← follow [toMeter] 166 (.var ⟨p, 0, none⟩); let r ← receiverAt x.1 x.2 true none; pure (142, r) : Sem (FuncId × Value)).run Tryz.prog w := by kernel_rfl
  have e1 : (follow [toMeter] 166 (.var ⟨p, 0, none⟩)).run Tryz.prog w = (do let v ← loadVar 166 ⟨p, 0, none⟩; follow [toMeter] 166 (.val v)).run Tryz.prog w := by kernel_rfl
  have e2 : (follow [toMeter] 166 (.val (ptrV c))).run Tryz.prog w = .ok (224, .var ⟨c, 0, none⟩) w := by kernel_rfl
  have e3 : (follow [toMeter] 166 (.var ⟨p, 0, none⟩)).run Tryz.prog w = .ok (224, .var ⟨c, 0, none⟩) w := by
    rw [e1, Sem.run_bind, load_cells h, Result.andThen_ok]
    exact e2
  have e4 : (do let r ← receiverAt 224 (.var ⟨c, 0, none⟩) true none; pure (142, r) : Sem (FuncId × Value)).run Tryz.prog w = .ok (142, ptrV c) w := by kernel_rfl
  rw [e, Sem.run_bind, e3, Result.andThen_ok]
  exact e4
theorem shed_nests (p c : Nat) : Nests (fun W s => Ob.shed p c W s) id (shedH p c) 146 (ptrV p) (shedF p c) where
  there := shed_there
  fit h := by obtain ⟨_, _, _, _, _, _, h, _⟩ := h; exact h
  entry x h := shed_asks h fun _ ho => entry_cl x ho
  has y h := shed_asks h fun _ ho => same_below (has_cl y ho)
  steps h := shed_asks h fun _ ho => same_below (steps_cl ho)
  make {W g w F} h := (shed_cells h (W' := makeW W) (fun _ _ I => I.congr (by unfold makeW; split <;> rfl)) fun _ ho => make_cl ho).mono fun e w' ⟨h1, h2⟩ => ⟨h1, g, h2⟩
  ins y x k q _ _ h := (insert_sh y x k q h).mono fun e w' ⟨h1, s', _, h4⟩ => ⟨h1, s', h4⟩
  min {W g w F} y hy h := (min_sh y hy h).mono fun e w' ⟨h1, h2⟩ => ⟨h1, g, F, by subst h2; exact ⟨h, Moved.refl _ _⟩⟩
  mMake := ⟨fun w h => m_prom h (by kernel_rfl), fun _ _ => by kernel_rfl⟩
  mIns := ⟨fun _ _ => by kernel_rfl, fun _ _ => by kernel_rfl⟩
  mMin := ⟨fun _ _ => by kernel_rfl, fun _ _ => by kernel_rfl⟩
  mSteps := ⟨fun w h => m_steps h, fun _ _ => by kernel_rfl⟩
  mEntry := ⟨fun w h => m_prom h (by kernel_rfl), fun _ _ => by kernel_rfl⟩
  mHas := ⟨fun w h => m_prom h (by kernel_rfl), fun _ _ => by kernel_rfl⟩
end Go.Proofs.YtkcicnflcilekaaGreat

namespace Go.Proofs.YtkcicnflcilekaaGreat

def rat (l : List Int) (i : Nat) : Int := l.getD i 0
def par (d i : Nat) : Nat := (i - 1) / d
def swapL (l : List Int) (i j : Nat) : List Int := (l.set i (rat l j)).set j (rat l i)
theorem rat_set (l : List Int) (i j : Nat) (x : Int) (hi : i < l.length) : rat (l.set i x) j = if i = j then x else rat l j := by
  simp only [rat, List.getD_eq_getElem?_getD, List.getElem?_set]
  by_cases h : i = j
  · subst h; simp [hi]
  · simp [h]
theorem swap_len (l : List Int) (i j : Nat) : (swapL l i j).length = l.length := by simp [swapL]
theorem rat_swap {l : List Int} {i j : Nat} (hi : i < l.length) (hj : j < l.length) (k : Nat) : rat (swapL l i j) k = if k = j then rat l i else if k = i then rat l j else rat l k := by
  unfold swapL
  rw [rat_set _ _ _ _ (by simpa using hj), rat_set _ _ _ _ hi]
  by_cases e : k = j
  · rw [if_pos e, if_pos e.symm]
  · rw [if_neg e, if_neg (fun x => e x.symm)]
    by_cases e2 : k = i
    · rw [if_pos e2, if_pos e2.symm]
    · rw [if_neg e2, if_neg (fun x => e2 x.symm)]
theorem swap_self (l : List Int) (i : Nat) : swapL l i i = l := by
  unfold swapL
  rw [List.set_set]
  apply List.ext_getElem?
  intro k
  rw [List.getElem?_set]
  by_cases e : i = k
  · subst e
    by_cases h : i < l.length
    · simp [rat, List.getD_eq_getElem?_getD, h]
    · simp [h]
  · simp [e]
theorem par_lt {d i : Nat} (_hd : 1 ≤ d) (hi : 0 < i) : par d i < i := by
  unfold par
  have := Nat.div_le_self (i - 1) d
  omega

section
variable {d : Nat} {lt : Int → Int → Bool}
/-- A strict order of the things of a row. -/
structure Strict (lt : Int → Int → Bool) (l : List Int) : Prop where
  irr : ∀ i, i < l.length → lt (rat l i) (rat l i) = false
  trans : ∀ i j k, i < l.length → j < l.length → k < l.length → lt (rat l i) (rat l j) = true → lt (rat l j) (rat l k) = true → lt (rat l i) (rat l k) = true
  total : ∀ i j, i < l.length → j < l.length → i ≠ j → lt (rat l i) (rat l j) = false → lt (rat l j) (rat l i) = true
/-- No thing is ahead of that above it. -/
def Heap (d : Nat) (lt : Int → Int → Bool) (l : List Int) : Prop := ∀ i, 0 < i → i < l.length → lt (rat l i) (rat l (par d i)) = false
theorem heap_nil : Heap d lt [] := fun i _ h => by simp at h
theorem Strict.asymm {l : List Int} (s : Strict lt l) {i j : Nat} (hi : i < l.length) (hj : j < l.length) (h : lt (rat l i) (rat l j) = true) : lt (rat l j) (rat l i) = false := by
  cases e : lt (rat l j) (rat l i)
  · rfl
  · have h1 := s.trans i j i hi hj hi h e
    rw [s.irr i hi] at h1
    cases h1
/-- Not ahead of one that is ahead, or the same, of another one. -/
theorem Strict.le_trans {l : List Int} (s : Strict lt l) {i j k : Nat} (hi : i < l.length) (hj : j < l.length) (hk : k < l.length) (h1 : lt (rat l i) (rat l j) = false) (h2 : lt (rat l j) (rat l k) = false) : lt (rat l i) (rat l k) = false := by
  by_cases e : j = k
  · subst e; exact h1
  · have h3 := s.total j k hj hk e h2
    cases e2 : lt (rat l i) (rat l k)
    · rfl
    · by_cases e3 : i = j
      · subst e3; rw [h2] at e2; cases e2
      · have h4 := s.total i j hi hj e3 h1
        have h5 := s.asymm hk hj h3
        have h6 := s.trans j i k hj hi hk h4 e2
        rw [h2] at h6
        cases h6

/-- All is in order, but j may be ahead of that above it. -/
structure UpInv (d : Nat) (lt : Int → Int → Bool) (l : List Int) (j : Nat) : Prop where
  jlt : j < l.length
  rest : ∀ i, 0 < i → i < l.length → i ≠ j → lt (rat l i) (rat l (par d i)) = false
  over : 0 < j → ∀ i, 0 < i → i < l.length → par d i = j → lt (rat l i) (rat l (par d j)) = false
theorem up_stop {l : List Int} {j : Nat} (U : UpInv d lt l j) (h : j = 0 ∨ lt (rat l j) (rat l (par d j)) = false) : Heap d lt l := by
  intro i h0 hi
  by_cases e : i = j
  · subst e
    rcases h with h | h
    · omega
    · exact h
  · exact U.rest i h0 hi e
theorem up_step {l : List Int} {j : Nat} (hd : 1 ≤ d) (s : Strict lt l) (U : UpInv d lt l j) (hj : 0 < j) (h : lt (rat l j) (rat l (par d j)) = true) : UpInv d lt (swapL l j (par d j)) (par d j) := by
  have hp := par_lt hd hj
  have hpl : par d j < l.length := Nat.lt_trans hp U.jlt
  have hr := fun k => rat_swap U.jlt hpl k
  refine ⟨by rw [swap_len]; exact hpl, fun i h0 hi hne => ?_, fun hp0 i h0 hi hpi => ?_⟩
  · rw [swap_len] at hi
    have hpi := par_lt hd h0
    have hpil : par d i < l.length := Nat.lt_trans hpi hi
    rw [hr i, hr (par d i), if_neg hne]
    by_cases e1 : i = j
    · subst e1
      rw [if_pos rfl, if_pos rfl]
      exact s.asymm U.jlt hpl h
    · rw [if_neg e1]
      have hb := U.rest i h0 hi e1
      by_cases e2 : par d i = par d j
      · rw [if_pos e2]
        rw [e2] at hb
        exact s.le_trans hi hpl U.jlt hb (s.asymm U.jlt hpl h)
      · rw [if_neg e2]
        by_cases e3 : par d i = j
        · rw [if_pos e3]
          exact U.over hj i h0 hi e3
        · rw [if_neg e3]; exact hb
  · rw [swap_len] at hi
    have hpp := par_lt hd hp0
    have hppl : par d (par d j) < l.length := Nat.lt_trans hpp hpl
    have hq := U.rest (par d j) hp0 hpl (by omega)
    rw [hr i, hr (par d (par d j)), if_neg (by omega : ¬ par d (par d j) = par d j), if_neg (by omega : ¬ par d (par d j) = j)]
    have hne : i ≠ par d j := by
      intro e
      have h9 := par_lt hd h0
      omega
    rw [if_neg hne]
    by_cases e1 : i = j
    · subst e1; rw [if_pos rfl]; exact hq
    · rw [if_neg e1]
      have hb := U.rest i h0 hi e1
      rw [hpi] at hb
      exact s.le_trans hi hpl hppl hb hq

/-- The topmost one is ahead of none, and none of it. -/
theorem heap_top {l : List Int} (hd : 1 ≤ d) (s : Strict lt l) (H : Heap d lt l) : ∀ i, i < l.length → lt (rat l i) (rat l 0) = false := by
  intro i
  induction i using Nat.strongRecOn with
  | ind i ih =>
    intro hi
    by_cases h0 : i = 0
    · subst h0; exact s.irr 0 hi
    · have hp := par_lt hd (Nat.pos_of_ne_zero h0)
      exact s.le_trans hi (Nat.lt_trans hp hi) (by omega) (H i (Nat.pos_of_ne_zero h0) hi) (ih _ hp (Nat.lt_trans hp hi))
/-- One more, at the end. -/
theorem heap_push {l : List Int} (hd : 1 ≤ d) (H : Heap d lt l) (x : Int) : UpInv d lt (l ++ [x]) l.length := by
  have hr : ∀ k, k < l.length → rat (l ++ [x]) k = rat l k := fun k hk => by
    simp [rat, List.getD_eq_getElem?_getD, List.getElem?_append_left hk]
  refine ⟨by simp, fun i h0 hi hne => ?_, fun h0 i hi0 hi hp => ?_⟩
  · simp only [List.length_append, List.length_singleton] at hi
    have hp := par_lt hd h0
    rw [hr i (by omega), hr _ (by omega)]
    exact H i h0 (by omega)
  · simp only [List.length_append, List.length_singleton] at hi
    have := par_lt hd hi0
    omega
end

/-! ### how many exchanges -/
/-- How many are above a place. -/
def depthN (d : Nat) : Nat → Nat → Nat
  | 0, _ => 0
  | f + 1, i => if i = 0 then 0 else depthN d f (par d i) + 1
theorem depth_fuel {d : Nat} (hd : 1 ≤ d) : ∀ (f g i : Nat), i ≤ f → i ≤ g → depthN d f i = depthN d g i
  | 0, g, i, hi, _ => by
    obtain rfl : i = 0 := by omega
    cases g <;> rfl
  | f + 1, 0, i, _, hi => by
    obtain rfl : i = 0 := by omega
    rfl
  | f + 1, g + 1, i, h1, h2 => by
    unfold depthN
    by_cases e : i = 0
    · rw [if_pos e, if_pos e]
    · have := par_lt hd (Nat.pos_of_ne_zero e)
      rw [if_neg e, if_neg e, depth_fuel hd f g (par d i) (by omega) (by omega)]
def depthI (d i : Nat) : Nat := depthN d i i
theorem depth_par {d : Nat} (hd : 1 ≤ d) {i : Nat} (hi : 0 < i) : depthI d i = depthI d (par d i) + 1 := by
  obtain ⟨j, rfl⟩ : ∃ j, i = j + 1 := ⟨i - 1, by omega⟩
  have := par_lt hd hi
  unfold depthI
  rw [depthN, if_neg (by omega), depth_fuel hd j (par d (j + 1)) _ (by omega) (Nat.le_refl _)]
/-- An exchange moves nothing in or out. -/
theorem swap_perm {l : List Int} {i j : Nat} (hi : i < l.length) (hj : j < l.length) : (swapL l i j).Perm l := by
  have hc : ∀ x, (swapL l i j).count x = l.count x := fun x => by
    by_cases e : i = j
    · subst e; rw [swap_self]
    · have cs : ∀ (m : List Int) (k : Nat) (y : Int), k < m.length → (m.set k y).count x + (if m.getD k 0 = x then 1 else 0) = m.count x + (if y = x then 1 else 0) := by
        intro m
        induction m with
        | nil => intro k y hk; simp at hk
        | cons a r ih =>
          intro k y hk
          cases k with
          | zero => simp only [List.set_cons_zero, List.count_cons, List.getD_cons_zero, beq_iff_eq]; omega
          | succ k =>
            have := ih k y (by simpa using hk)
            simp only [List.set_cons_succ, List.count_cons, List.getD_cons_succ]
            omega
      have h1 := cs l i (rat l j) hi
      have h2 := cs (l.set i (rat l j)) j (rat l i) (by simpa using hj)
      have h3 : (l.set i (rat l j)).getD j 0 = rat l j := by
        have := rat_set l i j (rat l j) hi
        rw [if_neg e] at this
        exact this
      rw [h3] at h2
      have h4 : l.getD i 0 = rat l i := rfl
      rw [h4] at h1
      unfold swapL
      omega
  exact List.perm_iff_count.2 hc
end Go.Proofs.YtkcicnflcilekaaGreat

namespace Go.Proofs.YtkcicnflcilekaaGreat

theorem rat_get {l : List Int} {i : Nat} (h : i < l.length) : l[i]? = some (rat l i) := by
  simp [rat, List.getD_eq_getElem?_getD, h]
theorem rat_mem {l : List Int} {i : Nat} (h : i < l.length) : rat l i ∈ l := List.mem_of_getElem? (rat_get h)
theorem mem_rat {l : List Int} {x : Int} (h : x ∈ l) : ∃ i, i < l.length ∧ rat l i = x := by
  obtain ⟨i, hi, e⟩ := List.getElem_of_mem h
  exact ⟨i, hi, by rw [← e]; simp [rat, List.getD_eq_getElem?_getD, hi]⟩
theorem rat_inj {l : List Int} (hn : l.Nodup) {i j : Nat} (hi : i < l.length) (hj : j < l.length) (e : rat l i = rat l j) : i = j := by
  have h1 := rat_get hi
  have h2 := rat_get hj
  rw [e, ← h2] at h1
  exact (List.getElem?_inj hi hn).1 h1
section
variable {d : Nat} {lt lt' : Int → Int → Bool} {l l' : List Int}
end

/-! ### the document's numbers -/
def rightD (d : Int) : Bool := decide (2 ≤ d) && decide (d ≤ 16)
def parD (d i : Int) : Int × Bool := if rightD d = true ∧ 1 ≤ i then ((i - 1) / d, true) else (0, false)
theorem rightD_iff {d : Int} : rightD d = true ↔ 2 ≤ d ∧ d ≤ 16 := by simp [rightD]
theorem parD_nat {d i : Nat} (hd : 2 ≤ d) (hd2 : d ≤ 16) (hi : 0 < i) : parD d i = (((par d i : Nat) : Int), true) := by
  have : rightD (d : Int) = true := rightD_iff.2 (by omega)
  rw [parD, if_pos ⟨this, by omega⟩]
  unfold par
  rw [Int.natCast_ediv, show ((i - 1 : Nat) : Int) = (i : Int) - 1 by omega]

/-! ### what is there -/
def hasL (l : List Int) (x : Int) : Bool := l.contains x
theorem hasL_iff {l : List Int} {x : Int} : hasL l x = true ↔ x ∈ l := by simp [hasL]
theorem hasL_not {l : List Int} {x : Int} : hasL l x = false ↔ x ∉ l := by rw [← hasL_iff]; simp
end Go.Proofs.YtkcicnflcilekaaGreat

namespace Go.Proofs.YtkcicnflcilekaaGreat

theorem heap_congr {d : Nat} {lt lt' : Int → Int → Bool} {l : List Int} (hd : 1 ≤ d) (h : ∀ a ∈ l, ∀ b ∈ l, lt' a b = lt a b) (H : Heap d lt l) : Heap d lt' l := by
  intro i h0 hi
  have hp := par_lt hd h0
  rw [h _ (rat_mem hi) _ (rat_mem (Nat.lt_trans hp hi))]
  exact H i h0 hi
/-- Where a thing is in a row, if it is there. -/
def placeL (l : List Int) (x : Int) : Option Int := if x ∈ l then some ((l.idxOf x : Nat) : Int) else none
theorem place_rat {l : List Int} (hn : l.Nodup) {i : Nat} (hi : i < l.length) : placeL l (rat l i) = some ((i : Nat) : Int) := by
  have hm := rat_mem hi
  rw [placeL, if_pos hm]
  have h1 : l.idxOf (rat l i) < l.length := List.idxOf_lt_length_of_mem hm
  have h2 : rat l (l.idxOf (rat l i)) = rat l i := by
    have e := rat_get h1
    rw [List.getElem?_eq_getElem h1, List.getElem_idxOf h1] at e
    injection e with e
    exact e.symm
  rw [rat_inj hn h1 hi h2]
theorem place_none {l : List Int} {x : Int} (h : x ∉ l) : placeL l x = none := by rw [placeL, if_neg h]
theorem place_some {l : List Int} (hn : l.Nodup) {x : Int} (h : x ∈ l) : ∃ i, i < l.length ∧ rat l i = x ∧ placeL l x = some ((i : Nat) : Int) := by
  obtain ⟨i, hi, rfl⟩ := mem_rat h
  exact ⟨i, hi, rfl, place_rat hn hi⟩
theorem place_isSome (l : List Int) (x : Int) : (placeL l x).isSome = hasL l x := by
  unfold placeL
  by_cases h : x ∈ l
  · rw [if_pos h, hasL_iff.2 h]; rfl
  · rw [if_neg h, hasL_not.2 h]; rfl
/-- Places are told by what stands where. -/
theorem place_ext {l : List Int} (hn : l.Nodup) {f : Int → Option Int} (h1 : ∀ i, i < l.length → f (rat l i) = some ((i : Nat) : Int)) (h2 : ∀ x, x ∉ l → f x = none) : f = placeL l := by
  funext x
  by_cases hx : x ∈ l
  · obtain ⟨i, hi, rfl, e⟩ := place_some hn hx
    rw [h1 i hi, e]
  · rw [h2 x hx, place_none hx]
end Go.Proofs.YtkcicnflcilekaaGreat
