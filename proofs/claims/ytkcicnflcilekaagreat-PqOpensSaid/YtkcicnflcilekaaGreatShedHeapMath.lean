/- Merged of PqCalls2, HeapMath, ShedMath, ShedHeapMath. -/
import Derived.Test.YtkcicnflcilekaaGreatPqCalls
import Derived.IntWalk
import GoSem.ClaimData
import Derived.Test.YtkcicnflcilekaaGreatArena2
namespace Go.Proofs.YtkcicnflcilekaaGreat
open Go.RowKit Go.Sort

section
variable {w : World} {p : Nat} {k d : Int} {b : Bool} {S : SS} {F : Nat → Prop}
set_option maxRecDepth 100000 in
set_option maxHeartbeats 2000000 in
theorem insert_pq (y q : Int) (hy : inInt y) (hq : S.q < 4611686018427387904) (ho : (Ob.store p k d b S).holds w F) : Calls Tryz.prog 12 #[.pointer (some ⟨p, 0, none⟩), .int .i64 y, .int .i64 q] w (StP p k d F w (insS S y q) (insV (insR S y))) := by
  have hF := (Ob.store p k d b S).lt ho
  obtain ⟨γ, O, st, H, T, v, f, a, u, N, ok, _, hg⟩ := ho
  have hA := (Ob.group.open hg).arenaFit 1 rfl
  have hs0 := (Ob.group.open hg).alloc #[.int .i64 0, .int .u32 0] 31
  have hc := hs0.askB 2 rfl fun _ ho => N.has y ho
  have m1 := (hs0.get (i := 2) rfl).elim fun _ h => N.mHas.find _ (N.there h)
  have m2 := N.mHas.enter
  have p3 := hs0.cell 0 rfl (o := 3) rfl
  unfold insR insV insS
  clear hg hs0
  cases hh : hasW S.W y
  · rw [hh] at hc
    clear hh
    simp only [Bool.false_eq_true, if_false, Rp.err]
    go_enter Tryz.func12, Tryz.ntmps12
    go_wp2_with fail
    refine hc.mono ?_
    rintro e w1 ⟨rfl, hs1⟩
    have y0 := hs1.cell 3 rfl (o := 0) rfl
    have y1 := hs1.cell 3 rfl (o := 1) rfl
    have f0 := hs1.free 3 rfl 0
    have f1 := hs1.free 3 rfl 1
    have hs2 := (hs1.store 3 rfl 0 (.int .i64 0)).store 3 rfl 1 (.int .u32 0)
    have z0 := hs2.cell 3 rfl (o := 0) rfl
    have z1 := hs2.cell 3 rfl (o := 1) rfl
    clear hs1 hc m1 p3
    go_wp2_with fail
    exact bodyPost_ret (v := .tuple #[.agg #[.int .i64 0, .int .u32 0], .int .i64 171]) (by simp [results, Tryz.results12, go_sem, z0, z1]) rfl ⟨rfl, st_close hF N ok (hs2.take 3)⟩
  · rw [hh] at hc
    cases ht : takeA S.A with
    | none =>
      clear hh
      simp only [Rp.err, if_true]
      go_enter Tryz.func12, Tryz.ntmps12
      go_wp2_with fail
      refine hc.mono ?_
      rintro e w1 ⟨rfl, hs1⟩
      clear hc m1 m2 p3
      have hc := hs1.takeNoArena 1 rfl ht
      simp only [Hnd] at hc
      have p2 := hs1.cell 0 rfl (o := 2) rfl
      clear hs1 ht
      go_wp2_with fail
      refine hc.mono ?_
      rintro e w2 ⟨rfl, hs1⟩
      clear hc p2
      have hs2 := hs1.alloc #[.int .i64 0, .int .u32 0] 31
      have y0 := hs2.cell 3 rfl (o := 0) rfl
      have y1 := hs2.cell 3 rfl (o := 1) rfl
      have f0 := hs2.free 3 rfl 0
      have f1 := hs2.free 3 rfl 1
      have hs3 := (hs2.store 3 rfl 0 (.int .i64 0)).store 3 rfl 1 (.int .u32 0)
      have z0 := hs3.cell 3 rfl (o := 0) rfl
      have z1 := hs3.cell 3 rfl (o := 1) rfl
      clear hs1 hs2
      go_wp2_with fail
      exact bodyPost_ret (v := .tuple #[.agg #[.int .i64 0, .int .u32 0], .int .i64 32]) (by simp [results, Tryz.results12, go_sem, z0, z1]) rfl ⟨rfl, st_close hF N ok (hs3.take 3)⟩
    | some r =>
      obtain ⟨s, g, A⟩ := r
      have ok' := ok_ins ok hA ht hh q (S.q + 1) (S.q + 1)
      obtain ⟨hp, hsl⟩ := take_put ok hA ht hh
      have hcap := ok.cap
      have hc2 := hA.cap
      have hsi : inInt s := ⟨by omega, by omega⟩
      replace hp := Lib.hid hp
      simp only [if_true]
      have hwr : IntKind.u64.wrap ((S.q : Int) + 1) = (S.q : Int) + 1 := IntWalk.u64_in _ (by omega)
      clear hh hcap hc2 hsl hA ok
      go_enter Tryz.func12, Tryz.ntmps12
      go_wp2_with fail
      refine hc.mono ?_
      rintro e w1 ⟨rfl, hs1⟩
      clear hc m1 m2 p3
      have hc := hs1.takeArena 1 rfl ht
      simp only [Hnd] at hc
      have p2 := hs1.cell 0 rfl (o := 2) rfl
      clear hs1 ht
      go_wp2_with fail
      refine hc.mono ?_
      rintro e w2 ⟨rfl, hs1⟩
      clear hc p2
      obtain ⟨w3, hw3, hs2⟩ : ∃ w3, w2.alloc (.cells #[.int .i64 s, .int .u32 g] 31) = w3 ∧ Stage F w (stF p k d a T v S.q A (O S.W u) ++ [Ob.box w.heap.size #[.int .i64 0, .int .u32 0] 31, Ob.box w2.heap.size #[.int .i64 s, .int .u32 g] 31]) w3 := ⟨_, rfl, hs1.alloc _ _⟩
      have p4 : w3.cell? ⟨p, 4, none⟩ = some (.int .u64 S.q) := hs2.cell 0 rfl rfl
      have f4 := hs2.free 0 rfl 4
      have hs3 := hs2.store 0 rfl 4 (.int .u64 ((S.q : Int) + 1))
      clear hs1 hs2
      obtain ⟨w4, hw4⟩ : ∃ w4, w3.setCell ⟨p, 4, none⟩ (.int .u64 ((S.q : Int) + 1)) = w4 := ⟨_, rfl⟩
      rw [hw4] at hs3
      have q3 := hs3.cell 0 rfl (o := 3) rfl
      have q4 : w4.cell? ⟨p, 4, none⟩ = some (.int .u64 ((S.q : Int) + 1)) := hs3.cell 0 rfl rfl
      have x0 := hs3.cell 4 rfl (o := 0) rfl
      have hI := hs3.drew.callX 2 rfl fun _ ho => N.ins y s q ((S.q : Int) + 1) hy hsi ho
      rw [hp.out] at hI
      have m1 := (hs3.drew.get (i := 2) rfl).elim fun _ h => N.mIns.find _ (N.there h)
      have m2 := N.mIns.enter
      clear hp
      go_wp2_with fail
      go_still_tail 15, (by kernel_rfl)
      change wpList _ _ _ _ _ w4.drew
      go_wp2_with fail
      refine hI.mono ?_
      rintro e w5 ⟨rfl, u', hs1⟩
      replace hs1 : Stage F w (stF p k d a T v (S.q + 1) A (O (putW S.W y s q ((S.q : Int) + 1)) u') ++ [Ob.box w.heap.size #[.int .i64 0, .int .u32 0] 31, Ob.box w2.heap.size #[.int .i64 s, .int .u32 g] 31]) w5 := hs1
      clear hI m1 m2 x0 q3 q4 hw4 hs3 p4 f4 hw3 hwr
      have x0 := hs1.cell 4 rfl (o := 0) rfl
      have x1 := hs1.cell 4 rfl (o := 1) rfl
      have y0 := hs1.cell 3 rfl (o := 0) rfl
      have y1 := hs1.cell 3 rfl (o := 1) rfl
      have f0 := hs1.free 3 rfl 0
      have f1 := hs1.free 3 rfl 1
      have hs3 := (hs1.store 3 rfl 0 (.int .i64 s)).store 3 rfl 1 (.int .u32 g)
      have z0 := hs3.cell 3 rfl (o := 0) rfl
      have z1 := hs3.cell 3 rfl (o := 1) rfl
      clear hs1
      generalize w2.heap.size = E2 at *
      go_wp2_with fail
      exact bodyPost_ret (v := .tuple #[.agg #[.int .i64 s, .int .u32 g], .int .i64 0]) (by simp [results, Tryz.results12, go_sem, z0, z1]) rfl ⟨rfl, st_close hF N ok' (hs3.take 3)⟩
end
end Go.Proofs.YtkcicnflcilekaaGreat

namespace Go.Proofs.YtkcicnflcilekaaGreat

def ratS (l : List Nat) (i : Nat) : Nat := l.getD i 0
def parS (d i : Nat) : Nat := (i - 1) / d
def swapLS (l : List Nat) (i j : Nat) : List Nat := (l.set i (ratS l j)).set j (ratS l i)
theorem rat_setS (l : List Nat) (i j x : Nat) (hi : i < l.length) : ratS (l.set i x) j = if i = j then x else ratS l j := by
  simp only [ratS, List.getD_eq_getElem?_getD, List.getElem?_set]
  by_cases h : i = j
  · subst h; simp [hi]
  · simp [h]
theorem swap_lenS (l : List Nat) (i j : Nat) : (swapLS l i j).length = l.length := by simp [swapLS]
theorem rat_swapS {l : List Nat} {i j : Nat} (hi : i < l.length) (hj : j < l.length) (k : Nat) : ratS (swapLS l i j) k = if k = j then ratS l i else if k = i then ratS l j else ratS l k := by
  unfold swapLS
  rw [rat_setS _ _ _ _ (by simpa using hj), rat_setS _ _ _ _ hi]
  by_cases e : k = j
  · rw [if_pos e, if_pos e.symm]
  · rw [if_neg e, if_neg (fun x => e x.symm)]
    by_cases e2 : k = i
    · rw [if_pos e2, if_pos e2.symm]
    · rw [if_neg e2, if_neg (fun x => e2 x.symm)]
theorem swap_selfS (l : List Nat) (i : Nat) : swapLS l i i = l := by
  unfold swapLS
  rw [List.set_set]
  apply List.ext_getElem?
  intro k
  rw [List.getElem?_set]
  by_cases e : i = k
  · subst e
    by_cases h : i < l.length
    · simp [ratS, List.getD_eq_getElem?_getD, h]
    · simp [h]
  · simp [e]
theorem par_ltS {d i : Nat} (_hd : 1 ≤ d) (hi : 0 < i) : parS d i < i := by
  unfold parS
  have := Nat.div_le_self (i - 1) d
  omega

section
variable {d : Nat} {lt : Nat → Nat → Bool}
/-- A strict order of the things of a row. -/
structure StrictS (lt : Nat → Nat → Bool) (l : List Nat) : Prop where
  irr : ∀ i, i < l.length → lt (ratS l i) (ratS l i) = false
  trans : ∀ i j k, i < l.length → j < l.length → k < l.length → lt (ratS l i) (ratS l j) = true → lt (ratS l j) (ratS l k) = true → lt (ratS l i) (ratS l k) = true
  total : ∀ i j, i < l.length → j < l.length → i ≠ j → lt (ratS l i) (ratS l j) = false → lt (ratS l j) (ratS l i) = true
/-- No thing is ahead of that above it. -/
def HeapS (d : Nat) (lt : Nat → Nat → Bool) (l : List Nat) : Prop := ∀ i, 0 < i → i < l.length → lt (ratS l i) (ratS l (parS d i)) = false
theorem heap_nilS : HeapS d lt [] := fun i _ h => by simp at h
theorem StrictS.asymm {l : List Nat} (s : StrictS lt l) {i j : Nat} (hi : i < l.length) (hj : j < l.length) (h : lt (ratS l i) (ratS l j) = true) : lt (ratS l j) (ratS l i) = false := by
  cases e : lt (ratS l j) (ratS l i)
  · rfl
  · have h1 := s.trans i j i hi hj hi h e
    rw [s.irr i hi] at h1
    cases h1
/-- Not ahead of one that is ahead, or the same, of another one. -/
theorem StrictS.le_trans {l : List Nat} (s : StrictS lt l) {i j k : Nat} (hi : i < l.length) (hj : j < l.length) (hk : k < l.length) (h1 : lt (ratS l i) (ratS l j) = false) (h2 : lt (ratS l j) (ratS l k) = false) : lt (ratS l i) (ratS l k) = false := by
  by_cases e : j = k
  · subst e; exact h1
  · have h3 := s.total j k hj hk e h2
    cases e2 : lt (ratS l i) (ratS l k)
    · rfl
    · by_cases e3 : i = j
      · subst e3; rw [h2] at e2; cases e2
      · have h4 := s.total i j hi hj e3 h1
        have h5 := s.asymm hk hj h3
        have h6 := s.trans j i k hj hi hk h4 e2
        rw [h2] at h6
        cases h6

/-- All is in order, but j may be ahead of that above it. -/
structure UpInvS (d : Nat) (lt : Nat → Nat → Bool) (l : List Nat) (j : Nat) : Prop where
  jlt : j < l.length
  rest : ∀ i, 0 < i → i < l.length → i ≠ j → lt (ratS l i) (ratS l (parS d i)) = false
  over : 0 < j → ∀ i, 0 < i → i < l.length → parS d i = j → lt (ratS l i) (ratS l (parS d j)) = false
theorem up_stopS {l : List Nat} {j : Nat} (U : UpInvS d lt l j) (h : j = 0 ∨ lt (ratS l j) (ratS l (parS d j)) = false) : HeapS d lt l := by
  intro i h0 hi
  by_cases e : i = j
  · subst e
    rcases h with h | h
    · omega
    · exact h
  · exact U.rest i h0 hi e
theorem up_stepS {l : List Nat} {j : Nat} (hd : 1 ≤ d) (s : StrictS lt l) (U : UpInvS d lt l j) (hj : 0 < j) (h : lt (ratS l j) (ratS l (parS d j)) = true) : UpInvS d lt (swapLS l j (parS d j)) (parS d j) := by
  have hp := par_ltS hd hj
  have hpl : parS d j < l.length := Nat.lt_trans hp U.jlt
  have hr := fun k => rat_swapS U.jlt hpl k
  refine ⟨by rw [swap_lenS]; exact hpl, fun i h0 hi hne => ?_, fun hp0 i h0 hi hpi => ?_⟩
  · rw [swap_lenS] at hi
    have hpi := par_ltS hd h0
    have hpil : parS d i < l.length := Nat.lt_trans hpi hi
    rw [hr i, hr (parS d i), if_neg hne]
    by_cases e1 : i = j
    · subst e1
      rw [if_pos rfl, if_pos rfl]
      exact s.asymm U.jlt hpl h
    · rw [if_neg e1]
      have hb := U.rest i h0 hi e1
      by_cases e2 : parS d i = parS d j
      · rw [if_pos e2]
        rw [e2] at hb
        exact s.le_trans hi hpl U.jlt hb (s.asymm U.jlt hpl h)
      · rw [if_neg e2]
        by_cases e3 : parS d i = j
        · rw [if_pos e3]
          exact U.over hj i h0 hi e3
        · rw [if_neg e3]; exact hb
  · rw [swap_lenS] at hi
    have hpp := par_ltS hd hp0
    have hppl : parS d (parS d j) < l.length := Nat.lt_trans hpp hpl
    have hq := U.rest (parS d j) hp0 hpl (by omega)
    rw [hr i, hr (parS d (parS d j)), if_neg (by omega : ¬ parS d (parS d j) = parS d j), if_neg (by omega : ¬ parS d (parS d j) = j)]
    have hne : i ≠ parS d j := by
      intro e
      have h9 := par_ltS hd h0
      omega
    rw [if_neg hne]
    by_cases e1 : i = j
    · subst e1; rw [if_pos rfl]; exact hq
    · rw [if_neg e1]
      have hb := U.rest i h0 hi e1
      rw [hpi] at hb
      exact s.le_trans hi hpl hppl hb hq

/-- The topmost one is ahead of none, and none of it. -/
theorem heap_topS {l : List Nat} (hd : 1 ≤ d) (s : StrictS lt l) (H : HeapS d lt l) : ∀ i, i < l.length → lt (ratS l i) (ratS l 0) = false := by
  intro i
  induction i using Nat.strongRecOn with
  | ind i ih =>
    intro hi
    by_cases h0 : i = 0
    · subst h0; exact s.irr 0 hi
    · have hp := par_ltS hd (Nat.pos_of_ne_zero h0)
      exact s.le_trans hi (Nat.lt_trans hp hi) (by omega) (H i (Nat.pos_of_ne_zero h0) hi) (ih _ hp (Nat.lt_trans hp hi))
/-- One more, at the end. -/
theorem heap_pushS {l : List Nat} (hd : 1 ≤ d) (H : HeapS d lt l) (x : Nat) : UpInvS d lt (l ++ [x]) l.length := by
  have hr : ∀ k, k < l.length → ratS (l ++ [x]) k = ratS l k := fun k hk => by
    simp [ratS, List.getD_eq_getElem?_getD, List.getElem?_append_left hk]
  refine ⟨by simp, fun i h0 hi hne => ?_, fun h0 i hi0 hi hp => ?_⟩
  · simp only [List.length_append, List.length_singleton] at hi
    have hp := par_ltS hd h0
    rw [hr i (by omega), hr _ (by omega)]
    exact H i h0 (by omega)
  · simp only [List.length_append, List.length_singleton] at hi
    have := par_ltS hd hi0
    omega
end

/-! ### how many exchanges -/
/-- How many are above a place. -/
def depthNS (d : Nat) : Nat → Nat → Nat
  | 0, _ => 0
  | f + 1, i => if i = 0 then 0 else depthNS d f (parS d i) + 1
theorem depth_fuelS {d : Nat} (hd : 1 ≤ d) : ∀ (f g i : Nat), i ≤ f → i ≤ g → depthNS d f i = depthNS d g i
  | 0, g, i, hi, _ => by
    obtain rfl : i = 0 := by omega
    cases g <;> rfl
  | f + 1, 0, i, _, hi => by
    obtain rfl : i = 0 := by omega
    rfl
  | f + 1, g + 1, i, h1, h2 => by
    unfold depthNS
    by_cases e : i = 0
    · rw [if_pos e, if_pos e]
    · have := par_ltS hd (Nat.pos_of_ne_zero e)
      rw [if_neg e, if_neg e, depth_fuelS hd f g (parS d i) (by omega) (by omega)]
def depthIS (d i : Nat) : Nat := depthNS d i i
theorem depth_parS {d : Nat} (hd : 1 ≤ d) {i : Nat} (hi : 0 < i) : depthIS d i = depthIS d (parS d i) + 1 := by
  obtain ⟨j, rfl⟩ : ∃ j, i = j + 1 := ⟨i - 1, by omega⟩
  have := par_ltS hd hi
  unfold depthIS
  rw [depthNS, if_neg (by omega), depth_fuelS hd j (parS d (j + 1)) _ (by omega) (Nat.le_refl _)]
/-- An exchange moves nothing in or out. -/
theorem swap_permS {l : List Nat} {i j : Nat} (hi : i < l.length) (hj : j < l.length) : (swapLS l i j).Perm l := by
  have hc : ∀ x, (swapLS l i j).count x = l.count x := fun x => by
    by_cases e : i = j
    · subst e; rw [swap_selfS]
    · have cs : ∀ (m : List Nat) (k y : Nat), k < m.length → (m.set k y).count x + (if m.getD k 0 = x then 1 else 0) = m.count x + (if y = x then 1 else 0) := by
        intro m
        induction m with
        | nil => intro k y hk; simp at hk
        | cons a r ih =>
          intro k y hk
          cases k with
          | zero => simp only [List.set_cons_zero, List.count_cons, List.getD_cons_zero, beq_iff_eq]; omega
          | succ k =>
            have := ih k y (by simpa using hk)
            simp only [List.set_cons_succ, List.count_cons, List.getD_cons_succ]
            omega
      have h1 := cs l i (ratS l j) hi
      have h2 := cs (l.set i (ratS l j)) j (ratS l i) (by simpa using hj)
      have h3 : (l.set i (ratS l j)).getD j 0 = ratS l j := by
        have := rat_setS l i j (ratS l j) hi
        rw [if_neg e] at this
        exact this
      rw [h3] at h2
      have h4 : l.getD i 0 = ratS l i := rfl
      rw [h4] at h1
      unfold swapLS
      omega
  exact List.perm_iff_count.2 hc
end Go.Proofs.YtkcicnflcilekaaGreat

namespace Go.Proofs.YtkcicnflcilekaaGreat

/-- Each slot of the row stands where pl says. -/
def Placed (xs pl : List Nat) : Prop := ∀ i, i < xs.length → ratS xs i < pl.length ∧ ratS pl (ratS xs i) = i
theorem placed_inj {xs pl : List Nat} (P : Placed xs pl) {i j : Nat} (hi : i < xs.length) (hj : j < xs.length) (h : ratS xs i = ratS xs j) : i = j := by
  have a := (P i hi).2
  have b := (P j hj).2
  rw [h] at a
  omega
theorem rat_append {ys zs : List Nat} {i : Nat} (h : i < ys.length) : ratS (ys ++ zs) i = ratS ys i := by
  simp [ratS, List.getD_eq_getElem?_getD, List.getElem?_append_left h]
theorem rat_memS {xs : List Nat} {i : Nat} (h : i < xs.length) : ratS xs i ∈ xs := by
  simp [ratS, List.getD_eq_getElem?_getD, h]
theorem mem_ratS {xs : List Nat} {x : Nat} (h : x ∈ xs) : ∃ i, i < xs.length ∧ ratS xs i = x := by
  obtain ⟨i, hi, rfl⟩ := List.getElem_of_mem h
  exact ⟨i, hi, by simp [ratS, List.getD_eq_getElem?_getD, hi]⟩
theorem swap_append {ys zs : List Nat} {i j : Nat} (hi : i < ys.length) (hj : j < ys.length) : swapLS (ys ++ zs) i j = swapLS ys i j ++ zs := by
  unfold swapLS
  rw [rat_append hi, rat_append hj, List.set_append_left _ _ hi, List.set_append_left _ _ (by simpa using hj)]
theorem swap_comm {xs : List Nat} {i j : Nat} (hi : i < xs.length) (hj : j < xs.length) : swapLS xs i j = swapLS xs j i := by
  apply List.ext_getElem?
  intro k
  have h1 := rat_swapS hi hj k
  have h2 := rat_swapS hj hi k
  by_cases hk : k < xs.length
  · have a1 : (swapLS xs i j)[k]? = some (ratS (swapLS xs i j) k) := by
      rw [List.getElem?_eq_getElem (by rw [swap_lenS]; exact hk)]
      simp [ratS, List.getD_eq_getElem?_getD, swap_lenS, hk]
    have a2 : (swapLS xs j i)[k]? = some (ratS (swapLS xs j i) k) := by
      rw [List.getElem?_eq_getElem (by rw [swap_lenS]; exact hk)]
      simp [ratS, List.getD_eq_getElem?_getD, swap_lenS, hk]
    rw [a1, a2, h1, h2]
    by_cases e1 : k = j
    · by_cases e2 : k = i
      · subst e1; subst e2; rfl
      · rw [if_pos e1, if_neg e2, if_pos e1]
    · rw [if_neg e1, if_neg e1]
  · rw [List.getElem?_eq_none (by rw [swap_lenS]; omega), List.getElem?_eq_none (by rw [swap_lenS]; omega)]
/-- Where things stand behind an exchange. -/
def swapP (xs pl : List Nat) (i j : Nat) : List Nat := (pl.set (ratS xs j) i).set (ratS xs i) j
theorem swapP_len (xs pl : List Nat) (i j : Nat) : (swapP xs pl i j).length = pl.length := by simp [swapP]
theorem placed_swap {xs pl : List Nat} (P : Placed xs pl) {i j : Nat} (hi : i < xs.length) (hj : j < xs.length) : Placed (swapLS xs i j) (swapP xs pl i j) := by
  intro k hk
  rw [swap_lenS] at hk
  have hr := rat_swapS hi hj k
  have pi := (P i hi).1
  have pj := (P j hj).1
  have pk := (P k hk).1
  rw [swapP_len, hr]
  have hs : ∀ x, ratS (swapP xs pl i j) x = if ratS xs i = x then j else if ratS xs j = x then i else ratS pl x := fun x => by
    unfold swapP
    rw [rat_setS _ _ _ _ (by simpa using pi)]
    by_cases e : ratS xs i = x
    · rw [if_pos e, if_pos e]
    · rw [if_neg e, if_neg e, rat_setS _ _ _ _ pj]
  by_cases e1 : k = j
  · rw [if_pos e1, hs, if_pos rfl]
    exact ⟨pi, e1.symm⟩
  · rw [if_neg e1]
    by_cases e2 : k = i
    · rw [if_pos e2, hs]
      refine ⟨pj, ?_⟩
      by_cases e3 : ratS xs i = ratS xs j
      · have := placed_inj P hi hj e3; omega
      · rw [if_neg e3, if_pos rfl]; exact e2.symm
    · rw [if_neg e2, hs, if_neg (fun e => e2 (placed_inj P hi hk e).symm), if_neg (fun e => e1 (placed_inj P hj hk e).symm)]
      exact ⟨pk, (P k hk).2⟩

/-- ys has turned into ys' (zs stands behind it, as it was): the same things, each where pl' says; k questions at most. -/
structure Turned (k : Nat) (zs ys pl : List Nat) (s : Int) (ys' pl' : List Nat) (s' : Int) : Prop where
  perm : ys'.Perm ys
  placed : Placed (ys' ++ zs) pl'
  plen : pl'.length = pl.length
  off : ∀ x, x ∉ ys → ratS pl' x = ratS pl x
  lo : s ≤ s'
  hi : s' ≤ s + k
theorem Turned.refl {zs ys pl : List Nat} {s : Int} (P : Placed (ys ++ zs) pl) : Turned 0 zs ys pl s ys pl s := ⟨List.Perm.refl _, P, rfl, fun _ _ => rfl, Int.le_refl _, by omega⟩
theorem Turned.trans {k m : Nat} {zs ys pl ys1 pl1 ys2 pl2 : List Nat} {s s1 s2 : Int} (a : Turned k zs ys pl s ys1 pl1 s1) (b : Turned m zs ys1 pl1 s1 ys2 pl2 s2) : Turned (k + m) zs ys pl s ys2 pl2 s2 :=
  ⟨b.perm.trans a.perm, b.placed, b.plen.trans a.plen, fun x hx => (b.off x (fun h => hx (a.perm.mem_iff.1 h))).trans (a.off x hx), Int.le_trans a.lo b.lo, by have := a.hi; have := b.hi; omega⟩
theorem Turned.mono {k m : Nat} {zs ys pl ys1 pl1 : List Nat} {s s1 : Int} (a : Turned k zs ys pl s ys1 pl1 s1) (h : k ≤ m) : Turned m zs ys pl s ys1 pl1 s1 := ⟨a.perm, a.placed, a.plen, a.off, a.lo, by have := a.hi; omega⟩
theorem Turned.ask {zs ys pl : List Nat} {s s' : Int} (P : Placed (ys ++ zs) pl) (h : s ≤ s' ∧ s' ≤ s + 1) : Turned 1 zs ys pl s ys pl s' := ⟨List.Perm.refl _, P, rfl, fun _ _ => rfl, h.1, by have := h.2; omega⟩
theorem Turned.swap {zs ys pl : List Nat} {s : Int} {i j : Nat} (P : Placed (ys ++ zs) pl) (hi : i < ys.length) (hj : j < ys.length) : Turned 0 zs ys pl s (swapLS ys i j) (swapP (ys ++ zs) pl i j) s := by
  have hi' : i < (ys ++ zs).length := by simp; omega
  have hj' : j < (ys ++ zs).length := by simp; omega
  refine ⟨swap_permS hi hj, by rw [← swap_append hi hj]; exact placed_swap P hi' hj', swapP_len _ _ _ _, fun x hx => ?_, Int.le_refl _, by omega⟩
  unfold swapP
  have pi := (P i hi').1
  have pj := (P j hj').1
  rw [rat_append hi, rat_append hj] at *
  rw [rat_setS _ _ _ _ (by simpa using pi), if_neg (fun e : ratS ys i = x => hx (e ▸ rat_memS hi)), rat_setS _ _ _ _ pj, if_neg (fun e : ratS ys j = x => hx (e ▸ rat_memS hj))]

section
variable {lt : Nat → Nat → Bool} {l : List Nat} {i : Nat}
end

section
variable {W : WS}
def ltW (W : WS) : Nat → Nat → Bool := fun a b => aheadW W a b
/-- The slots of a row are in heaps. -/
def AllIn (W : WS) (xs : List Nat) : Prop := ∀ x ∈ xs, x < W.cells.length ∧ homeAt W x ≠ 0
theorem strict_of {xs pl : List Nat} (A : AllIn W xs) (P : ∀ i j, i < xs.length → j < xs.length → ratS xs i = ratS xs j → i = j) : StrictS (ltW W) xs := by
  have hm : ∀ i, i < xs.length → ratS xs i < W.cells.length ∧ homeAt W (ratS xs i) ≠ 0 := fun i hi => A _ (rat_memS hi)
  refine ⟨fun i hi => ?_, fun i j k hi hj hk h1 h2 => ?_, fun i j hi hj hij h => ?_⟩
  · obtain ⟨a1, a2⟩ := hm i hi
    show aheadW W _ _ = false
    rw [ahead_nat a1 a1 a2 a2]
    cases h : aheadC (W.cells.getD (ratS xs i) .off) (W.cells.getD (ratS xs i) .off) (ratS xs i) (ratS xs i)
    · rfl
    · rw [ahead_iff] at h; omega
  · obtain ⟨a1, a2⟩ := hm i hi
    obtain ⟨b1, b2⟩ := hm j hj
    obtain ⟨c1, c2⟩ := hm k hk
    unfold ltW at *
    rw [ahead_nat a1 b1 a2 b2] at h1
    rw [ahead_nat b1 c1 b2 c2] at h2
    rw [ahead_nat a1 c1 a2 c2]
    exact ahead_trans h1 h2
  · obtain ⟨a1, a2⟩ := hm i hi
    obtain ⟨b1, b2⟩ := hm j hj
    unfold ltW at *
    rw [ahead_nat a1 b1 a2 b2] at h
    rw [ahead_nat b1 a1 b2 a2]
    exact ahead_total (fun e => hij (P i j hi hj (by omega))) h
end
end Go.Proofs.YtkcicnflcilekaaGreat

namespace Go.Proofs.YtkcicnflcilekaaGreat

section
variable {lt : Nat → Nat → Bool} {l : List Nat} {i : Nat}
end
/-- One more at the end. -/
theorem placed_snoc {xs pl : List Nat} {x : Nat} (P : Placed xs pl) (hx : x ∉ xs) (hp : x < pl.length) : Placed (xs ++ [x]) (pl.set x xs.length) := by
  intro i hi
  simp only [List.length_append, List.length_singleton] at hi
  rw [List.length_set, rat_setS _ _ _ _ hp]
  by_cases e : i < xs.length
  · rw [rat_append e, if_neg (fun e2 : x = ratS xs i => hx (e2 ▸ rat_memS e))]
    exact P i e
  · have ei : i = xs.length := by omega
    have : ratS (xs ++ [x]) i = x := by subst ei; simp [ratS, List.getD_eq_getElem?_getD]
    rw [this, if_pos rfl]
    exact ⟨hp, ei.symm⟩
theorem set_off {pl : List Nat} {x : Nat} (hp : x < pl.length) (k y : Nat) (h : x ≠ y) : ratS (pl.set x k) y = ratS pl y := by rw [rat_setS _ _ _ _ hp, if_neg h]
end Go.Proofs.YtkcicnflcilekaaGreat
