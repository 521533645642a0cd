/- Merged of DaryInv, SiftNum, ZMap, ZMapEntry, Asks. -/
import Derived.Test.YtkcicnflcilekaaGreatSiftRunsMath
import Derived.Test.YtkcicnflcilekaaGreatPqHeld
import Derived.Test.YtkcicnflcilekaaGreatArenaMath
import Derived.Test.YtkcicnflcilekaaGreatChecked
import Derived.WalkLawsBesides
import Derived.IntWalk
import Derived.WalkSpells
import Derived.Test.YtkcicnflcilekaaGreatArenaObj
import Derived.WideKeyEntry
import Derived.Test.YtkcicnflcilekaaGreatNames
namespace Go.Proofs.YtkcicnflcilekaaGreat

theorem dcell_off {W : WS} {x : Int} (h : ¬ (0 ≤ x ∧ x < W.cells.length)) : cellW W x = .off := by
  unfold cellW slotW
  rw [decide_eq_false h]; rfl
theorem dcell_in {W : WS} {x : Int} {h : Nat} (hp : 1 ≤ h) (e : (cellW W x).home = h) : ∃ k : Nat, x = k ∧ k < W.cells.length ∧ homeAt W k = h ∧ inW W x = true := by
  by_cases hx : 0 ≤ x ∧ x < W.cells.length
  · refine ⟨x.toNat, by omega, by omega, ?_, ?_⟩
    · have := cell_nat W x.toNat (by omega)
      rw [show ((x.toNat : Nat) : Int) = x by omega] at this
      unfold homeAt
      rw [← this]; exact e
    · unfold inW; rw [e]; exact bne_iff_ne.2 (by omega)
  · rw [dcell_off hx] at e
    have : (0 : Nat) = h := e
    omega
/-- The rows Ls are those of the nest W. -/
structure DInv (W : WS) (d : Nat) (Ls : Nat → List Int) : Prop where
  mem : ∀ h x, 1 ≤ h → (x ∈ Ls h ↔ (cellW W x).home = h)
  zero : Ls 0 = []
  nodup : ∀ h, (Ls h).Nodup
  heap : ∀ h, Heap d (aheadW W) (Ls h)
def updI (g : Nat → List Int) (h : Nat) (l : List Int) : Nat → List Int := fun i => if i = h then l else g i
/-- The order of slots that are in heaps is strict. -/
theorem dahead_in {W : WS} {x y : Int} (hx : inW W x = true) (hy : inW W y = true) : aheadW W x y = aheadC (cellW W x) (cellW W y) x y := by
  unfold aheadW; rw [hx, hy]; rfl
section
variable {W : WS} {d : Nat} {Ls : Nat → List Int}
theorem DInv.in' (I : DInv W d Ls) {h : Nat} {x : Int} (hx : x ∈ Ls h) : 1 ≤ h ∧ (cellW W x).home = h ∧ inW W x = true ∧ ∃ k : Nat, x = k ∧ k < W.cells.length ∧ homeAt W k = h := by
  by_cases e : h = 0
  · subst e; rw [I.zero] at hx; cases hx
  · have h1 := (I.mem h x (by omega)).1 hx
    obtain ⟨k, h2, h3, h4, h5⟩ := dcell_in (by omega) h1
    exact ⟨by omega, h1, h5, k, h2, h3, h4⟩
theorem DInv.len (I : DInv W d Ls) (h : Nat) (hp : 1 ≤ h) : (Ls h).length = lenW W h := by
  have hl : lenW W h = ((List.range W.cells.length).filter fun x => homeAt W x == h).length := by
    unfold lenW
    rw [if_pos (by omega), ← List.countP_eq_length_filter]
    have e : W.cells = (List.range W.cells.length).map fun x => W.cells.getD x .off := by
      apply List.ext_getElem
      · simp
      · intro n h1 h2
        simp [List.getD_eq_getElem?_getD, h1]
    conv => lhs; rw [e]
    rw [List.countP_map]
    refine List.countP_congr fun x _ => ?_
    simp only [Function.comp, homeAt, beq_iff_eq]
    omega
  rw [hl, ← List.length_map (f := fun i : Nat => (i : Int))]
  refine List.Perm.length_eq ((List.perm_ext_iff_of_nodup (I.nodup h) ?_).2 fun x => ?_)
  · rw [List.nodup_iff_pairwise_ne, List.pairwise_map]
    exact (List.nodup_range.filter _).imp (fun h e => h (by omega))
  · rw [List.mem_map]
    constructor
    · intro hx
      obtain ⟨_, _, _, k, h2, h3, h4⟩ := I.in' hx
      exact ⟨k, by rw [List.mem_filter, List.mem_range]; exact ⟨h3, by simp [h4]⟩, h2.symm⟩
    · rintro ⟨k, hk, rfl⟩
      rw [List.mem_filter, List.mem_range] at hk
      rw [I.mem h _ hp, cell_nat W k hk.1]
      have := hk.2
      simp only [beq_iff_eq] at this
      exact this
theorem DInv.lenLe (I : DInv W d Ls) (hf : W.Fit) (h : Nat) : (Ls h).length ≤ 65536 := by
  by_cases e : h = 0
  · subst e; rw [I.zero]; simp
  · rw [I.len h (by omega)]; exact Nat.le_trans (len_le W h) hf.cap
theorem DInv.empty (I : DInv W d Ls) {h : Nat} (hp : 1 ≤ h) : Ls h = [] ↔ lenW W h = 0 := by
  rw [← I.len h hp]; exact List.length_eq_zero_iff.symm
theorem dahead_irr (W : WS) (x : Int) : aheadW W x x = false := by
  cases h : aheadW W x x with
  | false => rfl
  | true =>
    unfold aheadW at h
    simp only [Bool.and_eq_true] at h
    have := (ahead_iff _ _ _ _).1 h.2
    omega
theorem dahead_trans {W : WS} {x y z : Int} (h1 : aheadW W x y = true) (h2 : aheadW W y z = true) : aheadW W x z = true := by
  unfold aheadW at *
  simp only [Bool.and_eq_true] at *
  have a := (ahead_iff _ _ _ _).1 h1.2
  have b := (ahead_iff _ _ _ _).1 h2.2
  exact ⟨⟨h1.1.1, h2.1.2⟩, (ahead_iff _ _ _ _).2 (by omega)⟩
theorem dahead_total {W : WS} {x y : Int} (hx : inW W x = true) (hy : inW W y = true) (hne : x ≠ y) (h : aheadW W x y = false) : aheadW W y x = true := by
  rw [dahead_in hx hy] at h
  rw [dahead_in hy hx]
  cases h2 : aheadC (cellW W y) (cellW W x) y x with
  | true => rfl
  | false =>
    have a : ¬ _ := fun e => by rw [(ahead_iff (cellW W x) (cellW W y) x y).2 e] at h; cases h
    have b : ¬ _ := fun e => by rw [(ahead_iff (cellW W y) (cellW W x) y x).2 e] at h2; cases h2
    omega
theorem DInv.strict (I : DInv W d Ls) (h : Nat) : Strict (aheadW W) (Ls h) :=
  ⟨fun _ _ => dahead_irr W _, fun _ _ _ _ _ _ a b => dahead_trans a b, fun _ _ hi hj hij a => dahead_total (I.in' (rat_mem hi)).2.2.1 (I.in' (rat_mem hj)).2.2.1 (fun e => hij (rat_inj (I.nodup h) hi hj e)) a⟩
/-- The first of a row is ahead of all others. -/
theorem DInv.min (I : DInv W d Ls) (hd : 1 ≤ d) {h : Nat} (hn : Ls h ≠ []) : ∃ k : Nat, rat (Ls h) 0 = k ∧ IsMin W h k := by
  have hl : 0 < (Ls h).length := List.length_pos_iff.2 hn
  obtain ⟨h1, _, _, k, h2, h3, h4⟩ := I.in' (rat_mem hl)
  refine ⟨k, h2, ⟨h3, by omega, by omega, fun j hj hh hne => ?_⟩⟩
  have hm : (j : Int) ∈ Ls h := (I.mem h j h1).2 (by rw [cell_nat W j hj]; show homeAt W j = h; omega)
  obtain ⟨i, hi, e⟩ := mem_rat hm
  have h5 := heap_top hd (I.strict h) (I.heap h) i hi
  have hi0 : i ≠ 0 := fun e0 => hne (by rw [e0, h2] at e; omega)
  have h6 := (I.strict h).total i 0 hi hl hi0 h5
  rw [e, h2] at h6
  exact h6
theorem dinv_new (n d : Nat) : DInv (newW n) d (fun _ => []) := by
  refine ⟨fun h x hp => ?_, rfl, fun _ => List.nodup_nil, fun _ => heap_nil⟩
  simp only [List.not_mem_nil, false_iff]
  intro e
  obtain ⟨k, _, h3, h4, _⟩ := dcell_in hp e
  simp only [newW, List.length_replicate] at h3
  simp [homeAt, newW, List.getD_eq_getElem?_getD, h3, CellD.off] at h4
  omega
theorem dcells_eq {W' : WS} (h1 : W'.cells = W.cells) (x : Int) : cellW W' x = cellW W x := by unfold cellW slotW; rw [h1]
theorem DInv.congr {W' : WS} (I : DInv W d Ls) (h1 : W'.cells = W.cells) : DInv W' d Ls := by
  have e : aheadW W' = aheadW W := by
    funext a b
    unfold aheadW inW
    rw [dcells_eq h1, dcells_eq h1]
  exact ⟨fun h x hp => by rw [dcells_eq h1]; exact I.mem h x hp, I.zero, I.nodup, fun h => by rw [e]; exact I.heap h⟩
/-- The order hangs on the entries alone. -/
theorem dahead_same {W' : WS} {a b : Int} (ha : cellW W' a = cellW W a) (hb : cellW W' b = cellW W b) : aheadW W' a b = aheadW W a b := by
  unfold aheadW inW; rw [ha, hb]
theorem row_same {W' : WS} {l : List Int} (hd : 1 ≤ d) (H : Heap d (aheadW W) l) (h : ∀ x ∈ l, cellW W' x = cellW W x) : Heap d (aheadW W') l :=
  heap_congr hd (fun a ha b hb => dahead_same (h a ha) (h b hb)) H
/-- What a slot is, where one is set. -/
theorem dcell_set (W : WS) {k : Nat} (hk : k < W.cells.length) (c : CellD) (x : Int) : cellW ⟨W.heaps, W.cells.set k c⟩ x = if x = k then c else cellW W x := by
  by_cases hx : 0 ≤ x ∧ x < W.cells.length
  · obtain ⟨j, rfl⟩ : ∃ j : Nat, x = j := ⟨x.toNat, by omega⟩
    rw [cell_nat W j (by omega), cell_nat _ j (by show j < (W.cells.set k c).length; rw [List.length_set]; omega)]
    show (W.cells.set k c).getD j .off = _
    rw [getD_setN _ _ _ _ _ hk]
    by_cases e : k = j
    · rw [if_pos e, if_pos (by omega)]
    · rw [if_neg e, if_neg (by omega)]
  · rw [if_neg (by omega), dcell_off hx, dcell_off (by show ¬ (0 ≤ x ∧ x < ((W.cells.set k c).length : Int)); rw [List.length_set]; exact hx)]
/-- One slot comes in. -/
theorem dinv_put (I : DInv W d Ls) (hd : 1 ≤ d) {h : Nat} {x k s : Int} (hp : putB W h x = true) (h1 : 1 ≤ h) :
    (∀ g, x ∉ Ls g) ∧ (∀ y, cellW (putW W h x k s) y = if y = x then ⟨h, k, s⟩ else cellW W y) ∧ Heap d (aheadW (putW W h x k s)) (Ls h) ∧ (∀ y ∈ Ls h ++ [x], inW (putW W h x k s) y = true) ∧ (Ls h ++ [x]).Nodup ∧
    ∀ ys, Heap d (aheadW (putW W h x k s)) ys → ys.Perm (Ls h ++ [x]) → DInv (putW W h x k s) d (updI Ls h ys) := by
  have hp' := hp
  simp only [putB, Bool.and_eq_true, Bool.not_eq_true'] at hp
  obtain ⟨_, h2, h3⟩ := hp
  obtain ⟨x', e, hx⟩ := slot_nat h2
  subst e
  have h0 : (cellW W x').home = 0 := by unfold inW at h3; simpa using h3
  have e1 : putW W h x' k s = ⟨W.heaps, W.cells.set x' ⟨h, k, s⟩⟩ := by simp [putW, hp']
  have hc : ∀ y, cellW (putW W h x' k s) y = if y = (x' : Int) then ⟨h, k, s⟩ else cellW W y := fun y => by rw [e1]; exact dcell_set W hx _ y
  have hnot : ∀ g, (x' : Int) ∉ Ls g := fun g hm => by
    have := I.in' hm
    omega
  have hsame : ∀ g, ∀ y ∈ Ls g, cellW (putW W h x' k s) y = cellW W y := fun g y hy => by
    rw [hc, if_neg (fun e : y = x' => hnot g (by rw [← e]; exact hy))]
  have hnd : (Ls h ++ [(x' : Int)]).Nodup := by
    rw [List.nodup_append]
    exact ⟨I.nodup h, by simp, fun a ha b hb e => hnot h (by rw [← List.mem_singleton.1 hb, ← e]; exact ha)⟩
  refine ⟨hnot, hc, row_same hd (I.heap h) (hsame h), fun y hy => ?_, hnd, fun ys H Pm => ⟨fun g y hg => ?_, ?_, fun g => ?_, fun g => ?_⟩⟩
  · rcases List.mem_append.1 hy with hy | hy
    · unfold inW; rw [hsame h y hy]; exact (I.in' hy).2.2.1
    · rw [List.mem_singleton.1 hy]; unfold inW; rw [hc, if_pos rfl]; exact bne_iff_ne.2 (by show h ≠ 0; omega)
  · rw [hc]
    unfold updI
    by_cases e : g = h
    · subst e
      rw [if_pos rfl, Pm.mem_iff, List.mem_append, List.mem_singleton, I.mem g y hg]
      by_cases e2 : y = x'
      · rw [if_pos e2]; simp [e2]
      · rw [if_neg e2]; simp [e2]
    · rw [if_neg e, I.mem g y hg]
      by_cases e2 : y = x'
      · rw [if_pos e2, e2, h0]; constructor
        · intro h; omega
        · intro h5; exact absurd h5.symm e
      · rw [if_neg e2]
  · unfold updI; rw [if_neg (by omega)]; exact I.zero
  · unfold updI
    by_cases e : g = h
    · rw [if_pos e]; exact Pm.nodup_iff.2 hnd
    · rw [if_neg e]; exact I.nodup g
  · unfold updI
    by_cases e : g = h
    · rw [if_pos e]; exact H
    · rw [if_neg e]; exact row_same hd (I.heap g) (hsame g)
end
end Go.Proofs.YtkcicnflcilekaaGreat

namespace Go.Proofs.YtkcicnflcilekaaGreat
open Go.RowKit Go.Sort

theorem isdeg_c (d : Int) (w : World) : Calls Tryz.prog 105 #[.int .i64 d] w fun e w' => e = .returned (.bool (rightD d)) ∧ w = w' := by
  go_enter Tryz.func105, Tryz.ntmps105
  go_wp2
  all_goals
    go_ret
    exact ⟨ret_bool (by rw [Bool.eq_iff_iff]; simp_all [rightD]; try omega), rfl⟩
theorem par_facts {d i : Int} (hr : rightD d = true) (h : 1 ≤ i) (hi : i ≤ 9223372036854775807) : IntKind.i64.wrap (i - 1) = i - 1 ∧ (i - 1).tdiv d = (i - 1) / d ∧ (d == 0) = false ∧ IntKind.i64.wrap ((i - 1) / d) = (i - 1) / d ∧ ¬ d = 0 := by
  obtain ⟨h1, h2⟩ := rightD_iff.1 hr
  have e1 : (i - 1).tdiv d = (i - 1) / d := Int.tdiv_eq_ediv_of_nonneg (by omega)
  have h3 : 0 ≤ (i - 1) / d := Int.ediv_nonneg (by omega) (by omega)
  have h4 : (i - 1) / d ≤ i - 1 := Int.ediv_le_self _ (by omega)
  exact ⟨IntWalk.i64_in _ (by omega), e1, by simp; omega, IntWalk.i64_in _ (by omega), by omega⟩
section
variable (d i : Int) (w : World) (hi : i ≤ 9223372036854775807)
include hi
theorem parent_c : Calls Tryz.prog 170 #[.int .i64 d, .int .i64 i] w fun e w' => e = .returned (.tuple #[.int .i64 (parD d i).1, .bool (parD d i).2]) ∧ w = w' := by
  have hR := isdeg_c d
  unfold parD
  cases hr : rightD d
  · rw [if_neg (by simp)]
    rw [hr] at hR
    go_enter Tryz.func170, Tryz.ntmps170
    go_wp2_with fail
    refine (hR _).mono ?_
    rintro e w1 ⟨rfl, rfl⟩
    go_wp2_with fail
    go_ret2
    exact ⟨rfl, rfl⟩
  · rw [hr] at hR
    by_cases h : 1 ≤ i
    · obtain ⟨e1, e2, e3, e4, e5⟩ := par_facts hr h hi
      rw [if_pos ⟨rfl, h⟩]
      have h' : ¬ i < 1 := by omega
      generalize (i - 1) / d = q at *
      go_enter Tryz.func170, Tryz.ntmps170
      go_wp2_with fail
      refine (hR _).mono ?_
      rintro e w1 ⟨rfl, rfl⟩
      go_wp2_with fail
      go_ret2
      exact ⟨rfl, rfl⟩
    · rw [if_neg (fun x => h x.2)]
      have h' : i < 1 := by omega
      go_enter Tryz.func170, Tryz.ntmps170
      go_wp2_with fail
      refine (hR _).mono ?_
      rintro e w1 ⟨rfl, rfl⟩
      go_wp2_with fail
      go_ret2
      exact ⟨rfl, rfl⟩
end
section
variable (d i k : Int) (w : World)
end
end Go.Proofs.YtkcicnflcilekaaGreat

namespace Go.Proofs.YtkcicnflcilekaaGreat
open Go.RowKit Go.Sort

/-- What a map holds at a key, if it has it, and how many keys it has. -/
structure ZMapIs (D : DataW Unit) (f : Int → Option Int) (n : Nat) : Prop where
  at' : ∀ h : Int, D.atKey (.int .i64 h) (.lit (.int .i64 0)) = .lit (.int .i64 ((f h).getD 0))
  has' : ∀ h : Int, Maps.has D (.int .i64 h) = (f h).isSome
  tidy : Maps.Tidy D
  size : Maps.size D = n
def setZ (f : Int → Option Int) (k : Int) (o : Option Int) : Int → Option Int := fun h => if h = k then o else f h
theorem setZ_same (f : Int → Option Int) (k : Int) (o : Option Int) : setZ f k o k = o := by simp [setZ]
theorem setZ_other (f : Int → Option Int) {k h : Int} (o : Option Int) (hn : h ≠ k) : setZ f k o h = f h := by simp [setZ, hn]
theorem ZMapIs.empty : ZMapIs (.map []) (fun _ => none) 0 := ⟨fun _ => rfl, fun _ => rfl, ⟨[], rfl, List.Pairwise.nil⟩, rfl⟩
theorem ZMapIs.put {D : DataW Unit} {f : Int → Option Int} {n : Nat} (h : ZMapIs D f n) (k v : Int) : ZMapIs (D.put (.int .i64 k) (.lit (.int .i64 v))) (setZ f k (some v)) (if (f k).isSome then n else n + 1) := by
  have hk : WideAt.IsKeyLit (.int .i64 k) := trivial
  have hm := h.tidy.isMap
  refine ⟨fun x => ?_, fun x => ?_, h.tidy.put hk _, ?_⟩
  · by_cases hx : x = k
    · subst hx
      rw [Maps.atKey_put_same hm hk, setZ_same]; rfl
    · rw [Maps.atKey_put_other (by simpa using hx), h.at', setZ_other _ _ hx]
  · by_cases hx : x = k
    · subst hx
      rw [Maps.has_put_same hm hk, setZ_same]; rfl
    · rw [Maps.has_put_other (by simpa using hx), h.has', setZ_other _ _ hx]
  · rw [Maps.size_put h.tidy, h.has', h.size]
/-- At block b lies a map of integers that holds f, of n keys. -/
def Ob.zmap (P : Program) (k e : TypeId) (b : Nat) (f : Int → Option Int) (n : Nat) : Ob where
  holds w F := (∃ D, w.ownsMap (H := Unit) P k (plainElem P e) b n D ∧ ZMapIs D f n) ∧ F = (· = b)
  keeps := by
    rintro w w' F G ⟨⟨D, h, hm⟩, rfl⟩ kp hg
    refine ⟨⟨D, ?_, hm⟩, rfl⟩
    have hlt := h.lt
    obtain ⟨es, clock, hb, r⟩ := h
    exact ⟨es, clock, by rw [kp.block b hlt (hg b rfl)]; exact hb, r⟩
  lt := by rintro w F ⟨⟨D, h, _⟩, rfl⟩ k rfl; exact h.lt
namespace Stage
variable {F0 : Nat → Prop} {W w w' : World} {l : List Ob} {P : Program} {t k e : TypeId} {b n : Nat} {f : Int → Option Int}
theorem newZMap (h : Stage F0 W l w) (P : Program) (k e : TypeId) {b : Nat} (hb : w.heap.size = b) : Stage F0 W (l ++ [Ob.zmap P k e b (fun _ => none) 0]) (w.alloc (.map #[] 0)) := by
  subst hb
  exact h.add ((Below.refl _ _).alloc (Nat.le_refl _) _) ⟨⟨_, World.ownsMap_made w P k _, ZMapIs.empty⟩, rfl⟩ (fun _ hk => Nat.le_of_eq hk.symm)
/-- 'v, ok := m[k]'. -/
theorem lookOkZ (h : Stage F0 W l w) (i : Nat) (hi : l[i]? = some (Ob.zmap P k e b f n)) (ht : P.underlying t = some (.map k e)) (hk : P.underlying k = some (.int .i64)) (he : P.underlying e = some (.int .i64)) (hz : (zeroValue e).run P w = .ok (.int .i64 0) w)
    (x : Int) (hx : -9223372036854775808 ≤ x ∧ x ≤ 9223372036854775807) : (Instr.lookup t (.map (some b)) (.int .i64 x) true).run P w = .ok (.tuple #[.int .i64 ((f x).getD 0), .bool (f x).isSome]) w := by
  obtain ⟨_, ⟨D, hown, hm⟩, _⟩ := h.get hi
  obtain ⟨v, ps, hrun, hv⟩ := hown.look_ok (Maps.int_keyed hk) ht hz (plainElem_int he (by decide)) (Maps.keyOf_int_mk hk (wf_i64' hx))
  rw [hm.at' x] at hv
  obtain ⟨c, rfl, hc, _⟩ := plainElem_int_inv he hv
  simp only [Prod.mk.injEq, DataW.lit.injEq, Lit.int.injEq, true_and] at hc
  rw [hrun, hm.has' x, hc.1]
/-- 'm[k] = v' at the operation. -/
theorem wp_putZ {ops : Array Oper} {rest : List Oper} {o : Oper} {a : Act} {Q : Exit → Act → World → Prop} (h : Stage F0 W l w) (i : Nat) (hi : l[i]? = some (Ob.zmap P k e b f n)) (hg : o.guard = none) (m x v : Operand) (hop : o.op = Op.mapUpdate t m x v)
    (ht : P.underlying t = some (.map k e)) (hk : P.underlying k = some (.int .i64)) (he : P.underlying e = some (.int .i64)) (hM : n < maxLen)
    (hm : a.eval m = .map (some b)) (key val : Int) (hx : a.eval x = .int .i64 key) (hv : a.eval v = .int .i64 val) (hkey : -9223372036854775808 ≤ key ∧ key ≤ 9223372036854775807) (hval : -9223372036854775808 ≤ val ∧ val ≤ 9223372036854775807)
    (hK : ∀ w', Stage F0 W (l.set i (Ob.zmap P k e b (setZ f key (some val)) (if (f key).isSome then n else n + 1))) w' → wpList P ops Q rest (a.put o.dst undef) w') : wpList P ops Q (o :: rest) a w := by
  obtain ⟨_, ⟨D, hown, hmi⟩, _⟩ := h.get hi
  refine wpList_mapUpdate_own w hg m x v t hop k e (Maps.int_keyed hk) ht _ b n D hm hown hM _ _ _ hx hv (Maps.keyOf_int_mk hk (wf_i64' hkey)) _ [] (plainElem_int he (wf_i64' hval)) fun w' h1 h2 => hK w' ?_
  have h3 := hmi.put key val
  exact h.moved hi fun F hF => ⟨(· = b), ⟨⟨_, owns_tight h1 (Nat.le_of_eq h3.size), h3⟩, rfl⟩, by
    have e2 : F = (· = b) := hF.2
    subst e2
    exact ⟨keeps_of_grown h2, fun k hk => Or.inl hk⟩⟩
end Stage
end Go.Proofs.YtkcicnflcilekaaGreat

namespace Go.Proofs.YtkcicnflcilekaaGreat
open Go.RowKit Go.Sort
open Go.WideElems (Fit findIdx_arr findIdx_born set_self)

section
variable {P : Program} {t k e : TypeId} {R : Value → Option (DataW Unit × List MemPlace)} {b : Nat} {es : Array MapEntry} {clock : Nat} {w : World}
/-- A key that is there: its entry is got, and the world is as it was; written, it is as if the map had been. -/
theorem entry_there (K : Maps.Keyed P k) (ht : P.underlying t = some (.map k e)) (hb : w.heap[b]? = some (.map es clock)) (F : Fit P k R es clock) {key : Value} {kl : Lit} (hkey : keyOf P k key = some kl) (hin : ∃ x ∈ es.toList, x.key = key) (val : Value) :
    ∃ (v0 : Value) (st : Nat) (w' : World), (Instr.mapEntry t (.map (some b)) key).run P w = .ok (.tuple #[v0, goInt st]) w ∧ (Instr.entryStore t (.map (some b)) (goInt st) val).run P w = .ok () w' ∧ (Instr.mapUpdate t (.map (some b)) key val).run P w = .ok () w' := by
  obtain ⟨s1, s2, _⟩ := F.stamped
  have hks : ∀ x ∈ es.toList, ∃ l, keyOf P k x.key = some l := fun x hx => by
    obtain ⟨y, hy⟩ := F.reads x hx
    exact ⟨y.1, WideElems.rd_key hy⟩
  rcases K.find w hkey es.toList hks with ⟨_, h2⟩ | ⟨j, e0, h1, h2, h3⟩
  · obtain ⟨x, hx, e⟩ := hin
    exact absurd e (h2 x hx)
  · have hj : es[j]? = some e0 := by simpa using h2
    have hsame : es.modify j (fun e => { e with key := key }) = es := by
      apply Array.ext'
      rw [Array.toList_modify, ChangeMaps.modify_eq_set _ _ _ _ h2]
      have : ({ e0 with key := key } : MapEntry) = e0 := by rw [← h3]
      rw [this]
      exact set_self _ _ _ h2
    have hidx : es.findIdx? (fun e => ((e.born : Nat) : Int) == ((e0.born : Nat) : Int)) = some j := by
      rw [findIdx_arr]
      exact findIdx_born s2 h2
    have hmod : es.modify j (fun e => { e with val := val }) = es.modify j (fun e' => { e' with key := key, val := val }) := by
      apply Array.ext'
      rw [Array.toList_modify, Array.toList_modify, ChangeMaps.modify_eq_set _ _ _ _ h2, ChangeMaps.modify_eq_set _ _ _ _ h2, ← h3]
    have hw : ChangeMaps.setBlock w b (.map es clock) = w := by
      have e1 : w.heap.setIfInBounds b (.map es clock) = w.heap := by
        apply Array.ext_getElem?
        intro i
        by_cases hi : i = b
        · subst hi
          exact (ChangeMaps.heap_setBlock_same hb _).trans hb.symm
        · exact ChangeMaps.heap_setBlock_other hb _ hi
      unfold ChangeMaps.setBlock
      rw [e1]
    refine ⟨e0.val, e0.born, ChangeMaps.setBlock w b (.map (es.modify j (fun e' => { e' with key := key, val := val })) clock), ?_, ?_, ?_⟩
    · conv => rhs; rw [← hw]
      simp [Instr.mapEntry, run_underlying ht, MapKept.run_getObj_map hb, K.check w false hkey, h1, hj, h3, K.stays w hkey, hsame, MapKept.run_setObj_map _ hb, Result.andThen, ChangeMaps.setBlock]
    · simp [Instr.entryStore, MapKept.run_getObj_map hb, asInt, asIntOf, goInt, hidx, hmod, MapKept.run_setObj_map _ hb, Result.andThen, ChangeMaps.setBlock]
    · simp [Instr.mapUpdate, run_underlying ht, MapKept.run_getObj_map hb, K.check w false hkey, h1, hj, h3, K.stays w hkey, MapKept.run_setObj_map _ hb, Result.andThen, ChangeMaps.setBlock]
theorem has_there (K : Maps.Keyed P k) (ht : P.underlying t = some (.map k e)) {z : Value} (hz : (zeroValue e).run P w = .ok z w) (F : Fit P k R es clock) (hb : w.heap[b]? = some (.map es clock)) {key : Value} {kl : Lit} (hkey : keyOf P k key = some kl) (h : Maps.has (DataW.map ((es.toList.map (WideElems.rg P k R)).foldr DataW.insert [])) kl = true) : ∃ x ∈ es.toList, x.key = key := by
  rcases Maps.fit_look true K ht hz hb F hkey with ⟨_, _, hat⟩ | ⟨e0, y, h1, h2, _⟩
  · rw [Maps.has_false_of_atKey hat] at h
    cases h
  · exact ⟨e0, h1, h2⟩
end
namespace Stage
variable {F0 : Nat → Prop} {W w : World} {l : List Ob} {P : Program} {t k e : TypeId} {b n : Nat} {f : Int → Option Int}
/-- The entry of a key that is there, got and written: equations that the walk takes. -/
theorem entryZ (h : Stage F0 W l w) (i : Nat) (hi : l[i]? = some (Ob.zmap P k e b f n)) (ht : P.underlying t = some (.map k e)) (hk : P.underlying k = some (.int .i64)) (he : P.underlying e = some (.int .i64)) (hz : (zeroValue e).run P w = .ok (.int .i64 0) w) (hM : n < maxLen)
    (key val : Int) (hkey : -9223372036854775808 ≤ key ∧ key ≤ 9223372036854775807) (hval : -9223372036854775808 ≤ val ∧ val ≤ 9223372036854775807) (hin : (f key).isSome = true) :
    ∃ (v0 : Value) (st : Nat) (w' : World), (Instr.mapEntry t (.map (some b)) (.int .i64 key)).run P w = .ok (.tuple #[v0, .int .i64 (st : Int)]) w ∧ (Instr.entryStore t (.map (some b)) (.int .i64 (st : Int)) (.int .i64 val)).run P w = .ok () w' ∧
      Stage F0 W (l.set i (Ob.zmap P k e b (setZ f key (some val)) n)) w' := by
  obtain ⟨_, ⟨D, hown, hmi⟩, _⟩ := h.get hi
  have hko := Maps.keyOf_int_mk hk (wf_i64' hkey)
  obtain ⟨w', hrun, h1, h2⟩ := hown.store (t := t) (Maps.int_keyed hk) ht hM hko (plainElem_int (H := Unit) he (wf_i64' hval))
  obtain ⟨es, clock, hb, F, _, rfl⟩ := hown
  obtain ⟨v0, st, w2, e1, e2, e3⟩ := entry_there (Maps.int_keyed hk) ht hb F hko (has_there (Maps.int_keyed hk) ht hz F hb hko (by rw [hmi.has']; exact hin)) (.int .i64 val)
  rw [hrun] at e3
  injection e3 with _ e3
  subst e3
  refine ⟨v0, st, w', e1, e2, ?_⟩
  have h3 := hmi.put key val
  rw [if_pos hin] at h3
  exact h.moved hi fun F hF => ⟨(· = b), ⟨⟨_, owns_tight h1 (Nat.le_of_eq h3.size), h3⟩, rfl⟩, by
    have e2 : F = (· = b) := hF.2
    subst e2
    exact ⟨keeps_of_grown h2.grown, fun k hk => Or.inl hk⟩⟩
end Stage
end Go.Proofs.YtkcicnflcilekaaGreat

namespace Go.Proofs.YtkcicnflcilekaaGreat
open Go.RowKit Go.Sort

/-- Asked just so often. -/
inductive Turns {γ : Type} (R : γ → γ → Prop) : Nat → γ → γ → Prop where
  | none (g : γ) : Turns R 0 g g
  | more {n : Nat} {g h k : γ} : Turns R n g h → R h k → Turns R (n + 1) g k
theorem Turns.trans {γ : Type} {R : γ → γ → Prop} {m n : Nat} {g h k : γ} (a : Turns R m g h) (b : Turns R n h k) : Turns R (m + n) g k := by
  induction b with
  | none => exact a
  | more _ r ih => exact (ih a).more r
theorem Turns.one {γ : Type} {R : γ → γ → Prop} {g h : γ} (r : R g h) : Turns R 1 g h := (Turns.none g).more r
/-- Asked no more than so often. -/
def Within {γ : Type} (R : γ → γ → Prop) (n : Nat) (g h : γ) : Prop := ∃ m, m ≤ n ∧ Turns R m g h
theorem Within.refl {γ : Type} (R : γ → γ → Prop) (n : Nat) (g : γ) : Within R n g g := ⟨0, Nat.zero_le _, Turns.none g⟩
theorem Within.trans {γ : Type} {R : γ → γ → Prop} {m n : Nat} {g h k : γ} (a : Within R m g h) (b : Within R n h k) : Within R (m + n) g k := by
  obtain ⟨i, hi, a⟩ := a
  obtain ⟨j, hj, b⟩ := b
  exact ⟨i + j, by omega, a.trans b⟩
theorem Within.more {γ : Type} {R : γ → γ → Prop} {n : Nat} {g h k : γ} (a : Within R n g h) (r : R h k) : Within R (n + 1) g k := a.trans ⟨1, Nat.le_refl _, Turns.one r⟩
theorem Within.mono {γ : Type} {R : γ → γ → Prop} {m n : Nat} {g h : γ} (a : Within R m g h) (l : m ≤ n) : Within R n g h := by
  obtain ⟨i, hi, a⟩ := a
  exact ⟨i, by omega, a⟩
/-- What holds of whoever is asked: O g is it, lt what it tells of the things that are ok, R how a question turns it. -/
structure Asks {γ : Type} (O : γ → Ob) (R : γ → γ → Prop) (ok : Int → Prop) (lt : Int → Int → Bool) (H : World → Prop) (T : TypeId) (v : Value) (f : Fn) : Prop where
  there : ∀ {g w F}, (O g).holds w F → H w
  ask : ∀ {g w F} (a b : Int), ok a → ok b → (O g).holds w F → Calls Tryz.prog f.id #[f.rv, .int .i64 a, .int .i64 b] w fun e w' => e = .returned (.bool (lt a b)) ∧ ∃ g', R g g' ∧ ∃ F', (O g').holds w' F' ∧ Moved F F' w w'
  meth : Meth H T v "Ahead" f
theorem Asks.stage {γ : Type} {O : γ → Ob} {R : γ → γ → Prop} {ok : Int → Prop} {lt : Int → Int → Bool} {H : World → Prop} {T : TypeId} {v : Value} {f : Fn} (A : Asks O R ok lt H T v f)
    {F0 : Nat → Prop} {W w : World} {l : List Ob} {g : γ} (hs : Stage F0 W l w) (i : Nat) (hi : l[i]? = some (O g)) (a b : Int) (ha : ok a) (hb : ok b) :
    Calls Tryz.prog f.id #[f.rv, .int .i64 a, .int .i64 b] w fun e w' => e = .returned (.bool (lt a b)) ∧ ∃ g', R g g' ∧ Stage F0 W (l.set i (O g')) w' :=
  hs.callEx i hi fun _ ho => A.ask a b ha hb ho
theorem Asks.find {γ : Type} {O : γ → Ob} {R : γ → γ → Prop} {ok : Int → Prop} {lt : Int → Int → Bool} {H : World → Prop} {T : TypeId} {v : Value} {f : Fn} (A : Asks O R ok lt H T v f)
    {F0 : Nat → Prop} {W w : World} {l : List Ob} {g : γ} (hs : Stage F0 W l w) (i : Nat) (hi : l[i]? = some (O g)) : (method 470 T v "Ahead").run Tryz.prog w = .ok (f.id, f.rv) w :=
  A.meth.find w ((hs.get hi).elim fun _ h => A.there h)
end Go.Proofs.YtkcicnflcilekaaGreat
