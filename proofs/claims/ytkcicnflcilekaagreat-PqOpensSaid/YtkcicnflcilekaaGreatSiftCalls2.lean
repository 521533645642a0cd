/- Merged of SiftRow, SiftSwap, SiftUp, SiftDown, SiftCalls, SiftCalls2. -/
import Derived.Test.YtkcicnflcilekaaGreatAsks
import Derived.Test.YtkcicnflcilekaaGreatStageAppend
import Derived.Test.YtkcicnflcilekaaGreatShedList3
import Derived.BigRegion
import Derived.StillTailTactics
namespace Go.Proofs.YtkcicnflcilekaaGreat
open Go.RowKit Go.Sort

/-- A row at r: its things, and where they are told to be. -/
def rowP (r bm : Nat) (v : Value) (d : Nat) (l : List Int) (f : Int → Option Int) (n : Nat) : List Ob :=
  [Ob.box r #[.int .i64 d, v, .map (some bm)] 228, Ob.row 0 3 1 v l.length (cellsBy intC l), Ob.zmap Tryz.prog 3 3 bm f n]
def atD (l : List Int) (i : Int) : Int × Bool := if 0 ≤ i ∧ i < l.length then (rat l i.toNat, true) else (0, false)
theorem atD_nat {l : List Int} {i : Nat} (h : i < l.length) : atD l i = (rat l i, true) := by
  unfold atD; rw [if_pos (by omega)]; simp
theorem atD_not {l : List Int} {i : Int} (h : ¬ (0 ≤ i ∧ i < l.length)) : atD l i = (0, false) := by
  unfold atD; rw [if_neg h]
section
variable {F0 : Nat → Prop} {W0 w : World} {r bm : Nat} {v : Value} {d : Nat} {l : List Int} {f : Int → Option Int} {n : Nat} {q : List Ob}
theorem rowP_form (h : Stage F0 W0 (rowP r bm v d l f n ++ q) w) : ∃ a cp, v = .slice a l.length cp ∧ l.length ≤ cp ∧ cp ≤ 9223372036854775807 := by
  obtain ⟨a, cp, h1, h2, h3⟩ := owns_form (h.owns 1 rfl)
  exact ⟨a, cp, h1, h2, by unfold maxLen at h3; omega⟩
theorem rowP_row (h : Stage F0 W0 (rowP r bm v d l f n ++ q) w) (hn : 0 < l.length) : ∃ g cp, v = .slice (some ⟨g, 0, none⟩) l.length cp ∧ l.length ≤ cp ∧ cp ≤ 9223372036854775807 ∧ g < w.heap.size ∧ (∀ i, i < l.length → w.cell? ⟨g, i, none⟩ = some (.int .i64 (rat l i))) ∧ ∀ o, w.frozen? ⟨g, o, none⟩ = false := by
  obtain ⟨g, cp, hv, h1, h2, _, h4, hc, hf⟩ := owns_at intC_len 0 (h.owns 1 rfl) rfl hn
  refine ⟨g, cp, hv, h1, by unfold maxLen at h2; omega, h4, fun i hi => ?_, hf⟩
  have := hc i 0 _ hi (by omega) rfl
  rw [Nat.mul_one, Nat.add_zero] at this
  exact this
theorem slen_st (h : Stage F0 W0 (rowP r bm v d l f n ++ q) w) : Calls Tryz.prog 157 #[.pointer (some ⟨r, 0, none⟩)] w fun e w' => e = .returned (.int .i64 l.length) ∧ w = w' := by
  obtain ⟨a, cp, rfl, _, _⟩ := rowP_form h
  have k1 := h.cell 0 rfl (o := 1) rfl
  generalize l.length = n at *
  go_enter Tryz.func157, Tryz.ntmps157
  go_wp2_with fail
  go_ret
  exact ⟨rfl, rfl⟩
set_option maxRecDepth 100000 in
theorem sat_st (h : Stage F0 W0 (rowP r bm v d l f n ++ q) w) (i : Int) : Calls Tryz.prog 159 #[.pointer (some ⟨r, 0, none⟩), .int .i64 i] w fun e w' => e = .returned (.tuple #[.int .i64 (atD l i).1, .bool (atD l i).2]) ∧ w = w' := by
  have k1 := h.cell 0 rfl (o := 1) rfl
  by_cases h0 : i < 0
  · rw [atD_not (by omega)]
    obtain ⟨a, cp, rfl, _, _⟩ := rowP_form h
    clear h
    go_enter Tryz.func159, Tryz.ntmps159
    go_wp2_with fail
    go_ret2
    exact ⟨rfl, rfl⟩
  by_cases h1 : i < l.length
  · obtain ⟨m, rfl⟩ : ∃ m : Nat, i = m := ⟨i.toNat, by omega⟩
    have hm : m < l.length := by omega
    rw [atD_nat hm]
    obtain ⟨g, cp, rfl, hc1, hc2, hg, hcell, _⟩ := rowP_row h (by omega)
    have u0 := hcell m hm
    have h2 : ¬ ((l.length : Int) ≤ m) := by omega
    generalize rat l m = x at *
    generalize l.length = n at *
    clear h hcell
    go_enter Tryz.func159, Tryz.ntmps159
    go_wp2_with fail
    go_ret2
    exact ⟨rfl, rfl⟩
  · rw [atD_not (by omega)]
    obtain ⟨a, cp, rfl, _, _⟩ := rowP_form h
    have h2 : (l.length : Int) ≤ i := by omega
    generalize l.length = n at *
    clear h
    go_enter Tryz.func159, Tryz.ntmps159
    go_wp2_with fail
    go_ret2
    exact ⟨rfl, rfl⟩
end
section
variable {γ : Type} {O : γ → Ob} {R : γ → γ → Prop} {ok : Int → Prop} {lt : Int → Int → Bool} {H : World → Prop} {T : TypeId} {u : Value} {fn : Fn}
variable {F0 : Nat → Prop} {W0 w : World} {r bm : Nat} {v : Value} {d : Nat} {l : List Int} {f : Int → Option Int} {n : Nat} {g : γ} {q : List Ob}
set_option maxRecDepth 100000 in
/-- 'ahead': one question. -/
theorem ahead_st (A : Asks O R ok lt H T u fn) (hs : Stage F0 W0 (rowP r bm v d l f n ++ O g :: q) w) (i j : Nat) (hi : i < l.length) (hj : j < l.length) (hoi : ok (rat l i)) (hoj : ok (rat l j)) :
    Calls Tryz.prog 171 #[.pointer (some ⟨r, 0, none⟩), .iface T u, .int .i64 i, .int .i64 j] w fun e w' => e = .returned (.bool (lt (rat l i) (rat l j))) ∧ ∃ g', R g g' ∧ Stage F0 W0 (rowP r bm v d l f n ++ O g' :: q) w' := by
  have h1 := sat_st hs i
  have h2 := sat_st hs j
  rw [atD_nat hi] at h1
  rw [atD_nat hj] at h2
  have hm := A.find hs 3 rfl
  have he := A.meth.enter
  have hA := A.stage hs 3 rfl (rat l i) (rat l j) hoi hoj
  generalize lt (rat l i) (rat l j) = B at *
  generalize rat l i = x at *
  generalize rat l j = y at *
  clear hs hoi hoj
  go_enter Tryz.func171, Tryz.ntmps171
  go_wp2_with fail
  refine h1.mono ?_
  rintro e w1 ⟨rfl, rfl⟩
  go_wp2_with fail
  refine h2.mono ?_
  rintro e w1 ⟨rfl, rfl⟩
  clear h1 h2
  go_wp2_with fail
  refine hA.mono ?_
  rintro e w1 ⟨rfl, g', hR, hs1⟩
  go_wp2_with fail
  go_ret
  exact ⟨rfl, g', hR, hs1⟩
end
end Go.Proofs.YtkcicnflcilekaaGreat

namespace Go.Proofs.YtkcicnflcilekaaGreat
open Go.RowKit Go.Sort

/-- What places are told to be, behind a swap. -/
def swapF (l : List Int) (f : Int → Option Int) (i j : Nat) : Int → Option Int := setZ (setZ f (rat l i) (some (j : Int))) (rat l j) (some (i : Int))
section
variable {F0 : Nat → Prop} {W0 w : World} {r bm : Nat} {v : Value} {d : Nat} {l : List Int} {f : Int → Option Int} {n : Nat} {q : List Ob}
set_option maxRecDepth 100000 in
set_option maxHeartbeats 1000000 in
theorem swap_st (h : Stage F0 W0 (rowP r bm v d l f n ++ q) w) (i j : Nat) (hi : i < l.length) (hj : j < l.length) (hin : n < maxLen) (hxi : inInt (rat l i)) (hxj : inInt (rat l j)) (hfi : (f (rat l i)).isSome = true) (hfj : (f (rat l j)).isSome = true) :
    Calls Tryz.prog 162 #[.pointer (some ⟨r, 0, none⟩), .int .i64 i, .int .i64 j] w fun e w' => e = .returned (.tuple #[]) ∧ Stage F0 W0 (rowP r bm v d (swapL l i j) (swapF l f i j) n ++ q) w' := by
  have h1 := sat_st h i
  have h2 := sat_st h j
  rw [atD_nat hi] at h1
  rw [atD_nat hj] at h2
  obtain ⟨g, cp, rfl, hc1, hc2, hg, hcell, hfree⟩ := rowP_row h (by omega)
  have k1 := h.cell 0 rfl (o := 1) rfl
  have u0 := hcell i hi
  have u1 := hcell j hj
  have f0 := hfree i
  have f1 := hfree j
  obtain ⟨w1, hw1, hs1⟩ : ∃ w1, ((w.setCell ⟨g, i, none⟩ (.int .i64 (rat l j))).setCell ⟨g, j, none⟩ (.int .i64 (rat l i))).drew = w1 ∧ Stage F0 W0 (rowP r bm (.slice (some ⟨g, 0, none⟩) l.length cp) d (swapL l i j) f n ++ q) w1 := by
    refine ⟨_, rfl, ?_⟩
    have hs := ((h.storeRow 1 rfl i (.int .i64 (rat l j)) (intC_set l i _)).storeRow 1 rfl j (.int .i64 (rat l i)) (intC_set _ j _)).drew
    unfold rowP
    rw [swap_len]
    exact hs
  obtain ⟨z, u2⟩ : ∃ z, (w.setCell ⟨g, i, none⟩ (.int .i64 (rat l j))).cell? ⟨g, j, none⟩ = some (.int .i64 z) := by
    have hs := h.storeRow 1 rfl i (.int .i64 (rat l j)) (intC_set l i _)
    have hl : (l.set i (rat l j)).length = l.length := List.length_set
    have hs' : Stage F0 W0 (rowP r bm (.slice (some ⟨g, 0, none⟩) l.length cp) d (l.set i (rat l j)) f n ++ q) (w.setCell ⟨g, i, none⟩ (.int .i64 (rat l j))) := by unfold rowP; rw [hl]; exact hs
    obtain ⟨g2, cp2, hv2, _, _, _, hcell2, _⟩ := rowP_row hs' (by omega)
    rw [hl] at hv2
    cases hv2
    exact ⟨_, hcell2 j (by omega)⟩
  have k2 := hs1.cell 0 rfl (o := 2) rfl
  have hjr : inInt (j : Int) := by unfold inInt; omega
  have hir : inInt (i : Int) := by unfold inInt; omega
  obtain ⟨va, sa, w2, e1, e2, hs2⟩ := hs1.drew.entryZ 2 rfl Tryz.underlying185 Tryz.underlying3 Tryz.underlying3 (szero_int _) hin (rat l i) j hxi hjr hfi
  have hfj' : (setZ f (rat l i) (some (j : Int)) (rat l j)).isSome = true := by
    unfold setZ; split
    · rfl
    · exact hfj
  obtain ⟨vb, sb, w3, e3, e4, hs3⟩ := hs2.entryZ 2 rfl Tryz.underlying185 Tryz.underlying3 Tryz.underlying3 (szero_int _) hin (rat l j) i hxj hir hfj'
  replace hs3 : Stage F0 W0 (rowP r bm (.slice (some ⟨g, 0, none⟩) l.length cp) d (swapL l i j) (swapF l f i j) n ++ q) w3 := hs3
  have hii : (i : Int) < l.length := by omega
  have hjj : (j : Int) < l.length := by omega
  generalize swapF l f i j = f' at *
  generalize swapL l i j = l' at *
  clear hcell hfree h hs1 hs2 hfi hfj hfj' hxi hxj
  generalize rat l i = x at *
  generalize rat l j = y at *
  generalize hn : l.length = m at *
  clear hn
  go_enter Tryz.func162, Tryz.ntmps162
  go_wp2_with fail
  refine h1.mono ?_
  rintro e w1 ⟨rfl, rfl⟩
  go_wp2_with fail
  refine h2.mono ?_
  rintro e w1 ⟨rfl, rfl⟩
  clear h1 h2
  go_wp2_with fail
  go_region
  try rw [hw1]
  clear hw1 u0 u1 u2 f0 f1 k1
  go_wp2_with fail
  go_region
  go_end0
  exact ⟨rfl, hs3⟩
end
end Go.Proofs.YtkcicnflcilekaaGreat

namespace Go.Proofs.YtkcicnflcilekaaGreat
open Go.RowKit Go.Sort

/-- The order is strict among some. -/
structure StrictM (lt : Int → Int → Bool) (P : Int → Prop) : Prop where
  irr : ∀ x, P x → lt x x = false
  trans : ∀ x y z, P x → P y → P z → lt x y = true → lt y z = true → lt x z = true
  total : ∀ x y, P x → P y → x ≠ y → lt x y = false → lt y x = true
theorem StrictM.strict {lt : Int → Int → Bool} {P : Int → Prop} (s : StrictM lt P) {l : List Int} (hn : l.Nodup) (h : ∀ x ∈ l, P x) : Strict lt l :=
  ⟨fun _ hi => s.irr _ (h _ (rat_mem hi)), fun _ _ _ hi hj hk a b => s.trans _ _ _ (h _ (rat_mem hi)) (h _ (rat_mem hj)) (h _ (rat_mem hk)) a b,
   fun _ _ hi hj hij a => s.total _ _ (h _ (rat_mem hi)) (h _ (rat_mem hj)) (fun e => hij (rat_inj hn hi hj e)) a⟩
/-- Each once, and such as may be asked for. -/
structure RowIn (ok : Int → Prop) (l : List Int) : Prop where
  nodup : l.Nodup
  ok : ∀ x ∈ l, ok x
  int : ∀ x ∈ l, inInt x
  len : l.length ≤ 1048576
theorem RowIn.perm {ok : Int → Prop} {l l' : List Int} (I : RowIn ok l) (h : l'.Perm l) : RowIn ok l' :=
  ⟨h.nodup_iff.2 I.nodup, fun x hx => I.ok x (h.mem_iff.1 hx), fun x hx => I.int x (h.mem_iff.1 hx), by rw [h.length_eq]; exact I.len⟩
theorem swap_place {l : List Int} (hn : l.Nodup) {i j : Nat} (hi : i < l.length) (hj : j < l.length) : swapF l (placeL l) i j = placeL (swapL l i j) := by
  have hp := swap_perm hi hj
  refine place_ext (hp.nodup_iff.2 hn) (fun k hk => ?_) (fun x hx => ?_)
  · rw [swap_len] at hk
    rw [rat_swap hi hj]
    unfold swapF
    by_cases h1 : k = j
    · subst h1
      rw [if_pos rfl]
      by_cases h2 : rat l i = rat l k
      · rw [h2, setZ_same, rat_inj hn hi hj h2]
      · rw [setZ_other _ _ h2, setZ_same]
    · rw [if_neg h1]
      by_cases h2 : k = i
      · subst h2
        rw [if_pos rfl, setZ_same]
      · rw [if_neg h2, setZ_other _ _ (fun e => h1 (rat_inj hn hk hj e)), setZ_other _ _ (fun e => h2 (rat_inj hn hk hi e)), place_rat hn hk]
  · have hx' : x ∉ l := fun h => hx (hp.mem_iff.2 h)
    unfold swapF
    rw [setZ_other _ _ (fun e : x = rat l j => hx' (by rw [e]; exact rat_mem hj)), setZ_other _ _ (fun e : x = rat l i => hx' (by rw [e]; exact rat_mem hi)), place_none hx']
theorem place_there {l : List Int} {i : Nat} (hi : i < l.length) : (placeL l (rat l i)).isSome = true := by
  rw [place_isSome, hasL_iff]; exact rat_mem hi
/-- A row at r of the things l. -/
abbrev rowO (r bm : Nat) (v : Value) (d : Nat) (l : List Int) : List Ob := rowP r bm v d l (placeL l) l.length
section
variable {γ : Type} {O : γ → Ob} {R : γ → γ → Prop} {ok : Int → Prop} {lt : Int → Int → Bool} {H : World → Prop} {T : TypeId} {u : Value} {fn : Fn}
variable {F0 : Nat → Prop} {W0 w : World} {r bm : Nat} {v : Value} {d : Nat} {l : List Int} {g : γ} {q : List Ob}
theorem rswap_st (h : Stage F0 W0 (rowO r bm v d l ++ q) w) (I : RowIn ok l) (i j : Nat) (hi : i < l.length) (hj : j < l.length) :
    Calls Tryz.prog 162 #[.pointer (some ⟨r, 0, none⟩), .int .i64 i, .int .i64 j] w fun e w' => e = .returned (.tuple #[]) ∧ Stage F0 W0 (rowO r bm v d (swapL l i j) ++ q) w' := by
  have hm : l.length < maxLen := by have := I.len; unfold maxLen; omega
  have := swap_st h i j hi hj hm (I.int _ (rat_mem hi)) (I.int _ (rat_mem hj)) (place_there hi) (place_there hj)
  rw [swap_place I.nodup hi hj] at this
  unfold rowO
  rw [swap_len]
  exact this
theorem rahead_st (A : Asks O R ok lt H T u fn) (hs : Stage F0 W0 (rowO r bm v d l ++ O g :: q) w) (I : RowIn ok l) (i j : Nat) (hi : i < l.length) (hj : j < l.length) :
    Calls Tryz.prog 171 #[.pointer (some ⟨r, 0, none⟩), .iface T u, .int .i64 i, .int .i64 j] w fun e w' => e = .returned (.bool (lt (rat l i) (rat l j))) ∧ ∃ g', R g g' ∧ Stage F0 W0 (rowO r bm v d l ++ O g' :: q) w' :=
  ahead_st A hs i j hi hj (I.ok _ (rat_mem hi)) (I.ok _ (rat_mem hj))
/-- Asked once at least. -/
def askedR {γ : Type} (R : γ → γ → Prop) (g g' : γ) : Prop := ∃ h, R g h ∧ ∃ m, Turns R m h g'
theorem askedR.one {γ : Type} {R : γ → γ → Prop} {g h : γ} (r : R g h) : askedR R g h := ⟨h, r, 0, Turns.none h⟩
theorem askedR.more {γ : Type} {R : γ → γ → Prop} {g h k : γ} (a : askedR R g h) (r : R h k) : askedR R g k := by
  obtain ⟨j, r1, m, t⟩ := a
  exact ⟨j, r1, m + 1, t.more r⟩
/-- Behind 'climb': whether it went; where it goes up as it may, all is in order. -/
def ClimbPost (O : γ → Ob) (R : γ → γ → Prop) (lt : Int → Int → Bool) (F0 : Nat → Prop) (W0 : World) (r bm : Nat) (v : Value) (d : Nat) (l : List Int) (g : γ) (q : List Ob) (i : Nat) (e : Ending) (w' : World) : Prop :=
  ∃ (b : Bool) (l' : List Int) (g' : γ), e = .returned (.bool b) ∧ l'.Perm l ∧ Within R (depthI d i) g g' ∧ (0 < i → askedR R g g') ∧ (b = false → l' = l ∧ (0 < i → lt (rat l i) (rat l (par d i)) = false)) ∧ (b = true → 0 < i ∧ lt (rat l i) (rat l (par d i)) = true) ∧
    (UpInv d lt l i → Heap d lt l') ∧ Stage F0 W0 (rowO r bm v d l' ++ O g' :: q) w'
set_option maxRecDepth 100000 in
set_option maxHeartbeats 1000000 in
theorem climb_st (A : Asks O R ok lt H T u fn) (hd : 2 ≤ d ∧ d ≤ 16) (hs : Stage F0 W0 (rowO r bm v d l ++ O g :: q) w) (I : RowIn ok l) (S : StrictM lt (· ∈ l)) (i : Nat) (hi : i < l.length) :
    Calls Tryz.prog 161 #[.pointer (some ⟨r, 0, none⟩), .iface T u, .int .i64 i] w (ClimbPost O R lt F0 W0 r bm v d l g q i) := by
  have hP := fun (k : Nat) (hk : k ≤ 1048576) w => parent_c d k w (by omega)
  have hlen := I.len
  have hPi := hP i (by omega) w
  have k0 := hs.cell 0 rfl (o := 0) rfl
  obtain ⟨di, hdi⟩ : ∃ di, di = depthI d i := ⟨_, rfl⟩
  have hpost : ∀ (b : Bool) (l' : List Int) (g' : γ) (wx : World), l'.Perm l → Within R di g g' → (0 < i → askedR R g g') → (b = false → l' = l ∧ (0 < i → lt (rat l i) (rat l (par d i)) = false)) → (b = true → 0 < i ∧ lt (rat l i) (rat l (par d i)) = true) → (UpInv d lt l i → Heap d lt l') → Stage F0 W0 (rowO r bm v d l' ++ O g' :: q) wx → ClimbPost O R lt F0 W0 r bm v d l g q i (.returned (.bool b)) wx :=
    fun b l' g' wx h1 h2 h0 h3 h4 h5 h6 => ⟨b, l', g', rfl, h1, by rw [← hdi]; exact h2, h0, h3, h4, h5, h6⟩
  go_enter Tryz.func161, Tryz.ntmps161
  go_wp2_with fail
  refine hPi.mono ?_
  rintro e w1 ⟨rfl, rfl⟩
  clear hPi k0
  go_wp2_with fail
  go_loopw [2, 8, 9] (fun x y z wr => ∃ (k : Nat) (l1 : List Int) (g1 : γ), x = .int .i64 k ∧ y = .int .i64 (parD d k).1 ∧ z = .bool (parD d k).2 ∧ k ≤ i ∧ l1.Perm l ∧ depthI d k ≤ di ∧ Within R (di - depthI d k) g g1 ∧
      ((k = i ∧ l1 = l ∧ g1 = g) ∨ (k < i ∧ lt (rat l i) (rat l (par d i)) = true ∧ askedR R g g1)) ∧ (UpInv d lt l i → UpInv d lt l1 k) ∧ Stage F0 W0 (rowO r bm v d l1 ++ O g1 :: q) wr) (fun x _ _ _ => (intOf x).toNat)
  case atStart => exact ⟨i, l, g, rfl, rfl, rfl, Nat.le_refl _, List.Perm.refl _, by omega, Within.refl _ _ _, Or.inl ⟨rfl, rfl, rfl⟩, id, hs⟩
  case round =>
    clear hs
    obtain ⟨k, l1, g1, rfl, rfl, rfl, hk, hp, hdk, hw, hcase, hU, hs⟩ := hrel
    have I1 := I.perm hp
    have S1 : Strict lt l1 := S.strict I1.nodup (fun x hx => hp.mem_iff.1 hx)
    have hl1 := hp.length_eq
    have hend : ∀ (g2 : γ) (wx : World), (k = 0 ∨ lt (rat l1 k) (rat l1 (par d k)) = false) → Within R di g g2 → (0 < i → askedR R g g2) → Stage F0 W0 (rowO r bm v d l1 ++ O g2 :: q) wx → ClimbPost O R lt F0 W0 r bm v d l g q i (.returned (.bool (!decide (k = i)))) wx := by
      intro g2 wx h1 h2 h0 h3
      refine hpost _ l1 g2 wx hp h2 h0 (fun hb => ?_) (fun hb => ?_) (fun U => up_stop (hU U) h1) h3
      · have hki : k = i := by simpa using hb
        rcases hcase with ⟨_, e, _⟩ | ⟨h, _⟩
        · subst hki; subst e
          exact ⟨rfl, fun h => by rcases h1 with h1 | h1; omega; exact h1⟩
        · omega
      · have hki : ¬ k = i := by simpa using hb
        rcases hcase with ⟨h, _⟩ | ⟨h, e, _⟩
        · exact absurd h hki
        · exact ⟨by omega, e⟩
    have hne : ((k : Int) == (i : Int)) = decide (k = i) := by rw [Bool.eq_iff_iff]; simp; omega
    by_cases h0 : 0 < k
    · have hpl := par_lt (d := d) (by omega) h0
      have hdp := depth_par (d := d) (by omega) h0
      rw [parD_nat hd.1 hd.2 h0]
      have hA := rahead_st A hs I1 k (par d k) (by omega) (by omega)
      have hPk := hP (par d k) (by omega)
      have hU' := fun h => (fun U => up_step (by omega) S1 (hU U) h0 h : UpInv d lt l i → UpInv d lt (swapL l1 k (par d k)) (par d k))
      have hsp := swap_perm (l := l1) (i := k) (j := par d k) (by omega) (by omega)
      have hcase' : lt (rat l1 k) (rat l1 (par d k)) = true → lt (rat l i) (rat l (par d i)) = true := by
        rcases hcase with ⟨h, e, _⟩ | ⟨_, e, _⟩
        · subst h; subst e; exact id
        · exact fun _ => e
      have hask : ∀ g2, R g1 g2 → askedR R g g2 := fun g2 r => by
        rcases hcase with ⟨_, _, e⟩ | ⟨_, _, e⟩
        · rw [← e]; exact askedR.one r
        · exact e.more r
      clear hP hcase hpost
      cases hB : lt (rat l1 k) (rat l1 (par d k))
      · rw [hB] at hA
        have hE := fun g2 wx => hend g2 wx (Or.inr hB)
        clear hend hU hU' hcase' hsp
        generalize par d k = p at *
        go_wp2_with fail
        refine hA.mono ?_
        rintro e w1 ⟨rfl, g2, hr, hs1⟩
        have hE2 := hE g2 w1 ((hw.more hr).mono (by omega)) (fun _ => hask g2 hr) hs1
        have hne2 : ((k : Int) != (i : Int)) = !decide (k = i) := by rw [bne, hne]
        clear hA hs hE hne
        generalize (!decide (k = i)) = B at *
        go_wp2_with fail
        go_ret
        exact hE2
      · rw [hB] at hA
        replace hcase' := hcase' hB
        replace hU' := hU' hB
        clear hend hU hB
        have hkl : k < l1.length := by omega
        generalize hpe : par d k = p at *
        go_wp2_with fail
        refine hA.mono ?_
        rintro e w1 ⟨rfl, g2, hr, hs1⟩
        have hw2 := hw.more hr
        clear hA hs hne hw
        have hSw := rswap_st hs1 I1 k p (by omega) (by omega)
        have hl2 : (swapL l1 k p).length = l1.length := swap_len _ _ _
        have hp2 := hsp.trans hp
        clear hsp
        generalize swapL l1 k p = l2 at *
        go_wp2_with fail
        refine hSw.mono ?_
        rintro e w2 ⟨rfl, hs2⟩
        clear hs1 hSw
        have k0 := hs2.cell 0 rfl (o := 0) rfl
        have hPk2 := hPk w2
        clear hPk
        go_wp2_with fail
        refine hPk2.mono ?_
        rintro e w3 ⟨rfl, rfl⟩
        go_wp2_with fail
        go_roundw
        case rel => exact ⟨p, l2, g2, rfl, rfl, rfl, by omega, hp2, by omega, hw2.mono (by omega), Or.inr ⟨by omega, hcase', hask g2 hr⟩, hU', hs2⟩
        case measure => simp [intOf]; omega
    · have h00 : k = 0 := by omega
      have e4 : parD (d : Int) (k : Int) = (0, false) := by unfold parD; rw [if_neg (by omega)]
      have hask0 : 0 < i → askedR R g g1 := fun h1 => by
        rcases hcase with ⟨e, _⟩ | ⟨_, _, e⟩
        · omega
        · exact e
      have hE2 := hend g1 wr (Or.inl h00) (hw.mono (by omega)) hask0 hs
      have hne2 : ((k : Int) != (i : Int)) = !decide (k = i) := by rw [bne, hne]
      rw [e4]
      clear hend hP hpost hne hcase hU hs e4 h00 h0 hask0
      generalize (!decide (k = i)) = B at *
      go_wp2_with fail
      go_ret
      exact hE2
end
end Go.Proofs.YtkcicnflcilekaaGreat

namespace Go.Proofs.YtkcicnflcilekaaGreat
open Go.RowKit Go.Sort

section
variable {γ : Type} {O : γ → Ob} {R : γ → γ → Prop} {ok : Int → Prop} {lt : Int → Int → Bool} {H : World → Prop} {T : TypeId} {u : Value} {fn : Fn}
variable {F0 : Nat → Prop} {W0 w : World} {r bm : Nat} {v : Value} {d : Nat} {l : List Int} {g : γ} {q : List Ob}
end
end Go.Proofs.YtkcicnflcilekaaGreat

namespace Go.Proofs.YtkcicnflcilekaaGreat
open Go.RowKit Go.Sort

theorem place_nil : placeL [] = fun _ => none := by funext x; simp [placeL]
theorem place_add {l : List Int} {x : Int} (hn : (l ++ [x]).Nodup) : setZ (placeL l) x (some (l.length : Int)) = placeL (l ++ [x]) := by
  have hx : x ∉ l := fun h => by
    have := (List.nodup_append.1 hn).2.2 x h x (by simp)
    exact this rfl
  refine place_ext hn (fun k hk => ?_) (fun y hy => ?_)
  · simp only [List.length_append, List.length_cons, List.length_nil] at hk
    have hr : rat (l ++ [x]) k = if k = l.length then x else rat l k := getD_snoc' l k x 0
    rw [hr]
    by_cases h : k = l.length
    · rw [if_pos h, setZ_same, h]
    · rw [if_neg h, setZ_other _ _ (fun e => hx (by rw [← e]; exact rat_mem (by omega))), place_rat (List.nodup_append.1 hn).1 (by omega)]
  · simp only [List.mem_append, List.mem_singleton, not_or] at hy
    rw [setZ_other _ _ hy.2, place_none hy.1]
/-- Two things of a stage change places. -/
theorem Stage.swapAt {F0 : Nat → Prop} {W0 w : World} {a b : List Ob} {x y : Ob} (h : Stage F0 W0 (a ++ x :: y :: b) w) : Stage F0 W0 (a ++ y :: x :: b) w := by
  obtain ⟨hk, F, h1, h2, h3⟩ := h
  have hp : ∀ i, i = a.length ∨ i = a.length + 1 ∨ (i ≠ a.length ∧ i ≠ a.length + 1) := fun i => by omega
  refine ⟨hk, fun j => F (if j = a.length then a.length + 1 else if j = a.length + 1 then a.length else j), fun i O hi => h1 _ O ?_, fun i j c hij => h2 _ _ c (?_ : (if i = a.length then a.length + 1 else if i = a.length + 1 then a.length else i) ≠ (if j = a.length then a.length + 1 else if j = a.length + 1 then a.length else j)), fun i c => h3 _ c⟩
  rotate_left
  · repeat' split
    all_goals omega
  rcases hp i with rfl | rfl | ⟨n1, n2⟩
  · rw [if_pos rfl, List.getElem?_append_right (by omega), Nat.add_sub_cancel_left]
    rw [List.getElem?_append_right (Nat.le_refl _), Nat.sub_self] at hi
    exact hi
  · rw [if_neg (by omega), if_pos rfl, List.getElem?_append_right (Nat.le_refl _), Nat.sub_self]
    rw [List.getElem?_append_right (by omega), Nat.add_sub_cancel_left] at hi
    exact hi
  · rw [if_neg n1, if_neg n2]
    by_cases hlt : i < a.length
    · rw [List.getElem?_append_left hlt] at hi ⊢; exact hi
    · obtain ⟨k, rfl⟩ : ∃ k, i = a.length + (k + 2) := ⟨i - a.length - 2, by omega⟩
      rw [List.getElem?_append_right (by omega), Nat.add_sub_cancel_left] at hi ⊢
      exact hi
section
variable {F0 : Nat → Prop} {W0 w : World} {r bm : Nat} {v : Value} {d : Nat} {l : List Int} {q : List Ob}
theorem snew_st (hs : Stage F0 W0 q w) (d : Nat) (hd : 2 ≤ d ∧ d ≤ 16) :
    Calls Tryz.prog 88 #[.int .i64 d] w fun e w' => e = .returned (.tuple #[.pointer (some ⟨w.heap.size + 1, 0, none⟩), .int .i64 0]) ∧ Stage F0 W0 (q ++ rowO (w.heap.size + 1) w.heap.size (.slice none 0 0) d []) w' := by
  have hR := isdeg_c d w
  rw [rightD_iff.2 (show 2 ≤ (d : Int) ∧ (d : Int) ≤ 16 by omega)] at hR
  have h1 := hs.newZMap Tryz.prog 3 3 rfl
  have h2 := h1.alloc' #[.int .i64 d, .slice none 0 0, .map (some w.heap.size)] 228 (size_alloc _ _)
  have h3 := h2.nilRow 0 3 1
  obtain ⟨w2, hw2⟩ : ∃ w2, w2 = (w.alloc (Obj.map #[] 0)).alloc (Obj.cells #[Value.int IntKind.i64 ↑d, Value.slice none 0 0, Value.map (some w.heap.size)] 228) := ⟨_, rfl⟩
  have h4 : Stage F0 W0 (q ++ rowO (w.heap.size + 1) w.heap.size (.slice none 0 0) d []) w2 := by
    unfold rowO rowP
    rw [place_nil, hw2]
    rw [List.append_assoc, List.append_assoc] at h3
    have h5 := Stage.swapAt (a := q) (b := [_]) h3
    have h6 := Stage.swapAt (a := q ++ [_]) (b := []) (by rw [List.append_assoc]; exact h5)
    rw [List.append_assoc] at h6
    exact h6
  rw [hw2] at h4
  clear h1 h2 h3 hs hw2
  have hmm := @run_makeMap Tryz.prog
  go_enter Tryz.func88, Tryz.ntmps88
  go_wp2_with fail
  refine hR.mono ?_
  rintro e w1 ⟨rfl, rfl⟩
  go_wp2_with fail
  go_ret2
  exact ⟨rfl, h4⟩
end
end Go.Proofs.YtkcicnflcilekaaGreat

namespace Go.Proofs.YtkcicnflcilekaaGreat
open Go.RowKit Go.Sort

section
variable {F0 : Nat → Prop} {W0 w : World} {r bm : Nat} {v : Value} {d : Nat} {l : List Int} {q : List Ob}
section
variable {γ : Type} {O : γ → Ob} {R : γ → γ → Prop} {ok : Int → Prop} {lt : Int → Int → Bool} {H : World → Prop} {T : TypeId} {u : Value} {fn : Fn}
variable {g : γ}
/-- Behind a call that leaves the things m in order. -/
def RunPost (O : γ → Ob) (R : γ → γ → Prop) (lt : Int → Int → Bool) (F0 : Nat → Prop) (W0 : World) (r bm : Nat) (d : Nat) (m : List Int) (k : Nat) (C : List Int → γ → Prop) (g : γ) (q : List Ob) (e : Ending) (w' : World) : Prop :=
  ∃ (v' : Value) (l' : List Int) (g' : γ), e = .returned (.bool true) ∧ l'.Perm m ∧ C l' g' ∧ Within R k g g' ∧ Heap d lt l' ∧ Stage F0 W0 (rowO r bm v' d l' ++ O g' :: q) w'
end
end
end Go.Proofs.YtkcicnflcilekaaGreat
