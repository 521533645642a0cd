/- Merged of CarryRef6, CarryRef7, CarryJoin. -/
import Derived.Test.YtbllfokagedpeaaCarryRef5
import Derived.Test.YtbllfokagedpeaaCarryTake
namespace Go.Proofs.Ytbllfokagedpeaa
open Go.RowKit Go.Sort

theorem flat_step (f : Int → List Int) (l : List Int) (j : Nat) (hj : j < l.length) : (l.take (j + 1)).flatMap f = (l.take j).flatMap f ++ f (l.getD j 0) := by
  rw [take_snocD 0 l j hj, List.flatMap_append]
  simp
theorem sum_mono {f g : Int → Nat} : ∀ (l : List Int), (∀ x ∈ l, f x ≤ g x) → (l.map f).sum ≤ (l.map g).sum
  | [], _ => Nat.le_refl _
  | x :: l, h => by
    have h1 := sum_mono l fun y hy => h y (by simp [hy])
    have h2 := h x (by simp)
    rw [List.map_cons, List.map_cons, List.sum_cons, List.sum_cons]
    omega
theorem allK_le {n : Nat} {K : Int → List Int} (I : CInv n K) : ∀ (k : Nat) (x : Int), (allK K k x).length ≤ (treeK K x).length
  | 0, _ => Nat.zero_le _
  | k + 1, x => by
    rw [allK, tree_eq I x, List.length_cons, List.length_cons, List.length_flatMap, List.length_flatMap]
    have := sum_mono (f := fun c => (allK K k c).length) (g := fun c => (treeK K c).length) (K x) fun c _ => allK_le I k c
    omega
section
variable {w : World} {F : Nat → Prop} {v : Value} {n : Nat} {K : Int → List Int}
/-- Are two rows one? -/
theorem same_at (la lb : List Int) (a1 a2 : Option Addr) (c1 c2 : Nat) (hc1 : la.length ≤ c1 ∧ c1 ≤ 9223372036854775807) (hc2 : lb.length ≤ c2 ∧ c2 ≤ 9223372036854775807) (h1 : IntsAt w .i64 a1 la) (h2 : IntsAt w .i64 a2 lb) :
    Calls Try.prog 20 #[.slice a1 la.length c1, .slice a2 lb.length c2] w fun e w' => e = .returned (.bool (decide (la = lb))) ∧ Below w.heap.size w w' := by
  obtain ⟨h11, h12⟩ := hc1
  obtain ⟨h21, h22⟩ := hc2
  by_cases hl : la.length = lb.length
  · have hA : ∀ wr, Below w.heap.size w wr → ∀ k, k < la.length → ∃ g o g' o', a1 = some ⟨g, o, none⟩ ∧ a2 = some ⟨g', o', none⟩ ∧ wr.cell? ⟨g, o + k, none⟩ = some (.int .i64 (la.getD k 0)) ∧ wr.cell? ⟨g', o' + k, none⟩ = some (.int .i64 (lb.getD k 0)) := fun wr hb k hk => by
      obtain ⟨g, o, e1, h5⟩ := h1 k hk
      obtain ⟨g', o', e2, h6⟩ := h2 k (by omega)
      exact ⟨g, o, g', o', e1, e2, later hb h5, later hb h6⟩
    have hne : ∀ k, k < la.length → la.getD k 0 ≠ lb.getD k 0 → decide (la = lb) = false := fun k _ h => decide_eq_false (fun e => h (by rw [e]))
    have heq : (∀ k, k < la.length → la.getD k 0 = lb.getD k 0) → decide (la = lb) = true := fun h => decide_eq_true (by
      apply List.ext_getElem hl
      intro k h1 h2
      have := h k h1
      simpa [List.getD_eq_getElem?_getD, h1, h2] using this)
    rw [← hl] at h21 ⊢
    generalize decide (la = lb) = B at *
    clear h1 h2
    generalize la.length = m at *
    go_enter Try.func20, Try.ntmps20
    go_wp2_with fail
    go_loopw [13] (fun i wr => ∃ k : Nat, i = .int .i64 k ∧ k ≤ m ∧ (∀ i, i < k → la.getD i 0 = lb.getD i 0) ∧ Below w.heap.size w wr) (fun i _ => m - (intOf i).toNat)
    case atStart => exact ⟨0, rfl, Nat.zero_le _, fun i hi => absurd hi (Nat.not_lt_zero _), Below.refl _ _⟩
    case round =>
      obtain ⟨k, rfl, hk, hall, hb⟩ := hrel
      by_cases hkm : k < m
      · have hki : (k : Int) < m := by omega
        obtain ⟨g, o, g', o', rfl, rfl, u1, u2⟩ := hA wr hb k hkm
        by_cases e : la.getD k 0 = lb.getD k 0
        · have hall2 : ∀ i, i < k + 1 → la.getD i 0 = lb.getD i 0 := fun i hi => by
            by_cases e2 : i = k
            · rw [e2]; exact e
            · exact hall i (by omega)
          rw [e] at u1
          generalize lb.getD k 0 = y at *
          clear hA hne heq hall e
          go_wp2_with fail
          go_quiet (fail)
          go_wp2_with fail
          go_roundw
          case rel => exact ⟨k + 1, by go_num, by omega, hall2, below_drewN hb _⟩
          case measure => simp [intOf]; omega
        · have hB := hne k hkm e
          subst hB
          have e1 : (la.getD k 0 == lb.getD k 0) = false := by simpa using e
          have e2 : (la.getD k 0 != lb.getD k 0) = true := by simpa using e
          clear hA hne heq hall e
          generalize la.getD k 0 = x at *
          generalize lb.getD k 0 = y at *
          go_wp2_with fail
          go_quiet (fail)
          go_wp2_with fail
          go_ret
          exact ⟨rfl, below_drewN hb _⟩
      · obtain rfl : k = m := by omega
        have hB := heq hall
        subst hB
        clear hA hne heq hall
        go_wp2_with fail
        go_ret
        exact ⟨rfl, hb⟩
  · rw [decide_eq_false (fun e => hl (by rw [e]))]
    have hl1 : ((la.length : Int) == lb.length) = false := by simp; omega
    have hl2 : ((la.length : Int) != lb.length) = true := by simp; omega
    clear h1 h2
    generalize la.length = m at *
    generalize lb.length = m2 at *
    go_enter Try.func20, Try.ntmps20
    go_wp2_with fail
    go_ret
    exact ⟨rfl, Below.refl _ _⟩
set_option maxHeartbeats 1000000 in
/-- Of each thing: is it a cube? -/
theorem rCube (I : CInv n K) (_hn : n ≤ 65536) : ∀ (k : Nat) (_ : k ≤ 1000) (x : Int) (w : World), inN n x → DocK w F v n K → Calls Try.prog 17 #[v, .int .i64 x, .int .i64 k] w fun e w' => e = .returned (.bool true) ∧ w = w' := by
  intro k
  induction k with
  | zero =>
    intro _ x w hx h
    obtain ⟨a, c, rfl, hc1, hc2⟩ := h.form
    show Calls _ _ #[_, _, .int .i64 0] _ _
    clear h
    go_enter Try.func17, Try.ntmps17
    go_wp2_with fail
    go_ret
    exact ⟨rfl, rfl⟩
  | succ k ih =>
    intro hk x w hx h
    obtain ⟨i, rfl⟩ : ∃ i : Nat, x = i := ⟨x.toNat, by have := hx.1; omega⟩
    have hi : i < n := by have := hx.2; omega
    have hii : (i : Int) < n := by omega
    obtain ⟨g, c, ka, kc, rfl, u0, hk1, hk2, hIA, _⟩ := h.at' hi
    have hH := fun y => rHas h y
    have hC := fun y (hy : inN n y) => ih (by omega) y w hy h
    have hc1 := h.form
    obtain ⟨_, _, hv1, hc1, hc2⟩ := h.form
    cases hv1
    have hat := fun (m : Nat) (hm : m < n) => h.at' hm
    have hcube := fun (j : Nat) y => I.cube i j y
    have hrng := fun y => I.rng i y
    have e1 : IntKind.i64.wrap ((k : Int) + 1 - 1) = k := by rw [Int.add_sub_cancel]; exact IntWalk.i64_in _ (by omega)
    have hk1' : ¬ ((k : Int) + 1 < 1) := by omega
    rw [show ((k + 1 : Nat) : Int) = (k : Int) + 1 by omega]
    clear ih h I
    generalize K i = l at *
    go_enter Try.func17, Try.ntmps17
    go_wp2_with fail
    go_loopw [16] (fun z wr => ∃ j : Nat, z = .int .i64 j ∧ j ≤ l.length ∧ w = wr) (fun z _ => l.length - (intOf z).toNat)
    case atStart => exact ⟨0, rfl, Nat.zero_le _, rfl⟩
    case round =>
      obtain ⟨j, rfl, hj, rfl⟩ := hrel
      by_cases hjl : j < l.length
      · have hji : (j : Int) < l.length := by omega
        obtain ⟨gb, o, rfl, u1⟩ := hIA j hjl
        have hm : l[j]? = some (l.getD j 0) := by simp [List.getD_eq_getElem?_getD, hjl]
        have hmem := mem_getD' l j 0 hjl
        have hcj := hcube j _ hm
        obtain ⟨_, hy⟩ := hrng _ hmem
        have hHj := hH (l.getD j 0)
        rw [hasK_in.2 hy] at hHj
        have hCj := hC _ hy
        obtain ⟨y, hyy⟩ : ∃ y : Nat, l.getD j 0 = y := ⟨(l.getD j 0).toNat, by have := hy.1; omega⟩
        rw [hyy] at u1 hcj hy hHj hCj
        have hyn : y < n := by have := hy.2; omega
        have hyi : (y : Int) < n := by omega
        obtain ⟨g2, c2, ka2, kc2, hv2, u2, hk3, hk4, _, _⟩ := hat y hyn
        cases hv2
        rw [hcj] at u2 hk3
        have e2 : ((j : Int) != (j : Int)) = false := by simp
        clear hIA hcube hrng hH hC hat hm hmem hyy
        generalize l.length = m at *
        go_wp2_with fail
        refine hHj.mono ?_
        rintro e w1 ⟨rfl, rfl⟩
        go_wp2_with fail
        refine hCj.mono ?_
        rintro e w1 ⟨rfl, rfl⟩
        go_wp2_with fail
        go_roundw
        case rel => exact ⟨j + 1, by go_num, by omega, trivial⟩
        case measure => simp [intOf]; omega
      · obtain rfl : j = l.length := by omega
        clear hIA hcube hrng hH hC hat
        generalize l.length = m at *
        go_wp2_with fail
        go_ret
        exact ⟨rfl, rfl⟩
end
end Go.Proofs.Ytbllfokagedpeaa

namespace Go.Proofs.Ytbllfokagedpeaa
open Go.RowKit Go.Sort

section
variable {w : World} {F : Nat → Prop} {v : Value} {n : Nat} {K : Int → List Int}
set_option maxHeartbeats 2000000 in
/-- All of a tree, so many levels. -/
theorem rAll (I : CInv n K) (hn : n ≤ 65536) : ∀ (k : Nat) (_ : k ≤ 1000) (x : Int) (w : World), inN n x → DocK w F v n K → Calls Try.prog 21 #[v, .int .i64 x, .int .i64 k] w (IntsPost w (allK K k x)) := by
  intro k
  induction k with
  | zero =>
    intro _ x w hx h
    have hH := rHas h x
    rw [hasK_in.2 hx] at hH
    obtain ⟨a, c, rfl, hc1, hc2⟩ := h.form
    have hl := ints_close (l := []) ((Stage.start w).nilRow 0 3 1)
    show Calls _ _ #[_, _, .int .i64 0] _ _
    clear h
    go_enter Try.func21, Try.ntmps21
    go_wp2_with fail
    refine hH.mono ?_
    rintro e w1 ⟨rfl, rfl⟩
    go_wp2_with fail
    go_ret
    exact hl
  | succ k ih =>
    intro hk x w hx h
    have hH := rHas h x
    rw [hasK_in.2 hx] at hH
    have hsz := Nat.le_trans (allK_le I (k + 1) x) (tree_le I hx)
    rw [allK] at hsz ⊢
    obtain ⟨i, rfl⟩ : ∃ i : Nat, x = i := ⟨x.toNat, by have := hx.1; omega⟩
    have hi : i < n := by have := hx.2; omega
    have hii : (i : Int) < n := by omega
    obtain ⟨g, c, ka, kc, rfl, u0, hk1, hk2, hIA, _⟩ := h.at' hi
    obtain ⟨_, _, hv1, hc1, hc2⟩ := h.form
    cases hv1
    have hrng := fun y hy => (I.rng i y hy).2
    have hA := fun (wx : World) (hb : Below w.heap.size w wx) y hy => ih (by omega) y wx hy (h.later hb)
    have e1 : IntKind.i64.wrap ((k : Int) + 1 - 1) = k := by rw [Int.add_sub_cancel]; exact IntWalk.i64_in _ (by omega)
    have hk1' : ¬ ((k : Int) + 1 < 1) := by omega
    rw [show ((k + 1 : Nat) : Int) = (k : Int) + 1 by omega]
    have hs : Stage (fun _ => False) w [Ob.ints (.slice (some ⟨w.heap.size, 0, none⟩) 1 1) ((i : Int) :: ((K i).take 0).flatMap (allK K k))] _ := (Stage.start w).newRow 3 1 1 #[.int .i64 i] rfl (by decide)
    have u9 := later hs.below u0
    clear ih h I
    generalize K i = l at *
    generalize allK K k = al at *
    have hstep := fun j hj => flat_step al l j hj
    have hpl : ∀ j, (((i : Int) :: (l.take j).flatMap al).length) ≤ n := fun j => by
      refine Nat.le_trans ?_ hsz
      have h2 : l.flatMap al = (l.take j).flatMap al ++ (l.drop j).flatMap al := by rw [← List.flatMap_append, List.take_append_drop]
      rw [h2]
      simp only [List.length_cons, List.length_append]
      omega
    clear hsz
    go_enter Try.func21, Try.ntmps21
    go_wp2_with fail
    refine hH.mono ?_
    rintro e w1 ⟨rfl, rfl⟩
    go_wp2_with fail
    clear u9 u0
    go_loopw [7, 25] (fun o z wr => ∃ j : Nat, z = .int .i64 j ∧ j ≤ l.length ∧ Stage (fun _ => False) w [Ob.ints o ((i : Int) :: (l.take j).flatMap al)] wr) (fun _ z _ => l.length - (intOf z).toNat)
    case atStart => exact ⟨0, rfl, Nat.zero_le _, hs⟩
    case round =>
      clear hs
      obtain ⟨j, rfl, hj, hs⟩ := hrel
      obtain ⟨oa, oc, rfl, ho1, ho2⟩ := hs.intsForm 0 rfl
      by_cases hjl : j < l.length
      · have hji : (j : Int) < l.length := by omega
        obtain ⟨gb, o, rfl, u1⟩ := (IntsAt.later hIA hs.below) j hjl
        have hy := hrng _ (mem_getD' l j 0 hjl)
        have hAj := hA wr hs.below _ hy
        have hst := hstep j hjl
        have hlen := hpl (j + 1)
        rw [hst] at hlen
        generalize l.getD j 0 = y at *
        have hsnew := hs.newInts hAj
        clear hIA hrng hA hAj hstep hpl
        generalize (l.take j).flatMap al = q at *
        generalize al y = r at *
        generalize hm : l.length = m at *
        replace hst := Lib.hid hst
        replace hm := Lib.hid hm
        have hlen2 : ((i : Int) :: q).length + r.length ≤ 1000000 := by simp only [List.length_cons, List.length_append] at hlen ⊢; omega
        clear hlen hs
        generalize hQ : ((i : Int) :: q) = Q at *
        replace hQ := Lib.hid hQ
        go_wp2_with fail
        refine hsnew.mono ?_
        rintro e w2 ⟨v2, rfl, hs2⟩
        replace hs2 : Stage (fun _ => False) w [Ob.ints (.slice oa Q.length oc) Q, Ob.ints v2 r] w2 := hs2
        clear hsnew
        go_wp2_with (at_builtin; refine hs2.wp_appendInts 0 rfl 1 rfl rfl _ _ 30 rfl Try.underlying30 sinfo_int rfl rfl hlen2 ?_)
        intro v3 w3 hs3
        replace hs3 : Stage (fun _ => False) w [Ob.ints v3 (Q ++ r)] w3 := hs3.take 1
        clear hs2
        go_wp2_with fail
        go_roundw
        case rel => exact ⟨j + 1, by go_num, by omega, by rw [hst.out, ← List.cons_append, hQ.out]; exact hs3⟩
        case measure => simp [intOf]; omega
      · obtain rfl : j = l.length := by omega
        have hfin := ints_close hs
        rw [List.take_length] at ho1
        clear hIA hrng hA hstep hpl hs
        go_wp2_with fail
        go_ret
        simpa using hfin
theorem rKidsAt {g c m kc : Nat} {ka : Option Addr} (h : DocK w F (.slice (some ⟨g, 0, none⟩) n c) n K) (i : Nat) (hi : i < n) (u0 : w.cell? ⟨g, i, none⟩ = some (.slice ka m kc)) : Calls Try.prog 34 #[.slice (some ⟨g, 0, none⟩) n c, .int .i64 i] w fun e w' => e = .returned (.slice ka m kc) ∧ w = w' := by
  have hH := rHas h i
  rw [hasK_in.2 ⟨by omega, by omega⟩] at hH
  have hii : (i : Int) < n := by omega
  obtain ⟨_, _, hv, hc1, hc2⟩ := h.form
  cases hv
  clear h
  go_enter Try.func34, Try.ntmps34
  go_wp2_with fail
  refine hH.mono ?_
  rintro e w1 ⟨rfl, rfl⟩
  go_wp2_with fail
  go_ret
  exact ⟨rfl, rfl⟩
set_option maxRecDepth 100000 in
set_option maxHeartbeats 2000000 in
/-- Is it a row of roots? -/
theorem rRow (I : CInv n K) (_hn : n ≤ 65536) (h : DocK w F v n K) (l : List Int) (a : Option Addr) (c : Nat) (hc : l.length ≤ c ∧ c ≤ 9223372036854775807) (hl : IntsAt w .i64 a l) :
    Calls Try.prog 15 #[v, .slice a l.length c] w fun e w' => e = .returned (.bool (isRow n K l)) ∧ Below w.heap.size w w' := by
  obtain ⟨hc1, hc2⟩ := hc
  obtain ⟨av, cv, rfl, hc3, hc4⟩ := h.form
  have hR := fun (wx : World) (hb : Below w.heap.size w wx) y => rRoot I (h.later hb) y
  have hKd := fun (wx : World) (hb : Below w.heap.size w wx) => h.later hb
  have hat := fun (wx : World) (hb : Below w.heap.size w wx) (i : Nat) (hi : i < n) => (h.later hb).at' hi
  have hstep := fun j hj => rowB_at (n := n) (K := K) l j hj
  have hz : isRow n K l = rowB n K (lastD K l 0) (l.drop 0) := rfl
  have hend : ∀ o, rowB n K o (l.drop l.length) = true := fun o => by rw [List.drop_length]; cases o <;> rfl
  obtain ⟨B, hB⟩ : ∃ B, B = isRow n K l := ⟨_, rfl⟩
  rw [← hB] at hz ⊢
  clear h I hB
  go_enter Try.func15, Try.ntmps15
  go_wp2_with fail
  go_loopw [9] (fun i wr => ∃ j : Nat, i = .int .i64 j ∧ j ≤ l.length ∧ B = rowB n K (lastD K l j) (l.drop j) ∧ (∀ i, i + 1 = j → rootB n K (l.getD i 0) = true) ∧ Below w.heap.size w wr) (fun i _ => l.length - (intOf i).toNat)
  case atStart => exact ⟨0, rfl, Nat.zero_le _, hz, fun i hi => by omega, Below.refl _ _⟩
  case round =>
    clear hz
    obtain ⟨j, rfl, hj, hB, hpre, hb⟩ := hrel
    by_cases hjn : j < l.length
    · have hji : (j : Int) < l.length := by omega
      obtain ⟨gb, o, rfl, u0⟩ := (IntsAt.later hl hb) j hjn
      have cA : ∀ d' os, Calls Try.prog 33 #[.slice av n cv, .int .i64 (l.getD j 0)] (grow (redrawn wr d') os) fun e w'' => e = .returned (.bool (rootB n K (l.getD j 0))) ∧ ∃ p : Regrown, w'' = grow (redrawn wr p.d) p.os := fun d' os => Calls.regrown_of ((hR _ (below_then hb (below_regrown _ _ _) hb.size) _).mono fun e w' ⟨h1, h2⟩ => ⟨h1, by rw [← h2]; exact Below.refl _ _⟩)
      rw [hstep j hjn] at hB
      cases hr : rootB n K (l.getD j 0)
      · rw [hr] at cA hB
        obtain rfl : B = false := hB
        clear hpre
        clear hl hstep hend hR hKd hr hat
        generalize l.getD j 0 = x at *
        generalize l.length = m at *
        go_wp2_with fail
        refine wp_region_quiet_below (by kernel_rfl) (by kernel_rfl) ?_
        repeat (first | go_big_quiet_step (first | with_reducible exact cA _ _) | quiet_step (fail))
        refine wpQuiet_nil ?_
        intro W3 hw
        have hb3 := below_then hb (below_regrown' hw) hb.size
        clear cA hw
        go_wp2_with fail
        go_ret
        exact ⟨rfl, hb3⟩
      · obtain ⟨hin, _⟩ := rootB_iff.1 hr
        have hpre2 : ∀ i, i + 1 = j + 1 → rootB n K (l.getD i 0) = true := fun i hi => by
          obtain rfl : i = j := by omega
          exact hr
        rw [hr] at cA hB
        obtain ⟨y, hy⟩ : ∃ y : Nat, l.getD j 0 = y := ⟨(l.getD j 0).toNat, by have := hin.1; omega⟩
        rw [hy] at u0 cA
        have hyn : y < n := by have := hin.2; rw [hy] at this; omega
        have hyi : (y : Int) < n := by omega
        obtain ⟨gv, c', ka, kc, hv, u1, hk1, hk2, _, _⟩ := hat wr hb y hyn
        cases hv
        by_cases h0 : j = 0
        · subst h0
          replace hB := Lib.hid (show B = rowB n K (lastD K l 1) (l.drop 1) from by simpa using hB)
          rw [Nat.add_zero] at u0
          have kU1 := cell_regrown u1
          clear hl hstep hend hR hKd hr hat hin hy hpre
          generalize (K y).length = dy at *
          generalize l.length = m at *
          go_wp2_with fail
          refine wp_region_quiet_below (by kernel_rfl) (by kernel_rfl) ?_
          repeat (first | go_big_quiet_step (first | with_reducible exact cA _ _) | quiet_step (fail))
          refine wpQuiet_nil ?_
          intro W3 hw
          have hb3 := below_then hb (below_regrown' hw) hb.size
          clear cA hw
          go_wp2_with fail
          go_roundw
          case rel => exact ⟨1, by go_num, by omega, hB.out, hpre2, hb3⟩
          case measure => simp [intOf]; omega
        · obtain ⟨k, hk⟩ : ∃ k, j = k + 1 := ⟨j - 1, by omega⟩
          obtain ⟨gb', o', e1, u2⟩ := (IntsAt.later hl hb) k (by omega)
          cases e1
          have e1 : IntKind.i64.wrap ((j : Int) - 1) = k := by rw [show (j : Int) - 1 = k by omega]; exact IntWalk.i64_in _ (by omega)
          have hk0 : (0 : Int) < (j : Int) := by omega
          have hk0a : decide ((0 : Int) < (j : Int)) = true := decide_eq_true (by omega)
          have hk0b : decide (0 < j) = true := decide_eq_true (by omega)
          have ek : j - 1 = k := by omega
          rw [ek] at hB
          have hk2' : (k : Int) < l.length := by omega
          replace hk := Lib.hid hk
          clear ek
          obtain ⟨hin2, _⟩ := rootB_iff.1 (hpre k hk.out.symm)
          obtain ⟨y2, hy2⟩ : ∃ y : Nat, l.getD k 0 = y := ⟨(l.getD k 0).toNat, by have := hin2.1; omega⟩
          rw [hy2] at u2 hB hin2
          rw [hy] at hB
          have hyn2 : y2 < n := by have := hin2.2; omega
          obtain ⟨gv', c', ka2, kc2, hv, u3, hk3, hk4, _, _⟩ := hat wr hb y2 hyn2
          cases hv
          have cB : ∀ d' os, Calls Try.prog 34 #[.slice (some ⟨gv, 0, none⟩) n cv, .int .i64 y2] (grow (redrawn wr d') os) fun e w'' => e = .returned (.slice ka2 (K y2).length kc2) ∧ ∃ p : Regrown, w'' = grow (redrawn wr p.d) p.os := fun d' os => Calls.regrown_of ((rKidsAt (hKd _ (below_then hb (below_regrown _ _ _) hb.size)) y2 hyn2 (later (below_regrown _ _ _) u3)).mono fun e w' ⟨h1, h2⟩ => ⟨h1, by rw [← h2]; exact Below.refl _ _⟩)
          have kU1 := cell_regrown u1
          have kU2 := cell_regrown u2
          by_cases hlt : (K y2).length < (K y).length
          · replace hB := Lib.hid (show B = rowB n K (lastD K l (j + 1)) (l.drop (j + 1)) from by rw [decide_eq_true hlt, Bool.or_true, Bool.and_true, Bool.true_and] at hB; exact hB)
            have hlt' : decide (((K y).length : Int) ≤ ((K y2).length : Int)) = false := decide_eq_false (by omega)
            have hlt2 : decide ((K y).length ≤ (K y2).length) = false := decide_eq_false (by omega)
            clear hl hstep hend hR hKd hr hat hin hy hin2 hy2 u3 hlt hpre
            generalize (K y).length = d1 at *
            generalize (K y2).length = d2 at *
            generalize l.length = m at *
            go_wp2_with fail
            refine wp_region_quiet_below (by kernel_rfl) (by kernel_rfl) ?_
            repeat (first | go_big_quiet_step (first | with_reducible exact cA _ _ | with_reducible exact cB _ _) | quiet_step (fail))
            refine wpQuiet_nil ?_
            intro W3 hw
            have hb3 := below_then hb (below_regrown' hw) hb.size
            clear cA cB hw
            go_wp2_with fail
            go_roundw
            case rel => exact ⟨j + 1, by go_num, by omega, hB.out, hpre2, hb3⟩
            case measure => simp [intOf]; omega
          · obtain rfl : B = false := by rw [decide_eq_false hlt, decide_eq_false (by omega : ¬ j = 0), Bool.or_false, Bool.and_false, Bool.false_and] at hB; exact hB
            have hlt' : decide (((K y).length : Int) ≤ ((K y2).length : Int)) = true := decide_eq_true (by omega)
            have hlt2 : decide ((K y).length ≤ (K y2).length) = true := decide_eq_true (by omega)
            clear hl hstep hend hR hKd hr hat hin hy hin2 hy2 u3 hlt hpre hB
            generalize (K y).length = d1 at *
            generalize (K y2).length = d2 at *
            generalize l.length = m at *
            go_wp2_with fail
            refine wp_region_quiet_below (by kernel_rfl) (by kernel_rfl) ?_
            repeat (first | go_big_quiet_step (first | with_reducible exact cA _ _ | with_reducible exact cB _ _) | quiet_step (fail))
            refine wpQuiet_nil ?_
            intro W3 hw
            have hb3 := below_then hb (below_regrown' hw) hb.size
            clear cA cB hw
            go_wp2_with fail
            go_ret
            exact ⟨rfl, hb3⟩
    · obtain rfl : j = l.length := by omega
      rw [hend] at hB
      subst hB
      clear hl hstep hend hR hKd hat
      generalize l.length = m at *
      go_wp2_with fail
      go_ret
      exact ⟨rfl, hb⟩
end
end Go.Proofs.Ytbllfokagedpeaa

namespace Go.Proofs.Ytbllfokagedpeaa
open Go.RowKit Go.Sort

section
variable {γ : Type} {F0 : Nat → Prop} {W0 w : World} {p n : Nat} {K : Int → List Int} {O : γ → Ob} {g : γ} {R : γ → γ → Prop} {ok : Int → Prop} {lt : Int → Int → Bool} {H : World → Prop} {T : TypeId} {u : Value} {fn : Fn} {q : List Ob}
def JoinPost (O : γ → Ob) (R : γ → γ → Prop) (lt : Int → Int → Bool) (F0 : Nat → Prop) (W0 : World) (p n : Nat) (K : Int → List Int) (g : γ) (q : List Ob) (P : List Int) (e : Ending) (w' : World) : Prop :=
  ∃ sv j K' S' g', e = .returned sv ∧ JoinK lt K P j K' S' ∧ Turns R j g g' ∧ Stage F0 W0 ([Ob.forest p n K', O g'] ++ q ++ [Ob.ints sv S']) w'
set_option maxHeartbeats 1000000 in
set_option maxRecDepth 100000 in
theorem join_st (A : Asks O R ok lt H T u fn) (hs : Stage F0 W0 ([Ob.forest p n K, O g] ++ q) w) (P : List Int) (a : Option Addr) (c : Nat) (hc : P.length ≤ c ∧ c ≤ 9223372036854775807) (hP : IntsAt w .i64 a P) (h02 : P.length = 0 ∨ P.length = 2)
    (hok : ∀ x ∈ P, ok x) (hlink : ∀ x y, P = [x, y] → linkF n K x y = linkK K x y ∧ linkF n K y x = linkK K y x) :
    Calls Try.prog 38 #[.pointer (some ⟨p, 0, none⟩), .iface T u, .slice a P.length c] w (JoinPost O R lt F0 W0 p n K g q P) := by
  obtain ⟨hc1, hc2⟩ := hc
  match P, h02 with
  | [], _ =>
    have hl := hs.nilRow 0 3 1
    show Calls _ _ #[_, _, .slice a 0 c] _ _
    clear hs
    go_enter Try.func38, Try.ntmps38
    go_wp2_with fail
    go_ret
    exact ⟨_, 0, K, [], g, rfl, JoinK.none, Turns.none g, hl⟩
  | [x, y], _ =>
    obtain ⟨gb, o, rfl, u0⟩ := hP 0 (by simp)
    obtain ⟨gb', o', e1, u1⟩ := hP 1 (by simp)
    cases e1
    rw [Nat.add_zero] at u0
    replace u0 : w.cell? ⟨gb, o, none⟩ = some (.int .i64 x) := u0
    replace u1 : w.cell? ⟨gb, o + 1, none⟩ = some (.int .i64 y) := u1
    obtain ⟨l1, l2⟩ := hlink x y rfl
    obtain ⟨w1, hw1, hs1⟩ : ∃ w1, w.drew = w1 ∧ Stage F0 W0 ([Ob.forest p n K, O g] ++ q) w1 := ⟨_, rfl, hs.drew⟩
    replace hw1 := Lib.hid hw1
    have hm := A.find hs1 1 rfl
    have he := A.meth.enter
    have hA := A.stage hs1 1 rfl y x (hok y (by simp)) (hok x (by simp))
    have hL1 := fun wx g' (h : Stage F0 W0 ([Ob.forest p n K, O g'] ++ q) wx) => h.call 0 rfl (fun F ho => link_cy x y ho)
    have hL2 := fun wx g' (h : Stage F0 W0 ([Ob.forest p n K, O g'] ++ q) wx) => h.call 0 rfl (fun F ho => link_cy y x ho)
    rw [l1] at hL1
    rw [l2] at hL2
    generalize linkB n K x y = B1 at *
    generalize linkB n K y x = B2 at *
    show Calls _ _ #[_, _, .slice (some ⟨gb, o, none⟩) 2 c] _ _
    replace hc1 : 2 ≤ c := hc1
    clear hs hs1 hP hok hlink l1 l2
    go_enter Try.func38, Try.ntmps38
    go_wp2_with fail
    go_region
    rw [hw1.out]
    clear hw1 u0 u1
    go_wp2_with fail
    refine hA.mono ?_
    rintro e w2 ⟨rfl, g', hR, hs2⟩
    clear hA hm
    replace hs2 : Stage F0 W0 ([Ob.forest p n K, O g'] ++ q) w2 := hs2
    cases hlt : lt y x
    · replace hL1 := hL1 w2 g' hs2
      clear hL2 hs2
      go_wp2_with fail
      refine hL1.mono ?_
      rintro e w3 ⟨rfl, hs3⟩
      clear hL1
      have hs4 := hs3.newRow 3 1 1 #[.int .i64 x] rfl (by decide)
      go_wp2_with fail
      go_ret
      exact ⟨_, 1, _, [x], g', rfl, JoinK.first hlt, Turns.one hR, hs4⟩
    · replace hL2 := hL2 w2 g' hs2
      clear hL1 hs2
      go_wp2_with fail
      refine hL2.mono ?_
      rintro e w3 ⟨rfl, hs3⟩
      clear hL2
      have hs4 := hs3.newRow 3 1 1 #[.int .i64 y] rfl (by decide)
      go_wp2_with fail
      go_ret
      exact ⟨_, 1, _, [y], g', rfl, JoinK.second hlt, Turns.one hR, hs4⟩
end
end Go.Proofs.Ytbllfokagedpeaa
