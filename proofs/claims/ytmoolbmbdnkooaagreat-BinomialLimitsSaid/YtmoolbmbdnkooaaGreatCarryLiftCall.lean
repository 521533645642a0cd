/- Merged of CarrySplit, CarryLiftCall. -/
import Derived.Test.YtmoolbmbdnkooaaGreatCarryLink
import Derived.Deep.RegionLaw
namespace Go.Proofs.YtmoolbmbdnkooaaGreat
open Go.RowKit Go.Sort

section
variable {F0 : Nat → Prop} {W0 w : World} {p n : Nat} {K : Int → List Int} {q : List Ob} {F : Nat → Prop}
theorem root_f (h : (Ob.forest p n K).holds w F) (x : Int) : Calls Tryz.prog 67 #[.pointer (some ⟨p, 0, none⟩), .int .i64 x] w fun e w' => e = .returned (.bool (rootB n K x)) ∧ w = w' := by
  obtain ⟨v, kv, I, hn, hg⟩ := h
  exact cy_root (q := []) (Ob.group.open hg) I hn x
set_option maxHeartbeats 1000000 in
theorem split_one (x : Int) (hs : Stage F w [Ob.forest p n K] w) : Calls Tryz.prog 112 #[.pointer (some ⟨p, 0, none⟩), .int .i64 x] w fun e w' => ∃ v, e = .returned v ∧ Stage F w [Ob.forest p n (splitF n K x), Ob.ints v (splitL n K x)] w' := by
  have hR := hs.ask 0 rfl (fun _ ho => root_f ho x)
  cases h1 : rootB n K x
  · have e1 : splitF n K x = K := by simp [splitF, h1]
    have e2 : splitL n K x = [] := by simp [splitL, h1]
    rw [e1, e2]
    rw [h1] at hR
    have hl := hs.nilRow 0 3 1
    clear hs
    go_enter Tryz.func112, Tryz.ntmps112
    go_wp2_with fail
    refine hR.mono ?_
    rintro e w1 ⟨rfl, rfl⟩
    go_wp2_with fail
    go_ret
    exact ⟨_, rfl, hl⟩
  · have e1 : splitF n K x = splitK K x := by simp [splitF, h1]
    have e2 : splitL n K x = K x := by simp [splitL, h1]
    rw [e1, e2]
    rw [h1] at hR
    obtain ⟨r1, r2⟩ := rootB_iff.1 h1
    obtain ⟨v, kv, I, hn, hs1⟩ := forest_open (l := []) hs
    have hK := cy_kids (q := []) hs1 I hn x
    obtain ⟨i, rfl⟩ : ∃ i : Nat, x = i := ⟨x.toNat, by have := r1.1; omega⟩
    have hi : i < n := by have := r1.2; omega
    have hii : (i : Int) < n := by omega
    obtain ⟨gb, c, rfl, hc1, hc2, hgp, hgl, _, _⟩ := cy_row (q := []) hs1 (by omega)
    have hl : ∀ z ∈ K i, inN n z := fun z hz => (I.rng _ _ hz).2
    have hup : upN (splitK K i) = adoptU (upN K) (K i) (-1) := by
      funext z
      unfold upN adoptU
      rw [up_split I r2]
      split <;> rfl
    have hfin : ∀ w' v1, Stage F w (cyParts p (.slice (some ⟨gb, 0, none⟩) n c) n (adoptU (upN K) (K i) (-1)) (setN kv i (.slice none 0 0)) (cyFam kv K) ++ [Ob.ints v1 (K i)]) w' → Stage F w [Ob.forest p n (splitK K i), Ob.ints v1 (K i)] w' := fun w' v1 h => by
      have h2 := cy_pull h i
      have h3 : Stage F w (cyParts p (.slice (some ⟨gb, 0, none⟩) n c) n (adoptU (upN K) (K i) (-1)) (setN kv i (.slice none 0 0)) (updO (cyFam kv K) i Ob.none) ++ ([Ob.ints v1 (K i)] ++ [Ob.ints (.slice none 0 0) []])) w' := (h2.take 4).nilRow 0 3 1
      have h4 := cy_push h3 i (fam_off _ _ _)
      rw [fam_push, ← split_set, ← hup] at h4
      have h5 := forest_shut (l := [Ob.ints v1 (K i)]) (h4.select [3, 0, 1, 2] (by decide) rfl) (split_inv I r2) hn
      exact h5.select [1, 0] (by decide) rfl
    have hK2 := hs1.newInts hK
    rw [← adopt_nil (upN K) (-1)] at hK2
    clear hs hs1 hK hup r2 h1 e1 e2
    go_enter Tryz.func112, Tryz.ntmps112
    go_wp2_with fail
    refine hR.mono ?_
    rintro e w1 ⟨rfl, rfl⟩
    go_wp2_with fail
    refine hK2.mono ?_
    rintro e w1 ⟨v1, rfl, hs⟩
    replace hs : Stage F w (cyParts p (.slice (some ⟨gb, 0, none⟩) n c) n (adoptU (upN K) ((K i).take 0) (-1)) kv (cyFam kv K) ++ [Ob.ints v1 (K i)]) w1 := hs
    clear hK2 hR
    obtain ⟨a1, c1, rfl, h11, h12⟩ := hs.intsForm 3 rfl
    generalize hKl : K i = l at *
    replace hKl := Lib.hid hKl
    go_wp2_with fail
    go_loopw [17] (fun z wr => ∃ k : Nat, z = .int .i64 k ∧ k ≤ l.length ∧ Stage F w (cyParts p (.slice (some ⟨gb, 0, none⟩) n c) n (adoptU (upN K) (l.take k) (-1)) kv (cyFam kv K) ++ [Ob.ints (.slice a1 l.length c1) l]) wr) (fun z _ => l.length - (intOf z).toNat)
    case atStart => exact ⟨0, rfl, Nat.zero_le _, hs⟩
    case round =>
      clear hs
      obtain ⟨k, rfl, hk, hs⟩ := hrel
      have c0 := cy_c0 hs
      by_cases hkl : k < l.length
      · have hki : (k : Int) < l.length := by omega
        obtain ⟨gl, cl', hv, _, _, _, hcell, _⟩ := hs.intsAt 3 rfl (by omega)
        cases hv
        have e0 := hcell k hkl
        have hin := hl _ (mem_getD' l k 0 hkl)
        obtain ⟨y, hy⟩ : ∃ y : Nat, l.getD k 0 = y := ⟨(l.getD k 0).toNat, by have := hin.1; omega⟩
        have hyn : y < n := by rw [hy] at hin; have := hin.2; omega
        have hyi : (y : Int) < n := by omega
        rw [hy] at e0
        have u0 := (cy_cells hs hyn).1
        have f0 := cy_free hs (y * 2)
        have hs3 := cy_up_set hs hyn (-1)
        rw [adopt_step _ l _ k y hkl hy] at hs3
        generalize adoptU (upN K) (l.take k) (-1) y = z0 at *
        clear hs hcell hin hfin
        generalize l.length = m at *
        go_wp2_with fail
        go_roundw
        case rel => exact ⟨k + 1, by go_num, by omega, hs3⟩
        case measure => simp [intOf]; omega
      · obtain rfl : k = l.length := by omega
        rw [List.take_length] at hs
        have u0 := (cy_cells hs hi).2
        have f0 := cy_free hs (i * 2 + 1)
        have hs4 := hfin _ _ (cy_kv_set hs hi (.slice none 0 0))
        clear hl hs hfin
        go_wp2_with fail
        go_ret
        exact ⟨_, rfl, by rw [hKl.out]; exact hs4⟩
/-- Split. -/
theorem Stage.splitCall (hs : Stage F0 W0 ([Ob.forest p n K] ++ q) w) (x : Int) : Calls Tryz.prog 112 #[.pointer (some ⟨p, 0, none⟩), .int .i64 x] w fun e w' => ∃ v, e = .returned v ∧ Stage F0 W0 ([Ob.forest p n (splitF n K x), Ob.ints v (splitL n K x)] ++ q) w' := 
  (hs.frameEx (Post := fun (v : Value) e => e = .returned v) (l' := fun v => [Ob.forest p n (splitF n K x), Ob.ints v (splitL n K x)]) fun _ _ h => split_one x h).mono fun _ _ ⟨v, he, h⟩ => ⟨v, he, h⟩
end
end Go.Proofs.YtmoolbmbdnkooaaGreat

namespace Go.Proofs.YtmoolbmbdnkooaaGreat
open Go.RowKit Go.Sort

theorem updO_swap (g : Nat → Ob) {i j : Nat} (h : i ≠ j) (A B : Ob) : updO (updO g i A) j B = updO (updO g j B) i A := by
  funext z
  unfold updO
  by_cases e : z = i
  · subst e; rw [if_neg h]; simp
  · simp [e]
theorem updO_twice (g : Nat → Ob) (i : Nat) (A B : Ob) : updO (updO g i A) i B = updO g i B := by
  funext z
  unfold updO
  split <;> rfl
theorem fam_upd (kv : Nat → Value) (K : Int → List Int) (k : Nat) (l : List Int) : updO (cyFam kv K) k (Ob.ints (kv k) l) = cyFam kv (setK K k l) := by
  have h := fam_push kv K k (kv k) l
  rw [updO_twice, setN_self] at h
  exact h
theorem lift_fam {kv : Nat → Value} {K1 K2 : Int → List Int} {i j : Nat} (hij : i ≠ j) (hK : ∀ z : Int, z ≠ i → z ≠ j → K1 z = K2 z) :
    updO (updO (updO (updO (cyFam kv K1) i Ob.none) j Ob.none) j (Ob.ints (kv i) (K2 j))) i (Ob.ints (kv j) (K2 i)) = cyFam (setN (setN kv i (kv j)) j (kv i)) K2 := by
  funext z
  unfold updO cyFam setN
  by_cases e1 : z = i
  · subst e1; simp [hij]
  · by_cases e2 : z = j
    · subst e2; simp [e1]
    · simp only [e1, e2, if_false]
      rw [hK z (by omega) (by omega)]
section
variable {F0 : Nat → Prop} {W0 w : World} {p n : Nat} {v : Value} {u : Nat → Int} {kv : Nat → Value} {g : Nat → Ob} {K : Int → List Int} {q : List Ob} {F : Nat → Prop}
theorem cy_pullG (hs : Stage F0 W0 (cyParts p v n u kv g ++ q) w) (i : Nat) {O : Ob} (hO : g i = O) : Stage F0 W0 (cyParts p v n u kv (updO g i Ob.none) ++ (q ++ [O])) w := by
  have h := hs.pull 2 rfl i
  have e : (cyParts p v n u kv g ++ q).set 2 (Ob.fam (updO g i Ob.none)) = cyParts p v n u kv (updO g i Ob.none) ++ q := rfl
  rw [e, List.append_assoc, hO] at h
  exact h
set_option maxHeartbeats 2000000 in
set_option maxRecDepth 100000 in
theorem lift_one (x : Int) (hs : Stage F w [Ob.forest p n K] w) : Calls Tryz.prog 115 #[.pointer (some ⟨p, 0, none⟩), .int .i64 x] w fun e w' => e = .returned (.bool (upK K x).isSome) ∧ Stage F w [Ob.forest p n (liftF K x)] w' := by
  have hU := hs.ask 0 rfl (fun _ ho => up_f ho x)
  cases hu : upK K x with
  | none =>
    have e1 : liftF K x = K := by simp [liftF, hu]
    rw [e1]
    rw [hu] at hU
    go_enter Tryz.func115, Tryz.ntmps115
    go_wp2_with fail
    refine hU.mono ?_
    rintro e w1 ⟨rfl, rfl⟩
    go_wp2_with fail
    go_ret
    exact ⟨rfl, hs⟩
  | some y =>
    have e1 : liftF K x = liftK K x y := by simp [liftF, hu]
    rw [e1]
    rw [hu] at hU
    have hV := hs.ask 0 rfl (fun _ ho => up_f ho y)
    obtain ⟨v, kv, I, hn, hs1⟩ := forest_open (l := []) hs
    have hxy := (upK_some I).1 hu
    have hless := I.less hxy
    have hd := deg_16 I hn y
    obtain ⟨rx, ry⟩ := upK_rng I hu
    obtain ⟨i, rfl⟩ : ∃ i : Nat, x = i := ⟨x.toNat, by have := rx.1; omega⟩
    obtain ⟨j, rfl⟩ : ∃ j : Nat, y = j := ⟨y.toNat, by have := ry.1; omega⟩
    have hi : i < n := by have := rx.2; omega
    have hj : j < n := by have := ry.2; omega
    have hii : (i : Int) < n := by omega
    have hjj : (j : Int) < n := by omega
    have hij : i ≠ j := fun e => by rw [e] at hless; omega
    obtain ⟨gb, c, rfl, hc1, hc2, hgp, hgl, _, _⟩ := cy_row (q := []) hs1 (by omega)
    obtain ⟨ai, ci, hki, _, _⟩ := cy_kform (q := []) hs1 i
    have p1 := cy_pullG (q := []) hs1 i (O := Ob.ints (kv i) (K i)) rfl
    have p2 := cy_pullG p1 j (O := Ob.ints (kv j) (K j)) (by simp [updO, cyFam, hij.symm])
    obtain ⟨gj, cj, hkj, hj1, hj2, _, _, _⟩ := p2.intsAt 4 rfl (by omega)
    have hUl : (K j).set (K i).length (j : Int) = liftK K i j i := by rw [lift_kids_x I hxy, put_place I hxy]
    have hLl : K i = liftK K i j j := (lift_kids_p I hxy).symm
    -- the rest, from whatever stands behind the thing above
    have hfin : ∀ (K1 : Int → List Int), (∀ z : Int, z ≠ i → z ≠ j → K1 z = liftK K i j z) → ∀ w', Stage F w (cyParts p (.slice (some ⟨gb, 0, none⟩) n c) n (adoptU (adoptU (setN (upN K) i (upN K j)) (liftK K i j i) i) (K i) j) (setN (setN kv i (kv j)) j (kv i)) (updO (updO (cyFam kv K1) i Ob.none) j Ob.none) ++ [Ob.ints (kv i) (K i), Ob.ints (kv j) (liftK K i j i)]) w' → Stage F w [Ob.forest p n (liftK K i j)] w' := fun K1 hK1 w' h => by
      have h2 : Stage F w (cyParts p (.slice (some ⟨gb, 0, none⟩) n c) n (adoptU (adoptU (setN (upN K) i (upN K j)) (liftK K i j i) i) (K i) j) (setN (setN kv i (kv j)) j (kv i)) (updO (updO (cyFam kv K1) i Ob.none) j Ob.none) ++ ([Ob.ints (kv j) (liftK K i j i)] ++ [Ob.ints (kv i) (K i)])) w' := h.select [0, 1, 2, 4, 3] (by decide) rfl
      have h3 := cy_push h2 j (by simp [updO])
      have h4 := cy_push (q := []) h3 i (by simp [updO, hij])
      rw [hLl, lift_fam hij hK1] at h4
      have hup : adoptU (adoptU (setN (upN K) i (upN K j)) (liftK K i j i) i) (liftK K i j j) j = upN (liftK K i j) := by
        funext z
        unfold adoptU setN upN
        rw [up_lift I hxy, ← hLl, lift_kids_x I hxy]
        split
        · rfl
        split
        · rfl
        by_cases e : z = i
        · subst e; simp
        · have e2 : ¬ (z : Int) = i := by omega
          rw [if_neg e, if_neg e2]
      rw [hup, List.append_nil] at h4
      exact forest_shut (l := []) h4 (lift_inv I hxy) hn
    have hUlen : (liftK K i j i).length = (K j).length := by rw [← hUl]; simp
    have hUin : ∀ z ∈ liftK K i j i, inN n z := fun z hz => ((lift_inv I hxy).rng _ _ hz).2
    have hLin : ∀ z ∈ K i, inN n z := fun z hz => (I.rng _ _ hz).2
    have hset : (cellsBy intC (K j)).set (K i).length (.int .i64 j) = cellsBy intC (liftK K i j i) := by rw [intC_set, hUl]
    have hiL : ((K i).length : Int) < (K j).length := by omega
    clear hUl hLl
    cases hv : upK K j with
    | none =>
      rw [hv] at hV
      have hK1 : ∀ z : Int, z ≠ i → z ≠ j → K z = liftK K i j z := fun z h1 h2 => by
        rw [lift_kids_else I hxy h1 h2, put_not (upK_none.1 hv z)]
      replace hfin := hfin K hK1
      obtain ⟨K1, hfin, hs2⟩ : ∃ K1, (∀ w', Stage F w (cyParts p (.slice (some ⟨gb, 0, none⟩) n c) n (adoptU (adoptU (setN (upN K) i (upN K j)) (liftK K i j i) i) (K i) j) (setN (setN kv i (kv j)) j (kv i)) (updO (updO (cyFam kv K1) i Ob.none) j Ob.none) ++ [Ob.ints (kv i) (K i), Ob.ints (kv j) (liftK K i j i)]) w' → Stage F w [Ob.forest p n (liftK K i j)] w') ∧ Stage F w (cyParts p (.slice (some ⟨gb, 0, none⟩) n c) n (upN K) kv (updO (updO (cyFam kv K1) i Ob.none) j Ob.none) ++ [Ob.ints (kv i) (K i), Ob.ints (kv j) (K j)]) w := ⟨K, hfin, p2⟩
      clear hK1 p1 p2 hs1
      go_enter Tryz.func115, Tryz.ntmps115
      go_wp2_with fail
      refine hU.mono ?_
      rintro e wx ⟨rfl, rfl⟩
      go_wp2_with fail
      refine hV.mono ?_
      rintro e wx ⟨rfl, rfl⟩
      clear hU hV hs
      -- the thing itself takes the place
      have c0 := cy_c0 hs2
      have u1 := (cy_cells hs2 hi).1
      have u2 := (cy_cells hs2 hj).1
      have f1 := cy_free hs2 (i * 2)
      obtain ⟨w3, hw3, hs3⟩ : ∃ w3, (w.setCell ⟨gb, i * 2, none⟩ (.int .i64 (upN K j))).drew = w3 ∧ Stage F w (cyParts p (.slice (some ⟨gb, 0, none⟩) n c) n (setN (upN K) i (upN K j)) kv (updO (updO (cyFam kv K1) i Ob.none) j Ob.none) ++ [Ob.ints (kv i) (K i), Ob.ints (kv j) (K j)]) w3 := ⟨_, rfl, (cy_up_set hs2 hi _).drew⟩
      clear hs2
      go_wp2_with fail
      go_region
      try rw [hw3]
      clear hw3 c0 u1 u2 f1
      have c0 := cy_c0 hs3
      have u1 := (cy_cells hs3 hi).2
      have u2 := (cy_cells hs3 hj).2
      rw [hki] at u1
      rw [hkj] at u2
      go_wp2_with fail
      go_region
      obtain ⟨w4, hw4, hs4⟩ : ∃ w4, w3.drew = w4 ∧ Stage F w (cyParts p (.slice (some ⟨gb, 0, none⟩) n c) n (setN (upN K) i (upN K j)) kv (updO (updO (cyFam kv K1) i Ob.none) j Ob.none) ++ [Ob.ints (kv i) (K i), Ob.ints (kv j) (K j)]) w4 := ⟨_, rfl, hs3.drew⟩
      try rw [hw4]
      clear hw4 hs3 c0 u1 u2
      rw [hki, hkj] at hs4
      obtain ⟨gj', cj', hkj', _, _, _, hcell, hfr⟩ := hs4.intsAt 4 rfl (by omega)
      cases hkj'
      have u1 := hcell (K i).length (by omega)
      have f1 := hfr (K i).length
      have hs5 := hs4.storeRow 4 rfl (K i).length (.int .i64 j) hset
      clear hcell hfr hs4
      rw [hkj, hki] at hfin
      obtain ⟨w5, hw5, hs6⟩ : ∃ w5, w4.setCell ⟨gj, (K i).length, none⟩ (.int .i64 j) = w5 ∧ Stage F w (cyParts p (.slice (some ⟨gb, 0, none⟩) n c) n (setN (upN K) i (upN K j)) kv (updO (updO (cyFam kv K1) i Ob.none) j Ob.none) ++ [Ob.ints (.slice ai (K i).length ci) (K i), Ob.row 0 3 1 (.slice (some ⟨gj, 0, none⟩) (K j).length cj) (K j).length (cellsBy intC (liftK K i j i))]) w5 := ⟨_, rfl, hs5⟩
      clear hs5
      rw [← hUlen] at hs6
      have hA := adopt_cy hs6 ⟨hc1, hc2⟩ hgp hn i hi 1 (liftK K i j i) _ cj rfl hUin
      rw [hUlen] at hA
      have hUh := Lib.hid hUlen
      clear hs6
      have hB := fun wx (h : Stage F w (cyParts p (.slice (some ⟨gb, 0, none⟩) n c) n (adoptU (setN (upN K) i (upN K j)) (liftK K i j i) i) (setN kv i (.slice (some ⟨gj, 0, none⟩) (liftK K i j i).length cj)) (updO (updO (cyFam kv K1) i Ob.none) j Ob.none) ++ [Ob.ints (.slice ai (K i).length ci) (K i), Ob.ints (.slice (some ⟨gj, 0, none⟩) (liftK K i j i).length cj) (liftK K i j i)]) wx) => adopt_cy h ⟨hc1, hc2⟩ hgp hn j hj 0 (K i) _ ci rfl hLin
      clear hset hUlen hUin hLin
      generalize liftK K i j i = U at *
      generalize hli : (K i).length = li at *
      replace hli := Lib.hid hli
      go_wp2_with fail
      try rw [hw5]
      clear hw5 u1 f1
      refine hA.mono ?_
      rintro e w6 ⟨rfl, hs7⟩
      clear hA
      replace hB := hB w6 (by unfold Ob.ints; rw [hUh.out]; exact hs7)
      try rw [hUh.out] at hB
      go_wp2_with fail
      refine hB.mono ?_
      rintro e w7 ⟨rfl, hs8⟩
      have hs9 := hfin w7 hs8
      clear hfin hs7 hs8 hB
      go_wp2_with fail
      go_ret
      exact ⟨rfl, hs9⟩
    | some y2 =>
      rw [hv] at hV
      have hjy := (upK_some I).1 hv
      obtain ⟨_, rk⟩ := upK_rng I hv
      obtain ⟨k, rfl⟩ : ∃ k : Nat, y2 = k := ⟨y2.toNat, by have := rk.1; omega⟩
      have hk : k < n := by have := rk.2; omega
      have hkk : (k : Int) < n := by omega
      have hless2 := I.less hjy
      have hkj0 : k ≠ j := fun e => by rw [e] at hless2; omega
      have hki0 : k ≠ i := fun e => by rw [e] at hless2; omega
      have p3 := cy_pullG p2 k (O := Ob.ints (kv k) (K k)) (by simp [updO, cyFam, hki0, hkj0])
      obtain ⟨gk, ck, hkk2, _, _, _, hcell, hfr⟩ := p3.intsAt 5 rfl (by omega)
      have hV1 : (K k).set (K j).length (i : Int) = liftK K i j k := by
        rw [lift_kids_else I hxy (by omega) (by omega), put_place I hjy]
      have hVlen : (liftK K i j k).length = (K k).length := by rw [← hV1]; simp
      have hK1 : ∀ z : Int, z ≠ i → z ≠ j → setK K k (liftK K i j k) z = liftK K i j z := fun z h1 h2 => by
        unfold setK
        by_cases e : z = k
        · rw [if_pos e, e]
        · rw [if_neg e, lift_kids_else I hxy h1 h2, put_not (fun h => e (I.one _ _ _ h hjy))]
      have hset2 : (cellsBy intC (K k)).set (K j).length (.int .i64 i) = cellsBy intC (liftK K i j k) := by rw [intC_set, hV1]
      replace hfin := hfin _ hK1
      have c0 := cy_c0 p3
      have u0 := (cy_cells p3 hk).2
      rw [hkk2] at u0
      have u1 := hcell (K j).length hless2
      have f1 := hfr (K j).length
      have hD := hs.drew.ask 0 rfl (fun _ ho => deg_f ho (j : Int))
      have hjL : ((K j).length : Int) < (K k).length := by omega
      obtain ⟨K1, hfin, w2, hw2, hs2⟩ : ∃ K1, (∀ w', Stage F w (cyParts p (.slice (some ⟨gb, 0, none⟩) n c) n (adoptU (adoptU (setN (upN K) i (upN K j)) (liftK K i j i) i) (K i) j) (setN (setN kv i (kv j)) j (kv i)) (updO (updO (cyFam kv K1) i Ob.none) j Ob.none) ++ [Ob.ints (kv i) (K i), Ob.ints (kv j) (liftK K i j i)]) w' → Stage F w [Ob.forest p n (liftK K i j)] w') ∧ ∃ w2, (w.setCell ⟨gk, (K j).length, none⟩ (.int .i64 i)).drew = w2 ∧ Stage F w (cyParts p (.slice (some ⟨gb, 0, none⟩) n c) n (upN K) kv (updO (updO (cyFam kv K1) i Ob.none) j Ob.none) ++ [Ob.ints (kv i) (K i), Ob.ints (kv j) (K j)]) w2 := by
        refine ⟨_, hfin, _, rfl, ?_⟩
        rw [hkk2] at p3
        have p4 := (p3.storeRow 5 rfl (K j).length (.int .i64 i) hset2).drew
        have p5 : Stage F w (cyParts p (.slice (some ⟨gb, 0, none⟩) n c) n (upN K) kv (updO (updO (updO (cyFam kv K) i Ob.none) j Ob.none) k Ob.none) ++ ([Ob.ints (kv i) (K i), Ob.ints (kv j) (K j)] ++ [Ob.row 0 3 1 (.slice (some ⟨gk, 0, none⟩) (K k).length ck) (K k).length (cellsBy intC (liftK K i j k))])) _ := p4
        rw [← hkk2, ← hVlen] at p5
        have p6 := cy_push p5 k (by simp [updO])
        rw [updO_twice, updO_swap _ hkj0.symm, updO_swap _ hki0.symm, fam_upd] at p6
        exact p6
      clear hK1 p1 p2 p3 hs1 hcell hfr hset2 hV1 hVlen
      generalize hlk : (K k).length = lk at *
      go_enter Tryz.func115, Tryz.ntmps115
      go_wp2_with fail
      refine hU.mono ?_
      rintro e wx ⟨rfl, rfl⟩
      go_wp2_with fail
      refine hV.mono ?_
      rintro e wx ⟨rfl, rfl⟩
      clear hU hV hs
      go_wp2_with fail
      go_region_with (go_at_call 37; with_reducible refine hD.mono ?_; rintro e wx ⟨rfl, rfl⟩)
      all_goals
        try rw [hw2]
        clear hw2 hD u0 u1 f1 c0
        -- the thing itself takes the place
        have c0 := cy_c0 hs2
        have u1 := (cy_cells hs2 hi).1
        have u2 := (cy_cells hs2 hj).1
        have f1 := cy_free hs2 (i * 2)
        obtain ⟨w3, hw3, hs3⟩ : ∃ w3, (w2.setCell ⟨gb, i * 2, none⟩ (.int .i64 (upN K j))).drew = w3 ∧ Stage F w (cyParts p (.slice (some ⟨gb, 0, none⟩) n c) n (setN (upN K) i (upN K j)) kv (updO (updO (cyFam kv K1) i Ob.none) j Ob.none) ++ [Ob.ints (kv i) (K i), Ob.ints (kv j) (K j)]) w3 := ⟨_, rfl, (cy_up_set hs2 hi _).drew⟩
        clear hs2
        go_wp2_with fail
        go_region
        try rw [hw3]
        clear hw3 c0 u1 u2 f1
        have c0 := cy_c0 hs3
        have u1 := (cy_cells hs3 hi).2
        have u2 := (cy_cells hs3 hj).2
        rw [hki] at u1
        rw [hkj] at u2
        go_wp2_with fail
        go_region
        obtain ⟨w4, hw4, hs4⟩ : ∃ w4, w3.drew = w4 ∧ Stage F w (cyParts p (.slice (some ⟨gb, 0, none⟩) n c) n (setN (upN K) i (upN K j)) kv (updO (updO (cyFam kv K1) i Ob.none) j Ob.none) ++ [Ob.ints (kv i) (K i), Ob.ints (kv j) (K j)]) w4 := ⟨_, rfl, hs3.drew⟩
        try rw [hw4]
        clear hw4 hs3 c0 u1 u2
        rw [hki, hkj] at hs4
        obtain ⟨gj', cj', hkj', _, _, _, hcell, hfr⟩ := hs4.intsAt 4 rfl (by omega)
        cases hkj'
        have u1 := hcell (K i).length (by omega)
        have f1 := hfr (K i).length
        have hs5 := hs4.storeRow 4 rfl (K i).length (.int .i64 j) hset
        clear hcell hfr hs4
        rw [hkj, hki] at hfin
        obtain ⟨w5, hw5, hs6⟩ : ∃ w5, w4.setCell ⟨gj, (K i).length, none⟩ (.int .i64 j) = w5 ∧ Stage F w (cyParts p (.slice (some ⟨gb, 0, none⟩) n c) n (setN (upN K) i (upN K j)) kv (updO (updO (cyFam kv K1) i Ob.none) j Ob.none) ++ [Ob.ints (.slice ai (K i).length ci) (K i), Ob.row 0 3 1 (.slice (some ⟨gj, 0, none⟩) (K j).length cj) (K j).length (cellsBy intC (liftK K i j i))]) w5 := ⟨_, rfl, hs5⟩
        clear hs5
        rw [← hUlen] at hs6
        have hA := adopt_cy hs6 ⟨hc1, hc2⟩ hgp hn i hi 1 (liftK K i j i) _ cj rfl hUin
        rw [hUlen] at hA
        have hUh := Lib.hid hUlen
        clear hs6
        have hB := fun wx (h : Stage F w (cyParts p (.slice (some ⟨gb, 0, none⟩) n c) n (adoptU (setN (upN K) i (upN K j)) (liftK K i j i) i) (setN kv i (.slice (some ⟨gj, 0, none⟩) (liftK K i j i).length cj)) (updO (updO (cyFam kv K1) i Ob.none) j Ob.none) ++ [Ob.ints (.slice ai (K i).length ci) (K i), Ob.ints (.slice (some ⟨gj, 0, none⟩) (liftK K i j i).length cj) (liftK K i j i)]) wx) => adopt_cy h ⟨hc1, hc2⟩ hgp hn j hj 0 (K i) _ ci rfl hLin
        clear hset hUlen hUin hLin
        generalize liftK K i j i = U at *
        generalize hli : (K i).length = li at *
        replace hli := Lib.hid hli
        go_wp2_with fail
        try rw [hw5]
        clear hw5 u1 f1
        refine hA.mono ?_
        rintro e w6 ⟨rfl, hs7⟩
        clear hA
        replace hB := hB w6 (by unfold Ob.ints; rw [hUh.out]; exact hs7)
        try rw [hUh.out] at hB
        go_wp2_with fail
        refine hB.mono ?_
        rintro e w7 ⟨rfl, hs8⟩
        have hs9 := hfin w7 hs8
        clear hfin hs7 hs8 hB
        go_wp2_with fail
        go_ret
        exact ⟨rfl, hs9⟩
/-- Lift. -/
theorem Stage.liftCall {l : List Ob} (hs : Stage F0 W0 ([Ob.forest p n K] ++ l) w) (x : Int) : Calls Tryz.prog 115 #[.pointer (some ⟨p, 0, none⟩), .int .i64 x] w fun e w' => e = .returned (.bool (upK K x).isSome) ∧ Stage F0 W0 ([Ob.forest p n (liftF K x)] ++ l) w' :=
  hs.frame fun _ _ h => lift_one x h
end
end Go.Proofs.YtmoolbmbdnkooaaGreat
