/- Merged of CarryAlive, CarrySplit. -/
import Derived.Test.YtbllfokagedpeaaCarryAliveMath
import Derived.Test.YtbllfokagedpeaaCarryLink
namespace Go.Proofs.Ytbllfokagedpeaa
open Go.RowKit Go.Sort

theorem nil_keys (o : Nat) (c : Nat) (rest : List Ob) : KeysIn o none c [] rest := fun {_ _ _ _} _ _ hi => absurd hi (Nat.not_lt_zero _)
theorem ltK_nil (x y : Int) : ltK (keyL []) x y = decide (x < y) := by
  have h : ∀ z, keyL [] z = 0 := fun z => by unfold keyL; split <;> rfl
  unfold ltK
  rw [h, h]
  simp
set_option maxRecDepth 100000 in
set_option maxHeartbeats 4000000 in
theorem carryAlive_any (w : World) : Calls Try.prog 8 #[] w fun e w' => e = .returned (.bool true) ∧ Below w.heap.size w w' := by
  have hlt := ltK_asym (keyL [])
  go_enter Try.func8, Try.ntmps8
  go_wp2_with fail
  refine ((Stage.start w).newForest 4 (by decide)).mono ?_
  rintro e w1 ⟨p, rfl, hs⟩
  replace hs : Stage (fun _ => False) w [Ob.forest p 4 (fun _ => [])] w1 := hs
  obtain ⟨w2, hw2, hs2⟩ : ∃ w2, ((w1.alloc (.cells #[.slice none 0 0, .int .i64 0] 47)).alloc (.cells #[.int .i64 0] 3)).alloc (.cells #[.int .i64 1] 3) = w2 ∧ Stage (fun _ => False) w [Ob.forest p 4 (fun _ => []), Ob.box w1.heap.size #[.slice none 0 0, .int .i64 0] 47, Ob.ints (.slice (some ⟨w1.heap.size + 1, 0, none⟩) 1 1) [0], Ob.ints (.slice (some ⟨w1.heap.size + 1 + 1, 0, none⟩) 1 1) [1]] w2 :=
    ⟨_, rfl, ((hs.alloc _ _).newRow' 3 1 1 #[.int .i64 0] rfl (by decide) (size_alloc _ _)).newRow' 3 1 1 #[.int .i64 1] rfl (by decide) (by rw [size_alloc, size_alloc])⟩
  clear hs
  have t0 : ∀ x, topK (fun _ => []) x := fun x p h => by cases h
  have i0 : ∀ x : Int, 0 ≤ x → x < 4 → inN 4 x := fun x h1 h2 => ⟨h1, h2⟩
  have I0 := inv_newK 4
  have hC1 := lesser_carry (ks := []) (c := 0) (la := [0]) (lb := [1]) (a1 := some ⟨w1.heap.size + 1, 0, none⟩) (b1 := some ⟨w1.heap.size + 1 + 1, 0, none⟩) (ca := 1) (cb := 1) ⟨by decide, by decide⟩ (nil_keys _ _ _) (by decide) (by decide) (fun h => ⟨h.intsAtI 1 rfl, h.intsAtI 2 rfl⟩) hs2 (row_one (i0 0 (by omega) (by omega)) (t0 0)) (row_one (i0 1 (by omega) (by omega)) (t0 1)) (by simp)
  replace hC1 : Calls Try.prog 18 #[.pointer (some ⟨p, 0, none⟩), .iface 45 (.pointer (some ⟨w1.heap.size, 0, none⟩)), .slice (some ⟨w1.heap.size + 1, 0, none⟩) 1 1, .slice (some ⟨w1.heap.size + 1 + 1, 0, none⟩) 1 1] w2 _ := hC1
  go_wp2_with fail
  try rw [hw2]
  clear hw2 hs2
  generalize w1.heap.size = o at *
  refine hC1.mono ?_
  rintro e w3 ⟨z1, m1, cz1, K1, s1, k1, r1, rfl, ⟨r', hl, hp⟩, hr, _, hs3⟩
  clear hC1
  obtain ⟨rfl, rfl, _⟩ | ⟨_, _, h9⟩ := carry_pair (by rfl) hl hp hr
  rotate_left
  · exact absurd (by rw [ltK_nil]; rfl) h9
  clear hl hp hr
  obtain ⟨_, _, e9, _, _⟩ := hs3.intsForm 1 rfl
  cases e9
  have I1 : CInv 4 (linkK (fun _ => []) 0 1) := (hs3.forestInv 0 rfl).1
  have t1 : ∀ x, x ≠ 1 → topK (linkK (fun _ => []) 0 1) x := fun x h => top_link.2 ⟨t0 x, h⟩
  obtain ⟨w4, hw4, hs4⟩ : ∃ w4, (w3.alloc (.cells #[.int .i64 2] 3)).alloc (.cells #[.int .i64 3] 3) = w4 ∧ Stage (fun _ => False) w [Ob.forest p 4 (linkK (fun _ => []) 0 1), Ob.box o #[.slice none 0 0, .int .i64 s1] 47, Ob.ints (.slice z1 1 cz1) [0], Ob.ints (.slice (some ⟨w3.heap.size, 0, none⟩) 1 1) [2], Ob.ints (.slice (some ⟨w3.heap.size + 1, 0, none⟩) 1 1) [3]] w4 :=
    ⟨_, rfl, ((hs3.newRow' 3 1 1 #[.int .i64 2] rfl (by decide) rfl).newRow' 3 1 1 #[.int .i64 3] rfl (by decide) (size_alloc _ _)).select [0, 2, 1, 5, 6] (by decide) rfl⟩
  clear hs3
  have hC2 := lesser_carry (ks := []) (c := 0) (la := [2]) (lb := [3]) (a1 := some ⟨w3.heap.size, 0, none⟩) (b1 := some ⟨w3.heap.size + 1, 0, none⟩) (ca := 1) (cb := 1) ⟨by decide, by decide⟩ (nil_keys _ _ _) (by decide) (by decide) (fun h => ⟨h.intsAtI 2 rfl, h.intsAtI 3 rfl⟩) hs4 (row_one (i0 2 (by omega) (by omega)) (t1 2 (by omega))) (row_one (i0 3 (by omega) (by omega)) (t1 3 (by omega))) (by simp)
  replace hC2 : Calls Try.prog 18 #[.pointer (some ⟨p, 0, none⟩), .iface 45 (.pointer (some ⟨o, 0, none⟩)), .slice (some ⟨w3.heap.size, 0, none⟩) 1 1, .slice (some ⟨w3.heap.size + 1, 0, none⟩) 1 1] w4 _ := hC2
  go_wp2_with fail
  try rw [hw4]
  clear hw4 hs4
  generalize w3.heap.size = o3 at *
  refine hC2.mono ?_
  rintro e w5 ⟨z2, m2, cz2, K2, s2, k2, r2, rfl, ⟨r', hl, hp⟩, hr, _, hs5⟩
  clear hC2
  obtain ⟨rfl, rfl, _⟩ | ⟨_, _, h9⟩ := carry_pair (by rfl) hl hp hr
  rotate_left
  · exact absurd (by rw [ltK_nil]; rfl) h9
  clear hl hp hr
  obtain ⟨_, _, e9, _, _⟩ := hs5.intsForm 1 rfl
  cases e9
  have t2 : ∀ x, x ≠ 1 → x ≠ 3 → topK (linkK (linkK (fun _ => []) 0 1) 2 3) x := fun x h h2 => top_link.2 ⟨t1 x h, h2⟩
  replace hs5 : Stage (fun _ => False) w [Ob.forest p 4 (linkK (linkK (fun _ => []) 0 1) 2 3), Ob.box o #[.slice none 0 0, .int .i64 s2] 47, Ob.ints (.slice z1 1 cz1) [0], Ob.ints (.slice z2 1 cz2) [2]] w5 := hs5.select [0, 2, 3, 1] (by decide) rfl
  obtain ⟨_, _, e9, c11, c12⟩ := hs5.intsForm 2 rfl
  cases e9
  obtain ⟨_, _, e9, c21, c22⟩ := hs5.intsForm 3 rfl
  cases e9
  have hC3 := lesser_carry (ks := []) (c := 0) (la := [0]) (lb := [2]) (a1 := z1) (b1 := z2) (ca := cz1) (cb := cz2) ⟨by decide, by decide⟩ (nil_keys _ _ _) ⟨c11, c12⟩ ⟨c21, c22⟩ (fun h => ⟨h.intsAtI 1 rfl, h.intsAtI 2 rfl⟩) hs5 (row_one (i0 0 (by omega) (by omega)) (t2 0 (by omega) (by omega))) (row_one (i0 2 (by omega) (by omega)) (t2 2 (by omega) (by omega))) (by simp)
  replace hC3 : Calls Try.prog 18 #[.pointer (some ⟨p, 0, none⟩), .iface 45 (.pointer (some ⟨o, 0, none⟩)), .slice z1 1 cz1, .slice z2 1 cz2] w5 _ := hC3
  clear hs5 t0 i0 I0 I1 t1 t2 hlt
  go_wp2_with fail
  refine hC3.mono ?_
  rintro e w6 ⟨z3, m3, cz3, K3, s3, k3, r3, rfl, ⟨r', hl, hp⟩, hr, _, hs6⟩
  clear hC3
  obtain ⟨rfl, rfl, _⟩ | ⟨_, _, h9⟩ := carry_pair (by simp [linkK]) hl hp hr
  rotate_left
  · exact absurd (by rw [ltK_nil]; rfl) h9
  clear hl hp hr
  obtain ⟨_, _, e9, c31, c32⟩ := hs6.intsForm 1 rfl
  cases e9
  obtain ⟨K4, hK4, hk0⟩ : ∃ K4, linkK (linkK (linkK (fun _ => []) 0 1) 2 3) 0 2 = K4 ∧ K4 0 = [1, 2] := ⟨_, rfl, links_3⟩
  rw [hK4] at hs6
  clear hK4
  obtain ⟨w7, hw7, hs7⟩ : ∃ w7, w6.alloc (.cells #[.int .i64 0] 3) = w7 ∧ Stage (fun _ => False) w [Ob.forest p 4 K4, Ob.ints (.slice z3 1 cz3) [0], Ob.ints (.slice (some ⟨w6.heap.size, 0, none⟩) 1 1) [0]] w7 := ⟨_, rfl, (hs6.newRow' 3 1 1 #[.int .i64 0] rfl (by decide) rfl).select [0, 1, 5] (by decide) rfl⟩
  clear hs6
  have hS := same_at [0] [0] z3 (some ⟨w6.heap.size, 0, none⟩) cz3 1 ⟨c31, c32⟩ (by decide) (hs7.intsAtI 1 rfl) (hs7.intsAtI 2 rfl)
  rw [decide_eq_true rfl] at hS
  replace hS : Calls Try.prog 20 #[.slice z3 1 cz3, .slice (some ⟨w6.heap.size, 0, none⟩) 1 1] w7 _ := hS
  go_wp2_with fail
  try rw [hw7]
  clear hw7
  generalize w6.heap.size = o6 at *
  refine hS.mono ?_
  rintro e w8 ⟨rfl, hb⟩
  have hs8 := (hs7.later hb).take 1
  clear hS hb hs7
  replace hs8 : Stage (fun _ => False) w [Ob.forest p 4 K4] w8 := hs8
  have hD := hs8.ask 0 rfl (fun _ ho => deg_f ho 0)
  have hKd := hs8.newInts ((hs8.get (i := 0) rfl).elim fun _ ho => kids_f ho 0)
  rw [hk0] at hD hKd
  replace hD : Calls Try.prog 11 #[.pointer (some ⟨p, 0, none⟩), .int .i64 0] w8 fun e w' => e = .returned (.int .i64 2) ∧ w8 = w' := hD
  clear hk0
  go_wp2_with fail
  refine hD.mono ?_
  rintro e w9 ⟨rfl, rfl⟩
  clear hD
  go_wp2_with fail
  refine hKd.mono ?_
  rintro e w9 ⟨v9, rfl, hs9⟩
  clear hKd hs8
  obtain ⟨a9, c9, rfl, c91, c92⟩ := hs9.intsForm 1 rfl
  obtain ⟨w10, hw10, hs10⟩ : ∃ w10, w9.alloc (.cells #[.int .i64 1, .int .i64 2] 3) = w10 ∧ Stage (fun _ => False) w [Ob.forest p 4 K4, Ob.ints (.slice a9 2 c9) [1, 2], Ob.ints (.slice (some ⟨w9.heap.size, 0, none⟩) 2 2) [1, 2]] w10 := ⟨_, rfl, hs9.newRow' 3 1 2 #[.int .i64 1, .int .i64 2] rfl (by decide) rfl⟩
  have hS := same_at [1, 2] [1, 2] a9 (some ⟨w9.heap.size, 0, none⟩) c9 2 ⟨c91, c92⟩ (by decide) (hs10.intsAtI 1 rfl) (hs10.intsAtI 2 rfl)
  rw [decide_eq_true rfl] at hS
  replace hS : Calls Try.prog 20 #[.slice a9 2 c9, .slice (some ⟨w9.heap.size, 0, none⟩) 2 2] w10 _ := hS
  replace hs9 := hs10.below
  clear hs10
  go_wp2_with fail
  try rw [hw10]
  clear hw10
  refine hS.mono ?_
  rintro e w11 ⟨rfl, hb⟩
  have hb9 := below_then hs9 hb hs9.size
  clear hS hb
  go_wp2_with fail
  go_ret
  exact ⟨rfl, hb9⟩
end Go.Proofs.Ytbllfokagedpeaa

namespace Go.Proofs.Ytbllfokagedpeaa
open Go.RowKit Go.Sort

section
variable {F0 : Nat → Prop} {W0 w : World} {p n : Nat} {K : Int → List Int} {q : List Ob} {F : Nat → Prop}
theorem root_f (h : (Ob.forest p n K).holds w F) (x : Int) : Calls Try.prog 26 #[.pointer (some ⟨p, 0, none⟩), .int .i64 x] w fun e w' => e = .returned (.bool (rootB n K x)) ∧ w = w' := by
  obtain ⟨v, kv, I, hn, hg⟩ := h
  exact cy_root (q := []) (Ob.group.open hg) I hn x
set_option maxHeartbeats 1000000 in
theorem split_one (x : Int) (hs : Stage F w [Ob.forest p n K] w) : Calls Try.prog 31 #[.pointer (some ⟨p, 0, none⟩), .int .i64 x] w fun e w' => ∃ v, e = .returned v ∧ Stage F w [Ob.forest p n (splitF n K x), Ob.ints v (splitL n K x)] w' := by
  have hR := hs.ask 0 rfl (fun _ ho => root_f ho x)
  cases h1 : rootB n K x
  · have e1 : splitF n K x = K := by simp [splitF, h1]
    have e2 : splitL n K x = [] := by simp [splitL, h1]
    rw [e1, e2]
    rw [h1] at hR
    have hl := hs.nilRow 0 3 1
    clear hs
    go_enter Try.func31, Try.ntmps31
    go_wp2_with fail
    refine hR.mono ?_
    rintro e w1 ⟨rfl, rfl⟩
    go_wp2_with fail
    go_ret
    exact ⟨_, rfl, hl⟩
  · have e1 : splitF n K x = splitK K x := by simp [splitF, h1]
    have e2 : splitL n K x = K x := by simp [splitL, h1]
    rw [e1, e2]
    rw [h1] at hR
    obtain ⟨r1, r2⟩ := rootB_iff.1 h1
    obtain ⟨v, kv, I, hn, hs1⟩ := forest_open (l := []) hs
    have hK := cy_kids (q := []) hs1 I hn x
    obtain ⟨i, rfl⟩ : ∃ i : Nat, x = i := ⟨x.toNat, by have := r1.1; omega⟩
    have hi : i < n := by have := r1.2; omega
    have hii : (i : Int) < n := by omega
    obtain ⟨gb, c, rfl, hc1, hc2, hgp, hgl, _, _⟩ := cy_row (q := []) hs1 (by omega)
    have hl : ∀ z ∈ K i, inN n z := fun z hz => (I.rng _ _ hz).2
    have hup : upN (splitK K i) = adoptU (upN K) (K i) (-1) := by
      funext z
      unfold upN adoptU
      rw [up_split I r2]
      split <;> rfl
    have hfin : ∀ w' v1, Stage F w (cyParts p (.slice (some ⟨gb, 0, none⟩) n c) n (adoptU (upN K) (K i) (-1)) (setN kv i (.slice none 0 0)) (cyFam kv K) ++ [Ob.ints v1 (K i)]) w' → Stage F w [Ob.forest p n (splitK K i), Ob.ints v1 (K i)] w' := fun w' v1 h => by
      have h2 := cy_pull h i
      have h3 : Stage F w (cyParts p (.slice (some ⟨gb, 0, none⟩) n c) n (adoptU (upN K) (K i) (-1)) (setN kv i (.slice none 0 0)) (updO (cyFam kv K) i Ob.none) ++ ([Ob.ints v1 (K i)] ++ [Ob.ints (.slice none 0 0) []])) w' := (h2.take 4).nilRow 0 3 1
      have h4 := cy_push h3 i (fam_off _ _ _)
      rw [fam_push, ← split_set, ← hup] at h4
      have h5 := forest_shut (l := [Ob.ints v1 (K i)]) (h4.select [3, 0, 1, 2] (by decide) rfl) (split_inv I r2) hn
      exact h5.select [1, 0] (by decide) rfl
    have hK2 := hs1.newInts hK
    rw [← adopt_nil (upN K) (-1)] at hK2
    clear hs hs1 hK hup r2 h1 e1 e2
    go_enter Try.func31, Try.ntmps31
    go_wp2_with fail
    refine hR.mono ?_
    rintro e w1 ⟨rfl, rfl⟩
    go_wp2_with fail
    refine hK2.mono ?_
    rintro e w1 ⟨v1, rfl, hs⟩
    replace hs : Stage F w (cyParts p (.slice (some ⟨gb, 0, none⟩) n c) n (adoptU (upN K) ((K i).take 0) (-1)) kv (cyFam kv K) ++ [Ob.ints v1 (K i)]) w1 := hs
    clear hK2 hR
    obtain ⟨a1, c1, rfl, h11, h12⟩ := hs.intsForm 3 rfl
    generalize hKl : K i = l at *
    replace hKl := Lib.hid hKl
    go_wp2_with fail
    go_loopw [17] (fun z wr => ∃ k : Nat, z = .int .i64 k ∧ k ≤ l.length ∧ Stage F w (cyParts p (.slice (some ⟨gb, 0, none⟩) n c) n (adoptU (upN K) (l.take k) (-1)) kv (cyFam kv K) ++ [Ob.ints (.slice a1 l.length c1) l]) wr) (fun z _ => l.length - (intOf z).toNat)
    case atStart => exact ⟨0, rfl, Nat.zero_le _, hs⟩
    case round =>
      clear hs
      obtain ⟨k, rfl, hk, hs⟩ := hrel
      have c0 := cy_c0 hs
      by_cases hkl : k < l.length
      · have hki : (k : Int) < l.length := by omega
        obtain ⟨gl, cl', hv, _, _, _, hcell, _⟩ := hs.intsAt 3 rfl (by omega)
        cases hv
        have e0 := hcell k hkl
        have hin := hl _ (mem_getD' l k 0 hkl)
        obtain ⟨y, hy⟩ : ∃ y : Nat, l.getD k 0 = y := ⟨(l.getD k 0).toNat, by have := hin.1; omega⟩
        have hyn : y < n := by rw [hy] at hin; have := hin.2; omega
        have hyi : (y : Int) < n := by omega
        rw [hy] at e0
        have u0 := (cy_cells hs hyn).1
        have f0 := cy_free hs (y * 2)
        have hs3 := cy_up_set hs hyn (-1)
        rw [adopt_step _ l _ k y hkl hy] at hs3
        generalize adoptU (upN K) (l.take k) (-1) y = z0 at *
        clear hs hcell hin hfin
        generalize l.length = m at *
        go_wp2_with fail
        go_roundw
        case rel => exact ⟨k + 1, by go_num, by omega, hs3⟩
        case measure => simp [intOf]; omega
      · obtain rfl : k = l.length := by omega
        rw [List.take_length] at hs
        have u0 := (cy_cells hs hi).2
        have f0 := cy_free hs (i * 2 + 1)
        have hs4 := hfin _ _ (cy_kv_set hs hi (.slice none 0 0))
        clear hl hs hfin
        go_wp2_with fail
        go_ret
        exact ⟨_, rfl, by rw [hKl.out]; exact hs4⟩
/-- Split. -/
theorem Stage.splitCall (hs : Stage F0 W0 ([Ob.forest p n K] ++ q) w) (x : Int) : Calls Try.prog 31 #[.pointer (some ⟨p, 0, none⟩), .int .i64 x] w fun e w' => ∃ v, e = .returned v ∧ Stage F0 W0 ([Ob.forest p n (splitF n K x), Ob.ints v (splitL n K x)] ++ q) w' := 
  (hs.frameEx (Post := fun (v : Value) e => e = .returned v) (l' := fun v => [Ob.forest p n (splitF n K x), Ob.ints v (splitL n K x)]) fun _ _ h => split_one x h).mono fun _ _ ⟨v, he, h⟩ => ⟨v, he, h⟩
end
end Go.Proofs.Ytbllfokagedpeaa
