/- What the document's functions return: Spine; and those that make other trees: Hang, Cut, Turn. (Written by gen_ref3.py.) -/
import Derived.Test.YtkagchnhjjcgbaaSpineRef2
import Derived.Deep.RegionLaw
import Derived.Deep.RegionHeld3
namespace Go.Proofs.Ytkagchnhjjcgbaa
open Go.RowKit Go.Sort

theorem info_hung : (Try.prog.info? 65).map (fun i => (i.zero, i.size, i.bytes)) = some (some (.agg #[.int .i64 0, .int .i64 0, .bool false]), 3, 24) := by kernel_rfl
theorem hgs_one (l : List Hg) : ∀ u ∈ cellsBy hgC l, u.oneCell' = true := by
  intro u hu
  unfold cellsBy at hu
  rw [List.mem_flatMap] at hu
  obtain ⟨p, _, hp⟩ := hu
  simp only [hgC, List.mem_cons, List.not_mem_nil, or_false] at hp
  rcases hp with rfl | rfl | rfl <;> rfl
/-- Behind a call that makes other trees: v' is their list; what it lies in is old, or new. -/
def DocPost (w : World) (n : Nat) (v : Value) (L' : List Hg) (res : Value → Value) (e : Ending) (w' : World) : Prop :=
  ∃ v', e = .returned (res (.agg #[.int .i64 n, v'])) ∧ Below w.heap.size w w' ∧ DocAt w' v' L' ∧ ∀ k, rowF v' k → rowF v k ∨ w.heap.size ≤ k
abbrev nilV : Value := .slice none 0 0
theorem hang_rng {n : Nat} {L : List Hg} (I : HInv n L) : L.length ≤ n := by
  have h := nodup_int n (L.map (·.x)) (by
    rw [List.nodup_iff_pairwise_ne, List.pairwise_map]
    exact I.xs) (fun y hy => by
      obtain ⟨g, hg, rfl⟩ := List.mem_map.1 hy
      exact (I.rng g hg).2)
  simpa using h
section
variable {w : World} {v : Value} {n : Nat} {L : List Hg}
set_option maxHeartbeats 1000000 in
theorem rspine_any (I : HInv n L) (hn : n ≤ 65536) (x : Int) (h : DocAt w v L) : Calls Try.prog 19 #[.agg #[.int .i64 n, v], .int .i64 x] w (ListPost w (sideI n L x)) := by
  have hs0 := (Stage.start w).alloc #[.int .i64 n, v] docT
  have hK := fun wr (hb : Below w.heap.size w wr) y => rkid_any n y true (h.later hb)
  obtain ⟨w0, hw0, hs⟩ : ∃ w0, (w.alloc (.cells #[.int .i64 n, v] docT)).alloc (.cells #[] 3) = w0 ∧ Stage (fun _ => False) w [Ob.box w.heap.size #[.int .i64 n, v] docT, Ob.ints (.slice (some ⟨w.heap.size + 1, 0, none⟩) 0 0) []] w0 :=
    ⟨_, rfl, hs0.emptyRow' 3 1 (size_alloc _ _)⟩
  clear hs0
  have hH := fun wr y => rhas_any n y v wr
  have hle : (sideI n L x).length ≤ n := by
    unfold sideI
    split
    · exact side_le L n x
    · simp
  have hyes : ∀ y, inN n y → sideI n L y = y :: (kidL L y true).elim [] (sideI n L) := fun y hy => by
    have h1 : sideI n L y = sideL L n y := by unfold sideI; rw [has_in.2 hy]; rfl
    rw [h1, side_eq I hy]
    congr 1
    cases e : kidL L y true with
    | none => rfl
    | some c => show sideL L n c = sideI n L c; unfold sideI; rw [has_in.2 (kid_in I e).1]; rfl
  have hno : ∀ y, ¬ inN n y → sideI n L y = [] := fun y hy => by unfold sideI; rw [sp_has_no hy]; rfl
  obtain ⟨T, hT⟩ : ∃ T, T = sideI n L x := ⟨_, rfl⟩
  rw [← hT] at hle ⊢
  have hT0 := Lib.hid (show T = [] ++ sideI n L x from hT)
  clear hT I h
  generalize sideI n L = side at *
  go_enter Try.func19, Try.ntmps19
  go_wp2_with fail
  clear hw0
  go_loopw [1, 5, 6] (fun y s i wr => ∃ (j : Nat) (y0 : Int) (l : List Int) (vs : Value), y = .int .i64 y0 ∧ i = .int .i64 j ∧ s = vs ∧ j ≤ n ∧ l.length = j ∧ T = l ++ side y0 ∧ Stage (fun _ => False) w [Ob.box w.heap.size #[.int .i64 n, v] docT, Ob.ints vs l] wr) (fun _ _ i _ => n - (intOf i).toNat)
  case atStart => exact ⟨0, x, [], _, rfl, rfl, rfl, Nat.zero_le _, rfl, hT0.out, hs⟩
  case round =>
    clear hs hT0
    obtain ⟨j, y, l, vs, rfl, rfl, rfl, hj, hl, hT, hs⟩ := hrel
    have k0 := hs.cell 0 rfl (o := 0) rfl
    have k1 := hs.cell 0 rfl (o := 1) rfl
    by_cases hjn : j < n
    · have hji : (j : Int) < n := by omega
      have hH1 := hH wr y
      by_cases hy : inN n y
      · rw [has_in.2 hy] at hH1
        obtain ⟨a1, c1, rfl, _, _⟩ := hs.intsForm 1 rfl
        rw [hyes y hy] at hT
        have hT2 := Lib.hid (show T = (l ++ [y]) ++ (kidL L y true).elim [] side by rw [hT]; simp)
        clear hT hyes hno hH
        rw [hl] at hs ⊢
        go_wp2_with fail
        refine hH1.mono ?_
        rintro e w1 ⟨rfl, hb⟩
        replace hs := hs.later hb
        clear hb k0 k1 hH1
        go_wp2_with (at_builtin; refine hs.wp_appendInt (x := y) 1 (by first | rfl | (rw [← hl]; rfl)) rfl rfl _ _ 29 rfl Try.underlying29 sinfo_int rfl rfl (by omega) ?_)
        intro v2 w2 hs2
        replace hs2 : Stage (fun _ => False) w [Ob.box w.heap.size #[.int .i64 n, v] docT, Ob.ints v2 (l ++ [y])] w2 := hs2
        have hK2 := hK w2 hs2.below y
        have k0 := hs2.cell 0 rfl (o := 0) rfl
        have k1 := hs2.cell 0 rfl (o := 1) rfl
        have hl2 : (l ++ [y]).length = j + 1 := by simp [hl]
        have hf2 := hs2.intsForm 1 rfl
        rw [hl2] at hf2
        obtain ⟨a2, c2, rfl, _, _⟩ := hf2
        clear hs hK
        generalize kidL L y true = o at *
        go_wp2_with fail
        refine hK2.mono ?_
        rintro e w3 ⟨rfl, hb⟩
        replace hs2 := hs2.later hb
        clear hb k0 k1 hK2
        cases o with
        | none =>
          have hl := list_close (hs2.select [1] (by decide) rfl)
          have hT3 : T = l ++ [y] := by rw [hT2.out]; simp
          rw [← hT3] at hl
          clear hs2 hT2 hT3
          go_wp2_with fail
          go_ret
          exact hl
        | some c =>
          go_wp2_with fail
          go_roundw
          case rel => exact ⟨j + 1, c, l ++ [y], _, rfl, by go_num, rfl, by omega, hl2, hT2.out, hs2⟩
          case measure => simp [intOf]; omega
      · rw [sp_has_no hy] at hH1
        rw [hno y hy, List.append_nil] at hT
        subst hT
        obtain ⟨a1, c1, rfl, _, _⟩ := hs.intsForm 1 rfl
        clear hyes hno hH
        go_wp2_with fail
        refine hH1.mono ?_
        rintro e w1 ⟨rfl, hb⟩
        have hC := list_close ((hs.later hb).select [1] (by decide) rfl)
        rw [hl] at hC
        clear hb k0 k1 hH1 hs
        go_wp2_with fail
        go_ret
        exact hC
    · have hji : ¬ (j : Int) < n := by omega
      have hy : ¬ inN n y := fun hy => by
        rw [hT, hyes y hy] at hle
        simp at hle
        omega
      rw [hno y hy, List.append_nil] at hT
      subst hT
      have hl := list_close (hs.select [1] (by decide) rfl)
      clear hyes hno hH hK
      go_wp2_with fail
      go_ret
      exact hl
theorem nope {p x : Int} {r : Bool} (e : hangB n L p x r = false) : hangL n L p x r = L := by simp [hangL, e]
set_option maxHeartbeats 2000000 in
theorem rhang_any (hL : L.length ≤ 65535) (p x : Int) (r : Bool) (h : DocAt w v L) : Calls Try.prog 27 #[.agg #[.int .i64 n, v], .int .i64 p, .int .i64 x, .bool r] w (DocPost w n v (hangL n L p x r) (fun u => .tuple #[u, .bool (hangB n L p x r)])) := by
  obtain ⟨a9, c9, hv, b91, b92⟩ := h.form
  obtain ⟨n9, hn9⟩ : ∃ n9, L.length = n9 := ⟨_, rfl⟩
  rw [hn9] at hv b91 hL
  subst hv
  obtain ⟨V, hV, hs⟩ : ∃ V, (w.alloc (.cells #[.int .i64 n, .slice a9 n9 c9] docT)).alloc (.cells #[.int .i64 0, nilV] docT) = V ∧ Stage (fun _ => False) w [Ob.box w.heap.size #[.int .i64 n, .slice a9 n9 c9] docT, Ob.box (w.heap.size + 1) #[.int .i64 0, nilV] docT] V :=
    ⟨_, rfl, ((Stage.start w).alloc _ _).alloc' _ _ (size_alloc _ _)⟩
  have k0 := hs.cell 0 rfl (o := 0) rfl
  have k1 := hs.cell 0 rfl (o := 1) rfl
  have hU := rup_any n x (h.later hs.below)
  have hK := fun wr (hb : Below w.heap.size w wr) => rkid_any n p r (h.later hb)
  cases h1 : hasN n p
  · have e1 : hangB n L p x r = false := by simp [hangB, h1]
    rw [nope e1, e1]
    go_enter Try.func27, Try.ntmps27
    go_wp2_with fail
    clear hV k0 k1
    refine hU.mono ?_
    rintro e w1 ⟨rfl, hb⟩
    replace hs := hs.later hb
    have k0 := hs.cell 0 rfl (o := 0) rfl
    have k1 := hs.cell 0 rfl (o := 1) rfl
    have hK := hK _ hs.below
    clear hU hb
    go_wp2_with fail
    clear k0 k1
    refine hK.mono ?_
    rintro e w2 ⟨rfl, hb⟩
    replace hs := hs.later hb
    have k0 := hs.cell 0 rfl (o := 0) rfl
    have k1 := hs.cell 0 rfl (o := 1) rfl
    have hP := rhas_any n p (.slice a9 n9 c9) w2
    rw [h1] at hP
    clear hK hb
    go_wp2_with fail
    clear k0 k1
    refine hP.mono ?_
    rintro e w3 ⟨rfl, hb⟩
    replace hs := hs.later hb
    have k0 := hs.cell 0 rfl (o := 0) rfl
    have k1 := hs.cell 0 rfl (o := 1) rfl
    clear hP hb
    have z0 := hs.cell 1 rfl (o := 0) rfl
    have z1 := hs.cell 1 rfl (o := 1) rfl
    have g0 := hs.free 1 rfl 0
    have g1 := hs.free 1 rfl 1
    have hs3 := (hs.store 1 rfl 0 (.int .i64 n)).store 1 rfl 1 (.slice a9 n9 c9)
    go_wp2_with fail
    exact bodyPost_ret (v := .tuple #[.agg #[.int .i64 n, .slice a9 n9 c9], .bool false]) (by simp [results, Try.results27, go_sem, z0, z1]) rfl ⟨_, rfl, hs3.below, h.later hs3.below, fun k hk => Or.inl hk⟩
  cases h2 : hasN n x
  · have e1 : hangB n L p x r = false := by simp [hangB, h2]
    rw [nope e1, e1]
    go_enter Try.func27, Try.ntmps27
    go_wp2_with fail
    clear hV k0 k1
    refine hU.mono ?_
    rintro e w1 ⟨rfl, hb⟩
    replace hs := hs.later hb
    have k0 := hs.cell 0 rfl (o := 0) rfl
    have k1 := hs.cell 0 rfl (o := 1) rfl
    have hK := hK _ hs.below
    clear hU hb
    go_wp2_with fail
    clear k0 k1
    refine hK.mono ?_
    rintro e w2 ⟨rfl, hb⟩
    replace hs := hs.later hb
    have k0 := hs.cell 0 rfl (o := 0) rfl
    have k1 := hs.cell 0 rfl (o := 1) rfl
    have hP := rhas_any n p (.slice a9 n9 c9) w2
    rw [h1] at hP
    clear hK hb
    go_wp2_with fail
    clear k0 k1
    refine hP.mono ?_
    rintro e w3 ⟨rfl, hb⟩
    replace hs := hs.later hb
    have k0 := hs.cell 0 rfl (o := 0) rfl
    have k1 := hs.cell 0 rfl (o := 1) rfl
    clear hP hb
    have hX := rhas_any n x (.slice a9 n9 c9) w3
    rw [h2] at hX
    go_wp2_with fail
    clear k0 k1
    refine hX.mono ?_
    rintro e w4 ⟨rfl, hb⟩
    replace hs := hs.later hb
    have k0 := hs.cell 0 rfl (o := 0) rfl
    have k1 := hs.cell 0 rfl (o := 1) rfl
    clear hX hb
    have z0 := hs.cell 1 rfl (o := 0) rfl
    have z1 := hs.cell 1 rfl (o := 1) rfl
    have g0 := hs.free 1 rfl 0
    have g1 := hs.free 1 rfl 1
    have hs3 := (hs.store 1 rfl 0 (.int .i64 n)).store 1 rfl 1 (.slice a9 n9 c9)
    go_wp2_with fail
    exact bodyPost_ret (v := .tuple #[.agg #[.int .i64 n, .slice a9 n9 c9], .bool false]) (by simp [results, Try.results27, go_sem, z0, z1]) rfl ⟨_, rfl, hs3.below, h.later hs3.below, fun k hk => Or.inl hk⟩
  by_cases h3 : p = x
  · have e1 : hangB n L p x r = false := by simp [hangB, h3]
    rw [nope e1, e1]
    subst h3
    go_enter Try.func27, Try.ntmps27
    go_wp2_with fail
    clear hV k0 k1
    refine hU.mono ?_
    rintro e w1 ⟨rfl, hb⟩
    replace hs := hs.later hb
    have k0 := hs.cell 0 rfl (o := 0) rfl
    have k1 := hs.cell 0 rfl (o := 1) rfl
    have hK := hK _ hs.below
    clear hU hb
    go_wp2_with fail
    clear k0 k1
    refine hK.mono ?_
    rintro e w2 ⟨rfl, hb⟩
    replace hs := hs.later hb
    have k0 := hs.cell 0 rfl (o := 0) rfl
    have k1 := hs.cell 0 rfl (o := 1) rfl
    have hP := rhas_any n p (.slice a9 n9 c9) w2
    rw [h1] at hP
    clear hK hb
    go_wp2_with fail
    clear k0 k1
    refine hP.mono ?_
    rintro e w3 ⟨rfl, hb⟩
    replace hs := hs.later hb
    have k0 := hs.cell 0 rfl (o := 0) rfl
    have k1 := hs.cell 0 rfl (o := 1) rfl
    clear hP hb
    have hX := rhas_any n p (.slice a9 n9 c9) w3
    rw [h2] at hX
    go_wp2_with fail
    clear k0 k1
    refine hX.mono ?_
    rintro e w4 ⟨rfl, hb⟩
    replace hs := hs.later hb
    have k0 := hs.cell 0 rfl (o := 0) rfl
    have k1 := hs.cell 0 rfl (o := 1) rfl
    clear hX hb
    have z0 := hs.cell 1 rfl (o := 0) rfl
    have z1 := hs.cell 1 rfl (o := 1) rfl
    have g0 := hs.free 1 rfl 0
    have g1 := hs.free 1 rfl 1
    have hs3 := (hs.store 1 rfl 0 (.int .i64 n)).store 1 rfl 1 (.slice a9 n9 c9)
    go_wp2_with fail
    exact bodyPost_ret (v := .tuple #[.agg #[.int .i64 n, .slice a9 n9 c9], .bool false]) (by simp [results, Try.results27, go_sem, z0, z1]) rfl ⟨_, rfl, hs3.below, h.later hs3.below, fun k hk => Or.inl hk⟩
  have h3' : (p == x) = false := by simpa using h3
  cases h4 : upL L x with
  | some y =>
    have e1 : hangB n L p x r = false := by simp [hangB, h4]
    rw [nope e1, e1]
    rw [h4] at hU
    go_enter Try.func27, Try.ntmps27
    go_wp2_with fail
    clear hV k0 k1
    refine hU.mono ?_
    rintro e w1 ⟨rfl, hb⟩
    replace hs := hs.later hb
    have k0 := hs.cell 0 rfl (o := 0) rfl
    have k1 := hs.cell 0 rfl (o := 1) rfl
    have hK := hK _ hs.below
    clear hU hb
    go_wp2_with fail
    clear k0 k1
    refine hK.mono ?_
    rintro e w2 ⟨rfl, hb⟩
    replace hs := hs.later hb
    have k0 := hs.cell 0 rfl (o := 0) rfl
    have k1 := hs.cell 0 rfl (o := 1) rfl
    have hP := rhas_any n p (.slice a9 n9 c9) w2
    rw [h1] at hP
    clear hK hb
    go_wp2_with fail
    clear k0 k1
    refine hP.mono ?_
    rintro e w3 ⟨rfl, hb⟩
    replace hs := hs.later hb
    have k0 := hs.cell 0 rfl (o := 0) rfl
    have k1 := hs.cell 0 rfl (o := 1) rfl
    clear hP hb
    have hX := rhas_any n x (.slice a9 n9 c9) w3
    rw [h2] at hX
    go_wp2_with fail
    clear k0 k1
    refine hX.mono ?_
    rintro e w4 ⟨rfl, hb⟩
    replace hs := hs.later hb
    have k0 := hs.cell 0 rfl (o := 0) rfl
    have k1 := hs.cell 0 rfl (o := 1) rfl
    clear hX hb
    have z0 := hs.cell 1 rfl (o := 0) rfl
    have z1 := hs.cell 1 rfl (o := 1) rfl
    have g0 := hs.free 1 rfl 0
    have g1 := hs.free 1 rfl 1
    have hs3 := (hs.store 1 rfl 0 (.int .i64 n)).store 1 rfl 1 (.slice a9 n9 c9)
    go_wp2_with fail
    exact bodyPost_ret (v := .tuple #[.agg #[.int .i64 n, .slice a9 n9 c9], .bool false]) (by simp [results, Try.results27, go_sem, z0, z1]) rfl ⟨_, rfl, hs3.below, h.later hs3.below, fun k hk => Or.inl hk⟩
  | none =>
    rw [h4] at hU
    cases h5 : kidL L p r with
    | some y =>
      have e1 : hangB n L p x r = false := by simp [hangB, h5]
      rw [nope e1, e1]
      rw [h5] at hK
      go_enter Try.func27, Try.ntmps27
      go_wp2_with fail
      clear hV k0 k1
      refine hU.mono ?_
      rintro e w1 ⟨rfl, hb⟩
      replace hs := hs.later hb
      have k0 := hs.cell 0 rfl (o := 0) rfl
      have k1 := hs.cell 0 rfl (o := 1) rfl
      have hK := hK _ hs.below
      clear hU hb
      go_wp2_with fail
      clear k0 k1
      refine hK.mono ?_
      rintro e w2 ⟨rfl, hb⟩
      replace hs := hs.later hb
      have k0 := hs.cell 0 rfl (o := 0) rfl
      have k1 := hs.cell 0 rfl (o := 1) rfl
      have hP := rhas_any n p (.slice a9 n9 c9) w2
      rw [h1] at hP
      clear hK hb
      go_wp2_with fail
      clear k0 k1
      refine hP.mono ?_
      rintro e w3 ⟨rfl, hb⟩
      replace hs := hs.later hb
      have k0 := hs.cell 0 rfl (o := 0) rfl
      have k1 := hs.cell 0 rfl (o := 1) rfl
      clear hP hb
      have hX := rhas_any n x (.slice a9 n9 c9) w3
      rw [h2] at hX
      go_wp2_with fail
      clear k0 k1
      refine hX.mono ?_
      rintro e w4 ⟨rfl, hb⟩
      replace hs := hs.later hb
      have k0 := hs.cell 0 rfl (o := 0) rfl
      have k1 := hs.cell 0 rfl (o := 1) rfl
      clear hX hb
      have z0 := hs.cell 1 rfl (o := 0) rfl
      have z1 := hs.cell 1 rfl (o := 1) rfl
      have g0 := hs.free 1 rfl 0
      have g1 := hs.free 1 rfl 1
      have hs3 := (hs.store 1 rfl 0 (.int .i64 n)).store 1 rfl 1 (.slice a9 n9 c9)
      go_wp2_with fail
      exact bodyPost_ret (v := .tuple #[.agg #[.int .i64 n, .slice a9 n9 c9], .bool false]) (by simp [results, Try.results27, go_sem, z0, z1]) rfl ⟨_, rfl, hs3.below, h.later hs3.below, fun k hk => Or.inl hk⟩
    | none =>
      have e1 : hangB n L p x r = true := by simp [hangB, h1, h2, h3, h4, h5]
      rw [show hangL n L p x r = L ++ [⟨p, x, r⟩] by simp [hangL, e1], e1]
      rw [h5] at hK
      go_enter Try.func27, Try.ntmps27
      go_wp2_with fail
      clear hV k0 k1
      refine hU.mono ?_
      rintro e w1 ⟨rfl, hb⟩
      replace hs := hs.later hb
      have k0 := hs.cell 0 rfl (o := 0) rfl
      have k1 := hs.cell 0 rfl (o := 1) rfl
      have hK := hK _ hs.below
      clear hU hb
      go_wp2_with fail
      clear k0 k1
      refine hK.mono ?_
      rintro e w2 ⟨rfl, hb⟩
      replace hs := hs.later hb
      have k0 := hs.cell 0 rfl (o := 0) rfl
      have k1 := hs.cell 0 rfl (o := 1) rfl
      have hP := rhas_any n p (.slice a9 n9 c9) w2
      rw [h1] at hP
      clear hK hb
      go_wp2_with fail
      clear k0 k1
      refine hP.mono ?_
      rintro e w3 ⟨rfl, hb⟩
      replace hs := hs.later hb
      have k0 := hs.cell 0 rfl (o := 0) rfl
      have k1 := hs.cell 0 rfl (o := 1) rfl
      clear hP hb
      have hX := rhas_any n x (.slice a9 n9 c9) w3
      rw [h2] at hX
      go_wp2_with fail
      clear k0 k1
      refine hX.mono ?_
      rintro e w4 ⟨rfl, hb⟩
      replace hs := hs.later hb
      have k0 := hs.cell 0 rfl (o := 0) rfl
      have k1 := hs.cell 0 rfl (o := 1) rfl
      clear hX hb
      clear hK h1 h2 h3 h4 h5 e1
      obtain ⟨V, hVs, hs⟩ : ∃ V, V = w4 ∧ Stage (fun _ => False) w [Ob.box w.heap.size #[.int .i64 n, .slice a9 n9 c9] docT, Ob.box (w.heap.size + 1) #[.int .i64 0, nilV] docT] V := ⟨w4, rfl, hs⟩
      subst hVs
      have l0 := hs.lt 0 rfl
      have hsA := hs.emptyRow' 65 3 (b := V.heap.size) rfl
      have hsB := hsA.alloc' #[.int .i64 p, .int .i64 x, .bool r] 65 (b := V.heap.size + 1) (size_alloc _ _)
      have hsC := ((hs.alloc #[.int .i64 p, .int .i64 x, .bool r] 65).emptyRow' 65 3 (b := V.heap.size + 1) (size_alloc _ _)).select [0, 1, 3, 2] (by decide) rfl
      have hrA := reads_own (h.later hsA.below).row
      have hrB := reads_own (h.later hsB.below).row
      have hrC := reads_own (h.later hsC.below).row
      rw [hn9] at hrA hrB hrC
      have hVs := hs.size
      go_wp2_with fail
      have hn01 : w.heap.size ≠ w.heap.size + 1 := by omega
      go_region_held3 (fun w' => w'.cell? ⟨w.heap.size, 0, none⟩ = some (.int .i64 n) ∧ w'.cell? ⟨w.heap.size, 1, none⟩ = some (.slice a9 n9 c9)) (first | exact ⟨p0, p1⟩ | exact ⟨m0, m1⟩ | simp [*, World.cell?_alloc_some, World.cell?_setCell_far])
       (first
          | (((refine Stage.step_append (v := .slice (some ⟨V.heap.size, 0, none⟩) 0 0) (l := [_, _, _]) (by exact hsA.same rfl rfl rfl rfl) 2 rfl rfl (.tmp 51) (.tmp 53) 33 rfl _ 24 Try.underlying33 info_hung rfl (by decide) (Nat.zero_le _) rfl _ n9 (cellsBy hgC L) rfl (by exact reads_same (w := V.alloc (.cells #[] 65)) rfl hrA) (hgs_one _) (by unfold maxLen; omega) (by omega) ?_); intro v1 w6 hs6 hl6; rw [Nat.zero_add, List.nil_append] at hs6; have q6 : ∀ k, rowF v1 k → w.heap.size ≤ k := fun k hk => (hl6 k hk).elim (fun h => Nat.le_trans hVs (Nat.le_of_eq (show V.heap.size = k from by simpa [rowF, Value.ownBlock] using h))) (fun h => Nat.le_trans hsA.size h); have m0 := hs6.cell 0 rfl (o := 0) rfl; have m1 := hs6.cell 0 rfl (o := 1) rfl; have ll0 := hs6.lt 0 rfl))
          | (((refine Stage.step_append (v := .slice (some ⟨V.heap.size, 0, none⟩) 0 0) (l := [_, _, _, _]) (by exact hsB.same rfl rfl rfl rfl) 2 rfl rfl (.tmp 51) (.tmp 53) 33 rfl _ 24 Try.underlying33 info_hung rfl (by decide) (Nat.zero_le _) rfl _ n9 (cellsBy hgC L) rfl (by exact reads_same (w := (V.alloc (.cells #[] 65)).alloc (.cells #[.int .i64 p, .int .i64 x, .bool r] 65)) rfl hrB) (hgs_one _) (by unfold maxLen; omega) (by omega) ?_); intro v1 w6 hs6 hl6; rw [Nat.zero_add, List.nil_append] at hs6; have q6 : ∀ k, rowF v1 k → w.heap.size ≤ k := fun k hk => (hl6 k hk).elim (fun h => Nat.le_trans hVs (Nat.le_of_eq (show V.heap.size = k from by simpa [rowF, Value.ownBlock] using h))) (fun h => Nat.le_trans hsB.size h); have m0 := hs6.cell 0 rfl (o := 0) rfl; have m1 := hs6.cell 0 rfl (o := 1) rfl; have ll0 := hs6.lt 0 rfl))
          | (((refine Stage.step_append (v := .slice (some ⟨V.heap.size + 1, 0, none⟩) 0 0) (l := [_, _, _, _]) (by exact hsC.same rfl rfl rfl rfl) 2 rfl rfl (.tmp 51) (.tmp 53) 33 rfl _ 24 Try.underlying33 info_hung rfl (by decide) (Nat.zero_le _) rfl _ n9 (cellsBy hgC L) rfl (by exact reads_same (w := (V.alloc (.cells #[.int .i64 p, .int .i64 x, .bool r] 65)).alloc (.cells #[] 65)) rfl hrC) (hgs_one _) (by unfold maxLen; omega) (by omega) ?_); intro v1 w6 hs6 hl6; rw [Nat.zero_add, List.nil_append] at hs6; have q6 : ∀ k, rowF v1 k → w.heap.size ≤ k := fun k hk => (hl6 k hk).elim (fun h => Nat.le_trans (Nat.le_succ_of_le hVs) (Nat.le_of_eq (show V.heap.size + 1 = k from by simpa [rowF, Value.ownBlock] using h))) (fun h => Nat.le_trans hsC.size h); have m0 := hs6.cell 0 rfl (o := 0) rfl; have m1 := hs6.cell 0 rfl (o := 1) rfl; have ll0 := hs6.lt 0 rfl))
          | (((refine Stage.step_append (v := v1) (l := [_, _, _, _]) (by exact (hs6.alloc #[.int .i64 p, .int .i64 x, .bool r] 65).same rfl rfl rfl rfl) 2 rfl rfl (.tmp 54) (.tmp 59) 33 rfl _ 24 Try.underlying33 info_hung rfl (by decide) (Nat.zero_le _) rfl _ 1 [.int .i64 p, .int .i64 x, .bool r] rfl (by exact reads_same (w := w6.alloc (.cells #[.int .i64 p, .int .i64 x, .bool r] 65)) rfl (reads_box ((hs6.alloc #[.int .i64 p, .int .i64 x, .bool r] 65).blk 3 rfl) 3 1 rfl)) (by intro u hu; simp at hu; rcases hu with rfl | rfl | rfl <;> rfl) (by unfold maxLen; omega) (by omega) ?_); intro v2 w7 hs7 hl7; have q7 : ∀ k, rowF v2 k → w.heap.size ≤ k := fun k hk => (hl7 k hk).elim (q6 k) (fun h => Nat.le_trans (hs6.alloc #[.int .i64 p, .int .i64 x, .bool r] 65).size h); obtain ⟨va, vc, hve, _, _⟩ := owns_form (hs7.owns 2 rfl); subst hve; have p0 := hs7.cell 0 rfl (o := 0) rfl; have p1 := hs7.cell 0 rfl (o := 1) rfl; have g0 := hs7.free 1 rfl 0; have g1 := hs7.free 1 rfl 1; have pp0 := hs7.lt 0 rfl; have z0 := hs7.cell 1 rfl (o := 0) rfl; have z1 := hs7.cell 1 rfl (o := 1) rfl))
          | (((refine Stage.step_append (v := v1) (l := [_, _, _, _]) (by exact hs6.same rfl rfl rfl rfl) 2 rfl rfl (.tmp 54) (.tmp 59) 33 rfl _ 24 Try.underlying33 info_hung rfl (by decide) (Nat.zero_le _) rfl _ 1 [.int .i64 p, .int .i64 x, .bool r] rfl (by exact reads_same (w := w6) rfl (reads_box (hs6.blk 3 rfl) 3 1 rfl)) (by intro u hu; simp at hu; rcases hu with rfl | rfl | rfl <;> rfl) (by unfold maxLen; omega) (by omega) ?_); intro v2 w7 hs7 hl7; have q7 : ∀ k, rowF v2 k → w.heap.size ≤ k := fun k hk => (hl7 k hk).elim (q6 k) (fun h => Nat.le_trans hs6.size h); obtain ⟨va, vc, hve, _, _⟩ := owns_form (hs7.owns 2 rfl); subst hve; have p0 := hs7.cell 0 rfl (o := 0) rfl; have p1 := hs7.cell 0 rfl (o := 1) rfl; have g0 := hs7.free 1 rfl 0; have g1 := hs7.free 1 rfl 1; have pp0 := hs7.lt 0 rfl; have z0 := hs7.cell 1 rfl (o := 0) rfl; have z1 := hs7.cell 1 rfl (o := 1) rfl)))
      all_goals
        have hs8 := (hs7.store 1 rfl 0 (.int .i64 n)).store 1 rfl 1 (.slice va (n9 + 1) vc)
        have hrow := hs8.owns 2 rfl
        go_wp2_with fail
        have e1 : (L ++ [(⟨p, x, r⟩ : Hg)]).length = n9 + 1 := by simp [hn9]
        have e2 : cellsBy hgC (L ++ [(⟨p, x, r⟩ : Hg)]) = cellsBy hgC L ++ [.int .i64 p, .int .i64 x, .bool r] := by rw [cellsBy_append, cellsBy_one]; rfl
        have hD : ∀ w', w' = ((w7.setCell ⟨w.heap.size + 1, 0, none⟩ (.int .i64 n)).setCell ⟨w.heap.size + 1, 1, none⟩ (.slice va (n9 + 1) vc)) → DocAt w' (.slice va (n9 + 1) vc) (L ++ [⟨p, x, r⟩]) := fun w' e => by
          subst e
          exact ⟨by rw [e1, e2]; exact hrow, by rw [e1]; omega⟩
        have hfin : DocPost w n (.slice a9 n9 c9) (L ++ [⟨p, x, r⟩]) (fun u => .tuple #[u, .bool true]) (.returned (.tuple #[.agg #[.int .i64 n, .slice va (n9 + 1) vc], .bool true])) _ := ⟨_, rfl, hs8.below, hD _ rfl, fun k hk => Or.inr (q7 k hk)⟩
        exact bodyPost_ret (v := .tuple #[.agg #[.int .i64 n, .slice va (n9 + 1) vc], .bool true]) (by simp [results, Try.results27, go_sem, z0, z1]) rfl hfin
end
end Go.Proofs.Ytkagchnhjjcgbaa
