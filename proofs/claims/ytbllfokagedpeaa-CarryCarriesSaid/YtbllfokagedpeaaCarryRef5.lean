/- Merged of CarryRef3, CarryRef4, CarryRef5. -/
import Derived.Test.YtbllfokagedpeaaCarryRef2
namespace Go.Proofs.Ytbllfokagedpeaa
open Go.RowKit Go.Sort

section
variable {w : World} {F : Nat → Prop} {v : Value} {n : Nat} {K : Int → List Int}
theorem DocStep.same (h : (Ob.docK v n K).holds w F) {w' : World} (hb : Below w.heap.size w w') : DocStep w F v n K w' := ⟨hb, F, (Ob.docK v n K).keeps h (Keeps.of_below_all hb (fun _ => False)) (fun _ _ x => x), fun _ h => Or.inl h, fun _ h => h⟩
theorem DocK.more (h : (Ob.docK v n K).holds w F) {w' : World} (hb : Below w.heap.size w w') {G : Nat → Prop} (hG : ∀ b, G b → b < w'.heap.size) : (Ob.docK v n K).holds w' (fun b => F b ∨ G b) :=
  ⟨fun b hb' => hb'.elim (fun h1 => Nat.lt_of_lt_of_le (h.1 b h1) hb.size) (hG b), (h.2.later hb).mono fun _ h => Or.inl h⟩
theorem DocStep.trans {K' : Int → List Int} {v' : Value} {G : Nat → Prop} {w1 w' : World} (hb : Below w.heap.size w w1) (hG : ∀ b, G b → F b ∨ w.heap.size ≤ b) (hFG : ∀ b, F b → G b) (h : DocStep w1 G v' n K' w') : DocStep w F v' n K' w' := by
  obtain ⟨h1, F', h2, h3, h6⟩ := h
  exact ⟨below_then hb h1 hb.size, F', h2, fun b h4 => (h3 b h4).elim (fun h5 => hG b h5) (fun h5 => Or.inr (Nat.le_trans hb.size h5)), fun b h7 => h6 b (hFG b h7)⟩
set_option maxRecDepth 100000 in
set_option maxHeartbeats 2000000 in
theorem rLink (I : CInv n K) (hn : n ≤ 65536) (h : (Ob.docK v n K).holds w F) (x y : Int) :
    Calls Try.prog 28 #[v, .int .i64 x, .int .i64 y] w fun e w' => ∃ a c, e = .returned (.tuple #[.slice a n c, .bool (linkB n K x y)]) ∧ DocStep w F (.slice a n c) n (linkF n K x y) w' := by
  obtain ⟨av, cv, hv, hc1, hc2⟩ := h.2.form
  subst hv
  have hrx := fun (wx : World) (hb : Below w.heap.size w wx) => rRoot I (h.2.later hb) x
  have hry := fun (wx : World) (hb : Below w.heap.size w wx) => rRoot I (h.2.later hb) y
  have cA : ∀ d' os, Calls Try.prog 33 #[.slice av n cv, .int .i64 x] (grow (redrawn w d') os) fun e w'' => e = .returned (.bool (rootB n K x)) ∧ ∃ p : Regrown, w'' = grow (redrawn w p.d) p.os := fun d' os => Calls.regrown_of ((hrx _ (below_regrown _ _ _)).mono fun e w' ⟨h1, h2⟩ => ⟨h1, by rw [← h2]; exact Below.refl _ _⟩)
  have cB : ∀ d' os, Calls Try.prog 33 #[.slice av n cv, .int .i64 y] (grow (redrawn w d') os) fun e w'' => e = .returned (.bool (rootB n K y)) ∧ ∃ p : Regrown, w'' = grow (redrawn w p.d) p.os := fun d' os => Calls.regrown_of ((hry _ (below_regrown _ _ _)).mono fun e w' ⟨h1, h2⟩ => ⟨h1, by rw [← h2]; exact Below.refl _ _⟩)
  clear hrx hry
  by_cases hok : linkB n K x y = true
  rotate_left
  · have e1 : linkB n K x y = false := by simpa using hok
    have e2 : linkF n K x y = K := by simp [linkF, e1]
    rw [e1, e2]
    have hfin : ∀ w', Below w.heap.size w w' → DocStep w F (.slice av n cv) n K w' := fun w' hb => DocStep.same h hb
    have hcase : rootB n K x = false ∨ (rootB n K x = true ∧ rootB n K y = false) ∨ (rootB n K x = true ∧ rootB n K y = true ∧ x = y) ∨ (rootB n K x = true ∧ rootB n K y = true ∧ x ≠ y ∧ (K x).length ≠ (K y).length) := by
      cases h1 : rootB n K x
      · exact Or.inl rfl
      cases h2 : rootB n K y
      · exact Or.inr (Or.inl ⟨rfl, rfl⟩)
      by_cases h3 : x = y
      · exact Or.inr (Or.inr (Or.inl ⟨rfl, rfl, h3⟩))
      · refine Or.inr (Or.inr (Or.inr ⟨rfl, rfl, h3, fun h4 => hok ?_⟩))
        exact linkB_iff.2 ⟨h3, rootB_iff.1 h1, rootB_iff.1 h2, h4⟩
    clear e1 e2 hok
    rcases hcase with h1 | ⟨h1, h2⟩ | ⟨h1, h2, h3⟩ | ⟨h1, h2, h3, h4⟩
    · rw [h1] at cA
      clear h I cB h1
      go_enter Try.func28, Try.ntmps28
      go_wp2_with fail
      refine wp_region_quiet_below (by kernel_rfl) (by kernel_rfl) ?_
      repeat (first | go_big_quiet_step (first | with_reducible exact cA _ _) | quiet_step (fail))
      refine wpQuiet_nil ?_
      intro W3 hw
      have hb3 := below_regrown' hw
      clear cA
      go_wp2_with fail
      go_ret2
      exact ⟨_, _, rfl, hfin _ hb3⟩
    · rw [h1] at cA
      rw [h2] at cB
      clear h I h1 h2
      go_enter Try.func28, Try.ntmps28
      go_wp2_with fail
      refine wp_region_quiet_below (by kernel_rfl) (by kernel_rfl) ?_
      repeat (first | go_big_quiet_step (first | with_reducible exact cA _ _ | with_reducible exact cB _ _) | quiet_step (fail))
      refine wpQuiet_nil ?_
      intro W3 hw
      have hb3 := below_regrown' hw
      clear cA cB
      go_wp2_with fail
      go_ret2
      exact ⟨_, _, rfl, hfin _ hb3⟩
    · subst h3
      rw [h1] at cA
      clear h I h1 h2 cB
      go_enter Try.func28, Try.ntmps28
      go_wp2_with fail
      refine wp_region_quiet_below (by kernel_rfl) (by kernel_rfl) ?_
      repeat (first | go_big_quiet_step (first | with_reducible exact cA _ _) | quiet_step (fail))
      refine wpQuiet_nil ?_
      intro W3 hw
      have hb3 := below_regrown' hw
      clear cA
      go_wp2_with fail
      go_ret2
      exact ⟨_, _, rfl, hfin _ hb3⟩
    · obtain ⟨r1, _⟩ := rootB_iff.1 h1
      obtain ⟨r2, _⟩ := rootB_iff.1 h2
      rw [h1] at cA
      rw [h2] at cB
      obtain ⟨i, rfl⟩ : ∃ i : Nat, x = i := ⟨x.toNat, by have := r1.1; omega⟩
      obtain ⟨j, rfl⟩ : ∃ j : Nat, y = j := ⟨y.toNat, by have := r2.1; omega⟩
      have hi : i < n := by have := r1.2; omega
      have hj : j < n := by have := r2.2; omega
      have hii : (i : Int) < n := by omega
      have hjj : (j : Int) < n := by omega
      obtain ⟨g, c', ka, kc, hv, u0, hk1, hk2, _, _⟩ := h.2.at' hi
      cases hv
      obtain ⟨g', c', ka2, kc2, hv, u1, hk3, hk4, _, _⟩ := h.2.at' hj
      cases hv
      have h3' : ((i : Int) == (j : Int)) = false := by simpa using h3
      have h4a : (((K i).length : Int) != ((K j).length : Int)) = true := by simp; omega
      have h4b : (((K i).length : Int) == ((K j).length : Int)) = false := by simp; omega
      have h4c : ((K i).length == (K j).length) = false := by simpa using h4
      have h3c : (i == j) = false := by simp; omega
      have kU0 := cell_regrown u0
      have kU1 := cell_regrown u1
      clear h I h1 h2 h4 r1 r2
      generalize (K i).length = d1 at *
      generalize (K j).length = d2 at *
      go_enter Try.func28, Try.ntmps28
      go_wp2_with fail
      refine wp_region_quiet_below (by kernel_rfl) (by kernel_rfl) ?_
      repeat (first | go_big_quiet_step (first | with_reducible exact cA _ _ | with_reducible exact cB _ _) | quiet_step (fail))
      refine wpQuiet_nil ?_
      intro W3 hw
      have hb3 := below_regrown' hw
      clear cA cB kU0 kU1 u0 u1
      go_wp2_with fail
      go_ret2
      exact ⟨_, _, rfl, hfin _ hb3⟩
  · have e2 : linkF n K x y = setK K x (K x ++ [y]) := by simp [linkF, hok, link_set]
    rw [hok, e2]
    obtain ⟨h3, ⟨r1, t1⟩, ⟨r2, t2⟩, h4⟩ := linkB_iff.1 hok
    rw [rootB_iff.2 ⟨r1, t1⟩] at cA
    rw [rootB_iff.2 ⟨r2, t2⟩] at cB
    obtain ⟨i, rfl⟩ : ∃ i : Nat, x = i := ⟨x.toNat, by have := r1.1; omega⟩
    obtain ⟨j, rfl⟩ : ∃ j : Nat, y = j := ⟨y.toNat, by have := r2.1; omega⟩
    have hi : i < n := by have := r1.2; omega
    have hj : j < n := by have := r2.2; omega
    have hii : (i : Int) < n := by omega
    have hjj : (j : Int) < n := by omega
    obtain ⟨g, c', ka, kc, hv, u0, hk1, hk2, _, hIn⟩ := h.2.at' hi
    cases hv
    obtain ⟨g', c', ka2, kc2, hv, u1, hk3, hk4, _, _⟩ := h.2.at' hj
    cases hv
    rw [← h4] at u1 hk3
    have hd := deg_16 I hn i
    have h3' : ((i : Int) == (j : Int)) = false := by simpa using h3
    have h3c : (i == j) = false := by simp; omega
    have h4a : (((K i).length : Int) != ((K i).length : Int)) = false := by simp
    have kU0 := cell_regrown u0
    have kU1 := cell_regrown u1
    clear t1 t2 r1 r2 h4 e2 hok I
    generalize hl : K i = l at *
    replace hl := Lib.hid hl
    go_enter Try.func28, Try.ntmps28
    go_wp2_with fail
    refine wp_region_quiet_below (by kernel_rfl) (by kernel_rfl) ?_
    repeat (first | go_big_quiet_step (first | with_reducible exact cA _ _ | with_reducible exact cB _ _) | quiet_step (fail))
    refine wpQuiet_nil ?_
    intro W3 hw
    have hb3 := below_regrown' hw
    replace u0 := later hb3 u0
    clear cA cB kU0 kU1 u1 hw
    have hs : Stage (fun _ => False) W3 [Ob.ints (.slice (some ⟨W3.heap.size, 0, none⟩) 0 0) []] (W3.alloc (.cells #[] 3)) := (Stage.start W3).emptyRow 3 1
    have hr2 := ((hIn.later hb3).reads).later hs.below
    have u2 := later hs.below u0
    have h1c : ∀ z ∈ cellsBy intC l, z.oneCell' = true := fun z hz => by obtain ⟨q, rfl⟩ := intC_one z _ hz; rfl
    have e63 : ([] : List Int).length + l.length ≤ maxLen := by simp only [List.length_nil]; unfold maxLen; omega
    have eby : (([] : List Int).length + l.length) * 8 ≤ 140737488355328 := by simp only [List.length_nil]; omega
    go_wp2_with (at_builtin; refine hs.wp_append 0 rfl rfl _ _ 30 rfl (.int .i64 0) 8 Try.underlying30 sinfo_int rfl (by decide) (Nat.zero_le _) rfl _ l.length (cellsBy intC l) rfl hr2 h1c e63 eby ?_)
    intro v1 w1 hs1 _
    replace hs1 : Stage (fun _ => False) W3 [Ob.ints v1 l] w1 := hs1
    clear hs hr2 h1c e63 eby u2
    go_wp2_with (at_builtin; refine hs1.wp_appendInt 0 rfl rfl rfl _ _ 30 rfl Try.underlying30 sinfo_int rfl rfl (by omega) ?_)
    intro v2 w2 hs2
    replace hs2 : Stage (fun _ => False) W3 [Ob.ints v2 (l ++ [(j : Int)])] w2 := hs2
    obtain ⟨va, vc, rfl, _, _⟩ := hs2.intsForm 0 rfl
    have hb2 : Below w.heap.size w w2 := below_then hb3 hs2.below hb3.size
    obtain ⟨hk9, G, hG1, hG2, hG3⟩ := hs2
    have hG4 : ∀ b, G 0 b → b < w2.heap.size := fun b hb => (hG3 0 b hb).2
    have hD := DocK.more h hb2 hG4
    have hW := rWith hn hD i hi (l ++ [(j : Int)]) va vc (IntsIn.of_ints (hG1 0 _ rfl) fun b hb => Or.inr hb)
    have hgr : ∀ b, (F b ∨ G 0 b) → F b ∨ w.heap.size ≤ b := fun b hb => hb.imp id fun h9 => (hG3 0 b h9).1.elim False.elim fun h8 => Nat.le_trans hb3.size h8
    clear hD hG1 hG2 hG3 hG4 hk9 hs1 h hIn u0
    generalize (l ++ [(j : Int)]).length = m2 at *
    go_wp2_with fail
    refine hW.mono ?_
    rintro e w4 ⟨a4, c4, rfl, hst⟩
    have hst2 := DocStep.trans hb2 hgr (fun b h => Or.inl h) hst
    clear hst hW
    go_wp2_with fail
    go_ret2
    exact ⟨_, _, rfl, hst2⟩
end
end Go.Proofs.Ytbllfokagedpeaa

namespace Go.Proofs.Ytbllfokagedpeaa
open Go.RowKit Go.Sort

theorem lift_set_none {n : Nat} {K : Int → List Int} (I : CInv n K) {x p : Int} (h : x ∈ K p) (hp : upK K p = none) : setK (setK K x (putL (K p) x p)) p (K x) = liftK K x p := by
  funext z
  have hless := I.less h
  rw [lift_doc I h]
  unfold setK
  by_cases e1 : z = x
  · rw [if_pos e1, if_neg (fun e : z = p => by rw [← e, e1] at hless; omega), if_pos e1]
  · rw [if_neg e1, if_neg e1]
    by_cases e2 : z = p
    · rw [if_pos e2, if_pos e2]
    · rw [if_neg e2, if_neg e2, put_not (upK_none.1 hp z)]
theorem lift_set_some {n : Nat} {K : Int → List Int} (I : CInv n K) {x p q : Int} (h : x ∈ K p) (hp : upK K p = some q) : setK (setK (setK K x (putL (K p) x p)) p (K x)) q (putL (K q) p x) = liftK K x p := by
  funext z
  have hless := I.less h
  have hq := (upK_some I).1 hp
  have hless2 := I.less hq
  rw [lift_doc I h]
  unfold setK
  by_cases e1 : z = x
  · rw [if_pos e1, if_neg (fun e : z = q => by rw [← e, e1] at hless2; omega), if_neg (fun e : z = p => by rw [← e, e1] at hless; omega), if_pos e1]
  · rw [if_neg e1, if_neg e1]
    by_cases e2 : z = p
    · rw [if_pos e2, if_neg (fun e : z = q => by rw [← e, e2] at hless2; omega), if_pos e2]
    · rw [if_neg e2, if_neg e2]
      by_cases e3 : z = q
      · rw [if_pos e3, e3]
      · rw [if_neg e3, put_not (fun h9 => e3 (I.one _ _ _ h9 hq))]
section
variable {w : World} {F : Nat → Prop} {v : Value} {n : Nat} {K : Int → List Int}
set_option maxRecDepth 100000 in
set_option maxHeartbeats 2000000 in
theorem rSplit (I : CInv n K) (hn : n ≤ 65536) (h : (Ob.docK v n K).holds w F) (x : Int) :
    Calls Try.prog 30 #[v, .int .i64 x] w fun e w' => ∃ a c a2 c2, e = .returned (.tuple #[.slice a n c, .slice a2 (splitL n K x).length c2]) ∧ DocStep w F (.slice a n c) n (splitF n K x) w' ∧ IntsIn w' F (.slice a2 (splitL n K x).length c2) (splitL n K x) := by
  obtain ⟨av, cv, hv, hc1, hc2⟩ := h.2.form
  subst hv
  have hR := rRoot I h.2 x
  cases hok : rootB n K x
  · have e1 : splitF n K x = K := by simp [splitF, hok]
    have e2 : splitL n K x = [] := by simp [splitL, hok]
    rw [e1, e2]
    rw [hok] at hR
    have hfin : DocStep w F (.slice av n cv) n K w := DocStep.same h (Below.refl _ _)
    clear h I e1 e2 hok
    go_enter Try.func30, Try.ntmps30
    go_wp2_with fail
    refine hR.mono ?_
    rintro e w1 ⟨rfl, rfl⟩
    go_wp2_with fail
    go_ret2
    exact ⟨_, _, none, 0, rfl, hfin, Or.inl ⟨rfl, rfl⟩⟩
  · have e1 : splitF n K x = setK K x [] := by simp [splitF, hok, split_set]
    have e2 : splitL n K x = K x := by simp [splitL, hok]
    rw [e1, e2]
    rw [hok] at hR
    obtain ⟨r1, _⟩ := rootB_iff.1 hok
    obtain ⟨i, rfl⟩ : ∃ i : Nat, x = i := ⟨x.toNat, by have := r1.1; omega⟩
    have hi : i < n := by have := r1.2; omega
    have hii : (i : Int) < n := by omega
    obtain ⟨g, c', ka, kc, hv, u0, hk1, hk2, _, hIn⟩ := h.2.at' hi
    cases hv
    have hW := fun (wx : World) (hb : Below w.heap.size w wx) => rWith hn ((Ob.docK (.slice (some ⟨g, 0, none⟩) n cv) n K).keeps h (Keeps.of_below_all hb (fun _ => False)) (fun _ _ x => x)) i hi [] none 0 (Or.inl ⟨rfl, rfl⟩)
    have hW1 := hW w.drew (Below.refl _ _).drew
    replace hW1 : Calls Try.prog 41 #[.slice (some ⟨g, 0, none⟩) n cv, .int .i64 i, .slice none 0 0] w.drew _ := hW1
    have hfin : ∀ w' a c, DocStep w.drew F (.slice a n c) n (setK K i []) w' → DocStep w F (.slice a n c) n (setK K i []) w' := fun w' a c h => DocStep.trans (Below.refl _ _).drew (fun b hb => Or.inl hb) (fun _ h => h) h
    have hIn2 : ∀ w', Below w.heap.size w w' → IntsIn w' F (.slice ka (K i).length kc) (K i) := fun w' hb => hIn.later hb
    clear h I e1 e2 hok r1 hW hIn
    generalize hl : K i = l at *
    replace hl := Lib.hid hl
    go_enter Try.func30, Try.ntmps30
    go_wp2_with fail
    refine hR.mono ?_
    rintro e w1 ⟨rfl, rfl⟩
    clear hR
    go_wp2_with fail
    go_region_held3 (fun w' => w'.cell? ⟨g, i, none⟩ = some (.slice ka l.length kc)) (first | exact u0 | exact K1)
      (((with_reducible refine hW1.mono ?_); rintro e v1 ⟨a1, c1, rfl, hst⟩; have K1 := later hst.1 u0))
    all_goals
      have h9 := hfin _ _ _ hst
      have h8 := hIn2 _ h9.1
      clear hst hfin hIn2 hW1 K1
      go_wp2_with fail
      go_ret2
      exact ⟨_, _, _, _, rfl, h9, h8⟩
end
end Go.Proofs.Ytbllfokagedpeaa

namespace Go.Proofs.Ytbllfokagedpeaa
open Go.RowKit Go.Sort

theorem ints_slice {P : Program} {f : FuncId} {args : Array Value} {w : World} {l : List Int} (h : Calls P f args w (IntsPost w l)) : Calls P f args w fun e w' => ∃ va vc, e = .returned (.slice va l.length vc) ∧ ∃ G, (Ob.ints (.slice va l.length vc) l).holds w' G ∧ (∀ k, G k → w.heap.size ≤ k) ∧ Below w.heap.size w w' :=
  h.mono fun e w' ⟨v, he, G, g1, g2, g3⟩ => by
    obtain ⟨a, c, e1, _⟩ := owns_form g1.1
    subst e1
    exact ⟨a, c, he, G, g1, g2, g3⟩
section
variable {w : World} {F : Nat → Prop} {v : Value} {n : Nat} {K : Int → List Int}
/-- One thing gets other children, that were just made. -/
theorem step_put {w1 : World} {l : List Int} {va : Option Addr} {vc : Nat} {G : Nat → Prop} (hn : n ≤ 65536) (h : (Ob.docK v n K).holds w F) (hb : Below w.heap.size w w1) (hG : (Ob.ints (.slice va l.length vc) l).holds w1 G) (hG2 : ∀ k, G k → w.heap.size ≤ k) (x : Nat) (hx : x < n) :
    Calls Try.prog 41 #[v, .int .i64 x, .slice va l.length vc] w1 fun e w' => ∃ a' c', e = .returned (.slice a' n c') ∧ DocStep w F (.slice a' n c') n (setK K x l) w' := by
  have hD := DocK.more h hb (G := G) (fun b hb => (Ob.ints _ _).lt hG b hb)
  exact (rWith hn hD x hx l va vc (IntsIn.of_ints hG fun b hb => Or.inr hb)).mono fun e w' ⟨a', c', he, hst⟩ => ⟨a', c', he, DocStep.trans hb (fun b h => h.imp id fun h9 => hG2 b h9) (fun b h => Or.inl h) hst⟩
set_option maxRecDepth 100000 in
set_option maxHeartbeats 2000000 in
theorem rLift (I : CInv n K) (hn : n ≤ 65536) (h : (Ob.docK v n K).holds w F) (x : Int) :
    Calls Try.prog 32 #[v, .int .i64 x] w fun e w' => ∃ a c, e = .returned (.tuple #[.slice a n c, .bool (upK K x).isSome]) ∧ DocStep w F (.slice a n c) n (liftF K x) w' := by
  obtain ⟨av, cv, hv, hc1, hc2⟩ := h.2.form
  subst hv
  have hU := rUp I h.2 x
  cases hu : upK K x with
  | none =>
    have e1 : liftF K x = K := by simp [liftF, hu]
    rw [e1]
    rw [hu] at hU
    have hfin : DocStep w F (.slice av n cv) n K w := DocStep.same h (Below.refl _ _)
    clear h I e1
    go_enter Try.func32, Try.ntmps32
    go_wp2_with fail
    refine hU.mono ?_
    rintro e w1 ⟨rfl, rfl⟩
    go_wp2_with fail
    go_ret2
    exact ⟨_, _, rfl, hfin⟩
  | some y =>
    have e1 : liftF K x = liftK K x y := by simp [liftF, hu]
    rw [e1]
    rw [hu] at hU
    have hV := rUp I h.2 y
    have hxy := (upK_some I).1 hu
    have hless := I.less hxy
    have hd := deg_16 I hn y
    obtain ⟨rx, ry⟩ := upK_rng I hu
    obtain ⟨i, rfl⟩ : ∃ i : Nat, x = i := ⟨x.toNat, by have := rx.1; omega⟩
    obtain ⟨j, rfl⟩ : ∃ j : Nat, y = j := ⟨y.toNat, by have := ry.1; omega⟩
    have hi : i < n := by have := rx.2; omega
    have hj : j < n := by have := ry.2; omega
    have hii : (i : Int) < n := by omega
    have hjj : (j : Int) < n := by omega
    obtain ⟨g, c', ka, kc, hv, u0, hk1, hk2, _, hIn⟩ := h.2.at' hi
    cases hv
    obtain ⟨g', c', ka2, kc2, hv, u1, hk3, hk4, hIA, _⟩ := h.2.at' hj
    cases hv
    have hP1 := ints_slice (rPut (w := w.drew) (K j) ka2 kc2 ⟨hk3, hk4⟩ (IntsAt.later hIA (Below.refl _ _).drew) (by omega) i j)
    have hd1 : Below w.heap.size w w.drew := (Below.refl _ _).drew
    have hlp : (putL (K j) i j).length = (K j).length := by unfold putL; rw [List.length_map]
    have hW1 := fun (wx : World) va vc G (hb : Below w.heap.size w wx) (h1 : (Ob.ints (.slice va (putL (K j) i j).length vc) (putL (K j) i j)).holds wx G) (h2 : ∀ k, G k → w.heap.size ≤ k) => step_put hn h hb h1 h2 i hi
    have hW2 := fun (wx : World) a' c' (hst : DocStep w F (.slice a' n c') n (setK K i (putL (K j) i j)) wx) => hst.2.elim fun F2 hF2 => (rWith hn hF2.1 j hj (K i) ka kc ((hIn.later hst.1).mono hF2.2.2)).mono fun e w' ⟨a2, c2, he, hst2⟩ => (⟨a2, c2, he, DocStep.trans hst.1 hF2.2.1 hF2.2.2 hst2⟩ : ∃ a2 c2, e = Ending.returned (.slice a2 n c2) ∧ DocStep w F (.slice a2 n c2) n (setK (setK K i (putL (K j) i j)) j (K i)) w')
    cases hv : upK K j with
    | none =>
      rw [hv] at hV
      have hset := lift_set_none I hxy hv
      rw [hset] at hW2
      clear h I e1 hset hIn hIA hxy rx ry hlp
      generalize hl1 : K i = l1 at *
      generalize hl2 : K j = l2 at *
      generalize putL l2 i j = l3 at *
      replace hl1 := Lib.hid hl1
      replace hl2 := Lib.hid hl2
      go_enter Try.func32, Try.ntmps32
      go_wp2_with fail
      refine hU.mono ?_
      rintro e w1 ⟨rfl, rfl⟩
      go_wp2_with fail
      refine hV.mono ?_
      rintro e w1 ⟨rfl, rfl⟩
      clear hU hV
      go_wp2_with fail
      go_region_held3 (fun w' => w'.cell? ⟨g, i, none⟩ = some (.slice ka l1.length kc) ∧ w'.cell? ⟨g, j, none⟩ = some (.slice ka2 l2.length kc2)) (first | exact ⟨u0, u1⟩ | exact K1 | exact K2 | exact K3)
        (first
          | (((with_reducible refine hP1.mono ?_); rintro e v1 ⟨va, vc, rfl, G, g1, g2, g3⟩; have hb1 := below_then hd1 g3 hd1.size; have K1 := And.intro (later hb1 u0) (later hb1 u1); replace hW1 := hW1 v1 va vc G hb1 g1 (fun k hk => Nat.le_trans hd1.size (g2 k hk))))
          | (((with_reducible refine hW1.mono ?_); rintro e v2 ⟨a2, c2, rfl, hst⟩; have K2 := And.intro (later hst.1 u0) (later hst.1 u1); replace hW2 := hW2 v2 a2 c2 hst))
          | (((with_reducible refine hW2.mono ?_); rintro e v3 ⟨a3, c3, rfl, hst3⟩; have K3 := And.intro (later hst3.1 u0) (later hst3.1 u1))))
      all_goals
        clear K1 K2 K3 hW1 hW2 hst hP1
        go_wp2_with fail
        go_ret2
        exact ⟨_, _, rfl, hst3⟩
    | some y2 =>
      rw [hv] at hV
      have hset := lift_set_some I hxy hv
      have hjy := (upK_some I).1 hv
      obtain ⟨_, rk⟩ := upK_rng I hv
      obtain ⟨k, rfl⟩ : ∃ k : Nat, y2 = k := ⟨y2.toNat, by have := rk.1; omega⟩
      have hk : k < n := by have := rk.2; omega
      have hkk : (k : Int) < n := by omega
      obtain ⟨g2, c2, ka3, kc3, hv3, u2, hk5, hk6, hIA2, _⟩ := h.2.at' hk
      cases hv3
      have hd2 := deg_16 I hn k
      have hP2 := fun (wx : World) (hb : Below w.heap.size w wx) => ints_slice (rPut (w := wx) (K k) ka3 kc3 ⟨hk5, hk6⟩ (IntsAt.later hIA2 hb) (by omega) j i)
      have hW3 := fun (wx : World) a' c' (hst : DocStep w F (.slice a' n c') n (setK (setK K i (putL (K j) i j)) j (K i)) wx) => fun (wy : World) va vc G (hb : Below wx.heap.size wx wy) (h1 : (Ob.ints (.slice va (putL (K k) j i).length vc) (putL (K k) j i)).holds wy G) (h2 : ∀ z, G z → wx.heap.size ≤ z) => hst.2.elim fun F2 hF2 => (step_put hn hF2.1 hb h1 h2 k hk).mono fun e w' ⟨a2, c2, he, hst2⟩ => (⟨a2, c2, he, DocStep.trans hst.1 hF2.2.1 hF2.2.2 hst2⟩ : ∃ a2 c2, e = Ending.returned (.slice a2 n c2) ∧ DocStep w F (.slice a2 n c2) n (setK (setK (setK K i (putL (K j) i j)) j (K i)) k (putL (K k) j i)) w')
      rw [hset] at hW3
      clear hIA2 hjy rk
      clear h I e1 hset hIn hIA hxy rx ry hlp
      generalize hl1 : K i = l1 at *
      generalize hl2 : K j = l2 at *
      generalize putL l2 i j = l3 at *
      generalize hl4 : K k = l4 at *
      replace hl4 := Lib.hid hl4
      generalize putL l4 j i = l5 at *
      replace hl1 := Lib.hid hl1
      replace hl2 := Lib.hid hl2
      go_enter Try.func32, Try.ntmps32
      go_wp2_with fail
      refine hU.mono ?_
      rintro e w1 ⟨rfl, rfl⟩
      go_wp2_with fail
      refine hV.mono ?_
      rintro e w1 ⟨rfl, rfl⟩
      clear hU hV
      go_wp2_with fail
      go_region_held3 (fun w' => w'.cell? ⟨g, i, none⟩ = some (.slice ka l1.length kc) ∧ w'.cell? ⟨g, j, none⟩ = some (.slice ka2 l2.length kc2)) (first | exact ⟨u0, u1⟩ | exact K1 | exact K2 | exact K3)
        (first
          | (((with_reducible refine hP1.mono ?_); rintro e v1 ⟨va, vc, rfl, G, g1, g2, g3⟩; have hb1 := below_then hd1 g3 hd1.size; have K1 := And.intro (later hb1 u0) (later hb1 u1); replace hW1 := hW1 v1 va vc G hb1 g1 (fun k hk => Nat.le_trans hd1.size (g2 k hk))))
          | (((with_reducible refine hW1.mono ?_); rintro e v2 ⟨a2, c2, rfl, hst⟩; have K2 := And.intro (later hst.1 u0) (later hst.1 u1); replace hW2 := hW2 v2 a2 c2 hst))
          | (((with_reducible refine hW2.mono ?_); rintro e v3 ⟨a3, c3, rfl, hst3⟩; have K3 := And.intro (later hst3.1 u0) (later hst3.1 u1))))
      all_goals
        have hb3 := hst3.1
        have hu2 := later hb3 u2
        have hP3 := hP2 v3 hb3
        replace hW3 := hW3 v3 a3 c3 hst3
        clear K1 K2 K3 hW1 hW2 hst hP1 hP2 u0 u1 u2
        go_wp2_with fail
        refine hP3.mono ?_
        rintro e w5 ⟨va5, vc5, rfl, G5, h51, h52, h53⟩
        have hW4 := hW3 w5 va5 vc5 G5 h53 h51 h52
        clear hP3 hW3
        go_wp2_with fail
        refine hW4.mono ?_
        rintro e w6 ⟨a6, c6, rfl, hst6⟩
        clear hW4
        go_wp2_with fail
        go_ret2
        exact ⟨_, _, rfl, hst6⟩
end
end Go.Proofs.Ytbllfokagedpeaa
