/- Merged of CarryLink, CarryLoopMath, CarryShare. -/
import Derived.Test.YtkcicnflcilekaaGreatCarryCalls
import Derived.Deep.RegionLaw
import Derived.Test.YtkcicnflcilekaaGreatBinLiftMath
namespace Go.Proofs.YtkcicnflcilekaaGreat
open Go.RowKit Go.Sort

section
variable {w : World} {p n : Nat} {K : Int → List Int} {F : Nat → Prop}
set_option maxHeartbeats 1000000 in
set_option maxRecDepth 100000 in
theorem link_cy (a b : Int) (h : (Ob.forest p n K).holds w F) : Calls Tryz.prog 209 #[.pointer (some ⟨p, 0, none⟩), .int .i64 a, .int .i64 b] w fun e w' => e = .returned (.bool (linkB n K a b)) ∧ ∃ F', (Ob.forest p n (linkF n K a b)).holds w' F' ∧ Moved F F' w w' := by
  have hF := (Ob.forest p n K).lt h
  have hno : linkB n K a b = false → linkF n K a b = K := fun e => by simp [linkF, e]
  have hstay : ∃ F', (Ob.forest p n K).holds w F' ∧ Moved F F' w w := ⟨F, h, Moved.refl _ _⟩
  obtain ⟨v, kv, I, hn, hg⟩ := h
  have hs := Ob.group.open hg
  have hA := cy_root (q := []) hs I hn a
  have hB := cy_root (q := []) hs I hn b
  have hDa := cy_deg (q := []) hs I hn a
  have hDb := cy_deg (q := []) hs I hn b
  clear hg
  by_cases e0 : a = b
  · subst e0
    have e1 : linkB n K a a = false := by simp [linkB]
    rw [e1, hno e1]
    clear hs hA hB hDa hDb
    go_enter Tryz.func209, Tryz.ntmps209
    go_wp2_with fail
    go_ret
    exact ⟨rfl, hstay⟩
  have e0' : (a == b) = false := by simpa using e0
  cases h1 : rootB n K a
  · have e1 : linkB n K a b = false := by simp [linkB, h1]
    rw [e1, hno e1]
    rw [h1] at hA
    clear hs hB hDa hDb
    go_enter Tryz.func209, Tryz.ntmps209
    go_wp2_with fail
    refine hA.mono ?_
    rintro e w1 ⟨rfl, rfl⟩
    go_wp2_with fail
    go_ret
    exact ⟨rfl, hstay⟩
  cases h2 : rootB n K b
  · have e1 : linkB n K a b = false := by simp [linkB, h2]
    rw [e1, hno e1]
    rw [h1] at hA
    rw [h2] at hB
    clear hs hDa hDb
    go_enter Tryz.func209, Tryz.ntmps209
    go_wp2_with fail
    refine hA.mono ?_
    rintro e w1 ⟨rfl, rfl⟩
    go_wp2_with fail
    refine hB.mono ?_
    rintro e w1 ⟨rfl, rfl⟩
    go_wp2_with fail
    go_ret
    exact ⟨rfl, hstay⟩
  rw [h1] at hA
  rw [h2] at hB
  by_cases h3 : (K a).length = (K b).length
  rotate_left
  · have e1 : linkB n K a b = false := by simp [linkB, h3]
    rw [e1, hno e1]
    have h3a : (((K a).length : Int) != (K b).length) = true := by simp; omega
    have h3b : (((K a).length : Int) == (K b).length) = false := by simp; omega
    have h3c : ((K a).length == (K b).length) = false := by simp; omega
    clear hs h3
    generalize (K a).length = d1 at *
    generalize (K b).length = d2 at *
    go_enter Tryz.func209, Tryz.ntmps209
    go_wp2_with fail
    refine hA.mono ?_
    rintro e w1 ⟨rfl, rfl⟩
    go_wp2_with fail
    refine hB.mono ?_
    rintro e w1 ⟨rfl, rfl⟩
    go_wp2_with fail
    refine hDa.mono ?_
    rintro e w1 ⟨rfl, rfl⟩
    go_wp2_with fail
    refine hDb.mono ?_
    rintro e w1 ⟨rfl, rfl⟩
    go_wp2_with fail
    go_ret
    exact ⟨rfl, hstay⟩
  have hok : linkB n K a b = true := by simp [linkB, h1, h2, h3, e0]
  have hFe : linkF n K a b = linkK K a b := by simp [linkF, hok]
  rw [hok, hFe]
  obtain ⟨ra1, ra2⟩ := rootB_iff.1 h1
  obtain ⟨rb1, rb2⟩ := rootB_iff.1 h2
  obtain ⟨i, rfl⟩ : ∃ i : Nat, a = i := ⟨a.toNat, by have := ra1.1; omega⟩
  obtain ⟨j, rfl⟩ : ∃ j : Nat, b = j := ⟨b.toNat, by have := rb1.1; omega⟩
  have hi : i < n := by have := ra1.2; omega
  have hj : j < n := by have := rb1.2; omega
  have hij : i ≠ j := fun e => e0 (by rw [e])
  have I' := link_inv I ra1 rb1 ra2 rb2 e0 h3
  have hup : upN (linkK K i j) = setN (upN K) j i := by
    funext x
    unfold upN setN
    rw [up_link I ra1 rb1 ra2 rb2 e0 h3]
    by_cases e : x = j
    · subst e; simp [oK]
    · rw [if_neg e, if_neg (by omega)]
  have hd := deg_16 I hn i
  obtain ⟨gb, c, rfl, hc1, hc2, hgp, hgl, hc, hf⟩ := cy_row (q := []) hs (by omega)
  obtain ⟨ka, kc, hk, hk1, hk2⟩ := cy_kform (q := []) hs i
  have u1 := (hc i hi).2
  have c0 := cy_c0 (q := []) hs
  have hs1 := cy_pull (q := []) hs i
  rw [hk] at u1 hs1
  have f0 := hf (i * 2 + 1)
  have hDb2 : Calls Tryz.prog 204 #[.pointer (some ⟨p, 0, none⟩), .int .i64 j] w fun e w' => e = .returned (.int .i64 ((K i).length : Int)) ∧ w = w' := by rw [h3]; exact hDb
  have h3b : (((K i).length : Int) == (K i).length) = true := by simp
  have h3a : (((K i).length : Int) != (K i).length) = false := by simp
  have hs2 := hs1.drew.alloc #[.int .i64 j] 3
  replace hs2 : Stage F w [Ob.box p #[.slice (some ⟨gb, 0, none⟩) n c] 260, Ob.row 0 262 2 (.slice (some ⟨gb, 0, none⟩) n c) n (cellsBy cyC (cyRaw n (upN K) kv)), Ob.fam (updO (cyFam kv K) i Ob.none), Ob.ints (.slice ka (K i).length kc) (K i), Ob.box w.heap.size #[.int .i64 j] 3] (w.drew.alloc (.cells #[.int .i64 j] 3)) := hs2
  have hr2 := reads_box (hs2.blk 4 rfl) 1 1 rfl
  have hs3 := hs1.alloc #[.int .i64 j] 3
  have b0 := cy_c0 (q := [_, _]) hs3
  have b1 := (cy_cells (q := [_, _]) hs3 hi).2
  have b2 := cy_free (q := [_, _]) hs3 (i * 2 + 1)
  rw [hk] at b1
  clear hs3
  have hn0 : 0 < n := by omega
  have e63 : (K i).length + 1 ≤ maxLen := by unfold maxLen; omega
  have eby : ((K i).length + 1) * 8 ≤ 140737488355328 := by omega
  have hfin : ∀ w', (∃ z, Stage F w (cyParts p (.slice (some ⟨gb, 0, none⟩) n c) n (setN (upN K) j i) (setN kv i z) (updO (cyFam kv K) i Ob.none) ++ [Ob.ints z (K i ++ [(j : Int)])]) w') → ∃ F', (Ob.forest p n (linkK K i j)).holds w' F' ∧ Moved F F' w w' := by
    rintro w' ⟨z, hz⟩
    have h4 := cy_push (q := []) hz i (fam_off _ _ _)
    rw [fam_push, ← link_set, ← hup, List.append_nil] at h4
    exact forest_close h4 hF I' hn
  generalize hK : K i = l at *
  clear hs hs1 hno hDb hc hf hup I' hK hok hFe h1 h2 h3 hk ra1 ra2 rb1 rb2
  go_enter Tryz.func209, Tryz.ntmps209
  go_wp2_with fail
  refine hA.mono ?_
  rintro e w1 ⟨rfl, rfl⟩
  go_wp2_with fail
  refine hB.mono ?_
  rintro e w1 ⟨rfl, rfl⟩
  go_wp2_with fail
  refine hDa.mono ?_
  rintro e w1 ⟨rfl, rfl⟩
  go_wp2_with fail
  refine hDb2.mono ?_
  rintro e w1 ⟨rfl, rfl⟩
  clear hA hB hDa hDb2
  go_wp2_with fail
  go_region_law (refine Stage.step_append (v := .slice ka l.length kc) (l := [_, _, _, _, _]) (by exact hs2.same rfl rfl rfl rfl) 3 rfl rfl _ _ 75 rfl (.int .i64 0) 8 Tryz.underlying75 sinfo_int rfl (by decide) (Nat.zero_le _) rfl _ 1 [.int .i64 j] rfl (by exact reads_same (w := w.drew.alloc (.cells #[.int .i64 j] 3)) rfl hr2) (by intro u hu; simp at hu; subst hu; rfl) e63 eby ?_; intro v1 w6 hs6 hl6; obtain ⟨va, vc, hve, _, _⟩ := owns_form (hs6.owns 3 rfl); subst hve; have m0 := hs6.cell 0 rfl (o := 0) rfl; have f6 := cy_free (q := [_, _]) hs6 (i * 2 + 1); have q6 := (cy_cells (q := [_, _]) hs6 hi).2)
  all_goals
    have hs7 := cy_kv_set (q := [_, _]) hs6 hi (.slice va (l.length + 1) vc)
    have g0 := cy_c0 hs7
    have g1 := (cy_cells hs7 hj).1
    have g2 := cy_free hs7 (j * 2)
    have hs8 := (cy_up_set hs7 hj i).take 4
    have hl8 : Stage F w (cyParts p (.slice (some ⟨gb, 0, none⟩) n c) n (setN (upN K) j i) (setN kv i (.slice va (l.length + 1) vc)) (updO (cyFam kv K) i Ob.none) ++ [Ob.row 0 3 1 (.slice va (l.length + 1) vc) (l.length + 1) (cellsBy intC l ++ [.int .i64 j])]) _ := hs8
    have hl9 := hfin _ ⟨_, ints_snoc hl8⟩
    clear hs6 hs7 hs8 hl8 hfin m0 f6 q6
    go_wp2_with fail
    go_ret
    exact ⟨rfl, hl9⟩
end
end Go.Proofs.YtkcicnflcilekaaGreat

namespace Go.Proofs.YtkcicnflcilekaaGreat

section
variable {n : Nat} {K K0 : Int → List Int} {ahead : Int → Int → Prop}
/-- The first root of a row comes, if its degree is no greater. -/
def takeK (K : Int → List Int) (d : Nat) (S : List Int) : List Int → List Int × List Int
  | [] => (S, [])
  | x :: r => if d < (K x).length then (S, x :: r) else (S ++ [x], r)
/-- How far it has come: R is done, S waits, A and B are still to come; all of degree d or more. -/
structure CLoop (n : Nat) (ahead : Int → Int → Prop) (K0 : Int → List Int) (L0 : List Int) (k : Nat) (K : Int → List Int) (d : Nat) (R S A B : List Int) : Prop where
  links : ∃ m, Links n ahead K0 L0 k K m ∧ m.Perm (R ++ (S ++ (A ++ B)))
  done : ∀ x ∈ R, (K x).length < d
  rise : R.Pairwise fun x y => (K x).length < (K y).length
  wait : ∀ x ∈ S, (K x).length = d
  riseA : A.Pairwise fun x y => (K x).length < (K y).length
  riseB : B.Pairwise fun x y => (K x).length < (K y).length
  geA : ∀ x ∈ A, d ≤ (K x).length
  geB : ∀ x ∈ B, d ≤ (K x).length
theorem CLoop.roots (I : CInv n K0) {L0 : List Int} (hl : Roots n K0 L0) {k d : Nat} {R S A B : List Int} (h : CLoop n ahead K0 L0 k K d R S A B) :
    CInv n K ∧ Roots n K (R ++ (S ++ (A ++ B))) := by
  obtain ⟨m, h1, h2⟩ := h.links
  obtain ⟨I', hm, _⟩ := Links.all I hl h1
  exact ⟨I', hm.perm h2⟩
theorem CLoop.start {A B : List Int} (hA : RowK n K A) (hB : RowK n K B) : CLoop n ahead K (A ++ B) 0 K 0 [] [] A B :=
  ⟨⟨_, Links.start (List.Perm.refl _), List.Perm.refl _⟩, fun x h => (by cases h), List.Pairwise.nil, fun x h => (by cases h), hA.rise, hB.rise, fun _ _ => Nat.zero_le _, fun _ _ => Nat.zero_le _⟩
/-- What is left of a row behind its first root is of greater degree. -/
theorem take_ge {d : Nat} {S A : List Int} (rise : A.Pairwise fun x y => (K x).length < (K y).length) (ge : ∀ x ∈ A, d ≤ (K x).length) (hS : ∀ x ∈ S, (K x).length = d) :
    (∀ x ∈ (takeK K d S A).2, d + 1 ≤ (K x).length) ∧ ((takeK K d S A).2.Pairwise fun x y => (K x).length < (K y).length) ∧ (∀ x ∈ (takeK K d S A).1, (K x).length = d) ∧ ((takeK K d S A).1 ++ (takeK K d S A).2).Perm (S ++ A) ∧ (takeK K d S A).1.length ≤ S.length + 1 := by
  cases A with
  | nil => exact ⟨fun x h => (by cases h), List.Pairwise.nil, hS, List.Perm.refl _, by simp [takeK]⟩
  | cons x r =>
    obtain ⟨h1, h2⟩ := List.pairwise_cons.1 rise
    have hx := ge x (by simp)
    have e : takeK K d S (x :: r) = if d < (K x).length then (S, x :: r) else (S ++ [x], r) := rfl
    rw [e]
    by_cases h : d < (K x).length
    · rw [if_pos h]
      refine ⟨fun y hy => ?_, rise, hS, List.Perm.refl _, Nat.le_succ _⟩
      rcases List.mem_cons.1 hy with e | e
      · rw [e]; exact h
      · have := h1 y e; omega
    · rw [if_neg h]
      refine ⟨fun y hy => ?_, h2, fun y hy => ?_, ?_, by simp⟩
      · have := h1 y hy; omega
      · rcases List.mem_append.1 hy with e | e
        · exact hS y e
        · rw [List.mem_singleton.1 e]; omega
      · rw [List.append_assoc]; exact List.Perm.refl _
/-- What waits, in its order: one stays (or none), two are linked (or none). -/
inductive JoinK (lt : Int → Int → Bool) (K : Int → List Int) : List Int → Nat → (Int → List Int) → List Int → Prop
  | none : JoinK lt K [] 0 K []
  | first {x y} : lt y x = false → JoinK lt K [x, y] 1 (linkK K x y) [x]
  | second {x y} : lt y x = true → JoinK lt K [x, y] 1 (linkK K y x) [y]
theorem CLoop.round (I : CInv n K0) {L0 : List Int} (hl : Roots n K0 L0) {lt : Int → Int → Bool} (hlt : ∀ a b, lt a b = true → lt b a = false) {k d : Nat} {R S A B : List Int} (h : CLoop n (fun a b => lt a b = true) K0 L0 k K d R S A B) (hS : S.length ≤ 1) :
    ∀ S1 A1 S2 B1, takeK K d S A = (S1, A1) → takeK K d S1 B = (S2, B1) → S2.length ≤ 3 ∧ ((S2.drop (S2.length % 2)).length = 0 ∨ (S2.drop (S2.length % 2)).length = 2) ∧
    ∀ j K' S', JoinK lt K (S2.drop (S2.length % 2)) j K' S' → CLoop n (fun a b => lt a b = true) K0 L0 (k + j) K' (d + 1) (R ++ S2.take (S2.length % 2)) S' A1 B1 ∧ S'.length ≤ 1 := by
  intro S1 A1 S2 B1 e1 e2
  obtain ⟨g1, g2, g3, g4, g5⟩ := take_ge (K := K) (d := d) h.riseA h.geA h.wait
  rw [e1] at g1 g2 g3 g4 g5
  simp only at g1 g2 g3 g4 g5
  obtain ⟨f1, f2, f3, f4, f5⟩ := take_ge (K := K) (d := d) h.riseB h.geB g3
  rw [e2] at f1 f2 f3 f4 f5
  simp only at f1 f2 f3 f4 f5
  obtain ⟨I', hR⟩ := h.roots I hl
  obtain ⟨m, hm, hp⟩ := h.links
  have h3 : S2.length ≤ 3 := by omega
  have hp2 : m.Perm (R ++ (S2 ++ (A1 ++ B1))) := by
    refine hp.trans (List.Perm.append_left R ?_)
    have a1 : (S ++ (A ++ B)).Perm ((S1 ++ A1) ++ B) := by rw [← List.append_assoc]; exact List.Perm.append_right B g4.symm
    have a2 : ((S1 ++ A1) ++ B).Perm (A1 ++ (S1 ++ B)) := by
      rw [List.append_assoc]
      exact (List.Perm.append_left S1 List.perm_append_comm).trans (by rw [← List.append_assoc]; exact List.perm_append_comm)
    have a3 : (A1 ++ (S1 ++ B)).Perm (A1 ++ (S2 ++ B1)) := List.Perm.append_left A1 f4.symm
    have a4 : (A1 ++ (S2 ++ B1)).Perm (S2 ++ (A1 ++ B1)) := by
      rw [← List.append_assoc, ← List.append_assoc]
      exact List.Perm.append_right B1 List.perm_append_comm
    exact a1.trans (a2.trans (a3.trans a4))
  have hRm := (Links.all I hl hm).2.1.perm hp2
  refine ⟨h3, ?_, fun j K' S' hj => ?_⟩
  · rw [List.length_drop]; omega
  -- one stays, perhaps
  obtain ⟨st, pr, e3, hst, hpr⟩ : ∃ st pr, S2 = st ++ pr ∧ S2.take (S2.length % 2) = st ∧ S2.drop (S2.length % 2) = pr := ⟨_, _, (List.take_append_drop _ _).symm, rfl, rfl⟩
  have hst1 : st.length ≤ 1 := by rw [← hst, List.length_take]; omega
  rw [hst]
  rw [hpr] at hj
  have hstd : ∀ x ∈ st, (K x).length = d := fun x hx => f3 x (by rw [e3]; simp [hx])
  have hprd : ∀ x ∈ pr, (K x).length = d := fun x hx => f3 x (by rw [e3]; simp [hx])
  have hp3 : m.Perm ((R ++ st) ++ (pr ++ (A1 ++ B1))) := by rw [e3] at hp2; simpa [List.append_assoc] using hp2
  have hR3 := (Links.all I hl hm).2.1.perm hp3
  have hdone : ∀ x ∈ R ++ st, (K x).length < d + 1 := fun x hx => by
    rcases List.mem_append.1 hx with e | e
    · have := h.done x e; omega
    · have := hstd x e; omega
  have hrise : (R ++ st).Pairwise fun x y => (K x).length < (K y).length := by
    rw [List.pairwise_append]
    refine ⟨h.rise, ?_, fun x hx y hy => by have := h.done x hx; have := hstd y hy; omega⟩
    match st, hst1 with
    | [], _ => exact List.Pairwise.nil
    | [x], _ => exact List.pairwise_singleton _ _
    | x :: y :: r, h => simp at h
  -- a link of two of them
  have hlink : ∀ x y, (pr = [x, y] ∨ pr = [y, x]) → lt y x = false → CLoop n (fun a b => lt a b = true) K0 L0 (k + 1) (linkK K x y) (d + 1) (R ++ st) [x] A1 B1 := by
    intro x y hxy hno
    have hperm : m.Perm (x :: y :: ((R ++ st) ++ (A1 ++ B1))) := by
      refine hp3.trans ?_
      have a1 : ((R ++ st) ++ (pr ++ (A1 ++ B1))).Perm (pr ++ ((R ++ st) ++ (A1 ++ B1))) := by
        rw [← List.append_assoc (R ++ st) pr, ← List.append_assoc pr]
        exact List.Perm.append_right _ List.perm_append_comm
      refine a1.trans ?_
      rcases hxy with e | e
      · rw [e]; exact List.Perm.refl _
      · rw [e]; exact List.Perm.swap _ _ _
    have hx : x ∈ pr := by rcases hxy with e | e <;> simp [e]
    have hy : y ∈ pr := by rcases hxy with e | e <;> simp [e]
    have hnd := (hR3.perm (hp3.symm.trans hperm)).nodup
    obtain ⟨n1, n2⟩ := List.nodup_cons.1 hnd
    have hoff : ∀ z, z ∈ (R ++ st) ++ (A1 ++ B1) → linkK K x y z = K z := fun z hz => by
      unfold linkK
      rw [if_neg (fun e : z = x => n1 (by rw [← e]; exact List.mem_cons_of_mem _ hz))]
    have hself : (linkK K x y x).length = d + 1 := by
      unfold linkK; rw [if_pos rfl, List.length_append, hprd x hx]; rfl
    refine ⟨⟨_, Links.link hm hperm (by rw [hprd x hx, hprd y hy]) (by rw [hno]; exact Bool.false_ne_true), ?_⟩, fun z hz => ?_, ?_, fun z hz => ?_, ?_, ?_, fun z hz => ?_, fun z hz => ?_⟩
    · show (x :: ((R ++ st) ++ (A1 ++ B1))).Perm ((R ++ st) ++ (x :: (A1 ++ B1)))
      exact List.perm_middle.symm
    · rw [hoff z (List.mem_append.2 (Or.inl hz))]; exact hdone z hz
    · refine hrise.imp_of_mem fun {a b} ha hb hab => ?_
      rw [hoff a (List.mem_append.2 (Or.inl ha)), hoff b (List.mem_append.2 (Or.inl hb))]; exact hab
    · rw [List.mem_singleton.1 hz]; exact hself
    · refine g2.imp_of_mem fun {a b} ha hb hab => ?_
      rw [hoff a (by simp [ha]), hoff b (by simp [hb])]; exact hab
    · refine f2.imp_of_mem fun {a b} ha hb hab => ?_
      rw [hoff a (by simp [ha]), hoff b (by simp [hb])]; exact hab
    · rw [hoff z (by simp [hz])]; exact g1 z hz
    · rw [hoff z (by simp [hz])]; exact f1 z hz
  generalize hprn : pr = pr' at *
  cases hj with
  | none => exact ⟨⟨⟨m, hm, by simpa using hp3⟩, hdone, hrise, fun x h => (by cases h), g2, f2, g1, f1⟩, Nat.zero_le _⟩
  | first hno => exact ⟨hlink _ _ (Or.inl rfl) hno, Nat.le_refl _⟩
  | second hyes => exact ⟨hlink _ _ (Or.inr rfl) (hlt _ _ hyes), Nat.le_refl _⟩
/-- At the end there is a row of roots. -/
theorem CLoop.fin (I : CInv n K0) {L0 : List Int} (hl : Roots n K0 L0) {k d : Nat} {R : List Int} (h : CLoop n ahead K0 L0 k K d R [] [] []) :
    (∃ m, Links n ahead K0 L0 k K m ∧ m.Perm R) ∧ RowK n K R := by
  obtain ⟨I', hr⟩ := h.roots I hl
  obtain ⟨m, h1, h2⟩ := h.links
  simp only [List.append_nil] at h2 hr
  exact ⟨⟨m, h1, h2⟩, hr.inn, hr.top, h.rise⟩
theorem CLoop.bound (I : CInv n K0) {L0 : List Int} (hl : Roots n K0 L0) (hn : n ≤ 65536) {k d : Nat} {R S A B : List Int} (h : CLoop n ahead K0 L0 k K d R S A B) (hne : 0 < A.length + B.length + S.length) : d ≤ 16 := by
  obtain ⟨I', _⟩ := h.roots I hl
  have hex : ∃ x, d ≤ (K x).length := by
    cases S with
    | cons x r => exact ⟨x, by rw [h.wait x (by simp)]; exact Nat.le_refl _⟩
    | nil =>
      cases A with
      | cons x r => exact ⟨x, h.geA x (by simp)⟩
      | nil =>
        cases B with
        | cons x r => exact ⟨x, h.geB x (by simp)⟩
        | nil => simp at hne
  obtain ⟨x, hx⟩ := hex
  exact Nat.le_trans hx (deg_16 I' hn x)
end
end Go.Proofs.YtkcicnflcilekaaGreat

namespace Go.Proofs.YtkcicnflcilekaaGreat
open Go.RowKit Go.Sort

section
variable {w : World}
theorem index_any (l : List Int) (a : Option Addr) (c : Nat) (hc : l.length ≤ c ∧ c ≤ 9223372036854775807) (hl : IntsAt w .i64 a l) (x : Int) :
    Calls Tryz.prog 195 #[.slice a l.length c, .int .i64 x] w fun e w' => ∃ z, e = .returned (.int .i64 z) ∧ (0 ≤ z ↔ x ∈ l) ∧ w = w' := by
  obtain ⟨hc1, hc2⟩ := hc
  have hall : (∀ i, i < l.length → l.getD i 0 ≠ x) → x ∉ l := fun h hx => by
    obtain ⟨i, hi, e⟩ := List.getElem_of_mem hx
    exact h i hi (by simpa [List.getD_eq_getElem?_getD, hi] using e)
  go_enter Tryz.func195, Tryz.ntmps195
  go_wp2_with fail
  go_loopw [8] (fun i wr => ∃ j : Nat, i = .int .i64 j ∧ j ≤ l.length ∧ (∀ i, i < j → l.getD i 0 ≠ x) ∧ w = wr) (fun i _ => l.length - (intOf i).toNat)
  case atStart => exact ⟨0, rfl, Nat.zero_le _, fun i hi => absurd hi (Nat.not_lt_zero _), rfl⟩
  case round =>
    obtain ⟨j, rfl, hj, hno, rfl⟩ := hrel
    by_cases hjn : j < l.length
    · have hji : (j : Int) < l.length := by omega
      obtain ⟨gb, o, rfl, u0⟩ := hl j hjn
      have hm := mem_getD' l j 0 hjn
      by_cases e : l.getD j 0 = x
      · rw [e] at u0 hm
        clear hl hall hno e
        generalize l.length = m at *
        go_wp2_with fail
        go_ret
        exact ⟨j, rfl, ⟨fun _ => hm, fun _ => by omega⟩, rfl⟩
      · have e' : (x == l.getD j 0) = false := by simpa using fun h => e h.symm
        have hno2 : ∀ i, i < j + 1 → l.getD i 0 ≠ x := fun i hi => by
          by_cases e2 : i = j
          · rw [e2]; exact e
          · exact hno i (by omega)
        clear hl hall hno hm
        generalize l.getD j 0 = y at *
        generalize l.length = m at *
        go_wp2_with fail
        go_roundw
        case rel => exact ⟨j + 1, by go_num, by omega, hno2, trivial⟩
        case measure => simp [intOf]; omega
    · obtain rfl : j = l.length := by omega
      have hx := hall hno
      clear hl hall hno
      generalize l.length = m at *
      go_wp2_with fail
      go_ret
      exact ⟨-1, rfl, ⟨fun h => by omega, fun h => absurd h hx⟩, rfl⟩
theorem contains_any (l : List Int) (a : Option Addr) (c : Nat) (hc : l.length ≤ c ∧ c ≤ 9223372036854775807) (hl : IntsAt w .i64 a l) (x : Int) :
    Calls Tryz.prog 208 #[.slice a l.length c, .int .i64 x] w fun e w' => e = .returned (.bool (decide (x ∈ l))) ∧ w = w' := by
  have hI := index_any l a c hc hl x
  go_enter Tryz.func208, Tryz.ntmps208
  go_wp2_with fail
  refine hI.mono ?_
  rintro e w1 ⟨z, rfl, hz, rfl⟩
  have hd : decide (x ∈ l) = decide (0 ≤ z) := by
    by_cases h : 0 ≤ z
    · rw [decide_eq_true h, decide_eq_true (hz.1 h)]
    · rw [decide_eq_false h, decide_eq_false (fun e => h (hz.2 e))]
  replace hd := Lib.hid hd
  clear hI hz hl
  go_wp2_with fail
  go_ret
  exact ⟨by rw [hd.out]; rfl, rfl⟩
theorem share1_any (l : List Int) (a : Option Addr) (c b : Nat) (hc : l.length ≤ c ∧ c ≤ 9223372036854775807) (hl : IntsAt w .i64 a l) (hb : w.cell? ⟨b, 0, none⟩ = some (.slice a l.length c)) (x : Int) :
    Calls Tryz.prog 207 #[.int .i64 x, .pointer (some ⟨b, 0, none⟩)] w fun e w' => e = .returned (.bool (decide (x ∈ l))) ∧ w = w' := by
  have hI := contains_any l a c hc hl x
  clear hl
  generalize decide (x ∈ l) = B at *
  generalize l.length = m at *
  go_enter Tryz.func207, Tryz.ntmps207
  go_wp2_with fail
  refine hI.mono ?_
  rintro e w1 ⟨rfl, rfl⟩
  go_wp2_with fail
  go_ret
  exact ⟨rfl, rfl⟩
theorem indexFunc_any (la lb : List Int) (a a' : Option Addr) (c c' b : Nat) (hc : la.length ≤ c ∧ c ≤ 9223372036854775807) (hl : IntsAt w .i64 a la) (hc' : lb.length ≤ c' ∧ c' ≤ 9223372036854775807) (hl' : IntsAt w .i64 a' lb) (hb : w.cell? ⟨b, 0, none⟩ = some (.slice a' lb.length c')) :
    Calls Tryz.prog 196 #[.slice a la.length c, .func (Fn.func 207) #[] #[.pointer (some ⟨b, 0, none⟩)]] w fun e w' => ∃ z, e = .returned (.int .i64 z) ∧ (0 ≤ z ↔ ∃ x ∈ la, x ∈ lb) ∧ w = w' := by
  obtain ⟨hc1, hc2⟩ := hc
  have hS := fun x => share1_any lb a' c' b hc' hl' hb x
  have hall : (∀ i, i < la.length → la.getD i 0 ∉ lb) → ¬ ∃ x ∈ la, x ∈ lb := fun h ⟨x, hx, hx2⟩ => by
    obtain ⟨i, hi, e⟩ := List.getElem_of_mem hx
    exact h i hi (by rw [show la.getD i 0 = x by simpa [List.getD_eq_getElem?_getD, hi] using e]; exact hx2)
  have hany : ∀ i, i < la.length → la.getD i 0 ∈ lb → ∃ x ∈ la, x ∈ lb := fun i hi h => ⟨_, mem_getD' la i 0 hi, h⟩
  clear hl' hb hc'
  go_enter Tryz.func196, Tryz.ntmps196
  go_wp2_with fail
  go_loopw [8] (fun i wr => ∃ j : Nat, i = .int .i64 j ∧ j ≤ la.length ∧ (∀ i, i < j → la.getD i 0 ∉ lb) ∧ w = wr) (fun i _ => la.length - (intOf i).toNat)
  case atStart => exact ⟨0, rfl, Nat.zero_le _, fun i hi => absurd hi (Nat.not_lt_zero _), rfl⟩
  case round =>
    obtain ⟨j, rfl, hj, hno, rfl⟩ := hrel
    by_cases hjn : j < la.length
    · have hji : (j : Int) < la.length := by omega
      obtain ⟨gb, o, rfl, u0⟩ := hl j hjn
      have hSj := hS (la.getD j 0)
      by_cases e : la.getD j 0 ∈ lb
      · have hm := hany j hjn e
        rw [decide_eq_true e] at hSj
        clear hl hall hno e hS hany
        generalize la.getD j 0 = y at *
        generalize la.length = m at *
        go_wp2_with fail
        refine hSj.mono ?_
        rintro e w1 ⟨rfl, rfl⟩
        go_wp2_with fail
        go_ret
        exact ⟨j, rfl, ⟨fun _ => hm, fun _ => by omega⟩, rfl⟩
      · have hno2 : ∀ i, i < j + 1 → la.getD i 0 ∉ lb := fun i hi => by
          by_cases e2 : i = j
          · rw [e2]; exact e
          · exact hno i (by omega)
        rw [decide_eq_false e] at hSj
        clear hl hall hno hS hany e
        generalize la.getD j 0 = y at *
        generalize la.length = m at *
        go_wp2_with fail
        refine hSj.mono ?_
        rintro e w1 ⟨rfl, rfl⟩
        go_wp2_with fail
        go_roundw
        case rel => exact ⟨j + 1, by go_num, by omega, hno2, trivial⟩
        case measure => simp [intOf]; omega
    · obtain rfl : j = la.length := by omega
      have hx := hall hno
      clear hl hall hno hS hany
      generalize la.length = m at *
      go_wp2_with fail
      go_ret
      exact ⟨-1, rfl, ⟨fun h => by omega, fun h => absurd h hx⟩, rfl⟩
theorem containsFunc_any (la lb : List Int) (a a' : Option Addr) (c c' b : Nat) (hc : la.length ≤ c ∧ c ≤ 9223372036854775807) (hl : IntsAt w .i64 a la) (hc' : lb.length ≤ c' ∧ c' ≤ 9223372036854775807) (hl' : IntsAt w .i64 a' lb) (hb : w.cell? ⟨b, 0, none⟩ = some (.slice a' lb.length c')) :
    Calls Tryz.prog 206 #[.slice a la.length c, .func (Fn.func 207) #[] #[.pointer (some ⟨b, 0, none⟩)]] w fun e w' => e = .returned (.bool (decide (∃ x ∈ la, x ∈ lb))) ∧ w = w' := by
  have hI := indexFunc_any la lb a a' c c' b hc hl hc' hl' hb
  go_enter Tryz.func206, Tryz.ntmps206
  go_wp2_with fail
  refine hI.mono ?_
  rintro e w1 ⟨z, rfl, hz, rfl⟩
  have hd : decide (∃ x ∈ la, x ∈ lb) = decide (0 ≤ z) := by
    by_cases h : 0 ≤ z
    · rw [decide_eq_true h, decide_eq_true (hz.1 h)]
    · rw [decide_eq_false h, decide_eq_false (fun e => h (hz.2 e))]
  replace hd := Lib.hid hd
  clear hI hz hl hl' hb
  go_wp2_with fail
  go_ret
  exact ⟨by rw [hd.out]; rfl, rfl⟩
/-- Is there a thing in both? -/
theorem share_any (la lb : List Int) (a a' : Option Addr) (c c' : Nat) (hc : la.length ≤ c ∧ c ≤ 9223372036854775807) (hl : IntsAt w .i64 a la) (hc' : lb.length ≤ c' ∧ c' ≤ 9223372036854775807) (hl' : IntsAt w .i64 a' lb) :
    Calls Tryz.prog 200 #[.slice a la.length c, .slice a' lb.length c'] w fun e w' => e = .returned (.bool (decide (∃ x ∈ la, x ∈ lb))) ∧ Below w.heap.size w w' := by
  have hs := (Stage.start w).alloc #[.slice a' lb.length c'] 75
  have hb := hs.below
  have hlat : ∀ (l : List Int) (a : Option Addr), IntsAt w .i64 a l → IntsAt (w.alloc (.cells #[.slice a' lb.length c'] 75)) .i64 a l := fun l a h i hi => by
    obtain ⟨b, o, e, h1⟩ := h i hi
    exact ⟨b, o, e, later hb h1⟩
  have hC := containsFunc_any la lb a a' c c' w.heap.size hc (hlat _ _ hl) hc' (hlat _ _ hl') (hs.cell 0 rfl rfl)
  have hmf : ∀ (fn : Go.Fn) (first cap : Array Value) (w : World), (Instr.makeFunc fn first cap).run Tryz.prog w = .ok (.func fn first cap) w := fun _ _ _ _ => rfl
  clear hs hlat hl hl' hc hc'
  generalize decide (∃ x ∈ la, x ∈ lb) = B at *
  generalize la.length = m at *
  generalize lb.length = m' at *
  go_enter Tryz.func200, Tryz.ntmps200
  go_wp2_with fail
  refine hC.mono ?_
  rintro e w1 ⟨rfl, rfl⟩
  go_wp2_with fail
  go_ret
  exact ⟨rfl, hb⟩
end
end Go.Proofs.YtkcicnflcilekaaGreat
