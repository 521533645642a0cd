/- Merged of LeftistJoin, Ints, SpineLists. -/
import Derived.Test.YthjelmbicnbhiaaRow
import Derived.Test.YthjelmbicnbhiaaSpineCalls2
import Derived.Test.YthjelmbicnbhiaaSpineObj
import Derived.Test.YthjelmbicnbhiaaProg
namespace Go.Proofs.Ythjelmbicnbhiaa

/-- The rank of whatever hangs in a place. -/
def oR (R : List Int) (o : Option Int) : Int := if o.isSome then rkL R (o.getD 0) else 0
theorem oR_none (R : List Int) : oR R none = 0 := rfl
theorem oR_some (R : List Int) (x : Int) : oR R (some x) = rkL R x := rfl
def setL (L : List Hg) (R : List Int) (x : Int) : List Hg := if oR R (kidL L x false) < oR R (kidL L x true) then turnL L x else L
def setR (L : List Hg) (R : List Int) (x : Int) : Int := 1 + min (oR R (kidL L x false)) (oR R (kidL L x true))
section
variable {n : Nat} {L : List Hg} {R : List Int}
theorem oR_spine {t : Tr} {o : Option Int} (h : RepT (kidL L) o t) (hr : Tr.Ranked (rkL R) t) : oR R o = Tr.spine t := by
  cases t with
  | nil => rw [show o = none from h]; rfl
  | node x a b => rw [h.1, oR_some]; exact hr.1
theorem hang_kids {a m : Int} {s : Bool} (h : kidL L a s = none) (q : Int) (r : Bool) : kidL (L ++ [⟨a, m, s⟩]) q r = if q = a ∧ r = s then some m else kidL L q r := by
  rw [kid_append]
  show (kidL L q r).or (if a = q ∧ s = r then some m else none) = _
  by_cases e : q = a ∧ r = s
  · obtain ⟨rfl, rfl⟩ := e
    rw [h, if_pos ⟨rfl, rfl⟩]; rfl
  · rw [if_neg e, if_neg (fun h => e ⟨h.1.symm, h.2.symm⟩), Option.or_none]
theorem hang_ups {a m : Int} {s : Bool} (h : upL L m = none) (y : Int) : upL (L ++ [⟨a, m, s⟩]) y = if y = m then some a else upL L y := by
  rw [up_append]
  show (upL L y).or (if m = y then some a else none) = _
  by_cases e : y = m
  · subst e; rw [h, if_pos rfl]; rfl
  · rw [if_neg e, if_neg (fun h => e h.symm), Option.or_none]
/-- A slot's children come on their sides. -/
theorem set_tree (hR : R.length = n) {x : Nat} (hx : x < n) {a b : Tr} (ha : RepT (kidL L) (kidL L x false) a) (hb : RepT (kidL L) (kidL L x true) b) (ra : Tr.Ranked (rkL R) a) (rb : Tr.Ranked (rkL R) b) (na : (x : Int) ∉ a.slots) (nb : (x : Int) ∉ b.slots) :
    setR L R x = Tr.spine (Tr.mk x a b) ∧ RepT (kidL (setL L R x)) (some (x : Int)) (Tr.mk x a b) ∧ Tr.Ranked (rkL (R.set x (setR L R x))) (Tr.mk x a b) ∧ (∀ z, upL (setL L R x) z = upL L z) ∧
    (∀ z, z ≠ (x : Int) → (∀ s, kidL (setL L R x) z s = kidL L z s) ∧ rkL (R.set x (setR L R x)) z = rkL R z) := by
  have ea := oR_spine ha ra
  have eb := oR_spine hb rb
  have e1 : setR L R x = Tr.spine (Tr.mk x a b) := by unfold setR; rw [ea, eb, Tr.mk_spine]; omega
  have hrk : ∀ z, z ≠ (x : Int) → rkL (R.set x (setR L R x)) z = rkL R z := fun z hz => by rw [rk_set hR hx, if_neg hz]
  have hkid : ∀ z, z ≠ (x : Int) → ∀ s, kidL (setL L R x) z s = kidL L z s := fun z hz s => by
    unfold setL; split
    · rw [kid_turn, if_neg hz]
    · rfl
  have hra := Tr.ranked_congr (r' := rkL (R.set x (setR L R x))) (fun z hz => hrk z fun e => na (by rw [← e]; exact hz)) ra
  have hrb := Tr.ranked_congr (r' := rkL (R.set x (setR L R x))) (fun z hz => hrk z fun e => nb (by rw [← e]; exact hz)) rb
  refine ⟨e1, ?_, Tr.ranked_mk (by rw [rk_set hR hx, if_pos rfl]; exact e1) hra hrb, fun z => ?_, fun z hz => ⟨hkid z hz, hrk z hz⟩⟩
  · have ha' := rep_congr (kid' := kidL (setL L R x)) (fun z hz => hkid z fun e => na (by rw [← e]; exact hz)) ha
    have hb' := rep_congr (kid' := kidL (setL L R x)) (fun z hz => hkid z fun e => nb (by rw [← e]; exact hz)) hb
    by_cases hlt : Tr.spine a < Tr.spine b
    · have e : Tr.mk x a b = .node x b a := by unfold Tr.mk; rw [if_pos hlt]
      have e2 : setL L R x = turnL L x := by unfold setL; rw [ea, eb, if_pos (by omega)]
      rw [e2] at ha' hb' ⊢
      rw [e]
      refine ⟨rfl, ?_, ?_⟩
      · rw [kid_turn, if_pos rfl]; exact hb'
      · rw [kid_turn, if_pos rfl]; exact ha'
    · have e : Tr.mk x a b = .node x a b := Tr.mk_same (by omega)
      have e2 : setL L R x = L := by unfold setL; rw [ea, eb, if_neg (by omega)]
      rw [e2] at ha' hb' ⊢
      rw [e]
      exact ⟨rfl, ha', hb'⟩
  · unfold setL; split
    · exact up_turn L x z
    · rfl
/-- A tree is hung below a slot that stands by itself, at the right; the slot's children come on their sides. -/
theorem join_tree (_I : GInv n L) (hR : R.length = n) {x : Nat} (hx : x < n) {m : Int} {l M : Tr} (hk : kidL L x true = none) (hl : RepT (kidL L) (kidL L x false) l) (hM : Stands L (rkL R) M) (hm : M.top = some m) (hmn : inN n m) (hu : upL L x = none) (rl : Tr.Ranked (rkL R) l) (fl : Tr.Lef l)
    (nd : ((x : Int) :: (l.slots ++ M.slots)).Nodup) :
    hangB n L x m true = true ∧ ¬ aboveL L m x ∧ (∀ sd, 0 ≤ oR R (kidL (hangL n L x m true) x sd) ∧ oR R (kidL (hangL n L x m true) x sd) ≤ (Tr.size l + Tr.size M : Nat)) ∧
    Stands (setL (hangL n L x m true) R x) (rkL (R.set x (setR (hangL n L x m true) R x))) (Tr.mk x l M) ∧
    SameL ((x : Int) :: (l.slots ++ M.slots)) L (setL (hangL n L x m true) R x) (rkL R) (rkL (R.set x (setR (hangL n L x m true) R x))) := by
  have hxm : (x : Int) ≠ m := fun e => by
    rw [List.nodup_cons] at nd
    exact nd.1 (List.mem_append_right _ (by rw [e]; exact Tr.top_in hm))
  have hum := hM.root m hm
  have hB : hangB n L x m true = true := by
    unfold hangB
    rw [hum, hk, has_in.2 ⟨by omega, by omega⟩, has_in.2 hmn]
    simp [hxm]
  have hL : hangL n L x m true = L ++ [⟨x, m, true⟩] := by unfold hangL; rw [if_pos hB]
  have hab : ¬ aboveL L m x := fun h => hxm (above_top hu h).symm
  rw [hL]
  have hkids := hang_kids (m := m) hk
  have hups := hang_ups (a := (x : Int)) (s := true) hum
  rw [List.nodup_cons, List.mem_append, List.nodup_append] at nd
  obtain ⟨nx, nl, nM, napart⟩ := nd
  have e1 : kidL (L ++ [⟨x, m, true⟩]) x true = some m := by rw [hkids, if_pos ⟨rfl, rfl⟩]
  have e2 : kidL (L ++ [⟨x, m, true⟩]) x false = kidL L x false := by rw [hkids, if_neg (by simp)]
  have hko : ∀ z, z ≠ (x : Int) → ∀ s, kidL (L ++ [⟨x, m, true⟩]) z s = kidL L z s := fun z hz s => by rw [hkids, if_neg (fun h => hz h.1)]
  have hl' : RepT (kidL (L ++ [⟨x, m, true⟩])) (kidL (L ++ [⟨x, m, true⟩]) x false) l := by
    rw [e2]; exact rep_congr (fun z hz => hko z fun e => nx (Or.inl (by rw [← e]; exact hz))) hl
  have hM' : RepT (kidL (L ++ [⟨x, m, true⟩])) (kidL (L ++ [⟨x, m, true⟩]) x true) M := by
    rw [e1]; exact rep_congr (fun z hz => hko z fun e => nx (Or.inr (by rw [← e]; exact hz))) (hM.rep' hm)
  have e3 := oR_spine hl' rl
  have e4 := oR_spine hM' hM.rank
  obtain ⟨s1, s2, s3, s4, s5⟩ := set_tree hR hx hl' hM' rl hM.rank (fun h => nx (Or.inl h)) (fun h => nx (Or.inr h))
  refine ⟨hB, hab, fun sd => ?_, ⟨by rw [Tr.mk_top]; exact s2, s3, Tr.mk_lef fl hM.lef, fun z hz => ?_, ?_⟩, ⟨fun z hz s => ?_, fun z hz => ?_, fun z hz => ?_⟩⟩
  · have h1 := Tr.spine_size l
    have h2 := Tr.spine_size M
    cases sd
    · rw [e3]; omega
    · rw [e4]; omega
  · rw [Tr.mk_top] at hz
    cases hz
    rw [s4, hups, if_neg hxm]; exact hu
  · rw [(Tr.mk_perm _ _ _).nodup_iff, List.nodup_cons, List.mem_append, List.nodup_append]
    exact ⟨nx, nl, nM, napart⟩
  · rw [(s5 z fun e => hz (by simp [e])).1 s, hko z fun e => hz (by simp [e])]
  · rw [s4, hups, if_neg fun e => hz (by rw [e]; exact List.mem_cons_of_mem _ (List.mem_append_right _ (Tr.top_in hm)))]
  · exact (s5 z fun e => hz (by simp [e])).2
/-- A child comes off: it stands by itself, and the place is free. -/
theorem off_tree (I : GInv n L) {x y : Int} {sd : Bool} {t : Tr} (hk : kidL L x sd = some y) (ht : RepT (kidL L) (some y) t) (hx : x ∉ t.slots) :
    kidL (cutL L y) x sd = none ∧ kidL (cutL L y) x (!sd) = kidL L x (!sd) ∧ RepT (kidL (cutL L y)) (some y) t ∧ upL (cutL L y) y = none ∧ (∀ z, z ≠ y → upL (cutL L y) z = upL L z) ∧ ∀ z, z ≠ x → ∀ s, kidL (cutL L y) z s = kidL L z s := by
  have hc := cut_kids I hk
  refine ⟨by rw [hc, if_pos ⟨rfl, rfl⟩], by rw [hc, if_neg (by cases sd <;> simp)], rep_congr (fun z hz s => by rw [hc, if_neg (fun h => hx (by rw [← h.1]; exact hz))]) ht, by rw [up_cut, if_pos rfl], fun z hz => by rw [up_cut, if_neg hz], fun z hz s => by rw [hc, if_neg (fun h => hz h.1)]⟩
end
end Go.Proofs.Ythjelmbicnbhiaa

namespace Go.Proofs.Ythjelmbicnbhiaa
open Go.RowKit Go.Sort

def intC (x : Int) : List Value := [.int .i64 x]
theorem intC_len : ∀ x, (intC x).length = 1 := fun _ => rfl
theorem intC_set (l : List Int) (i : Nat) (x : Int) : (cellsBy intC l).set i (.int .i64 x) = cellsBy intC (l.set i x) := by
  have e : ∀ m : List Int, cellsBy intC m = m.map fun x : Int => Value.int .i64 x := fun m => by
    induction m with
    | nil => rfl
    | cons a r ih => rw [cellsBy_cons, ih]; rfl
  rw [e, e, List.map_set]
theorem intC_one (u : Value) (l : List Int) (h : u ∈ cellsBy intC l) : ∃ x, u = .int .i64 x := by
  simp only [cellsBy, List.mem_flatMap, intC, List.mem_singleton] at h
  obtain ⟨x, _, rfl⟩ := h
  exact ⟨x, rfl⟩
theorem owns_short {w : World} {base : Nat} {e : TypeId} {size g n cap m : Nat} {xs : List Value} (h : w.ownsRow base e size (.slice (some ⟨g, 0, none⟩) n cap) n xs) (hm : m ≤ n) : w.ownsRow base e size (.slice (some ⟨g, 0, none⟩) m cap) m (xs.take (m * size)) := by
  obtain ⟨h1, ⟨h2, _⟩ | ⟨g', cap', cur, hv, hg, hh, hle, hmax, hs, hx⟩⟩ := h
  · cases h2
  · injection hv with e1 e2 e3
    injection e1 with e1
    injection e1 with e1
    subst e1 e3
    have hms : m * size ≤ n * size := Nat.mul_le_mul_right _ hm
    refine ⟨by rw [List.length_take, h1]; omega, Or.inr ⟨_, _, cur, rfl, hg, hh, Nat.le_trans hm hle, hmax, hs, ?_⟩⟩
    rw [← hx, List.take_take, Nat.min_eq_left hms]
theorem sinfo_int : (Try.prog.info? 3).map (fun i => (i.zero, i.size, i.bytes)) = some (some (.int .i64 0), 1, 8) := by kernel_rfl
theorem szero_int (w : World) : (zeroValue 3).run Try.prog w = .ok (.int .i64 0) w := by kernel_rfl
/-- A row of integers that is someone's. -/
abbrev Ob.ints (v : Value) (l : List Int) : Ob := Ob.row 0 3 1 v l.length (cellsBy intC l)
namespace Stage
variable {F0 : Nat → Prop} {W w : World} {l : List Ob} {v : Value} {xs : List Int}
theorem intsForm (h : Stage F0 W l w) (i : Nat) (hi : l[i]? = some (Ob.ints v xs)) : ∃ a c, v = .slice a xs.length c ∧ xs.length ≤ c ∧ c ≤ 9223372036854775807 := by
  obtain ⟨a, c, h1, h2, h3⟩ := owns_form (h.owns i hi)
  exact ⟨a, c, h1, h2, by unfold maxLen at h3; omega⟩
theorem intsAt (h : Stage F0 W l w) (i : Nat) (hi : l[i]? = some (Ob.ints v xs)) (hn : 0 < xs.length) : ∃ g c, v = .slice (some ⟨g, 0, none⟩) xs.length c ∧ xs.length ≤ c ∧ c ≤ 9223372036854775807 ∧ g < w.heap.size ∧ (∀ j, j < xs.length → w.cell? ⟨g, j, none⟩ = some (.int .i64 (xs.getD j 0))) ∧ ∀ o, w.frozen? ⟨g, o, none⟩ = false := by
  obtain ⟨g, c, hv, h1, h2, _, h4, hc, hf⟩ := owns_at intC_len 0 (h.owns i hi) rfl hn
  refine ⟨g, c, hv, h1, by unfold maxLen at h2; omega, h4, fun j hj => ?_, hf⟩
  have := hc j 0 _ hj (by omega) rfl
  rwa [Nat.mul_one, Nat.add_zero] at this
/-- 'append(row, x)' at the operation, x written out in a block just made. -/
theorem wp_appendInt {P : Program} {ops : Array Oper} {rest : List Oper} {o : Oper} {a : Act} {Q : Exit → Act → World → Prop} {b : Nat} {x : Int} (hs : Stage F0 W l w) (i : Nat) (hi : l[i]? = some (Ob.ints v xs)) (hb : w.heap.size = b) (hgd : o.guard = none) (s y : Operand) (t : TypeId)
    (ho : o.op = .call { callee := .builtin .append, args := #[s, y], argTypes := #[t, t] }) (ht : P.underlying t = some (.slice 3)) (hinfo : (P.info? 3).map (fun i => (i.zero, i.size, i.bytes)) = some (some (.int .i64 0), 1, 8))
    (hv : a.eval s = v) (hx : a.eval y = .slice (some ⟨b, 0, none⟩) 1 1) (hlen : xs.length ≤ 1000000)
    (hK : ∀ v' w', Stage F0 W (l.set i (Ob.ints v' (xs ++ [x]))) w' → wpList P ops Q rest (a.put o.dst v') w') : wpList P ops Q (o :: rest) a (w.alloc (.cells #[.int .i64 x] 3)) := by
  subst hb
  have hA := hs.later ((Below.refl _ w).alloc (Nat.le_refl _) (.cells #[.int .i64 x] 3))
  refine hA.wp_append i hi hgd s y t ho (.int .i64 0) 8 ht hinfo rfl (by decide) (Nat.zero_le _) hv _ 1 [.int .i64 x] hx (reads_new w #[.int .i64 x] _ 1 1 _ rfl rfl) (by intro u hu; simp at hu; subst hu; rfl) (by unfold maxLen; omega) (by omega) fun v' w' h1 _ => hK v' w' ?_
  have e1 : cellsBy intC xs ++ [.int .i64 x] = cellsBy intC (xs ++ [x]) := by rw [cellsBy_append]; rfl
  have e2 : xs.length + 1 = (xs ++ [x]).length := by simp
  rw [e1, e2] at h1
  exact h1
/-- 'append(row, other...)' at the operation. -/
theorem wp_appendInts {P : Program} {ops : Array Oper} {rest : List Oper} {o : Oper} {a : Act} {Q : Exit → Act → World → Prop} {u : Value} {ys : List Int} (hs : Stage F0 W l w) (i : Nat) (hi : l[i]? = some (Ob.ints v xs)) (j : Nat) (hj : l[j]? = some (Ob.ints u ys)) (hgd : o.guard = none) (s y : Operand) (t : TypeId)
    (ho : o.op = .call { callee := .builtin .append, args := #[s, y], argTypes := #[t, t] }) (ht : P.underlying t = some (.slice 3)) (hinfo : (P.info? 3).map (fun i => (i.zero, i.size, i.bytes)) = some (some (.int .i64 0), 1, 8))
    (hv : a.eval s = v) (hx : a.eval y = u) (hlen : xs.length + ys.length ≤ 1000000)
    (hK : ∀ v' w', Stage F0 W (l.set i (Ob.ints v' (xs ++ ys))) w' → wpList P ops Q rest (a.put o.dst v') w') : wpList P ops Q (o :: rest) a w := by
  refine hs.wp_append i hi hgd s y t ho (.int .i64 0) 8 ht hinfo rfl (by decide) (Nat.zero_le _) hv _ ys.length (cellsBy intC ys) hx (reads_own (hs.owns j hj)) (fun z hz => by obtain ⟨q, rfl⟩ := intC_one z ys hz; rfl) (by unfold maxLen; omega) (by omega) fun v' w' h1 _ => hK v' w' ?_
  have e2 : xs.length + ys.length = (xs ++ ys).length := by simp
  rw [← cellsBy_append, e2] at h1
  exact h1
/-- A call that only looks at one thing, and makes another one. -/
theorem askNew {α : Type} {P : Program} {f : FuncId} {args : Array Value} {O : Ob} {r : α → Value} {O' : α → Ob} (h : Stage F0 W l w) (i : Nat) (hi : l[i]? = some O) (hc : ∀ F, O.holds w F → Calls P f args w fun e w' => ∃ a, e = .returned (r a) ∧ ∃ G, (O' a).holds w' G ∧ (∀ k, G k → w.heap.size ≤ k) ∧ Below w.heap.size w w') :
    Calls P f args w fun e w' => ∃ a, e = .returned (r a) ∧ Stage F0 W (l ++ [O' a]) w' := by
  obtain ⟨F, ho⟩ := h.get hi
  exact (hc F ho).mono fun e w' ⟨a, he, G, h1, h2, h3⟩ => ⟨a, he, h.add h3 h1 h2⟩
end Stage
end Go.Proofs.Ythjelmbicnbhiaa

namespace Go.Proofs.Ythjelmbicnbhiaa
open Go.RowKit Go.Sort

/-- What is topmost; 0, if there is no such thing. -/
def topI (n : Nat) (L : List Hg) (x : Int) : Int := if hasN n x then rootN L n x else 0
theorem sp_has_no {n : Nat} {x : Int} (h : ¬ inN n x) : hasN n x = false := Bool.eq_false_iff.2 fun e => h (has_in.1 e)
section
variable {w : World} {p n : Nat} {L : List Hg} {F : Nat → Prop}
/-- The right side; none, if there is no such thing. -/
def sideI (n : Nat) (L : List Hg) (x : Int) : List Int := if hasN n x then sideL L n x else []
def allI (n : Nat) (L : List Hg) (x : Int) : List Int := if hasN n x then allL L n x else []
theorem side_le (L : List Hg) : ∀ (k : Nat) (x : Int), (sideL L k x).length ≤ k
  | 0, _ => Nat.le_refl _
  | k + 1, x => by
    rw [sideL, List.length_cons]
    cases kidL L x true with
    | none => simp
    | some c => have := side_le L k c; simp only [Option.elim]; omega
theorem nodup_int (n : Nat) (l : List Int) (hd : l.Nodup) (h : ∀ x ∈ l, inN n x) : l.length ≤ n := by
  have := nodup_bound n (l.map Int.toNat) (by
    rw [List.nodup_iff_pairwise_ne, List.pairwise_map]
    refine hd.imp_of_mem ?_
    intro a b ha hb hne e
    have h1 := h a ha
    have h2 := h b hb
    unfold inN at h1 h2
    omega) (fun y hy => by
      obtain ⟨k, hk, rfl⟩ := List.mem_map.1 hy
      have := h k hk
      unfold inN at this
      omega)
  simpa using this
theorem all_le (I : GInv n L) {x : Int} (hx : inN n x) : (allL L n x).length ≤ n := nodup_int n _ (all_nodup I hx) fun _ h => all_in I hx h
/-- A list that was just made. -/
def ListPost (w : World) (l : List Int) (e : Ending) (w' : World) : Prop := ∃ v, e = .returned v ∧ ∃ G, (Ob.ints v l).holds w' G ∧ (∀ k, G k → w.heap.size ≤ k) ∧ Below w.heap.size w w'
theorem list_close {v : Value} {l : List Int} {w w' : World} (h : Stage (fun _ => False) w [Ob.ints v l] w') : ListPost w l (.returned v) w' := by
  obtain ⟨hk, G, h1, h2, h3⟩ := h
  exact ⟨v, rfl, G 0, h1 0 _ rfl, fun k hb => (h3 0 k hb).1.elim False.elim id, hk.below (Nat.le_refl _) (fun _ h => h.elim)⟩
def lenV (v : Value) : Nat := match v with | .slice _ n _ => n | _ => 0
def curO (L : List Hg) (n : Nat) (o : Option Int) : List Int := o.elim [] (sideL L n)
set_option maxHeartbeats 1000000 in
theorem spine_sp (x : Int) (h : (Ob.spine p n L).holds w F) : Calls Try.prog 44 #[.pointer (some ⟨p, 0, none⟩), .int .i64 x] w (ListPost w (sideI n L x)) := by
  obtain ⟨v, I, hn, hg⟩ := h
  have hs := Ob.group.open hg
  have hH := sp_has (q := []) hs x
  have hU := fun wx (hb : Below w.heap.size w wx) y => sp_right (q := []) (hs.later hb) I hn y
  have hc := fun wx (hb : Below w.heap.size w wx) => sp_c0 (q := []) (hs.later hb)
  have c0 := hc w (Below.refl _ _)
  obtain ⟨o0, ho0⟩ : ∃ o0 : Option Int, hasN n x = o0.isSome ∧ (∀ y, o0 = some y → x = y) ∧ sideI n L x = curO L n o0 ∧ ∀ y, o0 = some y → inN n y := by
    by_cases hx : inN n x
    · exact ⟨some x, has_in.2 hx, fun y e => by cases e; rfl, by unfold sideI; rw [has_in.2 hx]; rfl, fun y e => by cases e; exact hx⟩
    · exact ⟨none, sp_has_no hx, fun y e => (by cases e), by unfold sideI; rw [sp_has_no hx]; rfl, fun y e => by cases e⟩
  obtain ⟨h1, h2, h3, h4⟩ := ho0
  rw [h1] at hH
  rw [h3]
  have hle : (curO L n o0).length ≤ n := by
    cases o0 with
    | none => simp [curO]
    | some y => exact side_le L n y
  have hnext : ∀ y, inN n y → curO L n (some y) = y :: curO L n (kidL L y true) ∧ ∀ z, kidL L y true = some z → inN n z := fun y hy => ⟨side_eq I hy, fun z e => (kid_in I e).1⟩
  have hnone : curO L n none = [] := rfl
  generalize hT : curO L n o0 = T at *
  replace hT := Lib.hid hT
  obtain ⟨a, c, rfl, hc1, hc2⟩ := sp_form (q := []) hs
  have hN := (Stage.start w).nilRow 0 3 1
  replace hN : Stage (fun _ => False) w [Ob.ints (.slice none 0 0) []] w := hN
  clear hs hg I h1 h3
  generalize kidL L = kid at *
  generalize curO L n = cur at *
  go_enter Try.func44, Try.ntmps44
  go_wp2_with fail
  refine hH.mono ?_
  rintro e w1 ⟨rfl, rfl⟩
  clear hH
  go_wp2_with fail
  go_loopw [1, 5, 6] (fun y s b wr => ∃ (o : Option Int) (y0 : Int) (l : List Int) (vs : Value), y = .int .i64 y0 ∧ (∀ z, o = some z → y0 = z ∧ inN n z) ∧ s = vs ∧ b = .bool o.isSome ∧ T = l ++ cur o ∧ Stage (fun _ => False) w [Ob.ints vs l] wr) (fun _ s _ _ => n + 1 - lenV s)
  case atStart => exact ⟨o0, x, [], _, rfl, fun z e => ⟨h2 z e, h4 z e⟩, rfl, rfl, hT.out.symm, hN⟩
  case round =>
    clear hN c0 h2 h4 hT
    obtain ⟨o, y, l, vs, rfl, ho, rfl, rfl, hTl, hN⟩ := hrel
    have c0 := hc wr hN.below
    obtain ⟨a', c', rfl, hv1, hv2⟩ := hN.intsForm 0 rfl
    cases o with
    | none =>
      have hl := list_close hN
      rw [hnone, List.append_nil] at hTl
      subst hTl
      clear hnext hU hc ho hN
      generalize T.length = m at *
      go_wp2_with fail
      go_ret
      exact hl
    | some z =>
      obtain ⟨rfl, hy⟩ := ho z rfl
      obtain ⟨e1, e2⟩ := hnext y hy
      rw [e1] at hTl
      have hlt : l.length < n := by rw [hTl] at hle; simp at hle; omega
      have hli : (l.length : Int) < n := by omega
      have hT2 := Lib.hid (show T = (l ++ [y]) ++ cur (kid y true) by rw [hTl]; simp)
      clear hTl e1 ho
      generalize hm : l.length = m at *
      go_wp2_with (at_builtin; refine hN.wp_appendInt (x := y) 0 rfl rfl rfl _ _ 67 rfl Try.underlying67 sinfo_int rfl rfl (by omega) ?_)
      intro v2 w2 hN2
      replace hN2 : Stage (fun _ => False) w [Ob.ints v2 (l ++ [y])] w2 := hN2
      have hR := hU w2 hN2.below y
      have hlen : (l ++ [y]).length = m + 1 := by simp [hm]
      have hv2 := hN2.intsForm 0 rfl
      rw [hlen] at hv2
      obtain ⟨a2, c2, rfl, _, _⟩ := hv2
      clear hnext hU hc hN hnone hm
      generalize kid y true = o2 at *
      go_wp2_with fail
      refine hR.mono ?_
      rintro e w3 ⟨rfl, rfl⟩
      clear hR
      go_wp2_with fail
      go_roundw
      case rel => exact ⟨o2, _, l ++ [y], _, rfl, fun z e => by subst e; exact ⟨rfl, e2 z rfl⟩, rfl, rfl, hT2.out, hN2⟩
      case measure => simp [lenV]; omega
/-- What a stack of tops has yet to give: the last one first. -/
def restL (L : List Hg) (n : Nat) (s : List Int) : List Int := s.reverse.flatMap (allL L n)
theorem rest_one (L : List Hg) (n : Nat) (x : Int) : restL L n [x] = allL L n x := by simp [restL]
theorem rest_pop (I : GInv n L) {s : List Int} {y : Int} (hy : inN n y) : restL L n (s ++ [y]) = y :: restL L n (s ++ (kidL L y true).toList ++ (kidL L y false).toList) := by
  unfold restL
  rw [List.reverse_append, List.reverse_append, List.reverse_append, List.flatMap_append, List.flatMap_append, List.flatMap_append]
  have e : ∀ o : Option Int, o.toList.reverse.flatMap (allL L n) = o.elim [] (allL L n) := fun o => by cases o <;> simp
  rw [e, e]
  simp only [List.reverse_cons, List.reverse_nil, List.nil_append, List.flatMap_cons, List.flatMap_nil, List.append_nil]
  rw [all_eq I hy]
  simp
theorem rest_pos (I : GInv n L) {s : List Int} (h : ∀ y ∈ s, inN n y) (h0 : s ≠ []) : 0 < (restL L n s).length := by
  obtain ⟨t, y, rfl⟩ : ∃ t y, s = t ++ [y] := ⟨s.dropLast, s.getLast h0, (List.dropLast_concat_getLast h0).symm⟩
  rw [rest_pop I (h y (by simp))]
  simp
theorem rest_mono (I : GInv n L) {s : List Int} (h : ∀ y ∈ s, inN n y) : s.length ≤ (restL L n s).length := by
  unfold restL
  rw [← List.length_reverse]
  have h' : ∀ y ∈ s.reverse, inN n y := fun y hy => h y (by simpa using hy)
  generalize s.reverse = r at h'
  induction r with
  | nil => simp
  | cons a r ih =>
    have := ih (fun y hy => h' y (by simp [hy]))
    rw [List.flatMap_cons, List.length_append, List.length_cons, all_eq I (h' a (by simp)), List.length_cons]
    omega
end
end Go.Proofs.Ythjelmbicnbhiaa
