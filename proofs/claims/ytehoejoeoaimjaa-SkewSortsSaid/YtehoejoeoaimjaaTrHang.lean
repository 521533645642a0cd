/- Merged of Ints, SpineLists, TrHang. -/
import Derived.Test.YtehoejoeoaimjaaSpineObj
import Derived.Test.YtehoejoeoaimjaaProg
import Derived.Test.YtehoejoeoaimjaaSpineCalls2
import Derived.Test.YtehoejoeoaimjaaSkewPotMath
namespace Go.Proofs.Ytehoejoeoaimjaa
open Go.RowKit Go.Sort

def intC (x : Int) : List Value := [.int .i64 x]
theorem intC_len : ∀ x, (intC x).length = 1 := fun _ => rfl
theorem intC_set (l : List Int) (i : Nat) (x : Int) : (cellsBy intC l).set i (.int .i64 x) = cellsBy intC (l.set i x) := by
  have e : ∀ m : List Int, cellsBy intC m = m.map fun x : Int => Value.int .i64 x := fun m => by
    induction m with
    | nil => rfl
    | cons a r ih => rw [cellsBy_cons, ih]; rfl
  rw [e, e, List.map_set]
theorem intC_one (u : Value) (l : List Int) (h : u ∈ cellsBy intC l) : ∃ x, u = .int .i64 x := by
  simp only [cellsBy, List.mem_flatMap, intC, List.mem_singleton] at h
  obtain ⟨x, _, rfl⟩ := h
  exact ⟨x, rfl⟩
theorem owns_short {w : World} {base : Nat} {e : TypeId} {size g n cap m : Nat} {xs : List Value} (h : w.ownsRow base e size (.slice (some ⟨g, 0, none⟩) n cap) n xs) (hm : m ≤ n) : w.ownsRow base e size (.slice (some ⟨g, 0, none⟩) m cap) m (xs.take (m * size)) := by
  obtain ⟨h1, ⟨h2, _⟩ | ⟨g', cap', cur, hv, hg, hh, hle, hmax, hs, hx⟩⟩ := h
  · cases h2
  · injection hv with e1 e2 e3
    injection e1 with e1
    injection e1 with e1
    subst e1 e3
    have hms : m * size ≤ n * size := Nat.mul_le_mul_right _ hm
    refine ⟨by rw [List.length_take, h1]; omega, Or.inr ⟨_, _, cur, rfl, hg, hh, Nat.le_trans hm hle, hmax, hs, ?_⟩⟩
    rw [← hx, List.take_take, Nat.min_eq_left hms]
theorem sinfo_int : (Try.prog.info? 3).map (fun i => (i.zero, i.size, i.bytes)) = some (some (.int .i64 0), 1, 8) := by kernel_rfl
theorem szero_int (w : World) : (zeroValue 3).run Try.prog w = .ok (.int .i64 0) w := by kernel_rfl
/-- A row of integers that is someone's. -/
abbrev Ob.ints (v : Value) (l : List Int) : Ob := Ob.row 0 3 1 v l.length (cellsBy intC l)
namespace Stage
variable {F0 : Nat → Prop} {W w : World} {l : List Ob} {v : Value} {xs : List Int}
theorem intsForm (h : Stage F0 W l w) (i : Nat) (hi : l[i]? = some (Ob.ints v xs)) : ∃ a c, v = .slice a xs.length c ∧ xs.length ≤ c ∧ c ≤ 9223372036854775807 := by
  obtain ⟨a, c, h1, h2, h3⟩ := owns_form (h.owns i hi)
  exact ⟨a, c, h1, h2, by unfold maxLen at h3; omega⟩
theorem intsAt (h : Stage F0 W l w) (i : Nat) (hi : l[i]? = some (Ob.ints v xs)) (hn : 0 < xs.length) : ∃ g c, v = .slice (some ⟨g, 0, none⟩) xs.length c ∧ xs.length ≤ c ∧ c ≤ 9223372036854775807 ∧ g < w.heap.size ∧ (∀ j, j < xs.length → w.cell? ⟨g, j, none⟩ = some (.int .i64 (xs.getD j 0))) ∧ ∀ o, w.frozen? ⟨g, o, none⟩ = false := by
  obtain ⟨g, c, hv, h1, h2, _, h4, hc, hf⟩ := owns_at intC_len 0 (h.owns i hi) rfl hn
  refine ⟨g, c, hv, h1, by unfold maxLen at h2; omega, h4, fun j hj => ?_, hf⟩
  have := hc j 0 _ hj (by omega) rfl
  rwa [Nat.mul_one, Nat.add_zero] at this
/-- 'append(row, x)' at the operation, x written out in a block just made. -/
theorem wp_appendInt {P : Program} {ops : Array Oper} {rest : List Oper} {o : Oper} {a : Act} {Q : Exit → Act → World → Prop} {b : Nat} {x : Int} (hs : Stage F0 W l w) (i : Nat) (hi : l[i]? = some (Ob.ints v xs)) (hb : w.heap.size = b) (hgd : o.guard = none) (s y : Operand) (t : TypeId)
    (ho : o.op = .call { callee := .builtin .append, args := #[s, y], argTypes := #[t, t] }) (ht : P.underlying t = some (.slice 3)) (hinfo : (P.info? 3).map (fun i => (i.zero, i.size, i.bytes)) = some (some (.int .i64 0), 1, 8))
    (hv : a.eval s = v) (hx : a.eval y = .slice (some ⟨b, 0, none⟩) 1 1) (hlen : xs.length ≤ 1000000)
    (hK : ∀ v' w', Stage F0 W (l.set i (Ob.ints v' (xs ++ [x]))) w' → wpList P ops Q rest (a.put o.dst v') w') : wpList P ops Q (o :: rest) a (w.alloc (.cells #[.int .i64 x] 3)) := by
  subst hb
  have hA := hs.later ((Below.refl _ w).alloc (Nat.le_refl _) (.cells #[.int .i64 x] 3))
  refine hA.wp_append i hi hgd s y t ho (.int .i64 0) 8 ht hinfo rfl (by decide) (Nat.zero_le _) hv _ 1 [.int .i64 x] hx (reads_new w #[.int .i64 x] _ 1 1 _ rfl rfl) (by intro u hu; simp at hu; subst hu; rfl) (by unfold maxLen; omega) (by omega) fun v' w' h1 _ => hK v' w' ?_
  have e1 : cellsBy intC xs ++ [.int .i64 x] = cellsBy intC (xs ++ [x]) := by rw [cellsBy_append]; rfl
  have e2 : xs.length + 1 = (xs ++ [x]).length := by simp
  rw [e1, e2] at h1
  exact h1
/-- 'append(row, other...)' at the operation. -/
theorem wp_appendInts {P : Program} {ops : Array Oper} {rest : List Oper} {o : Oper} {a : Act} {Q : Exit → Act → World → Prop} {u : Value} {ys : List Int} (hs : Stage F0 W l w) (i : Nat) (hi : l[i]? = some (Ob.ints v xs)) (j : Nat) (hj : l[j]? = some (Ob.ints u ys)) (hgd : o.guard = none) (s y : Operand) (t : TypeId)
    (ho : o.op = .call { callee := .builtin .append, args := #[s, y], argTypes := #[t, t] }) (ht : P.underlying t = some (.slice 3)) (hinfo : (P.info? 3).map (fun i => (i.zero, i.size, i.bytes)) = some (some (.int .i64 0), 1, 8))
    (hv : a.eval s = v) (hx : a.eval y = u) (hlen : xs.length + ys.length ≤ 1000000)
    (hK : ∀ v' w', Stage F0 W (l.set i (Ob.ints v' (xs ++ ys))) w' → wpList P ops Q rest (a.put o.dst v') w') : wpList P ops Q (o :: rest) a w := by
  refine hs.wp_append i hi hgd s y t ho (.int .i64 0) 8 ht hinfo rfl (by decide) (Nat.zero_le _) hv _ ys.length (cellsBy intC ys) hx (reads_own (hs.owns j hj)) (fun z hz => by obtain ⟨q, rfl⟩ := intC_one z ys hz; rfl) (by unfold maxLen; omega) (by omega) fun v' w' h1 _ => hK v' w' ?_
  have e2 : xs.length + ys.length = (xs ++ ys).length := by simp
  rw [← cellsBy_append, e2] at h1
  exact h1
/-- A call that only looks at one thing, and makes another one. -/
theorem askNew {α : Type} {P : Program} {f : FuncId} {args : Array Value} {O : Ob} {r : α → Value} {O' : α → Ob} (h : Stage F0 W l w) (i : Nat) (hi : l[i]? = some O) (hc : ∀ F, O.holds w F → Calls P f args w fun e w' => ∃ a, e = .returned (r a) ∧ ∃ G, (O' a).holds w' G ∧ (∀ k, G k → w.heap.size ≤ k) ∧ Below w.heap.size w w') :
    Calls P f args w fun e w' => ∃ a, e = .returned (r a) ∧ Stage F0 W (l ++ [O' a]) w' := by
  obtain ⟨F, ho⟩ := h.get hi
  exact (hc F ho).mono fun e w' ⟨a, he, G, h1, h2, h3⟩ => ⟨a, he, h.add h3 h1 h2⟩
end Stage
end Go.Proofs.Ytehoejoeoaimjaa

namespace Go.Proofs.Ytehoejoeoaimjaa
open Go.RowKit Go.Sort

/-- What is topmost; 0, if there is no such thing. -/
def topI (n : Nat) (L : List Hg) (x : Int) : Int := if hasN n x then rootN L n x else 0
theorem sp_has_no {n : Nat} {x : Int} (h : ¬ inN n x) : hasN n x = false := Bool.eq_false_iff.2 fun e => h (has_in.1 e)
section
variable {w : World} {p n : Nat} {L : List Hg} {F : Nat → Prop}
/-- The right side; none, if there is no such thing. -/
def sideI (n : Nat) (L : List Hg) (x : Int) : List Int := if hasN n x then sideL L n x else []
def allI (n : Nat) (L : List Hg) (x : Int) : List Int := if hasN n x then allL L n x else []
theorem side_le (L : List Hg) : ∀ (k : Nat) (x : Int), (sideL L k x).length ≤ k
  | 0, _ => Nat.le_refl _
  | k + 1, x => by
    rw [sideL, List.length_cons]
    cases kidL L x true with
    | none => simp
    | some c => have := side_le L k c; simp only [Option.elim]; omega
theorem nodup_int (n : Nat) (l : List Int) (hd : l.Nodup) (h : ∀ x ∈ l, inN n x) : l.length ≤ n := by
  have := nodup_bound n (l.map Int.toNat) (by
    rw [List.nodup_iff_pairwise_ne, List.pairwise_map]
    refine hd.imp_of_mem ?_
    intro a b ha hb hne e
    have h1 := h a ha
    have h2 := h b hb
    unfold inN at h1 h2
    omega) (fun y hy => by
      obtain ⟨k, hk, rfl⟩ := List.mem_map.1 hy
      have := h k hk
      unfold inN at this
      omega)
  simpa using this
theorem all_le (I : GInv n L) {x : Int} (hx : inN n x) : (allL L n x).length ≤ n := nodup_int n _ (all_nodup I hx) fun _ h => all_in I hx h
/-- A list that was just made. -/
def ListPost (w : World) (l : List Int) (e : Ending) (w' : World) : Prop := ∃ v, e = .returned v ∧ ∃ G, (Ob.ints v l).holds w' G ∧ (∀ k, G k → w.heap.size ≤ k) ∧ Below w.heap.size w w'
theorem list_close {v : Value} {l : List Int} {w w' : World} (h : Stage (fun _ => False) w [Ob.ints v l] w') : ListPost w l (.returned v) w' := by
  obtain ⟨hk, G, h1, h2, h3⟩ := h
  exact ⟨v, rfl, G 0, h1 0 _ rfl, fun k hb => (h3 0 k hb).1.elim False.elim id, hk.below (Nat.le_refl _) (fun _ h => h.elim)⟩
def lenV (v : Value) : Nat := match v with | .slice _ n _ => n | _ => 0
def curO (L : List Hg) (n : Nat) (o : Option Int) : List Int := o.elim [] (sideL L n)
/-- What a stack of tops has yet to give: the last one first. -/
def restL (L : List Hg) (n : Nat) (s : List Int) : List Int := s.reverse.flatMap (allL L n)
theorem rest_one (L : List Hg) (n : Nat) (x : Int) : restL L n [x] = allL L n x := by simp [restL]
theorem rest_pop (I : GInv n L) {s : List Int} {y : Int} (hy : inN n y) : restL L n (s ++ [y]) = y :: restL L n (s ++ (kidL L y true).toList ++ (kidL L y false).toList) := by
  unfold restL
  rw [List.reverse_append, List.reverse_append, List.reverse_append, List.flatMap_append, List.flatMap_append, List.flatMap_append]
  have e : ∀ o : Option Int, o.toList.reverse.flatMap (allL L n) = o.elim [] (allL L n) := fun o => by cases o <;> simp
  rw [e, e]
  simp only [List.reverse_cons, List.reverse_nil, List.nil_append, List.flatMap_cons, List.flatMap_nil, List.append_nil]
  rw [all_eq I hy]
  simp
theorem rest_pos (I : GInv n L) {s : List Int} (h : ∀ y ∈ s, inN n y) (h0 : s ≠ []) : 0 < (restL L n s).length := by
  obtain ⟨t, y, rfl⟩ : ∃ t y, s = t ++ [y] := ⟨s.dropLast, s.getLast h0, (List.dropLast_concat_getLast h0).symm⟩
  rw [rest_pop I (h y (by simp))]
  simp
theorem rest_mono (I : GInv n L) {s : List Int} (h : ∀ y ∈ s, inN n y) : s.length ≤ (restL L n s).length := by
  unfold restL
  rw [← List.length_reverse]
  have h' : ∀ y ∈ s.reverse, inN n y := fun y hy => h y (by simpa using hy)
  generalize s.reverse = r at h'
  induction r with
  | nil => simp
  | cons a r ih =>
    have := ih (fun y hy => h' y (by simp [hy]))
    rw [List.flatMap_cons, List.length_append, List.length_cons, all_eq I (h' a (by simp)), List.length_cons]
    omega
end
end Go.Proofs.Ytehoejoeoaimjaa

namespace Go.Proofs.Ytehoejoeoaimjaa

section
variable {n : Nat} {L : List Hg}
theorem hang_kids {a m : Int} {s : Bool} (h : kidL L a s = none) (q : Int) (r : Bool) : kidL (L ++ [⟨a, m, s⟩]) q r = if q = a ∧ r = s then some m else kidL L q r := by
  rw [kid_append]
  show (kidL L q r).or (if a = q ∧ s = r then some m else none) = _
  by_cases e : q = a ∧ r = s
  · obtain ⟨rfl, rfl⟩ := e
    rw [h, if_pos ⟨rfl, rfl⟩]; rfl
  · rw [if_neg e, if_neg (fun h => e ⟨h.1.symm, h.2.symm⟩), Option.or_none]
theorem hang_ups {a m : Int} {s : Bool} (h : upL L m = none) (y : Int) : upL (L ++ [⟨a, m, s⟩]) y = if y = m then some a else upL L y := by
  rw [up_append]
  show (upL L y).or (if m = y then some a else none) = _
  by_cases e : y = m
  · subst e; rw [h, if_pos rfl]; rfl
  · rw [if_neg e, if_neg (fun h => e h.symm), Option.or_none]
theorem repZ_root {kid : Int → Bool → Option Int} {root : Option Int} : ∀ {z : List Fr} {x : Int}, RepZ kid root z (some x) → ∃ y, root = some y ∧ y ∈ x :: Tr.zs z
  | [], x, h => ⟨x, h.symm, by simp⟩
  | f :: z, x, h => by
    obtain ⟨y, h1, h2⟩ := repZ_root (z := z) h.2.2
    refine ⟨y, h1, ?_⟩
    simp only [Tr.zs, List.mem_cons, List.mem_append] at h2 ⊢
    rcases h2 with h2 | h2
    · exact Or.inr (Or.inl h2)
    · exact Or.inr (Or.inr (Or.inr h2))
/-- The topmost of a tree by itself hangs below nothing; others hang below their frame's. -/
theorem up_frame (I : GInv n L) {f : Fr} {z : List Fr} {x : Int} {root : Option Int} (h : RepZ (kidL L) root (f :: z) (some x)) : upL L x = some f.x := I.up_kid.2 ⟨f.s, h.1⟩
theorem cut_frame {root : Option Int} {z : List Fr} {f : Fr} {x : Int} (I : GInv n L) (hz : RepZ (kidL L) root (f :: z) (some x)) (nf : f.x ∉ f.o.slots ∧ f.x ∉ Tr.zs z) :
    kidL (cutL L x) f.x f.s = none ∧ RepT (kidL (cutL L x)) (kidL (cutL L x) f.x (!f.s)) f.o ∧ RepZ (kidL (cutL L x)) root z (some f.x) ∧ upL (cutL L x) x = none ∧ (∀ y, y ≠ x → upL (cutL L x) y = upL L y) ∧ ∀ y, y ≠ f.x → ∀ s, kidL (cutL L x) y s = kidL L y s := by
  have hc := cut_kids I hz.1
  have hk : ∀ y, y ≠ f.x → ∀ s, kidL (cutL L x) y s = kidL L y s := fun y hy s => by rw [hc, if_neg (fun h => hy h.1)]
  refine ⟨by rw [hc, if_pos ⟨rfl, rfl⟩], ?_, repZ_congr (fun y hy s => hk y (fun e => nf.2 (by rw [← e]; exact hy)) s) hz.2.2, by rw [up_cut, if_pos rfl], fun y hy => by rw [up_cut, if_neg hy], hk⟩
  have e : kidL (cutL L x) f.x (!f.s) = kidL L f.x (!f.s) := by rw [hc, if_neg (by cases f.s <;> simp)]
  rw [e]
  exact rep_congr (fun y hy s => hk y (fun e => nf.1 (by rw [← e]; exact hy)) s) hz.2.1
theorem frame_out {g : Fr} {z : List Fr} {tx : Tr} (h : (Tr.fillZ (g :: z) tx).slots.Nodup) : (g.x ∉ g.o.slots ∧ g.x ∉ Tr.zs z) ∧ g.x ∉ tx.slots ∧ (Tr.zs (g :: z)).Nodup ∧ ∀ y ∈ tx.slots, y ∉ Tr.zs (g :: z) := by
  have h1 := (Tr.fillZ_perm (g :: z) tx).nodup_iff.1 h
  rw [List.nodup_append] at h1
  obtain ⟨_, h2, h3⟩ := h1
  have h2' := h2
  rw [Tr.zs, List.nodup_cons, List.mem_append] at h2
  exact ⟨⟨fun h => h2.1 (Or.inl h), fun h => h2.1 (Or.inr h)⟩, fun h => h3 _ h g.x (by simp [Tr.zs]) rfl, h2', fun y hy hz => h3 y hy y hz rfl⟩
end
end Go.Proofs.Ytehoejoeoaimjaa
