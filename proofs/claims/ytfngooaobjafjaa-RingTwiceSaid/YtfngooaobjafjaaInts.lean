/- Rows of integers, of no program but for the type's number: as cells; a shorter one; an append of one; what is made by a call that only looks. -/
import Derived.Test.YtfngooaobjafjaaStageAppend
import Derived.Test.YtfngooaobjafjaaProg
namespace Go.Proofs.Ytfngooaobjafjaa
open Go.RowKit Go.Sort

def intC (x : Int) : List Value := [.int .i64 x]
theorem intC_len : ∀ x, (intC x).length = 1 := fun _ => rfl
theorem intC_set (l : List Int) (i : Nat) (x : Int) : (cellsBy intC l).set i (.int .i64 x) = cellsBy intC (l.set i x) := by
  have e : ∀ m : List Int, cellsBy intC m = m.map fun x : Int => Value.int .i64 x := fun m => by
    induction m with
    | nil => rfl
    | cons a r ih => rw [cellsBy_cons, ih]; rfl
  rw [e, e, List.map_set]
theorem intC_one (u : Value) (l : List Int) (h : u ∈ cellsBy intC l) : ∃ x, u = .int .i64 x := by
  simp only [cellsBy, List.mem_flatMap, intC, List.mem_singleton] at h
  obtain ⟨x, _, rfl⟩ := h
  exact ⟨x, rfl⟩
theorem owns_short {w : World} {base : Nat} {e : TypeId} {size g n cap m : Nat} {xs : List Value} (h : w.ownsRow base e size (.slice (some ⟨g, 0, none⟩) n cap) n xs) (hm : m ≤ n) : w.ownsRow base e size (.slice (some ⟨g, 0, none⟩) m cap) m (xs.take (m * size)) := by
  obtain ⟨h1, ⟨h2, _⟩ | ⟨g', cap', cur, hv, hg, hh, hle, hmax, hs, hx⟩⟩ := h
  · cases h2
  · injection hv with e1 e2 e3
    injection e1 with e1
    injection e1 with e1
    subst e1 e3
    have hms : m * size ≤ n * size := Nat.mul_le_mul_right _ hm
    refine ⟨by rw [List.length_take, h1]; omega, Or.inr ⟨_, _, cur, rfl, hg, hh, Nat.le_trans hm hle, hmax, hs, ?_⟩⟩
    rw [← hx, List.take_take, Nat.min_eq_left hms]
theorem sinfo_int : (Try.prog.info? 3).map (fun i => (i.zero, i.size, i.bytes)) = some (some (.int .i64 0), 1, 8) := by kernel_rfl
theorem szero_int (w : World) : (zeroValue 3).run Try.prog w = .ok (.int .i64 0) w := by kernel_rfl
/-- A row of integers that is someone's. -/
abbrev Ob.ints (v : Value) (l : List Int) : Ob := Ob.row 0 3 1 v l.length (cellsBy intC l)
namespace Stage
variable {F0 : Nat → Prop} {W w : World} {l : List Ob} {v : Value} {xs : List Int}
theorem intsForm (h : Stage F0 W l w) (i : Nat) (hi : l[i]? = some (Ob.ints v xs)) : ∃ a c, v = .slice a xs.length c ∧ xs.length ≤ c ∧ c ≤ 9223372036854775807 := by
  obtain ⟨a, c, h1, h2, h3⟩ := owns_form (h.owns i hi)
  exact ⟨a, c, h1, h2, by unfold maxLen at h3; omega⟩
theorem intsAt (h : Stage F0 W l w) (i : Nat) (hi : l[i]? = some (Ob.ints v xs)) (hn : 0 < xs.length) : ∃ g c, v = .slice (some ⟨g, 0, none⟩) xs.length c ∧ xs.length ≤ c ∧ c ≤ 9223372036854775807 ∧ g < w.heap.size ∧ (∀ j, j < xs.length → w.cell? ⟨g, j, none⟩ = some (.int .i64 (xs.getD j 0))) ∧ ∀ o, w.frozen? ⟨g, o, none⟩ = false := by
  obtain ⟨g, c, hv, h1, h2, _, h4, hc, hf⟩ := owns_at intC_len 0 (h.owns i hi) rfl hn
  refine ⟨g, c, hv, h1, by unfold maxLen at h2; omega, h4, fun j hj => ?_, hf⟩
  have := hc j 0 _ hj (by omega) rfl
  rwa [Nat.mul_one, Nat.add_zero] at this
/-- 'append(row, x)' at the operation, x written out in a block just made. -/
theorem wp_appendInt {P : Program} {ops : Array Oper} {rest : List Oper} {o : Oper} {a : Act} {Q : Exit → Act → World → Prop} {b : Nat} {x : Int} (hs : Stage F0 W l w) (i : Nat) (hi : l[i]? = some (Ob.ints v xs)) (hb : w.heap.size = b) (hgd : o.guard = none) (s y : Operand) (t : TypeId)
    (ho : o.op = .call { callee := .builtin .append, args := #[s, y], argTypes := #[t, t] }) (ht : P.underlying t = some (.slice 3)) (hinfo : (P.info? 3).map (fun i => (i.zero, i.size, i.bytes)) = some (some (.int .i64 0), 1, 8))
    (hv : a.eval s = v) (hx : a.eval y = .slice (some ⟨b, 0, none⟩) 1 1) (hlen : xs.length ≤ 1000000)
    (hK : ∀ v' w', Stage F0 W (l.set i (Ob.ints v' (xs ++ [x]))) w' → wpList P ops Q rest (a.put o.dst v') w') : wpList P ops Q (o :: rest) a (w.alloc (.cells #[.int .i64 x] 3)) := by
  subst hb
  have hA := hs.later ((Below.refl _ w).alloc (Nat.le_refl _) (.cells #[.int .i64 x] 3))
  refine hA.wp_append i hi hgd s y t ho (.int .i64 0) 8 ht hinfo rfl (by decide) (Nat.zero_le _) hv _ 1 [.int .i64 x] hx (reads_new w #[.int .i64 x] _ 1 1 _ rfl rfl) (by intro u hu; simp at hu; subst hu; rfl) (by unfold maxLen; omega) (by omega) fun v' w' h1 _ => hK v' w' ?_
  have e1 : cellsBy intC xs ++ [.int .i64 x] = cellsBy intC (xs ++ [x]) := by rw [cellsBy_append]; rfl
  have e2 : xs.length + 1 = (xs ++ [x]).length := by simp
  rw [e1, e2] at h1
  exact h1
/-- 'append(row, other...)' at the operation. -/
theorem wp_appendInts {P : Program} {ops : Array Oper} {rest : List Oper} {o : Oper} {a : Act} {Q : Exit → Act → World → Prop} {u : Value} {ys : List Int} (hs : Stage F0 W l w) (i : Nat) (hi : l[i]? = some (Ob.ints v xs)) (j : Nat) (hj : l[j]? = some (Ob.ints u ys)) (hgd : o.guard = none) (s y : Operand) (t : TypeId)
    (ho : o.op = .call { callee := .builtin .append, args := #[s, y], argTypes := #[t, t] }) (ht : P.underlying t = some (.slice 3)) (hinfo : (P.info? 3).map (fun i => (i.zero, i.size, i.bytes)) = some (some (.int .i64 0), 1, 8))
    (hv : a.eval s = v) (hx : a.eval y = u) (hlen : xs.length + ys.length ≤ 1000000)
    (hK : ∀ v' w', Stage F0 W (l.set i (Ob.ints v' (xs ++ ys))) w' → wpList P ops Q rest (a.put o.dst v') w') : wpList P ops Q (o :: rest) a w := by
  refine hs.wp_append i hi hgd s y t ho (.int .i64 0) 8 ht hinfo rfl (by decide) (Nat.zero_le _) hv _ ys.length (cellsBy intC ys) hx (reads_own (hs.owns j hj)) (fun z hz => by obtain ⟨q, rfl⟩ := intC_one z ys hz; rfl) (by unfold maxLen; omega) (by omega) fun v' w' h1 _ => hK v' w' ?_
  have e2 : xs.length + ys.length = (xs ++ ys).length := by simp
  rw [← cellsBy_append, e2] at h1
  exact h1
/-- A call that only looks at one thing, and makes another one. -/
theorem askNew {α : Type} {P : Program} {f : FuncId} {args : Array Value} {O : Ob} {r : α → Value} {O' : α → Ob} (h : Stage F0 W l w) (i : Nat) (hi : l[i]? = some O) (hc : ∀ F, O.holds w F → Calls P f args w fun e w' => ∃ a, e = .returned (r a) ∧ ∃ G, (O' a).holds w' G ∧ (∀ k, G k → w.heap.size ≤ k) ∧ Below w.heap.size w w') :
    Calls P f args w fun e w' => ∃ a, e = .returned (r a) ∧ Stage F0 W (l ++ [O' a]) w' := by
  obtain ⟨F, ho⟩ := h.get hi
  exact (hc F ho).mono fun e w' ⟨a, he, G, h1, h2, h3⟩ => ⟨a, he, h.add h3 h1 h2⟩
end Stage
end Go.Proofs.Ytfngooaobjafjaa
