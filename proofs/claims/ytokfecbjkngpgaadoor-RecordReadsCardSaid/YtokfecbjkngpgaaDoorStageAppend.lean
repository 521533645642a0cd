/- append onto a row that is a thing of a stage, of no program: at an operation of a plain region, and of one that draws. -/
import Derived.Test.YtokfecbjkngpgaaDoorStage
namespace Go.Proofs.YtokfecbjkngpgaaDoor
open Go.RowKit Go.Sort

theorem reads_box {w : World} {b : Nat} {c : Array Value} {t : TypeId} (h : Blk w b c t) (size m : Nat) (hs : c.size = m * size) : RowReads w size (.slice (some ⟨b, 0, none⟩) m m) m c.toList :=
  ⟨by simpa using hs, Or.inr ⟨_, m, rfl, fun j u hj => by rw [add_at, Nat.zero_add]; exact blk_cell h (by simpa using hj)⟩⟩
namespace Stage
variable {F0 : Nat → Prop} {W w : World} {l : List Ob} {P : Program} {B : Nat} {e : TypeId} {size n : Nat} {v : Value} {xs : List Value}
/-- Where only the draws' count is another one. -/
theorem same {w' : World} (h : Stage F0 W l w) (e1 : w'.heap = w.heap) (e2 : w'.os = w.os) (e3 : w'.tape = w.tape) (e4 : w'.output = w.output) : Stage F0 W l w' := h.later ⟨e2, e3, e4, by rw [e1]; exact Nat.le_refl _, fun k _ => by rw [e1]⟩
theorem newRow' (h : Stage F0 W l w) (e : TypeId) (size n : Nat) (c : Array Value) (hs : c.size = n * size) (hm : n ≤ maxLen) {b : Nat} (hb : w.heap.size = b) : Stage F0 W (l ++ [Ob.row 0 e size (.slice (some ⟨b, 0, none⟩) n n) n c.toList]) (w.alloc (.cells c e)) := by subst hb; exact h.newRow e size n c hs hm
theorem emptyRow' (h : Stage F0 W l w) (e : TypeId) (size : Nat) {b : Nat} (hb : w.heap.size = b) : Stage F0 W (l ++ [Ob.row 0 e size (.slice (some ⟨b, 0, none⟩) 0 0) 0 []]) (w.alloc (.cells #[] e)) := by subst hb; exact h.emptyRow e size
theorem run_append (hs : Stage F0 W l w) (i : Nat) (hi : l[i]? = some (Ob.row B e size v n xs)) (t ty : TypeId) (z : Value) (bytes : Nat) (ht : P.underlying t = some (.slice e)) (hinfo : (P.info? e).map (fun i => (i.zero, i.size, i.bytes)) = some (some z, size, bytes)) (hzs : z.cells.size = size) (hsz : 0 < size) (hB : B ≤ w.heap.size)
    (y : Value) (m : Nat) (news : List Value) (hr : RowReads w size y m news) (h1 : ∀ u ∈ news, u.oneCell' = true) (h63 : n + m ≤ maxLen) (hbytes : (n + m) * bytes ≤ 140737488355328) :
    ∃ v' w', (Builtin.append_ #[t, t] ty #[v, y]).run P w = .ok v' w' ∧ Stage F0 W (l.set i (Ob.row B e size v' (n + m) (xs ++ news))) w' ∧ (∀ k, rowF v' k → rowF v k ∨ w.heap.size ≤ k) := by
  obtain ⟨i0, hi0, hzz⟩ := Option.map_eq_some_iff.1 hinfo
  simp only [Prod.mk.injEq] at hzz
  obtain ⟨hz, hs0, hb⟩ := hzz
  obtain ⟨v', w', h2, h3, h4, h5⟩ := run_append_any w B t ty e i0 z size bytes ht hi0 hz hs0 hb hzs hsz v n xs (hs.owns i hi) y m news hr h1 h63 hbytes hB
  exact ⟨v', w', h2, hs.grown i hi h3 h4 h5, fun k hk => (h5 k hk).imp id (fun e => Nat.le_of_eq e.symm)⟩
theorem wp_append {ops : Array Oper} {rest : List Oper} {o : Oper} {a : Act} {Q : Exit → Act → World → Prop} (hs : Stage F0 W l w) (i : Nat) (hi : l[i]? = some (Ob.row B e size v n xs)) (hgd : o.guard = none) (s x : Operand) (t : TypeId)
    (ho : o.op = .call { callee := .builtin .append, args := #[s, x], argTypes := #[t, t] }) (z : Value) (bytes : Nat) (ht : P.underlying t = some (.slice e)) (hinfo : (P.info? e).map (fun i => (i.zero, i.size, i.bytes)) = some (some z, size, bytes)) (hzs : z.cells.size = size) (hsz : 0 < size) (hB : B ≤ w.heap.size)
    (hv : a.eval s = v) (y : Value) (m : Nat) (news : List Value) (hx : a.eval x = y) (hr : RowReads w size y m news) (h1 : ∀ u ∈ news, u.oneCell' = true) (h63 : n + m ≤ maxLen) (hbytes : (n + m) * bytes ≤ 140737488355328)
    (hK : ∀ v' w', Stage F0 W (l.set i (Ob.row B e size v' (n + m) (xs ++ news))) w' → (∀ k, rowF v' k → rowF v k ∨ w.heap.size ≤ k) → wpList P ops Q rest (a.put o.dst v') w') : wpList P ops Q (o :: rest) a w := by
  refine wpList_plain hgd fun K hK' => ?_
  obtain ⟨v', w', hrun, h2, h3⟩ := hs.run_append (P := P) i hi t o.type z bytes ht hinfo hzs hsz hB y m news hr h1 h63 hbytes
  unfold Oper.wp execOp
  simp only [ho, resolve, invoke, builtin, Sem.run_bind, Sem.run_pure, Result.andThen_ok, List.map_toArray, List.map_cons, List.map_nil, hv, hx, hrun]
  exact hK' _ _ (hK v' w' h2 h3)
theorem step_append {ops : Array Oper} {o : Oper} {a : Act} {K : Act → World → Prop} {Q : Exit → Act → World → Prop} {E : Prop} (hs : Stage F0 W l w) (i : Nat) (hi : l[i]? = some (Ob.row B e size v n xs)) (hgd : o.guard = none) (s x : Operand) (t : TypeId)
    (ho : o.op = .call { callee := .builtin .append, args := #[s, x], argTypes := #[t, t] }) (z : Value) (bytes : Nat) (ht : P.underlying t = some (.slice e)) (hinfo : (P.info? e).map (fun i => (i.zero, i.size, i.bytes)) = some (some z, size, bytes)) (hzs : z.cells.size = size) (hsz : 0 < size) (hB : B ≤ w.heap.size)
    (hv : a.eval s = v) (y : Value) (m : Nat) (news : List Value) (hx : a.eval x = y) (hr : RowReads w size y m news) (h1 : ∀ u ∈ news, u.oneCell' = true) (h63 : n + m ≤ maxLen) (hbytes : (n + m) * bytes ≤ 140737488355328)
    (hK : ∀ v' w', Stage F0 W (l.set i (Ob.row B e size v' (n + m) (xs ++ news))) w' → (∀ k, rowF v' k → rowF v k ∨ w.heap.size ≤ k) → K (a.put o.dst v') w') :
    if Region.wanted o (yielded ops a.tmps) = true then Oper.wp P o a w K Q else E := by
  have hw : Region.wanted o (yielded ops a.tmps) = true := by simp [Region.wanted, hgd]
  rw [if_pos hw]
  obtain ⟨v', w', hrun, h2, h3⟩ := hs.run_append (P := P) i hi t o.type z bytes ht hinfo hzs hsz hB y m news hr h1 h63 hbytes
  unfold Oper.wp execOp
  simp only [ho, resolve, invoke, builtin, Sem.run_bind, Sem.run_pure, Result.andThen_ok, List.map_toArray, List.map_cons, List.map_nil, hv, hx, hrun]
  exact hK v' w' h2 h3
end Stage
end Go.Proofs.YtokfecbjkngpgaaDoor
