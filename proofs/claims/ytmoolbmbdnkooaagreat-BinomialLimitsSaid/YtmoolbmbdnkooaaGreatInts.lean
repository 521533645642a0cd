/- Merged of StageAppend, StageFrame, Meth, Ints. -/
import Derived.Test.YtmoolbmbdnkooaaGreatStage
import Derived.Test.YtmoolbmbdnkooaaGreatProg
namespace Go.Proofs.YtmoolbmbdnkooaaGreat
open Go.RowKit Go.Sort

theorem reads_box {w : World} {b : Nat} {c : Array Value} {t : TypeId} (h : Blk w b c t) (size m : Nat) (hs : c.size = m * size) : RowReads w size (.slice (some ⟨b, 0, none⟩) m m) m c.toList :=
  ⟨by simpa using hs, Or.inr ⟨_, m, rfl, fun j u hj => by rw [add_at, Nat.zero_add]; exact blk_cell h (by simpa using hj)⟩⟩
namespace Stage
variable {F0 : Nat → Prop} {W w : World} {l : List Ob} {P : Program} {B : Nat} {e : TypeId} {size n : Nat} {v : Value} {xs : List Value}
/-- Where only the draws' count is another one. -/
theorem same {w' : World} (h : Stage F0 W l w) (e1 : w'.heap = w.heap) (e2 : w'.os = w.os) (e3 : w'.tape = w.tape) (e4 : w'.output = w.output) : Stage F0 W l w' := h.later ⟨e2, e3, e4, by rw [e1]; exact Nat.le_refl _, fun k _ => by rw [e1]⟩
theorem newRow' (h : Stage F0 W l w) (e : TypeId) (size n : Nat) (c : Array Value) (hs : c.size = n * size) (hm : n ≤ maxLen) {b : Nat} (hb : w.heap.size = b) : Stage F0 W (l ++ [Ob.row 0 e size (.slice (some ⟨b, 0, none⟩) n n) n c.toList]) (w.alloc (.cells c e)) := by subst hb; exact h.newRow e size n c hs hm
theorem emptyRow' (h : Stage F0 W l w) (e : TypeId) (size : Nat) {b : Nat} (hb : w.heap.size = b) : Stage F0 W (l ++ [Ob.row 0 e size (.slice (some ⟨b, 0, none⟩) 0 0) 0 []]) (w.alloc (.cells #[] e)) := by subst hb; exact h.emptyRow e size
theorem run_append (hs : Stage F0 W l w) (i : Nat) (hi : l[i]? = some (Ob.row B e size v n xs)) (t ty : TypeId) (z : Value) (bytes : Nat) (ht : P.underlying t = some (.slice e)) (hinfo : (P.info? e).map (fun i => (i.zero, i.size, i.bytes)) = some (some z, size, bytes)) (hzs : z.cells.size = size) (hsz : 0 < size) (hB : B ≤ w.heap.size)
    (y : Value) (m : Nat) (news : List Value) (hr : RowReads w size y m news) (h1 : ∀ u ∈ news, u.oneCell' = true) (h63 : n + m ≤ maxLen) (hbytes : (n + m) * bytes ≤ 140737488355328) :
    ∃ v' w', (Builtin.append_ #[t, t] ty #[v, y]).run P w = .ok v' w' ∧ Stage F0 W (l.set i (Ob.row B e size v' (n + m) (xs ++ news))) w' ∧ (∀ k, rowF v' k → rowF v k ∨ w.heap.size ≤ k) := by
  obtain ⟨i0, hi0, hzz⟩ := Option.map_eq_some_iff.1 hinfo
  simp only [Prod.mk.injEq] at hzz
  obtain ⟨hz, hs0, hb⟩ := hzz
  obtain ⟨v', w', h2, h3, h4, h5⟩ := run_append_any w B t ty e i0 z size bytes ht hi0 hz hs0 hb hzs hsz v n xs (hs.owns i hi) y m news hr h1 h63 hbytes hB
  exact ⟨v', w', h2, hs.grown i hi h3 h4 h5, fun k hk => (h5 k hk).imp id (fun e => Nat.le_of_eq e.symm)⟩
theorem wp_append {ops : Array Oper} {rest : List Oper} {o : Oper} {a : Act} {Q : Exit → Act → World → Prop} (hs : Stage F0 W l w) (i : Nat) (hi : l[i]? = some (Ob.row B e size v n xs)) (hgd : o.guard = none) (s x : Operand) (t : TypeId)
    (ho : o.op = .call { callee := .builtin .append, args := #[s, x], argTypes := #[t, t] }) (z : Value) (bytes : Nat) (ht : P.underlying t = some (.slice e)) (hinfo : (P.info? e).map (fun i => (i.zero, i.size, i.bytes)) = some (some z, size, bytes)) (hzs : z.cells.size = size) (hsz : 0 < size) (hB : B ≤ w.heap.size)
    (hv : a.eval s = v) (y : Value) (m : Nat) (news : List Value) (hx : a.eval x = y) (hr : RowReads w size y m news) (h1 : ∀ u ∈ news, u.oneCell' = true) (h63 : n + m ≤ maxLen) (hbytes : (n + m) * bytes ≤ 140737488355328)
    (hK : ∀ v' w', Stage F0 W (l.set i (Ob.row B e size v' (n + m) (xs ++ news))) w' → (∀ k, rowF v' k → rowF v k ∨ w.heap.size ≤ k) → wpList P ops Q rest (a.put o.dst v') w') : wpList P ops Q (o :: rest) a w := by
  refine wpList_plain hgd fun K hK' => ?_
  obtain ⟨v', w', hrun, h2, h3⟩ := hs.run_append (P := P) i hi t o.type z bytes ht hinfo hzs hsz hB y m news hr h1 h63 hbytes
  unfold Oper.wp execOp
  simp only [ho, resolve, invoke, builtin, Sem.run_bind, Sem.run_pure, Result.andThen_ok, List.map_toArray, List.map_cons, List.map_nil, hv, hx, hrun]
  exact hK' _ _ (hK v' w' h2 h3)
theorem step_append {ops : Array Oper} {o : Oper} {a : Act} {K : Act → World → Prop} {Q : Exit → Act → World → Prop} {E : Prop} (hs : Stage F0 W l w) (i : Nat) (hi : l[i]? = some (Ob.row B e size v n xs)) (hgd : o.guard = none) (s x : Operand) (t : TypeId)
    (ho : o.op = .call { callee := .builtin .append, args := #[s, x], argTypes := #[t, t] }) (z : Value) (bytes : Nat) (ht : P.underlying t = some (.slice e)) (hinfo : (P.info? e).map (fun i => (i.zero, i.size, i.bytes)) = some (some z, size, bytes)) (hzs : z.cells.size = size) (hsz : 0 < size) (hB : B ≤ w.heap.size)
    (hv : a.eval s = v) (y : Value) (m : Nat) (news : List Value) (hx : a.eval x = y) (hr : RowReads w size y m news) (h1 : ∀ u ∈ news, u.oneCell' = true) (h63 : n + m ≤ maxLen) (hbytes : (n + m) * bytes ≤ 140737488355328)
    (hK : ∀ v' w', Stage F0 W (l.set i (Ob.row B e size v' (n + m) (xs ++ news))) w' → (∀ k, rowF v' k → rowF v k ∨ w.heap.size ≤ k) → K (a.put o.dst v') w') :
    if Region.wanted o (yielded ops a.tmps) = true then Oper.wp P o a w K Q else E := by
  have hw : Region.wanted o (yielded ops a.tmps) = true := by simp [Region.wanted, hgd]
  rw [if_pos hw]
  obtain ⟨v', w', hrun, h2, h3⟩ := hs.run_append (P := P) i hi t o.type z bytes ht hinfo hzs hsz hB y m news hr h1 h63 hbytes
  unfold Oper.wp execOp
  simp only [ho, resolve, invoke, builtin, Sem.run_bind, Sem.run_pure, Result.andThen_ok, List.map_toArray, List.map_cons, List.map_nil, hv, hx, hrun]
  exact hK v' w' h2 h3
end Stage
end Go.Proofs.YtmoolbmbdnkooaaGreat

namespace Go.Proofs.YtmoolbmbdnkooaaGreat
open Go.RowKit Go.Sort
namespace Stage
variable {F0 : Nat → Prop} {W w w' : World} {l : List Ob} {P : Program} {f : FuncId} {args : Array Value} {v : Value}
/-- A call that knows the first things alone: the others are as they were. -/
theorem frameEx {α : Type} {r : List Ob} {Post : α → Ending → Prop} {l' : α → List Ob} (h : Stage F0 W (l ++ r) w) (hc : ∀ F : Nat → Prop, (∀ b, F b → b < w.heap.size) → Stage F w l w → Calls P f args w fun e w' => ∃ x, Post x e ∧ Stage F w (l' x) w') :
    Calls P f args w fun e w' => ∃ x, Post x e ∧ Stage F0 W (l' x ++ r) w' := by
  obtain ⟨hk, G, h1, h2, h3⟩ := h
  have hW := hk.size
  refine (hc (fun b => ∃ i, i < l.length ∧ G i b) (fun b ⟨i, _, hb⟩ => (h3 i b hb).2) ⟨Keeps.refl _ _, fun i b => i < l.length ∧ G i b, fun i O hi => ?_, fun i j b hij hb hb' => h2 i j b hij hb.2 hb'.2, fun i b hb => ⟨Or.inl ⟨i, hb⟩, (h3 i b hb.2).2⟩⟩).mono ?_
  · have hl := Scene.idx hi
    have e : (fun b => i < l.length ∧ G i b) = G i := by funext b; simp [hl]
    show O.holds w (fun b => i < l.length ∧ G i b)
    rw [e]
    exact h1 i O (by rw [List.getElem?_append_left hl]; exact hi)
  · rintro e w' ⟨x, hp, hk', G', g1, g2, g3⟩
    refine ⟨x, hp, ⟨hk'.os.trans hk.os, hk'.tape.trans hk.tape, hk'.output.trans hk.output, Nat.le_trans hW hk'.size, fun k hk1 hn => (hk'.block k (Nat.lt_of_lt_of_le hk1 hW) (fun ⟨i, _, hb⟩ => ?_)).trans (hk.block k hk1 hn)⟩,
      fun i => if i < (l' x).length then G' i else G (l.length + (i - (l' x).length)), fun i O hi => ?_, fun i j b hij hb hb' => ?_, fun i b hb => ?_⟩
    · rcases (h3 i k hb).1 with h | h
      · exact hn h
      · omega
    · by_cases hi' : i < (l' x).length
      · simp only [if_pos hi']
        rw [List.getElem?_append_left hi'] at hi
        exact g1 i O hi
      · simp only [if_neg hi']
        rw [List.getElem?_append_right (by omega)] at hi
        refine O.keeps (h1 (l.length + (i - (l' x).length)) O ?_) hk' (fun b hb ⟨j, hj, hb'⟩ => h2 _ j b (by omega) hb hb')
        rw [List.getElem?_append_right (by omega), Nat.add_sub_cancel_left]
        exact hi
    · simp only at hb hb'
      split at hb
      · split at hb'
        · exact g2 i j b hij hb hb'
        · rcases (g3 i b hb).1 with ⟨k, hk1, hk2⟩ | h
          · exact h2 k _ b (by omega) hk2 hb'
          · have := (h3 _ b hb').2; omega
      · split at hb'
        · rcases (g3 j b hb').1 with ⟨k, hk1, hk2⟩ | h
          · exact h2 k _ b (by omega) hk2 hb
          · have := (h3 _ b hb).2; omega
        · exact h2 _ _ b (by omega) hb hb'
    · simp only at hb
      split at hb
      · refine ⟨?_, (g3 i b hb).2⟩
        rcases (g3 i b hb).1 with ⟨k, _, hk2⟩ | h
        · exact (h3 k b hk2).1
        · exact Or.inr (by omega)
      · exact ⟨(h3 _ b hb).1, Nat.lt_of_lt_of_le (h3 _ b hb).2 hk'.size⟩
theorem frame {r l' : List Ob} (h : Stage F0 W (l ++ r) w) (hc : ∀ F : Nat → Prop, (∀ b, F b → b < w.heap.size) → Stage F w l w → Calls P f args w fun e w' => e = .returned v ∧ Stage F w l' w') :
    Calls P f args w fun e w' => e = .returned v ∧ Stage F0 W (l' ++ r) w' :=
  (h.frameEx (α := Unit) (Post := fun _ e => e = .returned v) (l' := fun _ => l') fun F hF hs => (hc F hF hs).mono fun _ _ ⟨h1, h2⟩ => ⟨(), h1, h2⟩).mono fun _ _ ⟨_, h1, h2⟩ => ⟨h1, h2⟩

end Stage
end Go.Proofs.YtmoolbmbdnkooaaGreat

namespace Go.Proofs.YtmoolbmbdnkooaaGreat
open Go.RowKit Go.Sort

/-- A function that a call by a name enters, and the receiver that it is handed. -/
structure Fn where
  id : FuncId
  rv : Value
/-- By the name n the value v of type T is called by f, in each world in which H holds. -/
structure Meth (H : World → Prop) (T : TypeId) (v : Value) (n : String) (f : Fn) : Prop where
  find : ∀ w, H w → (method 256 T v n).run Tryz.prog w = .ok (f.id, f.rv) w
  enter : ∀ args w, (callFunc f.id args).run Tryz.prog w = .ok (.enter f.id args) w
def inInt (y : Int) : Prop := -9223372036854775808 ≤ y ∧ y ≤ 9223372036854775807
abbrev ptrV (p : Nat) : Value := .pointer (some ⟨p, 0, none⟩)
namespace Stage
variable {F0 : Nat → Prop} {W w w' : World} {l : List Ob} {P : Program} {f : FuncId} {args : Array Value} {O : Ob} {v : Value}
/-- A call on one thing, which it turns into one of some things. -/
theorem callEx {α : Type} {Q : α → Prop} {O' : α → Ob} (h : Stage F0 W l w) (i : Nat) (hi : l[i]? = some O) (hc : ∀ F, O.holds w F → Calls P f args w fun e w' => e = .returned v ∧ ∃ a, Q a ∧ ∃ F', (O' a).holds w' F' ∧ Moved F F' w w') :
    Calls P f args w fun e w' => e = .returned v ∧ ∃ a, Q a ∧ Stage F0 W (l.set i (O' a)) w' := by
  obtain ⟨hbl, F, h1, h2, h3⟩ := h
  exact (hc (F i) (h1 i O hi)).mono fun e w' ⟨he, a, hq, F', ho, m⟩ => ⟨he, a, hq, swap hbl h1 h2 h3 (Scene.idx hi) ho m⟩
end Stage
end Go.Proofs.YtmoolbmbdnkooaaGreat

namespace Go.Proofs.YtmoolbmbdnkooaaGreat
open Go.RowKit Go.Sort

def intC (x : Int) : List Value := [.int .i64 x]
theorem intC_len : ∀ x, (intC x).length = 1 := fun _ => rfl
theorem intC_set (l : List Int) (i : Nat) (x : Int) : (cellsBy intC l).set i (.int .i64 x) = cellsBy intC (l.set i x) := by
  have e : ∀ m : List Int, cellsBy intC m = m.map fun x : Int => Value.int .i64 x := fun m => by
    induction m with
    | nil => rfl
    | cons a r ih => rw [cellsBy_cons, ih]; rfl
  rw [e, e, List.map_set]
theorem intC_one (u : Value) (l : List Int) (h : u ∈ cellsBy intC l) : ∃ x, u = .int .i64 x := by
  simp only [cellsBy, List.mem_flatMap, intC, List.mem_singleton] at h
  obtain ⟨x, _, rfl⟩ := h
  exact ⟨x, rfl⟩
theorem owns_short {w : World} {base : Nat} {e : TypeId} {size g n cap m : Nat} {xs : List Value} (h : w.ownsRow base e size (.slice (some ⟨g, 0, none⟩) n cap) n xs) (hm : m ≤ n) : w.ownsRow base e size (.slice (some ⟨g, 0, none⟩) m cap) m (xs.take (m * size)) := by
  obtain ⟨h1, ⟨h2, _⟩ | ⟨g', cap', cur, hv, hg, hh, hle, hmax, hs, hx⟩⟩ := h
  · cases h2
  · injection hv with e1 e2 e3
    injection e1 with e1
    injection e1 with e1
    subst e1 e3
    have hms : m * size ≤ n * size := Nat.mul_le_mul_right _ hm
    refine ⟨by rw [List.length_take, h1]; omega, Or.inr ⟨_, _, cur, rfl, hg, hh, Nat.le_trans hm hle, hmax, hs, ?_⟩⟩
    rw [← hx, List.take_take, Nat.min_eq_left hms]
theorem sinfo_int : (Tryz.prog.info? 3).map (fun i => (i.zero, i.size, i.bytes)) = some (some (.int .i64 0), 1, 8) := by kernel_rfl
theorem szero_int (w : World) : (zeroValue 3).run Tryz.prog w = .ok (.int .i64 0) w := by kernel_rfl
/-- A row of integers that is someone's. -/
abbrev Ob.ints (v : Value) (l : List Int) : Ob := Ob.row 0 3 1 v l.length (cellsBy intC l)
namespace Stage
variable {F0 : Nat → Prop} {W w : World} {l : List Ob} {v : Value} {xs : List Int}
theorem intsForm (h : Stage F0 W l w) (i : Nat) (hi : l[i]? = some (Ob.ints v xs)) : ∃ a c, v = .slice a xs.length c ∧ xs.length ≤ c ∧ c ≤ 9223372036854775807 := by
  obtain ⟨a, c, h1, h2, h3⟩ := owns_form (h.owns i hi)
  exact ⟨a, c, h1, h2, by unfold maxLen at h3; omega⟩
theorem intsAt (h : Stage F0 W l w) (i : Nat) (hi : l[i]? = some (Ob.ints v xs)) (hn : 0 < xs.length) : ∃ g c, v = .slice (some ⟨g, 0, none⟩) xs.length c ∧ xs.length ≤ c ∧ c ≤ 9223372036854775807 ∧ g < w.heap.size ∧ (∀ j, j < xs.length → w.cell? ⟨g, j, none⟩ = some (.int .i64 (xs.getD j 0))) ∧ ∀ o, w.frozen? ⟨g, o, none⟩ = false := by
  obtain ⟨g, c, hv, h1, h2, _, h4, hc, hf⟩ := owns_at intC_len 0 (h.owns i hi) rfl hn
  refine ⟨g, c, hv, h1, by unfold maxLen at h2; omega, h4, fun j hj => ?_, hf⟩
  have := hc j 0 _ hj (by omega) rfl
  rwa [Nat.mul_one, Nat.add_zero] at this
/-- 'append(row, x)' at the operation, x written out in a block just made. -/
theorem wp_appendInt {P : Program} {ops : Array Oper} {rest : List Oper} {o : Oper} {a : Act} {Q : Exit → Act → World → Prop} {b : Nat} {x : Int} (hs : Stage F0 W l w) (i : Nat) (hi : l[i]? = some (Ob.ints v xs)) (hb : w.heap.size = b) (hgd : o.guard = none) (s y : Operand) (t : TypeId)
    (ho : o.op = .call { callee := .builtin .append, args := #[s, y], argTypes := #[t, t] }) (ht : P.underlying t = some (.slice 3)) (hinfo : (P.info? 3).map (fun i => (i.zero, i.size, i.bytes)) = some (some (.int .i64 0), 1, 8))
    (hv : a.eval s = v) (hx : a.eval y = .slice (some ⟨b, 0, none⟩) 1 1) (hlen : xs.length ≤ 1000000)
    (hK : ∀ v' w', Stage F0 W (l.set i (Ob.ints v' (xs ++ [x]))) w' → wpList P ops Q rest (a.put o.dst v') w') : wpList P ops Q (o :: rest) a (w.alloc (.cells #[.int .i64 x] 3)) := by
  subst hb
  have hA := hs.later ((Below.refl _ w).alloc (Nat.le_refl _) (.cells #[.int .i64 x] 3))
  refine hA.wp_append i hi hgd s y t ho (.int .i64 0) 8 ht hinfo rfl (by decide) (Nat.zero_le _) hv _ 1 [.int .i64 x] hx (reads_new w #[.int .i64 x] _ 1 1 _ rfl rfl) (by intro u hu; simp at hu; subst hu; rfl) (by unfold maxLen; omega) (by omega) fun v' w' h1 _ => hK v' w' ?_
  have e1 : cellsBy intC xs ++ [.int .i64 x] = cellsBy intC (xs ++ [x]) := by rw [cellsBy_append]; rfl
  have e2 : xs.length + 1 = (xs ++ [x]).length := by simp
  rw [e1, e2] at h1
  exact h1
/-- 'append(row, other...)' at the operation. -/
theorem wp_appendInts {P : Program} {ops : Array Oper} {rest : List Oper} {o : Oper} {a : Act} {Q : Exit → Act → World → Prop} {u : Value} {ys : List Int} (hs : Stage F0 W l w) (i : Nat) (hi : l[i]? = some (Ob.ints v xs)) (j : Nat) (hj : l[j]? = some (Ob.ints u ys)) (hgd : o.guard = none) (s y : Operand) (t : TypeId)
    (ho : o.op = .call { callee := .builtin .append, args := #[s, y], argTypes := #[t, t] }) (ht : P.underlying t = some (.slice 3)) (hinfo : (P.info? 3).map (fun i => (i.zero, i.size, i.bytes)) = some (some (.int .i64 0), 1, 8))
    (hv : a.eval s = v) (hx : a.eval y = u) (hlen : xs.length + ys.length ≤ 1000000)
    (hK : ∀ v' w', Stage F0 W (l.set i (Ob.ints v' (xs ++ ys))) w' → wpList P ops Q rest (a.put o.dst v') w') : wpList P ops Q (o :: rest) a w := by
  refine hs.wp_append i hi hgd s y t ho (.int .i64 0) 8 ht hinfo rfl (by decide) (Nat.zero_le _) hv _ ys.length (cellsBy intC ys) hx (reads_own (hs.owns j hj)) (fun z hz => by obtain ⟨q, rfl⟩ := intC_one z ys hz; rfl) (by unfold maxLen; omega) (by omega) fun v' w' h1 _ => hK v' w' ?_
  have e2 : xs.length + ys.length = (xs ++ ys).length := by simp
  rw [← cellsBy_append, e2] at h1
  exact h1
/-- A call that only looks at one thing, and makes another one. -/
theorem askNew {α : Type} {P : Program} {f : FuncId} {args : Array Value} {O : Ob} {r : α → Value} {O' : α → Ob} (h : Stage F0 W l w) (i : Nat) (hi : l[i]? = some O) (hc : ∀ F, O.holds w F → Calls P f args w fun e w' => ∃ a, e = .returned (r a) ∧ ∃ G, (O' a).holds w' G ∧ (∀ k, G k → w.heap.size ≤ k) ∧ Below w.heap.size w w') :
    Calls P f args w fun e w' => ∃ a, e = .returned (r a) ∧ Stage F0 W (l ++ [O' a]) w' := by
  obtain ⟨F, ho⟩ := h.get hi
  exact (hc F ho).mono fun e w' ⟨a, he, G, h1, h2, h3⟩ => ⟨a, he, h.add h3 h1 h2⟩
end Stage
end Go.Proofs.YtmoolbmbdnkooaaGreat
