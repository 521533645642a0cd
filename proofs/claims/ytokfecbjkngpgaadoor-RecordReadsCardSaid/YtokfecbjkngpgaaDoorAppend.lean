/- append onto a row of one's own, of no program: from whatever row, nil too; with where the new row lies; at a step of a plain region and of one that draws. -/
import Derived.Test.YtokfecbjkngpgaaDoorOwn
import Derived.Maps.AppendAt
import Derived.Deep.RegionLaw
namespace Go.Proofs.YtokfecbjkngpgaaDoor
open Go.RowKit Go.Sort

/-- The value x is a slice of m elements that reads as news. -/
def RowReads (w : World) (size : Nat) (x : Value) (m : Nat) (news : List Value) : Prop :=
  news.length = m * size ∧ ((x = .slice none 0 0 ∧ m = 0) ∨ ∃ a c, x = .slice (some a) m c ∧ ∀ j u, news[j]? = some u → w.cell? (a.add j) = some u)
theorem add_at (g o j : Nat) : (⟨g, o, none⟩ : Addr).add j = ⟨g, o + j, none⟩ := by
  unfold Addr.add
  by_cases h0 : j = 0
  · simp [h0]
  · simp [h0]
theorem RowReads.keeps {F : Nat → Prop} {w w' : World} {size : Nat} {x : Value} {m : Nat} {news : List Value} (h : RowReads w size x m news) (k : Keeps F w w') (hn : ∀ a m' c, x = .slice (some a) m' c → ¬ F a.block) : RowReads w' size x m news := by
  refine ⟨h.1, ?_⟩
  rcases h.2 with h2 | ⟨a, c, hx, hr⟩
  · exact Or.inl h2
  · refine Or.inr ⟨a, c, hx, fun j u hj => ?_⟩
    have hb : (a.add j).block = a.block := by unfold Addr.add; split <;> rfl
    exact k.cell (hr j u hj) (by rw [hb]; exact hn a m c hx)
theorem RowReads.later {w w' : World} {size : Nat} {x : Value} {m : Nat} {news : List Value} (h : RowReads w size x m news) (hb : Below w.heap.size w w') : RowReads w' size x m news := h.keeps (Keeps.of_below_all hb (fun _ => False)) (fun _ _ _ _ x => x)
/-- A row that was just written out. -/
theorem reads_new (w : World) (c : Array Value) (t : TypeId) (size m : Nat) (H : Nat) (hH : w.heap.size = H) (hs : c.size = m * size) : RowReads (w.alloc (.cells c t)) size (.slice (some ⟨H, 0, none⟩) m m) m c.toList :=
  ⟨by simpa using hs, Or.inr ⟨_, m, rfl, new_cells' w c t c.toList H hH rfl⟩⟩
/-- An owned row reads as what it owns. -/
theorem reads_own {w : World} {base : Nat} {e : TypeId} {size : Nat} {v : Value} {n : Nat} {xs : List Value} (h : w.ownsRow base e size v n xs) : RowReads w size v n xs := by
  have hc := @World.ownsRow.cells _ _ _ _ _ _ _ h
  refine ⟨h.1, ?_⟩
  rcases h.2 with ⟨h0, h1⟩ | ⟨g, cap, cur, hv, _⟩
  · exact Or.inl ⟨h0, h1⟩
  · exact Or.inr ⟨_, cap, hv, hc (g := g) (by rw [hv]; rfl)⟩
/-- A piece of an owned row. -/
theorem reads_sub {w : World} {base : Nat} {e : TypeId} {size g cap n : Nat} {xs : List Value} (h : w.ownsRow base e size (.slice (some ⟨g, 0, none⟩) n cap) n xs) (i m c : Nat) (him : i + m ≤ n) :
    RowReads w size (.slice (some ⟨g, i * size, none⟩) m c) m ((xs.drop (i * size)).take (m * size)) := by
  have hmul : i * size + m * size ≤ n * size := by rw [← Nat.add_mul]; exact Nat.mul_le_mul_right _ him
  refine ⟨by simp [h.1]; omega, Or.inr ⟨_, c, rfl, fun j u hj => ?_⟩⟩
  rw [List.getElem?_take] at hj
  split at hj
  · rw [List.getElem?_drop] at hj
    rw [add_at, h.cellAt _ (by omega)]
    exact hj
  · cases hj
/-- Nothing of whatever row. -/
theorem reads_empty (w : World) (size : Nat) (a : Addr) (c : Nat) : RowReads w size (.slice (some a) 0 c) 0 [] := ⟨by simp, Or.inr ⟨a, c, rfl, fun j u hj => by simp at hj⟩⟩
/-- A row of none that was just written out is the call's own. -/
theorem owns_empty (w : World) (e : TypeId) (size base : Nat) (hb : base ≤ w.heap.size) : (w.alloc (.cells #[] e)).ownsRow base e size (.slice (some ⟨w.heap.size, 0, none⟩) 0 0) 0 [] := World.ownsRow_made w #[] 0 hb (by decide) (by simp)

section
variable {P : Program} (w : World)
theorem run_append_any (base : Nat) (t ty e : TypeId) (i : TypeInfo) (z : Value) (size bytes : Nat) (ht : P.underlying t = some (.slice e)) (hi : P.info? e = some i) (hz : i.zero = some z)
    (hsize : i.size = size) (hby : i.bytes = bytes) (hzs : z.cells.size = size) (hsz : 0 < size)
    (v : Value) (n : Nat) (xs : List Value) (hown : w.ownsRow base e size v n xs)
    (x : Value) (m : Nat) (news : List Value) (hr : RowReads w size x m news) (h1 : ∀ u ∈ news, u.oneCell' = true)
    (h63 : n + m ≤ maxLen) (hbytes : (n + m) * bytes ≤ 140737488355328) (hbase : base ≤ w.heap.size) :
    ∃ v' w', (Builtin.append_ #[t, t] ty #[v, x]).run P w = .ok v' w' ∧ w'.ownsRow base e size v' (n + m) (xs ++ news) ∧ w.grownBy w' v.ownBlock ∧ (∀ k, rowF v' k → rowF v k ∨ k = w.heap.size) := by
  obtain ⟨hl, ⟨rfl, rfl⟩ | ⟨a, c, rfl, hnews⟩⟩ := hr
  · have : news = [] := List.eq_nil_of_length_eq_zero (by simpa using hl)
    subst this
    refine ⟨v, w, run_append_owned_none w base t ty e i size ht hi v n xs hown, by simpa using hown, ⟨rfl, rfl, rfl, Nat.le_refl _, fun _ _ _ => rfl⟩, fun k hk => Or.inl hk⟩
  · obtain ⟨v', w', h2, h3, h4, _, h5⟩ := run_append_own_at (P := P) w base t ty e i z size bytes ht hi hz hsize hby hzs hsz v n xs hown a m c news hl hnews h1 h63 hbytes hbase
    refine ⟨v', w', h2, h3, h4, fun k hk => ?_⟩
    unfold rowF at *
    rcases h5 with h5 | h5
    · exact Or.inl (by rw [← h5]; exact hk)
    · rw [h5] at hk
      exact Or.inr (by injection hk with hk; exact hk.symm)

theorem wp_append_any {o : Oper} {a : Act} {K : Act → World → Prop} {Q : Exit → Act → World → Prop} (s x : Operand) (t : TypeId)
    (ho : o.op = .call { callee := .builtin .append, args := #[s, x], argTypes := #[t, t] })
    (base : Nat) (e : TypeId) (i : TypeInfo) (z : Value) (size bytes : Nat) (ht : P.underlying t = some (.slice e)) (hi : P.info? e = some i) (hz : i.zero = some z)
    (hsize : i.size = size) (hby : i.bytes = bytes) (hzs : z.cells.size = size) (hsz : 0 < size)
    (v : Value) (n : Nat) (xs : List Value) (hs : a.eval s = v) (hown : w.ownsRow base e size v n xs)
    (y : Value) (m : Nat) (news : List Value) (hx : a.eval x = y) (hr : RowReads w size y m news) (h1 : ∀ u ∈ news, u.oneCell' = true)
    (h63 : n + m ≤ maxLen) (hbytes : (n + m) * bytes ≤ 140737488355328) (hbase : base ≤ w.heap.size)
    (h : ∀ v' w', w'.ownsRow base e size v' (n + m) (xs ++ news) → w.grownBy w' v.ownBlock → (∀ k, rowF v' k → rowF v k ∨ k = w.heap.size) → K (a.put o.dst v') w') : o.wp P a w K Q := by
  obtain ⟨v', w', hr, h2, h3, h4⟩ := run_append_any (P := P) w base t o.type e i z size bytes ht hi hz hsize hby hzs hsz v n xs hown y m news hr h1 h63 hbytes hbase
  unfold Oper.wp execOp
  simp only [ho, resolve, invoke, builtin, Sem.run_bind, Sem.run_pure, Result.andThen_ok, List.map_toArray, List.map_cons, List.map_nil, hs, hx, hr]
  exact h v' w' h2 h3 h4

/-- At a plain region's operation. -/
theorem wpList_append_any {ops : Array Oper} {rest : List Oper} {o : Oper} {a : Act} {Q : Exit → Act → World → Prop} (hgd : o.guard = none) (s x : Operand) (t : TypeId)
    (ho : o.op = .call { callee := .builtin .append, args := #[s, x], argTypes := #[t, t] })
    (base : Nat) (e : TypeId) (i : TypeInfo) (z : Value) (size bytes : Nat) (ht : P.underlying t = some (.slice e)) (hi : P.info? e = some i) (hz : i.zero = some z)
    (hsize : i.size = size) (hby : i.bytes = bytes) (hzs : z.cells.size = size) (hsz : 0 < size)
    (v : Value) (n : Nat) (xs : List Value) (hs : a.eval s = v) (hown : w.ownsRow base e size v n xs)
    (y : Value) (m : Nat) (news : List Value) (hx : a.eval x = y) (hr : RowReads w size y m news) (h1 : ∀ u ∈ news, u.oneCell' = true)
    (h63 : n + m ≤ maxLen) (hbytes : (n + m) * bytes ≤ 140737488355328) (hbase : base ≤ w.heap.size)
    (h : ∀ v' w', w'.ownsRow base e size v' (n + m) (xs ++ news) → w.grownBy w' v.ownBlock → (∀ k, rowF v' k → rowF v k ∨ k = w.heap.size) → wpList P ops Q rest (a.put o.dst v') w') : wpList P ops Q (o :: rest) a w :=
  wpList_plain hgd fun _ hK => wp_append_any w s x t ho base e i z size bytes ht hi hz hsize hby hzs hsz v n xs hs hown y m news hx hr h1 h63 hbytes hbase fun v' w' h2 h3 h4 => hK _ _ (h v' w' h2 h3 h4)

/-- At a step of a region that draws its order. -/
theorem step_append_any {ops : Array Oper} {o : Oper} {a : Act} {K : Act → World → Prop} {Q : Exit → Act → World → Prop} {E : Prop} (hgd : o.guard = none) (s x : Operand) (t : TypeId)
    (ho : o.op = .call { callee := .builtin .append, args := #[s, x], argTypes := #[t, t] })
    (base : Nat) (e : TypeId) (i : TypeInfo) (z : Value) (size bytes : Nat) (ht : P.underlying t = some (.slice e)) (hi : P.info? e = some i) (hz : i.zero = some z)
    (hsize : i.size = size) (hby : i.bytes = bytes) (hzs : z.cells.size = size) (hsz : 0 < size)
    (v : Value) (n : Nat) (xs : List Value) (hs : a.eval s = v) (hown : w.ownsRow base e size v n xs)
    (y : Value) (m : Nat) (news : List Value) (hx : a.eval x = y) (hr : RowReads w size y m news) (h1 : ∀ u ∈ news, u.oneCell' = true)
    (h63 : n + m ≤ maxLen) (hbytes : (n + m) * bytes ≤ 140737488355328) (hbase : base ≤ w.heap.size)
    (h : ∀ v' w', w'.ownsRow base e size v' (n + m) (xs ++ news) → w.grownBy w' v.ownBlock → (∀ k, rowF v' k → rowF v k ∨ k = w.heap.size) → K (a.put o.dst v') w') :
    if Region.wanted o (yielded ops a.tmps) = true then Oper.wp P o a w K Q else E := by
  have hw : Region.wanted o (yielded ops a.tmps) = true := by simp [Region.wanted, hgd]
  rw [if_pos hw]
  exact wp_append_any w s x t ho base e i z size bytes ht hi hz hsize hby hzs hsz v n xs hs hown y m news hx hr h1 h63 hbytes hbase h
end
/-- Behind 'append(append(T{}, ..), ..)', the first append. -/
theorem fresh_first {w w' : World} {e : TypeId} {v : Value} (hg : ((w.alloc (.cells #[] e)).drew).grownBy w' (Value.slice (some ⟨w.heap.size, 0, none⟩) 0 0).ownBlock) (hl : ∀ k, rowF v k → rowF (.slice (some ⟨w.heap.size, 0, none⟩) 0 0) k ∨ k = ((w.alloc (.cells #[] e)).drew).heap.size) :
    Below w.heap.size w w' ∧ ∀ k, rowF v k → w.heap.size ≤ k := by
  have hb : Below w.heap.size w ((w.alloc (.cells #[] e)).drew) := ((Below.refl _ w).alloc (Nat.le_refl _) _).drew
  refine ⟨hb.trans ((grown_keeps hg).below hb.size (fun b hb => ?_)), fun k hk => ?_⟩
  · have : w.heap.size = b := by simpa [rowF, Value.ownBlock] using hb
    omega
  · rcases hl k hk with h1 | h1
    · have : w.heap.size = k := by simpa [rowF, Value.ownBlock] using h1
      omega
    · rw [h1]; exact hb.size
theorem fresh_first' {w w' : World} {e : TypeId} {v : Value} (hg : (w.alloc (.cells #[] e)).grownBy w' (Value.slice (some ⟨w.heap.size, 0, none⟩) 0 0).ownBlock) (hl : ∀ k, rowF v k → rowF (.slice (some ⟨w.heap.size, 0, none⟩) 0 0) k ∨ k = w.heap.size + 1) :
    Below w.heap.size w w' ∧ ∀ k, rowF v k → w.heap.size ≤ k := by
  have hb : Below w.heap.size w (w.alloc (.cells #[] e)) := ((Below.refl _ w).alloc (Nat.le_refl _) _)
  refine ⟨hb.trans ((grown_keeps hg).below hb.size (fun b hb => ?_)), fun k hk => ?_⟩
  · have : w.heap.size = b := by simpa [rowF, Value.ownBlock] using hb
    omega
  · rcases hl k hk with h1 | h1
    · have : w.heap.size = k := by simpa [rowF, Value.ownBlock] using h1
      omega
    · omega
/-- .. and the second. -/
theorem fresh_next {B : Nat} {w w1 w' : World} {v v' : Value} (hb : Below B w w1) (hB : B ≤ w.heap.size) (hv : ∀ k, rowF v k → B ≤ k) (hg : w1.grownBy w' v.ownBlock) (hl : ∀ k, rowF v' k → rowF v k ∨ k = w1.heap.size) : Below B w w' ∧ ∀ k, rowF v' k → B ≤ k :=
  ⟨hb.trans ((grown_keeps hg).below (Nat.le_trans hB hb.size) hv), fun k hk => by
    rcases hl k hk with h1 | h1
    · exact hv k h1
    · rw [h1]; exact Nat.le_trans hB hb.size⟩
theorem reads_same {w w' : World} (hh : w'.heap = w.heap) {size : Nat} {x : Value} {m : Nat} {news : List Value} (h : RowReads w size x m news) : RowReads w' size x m news :=
  ⟨h.1, h.2.imp id fun ⟨a, c, hx, hr⟩ => ⟨a, c, hx, fun j u hj => by rw [World.cell?_of_block (w := w) (by rw [hh])]; exact hr j u hj⟩⟩
/-- .. where another row was appended to. -/
theorem reads_grown {w w' : World} {X n c : Nat} (hg : w.grownBy w' (Value.slice (some ⟨X, 0, none⟩) n c).ownBlock) {size m Y c2 : Nat} {news : List Value} (h : RowReads w size (.slice (some ⟨Y, 0, none⟩) m c2) m news) (hne : X ≠ Y) : RowReads w' size (.slice (some ⟨Y, 0, none⟩) m c2) m news :=
  h.keeps (grown_keeps hg) (fun a m' c' e => by cases e; intro hf; exact hne (by simpa [rowF, Value.ownBlock] using hf))
theorem owns_empty' (w : World) (e : TypeId) (size base H : Nat) (hH : w.heap.size = H) (hb : base ≤ w.heap.size) : (w.alloc (.cells #[] e)).ownsRow base e size (.slice (some ⟨H, 0, none⟩) 0 0) 0 [] := by
  subst hH; exact owns_empty w e size base hb
end Go.Proofs.YtokfecbjkngpgaaDoor
