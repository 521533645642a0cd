/- Merged of Ints, IntsIn, RingObj, RingCalls. -/
import Derived.Test.YtcjjglaimfhofaaMeth
import Derived.Test.YtcjjglaimfhofaaProg
import Derived.Test.YtcjjglaimfhofaaLaw
import Derived.Test.YtcjjglaimfhofaaFibMath
import Derived.Test.YtcjjglaimfhofaaRow
import Derived.BigRegion
import Derived.StillTailTactics
import Derived.Deep.RegionHeld3
namespace Go.Proofs.Ytcjjglaimfhofaa
open Go.RowKit Go.Sort

def intC (x : Int) : List Value := [.int .i64 x]
theorem intC_len : ∀ x, (intC x).length = 1 := fun _ => rfl
theorem intC_set (l : List Int) (i : Nat) (x : Int) : (cellsBy intC l).set i (.int .i64 x) = cellsBy intC (l.set i x) := by
  have e : ∀ m : List Int, cellsBy intC m = m.map fun x : Int => Value.int .i64 x := fun m => by
    induction m with
    | nil => rfl
    | cons a r ih => rw [cellsBy_cons, ih]; rfl
  rw [e, e, List.map_set]
theorem intC_one (u : Value) (l : List Int) (h : u ∈ cellsBy intC l) : ∃ x, u = .int .i64 x := by
  simp only [cellsBy, List.mem_flatMap, intC, List.mem_singleton] at h
  obtain ⟨x, _, rfl⟩ := h
  exact ⟨x, rfl⟩
theorem owns_short {w : World} {base : Nat} {e : TypeId} {size g n cap m : Nat} {xs : List Value} (h : w.ownsRow base e size (.slice (some ⟨g, 0, none⟩) n cap) n xs) (hm : m ≤ n) : w.ownsRow base e size (.slice (some ⟨g, 0, none⟩) m cap) m (xs.take (m * size)) := by
  obtain ⟨h1, ⟨h2, _⟩ | ⟨g', cap', cur, hv, hg, hh, hle, hmax, hs, hx⟩⟩ := h
  · cases h2
  · injection hv with e1 e2 e3
    injection e1 with e1
    injection e1 with e1
    subst e1 e3
    have hms : m * size ≤ n * size := Nat.mul_le_mul_right _ hm
    refine ⟨by rw [List.length_take, h1]; omega, Or.inr ⟨_, _, cur, rfl, hg, hh, Nat.le_trans hm hle, hmax, hs, ?_⟩⟩
    rw [← hx, List.take_take, Nat.min_eq_left hms]
theorem sinfo_int : (Try.prog.info? 3).map (fun i => (i.zero, i.size, i.bytes)) = some (some (.int .i64 0), 1, 8) := by kernel_rfl
theorem szero_int (w : World) : (zeroValue 3).run Try.prog w = .ok (.int .i64 0) w := by kernel_rfl
/-- A row of integers that is someone's. -/
abbrev Ob.ints (v : Value) (l : List Int) : Ob := Ob.row 0 3 1 v l.length (cellsBy intC l)
namespace Stage
variable {F0 : Nat → Prop} {W w : World} {l : List Ob} {v : Value} {xs : List Int}
theorem intsForm (h : Stage F0 W l w) (i : Nat) (hi : l[i]? = some (Ob.ints v xs)) : ∃ a c, v = .slice a xs.length c ∧ xs.length ≤ c ∧ c ≤ 9223372036854775807 := by
  obtain ⟨a, c, h1, h2, h3⟩ := owns_form (h.owns i hi)
  exact ⟨a, c, h1, h2, by unfold maxLen at h3; omega⟩
theorem intsAt (h : Stage F0 W l w) (i : Nat) (hi : l[i]? = some (Ob.ints v xs)) (hn : 0 < xs.length) : ∃ g c, v = .slice (some ⟨g, 0, none⟩) xs.length c ∧ xs.length ≤ c ∧ c ≤ 9223372036854775807 ∧ g < w.heap.size ∧ (∀ j, j < xs.length → w.cell? ⟨g, j, none⟩ = some (.int .i64 (xs.getD j 0))) ∧ ∀ o, w.frozen? ⟨g, o, none⟩ = false := by
  obtain ⟨g, c, hv, h1, h2, _, h4, hc, hf⟩ := owns_at intC_len 0 (h.owns i hi) rfl hn
  refine ⟨g, c, hv, h1, by unfold maxLen at h2; omega, h4, fun j hj => ?_, hf⟩
  have := hc j 0 _ hj (by omega) rfl
  rwa [Nat.mul_one, Nat.add_zero] at this
/-- 'append(row, x)' at the operation, x written out in a block just made. -/
theorem wp_appendInt {P : Program} {ops : Array Oper} {rest : List Oper} {o : Oper} {a : Act} {Q : Exit → Act → World → Prop} {b : Nat} {x : Int} (hs : Stage F0 W l w) (i : Nat) (hi : l[i]? = some (Ob.ints v xs)) (hb : w.heap.size = b) (hgd : o.guard = none) (s y : Operand) (t : TypeId)
    (ho : o.op = .call { callee := .builtin .append, args := #[s, y], argTypes := #[t, t] }) (ht : P.underlying t = some (.slice 3)) (hinfo : (P.info? 3).map (fun i => (i.zero, i.size, i.bytes)) = some (some (.int .i64 0), 1, 8))
    (hv : a.eval s = v) (hx : a.eval y = .slice (some ⟨b, 0, none⟩) 1 1) (hlen : xs.length ≤ 1000000)
    (hK : ∀ v' w', Stage F0 W (l.set i (Ob.ints v' (xs ++ [x]))) w' → wpList P ops Q rest (a.put o.dst v') w') : wpList P ops Q (o :: rest) a (w.alloc (.cells #[.int .i64 x] 3)) := by
  subst hb
  have hA := hs.later ((Below.refl _ w).alloc (Nat.le_refl _) (.cells #[.int .i64 x] 3))
  refine hA.wp_append i hi hgd s y t ho (.int .i64 0) 8 ht hinfo rfl (by decide) (Nat.zero_le _) hv _ 1 [.int .i64 x] hx (reads_new w #[.int .i64 x] _ 1 1 _ rfl rfl) (by intro u hu; simp at hu; subst hu; rfl) (by unfold maxLen; omega) (by omega) fun v' w' h1 _ => hK v' w' ?_
  have e1 : cellsBy intC xs ++ [.int .i64 x] = cellsBy intC (xs ++ [x]) := by rw [cellsBy_append]; rfl
  have e2 : xs.length + 1 = (xs ++ [x]).length := by simp
  rw [e1, e2] at h1
  exact h1
/-- 'append(row, other...)' at the operation. -/
theorem wp_appendInts {P : Program} {ops : Array Oper} {rest : List Oper} {o : Oper} {a : Act} {Q : Exit → Act → World → Prop} {u : Value} {ys : List Int} (hs : Stage F0 W l w) (i : Nat) (hi : l[i]? = some (Ob.ints v xs)) (j : Nat) (hj : l[j]? = some (Ob.ints u ys)) (hgd : o.guard = none) (s y : Operand) (t : TypeId)
    (ho : o.op = .call { callee := .builtin .append, args := #[s, y], argTypes := #[t, t] }) (ht : P.underlying t = some (.slice 3)) (hinfo : (P.info? 3).map (fun i => (i.zero, i.size, i.bytes)) = some (some (.int .i64 0), 1, 8))
    (hv : a.eval s = v) (hx : a.eval y = u) (hlen : xs.length + ys.length ≤ 1000000)
    (hK : ∀ v' w', Stage F0 W (l.set i (Ob.ints v' (xs ++ ys))) w' → wpList P ops Q rest (a.put o.dst v') w') : wpList P ops Q (o :: rest) a w := by
  refine hs.wp_append i hi hgd s y t ho (.int .i64 0) 8 ht hinfo rfl (by decide) (Nat.zero_le _) hv _ ys.length (cellsBy intC ys) hx (reads_own (hs.owns j hj)) (fun z hz => by obtain ⟨q, rfl⟩ := intC_one z ys hz; rfl) (by unfold maxLen; omega) (by omega) fun v' w' h1 _ => hK v' w' ?_
  have e2 : xs.length + ys.length = (xs ++ ys).length := by simp
  rw [← cellsBy_append, e2] at h1
  exact h1
/-- A call that only looks at one thing, and makes another one. -/
theorem askNew {α : Type} {P : Program} {f : FuncId} {args : Array Value} {O : Ob} {r : α → Value} {O' : α → Ob} (h : Stage F0 W l w) (i : Nat) (hi : l[i]? = some O) (hc : ∀ F, O.holds w F → Calls P f args w fun e w' => ∃ a, e = .returned (r a) ∧ ∃ G, (O' a).holds w' G ∧ (∀ k, G k → w.heap.size ≤ k) ∧ Below w.heap.size w w') :
    Calls P f args w fun e w' => ∃ a, e = .returned (r a) ∧ Stage F0 W (l ++ [O' a]) w' := by
  obtain ⟨F, ho⟩ := h.get hi
  exact (hc F ho).mono fun e w' ⟨a, he, G, h1, h2, h3⟩ => ⟨a, he, h.add h3 h1 h2⟩
end Stage
end Go.Proofs.Ytcjjglaimfhofaa

namespace Go.Proofs.Ytcjjglaimfhofaa
open Go.RowKit Go.Sort

def IntsPost (w : World) (l : List Int) (e : Ending) (w' : World) : Prop := ∃ v, e = .returned v ∧ ∃ G, (Ob.ints v l).holds w' G ∧ (∀ k, G k → w.heap.size ≤ k) ∧ Below w.heap.size w w'
theorem ints_close {v : Value} {l : List Int} {w w' : World} (h : Stage (fun _ => False) w [Ob.ints v l] w') : IntsPost w l (.returned v) w' := by
  obtain ⟨hk, G, h1, h2, h3⟩ := h
  exact ⟨v, rfl, G 0, h1 0 _ rfl, fun k hb => (h3 0 k hb).1.elim False.elim id, hk.below (Nat.le_refl _) (fun _ h => h.elim)⟩
theorem Stage.newInts {F0 : Nat → Prop} {W w : World} {l : List Ob} {P : Program} {f : FuncId} {args : Array Value} {xs : List Int} (h : Stage F0 W l w) (hc : Calls P f args w (IntsPost w xs)) :
    Calls P f args w fun e w' => ∃ v, e = .returned v ∧ Stage F0 W (l ++ [Ob.ints v xs]) w' :=
  hc.mono fun _ _ ⟨v, he, _, h1, h2, h3⟩ => ⟨v, he, h.add h3 h1 h2⟩

theorem Stage.intsAtI {F0 : Nat → Prop} {W w : World} {l : List Ob} {a : Option Addr} {c : Nat} {xs : List Int} (h : Stage F0 W l w) (i : Nat) (hi : l[i]? = some (Ob.ints (.slice a xs.length c) xs)) : IntsAt w .i64 a xs := fun j hj => by
  obtain ⟨g, c', hv, _, _, _, hc, _⟩ := h.intsAt i hi (by omega)
  cases hv
  exact ⟨g, 0, rfl, by rw [Nat.zero_add]; exact hc j hj⟩
/-- h is a row of the integers l, in blocks of F. -/
def IntsIn (w : World) (F : Nat → Prop) (h : Value) (l : List Int) : Prop :=
  (h = .slice none 0 0 ∧ l = []) ∨ ∃ g o c, h = .slice (some ⟨g, o, none⟩) l.length c ∧ l.length ≤ c ∧ c ≤ 9223372036854775807 ∧ F g ∧ ∀ j, j < l.length → w.cell? ⟨g, o + j, none⟩ = some (.int .i64 (l.getD j 0))
theorem IntsIn.mono {w : World} {F G : Nat → Prop} {h : Value} {l : List Int} (H : IntsIn w F h l) (hG : ∀ b, F b → G b) : IntsIn w G h l := by
  rcases H with h1 | ⟨g, o, c, h1, h2, h3, h4, h5⟩
  · exact Or.inl h1
  · exact Or.inr ⟨g, o, c, h1, h2, h3, hG g h4, h5⟩
theorem IntsIn.keeps {w w' : World} {F G : Nat → Prop} {h : Value} {l : List Int} (H : IntsIn w F h l) (k : Keeps G w w') (hn : ∀ b, F b → ¬ G b) : IntsIn w' F h l := by
  rcases H with h1 | ⟨g, o, c, h1, h2, h3, h4, h5⟩
  · exact Or.inl h1
  · exact Or.inr ⟨g, o, c, h1, h2, h3, h4, fun j hj => k.cell (h5 j hj) (hn g h4)⟩
theorem IntsIn.later {w w' : World} {F : Nat → Prop} {h : Value} {l : List Int} (H : IntsIn w F h l) (hb : Below w.heap.size w w') : IntsIn w' F h l := H.keeps (Keeps.of_below_all hb (fun _ => False)) (fun _ _ x => x)
theorem IntsIn.form {w : World} {F : Nat → Prop} {h : Value} {l : List Int} (H : IntsIn w F h l) : ∃ a c, h = .slice a l.length c ∧ l.length ≤ c ∧ c ≤ 9223372036854775807 ∧ IntsAt w .i64 a l := by
  rcases H with ⟨h1, h2⟩ | ⟨g, o, c, h1, h2, h3, h4, h5⟩
  · subst h2
    exact ⟨none, 0, h1, Nat.le_refl _, by omega, fun i hi => absurd hi (Nat.not_lt_zero _)⟩
  · exact ⟨_, c, h1, h2, h3, fun j hj => ⟨g, o, rfl, h5 j hj⟩⟩
theorem IntsIn.reads {w : World} {F : Nat → Prop} {h : Value} {l : List Int} (H : IntsIn w F h l) : RowReads w 1 h l.length (cellsBy intC l) := by
  refine ⟨by rw [cellsBy_length intC 1 intC_len], ?_⟩
  rcases H with ⟨h1, h2⟩ | ⟨g, o, c, h1, h2, h3, h4, h5⟩
  · exact Or.inl ⟨h1, by rw [h2]; rfl⟩
  · refine Or.inr ⟨_, c, h1, fun j u hj => ?_⟩
    have hjl : j < l.length := by
      have := (List.getElem?_eq_some_iff.1 hj).1
      rw [cellsBy_length intC 1 intC_len] at this
      omega
    rw [add_at, h5 j hjl]
    have h3 := cellsBy_get intC 1 intC_len 0 l j 0 hjl (by omega)
    rw [Nat.mul_one, Nat.add_zero] at h3
    rw [h3] at hj
    exact hj
theorem IntsIn.of_ints {w : World} {G F : Nat → Prop} {v : Value} {l : List Int} (H : (Ob.ints v l).holds w G) (hG : ∀ b, G b → F b) : IntsIn w F v l := by
  obtain ⟨ho, rfl⟩ := H
  have hr := reads_own ho
  obtain ⟨a0, c0, hv0, h2, h3⟩ := owns_form ho
  obtain ⟨h1, h2' | ⟨g, cap, cur, hv, _⟩⟩ := ho
  · obtain ⟨e1, e2⟩ := h2'
    exact Or.inl ⟨e1, List.length_eq_zero_iff.1 e2⟩
  · rw [hv] at hv0
    cases hv0
    refine Or.inr ⟨g, 0, c0, hv, h2, by unfold maxLen at h3; omega, hG g (by rw [hv]; rfl), fun j hj => ?_⟩
    obtain ⟨_, ⟨e1, _⟩ | ⟨a, c, e1, hc⟩⟩ := hr
    · rw [hv] at e1; cases e1
    · rw [hv] at e1
      cases e1
      have h3 := cellsBy_get intC 1 intC_len 0 l j 0 hj (by omega)
      rw [Nat.mul_one, Nat.add_zero] at h3
      have := hc j (.int .i64 (l.getD j 0)) (by rw [h3]; rfl)
      rw [add_at] at this
      exact this
end Go.Proofs.Ytcjjglaimfhofaa

namespace Go.Proofs.Ytcjjglaimfhofaa
open Go.RowKit Go.Sort

structure Tie where
  nx : Int
  pv : Int
def tiC (t : Tie) : List Value := [.int .i64 t.nx, .int .i64 t.pv]
theorem tiC_len (t : Tie) : (tiC t).length = 2 := rfl
def Tie.no : Tie := ⟨0, 0⟩
def rawT (n : Nat) (f g : Int → Int) : List Tie := (List.range n).map fun i : Nat => ⟨f i, g i⟩
theorem rawT_len (n : Nat) (f g : Int → Int) : (rawT n f g).length = n := by simp [rawT]
theorem rawT_at {n : Nat} (f g : Int → Int) {i : Nat} (h : i < n) (d : Tie) : (rawT n f g).getD i d = ⟨f i, g i⟩ := by
  simp [rawT, List.getD_eq_getElem?_getD, h]
theorem tie_ext {a b : List Tie} {n : Nat} (ha : a.length = n) (hb : b.length = n) (h : ∀ i, i < n → a.getD i .no = b.getD i .no) : a = b := by
  apply List.ext_getElem (ha.trans hb.symm)
  intro i h1 h2
  have := h i (by omega)
  simpa [List.getD_eq_getElem?_getD, h1, h2] using this
theorem rawT_congr {n : Nat} {f g f' g' : Int → Int} (hf : ∀ i : Nat, i < n → f i = f' i) (hg : ∀ i : Nat, i < n → g i = g' i) : rawT n f g = rawT n f' g' :=
  tie_ext (rawT_len _ _ _) (rawT_len _ _ _) fun i hi => by rw [rawT_at _ _ hi, rawT_at _ _ hi, hf i hi, hg i hi]
theorem rawT_nx {n : Nat} (f g : Int → Int) {i : Nat} (hi : i < n) (y : Int) : (cellsBy tiC (rawT n f g)).set (i * 2) (.int .i64 y) = cellsBy tiC (rawT n (setI f i y) g) := by
  have h := cellsBy_set tiC 2 tiC_len .no (rawT n f g) i 0 (.int .i64 y) ⟨y, g i⟩ (by rw [rawT_len]; exact hi) (by omega) (by rw [rawT_at _ _ hi]; rfl)
  rw [Nat.add_zero] at h
  rw [h]
  congr 1
  refine tie_ext (by simp [rawT_len]) (rawT_len _ _ _) fun j hj => ?_
  rw [getD_set' _ _ _ _ _ (by rw [rawT_len]; exact hi), rawT_at _ _ hj, rawT_at _ _ hj]
  unfold setI
  by_cases e : i = j
  · subst e; simp
  · have e' : (j : Int) ≠ i := by omega
    simp [e, e']
theorem rawT_pv {n : Nat} (f g : Int → Int) {i : Nat} (hi : i < n) (y : Int) : (cellsBy tiC (rawT n f g)).set (i * 2 + 1) (.int .i64 y) = cellsBy tiC (rawT n f (setI g i y)) := by
  have h := cellsBy_set tiC 2 tiC_len .no (rawT n f g) i 1 (.int .i64 y) ⟨f i, y⟩ (by rw [rawT_len]; exact hi) (by omega) (by rw [rawT_at _ _ hi]; rfl)
  rw [h]
  congr 1
  refine tie_ext (by simp [rawT_len]) (rawT_len _ _ _) fun j hj => ?_
  rw [getD_set' _ _ _ _ _ (by rw [rawT_len]; exact hi), rawT_at _ _ hj, rawT_at _ _ hj]
  unfold setI
  by_cases e : i = j
  · subst e; simp
  · have e' : (j : Int) ≠ i := by omega
    simp [e, e']
def rgParts (p : Nat) (v : Value) (n : Nat) (f g : Int → Int) : List Ob :=
  [Ob.box p #[v] 131, Ob.row 0 141 2 v n (cellsBy tiC (rawT n f g))]
/-- At p lie n things: f says what follows each, g what each follows. -/
def Ob.ring (p n : Nat) (S : RSt) : Ob where
  holds w F := ∃ v, (Ob.group (rgParts p v n S.f S.g)).holds w F
  keeps := fun ⟨v, h⟩ k hn => ⟨v, (Ob.group _).keeps h k hn⟩
  lt := fun ⟨_, h⟩ => (Ob.group _).lt h
section
variable {F0 : Nat → Prop} {W0 w : World} {p n : Nat} {v : Value} {f g : Int → Int} {q : List Ob}
theorem rg_c0 (h : Stage F0 W0 (rgParts p v n f g ++ q) w) : w.cell? ⟨p, 0, none⟩ = some v := h.cell 0 rfl rfl
theorem rg_form (h : Stage F0 W0 (rgParts p v n f g ++ q) w) : ∃ a c, v = .slice a n c ∧ n ≤ c ∧ c ≤ 9223372036854775807 := by
  obtain ⟨a, c, h1, h2, h3⟩ := owns_form (h.owns 1 rfl)
  exact ⟨a, c, h1, h2, by unfold maxLen at h3; omega⟩
theorem rg_row (h : Stage F0 W0 (rgParts p v n f g ++ q) w) (hn : 0 < n) : ∃ b c, v = .slice (some ⟨b, 0, none⟩) n c ∧ n ≤ c ∧ c ≤ 9223372036854775807 ∧ b ≠ p ∧ b < w.heap.size ∧
    (∀ i : Nat, i < n → w.cell? ⟨b, i * 2, none⟩ = some (.int .i64 (f i)) ∧ w.cell? ⟨b, i * 2 + 1, none⟩ = some (.int .i64 (g i))) ∧ ∀ o, w.frozen? ⟨b, o, none⟩ = false := by
  obtain ⟨b, c, hv, h1, h2, _, h4, hc, hf⟩ := owns_at tiC_len .no (h.owns 1 rfl) (rawT_len n f g) hn
  have hne := h.rowNe 1 0 rfl rfl (by decide)
  subst hv
  refine ⟨b, c, rfl, h1, by unfold maxLen at h2; omega, fun e => hne (by rw [← e]; rfl), h4, fun i hi => ?_, hf⟩
  have e := rawT_at f g hi .no
  exact ⟨hc i 0 _ hi (by omega) (by rw [e]; rfl), hc i 1 _ hi (by omega) (by rw [e]; rfl)⟩
theorem rg_has (h : Stage F0 W0 (rgParts p v n f g ++ q) w) (x : Int) : Calls Try.prog 81 #[.pointer (some ⟨p, 0, none⟩), .int .i64 x] w fun e w' => e = .returned (.bool (inR n x)) ∧ w = w' := by
  obtain ⟨a, c, rfl, hc1, hc2⟩ := rg_form h
  have c0 := rg_c0 h
  unfold inR
  by_cases hx : 0 ≤ x
  · have hd := Lib.hid (show decide (0 ≤ x ∧ x < (n : Int)) = decide (x < (n : Int)) by congr 1; apply propext; omega)
    rw [hd.out]
    clear h hd
    go_enter Try.func81, Try.ntmps81
    go_wp2
    go_ret
    exact ⟨rfl, rfl⟩
  · rw [decide_eq_false (fun e => hx e.1)]
    clear h
    go_enter Try.func81, Try.ntmps81
    go_wp2
    go_ret
    exact ⟨rfl, rfl⟩
theorem rg_tie (hs : Stage F0 W0 (rgParts p v n f g ++ q) w) (x y : Nat) (hx : x < n) (hy : y < n) : Calls Try.prog 74 #[.pointer (some ⟨p, 0, none⟩), .int .i64 x, .int .i64 y] w fun e w' => e = .returned (.tuple #[]) ∧ Stage F0 W0 (rgParts p v n (setI f x y) (setI g y x) ++ q) w' := by
  have c0 := rg_c0 hs
  obtain ⟨b, c, rfl, hc1, hc2, hbp, hb, hc, hf⟩ := rg_row hs (by omega)
  have u0 := (hc x hx).1
  have u1 := (hc y hy).2
  have f0 := hf (x * 2)
  have f1 := hf (y * 2 + 1)
  have hs2 := (hs.storeRow 1 rfl (x * 2) (.int .i64 y) (rawT_nx f g hx y)).storeRow 1 rfl (y * 2 + 1) (.int .i64 x) (rawT_pv (setI f x y) g hy x)
  have hxi : (x : Int) < n := by omega
  have hyi : (y : Int) < n := by omega
  clear hs hc hf
  go_enter Try.func74, Try.ntmps74
  go_wp2_with fail
  go_end0
  exact ⟨rfl, hs2⟩
end
section
variable {w : World} {p n : Nat} {S : RSt} {F : Nat → Prop}
theorem rg_next (x : Int) (h : (Ob.ring p n S).holds w F) : Calls Try.prog 86 #[.pointer (some ⟨p, 0, none⟩), .int .i64 x] w fun e w' => e = .returned (.tuple #[.int .i64 (nextI n S x), .bool (inR n x)]) ∧ w = w' := by
  obtain ⟨v, hg⟩ := h
  have hs := Ob.group.open hg
  have c0 := rg_c0 (q := []) hs
  have hH := rg_has (q := []) hs x
  unfold nextI
  by_cases hx : inR n x = true
  · rw [hx] at hH ⊢
    rw [if_pos rfl]
    rw [inR_iff] at hx
    obtain ⟨i, rfl⟩ : ∃ i : Nat, x = i := ⟨x.toNat, by omega⟩
    obtain ⟨g, c, rfl, hc1, hc2, hgp, hgl, hc, hf⟩ := rg_row (q := []) hs (by omega)
    have u0 := (hc i (by omega)).1
    have hxi : (i : Int) < n := by omega
    generalize S.f i = z at *
    clear hs hg hc hf
    go_enter Try.func86, Try.ntmps86
    go_wp2_with fail
    refine hH.mono ?_
    rintro e w1 ⟨rfl, rfl⟩
    go_wp2_with fail
    go_ret2
    exact ⟨rfl, rfl⟩
  · rw [Bool.not_eq_true] at hx
    rw [hx] at hH ⊢
    rw [if_neg (by decide)]
    clear hs hg
    go_enter Try.func86, Try.ntmps86
    go_wp2_with fail
    refine hH.mono ?_
    rintro e w1 ⟨rfl, rfl⟩
    go_wp2_with fail
    go_ret2
    exact ⟨rfl, rfl⟩
theorem rg_prev (x : Int) (h : (Ob.ring p n S).holds w F) : Calls Try.prog 97 #[.pointer (some ⟨p, 0, none⟩), .int .i64 x] w fun e w' => e = .returned (.tuple #[.int .i64 (prevI n S x), .bool (inR n x)]) ∧ w = w' := by
  obtain ⟨v, hg⟩ := h
  have hs := Ob.group.open hg
  have c0 := rg_c0 (q := []) hs
  have hH := rg_has (q := []) hs x
  unfold prevI
  by_cases hx : inR n x = true
  · rw [hx] at hH ⊢
    rw [if_pos rfl]
    rw [inR_iff] at hx
    obtain ⟨i, rfl⟩ : ∃ i : Nat, x = i := ⟨x.toNat, by omega⟩
    obtain ⟨g, c, rfl, hc1, hc2, hgp, hgl, hc, hf⟩ := rg_row (q := []) hs (by omega)
    have u0 := (hc i (by omega)).2
    have hxi : (i : Int) < n := by omega
    generalize S.g i = z at *
    clear hs hg hc hf
    go_enter Try.func97, Try.ntmps97
    go_wp2_with fail
    refine hH.mono ?_
    rintro e w1 ⟨rfl, rfl⟩
    go_wp2_with fail
    go_ret2
    exact ⟨rfl, rfl⟩
  · rw [Bool.not_eq_true] at hx
    rw [hx] at hH ⊢
    rw [if_neg (by decide)]
    clear hs hg
    go_enter Try.func97, Try.ntmps97
    go_wp2_with fail
    refine hH.mono ?_
    rintro e w1 ⟨rfl, rfl⟩
    go_wp2_with fail
    go_ret2
    exact ⟨rfl, rfl⟩
end
end Go.Proofs.Ytcjjglaimfhofaa

namespace Go.Proofs.Ytcjjglaimfhofaa
open Go.RowKit Go.Sort

theorem info_thing : (Try.prog.info? 141).map (fun i => (i.zero, i.size, i.bytes)) = some (some (.agg #[.int .i64 0, .int .i64 0]), 2, 16) := by kernel_rfl
/-- So far tied. -/
def newF (j : Nat) : Int → Int := fun z => if z < j then z else 0
theorem newF_zero (n : Nat) : rawT n (newF 0) (newF 0) = List.replicate n .no := by
  refine tie_ext (rawT_len _ _ _) (by simp) fun i hi => ?_
  rw [rawT_at _ _ hi]
  have h : ¬ ((i : Int) < (0 : Nat)) := by omega
  unfold newF
  rw [if_neg h]
  simp [List.getD_eq_getElem?_getD, hi, Tie.no]
theorem newF_set (n j : Nat) : rawT n (setI (newF j) j j) (setI (newF j) j j) = rawT n (newF (j + 1)) (newF (j + 1)) := by
  have h : ∀ i : Nat, i < n → setI (newF j) j j i = newF (j + 1) i := fun i _ => by
    unfold setI newF
    by_cases e : i = j
    · subst e; rw [if_pos rfl, if_pos (by omega)]
    · rw [if_neg (by omega)]
      by_cases e2 : i < j
      · rw [if_pos (by omega), if_pos (by omega)]
      · rw [if_neg (by omega), if_neg (by omega)]
  exact rawT_congr h h
theorem newF_all (n : Nat) : rawT n (newF n) (newF n) = rawT n id id := by
  have h : ∀ i : Nat, i < n → newF n i = id (i : Int) := fun i hi => by
    unfold newF; rw [if_pos (by omega)]; rfl
  exact rawT_congr h h
theorem rg_same_parts {p n : Nat} {v : Value} {f g f' g' : Int → Int} (h : rawT n f g = rawT n f' g') : rgParts p v n f g = rgParts p v n f' g' := by
  unfold rgParts; rw [h]
def NewPostR (w : World) (n : Nat) (e : Ending) (w' : World) : Prop :=
  ∃ p, e = .returned (.tuple #[.pointer (some ⟨p, 0, none⟩), .int .i64 0]) ∧ ∃ F', (Ob.ring p n (newS n)).holds w' F' ∧ (∀ k, F' k → w.heap.size ≤ k) ∧ Below w.heap.size w w'
set_option maxHeartbeats 1000000 in
theorem new_rg (n : Nat) (hn : n ≤ 65536) (w : World) : Calls Try.prog 54 #[.int .i64 n] w (NewPostR w n) := by
  have hmk := run_make_rows (P := Try.prog) 129 141 _ 2 16 Try.underlying129 info_thing n (by omega) (by omega)
  have hs0 := ((Stage.start w).newRow 141 2 n (madeCells #[.int .i64 0, .int .i64 0] (n * 2)) (size_madeCells _ _) (by unfold maxLen; omega)).alloc' #[.slice (some ⟨w.heap.size, 0, none⟩) n n] 131 (b := w.heap.size + 1) (size_alloc _ _)
  rw [made_rows tiC_len (by decide) Tie.no #[.int .i64 0, .int .i64 0] rfl n, ← newF_zero n] at hs0
  have hs : Stage (fun _ => False) w (rgParts (w.heap.size + 1) (.slice (some ⟨w.heap.size, 0, none⟩) n n) n (newF 0) (newF 0)) _ := hs0.select [1, 0] (by decide) rfl
  clear hs0
  generalize hg : w.heap.size = g at *
  have k0 := hs.cell 0 rfl (o := 0) rfl
  have hn1 : ¬ (65536 : Int) < n := by omega
  go_enter Try.func54, Try.ntmps54
  go_wp2_with fail
  go_loopw [17] (fun i wr => ∃ j : Nat, i = .int .i64 j ∧ j ≤ n ∧ Stage (fun _ => False) w (rgParts (g + 1) (.slice (some ⟨g, 0, none⟩) n n) n (newF j) (newF j)) wr) (fun i _ => n - (intOf i).toNat)
  case atStart => exact ⟨0, rfl, Nat.zero_le _, hs⟩
  case round =>
    clear hs k0
    obtain ⟨j, rfl, hj, hs⟩ := hrel
    by_cases hjn : j < n
    · have hji : (j : Int) < n := by omega
      have hT := rg_tie (q := []) hs j j hjn hjn
      rw [rg_same_parts (newF_set n j)] at hT
      clear hs
      go_wp2_with fail
      refine hT.mono ?_
      rintro e w2 ⟨rfl, hs2⟩
      clear hT
      go_wp2_with fail
      go_roundw
      case rel => exact ⟨j + 1, by go_num, by omega, hs2⟩
      case measure => simp [intOf]; omega
    · have hji : ¬ (j : Int) < n := by omega
      obtain rfl : j = n := by omega
      go_wp2_with fail
      rw [rg_same_parts (newF_all j)] at hs
      obtain ⟨F', h1, h2, h3⟩ := hs.closeNew
      go_ret2
      exact ⟨_, rfl, F', ⟨_, h1⟩, h2, h3⟩
theorem new_rg_no (n : Int) (w : World) (hn : ¬ (0 ≤ n ∧ n ≤ 65536)) :
    Calls Try.prog 54 #[.int .i64 n] w fun e w' => e = .returned (.tuple #[.pointer none, .int .i64 31]) ∧ w = w' := by
  have hc : n < 0 ∨ (¬ n < 0 ∧ 65536 < n) := by omega
  clear hn
  rcases hc with hc | ⟨hc, hc2⟩
  all_goals
    go_enter Try.func54, Try.ntmps54
    go_wp2_with fail
    go_ret2
    exact ⟨rfl, rfl⟩
theorem Stage.newRing {F0 : Nat → Prop} {W w : World} {l : List Ob} (h : Stage F0 W l w) (n : Nat) (hn : n ≤ 65536) : Calls Try.prog 54 #[.int .i64 n] w fun e w' => ∃ p, e = .returned (.tuple #[.pointer (some ⟨p, 0, none⟩), .int .i64 0]) ∧ Stage F0 W (l ++ [Ob.ring p n (newS n)]) w' :=
  (new_rg n hn w).mono fun _ _ ⟨p, he, _, h1, h2, h3⟩ => ⟨p, he, h.add h3 h1 h2⟩
section
variable {w : World} {p n : Nat} {S : RSt} {F : Nat → Prop}
def lenV (v : Value) : Nat := match v with | .slice _ n _ => n | _ => 0
set_option maxHeartbeats 1000000 in
theorem rg_all (G : RGood n S) (x : Int) (h : (Ob.ring p n S).holds w F) : Calls Try.prog 96 #[.pointer (some ⟨p, 0, none⟩), .int .i64 x] w (IntsPost w (allR S.R x)) := by
  obtain ⟨v, hg⟩ := h
  have hs := Ob.group.open hg
  have c0 := rg_c0 (q := []) hs
  have hH := rg_has (q := []) hs x
  have hfew := G.few
  by_cases hx : inR n x = true
  · rw [hx] at hH
    rw [inR_iff] at hx
    obtain ⟨s, T, e1, e2, e3, e4, e5⟩ := G.walk hx
    rw [e1]
    obtain ⟨i, rfl⟩ : ∃ i : Nat, x = i := ⟨x.toNat, by omega⟩
    obtain ⟨g, c, rfl, hc1, hc2, hgp, hgl, hc, hf⟩ := rg_row (q := []) hs (by omega)
    have hnx := hc i (by omega)
    rw [← e3] at hnx
    have hcell : ∀ j, j < s.length → ∀ w', Below w.heap.size w w' → ∃ m : Nat, T j = m ∧ (m : Int) < n ∧ (T j == (i : Int)) = false ∧ w'.cell? ⟨g, m * 2, none⟩ = some (.int .i64 (T (j + 1))) := fun j hj w' hb => by
      obtain ⟨h1, h2, h3, _⟩ := e5 j hj
      obtain ⟨m, hm⟩ : ∃ m : Nat, T j = m := ⟨(T j).toNat, by omega⟩
      refine ⟨m, hm, by omega, by simpa using h1, later hb ?_⟩
      have := (hc m (by omega)).1
      rw [← hm, h3] at this
      exact this
    have hc0 : ∀ w', Below w.heap.size w w' → w'.cell? ⟨p, 0, none⟩ = some (.slice (some ⟨g, 0, none⟩) n c) ∧ w'.cell? ⟨g, i * 2, none⟩ = some (.int .i64 (T 0)) := fun w' hb => ⟨later hb c0, later hb hnx.1⟩
    have htk := fun j (hj : j < s.length) => (e5 j hj).2.2.2
    have hz := Lib.hid e4
    have hall : s.take s.length = s := List.take_length
    have hs0 : Stage (fun _ => False) w [Ob.ints (.slice (some ⟨w.heap.size, 0, none⟩) 1 1) ((i : Int) :: s.take 0)] (w.alloc (.cells #[.int .i64 i] 3)) := (Stage.start w).newRow' 3 1 1 #[.int .i64 i] rfl (by decide) rfl
    have hxi := hx.2
    obtain ⟨k0, k1⟩ := hc0 _ hs0.below
    have hend : ∀ v w', Stage (fun _ => False) w [Ob.ints v ((i : Int) :: s)] w' → IntsPost w ((i : Int) :: s) (.returned v) w' := fun v w' h => ints_close h
    generalize IntsPost w ((i : Int) :: s) = P at *
    generalize hm : s.length = m at *
    clear hs hg hc hf e1 e3 e4 e5 G hnx
    generalize hbs : w.heap.size = b at *
    go_enter Try.func96, Try.ntmps96
    go_wp2_with fail
    refine hH.mono ?_
    rintro e w1 ⟨rfl, rfl⟩
    clear hH
    go_wp2_with fail
    go_loopw [5, 6] (fun v y wr => ∃ (j : Nat) (vs : Value), j ≤ m ∧ v = vs ∧ y = .int .i64 (T j) ∧ Stage (fun _ => False) w [Ob.ints vs ((i : Int) :: s.take j)] wr) (fun v _ _ => m + 2 - lenV v)
    case atStart => exact ⟨0, _, Nat.zero_le _, rfl, rfl, hs0⟩
    case round =>
      clear hs0 k0 k1
      obtain ⟨j, vs, hj, rfl, rfl, hN⟩ := hrel
      have hb := hN.below
      obtain ⟨k0, _⟩ := hc0 _ (hbs ▸ hb)
      by_cases hjm : j < m
      · obtain ⟨x1, hx1, hx2, hx3, u0⟩ := hcell j hjm _ (hbs ▸ hb)
        have hti := htk j hjm
        have hc1' := hc0
        have u0' : ∀ w', Below b w w' → w'.cell? ⟨g, x1 * 2, none⟩ = some (.int .i64 (T (j + 1))) := fun w' hb' => by
          obtain ⟨x2, h1, _, _, h2⟩ := hcell j hjm w' hb'
          obtain rfl : x1 = x2 := by omega
          exact h2
        clear u0
        generalize hy1 : T (j + 1) = y1 at *
        rw [hx1] at hti hx3
        rw [hx1]
        generalize hu : s.take j = u at *
        generalize hu2' : s.take (j + 1) = u2 at *
        have hli : u.length = j := by rw [← hu, List.length_take]; omega
        obtain ⟨a2, c2, rfl, h21, h22⟩ := hN.intsForm 0 rfl
        rw [show ((i : Int) :: u).length = j + 1 by simp [hli]] at *
        clear hcell hc0 htk hend hu
        go_wp2_with (at_builtin; refine hN.wp_appendInt (x := x1) 0 rfl rfl rfl _ _ 112 rfl Try.underlying112 sinfo_int rfl rfl (by simp; omega) ?_)
        intro v2 w2 hN2
        replace hN2 : Stage (fun _ => False) w [Ob.ints v2 (((i : Int) :: u) ++ [(x1 : Int)])] w2 := hN2
        rw [List.cons_append, ← hti] at hN2
        obtain ⟨k1, _⟩ := hc1' w2 (hbs ▸ hN2.below)
        have u1 := u0' w2 (hbs ▸ hN2.below)
        have hl2 : ((i : Int) :: u2).length = j + 2 := by rw [hti]; simp [hli]
        have hv2 := hN2.intsForm 0 rfl
        rw [hl2] at hv2
        obtain ⟨a3, c3, rfl, h31, h32⟩ := hv2
        clear hN hc1' u0' hti hl2 hli
        go_wp2_with fail
        go_roundw
        case rel => exact ⟨j + 1, _, by omega, rfl, hy1.symm ▸ rfl, hu2' ▸ hN2⟩
        case measure => simp [lenV]; omega
      · obtain rfl : j = m := by omega
        rw [hz.out] at *
        rw [hall] at hN
        clear hcell hc0 htk
        go_wp2_with fail
  · rw [Bool.not_eq_true] at hx
    rw [hx] at hH
    rw [G.none hx]
    clear hs hg
    have hP : ∀ w', Below w.heap.size w w' → IntsPost w [] (.returned (.slice none 0 0)) w' := fun w' hb => ints_close (((Stage.start w).later hb).nilRow 0 3 1)
    generalize IntsPost w [] = P at *
    go_enter Try.func96, Try.ntmps96
    go_wp2_with fail
    refine hH.mono ?_
    rintro e w1 ⟨rfl, rfl⟩
    go_wp2_with fail
    exact Below.refl _ _
end
end Go.Proofs.Ytcjjglaimfhofaa
