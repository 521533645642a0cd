/- Maps from whatever integers to integers, as things of a stage, of no program: what is there, what isn't, and how many. -/
import Derived.Test.YtokpngmfmkfmeaaStage
namespace Go.Proofs.Ytokpngmfmkfmeaa
open Go.RowKit Go.Sort

/-- What a map holds at a key, if it has it, and how many keys it has. -/
structure ZMapIs (D : DataW Unit) (f : Int → Option Int) (n : Nat) : Prop where
  at' : ∀ h : Int, D.atKey (.int .i64 h) (.lit (.int .i64 0)) = .lit (.int .i64 ((f h).getD 0))
  has' : ∀ h : Int, Maps.has D (.int .i64 h) = (f h).isSome
  tidy : Maps.Tidy D
  size : Maps.size D = n
def setZ (f : Int → Option Int) (k : Int) (o : Option Int) : Int → Option Int := fun h => if h = k then o else f h
theorem setZ_same (f : Int → Option Int) (k : Int) (o : Option Int) : setZ f k o k = o := by simp [setZ]
theorem setZ_other (f : Int → Option Int) {k h : Int} (o : Option Int) (hn : h ≠ k) : setZ f k o h = f h := by simp [setZ, hn]
theorem setZ_set (f : Int → Option Int) (k : Int) (o p : Option Int) : setZ (setZ f k o) k p = setZ f k p := by
  funext h; unfold setZ; split <;> rfl
theorem ZMapIs.empty : ZMapIs (.map []) (fun _ => none) 0 := ⟨fun _ => rfl, fun _ => rfl, ⟨[], rfl, List.Pairwise.nil⟩, rfl⟩
theorem ZMapIs.put {D : DataW Unit} {f : Int → Option Int} {n : Nat} (h : ZMapIs D f n) (k v : Int) : ZMapIs (D.put (.int .i64 k) (.lit (.int .i64 v))) (setZ f k (some v)) (if (f k).isSome then n else n + 1) := by
  have hk : WideAt.IsKeyLit (.int .i64 k) := trivial
  have hm := h.tidy.isMap
  refine ⟨fun x => ?_, fun x => ?_, h.tidy.put hk _, ?_⟩
  · by_cases hx : x = k
    · subst hx
      rw [Maps.atKey_put_same hm hk, setZ_same]; rfl
    · rw [Maps.atKey_put_other (by simpa using hx), h.at', setZ_other _ _ hx]
  · by_cases hx : x = k
    · subst hx
      rw [Maps.has_put_same hm hk, setZ_same]; rfl
    · rw [Maps.has_put_other (by simpa using hx), h.has', setZ_other _ _ hx]
  · rw [Maps.size_put h.tidy, h.has', h.size]
theorem ZMapIs.del {D : DataW Unit} {f : Int → Option Int} {n : Nat} (h : ZMapIs D f n) (k : Int) : ZMapIs (D.del (.int .i64 k)) (setZ f k none) (if (f k).isSome then n - 1 else n) := by
  refine ⟨fun x => ?_, fun x => ?_, h.tidy.del _, ?_⟩
  · by_cases hx : x = k
    · subst hx
      rw [Maps.atKey_del_same, setZ_same]; rfl
    · rw [Maps.atKey_del_other (by simpa using hx), h.at', setZ_other _ _ hx]
  · by_cases hx : x = k
    · subst hx
      rw [Maps.has_del_same, setZ_same]; rfl
    · rw [Maps.has_del_other (by simpa using hx), h.has', setZ_other _ _ hx]
  · have h1 := Maps.size_del (k := .int .i64 k) h.tidy
    rw [h.has', h.size] at h1
    split
    · rename_i e; rw [if_pos e] at h1; omega
    · rename_i e; rw [if_neg e] at h1; omega
/-- At block b lies a map of integers that holds f, of n keys. -/
def Ob.zmap (P : Program) (k e : TypeId) (b : Nat) (f : Int → Option Int) (n : Nat) : Ob where
  holds w F := (∃ D, w.ownsMap (H := Unit) P k (plainElem P e) b n D ∧ ZMapIs D f n) ∧ F = (· = b)
  keeps := by
    rintro w w' F G ⟨⟨D, h, hm⟩, rfl⟩ kp hg
    refine ⟨⟨D, ?_, hm⟩, rfl⟩
    have hlt := h.lt
    obtain ⟨es, clock, hb, r⟩ := h
    exact ⟨es, clock, by rw [kp.block b hlt (hg b rfl)]; exact hb, r⟩
  lt := by rintro w F ⟨⟨D, h, _⟩, rfl⟩ k rfl; exact h.lt
namespace Stage
variable {F0 : Nat → Prop} {W w w' : World} {l : List Ob} {P : Program} {t k e : TypeId} {b n : Nat} {f : Int → Option Int}
theorem newZMap (h : Stage F0 W l w) (P : Program) (k e : TypeId) {b : Nat} (hb : w.heap.size = b) : Stage F0 W (l ++ [Ob.zmap P k e b (fun _ => none) 0]) (w.alloc (.map #[] 0)) := by
  subst hb
  exact h.add ((Below.refl _ _).alloc (Nat.le_refl _) _) ⟨⟨_, World.ownsMap_made w P k _, ZMapIs.empty⟩, rfl⟩ (fun _ hk => Nat.le_of_eq hk.symm)
/-- 'm[k]': an equation that the walk takes. -/
theorem lookZ (h : Stage F0 W l w) (i : Nat) (hi : l[i]? = some (Ob.zmap P k e b f n)) (ht : P.underlying t = some (.map k e)) (hk : P.underlying k = some (.int .i64)) (he : P.underlying e = some (.int .i64)) (hz : (zeroValue e).run P w = .ok (.int .i64 0) w)
    (x : Int) (hx : -9223372036854775808 ≤ x ∧ x ≤ 9223372036854775807) : (Instr.lookup t (.map (some b)) (.int .i64 x) false).run P w = .ok (.int .i64 ((f x).getD 0)) w := by
  obtain ⟨_, ⟨D, hown, hm⟩, _⟩ := h.get hi
  obtain ⟨c, hrun, hat, _⟩ := hown.lookup_int (Maps.int_keyed hk) ht he hz (Maps.keyOf_int_mk hk (wf_i64' hx))
  rw [hm.at' x] at hat
  injection hat with hat
  injection hat with _ hat
  rw [hrun, hat]
/-- 'v, ok := m[k]'. -/
theorem lookOkZ (h : Stage F0 W l w) (i : Nat) (hi : l[i]? = some (Ob.zmap P k e b f n)) (ht : P.underlying t = some (.map k e)) (hk : P.underlying k = some (.int .i64)) (he : P.underlying e = some (.int .i64)) (hz : (zeroValue e).run P w = .ok (.int .i64 0) w)
    (x : Int) (hx : -9223372036854775808 ≤ x ∧ x ≤ 9223372036854775807) : (Instr.lookup t (.map (some b)) (.int .i64 x) true).run P w = .ok (.tuple #[.int .i64 ((f x).getD 0), .bool (f x).isSome]) w := by
  obtain ⟨_, ⟨D, hown, hm⟩, _⟩ := h.get hi
  obtain ⟨v, ps, hrun, hv⟩ := hown.look_ok (Maps.int_keyed hk) ht hz (plainElem_int he (by decide)) (Maps.keyOf_int_mk hk (wf_i64' hx))
  rw [hm.at' x] at hv
  obtain ⟨c, rfl, hc, _⟩ := plainElem_int_inv he hv
  simp only [Prod.mk.injEq, DataW.lit.injEq, Lit.int.injEq, true_and] at hc
  rw [hrun, hm.has' x, hc.1]
/-- 'len(m)'. -/
theorem lenZ (h : Stage F0 W l w) (i : Nat) (hi : l[i]? = some (Ob.zmap P k e b f n)) (ht : P.underlying t = some (.map k e)) (ty : TypeId) : (Builtin.len_ #[t] ty #[.map (some b)]).run P w = .ok (.int .i64 n) w := by
  obtain ⟨_, ⟨D, hown, hm⟩, _⟩ := h.get hi
  rw [hown.len ht ty, hm.size]
/-- 'm[k] = v' at the operation. -/
theorem wp_putZ {ops : Array Oper} {rest : List Oper} {o : Oper} {a : Act} {Q : Exit → Act → World → Prop} (h : Stage F0 W l w) (i : Nat) (hi : l[i]? = some (Ob.zmap P k e b f n)) (hg : o.guard = none) (m x v : Operand) (hop : o.op = Op.mapUpdate t m x v)
    (ht : P.underlying t = some (.map k e)) (hk : P.underlying k = some (.int .i64)) (he : P.underlying e = some (.int .i64)) (hM : n < maxLen)
    (hm : a.eval m = .map (some b)) (key val : Int) (hx : a.eval x = .int .i64 key) (hv : a.eval v = .int .i64 val) (hkey : -9223372036854775808 ≤ key ∧ key ≤ 9223372036854775807) (hval : -9223372036854775808 ≤ val ∧ val ≤ 9223372036854775807)
    (hK : ∀ w', Stage F0 W (l.set i (Ob.zmap P k e b (setZ f key (some val)) (if (f key).isSome then n else n + 1))) w' → wpList P ops Q rest (a.put o.dst undef) w') : wpList P ops Q (o :: rest) a w := by
  obtain ⟨_, ⟨D, hown, hmi⟩, _⟩ := h.get hi
  refine wpList_mapUpdate_own w hg m x v t hop k e (Maps.int_keyed hk) ht _ b n D hm hown hM _ _ _ hx hv (Maps.keyOf_int_mk hk (wf_i64' hkey)) _ [] (plainElem_int he (wf_i64' hval)) fun w' h1 h2 => hK w' ?_
  have h3 := hmi.put key val
  exact h.moved hi fun F hF => ⟨(· = b), ⟨⟨_, owns_tight h1 (Nat.le_of_eq h3.size), h3⟩, rfl⟩, by
    have e2 : F = (· = b) := hF.2
    subst e2
    exact ⟨keeps_of_grown h2, fun k hk => Or.inl hk⟩⟩
/-- 'delete(m, k)' at the operation. -/
theorem wp_deleteZ {ops : Array Oper} {rest : List Oper} {o : Oper} {a : Act} {Q : Exit → Act → World → Prop} (h : Stage F0 W l w) (i : Nat) (hi : l[i]? = some (Ob.zmap P k e b f n)) (hg : o.guard = none) (m x : Operand) (hop : o.op = Op.call { callee := Callee.builtin Builtin.delete, args := #[m, x], argTypes := #[t, k] })
    (ht : P.underlying t = some (.map k e)) (hk : P.underlying k = some (.int .i64))
    (hm : a.eval m = .map (some b)) (key : Int) (hx : a.eval x = .int .i64 key) (hkey : -9223372036854775808 ≤ key ∧ key ≤ 9223372036854775807)
    (hK : ∀ w', Stage F0 W (l.set i (Ob.zmap P k e b (setZ f key none) (if (f key).isSome then n - 1 else n))) w' → wpList P ops Q rest (a.put o.dst (.tuple #[])) w') : wpList P ops Q (o :: rest) a w := by
  obtain ⟨_, ⟨D, hown, hmi⟩, _⟩ := h.get hi
  refine wpList_delete_own w hg m x t k hop e (Maps.int_keyed hk) ht _ b n D hm hown _ _ hx (Maps.keyOf_int_mk hk (wf_i64' hkey)) fun w' h1 h2 => hK w' ?_
  have h3 := hmi.del key
  exact h.moved hi fun F hF => ⟨(· = b), ⟨⟨_, owns_tight h1 (Nat.le_of_eq h3.size), h3⟩, rfl⟩, by
    have e2 : F = (· = b) := hF.2
    subst e2
    exact ⟨keeps_of_grown h2.grown, fun k hk => Or.inl hk⟩⟩
end Stage
end Go.Proofs.Ytokpngmfmkfmeaa
