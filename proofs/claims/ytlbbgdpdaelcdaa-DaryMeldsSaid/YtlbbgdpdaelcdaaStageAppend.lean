/- Merged of ZMap, ZMapEntry, StageAppend. -/
import Derived.Test.YtlbbgdpdaelcdaaStage
import Derived.WideKeyEntry
namespace Go.Proofs.Ytlbbgdpdaelcdaa
open Go.RowKit Go.Sort

/-- What a map holds at a key, if it has it, and how many keys it has. -/
structure ZMapIs (D : DataW Unit) (f : Int → Option Int) (n : Nat) : Prop where
  at' : ∀ h : Int, D.atKey (.int .i64 h) (.lit (.int .i64 0)) = .lit (.int .i64 ((f h).getD 0))
  has' : ∀ h : Int, Maps.has D (.int .i64 h) = (f h).isSome
  tidy : Maps.Tidy D
  size : Maps.size D = n
def setZ (f : Int → Option Int) (k : Int) (o : Option Int) : Int → Option Int := fun h => if h = k then o else f h
theorem setZ_same (f : Int → Option Int) (k : Int) (o : Option Int) : setZ f k o k = o := by simp [setZ]
theorem setZ_other (f : Int → Option Int) {k h : Int} (o : Option Int) (hn : h ≠ k) : setZ f k o h = f h := by simp [setZ, hn]
theorem setZ_set (f : Int → Option Int) (k : Int) (o p : Option Int) : setZ (setZ f k o) k p = setZ f k p := by
  funext h; unfold setZ; split <;> rfl
theorem ZMapIs.empty : ZMapIs (.map []) (fun _ => none) 0 := ⟨fun _ => rfl, fun _ => rfl, ⟨[], rfl, List.Pairwise.nil⟩, rfl⟩
theorem ZMapIs.put {D : DataW Unit} {f : Int → Option Int} {n : Nat} (h : ZMapIs D f n) (k v : Int) : ZMapIs (D.put (.int .i64 k) (.lit (.int .i64 v))) (setZ f k (some v)) (if (f k).isSome then n else n + 1) := by
  have hk : WideAt.IsKeyLit (.int .i64 k) := trivial
  have hm := h.tidy.isMap
  refine ⟨fun x => ?_, fun x => ?_, h.tidy.put hk _, ?_⟩
  · by_cases hx : x = k
    · subst hx
      rw [Maps.atKey_put_same hm hk, setZ_same]; rfl
    · rw [Maps.atKey_put_other (by simpa using hx), h.at', setZ_other _ _ hx]
  · by_cases hx : x = k
    · subst hx
      rw [Maps.has_put_same hm hk, setZ_same]; rfl
    · rw [Maps.has_put_other (by simpa using hx), h.has', setZ_other _ _ hx]
  · rw [Maps.size_put h.tidy, h.has', h.size]
theorem ZMapIs.del {D : DataW Unit} {f : Int → Option Int} {n : Nat} (h : ZMapIs D f n) (k : Int) : ZMapIs (D.del (.int .i64 k)) (setZ f k none) (if (f k).isSome then n - 1 else n) := by
  refine ⟨fun x => ?_, fun x => ?_, h.tidy.del _, ?_⟩
  · by_cases hx : x = k
    · subst hx
      rw [Maps.atKey_del_same, setZ_same]; rfl
    · rw [Maps.atKey_del_other (by simpa using hx), h.at', setZ_other _ _ hx]
  · by_cases hx : x = k
    · subst hx
      rw [Maps.has_del_same, setZ_same]; rfl
    · rw [Maps.has_del_other (by simpa using hx), h.has', setZ_other _ _ hx]
  · have h1 := Maps.size_del (k := .int .i64 k) h.tidy
    rw [h.has', h.size] at h1
    split
    · rename_i e; rw [if_pos e] at h1; omega
    · rename_i e; rw [if_neg e] at h1; omega
/-- At block b lies a map of integers that holds f, of n keys. -/
def Ob.zmap (P : Program) (k e : TypeId) (b : Nat) (f : Int → Option Int) (n : Nat) : Ob where
  holds w F := (∃ D, w.ownsMap (H := Unit) P k (plainElem P e) b n D ∧ ZMapIs D f n) ∧ F = (· = b)
  keeps := by
    rintro w w' F G ⟨⟨D, h, hm⟩, rfl⟩ kp hg
    refine ⟨⟨D, ?_, hm⟩, rfl⟩
    have hlt := h.lt
    obtain ⟨es, clock, hb, r⟩ := h
    exact ⟨es, clock, by rw [kp.block b hlt (hg b rfl)]; exact hb, r⟩
  lt := by rintro w F ⟨⟨D, h, _⟩, rfl⟩ k rfl; exact h.lt
namespace Stage
variable {F0 : Nat → Prop} {W w w' : World} {l : List Ob} {P : Program} {t k e : TypeId} {b n : Nat} {f : Int → Option Int}
theorem newZMap (h : Stage F0 W l w) (P : Program) (k e : TypeId) {b : Nat} (hb : w.heap.size = b) : Stage F0 W (l ++ [Ob.zmap P k e b (fun _ => none) 0]) (w.alloc (.map #[] 0)) := by
  subst hb
  exact h.add ((Below.refl _ _).alloc (Nat.le_refl _) _) ⟨⟨_, World.ownsMap_made w P k _, ZMapIs.empty⟩, rfl⟩ (fun _ hk => Nat.le_of_eq hk.symm)
/-- 'm[k]': an equation that the walk takes. -/
theorem lookZ (h : Stage F0 W l w) (i : Nat) (hi : l[i]? = some (Ob.zmap P k e b f n)) (ht : P.underlying t = some (.map k e)) (hk : P.underlying k = some (.int .i64)) (he : P.underlying e = some (.int .i64)) (hz : (zeroValue e).run P w = .ok (.int .i64 0) w)
    (x : Int) (hx : -9223372036854775808 ≤ x ∧ x ≤ 9223372036854775807) : (Instr.lookup t (.map (some b)) (.int .i64 x) false).run P w = .ok (.int .i64 ((f x).getD 0)) w := by
  obtain ⟨_, ⟨D, hown, hm⟩, _⟩ := h.get hi
  obtain ⟨c, hrun, hat, _⟩ := hown.lookup_int (Maps.int_keyed hk) ht he hz (Maps.keyOf_int_mk hk (wf_i64' hx))
  rw [hm.at' x] at hat
  injection hat with hat
  injection hat with _ hat
  rw [hrun, hat]
/-- 'v, ok := m[k]'. -/
theorem lookOkZ (h : Stage F0 W l w) (i : Nat) (hi : l[i]? = some (Ob.zmap P k e b f n)) (ht : P.underlying t = some (.map k e)) (hk : P.underlying k = some (.int .i64)) (he : P.underlying e = some (.int .i64)) (hz : (zeroValue e).run P w = .ok (.int .i64 0) w)
    (x : Int) (hx : -9223372036854775808 ≤ x ∧ x ≤ 9223372036854775807) : (Instr.lookup t (.map (some b)) (.int .i64 x) true).run P w = .ok (.tuple #[.int .i64 ((f x).getD 0), .bool (f x).isSome]) w := by
  obtain ⟨_, ⟨D, hown, hm⟩, _⟩ := h.get hi
  obtain ⟨v, ps, hrun, hv⟩ := hown.look_ok (Maps.int_keyed hk) ht hz (plainElem_int he (by decide)) (Maps.keyOf_int_mk hk (wf_i64' hx))
  rw [hm.at' x] at hv
  obtain ⟨c, rfl, hc, _⟩ := plainElem_int_inv he hv
  simp only [Prod.mk.injEq, DataW.lit.injEq, Lit.int.injEq, true_and] at hc
  rw [hrun, hm.has' x, hc.1]
/-- 'len(m)'. -/
theorem lenZ (h : Stage F0 W l w) (i : Nat) (hi : l[i]? = some (Ob.zmap P k e b f n)) (ht : P.underlying t = some (.map k e)) (ty : TypeId) : (Builtin.len_ #[t] ty #[.map (some b)]).run P w = .ok (.int .i64 n) w := by
  obtain ⟨_, ⟨D, hown, hm⟩, _⟩ := h.get hi
  rw [hown.len ht ty, hm.size]
/-- 'm[k] = v' at the operation. -/
theorem wp_putZ {ops : Array Oper} {rest : List Oper} {o : Oper} {a : Act} {Q : Exit → Act → World → Prop} (h : Stage F0 W l w) (i : Nat) (hi : l[i]? = some (Ob.zmap P k e b f n)) (hg : o.guard = none) (m x v : Operand) (hop : o.op = Op.mapUpdate t m x v)
    (ht : P.underlying t = some (.map k e)) (hk : P.underlying k = some (.int .i64)) (he : P.underlying e = some (.int .i64)) (hM : n < maxLen)
    (hm : a.eval m = .map (some b)) (key val : Int) (hx : a.eval x = .int .i64 key) (hv : a.eval v = .int .i64 val) (hkey : -9223372036854775808 ≤ key ∧ key ≤ 9223372036854775807) (hval : -9223372036854775808 ≤ val ∧ val ≤ 9223372036854775807)
    (hK : ∀ w', Stage F0 W (l.set i (Ob.zmap P k e b (setZ f key (some val)) (if (f key).isSome then n else n + 1))) w' → wpList P ops Q rest (a.put o.dst undef) w') : wpList P ops Q (o :: rest) a w := by
  obtain ⟨_, ⟨D, hown, hmi⟩, _⟩ := h.get hi
  refine wpList_mapUpdate_own w hg m x v t hop k e (Maps.int_keyed hk) ht _ b n D hm hown hM _ _ _ hx hv (Maps.keyOf_int_mk hk (wf_i64' hkey)) _ [] (plainElem_int he (wf_i64' hval)) fun w' h1 h2 => hK w' ?_
  have h3 := hmi.put key val
  exact h.moved hi fun F hF => ⟨(· = b), ⟨⟨_, owns_tight h1 (Nat.le_of_eq h3.size), h3⟩, rfl⟩, by
    have e2 : F = (· = b) := hF.2
    subst e2
    exact ⟨keeps_of_grown h2, fun k hk => Or.inl hk⟩⟩
/-- 'delete(m, k)' at the operation. -/
theorem wp_deleteZ {ops : Array Oper} {rest : List Oper} {o : Oper} {a : Act} {Q : Exit → Act → World → Prop} (h : Stage F0 W l w) (i : Nat) (hi : l[i]? = some (Ob.zmap P k e b f n)) (hg : o.guard = none) (m x : Operand) (hop : o.op = Op.call { callee := Callee.builtin Builtin.delete, args := #[m, x], argTypes := #[t, k] })
    (ht : P.underlying t = some (.map k e)) (hk : P.underlying k = some (.int .i64))
    (hm : a.eval m = .map (some b)) (key : Int) (hx : a.eval x = .int .i64 key) (hkey : -9223372036854775808 ≤ key ∧ key ≤ 9223372036854775807)
    (hK : ∀ w', Stage F0 W (l.set i (Ob.zmap P k e b (setZ f key none) (if (f key).isSome then n - 1 else n))) w' → wpList P ops Q rest (a.put o.dst (.tuple #[])) w') : wpList P ops Q (o :: rest) a w := by
  obtain ⟨_, ⟨D, hown, hmi⟩, _⟩ := h.get hi
  refine wpList_delete_own w hg m x t k hop e (Maps.int_keyed hk) ht _ b n D hm hown _ _ hx (Maps.keyOf_int_mk hk (wf_i64' hkey)) fun w' h1 h2 => hK w' ?_
  have h3 := hmi.del key
  exact h.moved hi fun F hF => ⟨(· = b), ⟨⟨_, owns_tight h1 (Nat.le_of_eq h3.size), h3⟩, rfl⟩, by
    have e2 : F = (· = b) := hF.2
    subst e2
    exact ⟨keeps_of_grown h2.grown, fun k hk => Or.inl hk⟩⟩
end Stage
end Go.Proofs.Ytlbbgdpdaelcdaa

namespace Go.Proofs.Ytlbbgdpdaelcdaa
open Go.RowKit Go.Sort
open Go.WideElems (Fit findIdx_arr findIdx_born set_self)

section
variable {P : Program} {t k e : TypeId} {R : Value → Option (DataW Unit × List MemPlace)} {b : Nat} {es : Array MapEntry} {clock : Nat} {w : World}
/-- A key that is there: its entry is got, and the world is as it was; written, it is as if the map had been. -/
theorem entry_there (K : Maps.Keyed P k) (ht : P.underlying t = some (.map k e)) (hb : w.heap[b]? = some (.map es clock)) (F : Fit P k R es clock) {key : Value} {kl : Lit} (hkey : keyOf P k key = some kl) (hin : ∃ x ∈ es.toList, x.key = key) (val : Value) :
    ∃ (v0 : Value) (st : Nat) (w' : World), (Instr.mapEntry t (.map (some b)) key).run P w = .ok (.tuple #[v0, goInt st]) w ∧ (Instr.entryStore t (.map (some b)) (goInt st) val).run P w = .ok () w' ∧ (Instr.mapUpdate t (.map (some b)) key val).run P w = .ok () w' := by
  obtain ⟨s1, s2, _⟩ := F.stamped
  have hks : ∀ x ∈ es.toList, ∃ l, keyOf P k x.key = some l := fun x hx => by
    obtain ⟨y, hy⟩ := F.reads x hx
    exact ⟨y.1, WideElems.rd_key hy⟩
  rcases K.find w hkey es.toList hks with ⟨_, h2⟩ | ⟨j, e0, h1, h2, h3⟩
  · obtain ⟨x, hx, e⟩ := hin
    exact absurd e (h2 x hx)
  · have hj : es[j]? = some e0 := by simpa using h2
    have hsame : es.modify j (fun e => { e with key := key }) = es := by
      apply Array.ext'
      rw [Array.toList_modify, ChangeMaps.modify_eq_set _ _ _ _ h2]
      have : ({ e0 with key := key } : MapEntry) = e0 := by rw [← h3]
      rw [this]
      exact set_self _ _ _ h2
    have hidx : es.findIdx? (fun e => ((e.born : Nat) : Int) == ((e0.born : Nat) : Int)) = some j := by
      rw [findIdx_arr]
      exact findIdx_born s2 h2
    have hmod : es.modify j (fun e => { e with val := val }) = es.modify j (fun e' => { e' with key := key, val := val }) := by
      apply Array.ext'
      rw [Array.toList_modify, Array.toList_modify, ChangeMaps.modify_eq_set _ _ _ _ h2, ChangeMaps.modify_eq_set _ _ _ _ h2, ← h3]
    have hw : ChangeMaps.setBlock w b (.map es clock) = w := by
      have e1 : w.heap.setIfInBounds b (.map es clock) = w.heap := by
        apply Array.ext_getElem?
        intro i
        by_cases hi : i = b
        · subst hi
          exact (ChangeMaps.heap_setBlock_same hb _).trans hb.symm
        · exact ChangeMaps.heap_setBlock_other hb _ hi
      unfold ChangeMaps.setBlock
      rw [e1]
    refine ⟨e0.val, e0.born, ChangeMaps.setBlock w b (.map (es.modify j (fun e' => { e' with key := key, val := val })) clock), ?_, ?_, ?_⟩
    · conv => rhs; rw [← hw]
      simp [Instr.mapEntry, run_underlying ht, MapKept.run_getObj_map hb, K.check w false hkey, h1, hj, h3, K.stays w hkey, hsame, MapKept.run_setObj_map _ hb, Result.andThen, ChangeMaps.setBlock]
    · simp [Instr.entryStore, MapKept.run_getObj_map hb, asInt, asIntOf, goInt, hidx, hmod, MapKept.run_setObj_map _ hb, Result.andThen, ChangeMaps.setBlock]
    · simp [Instr.mapUpdate, run_underlying ht, MapKept.run_getObj_map hb, K.check w false hkey, h1, hj, h3, K.stays w hkey, MapKept.run_setObj_map _ hb, Result.andThen, ChangeMaps.setBlock]
theorem has_there (K : Maps.Keyed P k) (ht : P.underlying t = some (.map k e)) {z : Value} (hz : (zeroValue e).run P w = .ok z w) (F : Fit P k R es clock) (hb : w.heap[b]? = some (.map es clock)) {key : Value} {kl : Lit} (hkey : keyOf P k key = some kl) (h : Maps.has (DataW.map ((es.toList.map (WideElems.rg P k R)).foldr DataW.insert [])) kl = true) : ∃ x ∈ es.toList, x.key = key := by
  rcases Maps.fit_look true K ht hz hb F hkey with ⟨_, _, hat⟩ | ⟨e0, y, h1, h2, _⟩
  · rw [Maps.has_false_of_atKey hat] at h
    cases h
  · exact ⟨e0, h1, h2⟩
end
namespace Stage
variable {F0 : Nat → Prop} {W w : World} {l : List Ob} {P : Program} {t k e : TypeId} {b n : Nat} {f : Int → Option Int}
/-- The entry of a key that is there, got and written: equations that the walk takes. -/
theorem entryZ (h : Stage F0 W l w) (i : Nat) (hi : l[i]? = some (Ob.zmap P k e b f n)) (ht : P.underlying t = some (.map k e)) (hk : P.underlying k = some (.int .i64)) (he : P.underlying e = some (.int .i64)) (hz : (zeroValue e).run P w = .ok (.int .i64 0) w) (hM : n < maxLen)
    (key val : Int) (hkey : -9223372036854775808 ≤ key ∧ key ≤ 9223372036854775807) (hval : -9223372036854775808 ≤ val ∧ val ≤ 9223372036854775807) (hin : (f key).isSome = true) :
    ∃ (v0 : Value) (st : Nat) (w' : World), (Instr.mapEntry t (.map (some b)) (.int .i64 key)).run P w = .ok (.tuple #[v0, .int .i64 (st : Int)]) w ∧ (Instr.entryStore t (.map (some b)) (.int .i64 (st : Int)) (.int .i64 val)).run P w = .ok () w' ∧
      Stage F0 W (l.set i (Ob.zmap P k e b (setZ f key (some val)) n)) w' := by
  obtain ⟨_, ⟨D, hown, hmi⟩, _⟩ := h.get hi
  have hko := Maps.keyOf_int_mk hk (wf_i64' hkey)
  obtain ⟨w', hrun, h1, h2⟩ := hown.store (t := t) (Maps.int_keyed hk) ht hM hko (plainElem_int (H := Unit) he (wf_i64' hval))
  obtain ⟨es, clock, hb, F, _, rfl⟩ := hown
  obtain ⟨v0, st, w2, e1, e2, e3⟩ := entry_there (Maps.int_keyed hk) ht hb F hko (has_there (Maps.int_keyed hk) ht hz F hb hko (by rw [hmi.has']; exact hin)) (.int .i64 val)
  rw [hrun] at e3
  injection e3 with _ e3
  subst e3
  refine ⟨v0, st, w', e1, e2, ?_⟩
  have h3 := hmi.put key val
  rw [if_pos hin] at h3
  exact h.moved hi fun F hF => ⟨(· = b), ⟨⟨_, owns_tight h1 (Nat.le_of_eq h3.size), h3⟩, rfl⟩, by
    have e2 : F = (· = b) := hF.2
    subst e2
    exact ⟨keeps_of_grown h2.grown, fun k hk => Or.inl hk⟩⟩
end Stage
end Go.Proofs.Ytlbbgdpdaelcdaa

namespace Go.Proofs.Ytlbbgdpdaelcdaa
open Go.RowKit Go.Sort

theorem reads_box {w : World} {b : Nat} {c : Array Value} {t : TypeId} (h : Blk w b c t) (size m : Nat) (hs : c.size = m * size) : RowReads w size (.slice (some ⟨b, 0, none⟩) m m) m c.toList :=
  ⟨by simpa using hs, Or.inr ⟨_, m, rfl, fun j u hj => by rw [add_at, Nat.zero_add]; exact blk_cell h (by simpa using hj)⟩⟩
namespace Stage
variable {F0 : Nat → Prop} {W w : World} {l : List Ob} {P : Program} {B : Nat} {e : TypeId} {size n : Nat} {v : Value} {xs : List Value}
/-- Where only the draws' count is another one. -/
theorem same {w' : World} (h : Stage F0 W l w) (e1 : w'.heap = w.heap) (e2 : w'.os = w.os) (e3 : w'.tape = w.tape) (e4 : w'.output = w.output) : Stage F0 W l w' := h.later ⟨e2, e3, e4, by rw [e1]; exact Nat.le_refl _, fun k _ => by rw [e1]⟩
theorem newRow' (h : Stage F0 W l w) (e : TypeId) (size n : Nat) (c : Array Value) (hs : c.size = n * size) (hm : n ≤ maxLen) {b : Nat} (hb : w.heap.size = b) : Stage F0 W (l ++ [Ob.row 0 e size (.slice (some ⟨b, 0, none⟩) n n) n c.toList]) (w.alloc (.cells c e)) := by subst hb; exact h.newRow e size n c hs hm
theorem emptyRow' (h : Stage F0 W l w) (e : TypeId) (size : Nat) {b : Nat} (hb : w.heap.size = b) : Stage F0 W (l ++ [Ob.row 0 e size (.slice (some ⟨b, 0, none⟩) 0 0) 0 []]) (w.alloc (.cells #[] e)) := by subst hb; exact h.emptyRow e size
theorem run_append (hs : Stage F0 W l w) (i : Nat) (hi : l[i]? = some (Ob.row B e size v n xs)) (t ty : TypeId) (z : Value) (bytes : Nat) (ht : P.underlying t = some (.slice e)) (hinfo : (P.info? e).map (fun i => (i.zero, i.size, i.bytes)) = some (some z, size, bytes)) (hzs : z.cells.size = size) (hsz : 0 < size) (hB : B ≤ w.heap.size)
    (y : Value) (m : Nat) (news : List Value) (hr : RowReads w size y m news) (h1 : ∀ u ∈ news, u.oneCell' = true) (h63 : n + m ≤ maxLen) (hbytes : (n + m) * bytes ≤ 140737488355328) :
    ∃ v' w', (Builtin.append_ #[t, t] ty #[v, y]).run P w = .ok v' w' ∧ Stage F0 W (l.set i (Ob.row B e size v' (n + m) (xs ++ news))) w' ∧ (∀ k, rowF v' k → rowF v k ∨ w.heap.size ≤ k) := by
  obtain ⟨i0, hi0, hzz⟩ := Option.map_eq_some_iff.1 hinfo
  simp only [Prod.mk.injEq] at hzz
  obtain ⟨hz, hs0, hb⟩ := hzz
  obtain ⟨v', w', h2, h3, h4, h5⟩ := run_append_any w B t ty e i0 z size bytes ht hi0 hz hs0 hb hzs hsz v n xs (hs.owns i hi) y m news hr h1 h63 hbytes hB
  exact ⟨v', w', h2, hs.grown i hi h3 h4 h5, fun k hk => (h5 k hk).imp id (fun e => Nat.le_of_eq e.symm)⟩
theorem wp_append {ops : Array Oper} {rest : List Oper} {o : Oper} {a : Act} {Q : Exit → Act → World → Prop} (hs : Stage F0 W l w) (i : Nat) (hi : l[i]? = some (Ob.row B e size v n xs)) (hgd : o.guard = none) (s x : Operand) (t : TypeId)
    (ho : o.op = .call { callee := .builtin .append, args := #[s, x], argTypes := #[t, t] }) (z : Value) (bytes : Nat) (ht : P.underlying t = some (.slice e)) (hinfo : (P.info? e).map (fun i => (i.zero, i.size, i.bytes)) = some (some z, size, bytes)) (hzs : z.cells.size = size) (hsz : 0 < size) (hB : B ≤ w.heap.size)
    (hv : a.eval s = v) (y : Value) (m : Nat) (news : List Value) (hx : a.eval x = y) (hr : RowReads w size y m news) (h1 : ∀ u ∈ news, u.oneCell' = true) (h63 : n + m ≤ maxLen) (hbytes : (n + m) * bytes ≤ 140737488355328)
    (hK : ∀ v' w', Stage F0 W (l.set i (Ob.row B e size v' (n + m) (xs ++ news))) w' → (∀ k, rowF v' k → rowF v k ∨ w.heap.size ≤ k) → wpList P ops Q rest (a.put o.dst v') w') : wpList P ops Q (o :: rest) a w := by
  refine wpList_plain hgd fun K hK' => ?_
  obtain ⟨v', w', hrun, h2, h3⟩ := hs.run_append (P := P) i hi t o.type z bytes ht hinfo hzs hsz hB y m news hr h1 h63 hbytes
  unfold Oper.wp execOp
  simp only [ho, resolve, invoke, builtin, Sem.run_bind, Sem.run_pure, Result.andThen_ok, List.map_toArray, List.map_cons, List.map_nil, hv, hx, hrun]
  exact hK' _ _ (hK v' w' h2 h3)
theorem step_append {ops : Array Oper} {o : Oper} {a : Act} {K : Act → World → Prop} {Q : Exit → Act → World → Prop} {E : Prop} (hs : Stage F0 W l w) (i : Nat) (hi : l[i]? = some (Ob.row B e size v n xs)) (hgd : o.guard = none) (s x : Operand) (t : TypeId)
    (ho : o.op = .call { callee := .builtin .append, args := #[s, x], argTypes := #[t, t] }) (z : Value) (bytes : Nat) (ht : P.underlying t = some (.slice e)) (hinfo : (P.info? e).map (fun i => (i.zero, i.size, i.bytes)) = some (some z, size, bytes)) (hzs : z.cells.size = size) (hsz : 0 < size) (hB : B ≤ w.heap.size)
    (hv : a.eval s = v) (y : Value) (m : Nat) (news : List Value) (hx : a.eval x = y) (hr : RowReads w size y m news) (h1 : ∀ u ∈ news, u.oneCell' = true) (h63 : n + m ≤ maxLen) (hbytes : (n + m) * bytes ≤ 140737488355328)
    (hK : ∀ v' w', Stage F0 W (l.set i (Ob.row B e size v' (n + m) (xs ++ news))) w' → (∀ k, rowF v' k → rowF v k ∨ w.heap.size ≤ k) → K (a.put o.dst v') w') :
    if Region.wanted o (yielded ops a.tmps) = true then Oper.wp P o a w K Q else E := by
  have hw : Region.wanted o (yielded ops a.tmps) = true := by simp [Region.wanted, hgd]
  rw [if_pos hw]
  obtain ⟨v', w', hrun, h2, h3⟩ := hs.run_append (P := P) i hi t o.type z bytes ht hinfo hzs hsz hB y m news hr h1 h63 hbytes
  unfold Oper.wp execOp
  simp only [ho, resolve, invoke, builtin, Sem.run_bind, Sem.run_pure, Result.andThen_ok, List.map_toArray, List.map_cons, List.map_nil, hv, hx, hrun]
  exact hK v' w' h2 h3
end Stage
end Go.Proofs.Ytlbbgdpdaelcdaa
