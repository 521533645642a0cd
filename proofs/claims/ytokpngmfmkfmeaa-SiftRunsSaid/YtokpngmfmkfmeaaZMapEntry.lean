/- 'm[k], .. = v, ..' of several: an entry is got and then written, in maps of integers, of no program. -/
import Derived.Test.YtokpngmfmkfmeaaZMap
import Derived.WideKeyEntry
namespace Go.Proofs.Ytokpngmfmkfmeaa
open Go.RowKit Go.Sort
open Go.WideElems (Fit findIdx_arr findIdx_born set_self)

section
variable {P : Program} {t k e : TypeId} {R : Value → Option (DataW Unit × List MemPlace)} {b : Nat} {es : Array MapEntry} {clock : Nat} {w : World}
/-- A key that is there: its entry is got, and the world is as it was; written, it is as if the map had been. -/
theorem entry_there (K : Maps.Keyed P k) (ht : P.underlying t = some (.map k e)) (hb : w.heap[b]? = some (.map es clock)) (F : Fit P k R es clock) {key : Value} {kl : Lit} (hkey : keyOf P k key = some kl) (hin : ∃ x ∈ es.toList, x.key = key) (val : Value) :
    ∃ (v0 : Value) (st : Nat) (w' : World), (Instr.mapEntry t (.map (some b)) key).run P w = .ok (.tuple #[v0, goInt st]) w ∧ (Instr.entryStore t (.map (some b)) (goInt st) val).run P w = .ok () w' ∧ (Instr.mapUpdate t (.map (some b)) key val).run P w = .ok () w' := by
  obtain ⟨s1, s2, _⟩ := F.stamped
  have hks : ∀ x ∈ es.toList, ∃ l, keyOf P k x.key = some l := fun x hx => by
    obtain ⟨y, hy⟩ := F.reads x hx
    exact ⟨y.1, WideElems.rd_key hy⟩
  rcases K.find w hkey es.toList hks with ⟨_, h2⟩ | ⟨j, e0, h1, h2, h3⟩
  · obtain ⟨x, hx, e⟩ := hin
    exact absurd e (h2 x hx)
  · have hj : es[j]? = some e0 := by simpa using h2
    have hsame : es.modify j (fun e => { e with key := key }) = es := by
      apply Array.ext'
      rw [Array.toList_modify, ChangeMaps.modify_eq_set _ _ _ _ h2]
      have : ({ e0 with key := key } : MapEntry) = e0 := by rw [← h3]
      rw [this]
      exact set_self _ _ _ h2
    have hidx : es.findIdx? (fun e => ((e.born : Nat) : Int) == ((e0.born : Nat) : Int)) = some j := by
      rw [findIdx_arr]
      exact findIdx_born s2 h2
    have hmod : es.modify j (fun e => { e with val := val }) = es.modify j (fun e' => { e' with key := key, val := val }) := by
      apply Array.ext'
      rw [Array.toList_modify, Array.toList_modify, ChangeMaps.modify_eq_set _ _ _ _ h2, ChangeMaps.modify_eq_set _ _ _ _ h2, ← h3]
    have hw : ChangeMaps.setBlock w b (.map es clock) = w := by
      have e1 : w.heap.setIfInBounds b (.map es clock) = w.heap := by
        apply Array.ext_getElem?
        intro i
        by_cases hi : i = b
        · subst hi
          exact (ChangeMaps.heap_setBlock_same hb _).trans hb.symm
        · exact ChangeMaps.heap_setBlock_other hb _ hi
      unfold ChangeMaps.setBlock
      rw [e1]
    refine ⟨e0.val, e0.born, ChangeMaps.setBlock w b (.map (es.modify j (fun e' => { e' with key := key, val := val })) clock), ?_, ?_, ?_⟩
    · conv => rhs; rw [← hw]
      simp [Instr.mapEntry, run_underlying ht, MapKept.run_getObj_map hb, K.check w false hkey, h1, hj, h3, K.stays w hkey, hsame, MapKept.run_setObj_map _ hb, Result.andThen, ChangeMaps.setBlock]
    · simp [Instr.entryStore, MapKept.run_getObj_map hb, asInt, asIntOf, goInt, hidx, hmod, MapKept.run_setObj_map _ hb, Result.andThen, ChangeMaps.setBlock]
    · simp [Instr.mapUpdate, run_underlying ht, MapKept.run_getObj_map hb, K.check w false hkey, h1, hj, h3, K.stays w hkey, MapKept.run_setObj_map _ hb, Result.andThen, ChangeMaps.setBlock]
theorem has_there (K : Maps.Keyed P k) (ht : P.underlying t = some (.map k e)) {z : Value} (hz : (zeroValue e).run P w = .ok z w) (F : Fit P k R es clock) (hb : w.heap[b]? = some (.map es clock)) {key : Value} {kl : Lit} (hkey : keyOf P k key = some kl) (h : Maps.has (DataW.map ((es.toList.map (WideElems.rg P k R)).foldr DataW.insert [])) kl = true) : ∃ x ∈ es.toList, x.key = key := by
  rcases Maps.fit_look true K ht hz hb F hkey with ⟨_, _, hat⟩ | ⟨e0, y, h1, h2, _⟩
  · rw [Maps.has_false_of_atKey hat] at h
    cases h
  · exact ⟨e0, h1, h2⟩
end
namespace Stage
variable {F0 : Nat → Prop} {W w : World} {l : List Ob} {P : Program} {t k e : TypeId} {b n : Nat} {f : Int → Option Int}
/-- The entry of a key that is there, got and written: equations that the walk takes. -/
theorem entryZ (h : Stage F0 W l w) (i : Nat) (hi : l[i]? = some (Ob.zmap P k e b f n)) (ht : P.underlying t = some (.map k e)) (hk : P.underlying k = some (.int .i64)) (he : P.underlying e = some (.int .i64)) (hz : (zeroValue e).run P w = .ok (.int .i64 0) w) (hM : n < maxLen)
    (key val : Int) (hkey : -9223372036854775808 ≤ key ∧ key ≤ 9223372036854775807) (hval : -9223372036854775808 ≤ val ∧ val ≤ 9223372036854775807) (hin : (f key).isSome = true) :
    ∃ (v0 : Value) (st : Nat) (w' : World), (Instr.mapEntry t (.map (some b)) (.int .i64 key)).run P w = .ok (.tuple #[v0, .int .i64 (st : Int)]) w ∧ (Instr.entryStore t (.map (some b)) (.int .i64 (st : Int)) (.int .i64 val)).run P w = .ok () w' ∧
      Stage F0 W (l.set i (Ob.zmap P k e b (setZ f key (some val)) n)) w' := by
  obtain ⟨_, ⟨D, hown, hmi⟩, _⟩ := h.get hi
  have hko := Maps.keyOf_int_mk hk (wf_i64' hkey)
  obtain ⟨w', hrun, h1, h2⟩ := hown.store (t := t) (Maps.int_keyed hk) ht hM hko (plainElem_int (H := Unit) he (wf_i64' hval))
  obtain ⟨es, clock, hb, F, _, rfl⟩ := hown
  obtain ⟨v0, st, w2, e1, e2, e3⟩ := entry_there (Maps.int_keyed hk) ht hb F hko (has_there (Maps.int_keyed hk) ht hz F hb hko (by rw [hmi.has']; exact hin)) (.int .i64 val)
  rw [hrun] at e3
  injection e3 with _ e3
  subst e3
  refine ⟨v0, st, w', e1, e2, ?_⟩
  have h3 := hmi.put key val
  rw [if_pos hin] at h3
  exact h.moved hi fun F hF => ⟨(· = b), ⟨⟨_, owns_tight h1 (Nat.le_of_eq h3.size), h3⟩, rfl⟩, by
    have e2 : F = (· = b) := hF.2
    subst e2
    exact ⟨keeps_of_grown h2.grown, fun k hk => Or.inl hk⟩⟩
end Stage
end Go.Proofs.Ytokpngmfmkfmeaa
