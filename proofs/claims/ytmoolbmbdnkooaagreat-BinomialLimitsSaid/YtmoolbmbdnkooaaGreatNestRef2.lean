/- Merged of VMap, NestRef, NestRef2. -/
import Derived.Test.YtmoolbmbdnkooaaGreatPMap
import Derived.Test.YtmoolbmbdnkooaaGreatInts
import Derived.Test.YtmoolbmbdnkooaaGreatNestMath
import Derived.Test.YtmoolbmbdnkooaaGreatLess
import Derived.Deep.RegionLaw
import Derived.Deep.RegionHeld3
import Derived.Deep.DeepCutAuto
namespace Go.Proofs.YtmoolbmbdnkooaaGreat
open Go.RowKit Go.Sort

/-- How a value reads: as itself. -/
def anyElem (v : Value) : Option (DataW Value × List MemPlace) := some (.held v, [])
theorem anyElem_inv {v u : Value} {ps : List MemPlace} (h : anyElem v = some (.held u, ps)) : v = u := by
  unfold anyElem at h
  injection h with h
  injection h with h _
  injection h
/-- What a map holds at a key; each key is from 0 to below M. -/
structure VMapIs (D : DataW Value) (f : Int → Option Value) (M : Nat) : Prop where
  at' : ∀ (h : Int) (z : Value), D.atKey (.int .i64 h) (.held z) = .held ((f h).getD z)
  keys : ∃ es, D = .map es ∧ es.Pairwise (fun p q => p.1 ≠ q.1) ∧ ∀ p ∈ es, ∃ n : Nat, p.1 = .int .i64 n ∧ n < M
theorem VMapIs.size {D : DataW Value} {f : Int → Option Value} {M : Nat} (h : VMapIs D f M) : Maps.size D ≤ M := by
  obtain ⟨es, rfl, h1, h2⟩ := h.keys
  exact len_le_of_keys es h1 M h2
def setV (f : Int → Option Value) (k : Int) (o : Option Value) : Int → Option Value := fun h => if h = k then o else f h
theorem VMapIs.empty (M : Nat) : VMapIs (.map []) (fun _ => none) M := ⟨fun _ _ => rfl, [], rfl, List.Pairwise.nil, by simp⟩
theorem VMapIs.put {D : DataW Value} {f : Int → Option Value} {M : Nat} (h : VMapIs D f M) (k : Nat) (hk : k < M) (v : Value) : VMapIs (D.put (.int .i64 k) (.held v)) (setV f k (some v)) M := by
  obtain ⟨h1, es, rfl, h2, h3⟩ := h
  refine ⟨fun x z => ?_, ?_⟩
  · by_cases hx : x = k
    · subst hx
      rw [Maps.atKey_put_same ⟨_, rfl⟩ (show WideAt.IsKeyLit (.int .i64 (k : Int)) from trivial)]
      simp [setV]
    · rw [Maps.atKey_put_other (by simpa using hx), h1]
      simp [setV, hx]
  · obtain ⟨es', he, hp⟩ := Maps.Tidy.put (D := DataW.map es) ⟨es, rfl, h2⟩ (k := .int .i64 k) trivial (.held v)
    refine ⟨es', he, hp, fun p hp => ?_⟩
    have e : DataW.insert (.int .i64 (k : Int), .held v) (es.filter fun p => !p.1.sameKey (.int .i64 (k : Int))) = es' := by
      have : DataW.map (DataW.insert (.int .i64 (k : Int), .held v) (es.filter fun p => !p.1.sameKey (.int .i64 (k : Int)))) = DataW.map es' := he
      injection this
    rw [← e] at hp
    rcases Go.ChangeMaps.mem_insert_iff.1 hp with rfl | hp
    · exact ⟨k, rfl, hk⟩
    · exact h3 p (List.mem_filter.1 hp).1
theorem VMapIs.del {D : DataW Value} {f : Int → Option Value} {M : Nat} (h : VMapIs D f M) (k : Int) : VMapIs (D.del (.int .i64 k)) (setV f k none) M := by
  obtain ⟨h1, es, rfl, h2, h3⟩ := h
  refine ⟨fun x z => ?_, es.filter fun p => !p.1.sameKey (.int .i64 k), rfl, h2.filter _, fun p hp => h3 p (List.mem_filter.1 hp).1⟩
  by_cases hx : x = k
  · subst hx
    rw [Maps.atKey_del_same]
    simp [setV]
  · rw [Maps.atKey_del_other (by simpa using hx), h1]
    simp [setV, hx]
/-- At block b lies a map from integers to values that holds f. -/
def Ob.vmap (P : Program) (k : TypeId) (b : Nat) (f : Int → Option Value) (M : Nat) : Ob where
  holds w F := (∃ D, w.ownsMap (H := Value) P k anyElem b M D ∧ VMapIs D f M) ∧ F = (· = b)
  keeps := by
    rintro w w' F G ⟨⟨D, h, hm⟩, rfl⟩ kp hg
    refine ⟨⟨D, ?_, hm⟩, rfl⟩
    have hlt := h.lt
    obtain ⟨es, clock, hb, r⟩ := h
    exact ⟨es, clock, by rw [kp.block b hlt (hg b rfl)]; exact hb, r⟩
  lt := by rintro w F ⟨⟨D, h, _⟩, rfl⟩ k rfl; exact h.lt
theorem owns_tightV {P : Program} {k : TypeId} {w : World} {b n M : Nat} {D : DataW Value} (h : w.ownsMap P k anyElem b n D) (hM : Maps.size D ≤ M) : w.ownsMap P k anyElem b M D := by
  obtain ⟨es, clock, hb, F, _, rfl⟩ := h
  refine ⟨es, clock, hb, F, ?_, rfl⟩
  simpa [Maps.size, length_sorted] using hM

namespace Stage
variable {F0 : Nat → Prop} {W w w' : World} {l : List Ob} {P : Program} {t k e : TypeId} {b M : Nat} {f : Int → Option Value}
theorem newVMap (h : Stage F0 W l w) (P : Program) (k : TypeId) (M : Nat) {b : Nat} (hb : w.heap.size = b) : Stage F0 W (l ++ [Ob.vmap P k b (fun _ => Option.none) M]) (w.alloc (.map #[] 0)) := by
  subst hb
  exact h.add ((Below.refl _ _).alloc (Nat.le_refl _) _) ⟨⟨_, (World.ownsMap_made w P k _).mono (Nat.zero_le _), VMapIs.empty M⟩, rfl⟩ (fun _ hk => Nat.le_of_eq hk.symm)
/-- 'm[k]': an equation that the walk takes. -/
theorem lookV (h : Stage F0 W l w) (i : Nat) (hi : l[i]? = some (Ob.vmap P k b f M)) (ht : P.underlying t = some (.map k e)) (hk : P.underlying k = some (.int .i64)) {z : Value} (hz : (zeroValue e).run P w = .ok z w)
    (x : Int) (hx : -9223372036854775808 ≤ x ∧ x ≤ 9223372036854775807) : (Instr.lookup t (.map (some b)) (.int .i64 x) false).run P w = .ok ((f x).getD z) w := by
  obtain ⟨_, ⟨D, hown, hm⟩, _⟩ := h.get hi
  obtain ⟨v, ps, hrun, hv⟩ := hown.lookup (Maps.int_keyed hk) ht hz (zd := .held z) (zp := []) rfl (Maps.keyOf_int_mk hk (wf_i64' hx))
  rw [hm.at' x z] at hv
  rw [hrun, anyElem_inv hv]
/-- 'm[k] = v' at the operation. -/
theorem wp_putV {ops : Array Oper} {rest : List Oper} {o : Oper} {a : Act} {Q : Exit → Act → World → Prop} (h : Stage F0 W l w) (i : Nat) (hi : l[i]? = some (Ob.vmap P k b f M)) (hg : o.guard = Option.none) (m x v : Operand) (hop : o.op = Op.mapUpdate t m x v)
    (ht : P.underlying t = some (.map k e)) (hk : P.underlying k = some (.int .i64)) (hM : M < maxLen)
    (hm : a.eval m = .map (some b)) (key : Nat) (u : Value) (hx : a.eval x = .int .i64 key) (hv : a.eval v = u) (hkey : key < M)
    (hK : ∀ w', Stage F0 W (l.set i (Ob.vmap P k b (setV f key (some u)) M)) w' → wpList P ops Q rest (a.put o.dst undef) w') : wpList P ops Q (o :: rest) a w := by
  obtain ⟨_, ⟨D, hown, hmi⟩, _⟩ := h.get hi
  unfold maxLen at hM
  refine wpList_mapUpdate_own w hg m x v t hop k e (Maps.int_keyed hk) ht _ b M D hm hown (by unfold maxLen; omega) _ _ _ hx hv (Maps.keyOf_int_mk hk (wf_i64' (by omega))) (.held u) [] rfl fun w' h1 h2 => hK w' ?_
  have h3 := hmi.put key hkey u
  exact h.moved hi fun F hF => ⟨(· = b), ⟨⟨_, owns_tightV h1 h3.size, h3⟩, rfl⟩, by
    have e2 : F = (· = b) := hF.2
    subst e2
    exact ⟨keeps_of_grown h2, fun k hk => Or.inl hk⟩⟩
/-- 'delete(m, k)' at the operation. -/
theorem wp_deleteV {ops : Array Oper} {rest : List Oper} {o : Oper} {a : Act} {Q : Exit → Act → World → Prop} (h : Stage F0 W l w) (i : Nat) (hi : l[i]? = some (Ob.vmap P k b f M)) (hg : o.guard = Option.none) (m x : Operand) (hop : o.op = Op.call { callee := Callee.builtin Builtin.delete, args := #[m, x], argTypes := #[t, k] })
    (ht : P.underlying t = some (.map k e)) (hk : P.underlying k = some (.int .i64))
    (hm : a.eval m = .map (some b)) (key : Int) (hx : a.eval x = .int .i64 key) (hkey : -9223372036854775808 ≤ key ∧ key ≤ 9223372036854775807)
    (hK : ∀ w', Stage F0 W (l.set i (Ob.vmap P k b (setV f key Option.none) M)) w' → wpList P ops Q rest (a.put o.dst (.tuple #[])) w') : wpList P ops Q (o :: rest) a w := by
  obtain ⟨_, ⟨D, hown, hmi⟩, _⟩ := h.get hi
  refine wpList_delete_own w hg m x t k hop e (Maps.int_keyed hk) ht _ b M D hm hown _ _ hx (Maps.keyOf_int_mk hk (wf_i64' hkey)) fun w' h1 h2 => hK w' ?_
  have h3 := hmi.del key
  exact h.moved hi fun F hF => ⟨(· = b), ⟨⟨_, owns_tightV h1 h3.size, h3⟩, rfl⟩, by
    have e2 : F = (· = b) := hF.2
    subst e2
    exact ⟨keeps_of_grown h2.grown, fun k hk => Or.inl hk⟩⟩
end Stage
end Go.Proofs.YtmoolbmbdnkooaaGreat

namespace Go.Proofs.YtmoolbmbdnkooaaGreat
open Go.RowKit Go.Sort

def boolC (b : Bool) : List Value := [.bool b]
theorem boolC_len (b : Bool) : (boolC b).length = 1 := rfl
def ncellC (c : CellD) : List Value := [.int .i64 c.home, .int .i64 c.key, .int .u64 c.seq]
theorem ncellC_len (c : CellD) : (ncellC c).length = 3 := rfl
/-- hv and cv are the rows of the nest W; nobody writes them. -/
structure NestAt (w : World) (hv cv : Value) (W : WS) : Prop where
  hrow : w.ownsRow 0 4 1 hv W.heaps.length (cellsBy boolC W.heaps)
  crow : w.ownsRow 0 103 3 cv W.cells.length (cellsBy ncellC W.cells)
  hlen : W.heaps.length ≤ 65537
  clen : W.cells.length ≤ 65536
def nestF (hv cv : Value) : Nat → Prop := fun k => rowF hv k ∨ rowF cv k
theorem NestAt.keeps {G : Nat → Prop} {w w' : World} {hv cv : Value} {W : WS} (h : NestAt w hv cv W) (k : Keeps G w w') (hn : ∀ b, nestF hv cv b → ¬ G b) : NestAt w' hv cv W :=
  ⟨owns_keeps h.hrow k (fun b hb => hn b (Or.inl hb)), owns_keeps h.crow k (fun b hb => hn b (Or.inr hb)), h.hlen, h.clen⟩
theorem NestAt.later {w w' : World} {hv cv : Value} {W : WS} (h : NestAt w hv cv W) (hb : Below w.heap.size w w') : NestAt w' hv cv W :=
  h.keeps (Keeps.of_below_all hb (fun _ => False)) (fun _ _ x => x)
theorem NestAt.lt {w : World} {hv cv : Value} {W : WS} (h : NestAt w hv cv W) : ∀ k, nestF hv cv k → k < w.heap.size := by
  rintro k (hk | hk)
  · exact (h.hrow.lt k hk).2
  · exact (h.crow.lt k hk).2
/-- The document's nest as a thing. -/
def Ob.nest (hv cv : Value) (W : WS) : Ob where
  holds w F := NestAt w hv cv W ∧ F = nestF hv cv
  keeps := by rintro w w' F G ⟨h, rfl⟩ k hn; exact ⟨h.keeps k hn, rfl⟩
  lt := by rintro w F ⟨h, rfl⟩; exact h.lt
section
variable {w : World} {hv cv : Value} {W : WS}
theorem NestAt.hform (h : NestAt w hv cv W) : ∃ a c, hv = .slice a W.heaps.length c ∧ W.heaps.length ≤ c ∧ c ≤ 9223372036854775807 := by
  obtain ⟨a, c, h1, h2, h3⟩ := owns_form h.hrow
  exact ⟨a, c, h1, h2, by unfold maxLen at h3; omega⟩
theorem NestAt.cform (h : NestAt w hv cv W) : ∃ a c, cv = .slice a W.cells.length c ∧ W.cells.length ≤ c ∧ c ≤ 9223372036854775807 := by
  obtain ⟨a, c, h1, h2, h3⟩ := owns_form h.crow
  exact ⟨a, c, h1, h2, by unfold maxLen at h3; omega⟩
theorem NestAt.hcell (h : NestAt w hv cv W) (i : Nat) (hi : i < W.heaps.length) : ∃ g c, hv = .slice (some ⟨g, 0, none⟩) W.heaps.length c ∧ g < w.heap.size ∧ w.cell? ⟨g, i, none⟩ = some (.bool (W.heaps.getD i false)) := by
  obtain ⟨g, c, hv, _, _, _, h4, hc, _⟩ := owns_at boolC_len false h.hrow rfl (by omega)
  refine ⟨g, c, hv, h4, ?_⟩
  have := hc i 0 _ hi (by omega) rfl
  rwa [Nat.mul_one, Nat.add_zero] at this
theorem NestAt.ccell (h : NestAt w hv cv W) (i : Nat) (hi : i < W.cells.length) : ∃ g c, cv = .slice (some ⟨g, 0, none⟩) W.cells.length c ∧ g < w.heap.size ∧
    w.cell? ⟨g, i * 3, none⟩ = some (.int .i64 (W.cells.getD i .off).home) ∧ w.cell? ⟨g, i * 3 + 1, none⟩ = some (.int .i64 (W.cells.getD i .off).key) ∧ w.cell? ⟨g, i * 3 + 2, none⟩ = some (.int .u64 (W.cells.getD i .off).seq) := by
  obtain ⟨g, c, hv, _, _, _, h4, hc, _⟩ := owns_at ncellC_len .off h.crow rfl (by omega)
  exact ⟨g, c, hv, h4, hc i 0 _ hi (by omega) rfl, hc i 1 _ hi (by omega) rfl, hc i 2 _ hi (by omega) rfl⟩

theorem refhas_any (y : Int) (h : NestAt w hv cv W) : Calls Tryz.prog 59 #[.agg #[hv, cv], .int .i64 y] w fun e w' => e = .returned (.bool (hasW W y)) ∧ Below w.heap.size w w' := by
  have hB : Below w.heap.size w (w.alloc (.cells #[hv, cv] 77)) := (Below.refl _ _).alloc (Nat.le_refl _) _
  obtain ⟨a, c, rfl, h1, h2⟩ := h.hform
  have hl := h.hlen
  by_cases hy : 1 ≤ y
  · by_cases hy2 : y < W.heaps.length
    · obtain ⟨i, rfl⟩ : ∃ i : Nat, y = i := ⟨y.toNat, by omega⟩
      obtain ⟨g, c', hv', hg, hc⟩ := h.hcell i (by omega)
      cases hv'
      have e1 : hasW W i = W.heaps.getD i false := by simp [hasW]; omega
      rw [e1]
      generalize W.heaps.getD i false = z at *
      clear h e1
      generalize W.heaps.length = n at *
      have hi : i < n := by omega
      go_enter Tryz.func59, Tryz.ntmps59
      go_wp2
      go_ret
      exact ⟨rfl, hB⟩
    · have e1 : hasW W y = false := by simp [hasW]; omega
      rw [e1]
      clear h e1
      generalize W.heaps.length = n at *
      go_enter Tryz.func59, Tryz.ntmps59
      go_wp2
      go_ret
      exact ⟨rfl, hB⟩
  · have e1 : hasW W y = false := by simp [hasW]; omega
    rw [e1]
    clear h e1
    generalize W.heaps.length = n at *
    go_enter Tryz.func59, Tryz.ntmps59
    go_wp2
    go_ret
    exact ⟨rfl, hB⟩
theorem refin_any (x : Int) (h : NestAt w hv cv W) : Calls Tryz.prog 38 #[.agg #[hv, cv], .int .i64 x] w fun e w' => e = .returned (.bool (inW W x)) ∧ Below w.heap.size w w' := by
  have hB : Below w.heap.size w (w.alloc (.cells #[hv, cv] 77)) := (Below.refl _ _).alloc (Nat.le_refl _) _
  obtain ⟨a, c, rfl, h1, h2⟩ := h.cform
  have hl := h.clen
  by_cases hx : 0 ≤ x
  · by_cases hx2 : x < W.cells.length
    · obtain ⟨i, rfl⟩ : ∃ i : Nat, x = i := ⟨x.toNat, by omega⟩
      obtain ⟨g, c', hv', hg, hc, _, _⟩ := h.ccell i (by omega)
      cases hv'
      have e1 : inW W i = decide (0 < (W.cells.getD i .off).home) := by
        rw [inW, cell_nat W i (by omega)]
        by_cases e : (W.cells.getD i .off).home = 0
        · rw [e]; rfl
        · rw [bne_iff_ne.2 e, decide_eq_true (by omega)]
      rw [e1]
      generalize W.cells.getD i .off = z at *
      clear h e1
      generalize W.cells.length = n at *
      have hi : i < n := by omega
      go_enter Tryz.func38, Tryz.ntmps38
      go_wp2
      go_ret
      exact ⟨rfl, hB⟩
    · have e1 : inW W x = false := by
        have : slotW W x = false := by simp [slotW]; omega
        rw [inW, cell_off this]; rfl
      rw [e1]
      clear h e1
      generalize W.cells.length = n at *
      go_enter Tryz.func38, Tryz.ntmps38
      go_wp2
      go_ret
      exact ⟨rfl, hB⟩
  · have e1 : inW W x = false := by
      have : slotW W x = false := by simp [slotW]; omega
      rw [inW, cell_off this]; rfl
    rw [e1]
    clear h e1
    generalize W.cells.length = n at *
    go_enter Tryz.func38, Tryz.ntmps38
    go_wp2
    go_ret
    exact ⟨rfl, hB⟩
end
end Go.Proofs.YtmoolbmbdnkooaaGreat

namespace Go.Proofs.YtmoolbmbdnkooaaGreat
open Go.RowKit Go.Sort

def NestPost (w : World) (hv cv : Value) (W' : WS) (res : Value → Value) (e : Ending) (w' : World) : Prop :=
  ∃ hv' cv', e = .returned (res (.agg #[hv', cv'])) ∧ Below w.heap.size w w' ∧ NestAt w' hv' cv' W' ∧ ∀ k, nestF hv' cv' k → nestF hv cv k ∨ w.heap.size ≤ k
theorem info_ncell : (Tryz.prog.info? 103).map (fun i => (i.zero, i.size, i.bytes)) = some (some (.agg #[.int .i64 0, .int .i64 0, .int .u64 0]), 3, 24) := by kernel_rfl
theorem info_bool : (Tryz.prog.info? 4).map (fun i => (i.zero, i.size, i.bytes)) = some (some (.bool false), 1, 1) := by kernel_rfl
theorem ncells_one (l : List CellD) : ∀ u ∈ cellsBy ncellC l, u.oneCell' = true := by
  intro u hu
  unfold cellsBy at hu
  rw [List.mem_flatMap] at hu
  obtain ⟨p, _, hp⟩ := hu
  simp only [ncellC, List.mem_cons, List.not_mem_nil, or_false] at hp
  rcases hp with rfl | rfl | rfl <;> rfl
theorem bools_one (l : List Bool) : ∀ u ∈ cellsBy boolC l, u.oneCell' = true := by
  intro u hu
  unfold cellsBy at hu
  rw [List.mem_flatMap] at hu
  obtain ⟨p, _, hp⟩ := hu
  simp only [boolC, List.mem_cons, List.not_mem_nil, or_false] at hp
  subst hp; rfl
theorem ncellC_put (l : List CellD) (i : Nat) (hi : i < l.length) (c : CellD) : (((cellsBy ncellC l).set (i * 3) (.int .i64 c.home)).set (i * 3 + 1) (.int .i64 c.key)).set (i * 3 + 2) (.int .u64 c.seq) = cellsBy ncellC (l.set i c) := by
  obtain ⟨h, k, q⟩ := c
  have s0 := cellsBy_set ncellC 3 ncellC_len .off l i 0 (.int .i64 h) ⟨h, (l.getD i .off).key, (l.getD i .off).seq⟩ hi (by omega) rfl
  rw [Nat.add_zero] at s0
  rw [s0]
  have s1 := cellsBy_set ncellC 3 ncellC_len .off (l.set i ⟨h, (l.getD i .off).key, (l.getD i .off).seq⟩) i 1 (.int .i64 k) ⟨h, k, (l.getD i .off).seq⟩ (by simpa using hi) (by omega) (by rw [getD_set' _ _ _ _ _ hi, if_pos rfl]; rfl)
  rw [s1, List.set_set]
  have s2 := cellsBy_set ncellC 3 ncellC_len .off (l.set i ⟨h, k, (l.getD i .off).seq⟩) i 2 (.int .u64 q) ⟨h, k, q⟩ (by simpa using hi) (by omega) (by rw [getD_set' _ _ _ _ _ hi, if_pos rfl]; rfl)
  rw [s2, List.set_set]
abbrev nestZ : Value := .slice none 0 0
section
variable {w : World} {hv cv : Value} {W : WS}
theorem refwith_any (i : Nat) (hi : i < W.cells.length) (c : CellD) (h : NestAt w hv cv W) :
    Calls Tryz.prog 60 #[.agg #[hv, cv], .int .i64 i, .agg #[.int .i64 c.home, .int .i64 c.key, .int .u64 c.seq]] w (NestPost w hv cv ⟨W.heaps, W.cells.set i c⟩ id) := by
  obtain ⟨a9, c9, hhv, _, _⟩ := h.hform
  generalize W.heaps.length = n9 at hhv
  subst hhv
  obtain ⟨V, hV, hs⟩ : ∃ V, ((w.alloc (.cells #[.slice a9 n9 c9, cv] 77)).alloc (.cells #[.int .i64 c.home, .int .i64 c.key, .int .u64 c.seq] 103)).alloc (.cells #[nestZ, nestZ] 77) = V ∧
      Stage (fun _ => False) w [Ob.box w.heap.size #[.slice a9 n9 c9, cv] 77, Ob.box (w.heap.size + 1) #[.int .i64 c.home, .int .i64 c.key, .int .u64 c.seq] 103, Ob.box (w.heap.size + 1 + 1) #[nestZ, nestZ] 77] V :=
    ⟨_, rfl, (((Stage.start w).alloc _ _).alloc' _ _ (size_alloc _ _)).alloc' _ _ (by rw [size_alloc, size_alloc])⟩
  have hsE := hs.emptyRow' 103 3 (b := V.heap.size) rfl
  have hE := h.later hsE.below
  obtain ⟨a0, c0, hcv, _, _⟩ := h.cform
  have k1 := hs.cell 0 rfl (o := 1) rfl
  have l0 := hs.lt 0 rfl
  have hn := h.clen
  subst hcv
  go_enter Tryz.func60, Tryz.ntmps60
  go_wp2_with (at_builtin; refine hsE.wp_append 3 rfl rfl _ _ 75 rfl _ 24 Tryz.underlying75 info_ncell rfl (by decide) (Nat.zero_le _) rfl _ _ _ rfl (reads_own hE.crow) (ncells_one _) (by unfold maxLen; omega) (by omega) ?_)
  intro v1 w1 hs1 hv1
  have hVw := hs.size
  obtain ⟨g, cap, rfl, b1, b2, _, hg, hc, hf⟩ := owns_at ncellC_len .off (hs1.owns 3 rfl) rfl (by omega)
  have u0 := hc i 0 _ hi (by omega) rfl
  have u1 := hc i 1 _ hi (by omega) rfl
  have u2 := hc i 2 _ hi (by omega) rfl
  rw [Nat.add_zero] at u0
  have f0 := hf (i * 3)
  have f1 := hf (i * 3 + 1)
  have f2 := hf (i * 3 + 2)
  have j0 := hs1.cell 1 rfl (o := 0) rfl
  have j1 := hs1.cell 1 rfl (o := 1) rfl
  have j2 := hs1.cell 1 rfl (o := 2) rfl
  obtain ⟨V2, hV2, hs2⟩ : ∃ V2, ((w1.setCell ⟨g, i * 3, none⟩ (.int .i64 c.home)).setCell ⟨g, i * 3 + 1, none⟩ (.int .i64 c.key)).setCell ⟨g, i * 3 + 2, none⟩ (.int .u64 c.seq) = V2 ∧ Stage (fun _ => False) w _ V2 :=
    ⟨_, rfl, ((hs1.storeRow 3 rfl (i * 3) (.int .i64 c.home) rfl).storeRow 3 rfl (i * 3 + 1) (.int .i64 c.key) rfl).storeRow 3 rfl (i * 3 + 2) (.int .u64 c.seq) (ncellC_put W.cells i hi c)⟩
  have m0 := hs2.cell 0 rfl (o := 0) rfl
  have g0 := hs2.free 2 rfl 0
  have g1 := hs2.free 2 rfl 1
  have z0 := hs2.cell 2 rfl (o := 0) rfl
  have z1 := hs2.cell 2 rfl (o := 1) rfl
  have hs3 := (hs2.store 2 rfl 0 (.slice a9 n9 c9)).store 2 rfl 1 (.slice (some ⟨g, 0, none⟩) W.cells.length cap)
  unfold maxLen at b2
  have hh := h.later hs3.below
  have hrow := hs3.owns 3 rfl
  have hcl := h.clen
  clear hs hsE hE hs1 hs2 hf hc h
  generalize hln : W.cells.length = n at *
  go_wp2_with fail
  refine bodyPost_ret (v := .agg #[.slice a9 n9 c9, .slice (some ⟨g, 0, none⟩) n cap]) (by simp [results, Tryz.results60, go_sem, z0, z1]) rfl ⟨.slice a9 n9 c9, .slice (some ⟨g, 0, none⟩) n cap, rfl, hs3.below, ⟨hh.hrow, ?_, hh.hlen, by simpa [hln] using hcl⟩, ?_⟩
  · show World.ownsRow _ _ _ _ _ (W.cells.set i c).length _
    rw [List.length_set, hln]
    exact hrow
  · rintro k (hk | hk)
    · exact Or.inl (Or.inl hk)
    · refine Or.inr ?_
      rcases hv1 k hk with h1 | h1
      · have : V.heap.size = k := by simpa [rowF, Value.ownBlock] using h1
        omega
      · omega
end
end Go.Proofs.YtmoolbmbdnkooaaGreat
