/- Merged of PMap, PqKeys, PqCalls. -/
import Derived.Test.YtkcicnflcilekaaGreatArenaObj
import Derived.Test.YtkcicnflcilekaaGreatPqHeld
import Derived.StillTailTactics
namespace Go.Proofs.YtkcicnflcilekaaGreat
open Go.RowKit Go.Sort

/-- How a pointer to a block's beginning reads: by its block's number; nil as -1. -/
def ptrElem : Value → Option (DataW Unit × List MemPlace)
  | .pointer none => some (.lit (.int .i64 (-1)), [])
  | .pointer (some ⟨q, 0, none⟩) => some (.lit (.int .i64 q), [])
  | _ => none
def ptrCode : Option Nat → Int
  | none => -1
  | some q => q
def ptrOf : Option Nat → Value
  | none => .pointer none
  | some q => .pointer (some ⟨q, 0, none⟩)
theorem ptr_reads (o : Option Nat) : ptrElem (ptrOf o) = some (.lit (.int .i64 (ptrCode o)), []) := by cases o <;> rfl
theorem ptr_inv {v : Value} {o : Option Nat} {ps : List MemPlace} (h : ptrElem v = some (.lit (.int .i64 (ptrCode o)), ps)) : v = ptrOf o := by
  unfold ptrElem at h
  split at h
  · cases o with
    | none => rfl
    | some q => simp [ptrCode] at h
  · cases o with
    | none => simp [ptrCode] at h
    | some q => simp [ptrCode] at h; rw [ptrOf, Int.ofNat_inj.1 h.1]
  · cases h
/-- What a map holds at a key; each key is from 0 to below M. -/
structure PMapIs (D : DataW Unit) (f : Int → Option Nat) (M : Nat) : Prop where
  at' : ∀ h : Int, D.atKey (.int .i64 h) (.lit (.int .i64 (-1))) = .lit (.int .i64 (ptrCode (f h)))
  has' : ∀ h : Int, Maps.has D (.int .i64 h) = (f h).isSome
  keys : ∃ es, D = .map es ∧ es.Pairwise (fun p q => p.1 ≠ q.1) ∧ ∀ p ∈ es, ∃ n : Nat, p.1 = .int .i64 n ∧ n < M
theorem PMapIs.size {D : DataW Unit} {f : Int → Option Nat} {M : Nat} (h : PMapIs D f M) : Maps.size D ≤ M := by
  obtain ⟨es, rfl, h1, h2⟩ := h.keys
  exact len_le_of_keys es h1 M h2
def setP (f : Int → Option Nat) (k : Int) (o : Option Nat) : Int → Option Nat := fun h => if h = k then o else f h
theorem PMapIs.empty (M : Nat) : PMapIs (.map []) (fun _ => none) M := ⟨fun _ => rfl, fun _ => rfl, [], rfl, List.Pairwise.nil, by simp⟩
theorem PMapIs.put {D : DataW Unit} {f : Int → Option Nat} {M : Nat} (h : PMapIs D f M) (k : Nat) (hk : k < M) (q : Nat) : PMapIs (D.put (.int .i64 k) (.lit (.int .i64 q))) (setP f k (some q)) M := by
  obtain ⟨h1, h0, es, rfl, h2, h3⟩ := h
  refine ⟨fun x => ?_, fun x => ?_, ?_⟩
  · by_cases hx : x = k
    · subst hx
      rw [Maps.atKey_put_same ⟨_, rfl⟩ (show WideAt.IsKeyLit (.int .i64 (k : Int)) from trivial)]
      simp [setP, ptrCode]
    · rw [Maps.atKey_put_other (by simpa using hx), h1]
      simp [setP, hx]
  · by_cases hx : x = k
    · subst hx
      rw [Maps.has_put_same ⟨_, rfl⟩ (show WideAt.IsKeyLit (.int .i64 (k : Int)) from trivial)]
      simp [setP]
    · rw [Maps.has_put_other (by simpa using hx), h0]
      simp [setP, hx]
  · obtain ⟨es', he, hp⟩ := Maps.Tidy.put (D := DataW.map es) ⟨es, rfl, h2⟩ (k := .int .i64 k) trivial (.lit (.int .i64 q))
    refine ⟨es', he, hp, fun p hp => ?_⟩
    have e : DataW.insert (.int .i64 (k : Int), .lit (.int .i64 (q : Int))) (es.filter fun p => !p.1.sameKey (.int .i64 (k : Int))) = es' := by
      have : DataW.map (DataW.insert (.int .i64 (k : Int), .lit (.int .i64 (q : Int))) (es.filter fun p => !p.1.sameKey (.int .i64 (k : Int)))) = DataW.map es' := he
      injection this
    rw [← e] at hp
    rcases Go.ChangeMaps.mem_insert_iff.1 hp with rfl | hp
    · exact ⟨k, rfl, hk⟩
    · exact h3 p (List.mem_filter.1 hp).1
theorem PMapIs.del {D : DataW Unit} {f : Int → Option Nat} {M : Nat} (h : PMapIs D f M) (k : Int) : PMapIs (D.del (.int .i64 k)) (setP f k none) M := by
  obtain ⟨h1, h0, es, rfl, h2, h3⟩ := h
  refine ⟨fun x => ?_, fun x => ?_, es.filter fun p => !p.1.sameKey (.int .i64 k), rfl, h2.filter _, fun p hp => h3 p (List.mem_filter.1 hp).1⟩
  · by_cases hx : x = k
    · subst hx
      rw [Maps.atKey_del_same]
      simp [setP, ptrCode]
    · rw [Maps.atKey_del_other (by simpa using hx), h1]
      simp [setP, hx]
  · by_cases hx : x = k
    · subst hx
      rw [Maps.has_del_same]
      simp [setP]
    · rw [Maps.has_del_other (by simpa using hx), h0]
      simp [setP, hx]
/-- At block b lies a map from integers to pointers that holds f. -/
def Ob.pmap (P : Program) (k : TypeId) (b : Nat) (f : Int → Option Nat) (M : Nat) : Ob where
  holds w F := (∃ D, w.ownsMap (H := Unit) P k ptrElem b M D ∧ PMapIs D f M) ∧ F = (· = b)
  keeps := by
    rintro w w' F G ⟨⟨D, h, hm⟩, rfl⟩ kp hg
    refine ⟨⟨D, ?_, hm⟩, rfl⟩
    have hlt := h.lt
    obtain ⟨es, clock, hb, r⟩ := h
    exact ⟨es, clock, by rw [kp.block b hlt (hg b rfl)]; exact hb, r⟩
  lt := by rintro w F ⟨⟨D, h, _⟩, rfl⟩ k rfl; exact h.lt

/-- Things by number. -/
def Ob.fam (g : Nat → Ob) : Ob where
  holds w F := (∀ b, F b → b < w.heap.size) ∧ ∃ G : Nat → Nat → Prop, (∀ i, (g i).holds w (G i)) ∧ (∀ i j b, i ≠ j → G i b → ¬ G j b) ∧ ∀ i b, G i b → F b
  keeps := by
    rintro w w' F G ⟨h0, H, h1, h2, h3⟩ k hn
    exact ⟨fun b hb => Nat.lt_of_lt_of_le (h0 b hb) k.size, H, fun i => (g i).keeps (h1 i) k (fun b hb => hn b (h3 i b hb)), h2, h3⟩
  lt := fun h => h.1
def updO (g : Nat → Ob) (h : Nat) (O : Ob) : Nat → Ob := fun i => if i = h then O else g i

namespace Stage
variable {F0 : Nat → Prop} {W w w' : World} {l : List Ob} {P : Program} {t k e : TypeId} {b M : Nat} {f : Int → Option Nat} {g : Nat → Ob}
theorem newPMap (h : Stage F0 W l w) (P : Program) (k : TypeId) (M : Nat) {b : Nat} (hb : w.heap.size = b) : Stage F0 W (l ++ [Ob.pmap P k b (fun _ => none) M]) (w.alloc (.map #[] 0)) := by
  subst hb
  exact h.add ((Below.refl _ _).alloc (Nat.le_refl _) _) ⟨⟨_, (World.ownsMap_made w P k _).mono (Nat.zero_le _), PMapIs.empty M⟩, rfl⟩ (fun _ hk => Nat.le_of_eq hk.symm)
/-- 'v, ok := m[k]': an equation that the walk takes. -/
theorem lookP (h : Stage F0 W l w) (i : Nat) (hi : l[i]? = some (Ob.pmap P k b f M)) (ht : P.underlying t = some (.map k e)) (hk : P.underlying k = some (.int .i64)) (hz : (zeroValue e).run P w = .ok (.pointer none) w)
    (x : Int) (hx : -9223372036854775808 ≤ x ∧ x ≤ 9223372036854775807) : (Instr.lookup t (.map (some b)) (.int .i64 x) true).run P w = .ok (.tuple #[ptrOf (f x), .bool (f x).isSome]) w := by
  obtain ⟨_, ⟨D, hown, hm⟩, _⟩ := h.get hi
  obtain ⟨v, ps, hrun, hv⟩ := hown.look_ok (Maps.int_keyed hk) ht hz (zd := .lit (.int .i64 (-1))) (zp := []) rfl (Maps.keyOf_int_mk hk (wf_i64' hx))
  rw [hm.at' x] at hv
  rw [hrun, hm.has' x, ptr_inv hv]
/-- 'm[k] = p' at the operation. -/
theorem wp_putP {ops : Array Oper} {rest : List Oper} {o : Oper} {a : Act} {Q : Exit → Act → World → Prop} (h : Stage F0 W l w) (i : Nat) (hi : l[i]? = some (Ob.pmap P k b f M)) (hg : o.guard = none) (m x v : Operand) (hop : o.op = Op.mapUpdate t m x v)
    (ht : P.underlying t = some (.map k e)) (hk : P.underlying k = some (.int .i64)) (hM : M < maxLen)
    (hm : a.eval m = .map (some b)) (key : Nat) (q : Nat) (hx : a.eval x = .int .i64 key) (hv : a.eval v = .pointer (some ⟨q, 0, none⟩)) (hkey : key < M)
    (hK : ∀ w', Stage F0 W (l.set i (Ob.pmap P k b (setP f key (some q)) M)) w' → wpList P ops Q rest (a.put o.dst undef) w') : wpList P ops Q (o :: rest) a w := by
  obtain ⟨_, ⟨D, hown, hmi⟩, _⟩ := h.get hi
  unfold maxLen at hM
  refine wpList_mapUpdate_own w hg m x v t hop k e (Maps.int_keyed hk) ht _ b M D hm hown (by unfold maxLen; omega) _ _ _ hx hv (Maps.keyOf_int_mk hk (wf_i64' (by omega))) _ [] (ptr_reads (some q)) fun w' h1 h2 => hK w' ?_
  have h3 := hmi.put key hkey q
  exact h.moved hi fun F hF => ⟨(· = b), ⟨⟨_, owns_tight h1 h3.size, h3⟩, rfl⟩, by
    have e2 : F = (· = b) := hF.2
    subst e2
    exact ⟨keeps_of_grown h2, fun k hk => Or.inl hk⟩⟩
/-- 'delete(m, k)' at the operation. -/
theorem wp_deleteP {ops : Array Oper} {rest : List Oper} {o : Oper} {a : Act} {Q : Exit → Act → World → Prop} (h : Stage F0 W l w) (i : Nat) (hi : l[i]? = some (Ob.pmap P k b f M)) (hg : o.guard = none) (m x : Operand) (hop : o.op = Op.call { callee := Callee.builtin Builtin.delete, args := #[m, x], argTypes := #[t, k] })
    (ht : P.underlying t = some (.map k e)) (hk : P.underlying k = some (.int .i64))
    (hm : a.eval m = .map (some b)) (key : Int) (hx : a.eval x = .int .i64 key) (hkey : -9223372036854775808 ≤ key ∧ key ≤ 9223372036854775807)
    (hK : ∀ w', Stage F0 W (l.set i (Ob.pmap P k b (setP f key none) M)) w' → wpList P ops Q rest (a.put o.dst (.tuple #[])) w') : wpList P ops Q (o :: rest) a w := by
  obtain ⟨_, ⟨D, hown, hmi⟩, _⟩ := h.get hi
  refine wpList_delete_own w hg m x t k hop e (Maps.int_keyed hk) ht _ b M D hm hown _ _ hx (Maps.keyOf_int_mk hk (wf_i64' hkey)) fun w' h1 h2 => hK w' ?_
  have h3 := hmi.del key
  exact h.moved hi fun F hF => ⟨(· = b), ⟨⟨_, owns_tight h1 h3.size, h3⟩, rfl⟩, by
    have e2 : F = (· = b) := hF.2
    subst e2
    exact ⟨keeps_of_grown h2.grown, fun k hk => Or.inl hk⟩⟩

/-- The thing with the number h is taken out. -/
theorem pull (h : Stage F0 W l w) (i : Nat) (hi : l[i]? = some (Ob.fam g)) (k : Nat) : Stage F0 W (l.set i (Ob.fam (updO g k Ob.none)) ++ [g k]) w := by
  obtain ⟨hk, F, h1, h2, h3⟩ := h
  obtain ⟨h4, G, g1, g2, g3⟩ := h1 i _ hi
  have hil := Scene.idx hi
  refine ⟨hk, fun j => if j = l.length then G k else if j = i then fun b => ∃ m, m ≠ k ∧ G m b else F j, fun j O hj => ?_, fun j m b hjm hb hb' => ?_, fun j b hb => ?_⟩
  · by_cases e : j = l.length
    · subst e
      rw [List.getElem?_append_right (by simp)] at hj
      simp at hj
      subst hj
      simpa using g1 k
    · by_cases e2 : j = i
      · subst e2
        rw [List.getElem?_append_left (by simpa using hil), List.getElem?_set_self hil] at hj
        cases hj
        simp only [if_neg e, if_true]
        refine ⟨fun b ⟨m, _, hb⟩ => h4 b (g3 m b hb), fun m b => m ≠ k ∧ G m b, fun m => ?_, fun m n b hmn hb hb' => g2 m n b hmn hb.2 hb'.2, fun m b hb => ⟨m, hb.1, hb.2⟩⟩
        unfold updO
        by_cases e3 : m = k
        · subst e3
          simp only [if_true, ne_eq, not_true_eq_false, false_and]
          exact rfl
        · have : (fun b => m ≠ k ∧ G m b) = G m := by funext b; simp [e3]
          rw [if_neg e3]
          show (g m).holds w (fun b => m ≠ k ∧ G m b)
          rw [this]
          exact g1 m
      · simp only [if_neg e, if_neg e2]
        have hjl : j < l.length := by
          have := Scene.idx' hj
          simp at this
          omega
        rw [List.getElem?_append_left (by simpa using hjl), List.getElem?_set_ne (fun x => e2 x.symm)] at hj
        exact h1 j O hj
  · have hG : ∀ m b, G m b → F i b := g3
    simp only at hb hb'
    split at hb
    · split at hb'
      · omega
      · split at hb'
        · obtain ⟨n, hn, hb'⟩ := hb'
          exact g2 n k b hn hb' hb
        · rename_i e3 _ e4
          exact h2 m i b e4 hb' (hG _ _ hb)
    · split at hb
      · obtain ⟨n, hn, hb⟩ := hb
        split at hb'
        · exact g2 n k b hn hb hb'
        · split at hb'
          · omega
          · rename_i e4
            exact h2 m i b e4 hb' (hG _ _ hb)
      · rename_i e4
        split at hb'
        · exact h2 j i b e4 hb (hG _ _ hb')
        · split at hb'
          · obtain ⟨n, _, hb'⟩ := hb'
            exact h2 j i b e4 hb (hG _ _ hb')
          · exact h2 j m b hjm hb hb'
  · simp only at hb
    split at hb
    · exact h3 i b (g3 _ b hb)
    · split at hb
      · obtain ⟨n, _, hb⟩ := hb
        exact h3 i b (g3 _ b hb)
      · exact h3 j b hb
/-- .. and laid back, at a number that bears nothing. -/
theorem push {O : Ob} (h : Stage F0 W (l ++ [O]) w) (i : Nat) (hi : l[i]? = some (Ob.fam g)) (k : Nat) (hg : g k = Ob.none) : Stage F0 W (l.set i (Ob.fam (updO g k O))) w := by
  obtain ⟨hk, F, h1, h2, h3⟩ := h
  have hil := Scene.idx hi
  obtain ⟨h4, G, g1, g2, g3⟩ := h1 i _ (by rw [List.getElem?_append_left hil]; exact hi)
  have hl := h1 l.length O (by simp)
  have hGk : ∀ b, ¬ G k b := fun b hb => by
    have := g1 k
    rw [hg] at this
    have e : G k = fun _ => False := this
    rw [e] at hb
    exact hb
  refine ⟨hk, fun j => if j = l.length then fun _ => False else if j = i then fun b => F i b ∨ F l.length b else F j, fun j P hj => ?_, fun j m b hjm hb hb' => ?_, fun j b hb => ?_⟩
  · have hjl : j < l.length := by
      have := Scene.idx' hj
      simpa using this
    simp only [if_neg (Nat.ne_of_lt hjl)]
    by_cases e2 : j = i
    · subst e2
      rw [List.getElem?_set_self hil] at hj
      cases hj
      simp only [if_true]
      refine ⟨fun b hb => hb.elim (fun hb => (h3 _ b hb).2) (fun hb => (h3 _ b hb).2), fun m => if m = k then F l.length else G m, fun m => ?_, fun m n b hmn hb hb' => ?_, fun m b hb => ?_⟩
      · unfold updO
        by_cases e3 : m = k
        · show (if m = k then O else g m).holds w (if m = k then F l.length else G m)
          rw [if_pos e3, if_pos e3]; exact hl
        · show (if m = k then O else g m).holds w (if m = k then F l.length else G m)
          rw [if_neg e3, if_neg e3]; exact g1 m
      · simp only at hb hb'
        split at hb
        · split at hb'
          · omega
          · exact h2 l.length j b (Nat.ne_of_gt hil) hb (g3 _ _ hb')
        · split at hb'
          · exact h2 l.length j b (Nat.ne_of_gt hil) hb' (g3 _ _ hb)
          · exact g2 m n b hmn hb hb'
      · simp only at hb
        split at hb
        · exact Or.inr hb
        · exact Or.inl (g3 _ _ hb)
    · simp only [if_neg e2]
      rw [List.getElem?_set_ne (fun x => e2 x.symm)] at hj
      exact h1 j P (by rw [List.getElem?_append_left hjl]; exact hj)
  · simp only at hb hb'
    split at hb
    · exact hb
    · rename_i e1
      split at hb'
      · exact hb'
      · rename_i e2
        split at hb
        · rename_i e3
          subst e3
          split at hb'
          · omega
          · rename_i e4
            rcases hb with hb | hb
            · exact h2 _ _ b hjm hb hb'
            · exact h2 l.length m b (fun e => e2 e.symm) hb hb'
        · rename_i e3
          split at hb'
          · rename_i e4
            subst e4
            rcases hb' with hb' | hb'
            · exact h2 _ _ b hjm hb hb'
            · exact h2 l.length j b (fun e => e1 e.symm) hb' hb
          · exact h2 _ _ b hjm hb hb'
  · simp only at hb
    split at hb
    · exact hb.elim
    · split at hb
      · rcases hb with hb | hb
        · exact h3 _ b hb
        · exact h3 _ b hb
      · exact h3 j b hb
/-- The last thing, which is some things together, is parted. -/
theorem ungroup {m : List Ob} (h : Stage F0 W (l ++ [Ob.group m]) w) : Stage F0 W (l ++ m) w := by
  obtain ⟨hk, F, h1, h2, h3⟩ := h
  obtain ⟨_, G, g1, g2, g3⟩ := h1 l.length (Ob.group m) (by simp)
  refine ⟨hk, fun j => if j < l.length then F j else G (j - l.length), fun j O hj => ?_, fun i j b hij hb hb' => ?_, fun j b hb => ?_⟩
  · by_cases e : j < l.length
    · simp only [if_pos e]
      rw [List.getElem?_append_left e] at hj
      exact h1 j O (by rw [List.getElem?_append_left e]; exact hj)
    · simp only [if_neg e]
      rw [List.getElem?_append_right (by omega)] at hj
      exact g1 _ O hj
  · simp only at hb hb'
    split at hb
    · split at hb'
      · exact h2 i j b hij hb hb'
      · exact h2 i l.length b (by omega) hb (g3 _ _ hb')
    · split at hb'
      · exact h2 j l.length b (by omega) hb' (g3 _ _ hb)
      · exact g2 _ _ b (by omega) hb hb'
  · simp only at hb
    split at hb
    · exact h3 j b hb
    · exact h3 l.length b (g3 _ _ hb)
/-- .. and put together. -/
theorem regroup {m : List Ob} (h : Stage F0 W (l ++ m) w) : Stage F0 W (l ++ [Ob.group m]) w := by
  obtain ⟨hk, F, h1, h2, h3⟩ := h
  refine ⟨hk, fun j => if j < l.length then F j else if j = l.length then fun b => ∃ i, F (l.length + i) b else fun _ => False, fun j O hj => ?_, fun i j b hij hb hb' => ?_, fun j b hb => ?_⟩
  · by_cases e : j < l.length
    · simp only [if_pos e]
      rw [List.getElem?_append_left e] at hj
      exact h1 j O (by rw [List.getElem?_append_left e]; exact hj)
    · have ej : j = l.length := by
        have := Scene.idx' hj
        simp at this
        omega
      subst ej
      rw [List.getElem?_append_right (by omega)] at hj
      simp at hj
      subst hj
      simp only [Nat.lt_irrefl, if_false, if_true]
      refine ⟨fun b ⟨i, hb⟩ => (h3 _ b hb).2, fun i => F (l.length + i), fun i O hi => h1 _ O (by rw [List.getElem?_append_right (by omega), Nat.add_sub_cancel_left]; exact hi), fun i j b hij hb hb' => h2 _ _ b (by omega) hb hb', fun i b hb => ⟨i, hb⟩⟩
  · simp only at hb hb'
    split at hb
    · split at hb'
      · exact h2 i j b hij hb hb'
      · split at hb'
        · obtain ⟨n, hb'⟩ := hb'
          exact h2 i _ b (by omega) hb hb'
        · exact hb'
    · split at hb
      · obtain ⟨n, hb⟩ := hb
        split at hb'
        · exact h2 j _ b (by omega) hb' hb
        · split at hb'
          · omega
          · exact hb'
      · exact hb
  · simp only at hb
    split at hb
    · exact h3 j b hb
    · split at hb
      · obtain ⟨n, hb⟩ := hb
        exact h3 _ b hb
      · exact hb.elim
end Stage
theorem upd_upd (g : Nat → Ob) (h : Nat) (O P : Ob) : updO (updO g h O) h P = updO g h P := by
  funext i; unfold updO; split <;> rfl
theorem upd_same (g : Nat → Ob) (h : Nat) (O : Ob) : updO g h O h = O := by simp [updO]
namespace Stage
variable {F0 : Nat → Prop} {W0 w : World} {l : List Ob}
theorem openEx {α : Type} {O : α → Ob} (h : Stage F0 W0 (l ++ [Ob.ex O]) w) : ∃ a, Stage F0 W0 (l ++ [O a]) w := by
  obtain ⟨hk, F, h1, h2, h3⟩ := h
  obtain ⟨a, ha⟩ := h1 l.length (Ob.ex O) (by simp)
  refine ⟨a, hk, F, fun i P hi => ?_, h2, h3⟩
  by_cases e : i < l.length
  · rw [List.getElem?_append_left e] at hi
    exact h1 i P (by rw [List.getElem?_append_left e]; exact hi)
  · have ei : i = l.length := by
      have := Scene.idx' hi
      simp at this
      omega
    subst ei
    simp at hi
    subst hi
    exact ha
theorem closeEx {α : Type} {O : α → Ob} (a : α) (h : Stage F0 W0 (l ++ [O a]) w) : Stage F0 W0 (l ++ [Ob.ex O]) w := by
  have := h.weaken (i := l.length) (O := O a) (O' := Ob.ex O) (by simp) (fun F hF => ⟨a, hF⟩)
  simpa using this
end Stage
end Go.Proofs.YtkcicnflcilekaaGreat

namespace Go.Proofs.YtkcicnflcilekaaGreat
open Go.RowKit Go.Sort

namespace Stage
end Stage
section
variable {w : World} {p : Nat} {k d : Int} {b : Bool} {S : SS} {F : Nat → Prop}
end
end Go.Proofs.YtkcicnflcilekaaGreat

namespace Go.Proofs.YtkcicnflcilekaaGreat
open Go.RowKit Go.Sort

def minV (r : Rp) : Value := .tuple #[.agg #[.int .i64 r.slot, .int .u32 r.gen], .int .i64 r.key, .int .i64 r.code]
def insV (r : Rp) : Value := .tuple #[.agg #[.int .i64 r.slot, .int .u32 r.gen], .int .i64 r.code]
section
variable {w : World} {p : Nat} {k d : Int} {b : Bool} {S : SS} {F : Nat → Prop}
theorem config_pq (ho : (Ob.store p k d b S).holds w F) : Calls Tryz.prog 18 #[.pointer (some ⟨p, 0, none⟩)] w fun e w' => e = .returned (.agg #[.int .i64 k, .int .i64 d]) ∧ Below w.heap.size w w' := by
  obtain ⟨γ, O, st, H, T, v, f, a, u, N, ok, _, hg⟩ := ho
  have hs0 := (Ob.group.open hg).alloc #[.int .i64 0, .int .i64 0] 27
  have p0 := hs0.cell 0 rfl (o := 0) rfl
  have p1 := hs0.cell 0 rfl (o := 1) rfl
  have y0 := hs0.cell 3 rfl (o := 0) rfl
  have y1 := hs0.cell 3 rfl (o := 1) rfl
  have f0 := hs0.free 3 rfl 0
  have f1 := hs0.free 3 rfl 1
  have hs1 := (Ob.group.open hg).alloc #[.int .i64 k, .int .i64 d] 27
  have z0 := hs1.cell 3 rfl (o := 0) rfl
  have z1 := hs1.cell 3 rfl (o := 1) rfl
  clear hs0 hg
  go_enter Tryz.func18, Tryz.ntmps18
  go_wp2_with fail
  exact bodyPost_ret (v := .agg #[.int .i64 k, .int .i64 d]) (by simp [results, Tryz.results18, go_sem, z0, z1]) rfl ⟨rfl, (Below.refl _ _).alloc (Nat.le_refl _) _⟩
set_option maxRecDepth 100000 in
set_option maxHeartbeats 1000000 in
theorem min_pq (y : Int) (hy : inInt y) (ho : (Ob.store p k d b S).holds w F) : Calls Tryz.prog 14 #[.pointer (some ⟨p, 0, none⟩), .int .i64 y] w (StP p k d F w S (minV (minR S y))) := by
  have hF := (Ob.store p k d b S).lt ho
  obtain ⟨γ, O, st, H, T, v, f, a, u, N, ok, _, hg⟩ := ho
  have hs0 := (Ob.group.open hg).alloc #[.int .i64 0, .int .u32 0] 31
  have hc := hs0.askB 2 rfl fun _ ho => N.has y ho
  have m1 := (hs0.get (i := 2) rfl).elim fun _ h => N.mHas.find _ (N.there h)
  have m2 := N.mHas.enter
  have p3 := hs0.cell 0 rfl (o := 3) rfl
  unfold minR minV
  clear hg hs0
  cases hh : hasW S.W y
  · rw [hh] at hc
    clear hh
    simp only [Bool.false_eq_true, if_false, Rp.err]
    go_enter Tryz.func14, Tryz.ntmps14
    go_wp2_with fail
    refine hc.mono ?_
    rintro e w1 ⟨rfl, hs1⟩
    have y0 := hs1.cell 3 rfl (o := 0) rfl
    have y1 := hs1.cell 3 rfl (o := 1) rfl
    have f0 := hs1.free 3 rfl 0
    have f1 := hs1.free 3 rfl 1
    have hs2 := (hs1.store 3 rfl 0 (.int .i64 0)).store 3 rfl 1 (.int .u32 0)
    have z0 := hs2.cell 3 rfl (o := 0) rfl
    have z1 := hs2.cell 3 rfl (o := 1) rfl
    clear hs1 hc m1 p3
    go_wp2_with fail
    exact bodyPost_ret (v := .tuple #[.agg #[.int .i64 0, .int .u32 0], .int .i64 0, .int .i64 171]) (by simp [results, Tryz.results14, go_sem, z0, z1]) rfl ⟨rfl, st_close hF N ok (hs2.take 3)⟩
  · rw [hh] at hc
    clear hh
    cases hm : minW S.W y with
    | none =>
      obtain ⟨e1, e2⟩ := minI_none hm
      replace e1 := Lib.hid e1
      replace e2 := Lib.hid e2
      clear hm
      simp only [Rp.err, if_true]
      go_enter Tryz.func14, Tryz.ntmps14
      go_wp2_with fail
      refine hc.mono ?_
      rintro e w1 ⟨rfl, hs1⟩
      clear hc m1 m2 p3
      have hc := hs1.callX 2 rfl fun _ ho => N.min y hy ho
      have m1 := (hs1.get (i := 2) rfl).elim fun _ h => N.mMin.find _ (N.there h)
      have m2 := N.mMin.enter
      have p3 := hs1.cell 0 rfl (o := 3) rfl
      clear hs1
      rw [e1.out, e2.out] at hc
      go_wp2_with fail
      refine hc.mono ?_
      rintro e w2 ⟨rfl, u', hs1⟩
      have y0 := hs1.cell 3 rfl (o := 0) rfl
      have y1 := hs1.cell 3 rfl (o := 1) rfl
      have f0 := hs1.free 3 rfl 0
      have f1 := hs1.free 3 rfl 1
      have hs2 := (hs1.store 3 rfl 0 (.int .i64 0)).store 3 rfl 1 (.int .u32 0)
      have z0 := hs2.cell 3 rfl (o := 0) rfl
      have z1 := hs2.cell 3 rfl (o := 1) rfl
      clear hs1 hc m1 p3
      go_wp2_with fail
      exact bodyPost_ret (v := .tuple #[.agg #[.int .i64 0, .int .u32 0], .int .i64 0, .int .i64 172]) (by simp [results, Tryz.results14, go_sem, z0, z1]) rfl ⟨rfl, st_close hF N ok (hs2.take 3)⟩
    | some m =>
      obtain ⟨e1, e2⟩ := minI_some hm
      obtain ⟨hm1, hm2, _⟩ := min_out ok hm
      replace e1 := Lib.hid e1
      replace e2 := Lib.hid e2
      have hat : atV S.A m = .tuple #[.agg #[.int .i64 m, .int .u32 (genA S.A m)], .bool true] := by
        have : hasBAr m S.A.used.length = true := by simp [hasBAr]; omega
        simp only [atV, this, Int.toNat_natCast, hm2, Bool.true_and, if_true, Hnd]
      clear hm hm1 hm2
      simp only [if_true]
      generalize (genA S.A m : Int) = gm at *
      generalize hK : (cellW S.W m).key = ck
      replace hK := Lib.hid hK
      replace hat := Lib.hid hat
      go_enter Tryz.func14, Tryz.ntmps14
      go_wp2_with fail
      refine hc.mono ?_
      rintro e w1 ⟨rfl, hs1⟩
      clear hc m1 m2 p3
      have hc := hs1.callX 2 rfl fun _ ho => N.min y hy ho
      have m1 := (hs1.get (i := 2) rfl).elim fun _ h => N.mMin.find _ (N.there h)
      have m2 := N.mMin.enter
      have p3 := hs1.cell 0 rfl (o := 3) rfl
      clear hs1
      rw [e1.out, e2.out] at hc
      go_wp2_with fail
      refine hc.mono ?_
      rintro e w2 ⟨rfl, u', hs1⟩
      clear hc m1 m2 p3
      have hc := hs1.atArena 1 rfl m
      rw [hat.out] at hc
      have p2 := hs1.cell 0 rfl (o := 2) rfl
      clear hs1 hat e1 e2
      go_wp2_with fail
      refine hc.mono ?_
      rintro e w3 ⟨rfl, hs1⟩
      obtain ⟨w4, hw4, hs2⟩ : ∃ w4, w3.alloc (.cells #[.int .i64 m, .int .u32 gm] 31) = w4 ∧ Stage F w (stF p k d a T v S.q S.A (O S.W u') ++ [Ob.box w.heap.size #[.int .i64 0, .int .u32 0] 31, Ob.box w3.heap.size #[.int .i64 m, .int .u32 gm] 31]) w4 := ⟨_, rfl, hs1.alloc _ _⟩
      have hE := hs2.askB 2 rfl fun _ ho => N.entry m ho
      rw [hK.out] at hE
      have m1 := (hs2.get (i := 2) rfl).elim fun _ h => N.mEntry.find _ (N.there h)
      have m2 := N.mEntry.enter
      have p3 := hs2.cell 0 rfl (o := 3) rfl
      clear hs1 hs2 p2 hc
      generalize (cellW S.W m).seq = cs at *
      go_wp2_with fail
      refine hE.mono ?_
      rintro e w5 ⟨rfl, hs1⟩
      clear hE m1 m2 p3 hw4 hK
      obtain ⟨w6, hw6, hs2⟩ : ∃ w6, w5.alloc (.cells #[.int .i64 ck, .int .u64 cs] 94) = w6 ∧ Stage F w (stF p k d a T v S.q S.A (O S.W u') ++ [Ob.box w.heap.size #[.int .i64 0, .int .u32 0] 31, Ob.box w3.heap.size #[.int .i64 m, .int .u32 gm] 31, Ob.box w5.heap.size #[.int .i64 ck, .int .u64 cs] 94]) w6 := ⟨_, rfl, hs1.alloc _ _⟩
      go_wp2_with fail
      clear hw6
      have y0 := hs2.cell 3 rfl (o := 0) rfl
      have y1 := hs2.cell 3 rfl (o := 1) rfl
      have f0 := hs2.free 3 rfl 0
      have f1 := hs2.free 3 rfl 1
      have x0 := hs2.cell 4 rfl (o := 0) rfl
      have x1 := hs2.cell 4 rfl (o := 1) rfl
      have c0 := hs2.cell 5 rfl (o := 0) rfl
      have n3 := hs2.ne 3 5 rfl rfl (by decide)
      have hs3 := ((hs2.store 3 rfl 0 (.int .i64 m)).store 3 rfl 1 (.int .u32 gm)).drew
      have z0 := hs3.cell 3 rfl (o := 0) rfl
      have z1 := hs3.cell 3 rfl (o := 1) rfl
      clear hs1 hs2
      generalize w3.heap.size = E3 at *
      generalize w5.heap.size = E5 at *
      go_region
      all_goals go_wp2_with fail
      all_goals exact bodyPost_ret (v := .tuple #[.agg #[.int .i64 m, .int .u32 gm], .int .i64 ck, .int .i64 0]) (by simp [results, Tryz.results14, go_sem, z0, z1]) rfl ⟨rfl, st_close hF N ok (hs3.take 3)⟩
end
end Go.Proofs.YtkcicnflcilekaaGreat
