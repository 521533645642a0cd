/- Merged of SiftRunsMath, Asks, CarryTake. -/
import Derived.Test.YtbllfokagedpeaaSiftMath
import Derived.Test.YtbllfokagedpeaaInts
import Derived.Test.YtbllfokagedpeaaCarryLink
import Derived.Test.YtbllfokagedpeaaCarryShare
namespace Go.Proofs.Ytbllfokagedpeaa

theorem heap_congr {d : Nat} {lt lt' : Int → Int → Bool} {l : List Int} (hd : 1 ≤ d) (h : ∀ a ∈ l, ∀ b ∈ l, lt' a b = lt a b) (H : Heap d lt l) : Heap d lt' l := by
  intro i h0 hi
  have hp := par_lt hd h0
  rw [h _ (rat_mem hi) _ (rat_mem (Nat.lt_trans hp hi))]
  exact H i h0 hi
theorem strict_congr {lt lt' : Int → Int → Bool} {l : List Int} (h : ∀ a ∈ l, ∀ b ∈ l, lt' a b = lt a b) (s : Strict lt l) : Strict lt' l := by
  refine ⟨fun i hi => ?_, fun i j k hi hj hk h1 h2 => ?_, fun i j hi hj hne h1 => ?_⟩
  · rw [h _ (rat_mem hi) _ (rat_mem hi)]; exact s.irr i hi
  · rw [h _ (rat_mem hi) _ (rat_mem hj)] at h1
    rw [h _ (rat_mem hj) _ (rat_mem hk)] at h2
    rw [h _ (rat_mem hi) _ (rat_mem hk)]; exact s.trans i j k hi hj hk h1 h2
  · rw [h _ (rat_mem hi) _ (rat_mem hj)] at h1
    rw [h _ (rat_mem hj) _ (rat_mem hi)]; exact s.total i j hi hj hne h1
/-- The order is the same among others. -/
theorem ltK_else {ks ks' : Int → Int} {x : Int} (h : ∀ y, y ≠ x → ks' y = ks y) {l : List Int} (hx : x ∉ l) : ∀ a ∈ l, ∀ b ∈ l, ltK ks' a b = ltK ks a b := fun a ha b hb =>
  lower_same h a b (fun e => hx (e ▸ ha)) (fun e => hx (e ▸ hb))
theorem without_perm {l m : List Int} {x : Int} (hn : l.Nodup) (h : (x :: m).Perm l) : m.Perm (withoutL l x) := by
  have hx : x ∈ l := h.mem_iff.1 (by simp)
  have h1 : (withoutL l x) = l.erase x := by
    rw [hn.erase_eq_filter]
    unfold withoutL
    apply List.filter_congr
    intro y _
    by_cases e : x = y
    · subst e; simp
    · have e2 : y ≠ x := fun h => e h.symm
      rw [show (x != y) = true from bne_iff_ne.2 e, show (y != x) = true from bne_iff_ne.2 e2]
  rw [h1]
  exact (h.trans (List.perm_cons_erase hx)).cons_inv
theorem without_nodup {l : List Int} {x : Int} (hn : l.Nodup) : (withoutL l x).Nodup := hn.filter _
theorem mem_without {l : List Int} {x y : Int} : y ∈ withoutL l x ↔ y ∈ l ∧ y ≠ x := by
  simp only [withoutL, List.mem_filter, bne_iff_ne, ne_eq]
  exact ⟨fun ⟨h1, h2⟩ => ⟨h1, fun e => h2 e.symm⟩, fun ⟨h1, h2⟩ => ⟨h1, fun e => h2 e.symm⟩⟩
theorem has_perm {l m : List Int} (h : l.Perm m) (x : Int) : hasL l x = hasL m x := by
  cases e : hasL m x
  · rw [hasL_not] at e ⊢; exact fun hx => e (h.mem_iff.1 hx)
  · rw [hasL_iff] at e ⊢; exact h.mem_iff.2 e
theorem has_add (l : List Int) (x : Int) : hasL (l ++ [x]) x = true := by rw [hasL_iff]; simp
theorem has_without (l : List Int) (x : Int) : hasL (withoutL l x) x = false := by rw [hasL_not, mem_without]; simp
theorem nodup_add {l : List Int} {x : Int} (hn : l.Nodup) (hx : hasL l x = false) : (l ++ [x]).Nodup := by
  rw [hasL_not] at hx
  rw [List.nodup_append]
  refine ⟨hn, by simp, fun a ha b hb e => hx ?_⟩
  simp only [List.mem_singleton] at hb
  subst hb; subst e; exact ha
theorem fill_nodup {l : List Int} {i : Nat} (hn : l.Nodup) (hi : i < l.length) : (fillL l i).Nodup := by
  have h := (fill_perm hi).nodup_iff.2 hn
  exact (List.nodup_cons.1 h).2
/-- Where a thing is in a row, if it is there. -/
def placeL (l : List Int) (x : Int) : Option Int := if x ∈ l then some ((l.idxOf x : Nat) : Int) else none
theorem place_rat {l : List Int} (hn : l.Nodup) {i : Nat} (hi : i < l.length) : placeL l (rat l i) = some ((i : Nat) : Int) := by
  have hm := rat_mem hi
  rw [placeL, if_pos hm]
  have h1 : l.idxOf (rat l i) < l.length := List.idxOf_lt_length_of_mem hm
  have h2 : rat l (l.idxOf (rat l i)) = rat l i := by
    have e := rat_get h1
    rw [List.getElem?_eq_getElem h1, List.getElem_idxOf h1] at e
    injection e with e
    exact e.symm
  rw [rat_inj hn h1 hi h2]
theorem place_none {l : List Int} {x : Int} (h : x ∉ l) : placeL l x = none := by rw [placeL, if_neg h]
theorem place_some {l : List Int} (hn : l.Nodup) {x : Int} (h : x ∈ l) : ∃ i, i < l.length ∧ rat l i = x ∧ placeL l x = some ((i : Nat) : Int) := by
  obtain ⟨i, hi, rfl⟩ := mem_rat h
  exact ⟨i, hi, rfl, place_rat hn hi⟩
theorem place_isSome (l : List Int) (x : Int) : (placeL l x).isSome = hasL l x := by
  unfold placeL
  by_cases h : x ∈ l
  · rw [if_pos h, hasL_iff.2 h]; rfl
  · rw [if_neg h, hasL_not.2 h]; rfl
/-- Places are told by what stands where. -/
theorem place_ext {l : List Int} (hn : l.Nodup) {f : Int → Option Int} (h1 : ∀ i, i < l.length → f (rat l i) = some ((i : Nat) : Int)) (h2 : ∀ x, x ∉ l → f x = none) : f = placeL l := by
  funext x
  by_cases hx : x ∈ l
  · obtain ⟨i, hi, rfl, e⟩ := place_some hn hx
    rw [h1 i hi, e]
  · rw [h2 x hx, place_none hx]
/-- The row behind the loop that takes the first one again and again: each is ahead of the next one. -/
theorem top_least {d : Nat} {ks : Int → Int} {l : List Int} (hd : 1 ≤ d) (hn : l.Nodup) (H : Heap d (ltK ks) l) {y : Int} (hy : y ∈ l) (hne : y ≠ rat l 0) : ltK ks (rat l 0) y = true := by
  obtain ⟨i, hi, rfl⟩ := mem_rat hy
  exact ltK_total hne (heap_top hd (strict_keys ks hn) H i hi)
end Go.Proofs.Ytbllfokagedpeaa

namespace Go.Proofs.Ytbllfokagedpeaa
open Go.RowKit Go.Sort

/-- Asked just so often. -/
inductive Turns {γ : Type} (R : γ → γ → Prop) : Nat → γ → γ → Prop where
  | none (g : γ) : Turns R 0 g g
  | more {n : Nat} {g h k : γ} : Turns R n g h → R h k → Turns R (n + 1) g k
theorem Turns.trans {γ : Type} {R : γ → γ → Prop} {m n : Nat} {g h k : γ} (a : Turns R m g h) (b : Turns R n h k) : Turns R (m + n) g k := by
  induction b with
  | none => exact a
  | more _ r ih => exact (ih a).more r
theorem Turns.one {γ : Type} {R : γ → γ → Prop} {g h : γ} (r : R g h) : Turns R 1 g h := (Turns.none g).more r
/-- Asked no more than so often. -/
def Within {γ : Type} (R : γ → γ → Prop) (n : Nat) (g h : γ) : Prop := ∃ m, m ≤ n ∧ Turns R m g h
theorem Within.refl {γ : Type} (R : γ → γ → Prop) (n : Nat) (g : γ) : Within R n g g := ⟨0, Nat.zero_le _, Turns.none g⟩
theorem Within.trans {γ : Type} {R : γ → γ → Prop} {m n : Nat} {g h k : γ} (a : Within R m g h) (b : Within R n h k) : Within R (m + n) g k := by
  obtain ⟨i, hi, a⟩ := a
  obtain ⟨j, hj, b⟩ := b
  exact ⟨i + j, by omega, a.trans b⟩
theorem Within.more {γ : Type} {R : γ → γ → Prop} {n : Nat} {g h k : γ} (a : Within R n g h) (r : R h k) : Within R (n + 1) g k := a.trans ⟨1, Nat.le_refl _, Turns.one r⟩
theorem Within.mono {γ : Type} {R : γ → γ → Prop} {m n : Nat} {g h : γ} (a : Within R m g h) (l : m ≤ n) : Within R n g h := by
  obtain ⟨i, hi, a⟩ := a
  exact ⟨i, by omega, a⟩
/-- What holds of whoever is asked: O g is it, lt what it tells of the things that are ok, R how a question turns it. -/
structure Asks {γ : Type} (O : γ → Ob) (R : γ → γ → Prop) (ok : Int → Prop) (lt : Int → Int → Bool) (H : World → Prop) (T : TypeId) (v : Value) (f : Fn) : Prop where
  there : ∀ {g w F}, (O g).holds w F → H w
  ask : ∀ {g w F} (a b : Int), ok a → ok b → (O g).holds w F → Calls Try.prog f.id #[f.rv, .int .i64 a, .int .i64 b] w fun e w' => e = .returned (.bool (lt a b)) ∧ ∃ g', R g g' ∧ ∃ F', (O g').holds w' F' ∧ Moved F F' w w'
  meth : Meth H T v "Ahead" f
theorem Asks.stage {γ : Type} {O : γ → Ob} {R : γ → γ → Prop} {ok : Int → Prop} {lt : Int → Int → Bool} {H : World → Prop} {T : TypeId} {v : Value} {f : Fn} (A : Asks O R ok lt H T v f)
    {F0 : Nat → Prop} {W w : World} {l : List Ob} {g : γ} (hs : Stage F0 W l w) (i : Nat) (hi : l[i]? = some (O g)) (a b : Int) (ha : ok a) (hb : ok b) :
    Calls Try.prog f.id #[f.rv, .int .i64 a, .int .i64 b] w fun e w' => e = .returned (.bool (lt a b)) ∧ ∃ g', R g g' ∧ Stage F0 W (l.set i (O g')) w' :=
  hs.callEx i hi fun _ ho => A.ask a b ha hb ho
theorem Asks.find {γ : Type} {O : γ → Ob} {R : γ → γ → Prop} {ok : Int → Prop} {lt : Int → Int → Bool} {H : World → Prop} {T : TypeId} {v : Value} {f : Fn} (A : Asks O R ok lt H T v f)
    {F0 : Nat → Prop} {W w : World} {l : List Ob} {g : γ} (hs : Stage F0 W l w) (i : Nat) (hi : l[i]? = some (O g)) : (method 202 T v "Ahead").run Try.prog w = .ok (f.id, f.rv) w :=
  A.meth.find w ((hs.get hi).elim fun _ h => A.there h)
end Go.Proofs.Ytbllfokagedpeaa

namespace Go.Proofs.Ytbllfokagedpeaa
open Go.RowKit Go.Sort

/-- A row that is looked at from elsewhere reads no less than another one. -/
def Seen (a : Option Addr) (l : List Int) (a' : Option Addr) (l' : List Int) : Prop := ∀ w, IntsAt w .i64 a l → IntsAt w .i64 a' l'
theorem Seen.refl (a : Option Addr) (l : List Int) : Seen a l a l := fun _ h => h
theorem Seen.trans {a b c : Option Addr} {l m r : List Int} (h : Seen a l b m) (k : Seen b m c r) : Seen a l c r := fun w x => k w (h w x)
theorem Stage.intsAtI {F0 : Nat → Prop} {W w : World} {l : List Ob} {a : Option Addr} {c : Nat} {xs : List Int} (h : Stage F0 W l w) (i : Nat) (hi : l[i]? = some (Ob.ints (.slice a xs.length c) xs)) : IntsAt w .i64 a xs := fun j hj => by
  obtain ⟨g, c', hv, _, _, _, hc, _⟩ := h.intsAt i hi (by omega)
  cases hv
  exact ⟨g, 0, rfl, by rw [Nat.zero_add]; exact hc j hj⟩
theorem ints_snoc1 {F0 : Nat → Prop} {W0 w : World} {z : Value} {l : List Int} {y : Int} {A : Ob} {q : List Ob} (h : Stage F0 W0 ([A, Ob.row 0 3 1 z (l.length + 1) (cellsBy intC l ++ [.int .i64 y])] ++ q) w) : Stage F0 W0 ([A, Ob.ints z (l ++ [y])] ++ q) w := by
  have e1 : (l ++ [y]).length = l.length + 1 := by simp
  have e2 : cellsBy intC (l ++ [y]) = cellsBy intC l ++ [.int .i64 y] := by rw [cellsBy_append, cellsBy_one]; rfl
  unfold Ob.ints
  rw [e1, e2]
  exact h
section
variable {γ : Type} {F0 : Nat → Prop} {W0 w : World} {p n : Nat} {K : Int → List Int} {O : γ → Ob} {g : γ} {R : γ → γ → Prop} {ok : Int → Prop} {lt : Int → Int → Bool} {H : World → Prop} {T : TypeId} {v : Value} {f : Fn} {sv : Value} {S : List Int}
set_option maxHeartbeats 1000000 in
set_option maxRecDepth 100000 in
theorem take_st {q : List Ob} (hs : Stage F0 W0 ([Ob.forest p n K, Ob.ints sv S] ++ q) w) (d : Nat) (A : List Int) (a : Option Addr) (c : Nat) (hc : A.length ≤ c ∧ c ≤ 9223372036854775807) (hA : IntsAt w .i64 a A) (_hd : d ≤ 100) (hS : S.length ≤ 1000) :
    Calls Try.prog 37 #[.pointer (some ⟨p, 0, none⟩), .int .i64 d, sv, .slice a A.length c] w fun e w' => ∃ sv' a' c', e = .returned (.tuple #[sv', .slice a' (takeK K d S A).2.length c']) ∧ Seen a A a' (takeK K d S A).2 ∧ ((takeK K d S A).2.length ≤ c' ∧ c' ≤ 9223372036854775807) ∧ Stage F0 W0 ([Ob.forest p n K, Ob.ints sv' (takeK K d S A).1] ++ q) w' := by
  obtain ⟨hc1, hc2⟩ := hc
  obtain ⟨sa, sc, rfl, hs1, hs2⟩ := hs.intsForm 1 rfl
  cases A with
  | nil =>
    show Calls _ _ #[_, _, _, .slice a 0 c] _ _
    clear hA
    go_enter Try.func37, Try.ntmps37
    go_wp2_with fail
    go_ret2
    exact ⟨_, a, c, rfl, Seen.refl _ _, ⟨Nat.zero_le _, hc2⟩, hs⟩
  | cons x r =>
    obtain ⟨gb, o, rfl, u0⟩ := hA 0 (by simp)
    rw [Nat.add_zero] at u0
    replace u0 : w.cell? ⟨gb, o, none⟩ = some (.int .i64 x) := u0
    have hD := hs.ask 0 rfl (fun _ ho => deg_f ho x)
    have hl0 : (((x :: r).length : Int) == 0) = false := by simp; omega
    have hl1 : ((x :: r).length == 0) = false := by simp
    have e : takeK K d S (x :: r) = if d < (K x).length then (S, x :: r) else (S ++ [x], r) := rfl
    rw [e]
    clear e
    by_cases h : d < (K x).length
    · rw [if_pos h]
      have hdd : (d : Int) < (K x).length := by omega
      have h9 := Lib.hid (Seen.refl (some (⟨gb, o, none⟩ : Addr)) (x :: r))
      clear hA
      generalize (K x).length = m at *
      generalize hL : (x :: r).length = L at *
      have hL0 : (0 : Int) < L := by have : 0 < (x :: r).length := by simp
                                     omega
      replace hL := Lib.hid hL
      go_enter Try.func37, Try.ntmps37
      go_wp2_with fail
      refine hD.mono ?_
      rintro e w1 ⟨rfl, rfl⟩
      go_wp2_with fail
      go_ret2
      exact ⟨_, _, c, rfl, h9.out, ⟨hc1, hc2⟩, hs⟩
    · rw [if_neg h]
      have hdd : ¬ (d : Int) < (K x).length := by omega
      have hSn : Seen (some (⟨gb, o, none⟩ : Addr)) (x :: r) (some ⟨gb, o + 1, none⟩) r := fun w2 h i hi => by
        obtain ⟨b', o', e1, e2⟩ := h (i + 1) (by simp; omega)
        cases e1
        exact ⟨gb, o + 1, rfl, by rw [show o + 1 + i = o + (i + 1) by omega]; exact e2⟩
      have hsA := hs.drew.later ((Below.refl _ w.drew).alloc (Nat.le_refl _) (.cells #[.int .i64 x] 3))
      have hr2 := reads_new w.drew #[.int .i64 x] 3 1 1 _ rfl rfl
      have e63 : S.length + 1 ≤ maxLen := by unfold maxLen; omega
      have eby : (S.length + 1) * 8 ≤ 140737488355328 := by omega
      have hrl : (x :: r).length = r.length + 1 := by simp
      rw [hrl] at hc1 hl0 hl1 ⊢
      clear hA hrl
      generalize (K x).length = m at *
      generalize hL : r.length = L at *
      have hL0 : (0 : Int) < ((L + 1 : Nat) : Int) := by omega
      have hL1 : (1 : Int) ≤ (L : Int) + 1 := by omega
      have hSe : c = 1 → Seen (some (⟨gb, o, none⟩ : Addr)) (x :: r) (some ⟨gb, o, none⟩) r := fun e w2 _ i hi => by omega
      have hc4 : L ≤ c - 1 ∧ c - 1 ≤ 9223372036854775807 := by omega
      replace hL := Lib.hid hL
      by_cases hc1' : c = 1
      rotate_left
      · go_enter Try.func37, Try.ntmps37
        go_wp2_with fail
        refine hD.mono ?_
        rintro e w1 ⟨rfl, rfl⟩
        go_wp2_with fail
        go_region_law (refine Stage.step_append (v := .slice sa S.length sc) (l := [_, _] ++ q) (by exact hsA.same rfl rfl rfl rfl) 1 rfl rfl _ _ 30 rfl (.int .i64 0) 8 Try.underlying30 sinfo_int rfl (by decide) (Nat.zero_le _) rfl _ 1 [.int .i64 x] rfl (by exact reads_same (w := w.drew.alloc (.cells #[.int .i64 x] 3)) rfl hr2) (by intro u hu; simp at hu; subst hu; rfl) e63 eby ?_; intro v1 w6 hs6 hl6)
        all_goals
          have hs7 := ints_snoc1 (q := q) hs6
          clear hs6
          go_wp2_with fail
          go_ret2
          exact ⟨v1, _, _, rfl, hSn, hc4, hs7⟩
      · replace hSe := hSe hc1'
        subst hc1'
        obtain rfl : L = 0 := by omega
        go_enter Try.func37, Try.ntmps37
        go_wp2_with fail
        refine hD.mono ?_
        rintro e w1 ⟨rfl, rfl⟩
        go_wp2_with fail
        go_region_law (refine Stage.step_append (v := .slice sa S.length sc) (l := [_, _] ++ q) (by exact hsA.same rfl rfl rfl rfl) 1 rfl rfl _ _ 30 rfl (.int .i64 0) 8 Try.underlying30 sinfo_int rfl (by decide) (Nat.zero_le _) rfl _ 1 [.int .i64 x] rfl (by exact reads_same (w := w.drew.alloc (.cells #[.int .i64 x] 3)) rfl hr2) (by intro u hu; simp at hu; subst hu; rfl) e63 eby ?_; intro v1 w6 hs6 hl6)
        all_goals
          have hs7 := ints_snoc1 (q := q) hs6
          clear hs6
          go_wp2_with fail
          go_ret2
          exact ⟨v1, _, _, rfl, hSe, hc4, hs7⟩
end
end Go.Proofs.Ytbllfokagedpeaa
