/- Merged of CarryTake, CarryJoin. -/
import Derived.Test.YtkcicnflcilekaaGreatCarryShare
import Derived.Test.YtkcicnflcilekaaGreatAsks
namespace Go.Proofs.YtkcicnflcilekaaGreat
open Go.RowKit Go.Sort

/-- A row that is looked at from elsewhere reads no less than another one. -/
def Seen (a : Option Addr) (l : List Int) (a' : Option Addr) (l' : List Int) : Prop := ∀ w, IntsAt w .i64 a l → IntsAt w .i64 a' l'
theorem Seen.refl (a : Option Addr) (l : List Int) : Seen a l a l := fun _ h => h
theorem Seen.trans {a b c : Option Addr} {l m r : List Int} (h : Seen a l b m) (k : Seen b m c r) : Seen a l c r := fun w x => k w (h w x)
theorem Stage.intsAtI {F0 : Nat → Prop} {W w : World} {l : List Ob} {a : Option Addr} {c : Nat} {xs : List Int} (h : Stage F0 W l w) (i : Nat) (hi : l[i]? = some (Ob.ints (.slice a xs.length c) xs)) : IntsAt w .i64 a xs := fun j hj => by
  obtain ⟨g, c', hv, _, _, _, hc, _⟩ := h.intsAt i hi (by omega)
  cases hv
  exact ⟨g, 0, rfl, by rw [Nat.zero_add]; exact hc j hj⟩
theorem ints_snoc1 {F0 : Nat → Prop} {W0 w : World} {z : Value} {l : List Int} {y : Int} {A : Ob} {q : List Ob} (h : Stage F0 W0 ([A, Ob.row 0 3 1 z (l.length + 1) (cellsBy intC l ++ [.int .i64 y])] ++ q) w) : Stage F0 W0 ([A, Ob.ints z (l ++ [y])] ++ q) w := by
  have e1 : (l ++ [y]).length = l.length + 1 := by simp
  have e2 : cellsBy intC (l ++ [y]) = cellsBy intC l ++ [.int .i64 y] := by rw [cellsBy_append, cellsBy_one]; rfl
  unfold Ob.ints
  rw [e1, e2]
  exact h
section
variable {γ : Type} {F0 : Nat → Prop} {W0 w : World} {p n : Nat} {K : Int → List Int} {O : γ → Ob} {g : γ} {R : γ → γ → Prop} {ok : Int → Prop} {lt : Int → Int → Bool} {H : World → Prop} {T : TypeId} {v : Value} {f : Fn} {sv : Value} {S : List Int}
set_option maxHeartbeats 1000000 in
set_option maxRecDepth 100000 in
theorem take_st {q : List Ob} (hs : Stage F0 W0 ([Ob.forest p n K, Ob.ints sv S] ++ q) w) (d : Nat) (A : List Int) (a : Option Addr) (c : Nat) (hc : A.length ≤ c ∧ c ≤ 9223372036854775807) (hA : IntsAt w .i64 a A) (_hd : d ≤ 100) (hS : S.length ≤ 1000) :
    Calls Tryz.prog 201 #[.pointer (some ⟨p, 0, none⟩), .int .i64 d, sv, .slice a A.length c] w fun e w' => ∃ sv' a' c', e = .returned (.tuple #[sv', .slice a' (takeK K d S A).2.length c']) ∧ Seen a A a' (takeK K d S A).2 ∧ ((takeK K d S A).2.length ≤ c' ∧ c' ≤ 9223372036854775807) ∧ Stage F0 W0 ([Ob.forest p n K, Ob.ints sv' (takeK K d S A).1] ++ q) w' := by
  obtain ⟨hc1, hc2⟩ := hc
  obtain ⟨sa, sc, rfl, hs1, hs2⟩ := hs.intsForm 1 rfl
  cases A with
  | nil =>
    show Calls _ _ #[_, _, _, .slice a 0 c] _ _
    clear hA
    go_enter Tryz.func201, Tryz.ntmps201
    go_wp2_with fail
    go_ret2
    exact ⟨_, a, c, rfl, Seen.refl _ _, ⟨Nat.zero_le _, hc2⟩, hs⟩
  | cons x r =>
    obtain ⟨gb, o, rfl, u0⟩ := hA 0 (by simp)
    rw [Nat.add_zero] at u0
    replace u0 : w.cell? ⟨gb, o, none⟩ = some (.int .i64 x) := u0
    have hD := hs.ask 0 rfl (fun _ ho => deg_f ho x)
    have hl0 : (((x :: r).length : Int) == 0) = false := by simp; omega
    have hl1 : ((x :: r).length == 0) = false := by simp
    have e : takeK K d S (x :: r) = if d < (K x).length then (S, x :: r) else (S ++ [x], r) := rfl
    rw [e]
    clear e
    by_cases h : d < (K x).length
    · rw [if_pos h]
      have hdd : (d : Int) < (K x).length := by omega
      have h9 := Lib.hid (Seen.refl (some (⟨gb, o, none⟩ : Addr)) (x :: r))
      clear hA
      generalize (K x).length = m at *
      generalize hL : (x :: r).length = L at *
      have hL0 : (0 : Int) < L := by have : 0 < (x :: r).length := by simp
                                     omega
      replace hL := Lib.hid hL
      go_enter Tryz.func201, Tryz.ntmps201
      go_wp2_with fail
      refine hD.mono ?_
      rintro e w1 ⟨rfl, rfl⟩
      go_wp2_with fail
      go_ret2
      exact ⟨_, _, c, rfl, h9.out, ⟨hc1, hc2⟩, hs⟩
    · rw [if_neg h]
      have hdd : ¬ (d : Int) < (K x).length := by omega
      have hSn : Seen (some (⟨gb, o, none⟩ : Addr)) (x :: r) (some ⟨gb, o + 1, none⟩) r := fun w2 h i hi => by
        obtain ⟨b', o', e1, e2⟩ := h (i + 1) (by simp; omega)
        cases e1
        exact ⟨gb, o + 1, rfl, by rw [show o + 1 + i = o + (i + 1) by omega]; exact e2⟩
      have hsA := hs.drew.later ((Below.refl _ w.drew).alloc (Nat.le_refl _) (.cells #[.int .i64 x] 3))
      have hr2 := reads_new w.drew #[.int .i64 x] 3 1 1 _ rfl rfl
      have e63 : S.length + 1 ≤ maxLen := by unfold maxLen; omega
      have eby : (S.length + 1) * 8 ≤ 140737488355328 := by omega
      have hrl : (x :: r).length = r.length + 1 := by simp
      rw [hrl] at hc1 hl0 hl1 ⊢
      clear hA hrl
      generalize (K x).length = m at *
      generalize hL : r.length = L at *
      have hL0 : (0 : Int) < ((L + 1 : Nat) : Int) := by omega
      have hL1 : (1 : Int) ≤ (L : Int) + 1 := by omega
      have hSe : c = 1 → Seen (some (⟨gb, o, none⟩ : Addr)) (x :: r) (some ⟨gb, o, none⟩) r := fun e w2 _ i hi => by omega
      have hc4 : L ≤ c - 1 ∧ c - 1 ≤ 9223372036854775807 := by omega
      replace hL := Lib.hid hL
      by_cases hc1' : c = 1
      rotate_left
      · go_enter Tryz.func201, Tryz.ntmps201
        go_wp2_with fail
        refine hD.mono ?_
        rintro e w1 ⟨rfl, rfl⟩
        go_wp2_with fail
        go_region_law (refine Stage.step_append (v := .slice sa S.length sc) (l := [_, _] ++ q) (by exact hsA.same rfl rfl rfl rfl) 1 rfl rfl _ _ 75 rfl (.int .i64 0) 8 Tryz.underlying75 sinfo_int rfl (by decide) (Nat.zero_le _) rfl _ 1 [.int .i64 x] rfl (by exact reads_same (w := w.drew.alloc (.cells #[.int .i64 x] 3)) rfl hr2) (by intro u hu; simp at hu; subst hu; rfl) e63 eby ?_; intro v1 w6 hs6 hl6)
        all_goals
          have hs7 := ints_snoc1 (q := q) hs6
          clear hs6
          go_wp2_with fail
          go_ret2
          exact ⟨v1, _, _, rfl, hSn, hc4, hs7⟩
      · replace hSe := hSe hc1'
        subst hc1'
        obtain rfl : L = 0 := by omega
        go_enter Tryz.func201, Tryz.ntmps201
        go_wp2_with fail
        refine hD.mono ?_
        rintro e w1 ⟨rfl, rfl⟩
        go_wp2_with fail
        go_region_law (refine Stage.step_append (v := .slice sa S.length sc) (l := [_, _] ++ q) (by exact hsA.same rfl rfl rfl rfl) 1 rfl rfl _ _ 75 rfl (.int .i64 0) 8 Tryz.underlying75 sinfo_int rfl (by decide) (Nat.zero_le _) rfl _ 1 [.int .i64 x] rfl (by exact reads_same (w := w.drew.alloc (.cells #[.int .i64 x] 3)) rfl hr2) (by intro u hu; simp at hu; subst hu; rfl) e63 eby ?_; intro v1 w6 hs6 hl6)
        all_goals
          have hs7 := ints_snoc1 (q := q) hs6
          clear hs6
          go_wp2_with fail
          go_ret2
          exact ⟨v1, _, _, rfl, hSe, hc4, hs7⟩
end
end Go.Proofs.YtkcicnflcilekaaGreat

namespace Go.Proofs.YtkcicnflcilekaaGreat
open Go.RowKit Go.Sort

section
variable {γ : Type} {F0 : Nat → Prop} {W0 w : World} {p n : Nat} {K : Int → List Int} {O : γ → Ob} {g : γ} {R : γ → γ → Prop} {ok : Int → Prop} {lt : Int → Int → Bool} {H : World → Prop} {T : TypeId} {u : Value} {fn : Fn} {q : List Ob}
def JoinPost (O : γ → Ob) (R : γ → γ → Prop) (lt : Int → Int → Bool) (F0 : Nat → Prop) (W0 : World) (p n : Nat) (K : Int → List Int) (g : γ) (q : List Ob) (P : List Int) (e : Ending) (w' : World) : Prop :=
  ∃ sv j K' S' g', e = .returned sv ∧ JoinK lt K P j K' S' ∧ Turns R j g g' ∧ Stage F0 W0 ([Ob.forest p n K', O g'] ++ q ++ [Ob.ints sv S']) w'
set_option maxHeartbeats 1000000 in
set_option maxRecDepth 100000 in
theorem join_st (A : Asks O R ok lt H T u fn) (hs : Stage F0 W0 ([Ob.forest p n K, O g] ++ q) w) (P : List Int) (a : Option Addr) (c : Nat) (hc : P.length ≤ c ∧ c ≤ 9223372036854775807) (hP : IntsAt w .i64 a P) (h02 : P.length = 0 ∨ P.length = 2)
    (hok : ∀ x ∈ P, ok x) (hlink : ∀ x y, P = [x, y] → linkF n K x y = linkK K x y ∧ linkF n K y x = linkK K y x) :
    Calls Tryz.prog 202 #[.pointer (some ⟨p, 0, none⟩), .iface T u, .slice a P.length c] w (JoinPost O R lt F0 W0 p n K g q P) := by
  obtain ⟨hc1, hc2⟩ := hc
  match P, h02 with
  | [], _ =>
    have hl := hs.nilRow 0 3 1
    show Calls _ _ #[_, _, .slice a 0 c] _ _
    clear hs
    go_enter Tryz.func202, Tryz.ntmps202
    go_wp2_with fail
    go_ret
    exact ⟨_, 0, K, [], g, rfl, JoinK.none, Turns.none g, hl⟩
  | [x, y], _ =>
    obtain ⟨gb, o, rfl, u0⟩ := hP 0 (by simp)
    obtain ⟨gb', o', e1, u1⟩ := hP 1 (by simp)
    cases e1
    rw [Nat.add_zero] at u0
    replace u0 : w.cell? ⟨gb, o, none⟩ = some (.int .i64 x) := u0
    replace u1 : w.cell? ⟨gb, o + 1, none⟩ = some (.int .i64 y) := u1
    obtain ⟨l1, l2⟩ := hlink x y rfl
    obtain ⟨w1, hw1, hs1⟩ : ∃ w1, w.drew = w1 ∧ Stage F0 W0 ([Ob.forest p n K, O g] ++ q) w1 := ⟨_, rfl, hs.drew⟩
    replace hw1 := Lib.hid hw1
    have hm := A.find hs1 1 rfl
    have he := A.meth.enter
    have hA := A.stage hs1 1 rfl y x (hok y (by simp)) (hok x (by simp))
    have hL1 := fun wx g' (h : Stage F0 W0 ([Ob.forest p n K, O g'] ++ q) wx) => h.call 0 rfl (fun F ho => link_cy x y ho)
    have hL2 := fun wx g' (h : Stage F0 W0 ([Ob.forest p n K, O g'] ++ q) wx) => h.call 0 rfl (fun F ho => link_cy y x ho)
    rw [l1] at hL1
    rw [l2] at hL2
    generalize linkB n K x y = B1 at *
    generalize linkB n K y x = B2 at *
    show Calls _ _ #[_, _, .slice (some ⟨gb, o, none⟩) 2 c] _ _
    replace hc1 : 2 ≤ c := hc1
    clear hs hs1 hP hok hlink l1 l2
    go_enter Tryz.func202, Tryz.ntmps202
    go_wp2_with fail
    go_region
    rw [hw1.out]
    clear hw1 u0 u1
    go_wp2_with fail
    refine hA.mono ?_
    rintro e w2 ⟨rfl, g', hR, hs2⟩
    clear hA hm
    replace hs2 : Stage F0 W0 ([Ob.forest p n K, O g'] ++ q) w2 := hs2
    cases hlt : lt y x
    · replace hL1 := hL1 w2 g' hs2
      clear hL2 hs2
      go_wp2_with fail
      refine hL1.mono ?_
      rintro e w3 ⟨rfl, hs3⟩
      clear hL1
      have hs4 := hs3.newRow 3 1 1 #[.int .i64 x] rfl (by decide)
      go_wp2_with fail
      go_ret
      exact ⟨_, 1, _, [x], g', rfl, JoinK.first hlt, Turns.one hR, hs4⟩
    · replace hL2 := hL2 w2 g' hs2
      clear hL1 hs2
      go_wp2_with fail
      refine hL2.mono ?_
      rintro e w3 ⟨rfl, hs3⟩
      clear hL2
      have hs4 := hs3.newRow 3 1 1 #[.int .i64 y] rfl (by decide)
      go_wp2_with fail
      go_ret
      exact ⟨_, 1, _, [y], g', rfl, JoinK.second hlt, Turns.one hR, hs4⟩
end
end Go.Proofs.YtkcicnflcilekaaGreat
