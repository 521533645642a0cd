/- Merged of StageFrame, Meth, Asks, SiftRow, SiftSwap. -/
import Derived.Test.YtlbbgdpdaelcdaaStage
import Derived.Test.YtlbbgdpdaelcdaaProg
import Derived.Test.YtlbbgdpdaelcdaaSiftRunsMath
import Derived.Test.YtlbbgdpdaelcdaaBox
import Derived.Test.YtlbbgdpdaelcdaaStageAppend
import Derived.BigRegion
import Derived.StillTailTactics
namespace Go.Proofs.Ytlbbgdpdaelcdaa
open Go.RowKit Go.Sort
namespace Stage
variable {F0 : Nat → Prop} {W w w' : World} {l : List Ob} {P : Program} {f : FuncId} {args : Array Value} {v : Value}
/-- A call that knows the first things alone: the others are as they were. -/
theorem frameEx {α : Type} {r : List Ob} {Post : α → Ending → Prop} {l' : α → List Ob} (h : Stage F0 W (l ++ r) w) (hc : ∀ F : Nat → Prop, (∀ b, F b → b < w.heap.size) → Stage F w l w → Calls P f args w fun e w' => ∃ x, Post x e ∧ Stage F w (l' x) w') :
    Calls P f args w fun e w' => ∃ x, Post x e ∧ Stage F0 W (l' x ++ r) w' := by
  obtain ⟨hk, G, h1, h2, h3⟩ := h
  have hW := hk.size
  refine (hc (fun b => ∃ i, i < l.length ∧ G i b) (fun b ⟨i, _, hb⟩ => (h3 i b hb).2) ⟨Keeps.refl _ _, fun i b => i < l.length ∧ G i b, fun i O hi => ?_, fun i j b hij hb hb' => h2 i j b hij hb.2 hb'.2, fun i b hb => ⟨Or.inl ⟨i, hb⟩, (h3 i b hb.2).2⟩⟩).mono ?_
  · have hl := Scene.idx hi
    have e : (fun b => i < l.length ∧ G i b) = G i := by funext b; simp [hl]
    show O.holds w (fun b => i < l.length ∧ G i b)
    rw [e]
    exact h1 i O (by rw [List.getElem?_append_left hl]; exact hi)
  · rintro e w' ⟨x, hp, hk', G', g1, g2, g3⟩
    refine ⟨x, hp, ⟨hk'.os.trans hk.os, hk'.tape.trans hk.tape, hk'.output.trans hk.output, Nat.le_trans hW hk'.size, fun k hk1 hn => (hk'.block k (Nat.lt_of_lt_of_le hk1 hW) (fun ⟨i, _, hb⟩ => ?_)).trans (hk.block k hk1 hn)⟩,
      fun i => if i < (l' x).length then G' i else G (l.length + (i - (l' x).length)), fun i O hi => ?_, fun i j b hij hb hb' => ?_, fun i b hb => ?_⟩
    · rcases (h3 i k hb).1 with h | h
      · exact hn h
      · omega
    · by_cases hi' : i < (l' x).length
      · simp only [if_pos hi']
        rw [List.getElem?_append_left hi'] at hi
        exact g1 i O hi
      · simp only [if_neg hi']
        rw [List.getElem?_append_right (by omega)] at hi
        refine O.keeps (h1 (l.length + (i - (l' x).length)) O ?_) hk' (fun b hb ⟨j, hj, hb'⟩ => h2 _ j b (by omega) hb hb')
        rw [List.getElem?_append_right (by omega), Nat.add_sub_cancel_left]
        exact hi
    · simp only at hb hb'
      split at hb
      · split at hb'
        · exact g2 i j b hij hb hb'
        · rcases (g3 i b hb).1 with ⟨k, hk1, hk2⟩ | h
          · exact h2 k _ b (by omega) hk2 hb'
          · have := (h3 _ b hb').2; omega
      · split at hb'
        · rcases (g3 j b hb').1 with ⟨k, hk1, hk2⟩ | h
          · exact h2 k _ b (by omega) hk2 hb
          · have := (h3 _ b hb).2; omega
        · exact h2 _ _ b (by omega) hb hb'
    · simp only at hb
      split at hb
      · refine ⟨?_, (g3 i b hb).2⟩
        rcases (g3 i b hb).1 with ⟨k, _, hk2⟩ | h
        · exact (h3 k b hk2).1
        · exact Or.inr (by omega)
      · exact ⟨(h3 _ b hb).1, Nat.lt_of_lt_of_le (h3 _ b hb).2 hk'.size⟩
theorem frame {r l' : List Ob} (h : Stage F0 W (l ++ r) w) (hc : ∀ F : Nat → Prop, (∀ b, F b → b < w.heap.size) → Stage F w l w → Calls P f args w fun e w' => e = .returned v ∧ Stage F w l' w') :
    Calls P f args w fun e w' => e = .returned v ∧ Stage F0 W (l' ++ r) w' :=
  (h.frameEx (α := Unit) (Post := fun _ e => e = .returned v) (l' := fun _ => l') fun F hF hs => (hc F hF hs).mono fun _ _ ⟨h1, h2⟩ => ⟨(), h1, h2⟩).mono fun _ _ ⟨_, h1, h2⟩ => ⟨h1, h2⟩

end Stage
end Go.Proofs.Ytlbbgdpdaelcdaa

namespace Go.Proofs.Ytlbbgdpdaelcdaa
open Go.RowKit Go.Sort

/-- A function that a call by a name enters, and the receiver that it is handed. -/
structure Fn where
  id : FuncId
  rv : Value
/-- By the name n the value v of type T is called by f, in each world in which H holds. -/
structure Meth (H : World → Prop) (T : TypeId) (v : Value) (n : String) (f : Fn) : Prop where
  find : ∀ w, H w → (method 260 T v n).run Try.prog w = .ok (f.id, f.rv) w
  enter : ∀ args w, (callFunc f.id args).run Try.prog w = .ok (.enter f.id args) w
def inInt (y : Int) : Prop := -9223372036854775808 ≤ y ∧ y ≤ 9223372036854775807
abbrev ptrV (p : Nat) : Value := .pointer (some ⟨p, 0, none⟩)
namespace Stage
variable {F0 : Nat → Prop} {W w w' : World} {l : List Ob} {P : Program} {f : FuncId} {args : Array Value} {O : Ob} {v : Value}
/-- A call on one thing, which it turns into one of some things. -/
theorem callEx {α : Type} {Q : α → Prop} {O' : α → Ob} (h : Stage F0 W l w) (i : Nat) (hi : l[i]? = some O) (hc : ∀ F, O.holds w F → Calls P f args w fun e w' => e = .returned v ∧ ∃ a, Q a ∧ ∃ F', (O' a).holds w' F' ∧ Moved F F' w w') :
    Calls P f args w fun e w' => e = .returned v ∧ ∃ a, Q a ∧ Stage F0 W (l.set i (O' a)) w' := by
  obtain ⟨hbl, F, h1, h2, h3⟩ := h
  exact (hc (F i) (h1 i O hi)).mono fun e w' ⟨he, a, hq, F', ho, m⟩ => ⟨he, a, hq, swap hbl h1 h2 h3 (Scene.idx hi) ho m⟩
end Stage
end Go.Proofs.Ytlbbgdpdaelcdaa

namespace Go.Proofs.Ytlbbgdpdaelcdaa
open Go.RowKit Go.Sort

/-- Asked just so often. -/
inductive Turns {γ : Type} (R : γ → γ → Prop) : Nat → γ → γ → Prop where
  | none (g : γ) : Turns R 0 g g
  | more {n : Nat} {g h k : γ} : Turns R n g h → R h k → Turns R (n + 1) g k
theorem Turns.trans {γ : Type} {R : γ → γ → Prop} {m n : Nat} {g h k : γ} (a : Turns R m g h) (b : Turns R n h k) : Turns R (m + n) g k := by
  induction b with
  | none => exact a
  | more _ r ih => exact (ih a).more r
theorem Turns.one {γ : Type} {R : γ → γ → Prop} {g h : γ} (r : R g h) : Turns R 1 g h := (Turns.none g).more r
/-- Asked no more than so often. -/
def Within {γ : Type} (R : γ → γ → Prop) (n : Nat) (g h : γ) : Prop := ∃ m, m ≤ n ∧ Turns R m g h
theorem Within.refl {γ : Type} (R : γ → γ → Prop) (n : Nat) (g : γ) : Within R n g g := ⟨0, Nat.zero_le _, Turns.none g⟩
theorem Within.trans {γ : Type} {R : γ → γ → Prop} {m n : Nat} {g h k : γ} (a : Within R m g h) (b : Within R n h k) : Within R (m + n) g k := by
  obtain ⟨i, hi, a⟩ := a
  obtain ⟨j, hj, b⟩ := b
  exact ⟨i + j, by omega, a.trans b⟩
theorem Within.more {γ : Type} {R : γ → γ → Prop} {n : Nat} {g h k : γ} (a : Within R n g h) (r : R h k) : Within R (n + 1) g k := a.trans ⟨1, Nat.le_refl _, Turns.one r⟩
theorem Within.mono {γ : Type} {R : γ → γ → Prop} {m n : Nat} {g h : γ} (a : Within R m g h) (l : m ≤ n) : Within R n g h := by
  obtain ⟨i, hi, a⟩ := a
  exact ⟨i, by omega, a⟩
/-- What holds of whoever is asked: O g is it, lt what it tells of the things that are ok, R how a question turns it. -/
structure Asks {γ : Type} (O : γ → Ob) (R : γ → γ → Prop) (ok : Int → Prop) (lt : Int → Int → Bool) (H : World → Prop) (T : TypeId) (v : Value) (f : Fn) : Prop where
  there : ∀ {g w F}, (O g).holds w F → H w
  ask : ∀ {g w F} (a b : Int), ok a → ok b → (O g).holds w F → Calls Try.prog f.id #[f.rv, .int .i64 a, .int .i64 b] w fun e w' => e = .returned (.bool (lt a b)) ∧ ∃ g', R g g' ∧ ∃ F', (O g').holds w' F' ∧ Moved F F' w w'
  meth : Meth H T v "Ahead" f
theorem Asks.stage {γ : Type} {O : γ → Ob} {R : γ → γ → Prop} {ok : Int → Prop} {lt : Int → Int → Bool} {H : World → Prop} {T : TypeId} {v : Value} {f : Fn} (A : Asks O R ok lt H T v f)
    {F0 : Nat → Prop} {W w : World} {l : List Ob} {g : γ} (hs : Stage F0 W l w) (i : Nat) (hi : l[i]? = some (O g)) (a b : Int) (ha : ok a) (hb : ok b) :
    Calls Try.prog f.id #[f.rv, .int .i64 a, .int .i64 b] w fun e w' => e = .returned (.bool (lt a b)) ∧ ∃ g', R g g' ∧ Stage F0 W (l.set i (O g')) w' :=
  hs.callEx i hi fun _ ho => A.ask a b ha hb ho
theorem Asks.find {γ : Type} {O : γ → Ob} {R : γ → γ → Prop} {ok : Int → Prop} {lt : Int → Int → Bool} {H : World → Prop} {T : TypeId} {v : Value} {f : Fn} (A : Asks O R ok lt H T v f)
    {F0 : Nat → Prop} {W w : World} {l : List Ob} {g : γ} (hs : Stage F0 W l w) (i : Nat) (hi : l[i]? = some (O g)) : (method 260 T v "Ahead").run Try.prog w = .ok (f.id, f.rv) w :=
  A.meth.find w ((hs.get hi).elim fun _ h => A.there h)
end Go.Proofs.Ytlbbgdpdaelcdaa

namespace Go.Proofs.Ytlbbgdpdaelcdaa
open Go.RowKit Go.Sort

def intC (x : Int) : List Value := [.int .i64 x]
theorem intC_len : ∀ x, (intC x).length = 1 := fun _ => rfl
theorem intC_set (l : List Int) (i : Nat) (x : Int) : (cellsBy intC l).set i (.int .i64 x) = cellsBy intC (l.set i x) := by
  have e : ∀ m : List Int, cellsBy intC m = m.map fun x : Int => Value.int .i64 x := fun m => by
    induction m with
    | nil => rfl
    | cons a r ih => rw [cellsBy_cons, ih]; rfl
  rw [e, e, List.map_set]
theorem intC_one (u : Value) (l : List Int) (h : u ∈ cellsBy intC l) : ∃ x, u = .int .i64 x := by
  simp only [cellsBy, List.mem_flatMap, intC, List.mem_singleton] at h
  obtain ⟨x, _, rfl⟩ := h
  exact ⟨x, rfl⟩
theorem owns_short {w : World} {base : Nat} {e : TypeId} {size g n cap m : Nat} {xs : List Value} (h : w.ownsRow base e size (.slice (some ⟨g, 0, none⟩) n cap) n xs) (hm : m ≤ n) : w.ownsRow base e size (.slice (some ⟨g, 0, none⟩) m cap) m (xs.take (m * size)) := by
  obtain ⟨h1, ⟨h2, _⟩ | ⟨g', cap', cur, hv, hg, hh, hle, hmax, hs, hx⟩⟩ := h
  · cases h2
  · injection hv with e1 e2 e3
    injection e1 with e1
    injection e1 with e1
    subst e1 e3
    have hms : m * size ≤ n * size := Nat.mul_le_mul_right _ hm
    refine ⟨by rw [List.length_take, h1]; omega, Or.inr ⟨_, _, cur, rfl, hg, hh, Nat.le_trans hm hle, hmax, hs, ?_⟩⟩
    rw [← hx, List.take_take, Nat.min_eq_left hms]
/-- A row at r: its things, and where they are told to be. -/
def rowP (r bm : Nat) (v : Value) (d : Nat) (l : List Int) (f : Int → Option Int) (n : Nat) : List Ob :=
  [Ob.box r #[.int .i64 d, v, .map (some bm)] 95, Ob.row 0 3 1 v l.length (cellsBy intC l), Ob.zmap Try.prog 3 3 bm f n]
def atD (l : List Int) (i : Int) : Int × Bool := if 0 ≤ i ∧ i < l.length then (rat l i.toNat, true) else (0, false)
theorem atD_nat {l : List Int} {i : Nat} (h : i < l.length) : atD l i = (rat l i, true) := by
  unfold atD; rw [if_pos (by omega)]; simp
theorem atD_not {l : List Int} {i : Int} (h : ¬ (0 ≤ i ∧ i < l.length)) : atD l i = (0, false) := by
  unfold atD; rw [if_neg h]
theorem sinfo_int : (Try.prog.info? 3).map (fun i => (i.zero, i.size, i.bytes)) = some (some (.int .i64 0), 1, 8) := by kernel_rfl
theorem szero_int (w : World) : (zeroValue 3).run Try.prog w = .ok (.int .i64 0) w := by kernel_rfl
section
variable {F0 : Nat → Prop} {W0 w : World} {r bm : Nat} {v : Value} {d : Nat} {l : List Int} {f : Int → Option Int} {n : Nat} {q : List Ob}
theorem rowP_form (h : Stage F0 W0 (rowP r bm v d l f n ++ q) w) : ∃ a cp, v = .slice a l.length cp ∧ l.length ≤ cp ∧ cp ≤ 9223372036854775807 := by
  obtain ⟨a, cp, h1, h2, h3⟩ := owns_form (h.owns 1 rfl)
  exact ⟨a, cp, h1, h2, by unfold maxLen at h3; omega⟩
theorem rowP_row (h : Stage F0 W0 (rowP r bm v d l f n ++ q) w) (hn : 0 < l.length) : ∃ g cp, v = .slice (some ⟨g, 0, none⟩) l.length cp ∧ l.length ≤ cp ∧ cp ≤ 9223372036854775807 ∧ g < w.heap.size ∧ (∀ i, i < l.length → w.cell? ⟨g, i, none⟩ = some (.int .i64 (rat l i))) ∧ ∀ o, w.frozen? ⟨g, o, none⟩ = false := by
  obtain ⟨g, cp, hv, h1, h2, _, h4, hc, hf⟩ := owns_at intC_len 0 (h.owns 1 rfl) rfl hn
  refine ⟨g, cp, hv, h1, by unfold maxLen at h2; omega, h4, fun i hi => ?_, hf⟩
  have := hc i 0 _ hi (by omega) rfl
  rw [Nat.mul_one, Nat.add_zero] at this
  exact this
theorem slen_st (h : Stage F0 W0 (rowP r bm v d l f n ++ q) w) : Calls Try.prog 53 #[.pointer (some ⟨r, 0, none⟩)] w fun e w' => e = .returned (.int .i64 l.length) ∧ w = w' := by
  obtain ⟨a, cp, rfl, _, _⟩ := rowP_form h
  have k1 := h.cell 0 rfl (o := 1) rfl
  generalize l.length = n at *
  go_enter Try.func53, Try.ntmps53
  go_wp2_with fail
  go_ret
  exact ⟨rfl, rfl⟩
set_option maxRecDepth 100000 in
theorem sat_st (h : Stage F0 W0 (rowP r bm v d l f n ++ q) w) (i : Int) : Calls Try.prog 46 #[.pointer (some ⟨r, 0, none⟩), .int .i64 i] w fun e w' => e = .returned (.tuple #[.int .i64 (atD l i).1, .bool (atD l i).2]) ∧ w = w' := by
  have k1 := h.cell 0 rfl (o := 1) rfl
  by_cases h0 : i < 0
  · rw [atD_not (by omega)]
    obtain ⟨a, cp, rfl, _, _⟩ := rowP_form h
    clear h
    go_enter Try.func46, Try.ntmps46
    go_wp2_with fail
    go_ret2
    exact ⟨rfl, rfl⟩
  by_cases h1 : i < l.length
  · obtain ⟨m, rfl⟩ : ∃ m : Nat, i = m := ⟨i.toNat, by omega⟩
    have hm : m < l.length := by omega
    rw [atD_nat hm]
    obtain ⟨g, cp, rfl, hc1, hc2, hg, hcell, _⟩ := rowP_row h (by omega)
    have u0 := hcell m hm
    have h2 : ¬ ((l.length : Int) ≤ m) := by omega
    generalize rat l m = x at *
    generalize l.length = n at *
    clear h hcell
    go_enter Try.func46, Try.ntmps46
    go_wp2_with fail
    go_ret2
    exact ⟨rfl, rfl⟩
  · rw [atD_not (by omega)]
    obtain ⟨a, cp, rfl, _, _⟩ := rowP_form h
    have h2 : (l.length : Int) ≤ i := by omega
    generalize l.length = n at *
    clear h
    go_enter Try.func46, Try.ntmps46
    go_wp2_with fail
    go_ret2
    exact ⟨rfl, rfl⟩
end
section
variable {γ : Type} {O : γ → Ob} {R : γ → γ → Prop} {ok : Int → Prop} {lt : Int → Int → Bool} {H : World → Prop} {T : TypeId} {u : Value} {fn : Fn}
variable {F0 : Nat → Prop} {W0 w : World} {r bm : Nat} {v : Value} {d : Nat} {l : List Int} {f : Int → Option Int} {n : Nat} {g : γ} {q : List Ob}
set_option maxRecDepth 100000 in
/-- 'ahead': one question. -/
theorem ahead_st (A : Asks O R ok lt H T u fn) (hs : Stage F0 W0 (rowP r bm v d l f n ++ O g :: q) w) (i j : Nat) (hi : i < l.length) (hj : j < l.length) (hoi : ok (rat l i)) (hoj : ok (rat l j)) :
    Calls Try.prog 95 #[.pointer (some ⟨r, 0, none⟩), .iface T u, .int .i64 i, .int .i64 j] w fun e w' => e = .returned (.bool (lt (rat l i) (rat l j))) ∧ ∃ g', R g g' ∧ Stage F0 W0 (rowP r bm v d l f n ++ O g' :: q) w' := by
  have h1 := sat_st hs i
  have h2 := sat_st hs j
  rw [atD_nat hi] at h1
  rw [atD_nat hj] at h2
  have hm := A.find hs 3 rfl
  have he := A.meth.enter
  have hA := A.stage hs 3 rfl (rat l i) (rat l j) hoi hoj
  generalize lt (rat l i) (rat l j) = B at *
  generalize rat l i = x at *
  generalize rat l j = y at *
  clear hs hoi hoj
  go_enter Try.func95, Try.ntmps95
  go_wp2_with fail
  refine h1.mono ?_
  rintro e w1 ⟨rfl, rfl⟩
  go_wp2_with fail
  refine h2.mono ?_
  rintro e w1 ⟨rfl, rfl⟩
  clear h1 h2
  go_wp2_with fail
  refine hA.mono ?_
  rintro e w1 ⟨rfl, g', hR, hs1⟩
  go_wp2_with fail
  go_ret
  exact ⟨rfl, g', hR, hs1⟩
end
end Go.Proofs.Ytlbbgdpdaelcdaa

namespace Go.Proofs.Ytlbbgdpdaelcdaa
open Go.RowKit Go.Sort

theorem intC_get (l : List Int) (i : Nat) (h : i < l.length) : (cellsBy intC l)[i]? = some (.int .i64 (rat l i)) := by
  have := cellsBy_get intC 1 intC_len 0 l i 0 h (by omega)
  rw [Nat.mul_one, Nat.add_zero] at this
  exact this
/-- What places are told to be, behind a swap. -/
def swapF (l : List Int) (f : Int → Option Int) (i j : Nat) : Int → Option Int := setZ (setZ f (rat l i) (some (j : Int))) (rat l j) (some (i : Int))
section
variable {F0 : Nat → Prop} {W0 w : World} {r bm : Nat} {v : Value} {d : Nat} {l : List Int} {f : Int → Option Int} {n : Nat} {q : List Ob}
set_option maxRecDepth 100000 in
set_option maxHeartbeats 1000000 in
theorem swap_st (h : Stage F0 W0 (rowP r bm v d l f n ++ q) w) (i j : Nat) (hi : i < l.length) (hj : j < l.length) (hin : n < maxLen) (hxi : inInt (rat l i)) (hxj : inInt (rat l j)) (hfi : (f (rat l i)).isSome = true) (hfj : (f (rat l j)).isSome = true) :
    Calls Try.prog 74 #[.pointer (some ⟨r, 0, none⟩), .int .i64 i, .int .i64 j] w fun e w' => e = .returned (.tuple #[]) ∧ Stage F0 W0 (rowP r bm v d (swapL l i j) (swapF l f i j) n ++ q) w' := by
  have h1 := sat_st h i
  have h2 := sat_st h j
  rw [atD_nat hi] at h1
  rw [atD_nat hj] at h2
  obtain ⟨g, cp, rfl, hc1, hc2, hg, hcell, hfree⟩ := rowP_row h (by omega)
  have k1 := h.cell 0 rfl (o := 1) rfl
  have u0 := hcell i hi
  have u1 := hcell j hj
  have f0 := hfree i
  have f1 := hfree j
  obtain ⟨w1, hw1, hs1⟩ : ∃ w1, ((w.setCell ⟨g, i, none⟩ (.int .i64 (rat l j))).setCell ⟨g, j, none⟩ (.int .i64 (rat l i))).drew = w1 ∧ Stage F0 W0 (rowP r bm (.slice (some ⟨g, 0, none⟩) l.length cp) d (swapL l i j) f n ++ q) w1 := by
    refine ⟨_, rfl, ?_⟩
    have hs := ((h.storeRow 1 rfl i (.int .i64 (rat l j)) (intC_set l i _)).storeRow 1 rfl j (.int .i64 (rat l i)) (intC_set _ j _)).drew
    unfold rowP
    rw [swap_len]
    exact hs
  obtain ⟨z, u2⟩ : ∃ z, (w.setCell ⟨g, i, none⟩ (.int .i64 (rat l j))).cell? ⟨g, j, none⟩ = some (.int .i64 z) := by
    have hs := h.storeRow 1 rfl i (.int .i64 (rat l j)) (intC_set l i _)
    have hl : (l.set i (rat l j)).length = l.length := List.length_set
    have hs' : Stage F0 W0 (rowP r bm (.slice (some ⟨g, 0, none⟩) l.length cp) d (l.set i (rat l j)) f n ++ q) (w.setCell ⟨g, i, none⟩ (.int .i64 (rat l j))) := by unfold rowP; rw [hl]; exact hs
    obtain ⟨g2, cp2, hv2, _, _, _, hcell2, _⟩ := rowP_row hs' (by omega)
    rw [hl] at hv2
    cases hv2
    exact ⟨_, hcell2 j (by omega)⟩
  have k2 := hs1.cell 0 rfl (o := 2) rfl
  have hjr : inInt (j : Int) := by unfold inInt; omega
  have hir : inInt (i : Int) := by unfold inInt; omega
  obtain ⟨va, sa, w2, e1, e2, hs2⟩ := hs1.drew.entryZ 2 rfl Try.underlying38 Try.underlying3 Try.underlying3 (szero_int _) hin (rat l i) j hxi hjr hfi
  have hfj' : (setZ f (rat l i) (some (j : Int)) (rat l j)).isSome = true := by
    unfold setZ; split
    · rfl
    · exact hfj
  obtain ⟨vb, sb, w3, e3, e4, hs3⟩ := hs2.entryZ 2 rfl Try.underlying38 Try.underlying3 Try.underlying3 (szero_int _) hin (rat l j) i hxj hir hfj'
  replace hs3 : Stage F0 W0 (rowP r bm (.slice (some ⟨g, 0, none⟩) l.length cp) d (swapL l i j) (swapF l f i j) n ++ q) w3 := hs3
  have hii : (i : Int) < l.length := by omega
  have hjj : (j : Int) < l.length := by omega
  generalize swapF l f i j = f' at *
  generalize swapL l i j = l' at *
  clear hcell hfree h hs1 hs2 hfi hfj hfj' hxi hxj
  generalize rat l i = x at *
  generalize rat l j = y at *
  generalize hn : l.length = m at *
  clear hn
  go_enter Try.func74, Try.ntmps74
  go_wp2_with fail
  refine h1.mono ?_
  rintro e w1 ⟨rfl, rfl⟩
  go_wp2_with fail
  refine h2.mono ?_
  rintro e w1 ⟨rfl, rfl⟩
  clear h1 h2
  go_wp2_with fail
  go_region
  try rw [hw1]
  clear hw1 u0 u1 u2 f0 f1 k1
  go_wp2_with fail
  go_region
  go_end0
  exact ⟨rfl, hs3⟩
end
end Go.Proofs.Ytlbbgdpdaelcdaa
