/- A row of things: what it is in memory; how it is looked at. -/
import Derived.Test.YtokpngmfmkfmeaaSiftNum
import Derived.Test.YtokpngmfmkfmeaaZMapEntry
import Derived.Test.YtokpngmfmkfmeaaStageAppend
import Derived.Test.YtokpngmfmkfmeaaStageFrame
import Derived.Test.YtokpngmfmkfmeaaAsks
import Derived.BigRegion
import Derived.StillTailTactics
namespace Go.Proofs.Ytokpngmfmkfmeaa
open Go.RowKit Go.Sort

def intC (x : Int) : List Value := [.int .i64 x]
theorem intC_len : ∀ x, (intC x).length = 1 := fun _ => rfl
theorem intC_set (l : List Int) (i : Nat) (x : Int) : (cellsBy intC l).set i (.int .i64 x) = cellsBy intC (l.set i x) := by
  have e : ∀ m : List Int, cellsBy intC m = m.map fun x : Int => Value.int .i64 x := fun m => by
    induction m with
    | nil => rfl
    | cons a r ih => rw [cellsBy_cons, ih]; rfl
  rw [e, e, List.map_set]
theorem intC_one (u : Value) (l : List Int) (h : u ∈ cellsBy intC l) : ∃ x, u = .int .i64 x := by
  simp only [cellsBy, List.mem_flatMap, intC, List.mem_singleton] at h
  obtain ⟨x, _, rfl⟩ := h
  exact ⟨x, rfl⟩
theorem owns_short {w : World} {base : Nat} {e : TypeId} {size g n cap m : Nat} {xs : List Value} (h : w.ownsRow base e size (.slice (some ⟨g, 0, none⟩) n cap) n xs) (hm : m ≤ n) : w.ownsRow base e size (.slice (some ⟨g, 0, none⟩) m cap) m (xs.take (m * size)) := by
  obtain ⟨h1, ⟨h2, _⟩ | ⟨g', cap', cur, hv, hg, hh, hle, hmax, hs, hx⟩⟩ := h
  · cases h2
  · injection hv with e1 e2 e3
    injection e1 with e1
    injection e1 with e1
    subst e1 e3
    have hms : m * size ≤ n * size := Nat.mul_le_mul_right _ hm
    refine ⟨by rw [List.length_take, h1]; omega, Or.inr ⟨_, _, cur, rfl, hg, hh, Nat.le_trans hm hle, hmax, hs, ?_⟩⟩
    rw [← hx, List.take_take, Nat.min_eq_left hms]
/-- A row at r: its things, and where they are told to be. -/
def rowP (r bm : Nat) (v : Value) (d : Nat) (l : List Int) (f : Int → Option Int) (n : Nat) : List Ob :=
  [Ob.box r #[.int .i64 d, v, .map (some bm)] 54, Ob.row 0 3 1 v l.length (cellsBy intC l), Ob.zmap Try.prog 3 3 bm f n]
def atD (l : List Int) (i : Int) : Int × Bool := if 0 ≤ i ∧ i < l.length then (rat l i.toNat, true) else (0, false)
theorem atD_nat {l : List Int} {i : Nat} (h : i < l.length) : atD l i = (rat l i, true) := by
  unfold atD; rw [if_pos (by omega)]; simp
theorem atD_not {l : List Int} {i : Int} (h : ¬ (0 ≤ i ∧ i < l.length)) : atD l i = (0, false) := by
  unfold atD; rw [if_neg h]
theorem info_int : (Try.prog.info? 3).map (fun i => (i.zero, i.size, i.bytes)) = some (some (.int .i64 0), 1, 8) := by kernel_rfl
theorem zero_int (w : World) : (zeroValue 3).run Try.prog w = .ok (.int .i64 0) w := by kernel_rfl
section
variable {F0 : Nat → Prop} {W0 w : World} {r bm : Nat} {v : Value} {d : Nat} {l : List Int} {f : Int → Option Int} {n : Nat} {q : List Ob}
theorem rowP_form (h : Stage F0 W0 (rowP r bm v d l f n ++ q) w) : ∃ a cp, v = .slice a l.length cp ∧ l.length ≤ cp ∧ cp ≤ 9223372036854775807 := by
  obtain ⟨a, cp, h1, h2, h3⟩ := owns_form (h.owns 1 rfl)
  exact ⟨a, cp, h1, h2, by unfold maxLen at h3; omega⟩
theorem rowP_row (h : Stage F0 W0 (rowP r bm v d l f n ++ q) w) (hn : 0 < l.length) : ∃ g cp, v = .slice (some ⟨g, 0, none⟩) l.length cp ∧ l.length ≤ cp ∧ cp ≤ 9223372036854775807 ∧ g < w.heap.size ∧ (∀ i, i < l.length → w.cell? ⟨g, i, none⟩ = some (.int .i64 (rat l i))) ∧ ∀ o, w.frozen? ⟨g, o, none⟩ = false := by
  obtain ⟨g, cp, hv, h1, h2, _, h4, hc, hf⟩ := owns_at intC_len 0 (h.owns 1 rfl) rfl hn
  refine ⟨g, cp, hv, h1, by unfold maxLen at h2; omega, h4, fun i hi => ?_, hf⟩
  have := hc i 0 _ hi (by omega) rfl
  rw [Nat.mul_one, Nat.add_zero] at this
  exact this
theorem slen_st (h : Stage F0 W0 (rowP r bm v d l f n ++ q) w) : Calls Try.prog 23 #[.pointer (some ⟨r, 0, none⟩)] w fun e w' => e = .returned (.int .i64 l.length) ∧ w = w' := by
  obtain ⟨a, cp, rfl, _, _⟩ := rowP_form h
  have k1 := h.cell 0 rfl (o := 1) rfl
  generalize l.length = n at *
  go_enter Try.func23, Try.ntmps23
  go_wp2_with fail
  go_ret
  exact ⟨rfl, rfl⟩
set_option maxRecDepth 100000 in
theorem at_st (h : Stage F0 W0 (rowP r bm v d l f n ++ q) w) (i : Int) : Calls Try.prog 24 #[.pointer (some ⟨r, 0, none⟩), .int .i64 i] w fun e w' => e = .returned (.tuple #[.int .i64 (atD l i).1, .bool (atD l i).2]) ∧ w = w' := by
  have k1 := h.cell 0 rfl (o := 1) rfl
  by_cases h0 : i < 0
  · rw [atD_not (by omega)]
    obtain ⟨a, cp, rfl, _, _⟩ := rowP_form h
    clear h
    go_enter Try.func24, Try.ntmps24
    go_wp2_with fail
    go_ret2
    exact ⟨rfl, rfl⟩
  by_cases h1 : i < l.length
  · obtain ⟨m, rfl⟩ : ∃ m : Nat, i = m := ⟨i.toNat, by omega⟩
    have hm : m < l.length := by omega
    rw [atD_nat hm]
    obtain ⟨g, cp, rfl, hc1, hc2, hg, hcell, _⟩ := rowP_row h (by omega)
    have u0 := hcell m hm
    have h2 : ¬ ((l.length : Int) ≤ m) := by omega
    generalize rat l m = x at *
    generalize l.length = n at *
    clear h hcell
    go_enter Try.func24, Try.ntmps24
    go_wp2_with fail
    go_ret2
    exact ⟨rfl, rfl⟩
  · rw [atD_not (by omega)]
    obtain ⟨a, cp, rfl, _, _⟩ := rowP_form h
    have h2 : (l.length : Int) ≤ i := by omega
    generalize l.length = n at *
    clear h
    go_enter Try.func24, Try.ntmps24
    go_wp2_with fail
    go_ret2
    exact ⟨rfl, rfl⟩
theorem place_st (h : Stage F0 W0 (rowP r bm v d l f n ++ q) w) (x : Int) (hx : inInt x) : Calls Try.prog 21 #[.pointer (some ⟨r, 0, none⟩), .int .i64 x] w fun e w' => e = .returned (.tuple #[.int .i64 ((f x).getD 0), .bool (f x).isSome]) ∧ w = w' := by
  have k2 := h.cell 0 rfl (o := 2) rfl
  have hL := h.lookOkZ 2 rfl Try.underlying52 Try.underlying3 Try.underlying3 (zero_int w) x hx
  generalize (f x).getD 0 = y at *
  generalize (f x).isSome = B at *
  go_enter Try.func21, Try.ntmps21
  go_wp2_with fail
  go_ret2
  exact ⟨rfl, rfl⟩
end
section
variable {γ : Type} {O : γ → Ob} {R : γ → γ → Prop} {ok : Int → Prop} {lt : Int → Int → Bool} {H : World → Prop} {T : TypeId} {u : Value} {fn : Fn}
variable {F0 : Nat → Prop} {W0 w : World} {r bm : Nat} {v : Value} {d : Nat} {l : List Int} {f : Int → Option Int} {n : Nat} {g : γ} {q : List Ob}
set_option maxRecDepth 100000 in
/-- 'ahead': one question. -/
theorem ahead_st (A : Asks O R ok lt H T u fn) (hs : Stage F0 W0 (rowP r bm v d l f n ++ O g :: q) w) (i j : Nat) (hi : i < l.length) (hj : j < l.length) (hoi : ok (rat l i)) (hoj : ok (rat l j)) :
    Calls Try.prog 32 #[.pointer (some ⟨r, 0, none⟩), .iface T u, .int .i64 i, .int .i64 j] w fun e w' => e = .returned (.bool (lt (rat l i) (rat l j))) ∧ ∃ g', R g g' ∧ Stage F0 W0 (rowP r bm v d l f n ++ O g' :: q) w' := by
  have h1 := at_st hs i
  have h2 := at_st hs j
  rw [atD_nat hi] at h1
  rw [atD_nat hj] at h2
  have hm := A.find hs 3 rfl
  have he := A.meth.enter
  have hA := A.stage hs 3 rfl (rat l i) (rat l j) hoi hoj
  generalize lt (rat l i) (rat l j) = B at *
  generalize rat l i = x at *
  generalize rat l j = y at *
  clear hs hoi hoj
  go_enter Try.func32, Try.ntmps32
  go_wp2_with fail
  refine h1.mono ?_
  rintro e w1 ⟨rfl, rfl⟩
  go_wp2_with fail
  refine h2.mono ?_
  rintro e w1 ⟨rfl, rfl⟩
  clear h1 h2
  go_wp2_with fail
  refine hA.mono ?_
  rintro e w1 ⟨rfl, g', hR, hs1⟩
  go_wp2_with fail
  go_ret
  exact ⟨rfl, g', hR, hs1⟩
end
end Go.Proofs.Ytokpngmfmkfmeaa
