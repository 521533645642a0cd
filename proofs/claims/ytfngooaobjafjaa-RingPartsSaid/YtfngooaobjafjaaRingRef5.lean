/- What the document's functions on rings return: New. -/
import Derived.Test.YtfngooaobjafjaaRingRef4
namespace Go.Proofs.Ytfngooaobjafjaa
open Go.RowKit Go.Sort

/-- The first rings. -/
def newR (n : Nat) : List (List Int) := (List.range n).map fun i : Nat => [(i : Int)]
theorem newR_succ (n : Nat) : newR (n + 1) = newR n ++ [[(n : Int)]] := by unfold newR; rw [List.range_succ, List.map_append]; rfl
theorem outer_one {v : Value} {Z : List (Value × List Int)} {u : Value} {s : List Int} {F0 : Nat → Prop} {W w : World} {l : List Ob} (h : Stage F0 W (Ob.row 0 30 1 v (Z.length + 1) (Z.map Prod.fst ++ [u]) :: l) w) : Stage F0 W (Ob.outer v (Z ++ [(u, s)]) :: l) w := by
  unfold Ob.outer
  rw [List.length_append, List.map_append]
  exact h
section
variable {w : World}
set_option maxRecDepth 100000 in
set_option maxHeartbeats 2000000 in
theorem rNew (n : Nat) (hn : n ≤ 65536) :
    Calls Try.prog 21 #[.int .i64 n] w fun e w' => ∃ u F', e = .returned u ∧ (Ob.docL u (newR n)).holds w' F' ∧ Moved (fun _ => False) F' w w' := by
  have hs0 : Stage (fun _ => False) w [Ob.outer (.slice (some ⟨w.heap.size, 0, none⟩) 0 0) [], Ob.rowsAre [] (newR 0)] (w.alloc (.cells #[] 30)) := ((Stage.start w).emptyRow' 30 1 rfl).rowsNone
  go_enter Try.func21, Try.ntmps21
  go_wp2_with fail
  go_loopw [3, 4] (fun out i wr => ∃ (j : Nat) (Z : List (Value × List Int)), i = .int .i64 j ∧ j ≤ n ∧ Z.length = j ∧ Stage (fun _ => False) w [Ob.outer out Z, Ob.rowsAre Z (newR j)] wr) (fun _ i _ => n - (intOf i).toNat)
  case atStart => exact ⟨0, [], rfl, Nat.zero_le _, rfl, hs0⟩
  case round =>
    clear hs0
    obtain ⟨j, Z, rfl, hj, hZ, hs⟩ := hrel
    by_cases hjm : j < n
    · have hji : (j : Int) < n := by omega
      obtain ⟨_, co, eo, _, _⟩ := owns_form (hs.owns 0 rfl)
      rw [eo] at hs
      subst eo
      have hsA : Stage (fun _ => False) w [Ob.row 0 30 1 (.slice _ Z.length co) Z.length (Z.map Prod.fst), Ob.rowsAre (Z ++ [(.slice (some ⟨wr.heap.size, 0, none⟩) 1 1, [(j : Int)])]) (newR j ++ [[(j : Int)]])] (wr.alloc (.cells #[.int .i64 j] 3)) :=
        Stage.rowsAdd (l := [_]) (hs.newRow' 3 1 1 #[.int .i64 j] rfl (by decide) rfl)
      rw [← newR_succ] at hsA
      have hone : (Value.slice (some ⟨wr.heap.size, 0, none⟩) 1 1).oneCell' = true := rfl
      clear hs
      have hnx := fun (v' : Value) (w' : World) (h : Stage (fun _ => False) w [Ob.row 0 30 1 v' (Z.length + 1) (Z.map Prod.fst ++ [.slice (some ⟨wr.heap.size, 0, none⟩) 1 1]), Ob.rowsAre (Z ++ [(.slice (some ⟨wr.heap.size, 0, none⟩) 1 1, [(j : Int)])]) (newR (j + 1))] w') => outer_one (s := [(j : Int)]) h
      go_wp2_with (at_builtin; refine hsA.wp_appendOne (u := .slice (some ⟨wr.heap.size, 0, none⟩) 1 1) 0 rfl (by exact size_alloc _ _) rfl _ _ 34 rfl Try.underlying34 info_ints rfl rfl rfl rfl (by unfold maxLen; omega) (by omega) ?_)
      intro v2 w2 hs2
      have hs3 := hnx v2 w2 (by rw [hZ]; exact hs2)
      clear hsA hs2 hnx
      go_wp2_with fail
      go_roundw
      case rel => exact ⟨j + 1, _, by go_num, by omega, by simp [hZ], hs3⟩
      case measure => simp [intOf]; omega
    · obtain rfl : j = n := by omega
      have hd := doc_close (Z := []) (R := []) (F := fun _ => False) (w := w) ⟨rfl, fun p hp => by simp at hp⟩ (fun _ h => h.elim) hs
      obtain ⟨F', h1, h2⟩ := hd
      clear hs
      go_wp2_with fail
      go_ret
      exact ⟨_, F', rfl, h1, h2⟩
end
end Go.Proofs.Ytfngooaobjafjaa
