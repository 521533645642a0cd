/- The statements' first walk, and CellsNew's: the call returns true, in every memory; of what was in memory nothing is changed. -/
import Derived.Test.YtdipahkgfkoamaaCells5
namespace Go.Proofs.Ytdipahkgfkoamaa
open Go.RowKit Go.Sort

namespace Stage
variable {W w : World} {l : List Ob} {F0 : Nat → Prop}
theorem newCells (h : Stage F0 W l w) (n : Nat) (hn : n ≤ 65536) : Calls Try.prog 7 #[.int .i64 n] w fun e w' => ∃ p, e = .returned (.tuple #[.pointer (some ⟨p, 0, none⟩), .int .i64 0]) ∧ Stage F0 W (l ++ [Ob.cells p (newW n) 0]) w' :=
  (new_cl n hn w).mono fun _ _ ⟨p, he, _, h1, h2, h3⟩ => ⟨p, he, h.add h3 h1 h2⟩
end Stage

theorem alive_any (w : World) : Calls Try.prog 6 #[] w fun e w' => e = .returned (.bool true) ∧ Below w.heap.size w w' := by
  go_enter Try.func6, Try.ntmps6
  go_wp2_with fail
  refine ((Stage.start w).newCells 2 (by omega)).mono ?_
  rintro e w1 ⟨p, rfl, hs⟩
  go_wp2_with fail
  refine (hs.call 0 rfl (fun _ ho => make_cl ho)).mono ?_
  rintro e w1 ⟨rfl, hs⟩
  rw [show madeW (newW 2) = 1 from rfl]
  go_wp2_with fail
  refine (hs.call 0 rfl (fun _ ho => put_cl 1 0 3 0 ho)).mono ?_
  rintro e w1 ⟨rfl, hs⟩
  rw [show putB (makeW (newW 2)) 1 0 = true from rfl]
  go_wp2_with fail
  refine (hs.call 0 rfl (fun _ ho => put_cl 1 1 3 0 ho)).mono ?_
  rintro e w1 ⟨rfl, hs⟩
  rw [show putB (putW (makeW (newW 2)) 1 0 3 0) 1 1 = true from rfl]
  obtain ⟨Q, hQ⟩ : ∃ Q, Q = putW (putW (makeW (newW 2)) 1 0 3 0) 1 1 3 0 := ⟨_, rfl⟩
  have q1 : aheadW Q 0 1 = true := by rw [hQ]; rfl
  have q2 : aheadW Q 1 0 = false := by rw [hQ]; rfl
  have q3 : aheadS Q (aheadS Q 0 0 1) 1 0 = 2 := by rw [hQ]; rfl
  have q4 : lenW Q 1 = 2 := by rw [hQ]; rfl
  simp only [List.nil_append, List.set_cons_zero, ← hQ] at hs
  clear hQ
  go_wp2_with fail
  refine (hs.call 0 rfl (fun _ ho => ahead_cl 0 1 ho)).mono ?_
  rintro e w1 ⟨rfl, hs⟩
  rw [q1]
  go_wp2_with fail
  refine (hs.call 0 rfl (fun _ ho => ahead_cl 1 0 ho)).mono ?_
  rintro e w1 ⟨rfl, hs⟩
  rw [q2]
  go_wp2_with fail
  refine (hs.ask 0 rfl (fun _ ho => steps_cl ho)).mono ?_
  rintro e w1 ⟨rfl, rfl⟩
  rw [q3]
  go_wp2_with fail
  refine (hs.ask 0 rfl (fun _ ho => len_cl 1 (by omega) ho)).mono ?_
  rintro e w1 ⟨rfl, rfl⟩
  rw [q4]
  go_wp2_with fail
  go_ret
  exact ⟨rfl, hs.below⟩
theorem new_walk (n : Int) (w : World) : Calls Try.prog 3 #[.int .i64 n] w fun e w' => e = .returned (.bool true) ∧ Below w.heap.size w w' := by
  by_cases hn : 0 ≤ n ∧ n ≤ 65536
  · obtain ⟨k, rfl⟩ : ∃ k : Nat, n = k := ⟨n.toNat, by omega⟩
    have hk : k ≤ 65536 := by omega
    clear hn
    have q1 : hasW (newW k) 1 = false := rfl
    have q2 : lenW (newW k) 1 = 0 := len_none (new_fitW hk) q1
    have q3 : putB (newW k) 1 0 = false := by simp [putB, q1]
    have q4 : (newW k).cells.length = k := by simp [newW]
    go_enter Try.func3, Try.ntmps3
    go_wp2_with fail
    refine (alive_any w).mono ?_
    rintro e w1 ⟨rfl, hb⟩
    go_wp2_with fail
    refine (((Stage.start w).later hb).newCells k hk).mono ?_
    rintro e w2 ⟨p, rfl, hs⟩
    simp only [List.nil_append] at hs
    go_wp2_with fail
    refine (hs.ask 0 rfl (fun _ ho => capacity_cl ho)).mono ?_
    rintro e w3 ⟨rfl, rfl⟩
    rw [q4]
    go_wp2_with fail
    refine (hs.ask 0 rfl (fun _ ho => has_cl 1 ho)).mono ?_
    rintro e w3 ⟨rfl, rfl⟩
    rw [q1]
    go_wp2_with fail
    refine (hs.ask 0 rfl (fun _ ho => len_cl 1 (by omega) ho)).mono ?_
    rintro e w3 ⟨rfl, rfl⟩
    rw [q2]
    go_wp2_with fail
    refine (hs.ask 0 rfl (fun _ ho => steps_cl ho)).mono ?_
    rintro e w3 ⟨rfl, rfl⟩
    go_wp2_with fail
    refine (hs.call 0 rfl (fun _ ho => put_cl 1 0 0 0 ho)).mono ?_
    rintro e w3 ⟨rfl, hs⟩
    rw [q3]
    go_wp2_with fail
    go_ret
    exact ⟨rfl, hs.below⟩
  · have hN := fun w => new_no n w hn
    have hc : n < 0 ∨ 65536 < n := by omega
    clear hn
    go_enter Try.func3, Try.ntmps3
    go_wp2_with fail
    refine (alive_any w).mono ?_
    rintro e w1 ⟨rfl, hb⟩
    go_wp2_with fail
    refine (hN _).mono ?_
    rintro e w2 ⟨rfl, rfl⟩
    rcases hc with hc | hc
    · go_wp2_with fail
      go_ret
      exact ⟨rfl, hb⟩
    · have hc0 : ¬ n < 0 := by omega
      go_wp2_with fail
      go_ret
      exact ⟨rfl, hb⟩
end Go.Proofs.Ytdipahkgfkoamaa
