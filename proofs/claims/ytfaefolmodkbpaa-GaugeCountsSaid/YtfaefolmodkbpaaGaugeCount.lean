/- The meter's Count and Steps, the document's Add, and the statement GaugeCounts, walked: for every list the call returns true, in every memory; of what was in memory nothing is changed. -/
import Derived.Test.YtfaefolmodkbpaaGaugeLaws
namespace Go.Proofs.Ytfaefolmodkbpaa
open Go.RowKit Go.Sort

theorem add_any (s n : Int) (hs : 0 ≤ s ∧ s ≤ 4611686018427387904) (w : World) :
    Calls Try.prog 22 #[.int .i64 s, .int .i64 n] w fun e w' => e = .returned (.int .i64 (addI s n)) ∧ w = w' := by
  have HA : Hid (addI s n = if n ≤ 0 then s else if 4611686018427387904 - s ≤ n then 4611686018427387904 else s + n) := Lib.hid rfl
  obtain ⟨hs0, hs1⟩ := hs
  go_enter Try.func22, Try.ntmps22
  go_wp2
  all_goals
    go_ret
    exact ⟨ret_int (by rw [HA.out]; clear HA; repeat' split
                       all_goals omega), rfl⟩

theorem steps_any (b o : Nat) (s : Int) (w : World) (hc : w.cell? ⟨b, o, none⟩ = some (.int .i64 s)) :
    Calls Try.prog 23 #[.pointer (some ⟨b, o, none⟩)] w fun e w' => e = .returned (.int .i64 s) ∧ w = w' := by
  go_enter Try.func23, Try.ntmps23
  go_wp2
  go_ret
  exact ⟨rfl, rfl⟩

theorem count_any (b o : Nat) (s n : Int) (hs : 0 ≤ s ∧ s ≤ 4611686018427387904) (w : World) (hc : w.cell? ⟨b, o, none⟩ = some (.int .i64 s)) (hf : w.frozen? ⟨b, o, none⟩ = false) :
    Calls Try.prog 21 #[.pointer (some ⟨b, o, none⟩), .int .i64 n] w fun e w' => e = .returned (.tuple #[]) ∧ Wrote ⟨b, o, none⟩ (.int .i64 (addI s n)) w w' := by
  obtain ⟨hs0, hs1⟩ := hs
  by_cases hn : n < 0
  · have hw : Wrote ⟨b, o, none⟩ (.int .i64 (addI s n)) w w := by
      have : addI s n = s := by unfold addI; rw [if_pos (by omega)]
      rw [this]
      exact wrote_same hc
    go_enter Try.func21, Try.ntmps21
    go_wp2
    refine bodyPost_ret (results_none rfl _ _ _) rfl ?_
    exact ⟨rfl, hw⟩
  · have HA : Hid (s + min n (4611686018427387904 - s) = addI s n) := by
      have : s + min n (4611686018427387904 - s) = addI s n := by unfold addI; repeat' split
                                                                  all_goals omega
      exact Lib.hid this
    go_enter Try.func21, Try.ntmps21
    go_wp2
    go_region
    go_end0
    exact ⟨rfl, by rw [← HA.out]; exact ⟨rfl, rfl, rfl, rfl⟩⟩

/-- The document's count of a list. -/
def countL (l : List Int) : Int := l.foldl addI 0
theorem countL_range (l : List Int) : 0 ≤ countL l ∧ countL l ≤ 4611686018427387904 := by
  unfold countL
  suffices h : ∀ (l : List Int) (s : Int), (0 ≤ s ∧ s ≤ 4611686018427387904) → 0 ≤ l.foldl addI s ∧ l.foldl addI s ≤ 4611686018427387904 from h l 0 (by omega)
  intro l
  induction l with
  | nil => intro s h; exact h
  | cons x r ih => intro s h; exact ih _ (add_range h x)
theorem countL_snoc (l : List Int) (x : Int) : countL (l ++ [x]) = addI (countL l) x := by simp [countL, List.foldl_append]
theorem take_snoc' (l : List Int) (k : Nat) (h : k < l.length) : l.take (k + 1) = l.take k ++ [l.getD k 0] := by
  rw [List.take_succ_eq_append_getElem h]; simp [List.getD, h]

set_option maxHeartbeats 1000000 in
theorem counts_walk (a : Option Addr) (cap : Nat) (l : List Int) (w : World) (hlen : l.length ≤ 9223372036854775807)
    (hc : ∀ k, k < l.length → ∃ b off, a = some ⟨b, off, none⟩ ∧ w.cell? ⟨b, off + k, none⟩ = some (.int .i64 (l.getD k 0))) :
    Calls Try.prog 6 #[.slice a l.length cap] w fun e w' => e = .returned (.bool true) ∧ Below w.heap.size w w' := by
  go_enter Try.func6, Try.ntmps6
  go_wp2_with fail
  refine (alive_any _).mono ?_
  rintro e W ⟨rfl, hb⟩
  by_cases hl : 300 < l.length
  · go_wp2_with fail
    go_ret
    exact ⟨rfl, hb⟩
  · go_wp2_with fail
    go_loopw [4, 14] (fun s i wr => ∃ k : Nat, k ≤ l.length ∧ i = .int .i64 k ∧ s = .int .i64 (countL (l.take k)) ∧ wr.cell? ⟨W.heap.size, 0, none⟩ = some (.int .i64 (countL (l.take k))) ∧ wr.frozen? ⟨W.heap.size, 0, none⟩ = false ∧ Below W.heap.size W wr) (fun _ i _ => l.length - (intOf i).toNat)
    case atStart =>
      exact ⟨0, Nat.zero_le _, rfl, rfl, by go_simp; rfl, by go_simp, (Below.refl _ _).alloc (Nat.le_refl _) _⟩
    case round =>
      obtain ⟨k, hk, rfl, rfl, c1, f1, hbr⟩ := hrel
      have hr := countL_range (l.take k)
      by_cases hlt : k < l.length
      · obtain ⟨b, off, rfl, hcell⟩ := hc k hlt
        replace hcell := later hbr (later hb hcell)
        have hn : Hid (countL (l.take (k + 1)) = addI (countL (l.take k)) (l.getD k 0)) := by rw [take_snoc' l k hlt, countL_snoc]; exact Lib.hid rfl
        have hr2 := add_range hr (l.getD k 0)
        generalize countL (l.take k) = s at *
        generalize l.getD k 0 = x at *
        go_wp2_with fail
        refine (count_any _ _ s x hr _ c1 f1).mono ?_
        rintro e w2 ⟨rfl, hw⟩
        have c2 := hw.self c1
        have f2 : w2.frozen? ⟨W.heap.size, 0, none⟩ = false := by rw [World.frozen?_of_block (w := wr.setCell ⟨W.heap.size, 0, none⟩ (.int .i64 (addI s x))) (by rw [hw.heap])]; simpa using f1
        have hb2 : Below W.heap.size W w2 := hbr.trans (hw.keeps.below hbr.size (fun j hj => by simp at hj; omega))
        clear hw
        have ca := add_any s x hr w2
        replace hcell := True.intro
        generalize addI s x = y at *
        go_wp2_with fail
        refine ca.mono ?_
        rintro e w3 ⟨rfl, rfl⟩
        go_wp2_with fail
        refine (steps_any _ _ _ _ c2).mono ?_
        rintro e w3 ⟨rfl, rfl⟩
        go_wp2_with fail
        go_roundw
        case rel => exact ⟨k + 1, by omega, by go_num, by rw [hn.out], by rw [hn.out]; exact c2, f2, hb2⟩
        case measure => simp [intOf]; omega
      · have hk' : k = l.length := by omega
        subst hk'
        go_wp2_with fail
        refine (steps_any _ _ _ _ c1).mono ?_
        rintro e w3 ⟨rfl, rfl⟩
        go_wp2_with fail
        go_ret
        exact ⟨ret_bool (by simp), below_chain hb hbr⟩
end Go.Proofs.Ytfaefolmodkbpaa
