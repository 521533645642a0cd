/- The chapter's example of layer 7, walked. -/
import Derived.Test.YtokpngmfmkfmeaaSiftAsks
import Derived.Test.YtokpngmfmkfmeaaPMap
namespace Go.Proofs.Ytokpngmfmkfmeaa
open Go.RowKit Go.Sort

theorem new_keys {F0 : Nat → Prop} {W0 w : World} {q : List Ob} (hs : Stage F0 W0 q w) : Stage F0 W0 (q ++ [Ob.keys (w.heap.size + 1) w.heap.size (fun _ => none) 0 0]) ((w.alloc (.map #[] 0)).alloc (.cells #[.map (some w.heap.size), .int .i64 0] 37)) := by
  have h1 := hs.newZMap Try.prog 3 2 rfl
  have h2 := h1.alloc' #[.map (some w.heap.size), .int .i64 0] 37 (b := w.heap.size + 1) (size_alloc _ _)
  rw [List.append_assoc] at h2
  exact (Stage.swapAt (a := q) (b := []) h2).regroup
theorem pair_31 {l : List Int} (hp : l.Perm [3, 1]) (H : Heap 2 (ltK (keyOfF fun _ => none)) l) : l = [1, 3] := by
  have hl := hp.length_eq
  match l, hl with
  | [a, b], _ =>
    have h1 := H 1 (by omega) (by simp)
    have ha : a = 3 ∨ a = 1 := by have := hp.mem_iff.1 (List.mem_cons_self (a := a)); simpa using this
    have hb : b = 3 ∨ b = 1 := by have := hp.mem_iff.1 (show b ∈ [a, b] by simp); simpa using this
    have hn := (hp.nodup_iff.2 (by decide))
    simp at hn
    rcases ha with rfl | rfl <;> rcases hb with rfl | rfl
    · exact absurd rfl hn
    · exact absurd h1 (by decide)
    · rfl
    · exact absurd rfl hn
theorem rowIn_of {l : List Int} (h1 : l.Nodup) (h2 : ∀ x ∈ l, inInt x) (h3 : l.length ≤ 1048576) : RowIn inInt l := ⟨h1, h2, h2, h3⟩
abbrev lt0 : Int → Int → Bool := ltK (keyOfF fun _ => none)
set_option maxRecDepth 100000 in
set_option maxHeartbeats 1000000 in
theorem alive_c (W : World) : Calls Try.prog 7 #[] W fun e w' => e = .returned (.bool true) ∧ Below W.heap.size W w' := by
  have hN := new_st (Stage.start W) 2 (by decide)
  have hmm := @run_makeMap Try.prog
  go_enter Try.func7, Try.ntmps7
  go_wp2_with fail
  refine hN.mono ?_
  rintro e w1 ⟨rfl, hs⟩
  clear hN
  rw [List.nil_append] at hs
  have hs1 := new_keys hs
  obtain ⟨w2, hw2⟩ : ∃ w2, (w1.alloc (.map #[] 0)).alloc (.cells #[.map (some w1.heap.size), .int .i64 0] 37) = w2 := ⟨_, rfl⟩
  rw [hw2] at hs1
  have A := keys_asks (w1.heap.size + 1) w1.heap.size (fun _ => none) 0
  generalize hpe : w1.heap.size + 1 = p at *
  generalize W.heap.size + 1 = r at *
  have h1 := add_st A (by decide) hs1 3 (rowIn_of (by decide) (by simp [inInt]) (by simp)) (strictM_keys _ _) heap_nil
  clear hs
  go_wp2_with fail
  refine h1.mono ?_
  rintro e w3 ⟨v1, l1, g1, rfl, hp1, _, _, hH1, hs3⟩
  obtain rfl : l1 = [3] := List.perm_singleton.1 hp1
  clear h1 hs1 hw2 hpe
  have h2 := add_st A (by decide) hs3 1 (rowIn_of (by decide) (by simp [inInt]) (by simp)) (strictM_keys _ _) hH1
  go_wp2_with fail
  refine h2.mono ?_
  rintro e w4 ⟨v2, l2, g2, rfl, hp2, _, _, hH2, hs4⟩
  obtain rfl := pair_31 hp2 hH2
  clear h2 hs3 hp1 hp2 hH1
  have h3 := add_st A (by decide) hs4 2 (rowIn_of (by decide) (by simp [inInt]) (by simp)) (strictM_keys _ _) hH2
  go_wp2_with fail
  refine h3.mono ?_
  rintro e w5 ⟨v3, l3, g3, rfl, _, hC3, _, _, hs5⟩
  obtain rfl : l3 = [1, 3, 2] := hC3 (by decide)
  clear h3 hs4 hC3 hH2
  have h4 := all_st hs5 (by simp)
  go_wp2_with fail
  refine h4.mono ?_
  rintro e w6 ⟨v4, rfl, hs6⟩
  clear h4 hs5
  have hb := hs6.below
  obtain ⟨g, cp, rfl, _, _, _, _, hc, _⟩ := owns_at intC_len 0 (hs6.owns 4 rfl) rfl (by simp)
  have c0 := hc 0 0 _ (by simp) (by omega) rfl
  have c1 := hc 1 0 _ (by simp) (by omega) rfl
  have c2 := hc 2 0 _ (by simp) (by omega) rfl
  simp only [Nat.zero_mul, Nat.one_mul, Nat.add_zero] at c0 c1 c2
  clear hs6 hc
  go_wp2_with fail
  go_ret
  exact ⟨rfl, hb⟩
end Go.Proofs.Ytokpngmfmkfmeaa
