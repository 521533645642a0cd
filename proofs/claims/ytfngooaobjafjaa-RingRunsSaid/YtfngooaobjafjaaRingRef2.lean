/- What the document's functions on rings return: All. -/
import Derived.Test.YtfngooaobjafjaaRingRef
namespace Go.Proofs.Ytfngooaobjafjaa
open Go.RowKit Go.Sort

theorem all_found {R : List (List Int)} {x : Int} {j : Nat} (hj : j < R.length) (hno : ∀ i, i < j → x ∉ R.getD i []) (hx : x ∈ R.getD j []) : allR R x = allIn (R.getD j []) x := by
  have e : R.find? (fun l => l.contains x) = some (R.getD j []) := by
    rw [List.find?_eq_some_iff_getElem]
    refine ⟨by simpa using hx, j, hj, by simp [List.getD_eq_getElem?_getD, hj], fun i hi => ?_⟩
    have := hno i hi
    have hi2 : i < R.length := by omega
    simpa [List.getD_eq_getElem?_getD, hi2] using this
  unfold allR; rw [e]; rfl
theorem all_missing {R : List (List Int)} {x : Int} (hno : ∀ i, i < R.length → x ∉ R.getD i []) : allR R x = [] := by
  have e : R.find? (fun l => l.contains x) = none := by
    rw [List.find?_eq_none]
    intro l hl h
    obtain ⟨i, hi, e⟩ := List.getElem_of_mem hl
    exact hno i hi (by rw [show R.getD i [] = l by simp [List.getD_eq_getElem?_getD, hi, e]]; simpa using h)
  unfold allR; rw [e]; rfl
theorem ints_one (l : List Int) : ∀ u ∈ cellsBy intC l, u.oneCell' = true := fun u hu => by
  obtain ⟨z, rfl⟩ := intC_one u l hu; rfl
section
variable {w : World} {F : Nat → Prop} {v : Value} {R : List (List Int)}
set_option maxRecDepth 100000 in
set_option maxHeartbeats 2000000 in
theorem rAll (hlen : ∀ l ∈ R, l.length ≤ 65536) (h : DocL w F v R) (x : Int) :
    Calls Try.prog 14 #[v, .int .i64 x] w fun e w' => ∃ u, e = .returned u ∧ Stage (fun _ => False) w [Ob.ints u (allR R x)] w' := by
  obtain ⟨a, c, rfl, hc1, hc2⟩ := h.form
  have hf := fun (j : Nat) (hj : j < R.length) (hno : ∀ i, i < j → x ∉ R.getD i []) (hx : x ∈ R.getD j []) => all_found hj hno hx
  have hm := fun (hno : ∀ i, i < R.length → x ∉ R.getD i []) => all_missing hno
  have hA := fun (j : Nat) (hj : j < R.length) => h.at' hj
  have hL := fun (j : Nat) (hj : j < R.length) => hlen (R.getD j []) (by simp [List.getD_eq_getElem?_getD, hj])
  clear h hlen
  generalize allR R x = AA at *
  generalize hmm : R.length = m at *
  clear hmm
  go_enter Try.func14, Try.ntmps14
  go_wp2_with fail
  go_loopw [11] (fun i wr => ∃ j : Nat, i = .int .i64 j ∧ j ≤ m ∧ (∀ i, i < j → x ∉ R.getD i []) ∧ w = wr) (fun i _ => m - (intOf i).toNat)
  case atStart => exact ⟨0, rfl, Nat.zero_le _, fun i hi => absurd hi (Nat.not_lt_zero _), rfl⟩
  case round =>
    obtain ⟨j, rfl, hj, hno, rfl⟩ := hrel
    by_cases hjm : j < m
    · have hji : (j : Int) < m := by omega
      obtain ⟨g, c', u, e1, u0, hI⟩ := hA j hjm
      cases e1
      have hf' := hf j hjm hno
      have hL' := hL j hjm
      have hstep : x ∉ R.getD j [] → ∀ i, i < j + 1 → x ∉ R.getD i [] := fun h i hi => by
        by_cases e2 : i = j
        · rw [e2]; exact h
        · exact hno i (by omega)
      obtain ⟨ka, kc, hu, hk1, hk2, _⟩ := hI.form
      rw [hu] at u0 hI
      clear hf hm hA hL hno hu
      generalize R.getD j [] = l at *
      have hD := fun (k : Nat) (hk : k < l.length) => hI.drop hk
      have hD' := fun (w' : World) (hb : Below w.heap.size w w') (k : Nat) (hk : k < l.length) => (hI.later hb).drop hk
      clear hI
      go_wp2_with fail
      go_loopw [17] (fun i wr => ∃ k : Nat, i = .int .i64 k ∧ k ≤ l.length ∧ (∀ i, i < k → l.getD i 0 ≠ x) ∧ w = wr) (fun i _ => l.length - (intOf i).toNat)
      case atStart => exact ⟨0, rfl, Nat.zero_le _, fun i hi => absurd hi (Nat.not_lt_zero _), rfl⟩
      case round =>
        obtain ⟨k, rfl, hk, hno, rfl⟩ := hrel
        by_cases hkn : k < l.length
        · have hki : (k : Int) < l.length := by omega
          obtain ⟨g2, o, c2, e2, h21, h22, hcell, hrd, hrt⟩ := hD k hkn
          cases e2
          have u1 := hcell k hkn
          by_cases e : l.getD k 0 = x
          · obtain ⟨hx, hidx⟩ := idx_first hkn e hno
            have hAA := hf' hx
            unfold allIn at hAA
            rw [hidx] at hAA
            rw [e] at u1
            have hRd : ∀ w', Below w.heap.size w w' → RowReads w' 1 (.slice (some ⟨g2, o + k, none⟩) (l.length - k) (kc - k)) (l.length - k) (cellsBy intC (l.drop k)) := fun w' hb => by
              obtain ⟨_, _, _, e2, _, _, _, h9, _⟩ := hD' w' hb k hkn
              cases e2; exact h9
            have hRt : ∀ w', Below w.heap.size w w' → RowReads w' 1 (.slice (some ⟨g2, o, none⟩) k kc) k (cellsBy intC (l.take k)) := fun w' hb => by
              obtain ⟨_, _, _, e2, _, _, _, _, h9⟩ := hD' w' hb k hkn
              cases e2; exact h9
            have hsA : Stage (fun _ => False) w [Ob.row 0 3 1 (.slice (some ⟨w.heap.size, 0, none⟩) 0 0) 0 []] (w.alloc (.cells #[] 3)).drew := ((Stage.start w).emptyRow' 3 1 rfl).drew
            have hfin : ∀ u w', Stage (fun _ => False) w [Ob.row 0 3 1 u (l.length - k + k) (cellsBy intC (l.drop k) ++ cellsBy intC (l.take k))] w' → Stage (fun _ => False) w [Ob.ints u AA] w' := fun u w' h => by
              rw [hAA]
              unfold Ob.ints
              rw [cellsBy_append, List.length_append, List.length_drop, List.length_take, Nat.min_eq_left (by omega)]
              exact h
            have hck : ¬ kc = k := by omega
            have hlk : l.length - k ≤ 65536 := by omega
            have hl9 : l.length ≤ 65536 := hL'
            have hnn : (k : Int) ≤ (kc : Int) := by omega
            clear hD hD' hf' hstep hno hidx hx hcell e hrd hrt hAA hL'
            generalize hd1 : cellsBy intC (l.drop k) = dr at *
            have ho1 : ∀ u ∈ dr, u.oneCell' = true := by rw [← hd1]; exact ints_one _
            clear hd1
            generalize hd2 : cellsBy intC (l.take k) = tk at *
            have ho2 : ∀ u ∈ tk, u.oneCell' = true := by rw [← hd2]; exact ints_one _
            clear hd2
            generalize l.length = ll at *
            go_wp2_with fail
            go_region_held3 (fun _ => True) (trivial)
              (first
              | ((refine Stage.step_append (v := .slice (some ⟨w.heap.size, 0, none⟩) 0 0) (n := 0) (xs := []) (l := [_]) (by exact hsA.same rfl rfl rfl rfl) 0 rfl rfl (.tmp 25) (.tmp 28) 30 rfl (.int .i64 0) 8 Try.underlying30 sinfo_int rfl (by decide) (Nat.zero_le _) rfl _ (ll - k) dr rfl (hRd _ (by exact hsA.below)) ho1 (by unfold maxLen; omega) (by omega) ?_); intro v1 w6 hs6 hl6; rw [Nat.zero_add, List.nil_append] at hs6; have hb6 := hs6.below)
              | ((refine Stage.step_append (v := v1) (n := ll - k) (xs := dr) (l := [_]) (by exact hs6.same rfl rfl rfl rfl) 0 rfl rfl (.tmp 29) (.tmp 32) 30 rfl (.int .i64 0) 8 Try.underlying30 sinfo_int rfl (by decide) (Nat.zero_le _) rfl _ k tk rfl (hRt _ (by exact hb6)) ho2 (by unfold maxLen; omega) (by omega) ?_); intro v2 w7 hs7 hl7))
            all_goals
              have hs8 := hfin _ _ hs7
              clear hs6 hs7 hsA hRd hRt hfin
              go_wp2_with fail
              go_ret
              exact ⟨_, rfl, hs8⟩
          · have e' : (l.getD k 0 == x) = false := by simpa using e
            have hno2 : ∀ i, i < k + 1 → l.getD i 0 ≠ x := fun i hi => by
              by_cases e2 : i = k
              · rw [e2]; exact e
              · exact hno i (by omega)
            clear hD hD' hf' hstep hno hcell hrd hrt
            generalize l.getD k 0 = y at *
            go_wp2_with fail
            go_roundw
            case rel => exact ⟨k + 1, by go_num, by omega, hno2, trivial⟩
            case measure => simp [intOf]; omega
        · obtain rfl : k = l.length := by omega
          have hno3 := hstep (not_all hno)
          clear hD hD' hf' hstep hno
          go_wp2_with fail
          go_roundw
          case rel => exact ⟨j + 1, by go_num, by omega, hno3, trivial⟩
          case measure => simp [intOf]; omega
    · obtain rfl : j = m := by omega
      have hA0 := hm hno
      clear hf hm hA hL hno
      have hs := (Stage.start w).nilRow 0 3 1
      subst hA0
      go_wp2_with fail
      go_ret
      exact ⟨_, rfl, hs⟩
end
end Go.Proofs.Ytfngooaobjafjaa
