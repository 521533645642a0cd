/- The document's cut: a text's pieces, in a row of its own; of what was in memory nothing is changed. -/
import Derived.Test.YtokfecbjkngpgaaDoorRec
import Derived.Test.YtokfecbjkngpgaaDoorStageFrame
import Derived.Test.YtokfecbjkngpgaaDoorStageAppend
import Derived.Test.YtokfecbjkngpgaaDoorEntryRefRead
import Derived.LoopTactic
namespace Go.Proofs.YtokfecbjkngpgaaDoor
open Go.RowKit Go.Sort Go.Lib

def strC (l : List UInt8) : List Value := [.string (bs l)]
theorem strC_one (l : List (List UInt8)) : ∀ u ∈ cellsBy strC l, u.oneCell' = true := by
  intro u hu
  obtain ⟨x, _, hx⟩ := List.mem_flatMap.1 hu
  simp only [strC, List.mem_cons, List.not_mem_nil, or_false] at hx
  subst hx; rfl
theorem info_str : (Tryd.prog.info? 9).map (fun i => (i.zero, i.size, i.bytes)) = some (some (.string noS), 1, 16) := by kernel_rfl
namespace Stage
/-- A text more. -/
theorem wp_appendStr {F0 : Nat → Prop} {W w : World} {l : List Ob} {E : List (List UInt8)} {v : Value} {ops : Array Oper} {rest : List Oper} {o : Oper} {a : Act} {Q : Exit → Act → World → Prop} (hs : Stage F0 W l w) (i : Nat) (hi : l[i]? = some (Ob.row 0 9 1 v E.length (cellsBy strC E))) (hgd : o.guard = none) (s x : Operand)
    (ho : o.op = .call { callee := .builtin .append, args := #[s, x], argTypes := #[62, 62] }) (hv : a.eval s = v) {y : Value} {m : Nat} {news : List (List UInt8)} (hx : a.eval x = y) (hr : RowReads w 1 y m (cellsBy strC news)) (hm : m = news.length) (hE : E.length + m ≤ 1000)
    (hK : ∀ (E' : List (List UInt8)) g cap w', Hid (E' = E ++ news) → E'.length = E.length + m → Stage F0 W (l.set i (Ob.row 0 9 1 (.slice g E'.length cap) E'.length (cellsBy strC E'))) w' → wpList Tryd.prog ops Q rest (a.put o.dst (.slice g E'.length cap)) w') : wpList Tryd.prog ops Q (o :: rest) a w := by
  refine hs.wp_append i hi hgd s x 62 ho (.string noS) 16 Tryd.underlying62 info_str rfl (by decide) (Nat.zero_le _) hv _ m (cellsBy strC news) hx hr (strC_one news) (by unfold maxLen; omega) (by omega) ?_
  intro v' w' h2 _
  have hl : E.length + m = (E ++ news).length := by rw [List.length_append, hm]
  have hcl : cellsBy strC E ++ cellsBy strC news = cellsBy strC (E ++ news) := by rw [cellsBy_append]
  rw [hl, hcl] at h2
  have hown := h2.owns i (by rw [List.getElem?_set_self (Scene.idx hi)])
  obtain ⟨g, c, e⟩ : ∃ g c, v' = .slice g (E ++ news).length c := by
    rcases hown.2 with ⟨h, h1⟩ | ⟨g, cap, _, h, _⟩
    · exact ⟨none, 0, by rw [h, h1]⟩
    · exact ⟨_, cap, h⟩
  subst e
  exact hK _ g c w' (Lib.hid rfl) hl.symm h2
/-- .. in a region that draws its order. -/
theorem step_appendStr {F0 : Nat → Prop} {W w : World} {l : List Ob} {E0 : List (List UInt8)} {v : Value} {ops : Array Oper} {o : Oper} {a : Act} {K : Act → World → Prop} {Q : Exit → Act → World → Prop} {E : Prop} (hs : Stage F0 W l w) (i : Nat) (hi : l[i]? = some (Ob.row 0 9 1 v E0.length (cellsBy strC E0))) (hgd : o.guard = none) (s x : Operand)
    (ho : o.op = .call { callee := .builtin .append, args := #[s, x], argTypes := #[62, 62] }) (hv : a.eval s = v) {y : Value} {m : Nat} {news : List (List UInt8)} (hx : a.eval x = y) (hr : RowReads w 1 y m (cellsBy strC news)) (hm : m = news.length) (hE : E0.length + m ≤ 1000)
    (hK : ∀ (E' : List (List UInt8)) g cap w', Hid (E' = E0 ++ news) → E'.length = E0.length + m → Stage F0 W (l.set i (Ob.row 0 9 1 (.slice g E'.length cap) E'.length (cellsBy strC E'))) w' → K (a.put o.dst (.slice g E'.length cap)) w') :
    if Region.wanted o (yielded ops a.tmps) = true then Oper.wp Tryd.prog o a w K Q else E := by
  refine hs.step_append i hi hgd s x 62 ho (.string noS) 16 Tryd.underlying62 info_str rfl (by decide) (Nat.zero_le _) hv _ m (cellsBy strC news) hx hr (strC_one news) (by unfold maxLen; omega) (by omega) ?_
  intro v' w' h2 _
  have hl : E0.length + m = (E0 ++ news).length := by rw [List.length_append, hm]
  have hcl : cellsBy strC E0 ++ cellsBy strC news = cellsBy strC (E0 ++ news) := by rw [cellsBy_append]
  rw [hl, hcl] at h2
  have hown := h2.owns i (by rw [List.getElem?_set_self (Scene.idx hi)])
  obtain ⟨g, c, e⟩ : ∃ g c, v' = .slice g (E0 ++ news).length c := by
    rcases hown.2 with ⟨h, h1⟩ | ⟨g, cap, _, h, _⟩
    · exact ⟨none, 0, by rw [h, h1]⟩
    · exact ⟨_, cap, h⟩
  subst e
  exact hK _ g c w' (Lib.hid rfl) hl.symm h2
/-- One thing that is new. -/
theorem oneNew {O : Ob} {W w : World} (h : Stage (fun _ => False) W [O] w) : ∃ F', O.holds w F' ∧ (∀ k, F' k → W.heap.size ≤ k) ∧ Below W.heap.size W w := by
  obtain ⟨_, Fm, h1, _, h3⟩ := id h
  exact ⟨Fm 0, h1 0 O rfl, fun k hk => (h3 0 k hk).1.elim False.elim id, h.below⟩
end Stage
/-- A row that a call makes. -/
def NewRow (e : TypeId) (n : Nat) (xs : List Value) (w : World) (r : Ending) (w' : World) : Prop := ∃ v, r = .returned v ∧ (∃ g c, v = .slice g n c) ∧ ∃ F', (Ob.row 0 e 1 v n xs).holds w' F' ∧ (∀ k, F' k → w.heap.size ≤ k) ∧ Below w.heap.size w w'

theorem seg_step {L : List UInt8} {f k : Nat} (hf : f ≤ k) (hk : k < L.length) : (L.drop f).take (k + 1 - f) = (L.drop f).take (k - f) ++ [L[k]] := by
  have h1 : k - f < (L.drop f).length := by rw [List.length_drop]; omega
  rw [show k + 1 - f = (k - f) + 1 by omega, List.take_succ_eq_append_getElem h1]
  congr 2
  rw [List.getElem_drop]
  congr 1
  omega
theorem seg_split {L : List UInt8} {f k : Nat} (hf : f ≤ k) (hk : k ≤ L.length) : L.drop f = (L.drop f).take (k - f) ++ L.drop k := by
  have h := (List.take_append_drop (k - f) (L.drop f)).symm
  rw [List.drop_drop, show f + (k - f) = k by omega] at h
  exact h
theorem ext_bs (s : ByteArray) (f k : Nat) (hk : k ≤ s.size) (hf : f ≤ k) : s.extract f k = bs ((s.data.toList.drop f).take (k - f)) := by
  apply ByteArray.ext
  apply Array.toList_inj.1
  rw [Lib.extract_data]

set_option maxHeartbeats 4000000 in
set_option maxRecDepth 100000 in
theorem refCut_any (s : ByteArray) (hs : s.size ≤ 300) (c : UInt8) (w : World) :
    Calls Tryd.prog 39 #[.string s, .int .u8 c.toNat] w (NewRow 9 (Rec.splits c s.data.toList).length (cellsBy strC (Rec.splits c s.data.toList)) w) := by
  have hL : s.data.toList.length = s.size := rfl
  have hs0 := ((Stage.start w).emptyRow 9 1)
  go_enter Tryd.func39, Tryd.ntmps39
  go_wp2_with fail
  go_loopw [5, 6, 7] (fun v f i wr => ∃ (k j : Nat) (g : Option Addr) (q : Nat) (xs : List (List UInt8)), i = .int .i64 k ∧ f = .int .i64 j ∧ v = .slice g xs.length q ∧ k ≤ s.size ∧ j ≤ k ∧ xs.length ≤ j ∧
    Hid (Rec.splits c s.data.toList = xs ++ Rec.splits c (s.data.toList.drop j) ∧ c ∉ (s.data.toList.drop j).take (k - j)) ∧ Stage (fun _ => False) w [Ob.row 0 9 1 (.slice g xs.length q) xs.length (cellsBy strC xs)] wr) (fun _ _ i _ => s.size - (RowKit.intOf i).toNat)
  case atStart => exact ⟨0, 0, _, 0, [], rfl, rfl, rfl, Nat.zero_le _, Nat.le_refl _, Nat.le_refl _, Lib.hid ⟨by simp, by simp⟩, hs0⟩
  case round =>
    clear hs0
    obtain ⟨k, j, g, q, xs, rfl, rfl, rfl, hk, hj, hx, hsp, hst⟩ := hrel
    by_cases hlt : k < s.size
    · have hki : (k : Int) < (s.size : Int) := by omega
      have hdk : s.data.toList.drop k = s[k] :: s.data.toList.drop (k + 1) := drop_at hlt
      have hext := ext_bs s j k (by omega) hj
      by_cases hc : s[k] = c
      · have e5 : ((s[k].toNat : Int) == (c.toNat : Int)) = true := by rw [hc]; simp
        have hji : (j : Int) ≤ (k : Int) := by omega
        have hst1 := hst.alloc #[.string (s.extract j k)] 9
        have hrd := reads_box (hst1.blk 1 rfl) 1 1 rfl
        rw [show (#[Value.string (s.extract j k)] : Array Value).toList = cellsBy strC [(s.data.toList.drop j).take (k - j)] by rw [hext]; rfl] at hrd
        have hsp2 : Rec.splits c s.data.toList = (xs ++ [(s.data.toList.drop j).take (k - j)]) ++ Rec.splits c (s.data.toList.drop (k + 1)) := by
          have e1 := seg_split hj (by omega : k ≤ s.data.toList.length)
          rw [hdk, hc] at e1
          rw [hsp.out.1, (congrArg (Rec.splits c) e1).trans (Rec.splits_at c _ _ hsp.out.2)]
          simp
        have HS2 := Lib.hid hsp2
        clear hsp hsp2 hext hdk hc
        go_wp2_with (at_builtin; refine hst1.wp_appendStr 0 rfl rfl _ _ rfl rfl rfl hrd rfl (by omega) ?_)
        intro E' g' q' w2 hE' hl' h2
        replace h2 := h2.take 1
        have HE := Lib.hid (show Rec.splits c s.data.toList = E' ++ Rec.splits c (s.data.toList.drop (k + 1)) by rw [hE'.out]; exact HS2.out)
        clear hE' HS2 hrd hst1 hst
        go_wp2_with fail
        go_roundw
        case rel => exact ⟨k + 1, k + 1, g', q', E', by go_num, by go_num, rfl, by omega, Nat.le_refl _, by omega, Lib.hid ⟨HE.out, by simp⟩, h2⟩
        case measure => simp [RowKit.intOf]; omega
      · have e5 : ((s[k].toNat : Int) == (c.toNat : Int)) = false := by
          simp only [beq_eq_false_iff_ne, ne_eq]
          intro e
          exact hc (UInt8.toNat_inj.1 (by omega))
        have hsp2 : c ∉ (s.data.toList.drop j).take (k + 1 - j) := by
          rw [seg_step hj (by omega : k < s.data.toList.length)]
          intro hm
          rcases List.mem_append.1 hm with hm | hm
          · exact hsp.out.2 hm
          · exact hc (List.mem_singleton.1 hm).symm
        have HS2 := Lib.hid (And.intro hsp.out.1 hsp2)
        clear hsp hsp2 hext hdk hc
        go_wp2_with fail
        go_roundw
        case rel => exact ⟨k + 1, j, g, q, xs, by go_num, rfl, rfl, by omega, by omega, hx, HS2, hst⟩
        case measure => simp [RowKit.intOf]; omega
    · obtain rfl : k = s.size := by omega
      have hext := ext_bs s j s.size (Nat.le_refl _) hj
      have hji : (j : Int) ≤ (s.size : Int) := by omega
      have hst1 := hst.alloc #[.string (s.extract j s.size)] 9
      have hrd := reads_box (hst1.blk 1 rfl) 1 1 rfl
      have hall : (s.data.toList.drop j).take (s.size - j) = s.data.toList.drop j := by rw [List.take_of_length_le]; rw [List.length_drop]; omega
      rw [hall] at hext
      rw [show (#[Value.string (s.extract j s.size)] : Array Value).toList = cellsBy strC [s.data.toList.drop j] by rw [hext]; rfl] at hrd
      have hno := hsp.out.2
      rw [hall] at hno
      have HS2 := Lib.hid (show Rec.splits c s.data.toList = xs ++ [s.data.toList.drop j] by rw [hsp.out.1, Rec.splits_no c _ hno])
      clear hsp hext hall hno
      go_wp2_with (at_builtin; refine hst1.wp_appendStr 0 rfl rfl _ _ rfl rfl rfl hrd rfl (by omega) ?_)
      intro E' g' q' w2 hE' hl' h2
      replace h2 := h2.take 1
      have HE : Rec.splits c s.data.toList = E' := by rw [hE'.out]; exact HS2.out
      clear hE' HS2 hrd hst1 hst
      replace HE := Lib.hid HE
      go_wp2_with fail
      go_ret
      rw [HE.out]
      exact ⟨_, rfl, ⟨_, _, rfl⟩, h2.oneNew⟩
end Go.Proofs.YtokfecbjkngpgaaDoor
