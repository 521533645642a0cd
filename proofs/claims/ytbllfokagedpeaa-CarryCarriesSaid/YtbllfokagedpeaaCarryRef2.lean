/- Merged of CarryRef, CarryRef2. -/
import Derived.Test.YtbllfokagedpeaaCarryTake
import Derived.Deep.RegionHeld3
namespace Go.Proofs.Ytbllfokagedpeaa
open Go.RowKit Go.Sort

/-- h is a row of the integers l, in blocks of F. -/
def IntsIn (w : World) (F : Nat → Prop) (h : Value) (l : List Int) : Prop :=
  (h = .slice none 0 0 ∧ l = []) ∨ ∃ g o c, h = .slice (some ⟨g, o, none⟩) l.length c ∧ l.length ≤ c ∧ c ≤ 9223372036854775807 ∧ F g ∧ ∀ j, j < l.length → w.cell? ⟨g, o + j, none⟩ = some (.int .i64 (l.getD j 0))
theorem IntsIn.mono {w : World} {F G : Nat → Prop} {h : Value} {l : List Int} (H : IntsIn w F h l) (hG : ∀ b, F b → G b) : IntsIn w G h l := by
  rcases H with h1 | ⟨g, o, c, h1, h2, h3, h4, h5⟩
  · exact Or.inl h1
  · exact Or.inr ⟨g, o, c, h1, h2, h3, hG g h4, h5⟩
theorem IntsIn.keeps {w w' : World} {F G : Nat → Prop} {h : Value} {l : List Int} (H : IntsIn w F h l) (k : Keeps G w w') (hn : ∀ b, F b → ¬ G b) : IntsIn w' F h l := by
  rcases H with h1 | ⟨g, o, c, h1, h2, h3, h4, h5⟩
  · exact Or.inl h1
  · exact Or.inr ⟨g, o, c, h1, h2, h3, h4, fun j hj => k.cell (h5 j hj) (hn g h4)⟩
theorem IntsIn.later {w w' : World} {F : Nat → Prop} {h : Value} {l : List Int} (H : IntsIn w F h l) (hb : Below w.heap.size w w') : IntsIn w' F h l := H.keeps (Keeps.of_below_all hb (fun _ => False)) (fun _ _ x => x)
theorem IntsIn.form {w : World} {F : Nat → Prop} {h : Value} {l : List Int} (H : IntsIn w F h l) : ∃ a c, h = .slice a l.length c ∧ l.length ≤ c ∧ c ≤ 9223372036854775807 ∧ IntsAt w .i64 a l := by
  rcases H with ⟨h1, h2⟩ | ⟨g, o, c, h1, h2, h3, h4, h5⟩
  · subst h2
    exact ⟨none, 0, h1, Nat.le_refl _, by omega, fun i hi => absurd hi (Nat.not_lt_zero _)⟩
  · exact ⟨_, c, h1, h2, h3, fun j hj => ⟨g, o, rfl, h5 j hj⟩⟩
theorem IntsIn.reads {w : World} {F : Nat → Prop} {h : Value} {l : List Int} (H : IntsIn w F h l) : RowReads w 1 h l.length (cellsBy intC l) := by
  refine ⟨by rw [cellsBy_length intC 1 intC_len], ?_⟩
  rcases H with ⟨h1, h2⟩ | ⟨g, o, c, h1, h2, h3, h4, h5⟩
  · exact Or.inl ⟨h1, by rw [h2]; rfl⟩
  · refine Or.inr ⟨_, c, h1, fun j u hj => ?_⟩
    have hjl : j < l.length := by
      have := (List.getElem?_eq_some_iff.1 hj).1
      rw [cellsBy_length intC 1 intC_len] at this
      omega
    rw [add_at, h5 j hjl]
    have h3 := cellsBy_get intC 1 intC_len 0 l j 0 hjl (by omega)
    rw [Nat.mul_one, Nat.add_zero] at h3
    rw [h3] at hj
    exact hj
theorem IntsIn.of_ints {w : World} {G F : Nat → Prop} {v : Value} {l : List Int} (H : (Ob.ints v l).holds w G) (hG : ∀ b, G b → F b) : IntsIn w F v l := by
  obtain ⟨ho, rfl⟩ := H
  have hr := reads_own ho
  obtain ⟨a0, c0, hv0, h2, h3⟩ := owns_form ho
  obtain ⟨h1, h2' | ⟨g, cap, cur, hv, _⟩⟩ := ho
  · obtain ⟨e1, e2⟩ := h2'
    exact Or.inl ⟨e1, List.length_eq_zero_iff.1 e2⟩
  · rw [hv] at hv0
    cases hv0
    refine Or.inr ⟨g, 0, c0, hv, h2, by unfold maxLen at h3; omega, hG g (by rw [hv]; rfl), fun j hj => ?_⟩
    obtain ⟨_, ⟨e1, _⟩ | ⟨a, c, e1, hc⟩⟩ := hr
    · rw [hv] at e1; cases e1
    · rw [hv] at e1
      cases e1
      have h3 := cellsBy_get intC 1 intC_len 0 l j 0 hj (by omega)
      rw [Nat.mul_one, Nat.add_zero] at h3
      have := hc j (.int .i64 (l.getD j 0)) (by rw [h3]; rfl)
      rw [add_at] at this
      exact this
/-- v is the document's forest: of n things the children. -/
def DocK (w : World) (F : Nat → Prop) (v : Value) (n : Nat) (K : Int → List Int) : Prop :=
  ∃ hd : Nat → Value, ((v = .slice none 0 0 ∧ n = 0) ∨ ∃ g c, v = .slice (some ⟨g, 0, none⟩) n c ∧ n ≤ c ∧ c ≤ 9223372036854775807 ∧ F g ∧ ∀ i, i < n → w.cell? ⟨g, i, none⟩ = some (hd i)) ∧ ∀ i : Nat, i < n → IntsIn w F (hd i) (K i)
theorem DocK.mono {w : World} {F G : Nat → Prop} {v : Value} {n : Nat} {K : Int → List Int} (H : DocK w F v n K) (hG : ∀ b, F b → G b) : DocK w G v n K := by
  obtain ⟨hd, h1, h2⟩ := H
  refine ⟨hd, ?_, fun i hi => (h2 i hi).mono hG⟩
  rcases h1 with h1 | ⟨g, c, h1, h3, h4, h5, h6⟩
  · exact Or.inl h1
  · exact Or.inr ⟨g, c, h1, h3, h4, hG g h5, h6⟩
theorem DocK.keeps {w w' : World} {F G : Nat → Prop} {v : Value} {n : Nat} {K : Int → List Int} (H : DocK w F v n K) (k : Keeps G w w') (hn : ∀ b, F b → ¬ G b) : DocK w' F v n K := by
  obtain ⟨hd, h1, h2⟩ := H
  refine ⟨hd, ?_, fun i hi => (h2 i hi).keeps k hn⟩
  rcases h1 with h1 | ⟨g, c, h1, h3, h4, h5, h6⟩
  · exact Or.inl h1
  · exact Or.inr ⟨g, c, h1, h3, h4, h5, fun i hi => k.cell (h6 i hi) (hn g h5)⟩
theorem DocK.later {w w' : World} {F : Nat → Prop} {v : Value} {n : Nat} {K : Int → List Int} (H : DocK w F v n K) (hb : Below w.heap.size w w') : DocK w' F v n K := H.keeps (Keeps.of_below_all hb (fun _ => False)) (fun _ _ x => x)
def Ob.docK (v : Value) (n : Nat) (K : Int → List Int) : Ob where
  holds w F := (∀ b, F b → b < w.heap.size) ∧ DocK w F v n K
  keeps := by rintro w w' F G ⟨h0, h⟩ k hn; exact ⟨fun b hb => Nat.lt_of_lt_of_le (h0 b hb) k.size, h.keeps k hn⟩
  lt := fun h => h.1
theorem DocK.form {w : World} {F : Nat → Prop} {v : Value} {n : Nat} {K : Int → List Int} (H : DocK w F v n K) : ∃ a c, v = .slice a n c ∧ n ≤ c ∧ c ≤ 9223372036854775807 := by
  obtain ⟨hd, ⟨h1, h2⟩ | ⟨g, c, h1, h3, h4, h5, h6⟩, _⟩ := H
  · subst h2; exact ⟨none, 0, h1, Nat.le_refl _, by omega⟩
  · exact ⟨_, c, h1, h3, h4⟩
theorem DocK.at' {w : World} {F : Nat → Prop} {v : Value} {n : Nat} {K : Int → List Int} (H : DocK w F v n K) {i : Nat} (hi : i < n) : ∃ g c ka kc, v = .slice (some ⟨g, 0, none⟩) n c ∧ w.cell? ⟨g, i, none⟩ = some (.slice ka (K i).length kc) ∧ (K i).length ≤ kc ∧ kc ≤ 9223372036854775807 ∧ IntsAt w .i64 ka (K i) ∧ IntsIn w F (.slice ka (K i).length kc) (K i) := by
  obtain ⟨hd, ⟨h1, h2⟩ | ⟨g, c, h1, h3, h4, h5, h6⟩, h7⟩ := H
  · omega
  · obtain ⟨ka, kc, e1, e2, e3, e4⟩ := (h7 i hi).form
    have h8 := h6 i hi
    have h9 := h7 i hi
    rw [e1] at h8 h9
    exact ⟨g, c, ka, kc, h1, h8, e2, e3, e4, h9⟩
section
variable {w : World} {F : Nat → Prop} {v : Value} {n : Nat} {K : Int → List Int}
theorem rHas (h : DocK w F v n K) (x : Int) : Calls Try.prog 35 #[v, .int .i64 x] w fun e w' => e = .returned (.bool (hasK n x)) ∧ w = w' := by
  obtain ⟨a, c, rfl, hc1, hc2⟩ := h.form
  unfold hasK
  by_cases hx : 0 ≤ x
  · have hd := Lib.hid (show decide (0 ≤ x ∧ x < (n : Int)) = decide (x < (n : Int)) by congr 1; apply propext; omega)
    rw [hd.out]
    clear hd h
    go_enter Try.func35, Try.ntmps35
    go_wp2
    go_ret
    exact ⟨rfl, rfl⟩
  · rw [decide_eq_false (fun e => hx e.1)]
    clear h
    go_enter Try.func35, Try.ntmps35
    go_wp2
    go_ret
    exact ⟨rfl, rfl⟩
theorem rKids (I : CInv n K) (h : DocK w F v n K) (x : Int) : Calls Try.prog 34 #[v, .int .i64 x] w fun e w' => ∃ a c, e = .returned (.slice a (K x).length c) ∧ IntsIn w F (.slice a (K x).length c) (K x) ∧ w = w' := by
  have hH := rHas h x
  by_cases hx : inN n x
  · rw [hasK_in.2 hx] at hH
    obtain ⟨i, rfl⟩ : ∃ i : Nat, x = i := ⟨x.toNat, by have := hx.1; omega⟩
    have hi : i < n := by have := hx.2; omega
    have hii : (i : Int) < n := by omega
    obtain ⟨g, c, ka, kc, rfl, u0, _, _, _, h9⟩ := h.at' hi
    clear h
    generalize K i = l at *
    go_enter Try.func34, Try.ntmps34
    go_wp2_with fail
    refine hH.mono ?_
    rintro e w1 ⟨rfl, rfl⟩
    go_wp2_with fail
    go_ret
    exact ⟨ka, kc, rfl, h9, rfl⟩
  · rw [hasK_no hx] at hH
    rw [kidsK_out I hx]
    clear h
    go_enter Try.func34, Try.ntmps34
    go_wp2_with fail
    refine hH.mono ?_
    rintro e w1 ⟨rfl, rfl⟩
    go_wp2_with fail
    go_ret
    exact ⟨none, 0, rfl, Or.inl ⟨rfl, rfl⟩, rfl⟩
set_option maxHeartbeats 1000000 in
theorem rUp (I : CInv n K) (h : DocK w F v n K) (x : Int) : Calls Try.prog 22 #[v, .int .i64 x] w fun e w' => e = .returned (.tuple #[.int .i64 ((upK K x).getD 0), .bool (upK K x).isSome]) ∧ w = w' := by
  obtain ⟨a, c, hv, hc1, hc2⟩ := h.form
  have hat := fun i (hi : i < n) => h.at' hi
  have hyes : ∀ p : Nat, x ∈ K p → upK K x = some (p : Int) := fun p hp => (upK_some I).2 hp
  have hno : (∀ p : Nat, p < n → x ∉ K p) → upK K x = none := fun h => upK_none.2 fun p hp => by
    obtain ⟨h1, _⟩ := I.rng p x hp
    obtain ⟨i, rfl⟩ : ∃ i : Nat, p = i := ⟨p.toNat, by have := h1.1; omega⟩
    exact h i (by have := h1.2; omega) hp
  have hall : ∀ (l : List Int), (∀ i, i < l.length → l.getD i 0 ≠ x) → x ∉ l := fun l h hx => by
    obtain ⟨i, hi, e⟩ := List.getElem_of_mem hx
    exact h i hi (by simpa [List.getD_eq_getElem?_getD, hi] using e)
  subst hv
  clear h I
  generalize upK K x = o at *
  go_enter Try.func22, Try.ntmps22
  go_wp2_with fail
  go_loopw [12] (fun i wr => ∃ j : Nat, i = .int .i64 j ∧ j ≤ n ∧ (∀ p : Nat, p < j → x ∉ K p) ∧ w = wr) (fun i _ => n - (intOf i).toNat)
  case atStart => exact ⟨0, rfl, Nat.zero_le _, fun p hp => absurd hp (Nat.not_lt_zero _), rfl⟩
  case round =>
    obtain ⟨j, rfl, hj, hnone, rfl⟩ := hrel
    by_cases hjn : j < n
    · have hji : (j : Int) < n := by omega
      obtain ⟨g, c', ka, kc, hv, u0, hk1, hk2, hk, _⟩ := hat j hjn
      cases hv
      have hyj := hyes j
      have hallj := hall (K j)
      have hnext : x ∉ K j → ∀ p : Nat, p < j + 1 → x ∉ K p := fun h p hp => by
        by_cases e : p = j
        · rw [e]; exact h
        · exact hnone p (by omega)
      clear hat hyes hnone hall
      generalize K j = l at *
      go_wp2_with fail
      go_loopw [19] (fun i wr => ∃ k : Nat, i = .int .i64 k ∧ k ≤ l.length ∧ (∀ i, i < k → l.getD i 0 ≠ x) ∧ w = wr) (fun i _ => l.length - (intOf i).toNat)
      case atStart => exact ⟨0, rfl, Nat.zero_le _, fun p hp => absurd hp (Nat.not_lt_zero _), rfl⟩
      case round =>
        obtain ⟨k, rfl, hkl, hsf, rfl⟩ := hrel
        by_cases hkn : k < l.length
        · have hki : (k : Int) < l.length := by omega
          obtain ⟨gb, o2, rfl, u1⟩ := hk k hkn
          by_cases e : l.getD k 0 = x
          · have ho := hyj (by rw [← e]; exact mem_getD' l k 0 hkn)
            rw [e] at u1
            subst ho
            clear hk hallj hnext hsf hyj e
            generalize l.length = m at *
            go_wp2_with fail
            go_ret2
            exact ⟨rfl, rfl⟩
          · have e' : (l.getD k 0 == x) = false := by simpa using e
            have hsf2 : ∀ i, i < k + 1 → l.getD i 0 ≠ x := fun i hi => by
              by_cases e2 : i = k
              · rw [e2]; exact e
              · exact hsf i (by omega)
            clear hk hallj hnext hsf hyj e
            generalize l.getD k 0 = y at *
            generalize l.length = m at *
            go_wp2_with fail
            go_roundw
            case rel => exact ⟨k + 1, by go_num, by omega, hsf2, trivial⟩
            case measure => simp [intOf]; omega
        · obtain rfl : k = l.length := by omega
          have hn2 := hnext (hallj hsf)
          clear hk hallj hnext hsf hyj
          generalize l.length = m at *
          go_wp2_with fail
          go_roundw
          case rel => exact ⟨j + 1, by go_num, by omega, hn2, trivial⟩
          case measure => simp [intOf]; omega
    · obtain rfl : j = n := by omega
      have ho := hno hnone
      subst ho
      clear hat hyes hno hnone hall
      go_wp2_with fail
      go_ret2
      exact ⟨rfl, rfl⟩
theorem rRoot (I : CInv n K) (h : DocK w F v n K) (x : Int) : Calls Try.prog 33 #[v, .int .i64 x] w fun e w' => e = .returned (.bool (rootB n K x)) ∧ w = w' := by
  have hH := rHas h x
  have hU := rUp I h x
  have hR : rootB n K x = (hasK n x && (upK K x).isNone) := rfl
  rw [hR]
  obtain ⟨a, c, rfl, hc1, hc2⟩ := h.form
  clear h I hR
  generalize hasK n x = B at *
  generalize upK K x = o at *
  cases B <;> cases o
  all_goals
    go_enter Try.func33, Try.ntmps33
    go_wp2_with fail
    refine hU.mono ?_
    rintro e w1 ⟨rfl, rfl⟩
    go_wp2_with fail
    refine hH.mono ?_
    rintro e w1 ⟨rfl, rfl⟩
    go_wp2_with fail
    go_ret
    exact ⟨rfl, rfl⟩
end
end Go.Proofs.Ytbllfokagedpeaa

namespace Go.Proofs.Ytbllfokagedpeaa
open Go.RowKit Go.Sort

theorem sinfo_ints : (Try.prog.info? 30).map (fun i => (i.zero, i.size, i.bytes)) = some (some (.slice none 0 0), 1, 24) := by kernel_rfl
theorem IntsAt.later {w w' : World} {a : Option Addr} {l : List Int} (h : IntsAt w .i64 a l) (hb : Below w.heap.size w w') : IntsAt w' .i64 a l := fun j hj => by
  obtain ⟨g, o, e, h1⟩ := h j hj
  exact ⟨g, o, e, Go.Proofs.Ytbllfokagedpeaa.later hb h1⟩
/-- A forest of the document's that was made of another one. -/
def DocStep (w : World) (F : Nat → Prop) (v : Value) (n : Nat) (K : Int → List Int) (w' : World) : Prop :=
  Below w.heap.size w w' ∧ ∃ F', (Ob.docK v n K).holds w' F' ∧ (∀ b, F' b → F b ∨ w.heap.size ≤ b) ∧ ∀ b, F b → F' b
theorem doc_of_row {w : World} {F : Nat → Prop} {v : Value} {n : Nat} {hl : List Value} {K : Int → List Int} (ho : w.ownsRow 0 30 1 v n hl) (hF : ∀ b, rowF v b → F b) (hK : ∀ i : Nat, i < n → ∃ h, hl[i]? = some h ∧ IntsIn w F h (K i)) : DocK w F v n K := by
  refine ⟨fun i => (hl[i]?).getD (.slice none 0 0), ?_, fun i hi => ?_⟩
  · obtain ⟨a0, c0, hv0, h2, h3⟩ := owns_form ho
    have hr := reads_own ho
    obtain ⟨h1, h2' | ⟨g, cap, cur, hv, _⟩⟩ := ho
    · exact Or.inl h2'
    · rw [hv] at hv0
      cases hv0
      refine Or.inr ⟨g, c0, hv, h2, by unfold maxLen at h3; omega, hF g (by rw [hv]; rfl), fun i hi => ?_⟩
      obtain ⟨h, e1, _⟩ := hK i hi
      obtain ⟨_, ⟨e2, _⟩ | ⟨a, c, e2, hc⟩⟩ := hr
      · rw [hv] at e2; cases e2
      · rw [hv] at e2
        cases e2
        have := hc i h e1
        rw [add_at, Nat.zero_add] at this
        rw [this]
        simp [e1]
  · obtain ⟨h, e1, e2⟩ := hK i hi
    simp only [e1, Option.getD_some]
    exact e2
theorem DocK.list {w : World} {F : Nat → Prop} {v : Value} {n : Nat} {K : Int → List Int} (H : DocK w F v n K) : ∃ hl : List Value, RowReads w 1 v n hl ∧ hl.length = n ∧ (∀ i : Nat, i < n → ∃ h, hl[i]? = some h ∧ IntsIn w F h (K i)) ∧ ∀ z ∈ hl, z.oneCell' = true := by
  obtain ⟨hd, h1, h2⟩ := H
  refine ⟨(List.range n).map hd, ⟨by simp, ?_⟩, by simp, fun i hi => ⟨hd i, by simp [hi], h2 i hi⟩, fun z hz => ?_⟩
  · rcases h1 with h1 | ⟨g, c, h1, h3, h4, h5, h6⟩
    · exact Or.inl h1
    · refine Or.inr ⟨_, c, h1, fun j u hj => ?_⟩
      have hjn : j < n := by
        have := (List.getElem?_eq_some_iff.1 hj).1
        simpa using this
      simp [hjn] at hj
      rw [add_at, Nat.zero_add, h6 j hjn, hj]
  · obtain ⟨i, hi, rfl⟩ := List.mem_map.1 hz
    rw [List.mem_range] at hi
    obtain ⟨a, c, e, _⟩ := (h2 i hi).form
    rw [e]; rfl
section
variable {w : World} {F : Nat → Prop} {v : Value} {n : Nat} {K : Int → List Int}
theorem rWith (hn : n ≤ 65536) (h : (Ob.docK v n K).holds w F) (x : Nat) (hx : x < n) (l : List Int) (a : Option Addr) (c : Nat) (hk : IntsIn w F (.slice a l.length c) l) :
    Calls Try.prog 41 #[v, .int .i64 x, .slice a l.length c] w fun e w' => ∃ a' c', e = .returned (.slice a' n c') ∧ DocStep w F (.slice a' n c') n (setK K x l) w' := by
  have hlt := h.1
  obtain ⟨hl, hr, hll, hint, h1c⟩ := h.2.list
  obtain ⟨av, cv, rfl, _, _⟩ := h.2.form
  have hs : Stage (fun _ => False) w [Ob.row 0 30 1 (.slice (some ⟨w.heap.size, 0, none⟩) 0 0) 0 []] (w.alloc (.cells #[] 30)) := (Stage.start w).emptyRow 30 1
  have hr2 := hr.later hs.below
  have hxi : (x : Int) < n := by omega
  have e63 : 0 + n ≤ maxLen := by unfold maxLen; omega
  have eby : (0 + n) * 24 ≤ 140737488355328 := by omega
  clear hr
  go_enter Try.func41, Try.ntmps41
  go_wp2_with (at_builtin; refine hs.wp_append 0 rfl rfl _ _ 36 rfl (.slice none 0 0) 24 Try.underlying36 sinfo_ints rfl (by decide) (Nat.zero_le _) rfl _ n hl rfl hr2 h1c e63 eby ?_)
  intro v1 w1 hs1 _
  replace hs1 : Stage (fun _ => False) w [Ob.row 0 30 1 v1 n hl] w1 := hs1
  obtain ⟨g, cp, rfl, _, hcp, _, hg, hcell⟩ := owns_slice (hs1.owns 0 rfl) (by omega)
  have hcp2 : cp ≤ 9223372036854775807 := by unfold maxLen at hcp; omega
  obtain ⟨h0, e0, _⟩ := hint x hx
  have u0 := hcell x h0 e0
  have f0 := (hs1.owns 0 rfl).frozenAt x
  have hs2 := hs1.storeRow 0 rfl x (.slice a l.length c) rfl
  have hfin : DocStep w F (.slice (some ⟨g, 0, none⟩) n cp) n (setK K x l) (w1.setCell ⟨g, x, none⟩ (.slice a l.length c)) := by
    refine ⟨hs2.below, fun b => F b ∨ b = g, ⟨fun b hb => ?_, ?_⟩, fun b hb => ?_, fun b hb => Or.inl hb⟩
    · have h9 := hs2.below.size
      rcases hb with hb | hb
      · have := hlt b hb; omega
      · subst hb
        exact ((hs2.owns 0 rfl).lt b rfl).2
    · refine doc_of_row (hs2.owns 0 rfl) (fun b hb => Or.inr ?_) fun i hi => ?_
      · simpa [rowF, Value.ownBlock] using hb.symm
      · by_cases e : i = x
        · subst e
          refine ⟨_, by rw [List.getElem?_set_self (by omega)], ?_⟩
          have : setK K i l i = l := by unfold setK; rw [if_pos rfl]
          rw [this]
          exact (hk.later hs2.below).mono fun _ h => Or.inl h
        · obtain ⟨h2, e2, h3⟩ := hint i hi
          refine ⟨h2, by rw [List.getElem?_set_ne (fun e3 => e e3.symm)]; exact e2, ?_⟩
          have : setK K x l i = K i := by unfold setK; rw [if_neg (by omega)]
          rw [this]
          exact (h3.later hs2.below).mono fun _ h => Or.inl h
    · rcases hb with hb | hb
      · exact Or.inl hb
      · subst hb
        obtain ⟨hk1, G, g1, g2, g3⟩ := hs2
        obtain ⟨go, ge⟩ := g1 0 _ rfl
        have : G 0 b := by rw [ge]; rfl
        exact Or.inr ((g3 0 b this).1.elim False.elim id)
  clear hs hs1 hs2 hint h1c hk hlt hcell e0 h hr2
  go_wp2_with fail
  go_ret
  exact ⟨_, _, rfl, hfin⟩
theorem put_step (l : List Int) (x y : Int) (k : Nat) (hk : k < l.length) : putL (l.take (k + 1)) x y = putL (l.take k) x y ++ [if l.getD k 0 = x then y else l.getD k 0] := by
  rw [take_snocD 0 l k hk]
  unfold putL
  rw [List.map_append]
  rfl
theorem rPut (l : List Int) (a : Option Addr) (c : Nat) (hc : l.length ≤ c ∧ c ≤ 9223372036854775807) (hl : IntsAt w .i64 a l) (hlen : l.length ≤ 65536) (x y : Int) :
    Calls Try.prog 42 #[.slice a l.length c, .int .i64 x, .int .i64 y] w (IntsPost w (putL l x y)) := by
  obtain ⟨hc1, hc2⟩ := hc
  have hs : Stage (fun _ => False) w [Ob.ints (.slice (some ⟨w.heap.size, 0, none⟩) 0 0) (putL (l.take 0) x y)] (w.alloc (.cells #[] 3)) := (Stage.start w).emptyRow 3 1
  have hstep := fun k hk => put_step l x y k hk
  have hpl : ∀ k, (putL (l.take k) x y).length ≤ 65536 := fun k => by unfold putL; rw [List.length_map, List.length_take]; omega
  go_enter Try.func42, Try.ntmps42
  go_wp2_with fail
  go_loopw [7, 13] (fun o i wr => ∃ (k : Nat), i = .int .i64 k ∧ k ≤ l.length ∧ Stage (fun _ => False) w [Ob.ints o (putL (l.take k) x y)] wr) (fun _ i _ => l.length - (intOf i).toNat)
  case atStart => exact ⟨0, rfl, Nat.zero_le _, hs⟩
  case round =>
    clear hs
    obtain ⟨k, rfl, hk, hs⟩ := hrel
    obtain ⟨oa, oc, rfl, ho1, ho2⟩ := hs.intsForm 0 rfl
    by_cases hkl : k < l.length
    · have hki : (k : Int) < l.length := by omega
      obtain ⟨g, o, rfl, u0⟩ := (IntsAt.later hl hs.below) k hkl
      have hst := hstep k hkl
      have hpk := hpl k
      by_cases e : l.getD k 0 = x
      · rw [if_pos e] at hst
        rw [e] at u0
        clear hl hstep hpl e
        generalize l.length = m at *
        generalize putL (l.take k) x y = q at *
        replace hst := Lib.hid hst
        go_wp2_with (at_builtin; refine hs.wp_appendInt 0 rfl rfl rfl _ _ 30 rfl Try.underlying30 sinfo_int rfl rfl (by omega) ?_)
        intro v1 w1 hs1
        replace hs1 : Stage (fun _ => False) w [Ob.ints v1 (putL (l.take (k + 1)) x y)] w1 := by rw [hst.out]; exact hs1
        clear hs
        go_wp2_with fail
        go_roundw
        case rel => exact ⟨k + 1, by go_num, by omega, hs1⟩
        case measure => simp [intOf]; omega
      · have e' : (l.getD k 0 == x) = false := by simpa using e
        rw [if_neg e] at hst
        clear hl hstep hpl e
        generalize l.length = m at *
        generalize putL (l.take k) x y = q at *
        generalize l.getD k 0 = z at *
        replace hst := Lib.hid hst
        go_wp2_with (at_builtin; refine hs.wp_appendInt 0 rfl rfl rfl _ _ 30 rfl Try.underlying30 sinfo_int rfl rfl (by omega) ?_)
        intro v1 w1 hs1
        replace hs1 : Stage (fun _ => False) w [Ob.ints v1 (putL (l.take (k + 1)) x y)] w1 := by rw [hst.out]; exact hs1
        clear hs
        go_wp2_with fail
        go_roundw
        case rel => exact ⟨k + 1, by go_num, by omega, hs1⟩
        case measure => simp [intOf]; omega
    · obtain rfl : k = l.length := by omega
      rw [List.take_length] at hs
      have hfin := ints_close hs
      rw [List.take_length] at ho1
      clear hl hstep hpl hs
      go_wp2_with fail
      go_ret
      rw [List.take_length]
      exact hfin
end
end Go.Proofs.Ytbllfokagedpeaa
