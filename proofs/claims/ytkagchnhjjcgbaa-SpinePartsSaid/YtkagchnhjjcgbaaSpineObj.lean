/- Trees in memory: the block and its row of things; what is returned that only looks. -/
import Derived.Test.YtkagchnhjjcgbaaSpineRowMath
import Derived.Test.YtkagchnhjjcgbaaStageAppend
import Derived.Test.YtkagchnhjjcgbaaStageFrame
import Derived.Test.YtkagchnhjjcgbaaMeth
import Derived.BigRegion
import Derived.StillTailTactics
namespace Go.Proofs.Ytkagchnhjjcgbaa
open Go.RowKit Go.Sort

def spineParts (p : Nat) (v : Value) (n : Nat) (L : List Hg) : List Ob :=
  [Ob.box p #[v] 50, Ob.row 0 53 3 v n (cellsBy thC (rawOf n L))]
/-- At p lie n things, of which hang where L says. -/
def Ob.spine (p n : Nat) (L : List Hg) : Ob where
  holds w F := ∃ v, HInv n L ∧ n ≤ 65536 ∧ (Ob.group (spineParts p v n L)).holds w F
  keeps := fun ⟨v, h1, h2, h⟩ k hn => ⟨v, h1, h2, (Ob.group _).keeps h k hn⟩
  lt := fun ⟨_, _, _, h⟩ => (Ob.group _).lt h
theorem spine_close {F : Nat → Prop} {w w' : World} {p n : Nat} {v : Value} {L : List Hg} (hs : Stage F w (spineParts p v n L) w') (hF : ∀ b, F b → b < w.heap.size) (I : HInv n L) (hn : n ≤ 65536) : ∃ F', (Ob.spine p n L).holds w' F' ∧ Moved F F' w w' := by
  obtain ⟨F', h1, m⟩ := hs.close hF
  exact ⟨F', ⟨v, I, hn, h1⟩, m⟩
section
variable {F0 : Nat → Prop} {W0 w : World} {p n : Nat} {v : Value} {L : List Hg} {q : List Ob}
theorem sp_c0 (h : Stage F0 W0 (spineParts p v n L ++ q) w) : w.cell? ⟨p, 0, none⟩ = some v := h.cell 0 rfl rfl
theorem sp_form (h : Stage F0 W0 (spineParts p v n L ++ q) w) : ∃ a c, v = .slice a n c ∧ n ≤ c ∧ c ≤ 9223372036854775807 := by
  obtain ⟨a, c, h1, h2, h3⟩ := owns_form (h.owns 1 rfl)
  exact ⟨a, c, h1, h2, by unfold maxLen at h3; omega⟩
theorem sp_row (h : Stage F0 W0 (spineParts p v n L ++ q) w) (hn : 0 < n) : ∃ g c, v = .slice (some ⟨g, 0, none⟩) n c ∧ n ≤ c ∧ c ≤ 9223372036854775807 ∧ g ≠ p ∧ g < w.heap.size ∧
    (∀ i, i < n → w.cell? ⟨g, i * 3, none⟩ = some (.int .i64 (oI (upL L i))) ∧ (∀ s : Bool, w.cell? ⟨g, i * 3 + 1 + s.toNat, none⟩ = some (.int .i64 (oI (kidL L i s))))) ∧ ∀ o, w.frozen? ⟨g, o, none⟩ = false := by
  obtain ⟨g, c, hv, h1, h2, _, h4, hc, hf⟩ := owns_at thC_len .no (h.owns 1 rfl) (raw_len n L) hn
  have hne := h.rowNe 1 0 rfl rfl (by decide)
  subst hv
  refine ⟨g, c, rfl, h1, by unfold maxLen at h2; omega, fun e => hne (by rw [← e]; rfl), h4, fun i hi => ?_, hf⟩
  have e := raw_at L hi .no
  refine ⟨hc i 0 _ hi (by omega) (by rw [e]; rfl), fun s => ?_⟩
  cases s
  · exact hc i 1 _ hi (by omega) (by rw [e]; rfl)
  · exact hc i 2 _ hi (by omega) (by rw [e]; rfl)
def hasN (n : Nat) (x : Int) : Bool := decide (0 ≤ x ∧ x < n)
theorem has_in {n : Nat} {x : Int} : hasN n x = true ↔ inN n x := by simp [hasN, inN]
theorem sp_has (h : Stage F0 W0 (spineParts p v n L ++ q) w) (x : Int) : Calls Try.prog 24 #[.pointer (some ⟨p, 0, none⟩), .int .i64 x] w fun e w' => e = .returned (.bool (hasN n x)) ∧ w = w' := by
  obtain ⟨a, c, rfl, hc1, hc2⟩ := sp_form h
  have c0 := sp_c0 h
  unfold hasN
  by_cases hx : 0 ≤ x
  · have hd := Lib.hid (show decide (0 ≤ x ∧ x < (n : Int)) = decide (x < (n : Int)) by congr 1; apply propext; omega)
    rw [hd.out]
    clear h hd
    go_enter Try.func24, Try.ntmps24
    go_wp2
    go_ret
    exact ⟨rfl, rfl⟩
  · rw [decide_eq_false (fun e => hx e.1)]
    clear h
    go_enter Try.func24, Try.ntmps24
    go_wp2
    go_ret
    exact ⟨rfl, rfl⟩
theorem sp_found (o : Option Int) (ho : ∀ y, o = some y → 0 ≤ y) (w : World) : Calls Try.prog 25 #[.int .i64 (oI o)] w fun e w' => e = .returned (.tuple #[.int .i64 (o.getD 0), .bool o.isSome]) ∧ w = w' := by
  cases o with
  | none =>
    show Calls _ _ #[.int .i64 (-1)] _ _
    go_enter Try.func25, Try.ntmps25
    go_wp2
    go_ret2
    exact ⟨rfl, rfl⟩
  | some y =>
    have h0 := ho y rfl
    have h1 : (y == -1) = false := by simp; omega
    show Calls _ _ #[.int .i64 y] _ _
    go_enter Try.func25, Try.ntmps25
    go_wp2
    go_ret2
    exact ⟨rfl, rfl⟩
theorem sp_child (h : Stage F0 W0 (spineParts p v n L ++ q) w) (I : HInv n L) (hn : n ≤ 65536) (x : Int) (s : Bool) : Calls Try.prog 23 #[.pointer (some ⟨p, 0, none⟩), .int .i64 x, .int .i64 s.toNat] w fun e w' => e = .returned (.tuple #[.int .i64 ((kidL L x s).getD 0), .bool (kidL L x s).isSome]) ∧ w = w' := by
  have c0 := sp_c0 h
  have hH := sp_has h x
  by_cases hx : inN n x
  · rw [has_in.2 hx] at hH
    obtain ⟨i, rfl⟩ : ∃ i : Nat, x = i := ⟨x.toNat, by have := hx.1; omega⟩
    have hi : i < n := by have := hx.2; omega
    obtain ⟨g, c, rfl, hc1, hc2, hgp, hg, hc, hf⟩ := sp_row h (by omega)
    have u0 := (hc i hi).2 s
    have hF := sp_found (kidL L i s) (fun y e => (kid_in I e).1.1) w
    clear h hc I hf
    generalize kidL L i s = o at *
    generalize oI o = z at *
    cases s
    all_goals
      simp only [Bool.toNat_false, Bool.toNat_true, Nat.add_zero] at u0
      go_enter Try.func23, Try.ntmps23
      go_wp2_with fail
      refine hH.mono ?_
      rintro e w1 ⟨rfl, rfl⟩
      go_wp2_with fail
      refine hF.mono ?_
      rintro e w1 ⟨rfl, rfl⟩
      go_wp2_with fail
      go_ret2
      exact ⟨rfl, rfl⟩
  · rw [kid_out I s hx]
    rw [show hasN n x = false from Bool.eq_false_iff.2 (fun e => hx (has_in.1 e))] at hH
    clear h
    go_enter Try.func23, Try.ntmps23
    go_wp2_with fail
    refine hH.mono ?_
    rintro e w1 ⟨rfl, rfl⟩
    go_wp2_with fail
    go_ret2
    exact ⟨rfl, rfl⟩
theorem sp_left (h : Stage F0 W0 (spineParts p v n L ++ q) w) (I : HInv n L) (hn : n ≤ 65536) (x : Int) : Calls Try.prog 9 #[.pointer (some ⟨p, 0, none⟩), .int .i64 x] w fun e w' => e = .returned (.tuple #[.int .i64 ((kidL L x false).getD 0), .bool (kidL L x false).isSome]) ∧ w = w' := by
  have hC := sp_child h I hn x false
  generalize kidL L x false = o at *
  clear h I
  go_enter Try.func9, Try.ntmps9
  go_wp2_with fail
  refine hC.mono ?_
  rintro e w1 ⟨rfl, rfl⟩
  go_wp2_with fail
  go_ret2
  exact ⟨rfl, rfl⟩
theorem sp_right (h : Stage F0 W0 (spineParts p v n L ++ q) w) (I : HInv n L) (hn : n ≤ 65536) (x : Int) : Calls Try.prog 10 #[.pointer (some ⟨p, 0, none⟩), .int .i64 x] w fun e w' => e = .returned (.tuple #[.int .i64 ((kidL L x true).getD 0), .bool (kidL L x true).isSome]) ∧ w = w' := by
  have hC := sp_child h I hn x true
  generalize kidL L x true = o at *
  clear h I
  go_enter Try.func10, Try.ntmps10
  go_wp2_with fail
  refine hC.mono ?_
  rintro e w1 ⟨rfl, rfl⟩
  go_wp2_with fail
  go_ret2
  exact ⟨rfl, rfl⟩
theorem sp_up (h : Stage F0 W0 (spineParts p v n L ++ q) w) (I : HInv n L) (hn : n ≤ 65536) (x : Int) : Calls Try.prog 11 #[.pointer (some ⟨p, 0, none⟩), .int .i64 x] w fun e w' => e = .returned (.tuple #[.int .i64 ((upL L x).getD 0), .bool (upL L x).isSome]) ∧ w = w' := by
  have c0 := sp_c0 h
  have hH := sp_has h x
  by_cases hx : inN n x
  · rw [has_in.2 hx] at hH
    obtain ⟨i, rfl⟩ : ∃ i : Nat, x = i := ⟨x.toNat, by have := hx.1; omega⟩
    have hi : i < n := by have := hx.2; omega
    obtain ⟨g, c, rfl, hc1, hc2, hgp, hg, hc, hf⟩ := sp_row h (by omega)
    have u0 := (hc i hi).1
    have hF := sp_found (upL L i) (fun y e => (up_in I e).2.1) w
    clear h hc I hf
    generalize upL L i = o at *
    generalize oI o = z at *
    go_enter Try.func11, Try.ntmps11
    go_wp2_with fail
    refine hH.mono ?_
    rintro e w1 ⟨rfl, rfl⟩
    go_wp2_with fail
    refine hF.mono ?_
    rintro e w1 ⟨rfl, rfl⟩
    go_wp2_with fail
    go_ret2
    exact ⟨rfl, rfl⟩
  · rw [up_out I hx]
    rw [show hasN n x = false from Bool.eq_false_iff.2 (fun e => hx (has_in.1 e))] at hH
    clear h
    go_enter Try.func11, Try.ntmps11
    go_wp2_with fail
    refine hH.mono ?_
    rintro e w1 ⟨rfl, rfl⟩
    go_wp2_with fail
    go_ret2
    exact ⟨rfl, rfl⟩
end
end Go.Proofs.Ytkagchnhjjcgbaa
