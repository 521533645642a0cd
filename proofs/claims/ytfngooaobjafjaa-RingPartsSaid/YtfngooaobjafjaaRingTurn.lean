/- What rings' calls return that look along a ring (Same), and those that turn them (Splice, Part). -/
import Derived.Test.YtfngooaobjafjaaRingCalls
import Derived.Test.YtfngooaobjafjaaRingRef
namespace Go.Proofs.Ytfngooaobjafjaa
open Go.RowKit Go.Sort

section
variable {w : World}
theorem idx_ints (l : List Int) (a : Option Addr) (c : Nat) (hc : l.length ≤ c ∧ c ≤ 9223372036854775807) (hl : IntsAt w .i64 a l) (x : Int) :
    Calls Try.prog 24 #[.slice a l.length c, .int .i64 x] w fun e w' => e = .returned (.int .i64 (placeI l x)) ∧ w = w' := by
  obtain ⟨hc1, hc2⟩ := hc
  have hyes : ∀ j : Nat, j < l.length → l.getD j 0 = x → (∀ i, i < j → l.getD i 0 ≠ x) → placeI l x = j := fun j h1 h2 h3 => by
    obtain ⟨h4, h5⟩ := idx_first h1 h2 h3
    unfold placeI; rw [if_pos h4, h5]
  have hno' : (∀ i, i < l.length → l.getD i 0 ≠ x) → placeI l x = -1 := fun h => by unfold placeI; rw [if_neg (not_all h)]
  generalize placeI l x = P at *
  go_enter Try.func24, Try.ntmps24
  go_wp2_with fail
  go_loopw [8] (fun i wr => ∃ j : Nat, i = .int .i64 j ∧ j ≤ l.length ∧ (∀ i, i < j → l.getD i 0 ≠ x) ∧ w = wr) (fun i _ => l.length - (intOf i).toNat)
  case atStart => exact ⟨0, rfl, Nat.zero_le _, fun i hi => absurd hi (Nat.not_lt_zero _), rfl⟩
  case round =>
    obtain ⟨j, rfl, hj, hno, rfl⟩ := hrel
    by_cases hjn : j < l.length
    · have hji : (j : Int) < l.length := by omega
      obtain ⟨gb, o, rfl, u0⟩ := hl j hjn
      by_cases e : l.getD j 0 = x
      · have hP := hyes j hjn e hno
        rw [e] at u0
        subst hP
        clear hl hno' hno e hyes
        generalize l.length = m at *
        go_wp2_with fail
        go_ret
        exact ⟨rfl, rfl⟩
      · have e' : (l.getD j 0 == x) = false := by simpa using e
        have hno2 : ∀ i, i < j + 1 → l.getD i 0 ≠ x := fun i hi => by
          by_cases e2 : i = j
          · rw [e2]; exact e
          · exact hno i (by omega)
        clear hl hno' hno hyes
        generalize l.getD j 0 = y at *
        generalize l.length = m at *
        go_wp2_with fail
        go_roundw
        case rel => exact ⟨j + 1, by go_num, by omega, hno2, trivial⟩
        case measure => simp [intOf]; omega
    · obtain rfl : j = l.length := by omega
      have hP := hno' hno
      subst hP
      clear hl hno' hno hyes
      generalize l.length = m at *
      go_wp2_with fail
      go_ret
      exact ⟨rfl, rfl⟩
theorem placeI_has (l : List Int) (x : Int) : decide (0 ≤ placeI l x) = l.contains x := by
  unfold placeI
  by_cases h : x ∈ l
  · rw [if_pos h, decide_eq_true (by omega)]; simpa using h
  · rw [if_neg h]; simp [h]
theorem contains_ints (l : List Int) (a : Option Addr) (c : Nat) (hc : l.length ≤ c ∧ c ≤ 9223372036854775807) (hl : IntsAt w .i64 a l) (x : Int) :
    Calls Try.prog 20 #[.slice a l.length c, .int .i64 x] w fun e w' => e = .returned (.bool (l.contains x)) ∧ w = w' := by
  have hI := idx_ints l a c hc hl x
  rw [← placeI_has]
  generalize placeI l x = P at *
  clear hl
  go_enter Try.func20, Try.ntmps20
  go_wp2_with fail
  refine hI.mono ?_
  rintro e w1 ⟨rfl, rfl⟩
  go_wp2_with fail
  go_ret
  exact ⟨rfl, rfl⟩
variable {p n : Nat} {S : RSt} {F : Nat → Prop}
theorem rg_same (G : RGood n S) (x y : Int) (h : (Ob.ring p n S).holds w F) : Calls Try.prog 11 #[.pointer (some ⟨p, 0, none⟩), .int .i64 x, .int .i64 y] w fun e w' => e = .returned (.bool ((allR S.R x).contains y)) ∧ Below w.heap.size w w' := by
  have hA := rg_all G x h
  clear h
  generalize allR S.R x = l at *
  have hC := fun (a : Option Addr) (c : Nat) (w1 : World) (hc : l.length ≤ c ∧ c ≤ 9223372036854775807) (hl : IntsAt w1 .i64 a l) => contains_ints l a c hc hl y
  generalize l.contains y = B at *
  go_enter Try.func11, Try.ntmps11
  go_wp2_with fail
  refine hA.mono ?_
  rintro e w1 ⟨v, rfl, G0, h1, h2, h3⟩
  have hI := IntsIn.of_ints (F := G0) h1 (fun _ h => h)
  obtain ⟨a, c, rfl, hc1, hc2, hI⟩ := hI.form
  have hC := hC a c w1 ⟨hc1, hc2⟩ hI
  clear h1 h2 hI hA
  generalize l.length = m at *
  go_wp2_with fail
  refine hC.mono ?_
  rintro e w2 ⟨rfl, rfl⟩
  clear hC
  go_wp2_with fail
  go_ret
  exact ⟨rfl, h3⟩
set_option maxHeartbeats 1000000 in
theorem rg_splice (B : Back n S.f S.g) (x y : Int) (h : (Ob.ring p n S).holds w F) : Calls Try.prog 17 #[.pointer (some ⟨p, 0, none⟩), .int .i64 x, .int .i64 y] w fun e w' => e = .returned (.bool (inR n x && inR n y)) ∧ ∃ F', (Ob.ring p n (spliceS n S x y)).holds w' F' ∧ Moved F F' w w' := by
  have hF := (Ob.ring p n S).lt h
  have hno : (inR n x && inR n y) = false → spliceS n S x y = S := fun e => by simp [spliceS, e]
  have hyes : (inR n x && inR n y) = true → spliceS n S x y = tieS S x y (spliceR S.R x y) := fun e => by simp [spliceS, e]
  have hstay : ∃ F', (Ob.ring p n S).holds w F' ∧ Moved F F' w w := ⟨F, h, Moved.refl _ _⟩
  obtain ⟨v, hg⟩ := h
  have hs := Ob.group.open hg
  have c0 := rg_c0 (q := []) hs
  have hX := rg_has (q := []) hs x
  have hY := rg_has (q := []) hs y
  cases h1 : inR n x
  · rw [hno (by rw [h1]; rfl), Bool.false_and]
    rw [h1] at hX
    clear hs hg c0 hY hno hyes
    go_enter Try.func17, Try.ntmps17
    go_wp2_with fail
    refine hX.mono ?_
    rintro e w1 ⟨rfl, rfl⟩
    go_wp2_with fail
    go_ret
    exact ⟨rfl, hstay⟩
  cases h2 : inR n y
  · rw [hno (by rw [h2, Bool.and_false]), Bool.and_false]
    rw [h1] at hX
    rw [h2] at hY
    clear hs hg c0 hno hyes
    go_enter Try.func17, Try.ntmps17
    go_wp2_with fail
    refine hX.mono ?_
    rintro e w1 ⟨rfl, rfl⟩
    go_wp2_with fail
    refine hY.mono ?_
    rintro e w1 ⟨rfl, rfl⟩
    go_wp2_with fail
    go_ret
    exact ⟨rfl, hstay⟩
  rw [hyes (by rw [h1, h2]; rfl), Bool.and_self]
  rw [h1] at hX
  rw [h2] at hY
  rw [inR_iff] at h1 h2
  have hfx := B.inF x h1
  have hfy := B.inF y h2
  have hsame : rawT n (setI (setI S.f x (S.f y)) y (S.f x)) (setI (setI S.g (S.f y) x) (S.f x) y) = rawT n (tieS S x y (spliceR S.R x y)).f (tieS S x y (spliceR S.R x y)).g := by
    refine rawT_congr (fun i _ => ?_) (fun i _ => ?_)
    · show setI (setI S.f x (S.f y)) y (S.f x) i = swapN S.f x y i
      unfold setI swapN
      by_cases e1 : (i : Int) = y
      · rw [if_pos e1]
        by_cases e2 : (i : Int) = x
        · rw [if_pos e2, ← e2, e1]
        · rw [if_neg e2, if_pos e1]
      · rw [if_neg e1, if_neg e1]
    · show setI (setI S.g (S.f y) x) (S.f x) y i = swapB S.f S.g x y i
      unfold setI swapB
      by_cases e1 : (i : Int) = S.f x
      · rw [if_pos e1]
        by_cases e2 : (i : Int) = S.f y
        · rw [if_pos e2]
          have e3 := B.gf x h1
          rw [← e1, e2, B.gf y h2] at e3
          exact e3
        · rw [if_neg e2, if_pos e1]
      · rw [if_neg e1, if_neg e1]
  obtain ⟨i, rfl⟩ : ∃ i : Nat, x = i := ⟨x.toNat, by omega⟩
  obtain ⟨j, rfl⟩ : ∃ j : Nat, y = j := ⟨y.toNat, by omega⟩
  obtain ⟨fi, hfi⟩ : ∃ k : Nat, S.f i = k := ⟨(S.f i).toNat, by omega⟩
  obtain ⟨fj, hfj⟩ : ∃ k : Nat, S.f j = k := ⟨(S.f j).toNat, by omega⟩
  obtain ⟨b, c, rfl, hc1, hc2, hbp, hbl, hc, hf⟩ := rg_row (q := []) hs (by omega)
  have u0 := (hc i (by omega)).1
  have u1 := (hc j (by omega)).1
  rw [hfi] at u0 hsame hfx
  rw [hfj] at u1 hsame hfy
  have hi : (i : Int) < n := by omega
  have hj : (j : Int) < n := by omega
  have hT := fun u (hS : Stage F w (rgParts p (.slice (some ⟨b, 0, none⟩) n c) n S.f S.g ++ []) u) => rg_tie hS i fj (by omega) (by omega)
  have hT2 := fun u (hS : Stage F w (rgParts p (.slice (some ⟨b, 0, none⟩) n c) n (setI S.f i fj) (setI S.g fj i) ++ []) u) => rg_tie hS j fi (by omega) (by omega)
  rw [rg_same_parts hsame] at hT2
  generalize (tieS S i j (spliceR S.R i j)) = S2 at *
  clear hno hyes hstay hsame hg hc hf h1 h2 hfi hfj B
  go_enter Try.func17, Try.ntmps17
  go_wp2_with fail
  refine hX.mono ?_
  rintro e w1 ⟨rfl, rfl⟩
  clear hX
  go_wp2_with fail
  refine hY.mono ?_
  rintro e w1 ⟨rfl, rfl⟩
  clear hY
  go_wp2_with fail
  go_region
  replace hT := hT _ hs.drew
  clear hs u0 u1 c0
  generalize w.drew = w1 at *
  go_wp2_with fail
  refine hT.mono ?_
  rintro e w2 ⟨rfl, hs2⟩
  replace hT2 := hT2 _ hs2
  clear hT hs2
  go_wp2_with fail
  refine hT2.mono ?_
  rintro e w3 ⟨rfl, hs3⟩
  clear hT2
  obtain ⟨F', h5, h6⟩ := Stage.close (l := rgParts p (.slice (some ⟨b, 0, none⟩) n c) n S2.f S2.g) hs3 hF
  clear hs3
  go_wp2_with fail
  go_ret
  exact ⟨rfl, F', ⟨_, h5⟩, h6⟩
theorem rg_part (G : RGood n S) (x : Int) (h : (Ob.ring p n S).holds w F) : Calls Try.prog 16 #[.pointer (some ⟨p, 0, none⟩), .int .i64 x] w fun e w' => e = .returned (.bool (inR n x)) ∧ ∃ F', (Ob.ring p n (partS n S x)).holds w' F' ∧ Moved F F' w w' := by
  have hP := rg_prev x h
  have hS := rg_splice G.back (prevI n S x) x h
  have hstay : ∃ F', (Ob.ring p n S).holds w F' ∧ Moved F F' w w := ⟨F, h, Moved.refl _ _⟩
  clear h
  cases h1 : inR n x
  · rw [show partS n S x = S by simp [partS, h1]]
    rw [h1] at hP
    clear hS
    generalize prevI n S x = z at *
    go_enter Try.func16, Try.ntmps16
    go_wp2_with fail
    refine hP.mono ?_
    rintro e w1 ⟨rfl, rfl⟩
    go_wp2_with fail
    go_ret
    exact ⟨rfl, hstay⟩
  · have e1 : prevI n S x = S.g x := by unfold prevI; rw [if_pos h1]
    have e2 : inR n (S.g x) = true := inR_iff.2 (G.back.inG x (inR_iff.1 h1))
    have e3 : ∀ w' F', (Ob.ring p n (spliceS n S (S.g x) x)).holds w' F' → (Ob.ring p n (partS n S x)).holds w' F' := fun w' F' h => by
      unfold spliceS at h
      unfold partS
      rw [if_pos (by rw [h1, e2]; rfl)] at h
      rw [if_pos h1]
      exact h
    rw [h1] at hP hS
    rw [e1] at hP hS
    rw [e2, Bool.and_self] at hS
    clear hstay e1 e2
    generalize spliceS n S (S.g x) x = S1 at *
    generalize partS n S x = S2 at *
    generalize S.g x = z at *
    go_enter Try.func16, Try.ntmps16
    go_wp2_with fail
    refine hP.mono ?_
    rintro e w1 ⟨rfl, rfl⟩
    clear hP
    go_wp2_with fail
    refine hS.mono ?_
    rintro e w2 ⟨rfl, F', h5, h6⟩
    replace h5 := e3 _ _ h5
    clear hS e3
    go_wp2_with fail
    go_ret
    exact ⟨rfl, F', h5, h6⟩
end
end Go.Proofs.Ytfngooaobjafjaa
