/- Merged of RingTurn, FiObj, FiFreeMath. -/
import Derived.Test.YtcjjglaimfhofaaRingCalls
import Derived.Test.YtcjjglaimfhofaaAppend
import Derived.Test.YtcjjglaimfhofaaMeth
import Derived.BigRegion
import Derived.StillTailTactics
import Derived.Test.YtcjjglaimfhofaaRow
namespace Go.Proofs.Ytcjjglaimfhofaa
open Go.RowKit Go.Sort

section
variable {w : World} {p n : Nat} {S : RSt} {F : Nat → Prop}
set_option maxHeartbeats 1000000 in
theorem rg_splice (B : Back n S.f S.g) (x y : Int) (h : (Ob.ring p n S).holds w F) : Calls Try.prog 69 #[.pointer (some ⟨p, 0, none⟩), .int .i64 x, .int .i64 y] w fun e w' => e = .returned (.bool (inR n x && inR n y)) ∧ ∃ F', (Ob.ring p n (spliceS n S x y)).holds w' F' ∧ Moved F F' w w' := by
  have hF := (Ob.ring p n S).lt h
  have hno : (inR n x && inR n y) = false → spliceS n S x y = S := fun e => by simp [spliceS, e]
  have hyes : (inR n x && inR n y) = true → spliceS n S x y = tieS S x y (spliceR S.R x y) := fun e => by simp [spliceS, e]
  have hstay : ∃ F', (Ob.ring p n S).holds w F' ∧ Moved F F' w w := ⟨F, h, Moved.refl _ _⟩
  obtain ⟨v, hg⟩ := h
  have hs := Ob.group.open hg
  have c0 := rg_c0 (q := []) hs
  have hX := rg_has (q := []) hs x
  have hY := rg_has (q := []) hs y
  cases h1 : inR n x
  · rw [hno (by rw [h1]; rfl), Bool.false_and]
    rw [h1] at hX
    clear hs hg c0 hY hno hyes
    go_enter Try.func69, Try.ntmps69
    go_wp2_with fail
    refine hX.mono ?_
    rintro e w1 ⟨rfl, rfl⟩
    go_wp2_with fail
    go_ret
    exact ⟨rfl, hstay⟩
  cases h2 : inR n y
  · rw [hno (by rw [h2, Bool.and_false]), Bool.and_false]
    rw [h1] at hX
    rw [h2] at hY
    clear hs hg c0 hno hyes
    go_enter Try.func69, Try.ntmps69
    go_wp2_with fail
    refine hX.mono ?_
    rintro e w1 ⟨rfl, rfl⟩
    go_wp2_with fail
    refine hY.mono ?_
    rintro e w1 ⟨rfl, rfl⟩
    go_wp2_with fail
    go_ret
    exact ⟨rfl, hstay⟩
  rw [hyes (by rw [h1, h2]; rfl), Bool.and_self]
  rw [h1] at hX
  rw [h2] at hY
  rw [inR_iff] at h1 h2
  have hfx := B.inF x h1
  have hfy := B.inF y h2
  have hsame : rawT n (setI (setI S.f x (S.f y)) y (S.f x)) (setI (setI S.g (S.f y) x) (S.f x) y) = rawT n (tieS S x y (spliceR S.R x y)).f (tieS S x y (spliceR S.R x y)).g := by
    refine rawT_congr (fun i _ => ?_) (fun i _ => ?_)
    · show setI (setI S.f x (S.f y)) y (S.f x) i = swapN S.f x y i
      unfold setI swapN
      by_cases e1 : (i : Int) = y
      · rw [if_pos e1]
        by_cases e2 : (i : Int) = x
        · rw [if_pos e2, ← e2, e1]
        · rw [if_neg e2, if_pos e1]
      · rw [if_neg e1, if_neg e1]
    · show setI (setI S.g (S.f y) x) (S.f x) y i = swapB S.f S.g x y i
      unfold setI swapB
      by_cases e1 : (i : Int) = S.f x
      · rw [if_pos e1]
        by_cases e2 : (i : Int) = S.f y
        · rw [if_pos e2]
          have e3 := B.gf x h1
          rw [← e1, e2, B.gf y h2] at e3
          exact e3
        · rw [if_neg e2, if_pos e1]
      · rw [if_neg e1, if_neg e1]
  obtain ⟨i, rfl⟩ : ∃ i : Nat, x = i := ⟨x.toNat, by omega⟩
  obtain ⟨j, rfl⟩ : ∃ j : Nat, y = j := ⟨y.toNat, by omega⟩
  obtain ⟨fi, hfi⟩ : ∃ k : Nat, S.f i = k := ⟨(S.f i).toNat, by omega⟩
  obtain ⟨fj, hfj⟩ : ∃ k : Nat, S.f j = k := ⟨(S.f j).toNat, by omega⟩
  obtain ⟨b, c, rfl, hc1, hc2, hbp, hbl, hc, hf⟩ := rg_row (q := []) hs (by omega)
  have u0 := (hc i (by omega)).1
  have u1 := (hc j (by omega)).1
  rw [hfi] at u0 hsame hfx
  rw [hfj] at u1 hsame hfy
  have hi : (i : Int) < n := by omega
  have hj : (j : Int) < n := by omega
  have hT := fun u (hS : Stage F w (rgParts p (.slice (some ⟨b, 0, none⟩) n c) n S.f S.g ++ []) u) => rg_tie hS i fj (by omega) (by omega)
  have hT2 := fun u (hS : Stage F w (rgParts p (.slice (some ⟨b, 0, none⟩) n c) n (setI S.f i fj) (setI S.g fj i) ++ []) u) => rg_tie hS j fi (by omega) (by omega)
  rw [rg_same_parts hsame] at hT2
  generalize (tieS S i j (spliceR S.R i j)) = S2 at *
  clear hno hyes hstay hsame hg hc hf h1 h2 hfi hfj B
  go_enter Try.func69, Try.ntmps69
  go_wp2_with fail
  refine hX.mono ?_
  rintro e w1 ⟨rfl, rfl⟩
  clear hX
  go_wp2_with fail
  refine hY.mono ?_
  rintro e w1 ⟨rfl, rfl⟩
  clear hY
  go_wp2_with fail
  go_region
  replace hT := hT _ hs.drew
  clear hs u0 u1 c0
  generalize w.drew = w1 at *
  go_wp2_with fail
  refine hT.mono ?_
  rintro e w2 ⟨rfl, hs2⟩
  replace hT2 := hT2 _ hs2
  clear hT hs2
  go_wp2_with fail
  refine hT2.mono ?_
  rintro e w3 ⟨rfl, hs3⟩
  clear hT2
  obtain ⟨F', h5, h6⟩ := Stage.close (l := rgParts p (.slice (some ⟨b, 0, none⟩) n c) n S2.f S2.g) hs3 hF
  clear hs3
  go_wp2_with fail
  go_ret
  exact ⟨rfl, F', ⟨_, h5⟩, h6⟩
theorem rg_part (G : RGood n S) (x : Int) (h : (Ob.ring p n S).holds w F) : Calls Try.prog 87 #[.pointer (some ⟨p, 0, none⟩), .int .i64 x] w fun e w' => e = .returned (.bool (inR n x)) ∧ ∃ F', (Ob.ring p n (partS n S x)).holds w' F' ∧ Moved F F' w w' := by
  have hP := rg_prev x h
  have hS := rg_splice G.back (prevI n S x) x h
  have hstay : ∃ F', (Ob.ring p n S).holds w F' ∧ Moved F F' w w := ⟨F, h, Moved.refl _ _⟩
  clear h
  cases h1 : inR n x
  · rw [show partS n S x = S by simp [partS, h1]]
    rw [h1] at hP
    clear hS
    generalize prevI n S x = z at *
    go_enter Try.func87, Try.ntmps87
    go_wp2_with fail
    refine hP.mono ?_
    rintro e w1 ⟨rfl, rfl⟩
    go_wp2_with fail
    go_ret
    exact ⟨rfl, hstay⟩
  · have e1 : prevI n S x = S.g x := by unfold prevI; rw [if_pos h1]
    have e2 : inR n (S.g x) = true := inR_iff.2 (G.back.inG x (inR_iff.1 h1))
    have e3 : ∀ w' F', (Ob.ring p n (spliceS n S (S.g x) x)).holds w' F' → (Ob.ring p n (partS n S x)).holds w' F' := fun w' F' h => by
      unfold spliceS at h
      unfold partS
      rw [if_pos (by rw [h1, e2]; rfl)] at h
      rw [if_pos h1]
      exact h
    rw [h1] at hP hS
    rw [e1] at hP hS
    rw [e2, Bool.and_self] at hS
    clear hstay e1 e2
    generalize spliceS n S (S.g x) x = S1 at *
    generalize partS n S x = S2 at *
    generalize S.g x = z at *
    go_enter Try.func87, Try.ntmps87
    go_wp2_with fail
    refine hP.mono ?_
    rintro e w1 ⟨rfl, rfl⟩
    clear hP
    go_wp2_with fail
    refine hS.mono ?_
    rintro e w2 ⟨rfl, F', h5, h6⟩
    replace h5 := e3 _ _ h5
    clear hS e3
    go_wp2_with fail
    go_ret
    exact ⟨rfl, F', h5, h6⟩
end
end Go.Proofs.Ytcjjglaimfhofaa

namespace Go.Proofs.Ytcjjglaimfhofaa
open Go.RowKit Go.Sort

def fbF (f c rp : Nat) (v : Value) (n : Nat) (W : WS) (s : Int) (T : Int → Node) (S : RSt) : List Ob :=
  [Ob.box f #[ptrV c, ptrV rp, v] 111, Ob.cells c W s, Ob.row 0 109 4 v n (cellsBy ndC (rawN n T)), Ob.ring rp n S]
section
variable {F0 : Nat → Prop} {W0 w : World} {f c rp n : Nat} {v : Value} {W : WS} {s : Int} {T : Int → Node} {S : RSt} {q : List Ob}
theorem nf_c0 (h : Stage F0 W0 (fbF f c rp v n W s T S ++ q) w) : w.cell? ⟨f, 0, none⟩ = some (ptrV c) := h.cell 0 rfl rfl
theorem nf_c1 (h : Stage F0 W0 (fbF f c rp v n W s T S ++ q) w) : w.cell? ⟨f, 1, none⟩ = some (ptrV rp) := h.cell 0 rfl rfl
theorem nf_c2 (h : Stage F0 W0 (fbF f c rp v n W s T S ++ q) w) : w.cell? ⟨f, 2, none⟩ = some v := h.cell 0 rfl rfl
theorem nf_fit (h : Stage F0 W0 (fbF f c rp v n W s T S ++ q) w) : W.Fit ∧ 0 ≤ s ∧ s ≤ 4611686018427387904 := by
  obtain ⟨G, ho⟩ := h.get (i := 1) rfl
  exact ⟨Ob.cells.fit ho, Ob.cells.steps ho⟩
theorem nf_row (h : Stage F0 W0 (fbF f c rp v n W s T S ++ q) w) (hn : 0 < n) : ∃ g k, v = .slice (some ⟨g, 0, none⟩) n k ∧ n ≤ k ∧ k ≤ 9223372036854775807 ∧ g ≠ f ∧
    (∀ i, i < n → w.cell? ⟨g, i * 4, none⟩ = some (.int .i64 (T i).up) ∧ w.cell? ⟨g, i * 4 + 1, none⟩ = some (.int .i64 (T i).kid) ∧ w.cell? ⟨g, i * 4 + 2, none⟩ = some (.int .i64 (T i).deg) ∧ w.cell? ⟨g, i * 4 + 3, none⟩ = some (.bool (T i).lost)) ∧ ∀ o, w.frozen? ⟨g, o, none⟩ = false := by
  obtain ⟨g, k, hv, h1, h2, _, h4, hc, hf⟩ := owns_at ndC_len .no (h.owns 2 rfl) (rawN_len n T) hn
  have hne := h.rowNe 2 0 rfl rfl (by decide)
  subst hv
  refine ⟨g, k, rfl, h1, by unfold maxLen at h2; omega, fun e => hne (by rw [← e]; rfl), fun i hi => ?_, hf⟩
  have e := rawN_at T hi .no
  exact ⟨hc i 0 _ hi (by omega) (by rw [e]; rfl), hc i 1 _ hi (by omega) (by rw [e]; rfl), hc i 2 _ hi (by omega) (by rw [e]; rfl), hc i 3 _ hi (by omega) (by rw [e]; rfl)⟩
section
variable {g k x : Nat}
theorem nf_up (h : Stage F0 W0 (fbF f c rp (.slice (some ⟨g, 0, none⟩) n k) n W s T S ++ q) w) (hx : x < n) (y : Int) : Stage F0 W0 (fbF f c rp (.slice (some ⟨g, 0, none⟩) n k) n W s (setN T x ⟨y, (T x).kid, (T x).deg, (T x).lost⟩) S ++ q) (w.setCell ⟨g, x * 4, none⟩ (.int .i64 y)) :=
  h.storeRow 2 rfl (x * 4) (.int .i64 y) (nd_up T hx y)
theorem nf_kid (h : Stage F0 W0 (fbF f c rp (.slice (some ⟨g, 0, none⟩) n k) n W s T S ++ q) w) (hx : x < n) (y : Int) : Stage F0 W0 (fbF f c rp (.slice (some ⟨g, 0, none⟩) n k) n W s (setN T x ⟨(T x).up, y, (T x).deg, (T x).lost⟩) S ++ q) (w.setCell ⟨g, x * 4 + 1, none⟩ (.int .i64 y)) :=
  h.storeRow 2 rfl (x * 4 + 1) (.int .i64 y) (nd_kid T hx y)
theorem nf_deg (h : Stage F0 W0 (fbF f c rp (.slice (some ⟨g, 0, none⟩) n k) n W s T S ++ q) w) (hx : x < n) (y : Int) : Stage F0 W0 (fbF f c rp (.slice (some ⟨g, 0, none⟩) n k) n W s (setN T x ⟨(T x).up, (T x).kid, y, (T x).lost⟩) S ++ q) (w.setCell ⟨g, x * 4 + 2, none⟩ (.int .i64 y)) :=
  h.storeRow 2 rfl (x * 4 + 2) (.int .i64 y) (nd_deg T hx y)
theorem nf_lost (h : Stage F0 W0 (fbF f c rp (.slice (some ⟨g, 0, none⟩) n k) n W s T S ++ q) w) (hx : x < n) (y : Bool) : Stage F0 W0 (fbF f c rp (.slice (some ⟨g, 0, none⟩) n k) n W s (setN T x ⟨(T x).up, (T x).kid, (T x).deg, y⟩) S ++ q) (w.setCell ⟨g, x * 4 + 3, none⟩ (.bool y)) :=
  h.storeRow 2 rfl (x * 4 + 3) (.bool y) (nd_lost T hx y)
end
/-- Which of two is ahead, and the other one. -/
theorem order_fb (h : Stage F0 W0 (fbF f c rp v n W s T S ++ q) w) (a b : Int) : Calls Try.prog 70 #[.pointer (some ⟨f, 0, none⟩), .int .i64 a, .int .i64 b] w fun e w' =>
    e = .returned (.tuple #[.int .i64 (if aheadW W b a = true then b else a), .int .i64 (if aheadW W b a = true then a else b)]) ∧ Stage F0 W0 (fbF f c rp v n W (aheadS W s b a) T S ++ q) w' := by
  have c0 := nf_c0 h
  have hA : Calls Try.prog 82 #[.pointer (some ⟨c, 0, none⟩), .int .i64 b, .int .i64 a] w fun e w' => e = .returned (.bool (aheadW W b a)) ∧ Stage F0 W0 (fbF f c rp v n W (aheadS W s b a) T S ++ q) w' := h.call 1 rfl fun _ ho => ahead_cl b a ho
  generalize aheadS W s b a = s1 at *
  clear h
  cases hB : aheadW W b a
  all_goals
    rw [hB] at hA
    simp only [Bool.false_eq_true, if_false, if_true]
    go_enter Try.func70, Try.ntmps70
    go_wp2_with fail
    refine hA.mono ?_
    rintro e w1 ⟨rfl, h1⟩
    clear hA
    go_wp2_with fail
    go_ret2
    exact ⟨rfl, h1⟩
/-- Is nothing above a slot of which it isn't ahead? -/
theorem rises_fb (h : Stage F0 W0 (fbF f c rp v n W s T S ++ q) w) {x : Nat} (hx : x < n) : Calls Try.prog 128 #[.pointer (some ⟨f, 0, none⟩), .int .i64 x] w fun e w' =>
    ∃ s', e = .returned (.bool ((T x).up == -1 || aheadW W x (T x).up)) ∧ (s ≤ s' ∧ s' ≤ s + 1) ∧ Stage F0 W0 (fbF f c rp v n W s' T S ++ q) w' := by
  obtain ⟨g, k, rfl, h1, h2, hgf, hc, hf⟩ := nf_row h (by omega)
  have c0 := nf_c0 h
  have c2 := nf_c2 h
  obtain ⟨u0, _, _, _⟩ := hc x hx
  have hst := (nf_fit h).2
  obtain ⟨p, hp⟩ : ∃ p, (T x).up = p := ⟨_, rfl⟩
  rw [hp] at u0 ⊢
  by_cases e : p = -1
  · subst e
    clear hc hf
    go_enter Try.func128, Try.ntmps128
    go_wp2_with fail
    go_ret
    exact ⟨s, rfl, ⟨Int.le_refl _, by omega⟩, h⟩
  · have he : (p == -1) = false := by simpa using e
    have hA : Calls Try.prog 82 #[.pointer (some ⟨c, 0, none⟩), .int .i64 x, .int .i64 p] w fun e w' => e = .returned (.bool (aheadW W x p)) ∧ Stage F0 W0 (fbF f c rp (.slice (some ⟨g, 0, none⟩) n k) n W (aheadS W s x p) T S ++ q) w' := h.call 1 rfl fun _ ho => ahead_cl x p ho
    have hr : s ≤ aheadS W s x p ∧ aheadS W s x p ≤ s + 1 := by
      unfold aheadS addI
      repeat' split
      all_goals omega
    rw [he, Bool.false_or]
    generalize aheadS W s x p = s1 at *
    generalize aheadW W x p = B at *
    clear hc hf h e hp
    go_enter Try.func128, Try.ntmps128
    go_wp2_with fail
    refine hA.mono ?_
    rintro e w1 ⟨rfl, h1⟩
    go_wp2_with fail
    go_ret
    exact ⟨s1, rfl, hr, h1⟩
set_option maxHeartbeats 1000000 in
/-- A slot comes off what is above it. -/
theorem cut_fb (h : Stage F0 W0 (fbF f c rp v n W s T S ++ q) w) {K : Int → List Int} {R : Nat → List Int} (H : FTied n K R T S) (I : FbInv n K) (hR : FRoots n K R) {p : Int} {x : Nat} (hp : (x : Int) ∈ K p) :
    Calls Try.prog 95 #[.pointer (some ⟨f, 0, none⟩), .int .i64 x] w fun e w' => e = .returned (.int .i64 p) ∧ ∃ T', FTied n (cutK K p x) R T' (partS n S x) ∧ (∀ y, (T' y).lost = (T y).lost) ∧ Stage F0 W0 (fbF f c rp v n W s T' (partS n S x) ++ q) w' := by
  obtain ⟨⟨hp0, hpn⟩, ⟨_, hxn⟩⟩ := I.rng p x hp
  have hx : x < n := by omega
  obtain ⟨p, rfl⟩ : ∃ i : Nat, p = i := ⟨p.toNat, by omega⟩
  have hpn' : p < n := by omega
  have hxp : (x : Int) ≠ p := fun e => fb_self I hp e
  have hpx : (p : Int) ≠ x := fun e => hxp e.symm
  have hup := H.up _ _ hp
  have hdg := H.deg p ⟨by omega, by omega⟩
  have hlen := List.length_pos_of_mem hp
  have hlen2 : (K p).length ≤ n := nodup_below n _ (I.nodup p) fun y hy => (I.rng p y hy).2
  have hn6 := H.good.few
  obtain ⟨g, k, rfl, h1, h2, hgf, hc, hf⟩ := nf_row h (by omega)
  have c1 := nf_c1 h
  have c2 := nf_c2 h
  obtain ⟨u0, _, _, _⟩ := hc x hx
  rw [hup] at u0
  have hN := h.ask 3 rfl (fun _ ho => rg_next x ho)
  have hP := h.call 3 rfl (fun _ ho => rg_part H.good x ho)
  have hT := fun T' hu hk hd => H.cut (T' := T') I hR hp hu hk hd
  unfold kidAt at hT
  clear hc hf
  generalize nextI n S x = nx at *
  generalize inR n x = ix at *
  by_cases e : nx = x
  · subst e
    rw [if_pos rfl] at hT
    go_enter Try.func95, Try.ntmps95
    go_wp2_with fail
    refine hN.mono ?_
    rintro e w1 ⟨rfl, rfl⟩
    go_wp2_with fail
    refine hP.mono ?_
    rintro e w1 ⟨rfl, h3⟩
    replace h3 : Stage F0 W0 (fbF f c rp (.slice (some ⟨g, 0, none⟩) n k) n W s T (partS n S x) ++ q) w1 := h3
    clear hN hP h u0 c1 c2
    obtain ⟨g', k', e, _, _, _, hc, hf⟩ := nf_row h3 (by omega)
    cases e
    have c2 := nf_c2 h3
    obtain ⟨_, v1, v2, _⟩ := hc p hpn'
    obtain ⟨u0, _, _, _⟩ := hc x hx
    rw [hdg] at v2
    have f1 := hf (p * 4 + 1)
    have f2 := hf (p * 4 + 2)
    have f0 := hf (x * 4)
    have hw : IntKind.i64.wrap (((K p).length : Int) - 1) = ((K p).length : Int) - 1 := IntWalk.i64_in _ (by omega)
    have h4 := nf_up (nf_deg (nf_kid h3 hpn' (-1)) hpn' (((K p).length : Int) - 1)) hx (-1)
    have hTT := hT (setN (setN (setN T p ⟨(T p).up, -1, (T p).deg, (T p).lost⟩) p ⟨(T p).up, -1, ((K p).length : Int) - 1, (T p).lost⟩) x ⟨-1, (T x).kid, (T x).deg, (T x).lost⟩)
      (fun y => by simp only [setN]; (repeat' split) <;> first | rfl | (simp_all; done) | omega) (fun y => by simp only [setN]; (repeat' split) <;> first | rfl | (simp_all; done) | omega) (fun y => by simp only [setN, hdg]; (repeat' split) <;> first | rfl | (simp_all; done) | omega)
    have hL : ∀ y, ((setN (setN (setN T p ⟨(T p).up, -1, (T p).deg, (T p).lost⟩) p ⟨(T p).up, -1, ((K p).length : Int) - 1, (T p).lost⟩) x ⟨-1, (T x).kid, (T x).deg, (T x).lost⟩) y).lost = (T y).lost := fun y => by simp only [setN]; (repeat' split) <;> simp_all
    rw [setN_at, setN_ne _ _ hxp, setN_ne _ _ hxp] at h4
    dsimp only at h4
    clear hc hf h3 hT H I hR hup hdg hp
    generalize (K p).length = m at *
    go_wp2_with fail
    go_ret
    exact ⟨rfl, _, hTT, hL, h4⟩
  · have he : (nx == (x : Int)) = false := by simpa using e
    rw [if_neg e] at hT
    go_enter Try.func95, Try.ntmps95
    go_wp2_with fail
    refine hN.mono ?_
    rintro e w1 ⟨rfl, rfl⟩
    go_wp2_with fail
    refine hP.mono ?_
    rintro e w1 ⟨rfl, h3⟩
    replace h3 : Stage F0 W0 (fbF f c rp (.slice (some ⟨g, 0, none⟩) n k) n W s T (partS n S x) ++ q) w1 := h3
    clear hN hP h u0 c1 c2
    obtain ⟨g', k', e, _, _, _, hc, hf⟩ := nf_row h3 (by omega)
    cases e
    have c2 := nf_c2 h3
    obtain ⟨_, v1, v2, _⟩ := hc p hpn'
    obtain ⟨u0, _, _, _⟩ := hc x hx
    rw [hdg] at v2
    have f1 := hf (p * 4 + 1)
    have f2 := hf (p * 4 + 2)
    have f0 := hf (x * 4)
    have hw : IntKind.i64.wrap (((K p).length : Int) - 1) = ((K p).length : Int) - 1 := IntWalk.i64_in _ (by omega)
    have h4 := nf_up (nf_deg (nf_kid h3 hpn' nx) hpn' (((K p).length : Int) - 1)) hx (-1)
    have hTT := hT (setN (setN (setN T p ⟨(T p).up, nx, (T p).deg, (T p).lost⟩) p ⟨(T p).up, nx, ((K p).length : Int) - 1, (T p).lost⟩) x ⟨-1, (T x).kid, (T x).deg, (T x).lost⟩)
      (fun y => by simp only [setN]; (repeat' split) <;> first | rfl | (simp_all; done) | omega) (fun y => by simp only [setN]; (repeat' split) <;> first | rfl | (simp_all; done) | omega) (fun y => by simp only [setN, hdg]; (repeat' split) <;> first | rfl | (simp_all; done) | omega)
    have hL : ∀ y, ((setN (setN (setN T p ⟨(T p).up, nx, (T p).deg, (T p).lost⟩) p ⟨(T p).up, nx, ((K p).length : Int) - 1, (T p).lost⟩) x ⟨-1, (T x).kid, (T x).deg, (T x).lost⟩) y).lost = (T y).lost := fun y => by simp only [setN]; (repeat' split) <;> simp_all
    rw [setN_at, setN_ne _ _ hxp, setN_ne _ _ hxp] at h4
    dsimp only at h4
    clear hc hf h3 hT H I hR hup hdg hp
    generalize (K p).length = m at *
    go_wp2_with fail
    go_ret
    exact ⟨rfl, _, hTT, hL, h4⟩
end
end Go.Proofs.Ytcjjglaimfhofaa

namespace Go.Proofs.Ytcjjglaimfhofaa

theorem sub_len : ∀ {m l : List Int}, m.Nodup → (∀ y ∈ m, y ∈ l) → m.length ≤ l.length := fun {m} => by
  induction m with
  | nil => intro l _ _; simp
  | cons a m ih =>
    intro l hd hs
    obtain ⟨h1, h2⟩ := List.nodup_cons.1 hd
    have ha := hs a (by simp)
    have := ih (l := l.erase a) h2 fun y hy => (List.mem_erase_of_ne (show y ≠ a from fun e => h1 (by rw [← e]; exact hy))).2 (hs y (by simp [hy]))
    rw [List.length_erase_of_mem ha] at this
    have := List.length_pos_of_mem ha
    simp only [List.length_cons]
    omega
def looseP (W : WS) (K : Int → List Int) (mk : Int → Bool) (y : Int) : Prop := inW W y = true ∧ (fbTop K y ∨ mk y = true)
noncomputable def potL (W : WS) (K : Int → List Int) (mk : Int → Bool) : List Int := ((List.range W.cells.length).map fun i : Nat => (i : Int)).filter fun y => @decide (looseP W K mk y) (Classical.propDecidable _)
noncomputable def potN (W : WS) (K : Int → List Int) (mk : Int → Bool) : Nat := (potL W K mk).length
theorem potL_nd (W : WS) (K : Int → List Int) (mk : Int → Bool) : (potL W K mk).Nodup := (ints_nodup _).filter _
theorem mem_potL {W : WS} {K : Int → List Int} {mk : Int → Bool} {y : Int} : y ∈ potL W K mk ↔ looseP W K mk y := by
  unfold potL
  rw [List.mem_filter, mem_ints]
  constructor
  · intro h; exact (@decide_eq_true_iff _ (Classical.propDecidable _)).1 h.2
  · intro h; exact ⟨prin_slot h.1, (@decide_eq_true_iff _ (Classical.propDecidable _)).2 h⟩
/-- Who becomes loose costs one, who is loose no more pays one. -/
theorem pot_step {W W' : WS} {K K' : Int → List Int} {mk mk' : Int → Bool} (c d : List Int) (hd : d.Nodup) (h1 : ∀ y, looseP W' K' mk' y → looseP W K mk y ∨ y ∈ c) (h2 : ∀ y ∈ d, looseP W K mk y ∧ ¬ looseP W' K' mk' y) : potN W' K' mk' + d.length ≤ potN W K mk + c.length := by
  have := sub_len (m := d ++ potL W' K' mk') (l := potL W K mk ++ c) (by
    rw [List.nodup_append]
    refine ⟨hd, potL_nd _ _ _, fun a ha b hb e => ?_⟩
    subst e
    exact (h2 a ha).2 (mem_potL.1 hb)) (fun y hy => by
    rw [List.mem_append, mem_potL]
    rcases List.mem_append.1 hy with h | h
    · exact Or.inl (h2 y h).1
    · exact h1 y (mem_potL.1 h))
  rw [List.length_append, List.length_append] at this
  unfold potN
  omega
theorem FTied.congr {n : Nat} {K : Int → List Int} {R : Nat → List Int} {T T' : Int → Node} {S : RSt} (H : FTied n K R T S) (hu : ∀ y, (T' y).up = (T y).up) (hk : ∀ y, (T' y).kid = (T y).kid) (hd : ∀ y, (T' y).deg = (T y).deg) : FTied n K R T' S :=
  ⟨H.good, fun p x hx => by rw [hu]; exact H.up p x hx, fun x hx ht => by rw [hu]; exact H.top x hx ht, fun p hp => by rw [hk]; exact H.kid p hp, fun p hp => by rw [hd]; exact H.deg p hp, H.rk, H.rr, H.r1⟩
abbrev lostOf (T : Int → Node) : Int → Bool := fun y => (T y).lost
/-- How far a slot's coming off has come: x is to come off next. -/
structure FreeJ (n : Nat) (W : WS) (i : Nat) (a x0 : Int) (R0 : Nat → List Int) (K0 : Int → List Int) (P0 : Nat) (K : Int → List Int) (R : Nat → List Int) (T : Int → Node) (S : RSt) (x : Int) : Prop where
  len : W.cells.length = n
  mid : FiMid W K R noE
  tied : FTied n K R T S
  deg : ∃ had, FiDeg K had (lostOf T) fun y => y = x
  inw : inW W x = true
  home : (cellW W x).home = i
  first : a ∈ R i
  off : ∀ g, g ≠ i → R g = R0 g
  sub : ∀ y ∈ R0 i, y ∈ R i
  pot : (potN W K (lostOf T) ≤ P0 ∧ x = x0) ∨ (potN W K (lostOf T) ≤ P0 + 1 ∧ (T x).lost = true)
  at0 : x = x0 ∨ x0 ∈ R i
  idle : fbTop K0 x0 → K = K0 ∧ R = R0 ∧ x = x0
structure FreeEnd (n : Nat) (W : WS) (i : Nat) (a x0 : Int) (R0 : Nat → List Int) (K0 : Int → List Int) (P0 : Nat) (K : Int → List Int) (R : Nat → List Int) (T : Int → Node) (S : RSt) : Prop where
  len : W.cells.length = n
  mid : FiMid W K R noE
  tied : FTied n K R T S
  deg : ∃ had, FiDeg K had (lostOf T) noE
  first : a ∈ R i
  off : ∀ g, g ≠ i → R g = R0 g
  sub : ∀ y ∈ R0 i, y ∈ R i
  pot : potN W K (lostOf T) ≤ P0 + 2
  at0 : x0 ∈ R i
  idle : fbTop K0 x0 → K = K0 ∧ R = R0
section
variable {n : Nat} {W : WS} {i : Nat} {a x0 x p : Int} {R0 : Nat → List Int} {K0 : Int → List Int} {P0 : Nat} {K : Int → List Int} {R : Nat → List Int} {T T' T2 : Int → Node} {S S1 : RSt}
theorem FreeJ.stop (J : FreeJ n W i a x0 R0 K0 P0 K R T S x) (ht : fbTop K x) : FreeEnd n W i a x0 R0 K0 P0 K R T S := by
  obtain ⟨had, D⟩ := J.deg
  refine ⟨J.len, J.mid, J.tied, ⟨had, D.free fun y e => Or.inl (e ▸ ht)⟩, J.first, J.off, J.sub, ?_, ?_, fun h => ⟨(J.idle h).1, (J.idle h).2.1⟩⟩
  · rcases J.pot with h | h <;> omega
  · rcases J.at0 with h | h
    · have := (J.mid.top x J.inw ht).elim id False.elim
      rwa [J.home, h] at this
    · exact h
theorem FreeJ.up (J : FreeJ n W i a x0 R0 K0 P0 K R T S x) : (fbTop K x ∧ (T x).up = -1) ∨ ∃ p, x ∈ K p ∧ (T x).up = p ∧ p ≠ -1 := by
  by_cases ht : fbTop K x
  · exact Or.inl ⟨ht, J.tied.top x (J.len ▸ prin_slot J.inw) ht⟩
  · obtain ⟨p, hp⟩ : ∃ p, x ∈ K p := Classical.byContradiction fun h => ht fun p hp => h ⟨p, hp⟩
    refine Or.inr ⟨p, hp, J.tied.up p x hp, fun e => ?_⟩
    have := (J.mid.f.fb.rng p x hp).1.1
    omega
/-- What there is behind a cut and a splice. -/
theorem FreeJ.cut (J : FreeJ n W i a x0 R0 K0 P0 K R T S x) (hx : x ∈ K p) (H : FTied n (cutK K p x) R T' S1) (_hL : ∀ y, (T' y).lost = (T y).lost) :
    FTied n (cutK K p x) (updR R i (x :: R i)) T' (spliceS n S1 a x) ∧ FiMid W (cutK K p x) (updR R i (x :: R i)) noE ∧ (∀ y, fbTop (cutK K p x) y → y = x ∨ fbTop K y) ∧ inW W p = true ∧ (cellW W p).home = i ∧ x ≠ p := by
  have I := J.mid.f.fb
  rw [J.len] at I
  have hm := mem_cutK I hx
  obtain ⟨q1, q2, _⟩ := J.mid.f.kin p x hx
  have M := J.mid.cut (K' := cutK K p x) hx hm (fun q => cutK_nd I q)
  have M2 := M.add (h := i) (t := x) (l := x :: R i) (fun e => e) J.home (List.Perm.refl _)
  have hro := M.roots
  rw [J.len] at hro
  have hxt : fbTop (cutK K p x) x := fun q hq => ((hm x q).1 hq).2 rfl
  have hxn : ∀ g, x ∉ R g := fun g k => (J.mid.is g x k).2.2.2.1 p hx
  have hI1 := M.f.fb
  rw [J.len] at hI1
  refine ⟨H.put hI1 hro J.first (J.len ▸ prin_slot q1) hxt hxn (List.Perm.refl _), M2, fun y hy => ?_, J.mid.f.par hx, by rw [← q2]; exact J.home, fun e => fb_self I hx e⟩
  by_cases e : y = x
  · exact Or.inl e
  · exact Or.inr fun q hq => hy q ((hm y q).2 ⟨hq, e⟩)
theorem FreeJ.next (J : FreeJ n W i a x0 R0 K0 P0 K R T S x) (hx : x ∈ K p) (H : FTied n (cutK K p x) R T' S1) (hL : ∀ y, (T' y).lost = (T y).lost) (hp : (T p).lost = true) : FreeJ n W i a x0 R0 K0 P0 (cutK K p x) (updR R i (x :: R i)) T' (spliceS n S1 a x) p := by
  obtain ⟨h1, h2, h3, h4, h5, h6⟩ := J.cut hx H hL
  have I := J.mid.f.fb
  obtain ⟨had, D⟩ := J.deg
  have hat : updR R i (x :: R i) i = x :: R i := updR_at _ _ _
  have hlo : lostOf T' = lostOf T := funext hL
  refine ⟨J.len, h2, h1, ⟨had, ?_⟩, h4, h5, by rw [hat]; exact List.mem_cons_of_mem _ J.first, fun g hg => by rw [updR_off _ _ hg]; exact J.off g hg, fun y hy => by rw [hat]; exact List.mem_cons_of_mem _ (J.sub y hy), Or.inr ⟨?_, by rw [hL]; exact hp⟩, Or.inr ?_, fun h => (by obtain ⟨e1, _, e3⟩ := J.idle h; rw [e1, e3] at hx; exact absurd hx (h p))⟩
  · have := D.cut (K' := cutK K p x) (X' := fun y => y = p) hx (by rw [show cutK K p x p = (K p).erase x from if_pos rfl]; exact List.perm_cons_erase hx) (fun q e => if_neg e) true (fun y e1 e2 => ⟨fun e => absurd e e2, fun e => absurd e e1⟩) (fun e => absurd rfl e) (fun q hq => ((mem_cutK I hx x q).1 hq).2 rfl)
    refine this.marks fun q y _ => ?_
    unfold updM
    split
    · rename_i e; rw [e]; show (T' p).lost = true; rw [hL]; exact hp
    · exact hL y
  · rw [hlo]
    rcases J.pot with ⟨e1, e2⟩ | ⟨e1, e2⟩
    · have := pot_step (W := W) (W' := W) (K := K) (K' := cutK K p x) (mk := lostOf T) (mk' := lostOf T) [x] [] List.nodup_nil (fun y hy => by
        rcases hy.2 with k | k
        · rcases h3 y k with k | k
          · exact Or.inr (by simp [k])
          · exact Or.inl ⟨hy.1, Or.inl k⟩
        · exact Or.inl ⟨hy.1, Or.inr k⟩) (fun y hy => by cases hy)
      simp only [List.length_nil, List.length_cons] at this
      omega
    · have := pot_step (W := W) (W' := W) (K := K) (K' := cutK K p x) (mk := lostOf T) (mk' := lostOf T) [] [] List.nodup_nil (fun y hy => by
        rcases hy.2 with k | k
        · rcases h3 y k with k | k
          · exact Or.inl ⟨hy.1, Or.inr (by rw [k]; exact e2)⟩
          · exact Or.inl ⟨hy.1, Or.inl k⟩
        · exact Or.inl ⟨hy.1, Or.inr k⟩) (fun y hy => by cases hy)
      simp only [List.length_nil] at this
      omega
  · rw [hat]
    rcases J.at0 with e | e
    · rw [e]; simp
    · exact List.mem_cons_of_mem _ e
theorem FreeJ.last (J : FreeJ n W i a x0 R0 K0 P0 K R T S x) (hx : x ∈ K p) (H : FTied n (cutK K p x) R T' S1) (hL : ∀ y, (T' y).lost = (T y).lost) (hp : (T p).lost = false)
    (hu : ∀ y, (T2 y).up = (T' y).up) (hk : ∀ y, (T2 y).kid = (T' y).kid) (hd : ∀ y, (T2 y).deg = (T' y).deg) (hL2 : ∀ y, (T2 y).lost = if y = p then true else (T' y).lost) : FreeEnd n W i a x0 R0 K0 P0 (cutK K p x) (updR R i (x :: R i)) T2 (spliceS n S1 a x) := by
  obtain ⟨h1, h2, h3, h4, h5, h6⟩ := J.cut hx H hL
  have I := J.mid.f.fb
  obtain ⟨had, D⟩ := J.deg
  have hat : updR R i (x :: R i) i = x :: R i := updR_at _ _ _
  have hlo : ∀ y, (T2 y).lost = if y = p then true else (T y).lost := fun y => by rw [hL2, hL]
  refine ⟨J.len, h2, h1.congr hu hk hd, ⟨had, ?_⟩, by rw [hat]; exact List.mem_cons_of_mem _ J.first, fun g hg => by rw [updR_off _ _ hg]; exact J.off g hg, fun y hy => by rw [hat]; exact List.mem_cons_of_mem _ (J.sub y hy), ?_, ?_, fun h => (by obtain ⟨e1, _, e3⟩ := J.idle h; rw [e1, e3] at hx; exact absurd hx (h p))⟩
  · have := D.cut (K' := cutK K p x) (X' := noE) hx (by rw [show cutK K p x p = (K p).erase x from if_pos rfl]; exact List.perm_cons_erase hx) (fun q e => if_neg e) true (fun y e1 e2 => ⟨fun e => e.elim, fun e => absurd e e1⟩) (fun _ => ⟨fun e => h6 e.symm, hp, rfl⟩) (fun q hq => ((mem_cutK I hx x q).1 hq).2 rfl)
    refine this.marks fun q y _ => ?_
    unfold updM
    exact hlo y
  · have hstep : ∀ c : List Int, (p ∈ c) → (x ∈ c ∨ (T x).lost = true) → potN W (cutK K p x) (lostOf T2) ≤ potN W K (lostOf T) + c.length := fun c c1 c2 => by
      have := pot_step (W := W) (W' := W) (K := K) (K' := cutK K p x) (mk := lostOf T) (mk' := lostOf T2) c [] List.nodup_nil (fun y hy => by
        rcases hy.2 with k | k
        · rcases h3 y k with k | k
          · rcases c2 with c2 | c2
            · exact Or.inr (by rw [k]; exact c2)
            · exact Or.inl ⟨hy.1, Or.inr (by rw [k]; exact c2)⟩
          · exact Or.inl ⟨hy.1, Or.inl k⟩
        · have k2 : (T2 y).lost = true := k
          rw [hlo] at k2
          by_cases e : y = p
          · exact Or.inr (by rw [e]; exact c1)
          · rw [if_neg e] at k2
            exact Or.inl ⟨hy.1, Or.inr k2⟩) (fun y hy => by cases hy)
      simpa using this
    rcases J.pot with ⟨e1, e2⟩ | ⟨e1, e2⟩
    · have := hstep [x, p] (by simp) (Or.inl (by simp))
      simp only [List.length_nil, List.length_cons] at this
      omega
    · have := hstep [p] (by simp) (Or.inr e2)
      simp only [List.length_nil, List.length_cons] at this
      omega
  · rw [hat]
    rcases J.at0 with e | e
    · rw [e]; simp
    · exact List.mem_cons_of_mem _ e
/-- There are no more roots than slots. -/
theorem FiMid.rfew {E : Int → Prop} (M : FiMid W K R E) (h : Nat) : (R h).length ≤ W.cells.length := nodup_below _ _ (M.nd h) fun y hy => prin_slot (M.is h y hy).2.1
end
end Go.Proofs.Ytcjjglaimfhofaa
