/- container/heap's down, over a list of slots. (Written by gen_down.py.) -/
import Derived.Test.YtdfjgmellkmamaaShedUp
namespace Go.Proofs.Ytdfjgmellkmamaa
open Go.RowKit Go.Sort

/-- Behind down: what moved is in order; if nothing did, i alone may go up. -/
def DownPost (F0 : Nat → Prop) (W0 : World) (p c bm : Nat) (vp : Value) (W : WS) (s : Int) (pl : List Nat) (q : Nat) (v : Value) (ys zs : List Nat) (r : List Ob) (i : Nat) (e : Ending) (w' : World) : Prop :=
  ∃ (b : Bool) (ys' pl' : List Nat) (s' : Int), e = .returned (.bool b) ∧ (b = true → Heap 2 (ltW W) ys' ∧ Turned (2 * depthI 2 (ys.length - 1)) zs ys pl s ys' pl' s') ∧ (b = false → ys' = ys ∧ UpInv 2 (ltW W) ys i ∧ Turned 2 zs ys pl s ys' pl' s') ∧ Stage F0 W0 (handL p c bm vp W s' pl' q v (ys' ++ zs) ++ r) w'
theorem strict_irr {lt : Nat → Nat → Bool} {l : List Nat} (s : Strict lt l) (j : Nat) (h : j < l.length) : lt (rat l j) (rat l j) = false := s.irr j h
section
variable {F0 : Nat → Prop} {W0 w : World} {p c bm : Nat} {vp : Value} {W : WS} {s : Int} {pl : List Nat} {q : Nat} {v : Value} {ys zs : List Nat} {r : List Ob}
set_option maxRecDepth 100000 in
set_option maxHeartbeats 2000000 in
theorem down_st (hs : Stage F0 W0 (handL p c bm vp W s pl q v (ys ++ zs) ++ r) w) (hx : ys.length ≤ 65536) (P : Placed (ys ++ zs) pl) (A : AllIn W ys) (i : Nat) (U : FixInv (ltW W) ys i) :
    Calls Try.prog 72 #[ilist q, .int .i64 i, .int .i64 ys.length] w (DownPost F0 W0 p c bm vp W s pl q v ys zs r i) := by
  have hT := Turned.refl (s := s) P
  have hi := U.ilt
  have f1 := m_less q
  have f2 := e_less
  have f3 := m_swap q
  have f4 := e_swap
  obtain ⟨n, hn⟩ : ∃ n, n = ys.length := ⟨_, rfl⟩
  obtain ⟨di, hdi⟩ : ∃ di, di = depthI 2 i := ⟨_, rfl⟩
  obtain ⟨dn, hdn⟩ : ∃ dn, dn = depthI 2 (n - 1) := ⟨_, rfl⟩
  have hdm : ∀ k, k < n → depthI 2 k ≤ dn := fun k hk => by rw [hdn]; exact depth_mono (by omega) _ _ (by omega)
  have hpost : ∀ (b : Bool) (ys' pl' : List Nat) (s' : Int) (wx : World), (b = true → Heap 2 (ltW W) ys' ∧ Turned (2 * dn) zs ys pl s ys' pl' s') → (b = false → ys' = ys ∧ UpInv 2 (ltW W) ys i ∧ Turned 2 zs ys pl s ys' pl' s') → Stage F0 W0 (handL p c bm vp W s' pl' q v (ys' ++ zs) ++ r) wx → DownPost F0 W0 p c bm vp W s pl q v ys zs r i (.returned (.bool b)) wx :=
    fun b ys' pl' s' wx h1 h2 h3 => ⟨b, ys', pl', s', rfl, by rw [← hn, ← hdn]; exact h1, h2, h3⟩
  rw [← hn] at hx hi ⊢
  go_enter Try.func72, Try.ntmps72
  go_wp2_with fail
  go_loopw [7] (fun x wr => ∃ (k : Nat) (ys1 pl1 : List Nat) (s1 : Int), x = .int .i64 k ∧ k < n ∧ ys1.length = n ∧ FixInv (ltW W) ys1 k ∧ ((k = i ∧ ys1 = ys) ∨ (i < k ∧ DownInv 2 (ltW W) ys1 k)) ∧ di ≤ depthI 2 k ∧ Turned (2 * (depthI 2 k - di)) zs ys pl s ys1 pl1 s1 ∧ Stage F0 W0 (handL p c bm vp W s1 pl1 q v (ys1 ++ zs) ++ r) wr) (fun x _ => n - (intOf x).toNat)
  case atStart => exact ⟨i, ys, pl, s, rfl, hi, hn.symm, U, Or.inl ⟨rfl, rfl⟩, by omega, by rw [← hdi, Nat.sub_self]; exact hT, hs⟩
  case round =>
    clear hs U hT hi hn hdn
    obtain ⟨k, ys1, pl1, s1, rfl, hk, hn1, U, hU, hd, hT, hs⟩ := hrel
    have P1 := hT.placed
    have S1 := strict_placed (A.perm hT.perm) P1
    have hdk := hdm k hk
    -- what is told at the end, if no child is ahead
    have hend : ∀ (m : Nat) (s2 : Int) (wx : World), (∀ j, 0 < j → j < ys1.length → par 2 j = k → ltW W (rat ys1 j) (rat ys1 k) = false) → Turned m zs ys pl s ys1 pl1 s2 → (i < k → m ≤ 2 * dn) → (k = i → m ≤ 2) → Stage F0 W0 (handL p c bm vp W s2 pl1 q v (ys1 ++ zs) ++ r) wx →
        DownPost F0 W0 p c bm vp W s pl q v ys zs r i (.returned (.bool (decide (i < k)))) wx := by
      intro m s2 wx h1 h2 h3 h4 h5
      refine hpost (decide (i < k)) ys1 pl1 s2 wx (fun hb => ?_) (fun hb => ?_) h5
      · have hik := of_decide_eq_true hb
        rcases hU with ⟨h6, _⟩ | ⟨_, h7⟩
        · omega
        · exact ⟨down_stop h7 h1, h2.mono (h3 hik)⟩
      · have hik := of_decide_eq_false hb
        rcases hU with ⟨h6, h7⟩ | ⟨h8, _⟩
        · subst h6
          subst h7
          exact ⟨rfl, U.up h1, h2.mono (h4 rfl)⟩
        · exact absurd h8 hik
    have hki : k = i → 2 * (depthI 2 k - di) = 0 := fun e => by rw [e, hdi, Nat.sub_self]
    have hstep := fun c h0 hc hp h hm => down_step (c := c) (by omega) S1 (U.down S1 h0 hc hp h) h0 hc hp h hm
    have hik : i ≤ k := by rcases hU with ⟨h, _⟩ | ⟨h, _⟩ <;> omega
    have e1 : IntKind.i64.wrap (2 * (k : Int)) = 2 * (k : Int) := IntWalk.i64_in _ (by omega)
    have e2 : IntKind.i64.wrap (2 * (k : Int) + 1) = ((2 * k + 1 : Nat) : Int) := by rw [show 2 * (k : Int) + 1 = ((2 * k + 1 : Nat) : Int) by omega]; exact IntWalk.i64_in _ (by omega)
    have e3 : IntKind.i64.wrap (((2 * k + 1 : Nat) : Int) + 1) = ((2 * k + 2 : Nat) : Int) := by rw [show ((2 * k + 1 : Nat) : Int) + 1 = ((2 * k + 2 : Nat) : Int) by omega]; exact IntWalk.i64_in _ (by omega)
    have hj1 := par_left k
    have hj2 := par_right k
    have hkids := fun j (h0 : 0 < j) => (kids (i := k) j h0).1
    have hdc := fun j h0 => depth_par (d := 2) (i := j) (by omega) h0
    have hnd := strict_irr S1
    clear U hU
    generalize hj : 2 * k + 1 = j at *
    generalize hjj : 2 * k + 2 = j' at *
    by_cases hlt : j < n
    · have hji : (j : Int) < n := by omega
      have hji0 : ¬ (j : Int) < 0 := by omega
      have hd1 := hdc j (by omega)
      rw [hj1] at hd1
      have hdj := hdm j hlt
      by_cases hlt2 : j' < n
      · have hji2 : (j' : Int) < n := by omega
        have hd2 := hdc j' (by omega)
        rw [hj2] at hd2
        have hr := aheadS_range W (hand_steps hs) (rat (ys1 ++ zs) j') (rat (ys1 ++ zs) j)
        have hL := sless_st hs j' j (by simp; omega) (by simp; omega)
        rw [rat_append (by omega), rat_append (by omega)] at hL hr
        generalize aheadS W s1 (rat ys1 j') (rat ys1 j) = s2 at *
        have hT2 := hT.trans (Turned.ask P1 hr)
        cases hB : ltW W (rat ys1 j') (rat ys1 j)
        · rw [hB] at hL
          have hmin : ∀ m, 0 < m → m < ys1.length → par 2 m = k → ltW W (rat ys1 m) (rat ys1 j) = false := fun m h0 hm hp => by
            rcases hkids m h0 hp with h | h
            · rw [show m = j by omega]; exact hnd j (by omega)
            · rw [show m = j' by omega]; exact hB
          clear hr
          go_wp2_with fail
          refine hL.mono ?_
          rintro e w1 ⟨rfl, hs1⟩
          clear hL hs
          have hr := aheadS_range W (hand_steps hs1) (rat (ys1 ++ zs) j) (rat (ys1 ++ zs) k)
          have hL := sless_st hs1 j k (by simp; omega) (by simp; omega)
          rw [rat_append (by omega), rat_append (by omega)] at hL hr
          generalize aheadS W _ (rat ys1 j) (rat ys1 k) = s3 at *
          have hT3 := hT2.trans (Turned.ask P1 hr)
          have hdc2 := hdm j (by omega)
          cases hB2 : ltW W (rat ys1 j) (rat ys1 k)
          · rw [hB2] at hL
            have hno : ∀ wx, _ → _ := fun wx => hend _ s3 wx (fun m h0 hm hp => S1.le_trans (by omega) (by omega) (by omega) (hmin m h0 hm hp) hB2) hT3 (fun _ => by omega) (fun e => by have := hki e; omega)
            clear hend hstep hmin hkids hr hdc
            go_wp2_with fail
            refine hL.mono ?_
            rintro e w2 ⟨rfl, hs2⟩
            go_wp2_with fail
            go_ret
            exact hno _ hs2
          · rw [hB2] at hL
            have hD := hstep j (by omega) (by omega) hj1 hB2 hmin
            clear hend hstep hmin hkids hr hdc
            go_wp2_with fail
            refine hL.mono ?_
            rintro e w2 ⟨rfl, hs2⟩
            clear hL hs1
            have hS := sswap_st hs2 P1 k j (by simp; omega) (by simp; omega) (by omega)
            rw [swap_append (by omega) (by omega)] at hS
            have hT4 := hT3.trans (Turned.swap P1 (i := k) (j := j) (by omega) (by omega))
            have hl4 : (swapL ys1 k j).length = ys1.length := swap_len _ _ _
            have hF := FixInv.of_down hD (by omega)
            generalize swapL ys1 k j = ys2 at *
            generalize swapP (ys1 ++ zs) pl1 k j = pl2 at *
            go_wp2_with fail
            refine hS.mono ?_
            rintro e w3 ⟨rfl, hs3⟩
            go_wp2_with fail
            go_roundw
            case rel => exact ⟨j, ys2, pl2, s3, rfl, by omega, by omega, hF, Or.inr ⟨by omega, hD⟩, by omega, hT4.mono (by omega), hs3⟩
            case measure => simp [intOf]; omega
        · rw [hB] at hL
          have hmin : ∀ m, 0 < m → m < ys1.length → par 2 m = k → ltW W (rat ys1 m) (rat ys1 j') = false := fun m h0 hm hp => by
            rcases hkids m h0 hp with h | h
            · rw [show m = j by omega]; exact S1.asymm (by omega) (by omega) hB
            · rw [show m = j' by omega]; exact hnd j' (by omega)
          clear hr
          go_wp2_with fail
          refine hL.mono ?_
          rintro e w1 ⟨rfl, hs1⟩
          clear hL hs
          have hr := aheadS_range W (hand_steps hs1) (rat (ys1 ++ zs) j') (rat (ys1 ++ zs) k)
          have hL := sless_st hs1 j' k (by simp; omega) (by simp; omega)
          rw [rat_append (by omega), rat_append (by omega)] at hL hr
          generalize aheadS W _ (rat ys1 j') (rat ys1 k) = s3 at *
          have hT3 := hT2.trans (Turned.ask P1 hr)
          have hdc2 := hdm j' (by omega)
          cases hB2 : ltW W (rat ys1 j') (rat ys1 k)
          · rw [hB2] at hL
            have hno : ∀ wx, _ → _ := fun wx => hend _ s3 wx (fun m h0 hm hp => S1.le_trans (by omega) (by omega) (by omega) (hmin m h0 hm hp) hB2) hT3 (fun _ => by omega) (fun e => by have := hki e; omega)
            clear hend hstep hmin hkids hr hdc
            go_wp2_with fail
            refine hL.mono ?_
            rintro e w2 ⟨rfl, hs2⟩
            go_wp2_with fail
            go_ret
            exact hno _ hs2
          · rw [hB2] at hL
            have hD := hstep j' (by omega) (by omega) hj2 hB2 hmin
            clear hend hstep hmin hkids hr hdc
            go_wp2_with fail
            refine hL.mono ?_
            rintro e w2 ⟨rfl, hs2⟩
            clear hL hs1
            have hS := sswap_st hs2 P1 k j' (by simp; omega) (by simp; omega) (by omega)
            rw [swap_append (by omega) (by omega)] at hS
            have hT4 := hT3.trans (Turned.swap P1 (i := k) (j := j') (by omega) (by omega))
            have hl4 : (swapL ys1 k j').length = ys1.length := swap_len _ _ _
            have hF := FixInv.of_down hD (by omega)
            generalize swapL ys1 k j' = ys2 at *
            generalize swapP (ys1 ++ zs) pl1 k j' = pl2 at *
            go_wp2_with fail
            refine hS.mono ?_
            rintro e w3 ⟨rfl, hs3⟩
            go_wp2_with fail
            go_roundw
            case rel => exact ⟨j', ys2, pl2, s3, rfl, by omega, by omega, hF, Or.inr ⟨by omega, hD⟩, by omega, hT4.mono (by omega), hs3⟩
            case measure => simp [intOf]; omega
      · have hji2 : ¬ (j' : Int) < n := by omega
        have hmin : ∀ m, 0 < m → m < ys1.length → par 2 m = k → ltW W (rat ys1 m) (rat ys1 j) = false := fun m h0 hm hp => by
          rcases hkids m h0 hp with h | h
          · rw [show m = j by omega]; exact hnd j (by omega)
          · omega
        have hT2 := hT.mono (show 2 * (depthI 2 k - di) ≤ 2 * (depthI 2 k - di) + 1 by omega)
        have hs1 := hs
        clear hs
        have hr := aheadS_range W (hand_steps hs1) (rat (ys1 ++ zs) j) (rat (ys1 ++ zs) k)
        have hL := sless_st hs1 j k (by simp; omega) (by simp; omega)
        rw [rat_append (by omega), rat_append (by omega)] at hL hr
        generalize aheadS W _ (rat ys1 j) (rat ys1 k) = s3 at *
        have hT3 := hT2.trans (Turned.ask P1 hr)
        have hdc2 := hdm j (by omega)
        cases hB2 : ltW W (rat ys1 j) (rat ys1 k)
        · rw [hB2] at hL
          have hno : ∀ wx, _ → _ := fun wx => hend _ s3 wx (fun m h0 hm hp => S1.le_trans (by omega) (by omega) (by omega) (hmin m h0 hm hp) hB2) hT3 (fun _ => by omega) (fun e => by have := hki e; omega)
          clear hend hstep hmin hkids hr hdc
          go_wp2_with fail
          refine hL.mono ?_
          rintro e w2 ⟨rfl, hs2⟩
          go_wp2_with fail
          go_ret
          exact hno _ hs2
        · rw [hB2] at hL
          have hD := hstep j (by omega) (by omega) hj1 hB2 hmin
          clear hend hstep hmin hkids hr hdc
          go_wp2_with fail
          refine hL.mono ?_
          rintro e w2 ⟨rfl, hs2⟩
          clear hL hs1
          have hS := sswap_st hs2 P1 k j (by simp; omega) (by simp; omega) (by omega)
          rw [swap_append (by omega) (by omega)] at hS
          have hT4 := hT3.trans (Turned.swap P1 (i := k) (j := j) (by omega) (by omega))
          have hl4 : (swapL ys1 k j).length = ys1.length := swap_len _ _ _
          have hF := FixInv.of_down hD (by omega)
          generalize swapL ys1 k j = ys2 at *
          generalize swapP (ys1 ++ zs) pl1 k j = pl2 at *
          go_wp2_with fail
          refine hS.mono ?_
          rintro e w3 ⟨rfl, hs3⟩
          go_wp2_with fail
          go_roundw
          case rel => exact ⟨j, ys2, pl2, s3, rfl, by omega, by omega, hF, Or.inr ⟨by omega, hD⟩, by omega, hT4.mono (by omega), hs3⟩
          case measure => simp [intOf]; omega
    · have hji : ¬ (j : Int) < n := by omega
      have hno := hend _ s1 wr (fun m h0 hm hp => by rcases hkids m h0 hp with h | h <;> omega) hT (fun _ => by omega) (fun e => by have := hki e; omega) hs
      clear hend hstep
      go_wp2_with fail
      go_ret
      exact hno
end
end Go.Proofs.Ytdfjgmellkmamaa
