/- 'sorts', of whatever nest: keys that come into one heap come out in their order. -/
import Derived.Test.YtmoolbmbdnkooaaNestRuns
import Derived.Test.YtmoolbmbdnkooaaLaw
namespace Go.Proofs.Ytmoolbmbdnkooaa
open Go.RowKit Go.Sort

theorem pinv_none {H : List Bool} {h : Nat → Nat} {key : Nat → Int} {q : Int} {n : Nat} {W : WS} (P : PInv H h key q n 0 W) (y : Int) : lenW W y = 0 := by
  rw [len_zero]
  intro i hi hy he
  have := P.rest i (Nat.zero_le _) (by rw [← P.len]; exact hi)
  rw [homeAt, this] at he
  simp [CellD.off] at he
  omega
theorem pinv_has {H : List Bool} {h : Nat → Nat} {key : Nat → Int} {q : Int} {n k : Nat} {W : WS} (P : PInv H h key q n k W) (i : Nat) (h1 : 1 ≤ i) (h2 : i < H.length) (h3 : H.getD i false = true) : hasW W i = true := by
  have : (1 : Int) ≤ i ∧ (i : Int) < H.length := by omega
  unfold hasW
  rw [P.heaps, decide_eq_true this, Bool.true_and, Int.toNat_natCast]
  exact h3
section
variable {γ : Type} {O : WS → γ → Ob} {st : γ → Int} {R : WS → Int → Int → Int → Int → Int → γ → γ → Prop} {H : World → Prop} {T : TypeId} {v : Value} {f : NestFns}
set_option maxRecDepth 100000 in
set_option maxHeartbeats 4000000 in
theorem sorts_any (N : Nests O st R H T v f) (L : List Int) (hn : L.length ≤ 65536) (a0 : Option Addr) (cap : Nat) (hcap : L.length ≤ cap ∧ cap ≤ 9223372036854775807) {g : γ} {W0 w : World} (hkey : IntsAt W0 .i64 a0 L) (hs : Stage (fun _ => False) W0 [O (newW L.length) g] w) :
    Calls Try.prog 30 #[.iface T v, .slice a0 L.length cap] w fun e w' => e = .returned (.bool true) ∧ Below W0.heap.size W0 w' := by
  obtain ⟨hcap1, hcap2⟩ := hcap
  obtain ⟨key, hke⟩ : ∃ key : Nat → Int, key = fun i => L.getD i 0 := ⟨_, rfl⟩
  have hK : ∀ i, i < L.length → ∃ b off, a0 = some ⟨b, off, none⟩ ∧ W0.cell? ⟨b, off + i, none⟩ = some (.int .i64 (key i)) := fun i hi => by rw [hke]; exact hkey i hi
  clear hkey hke
  generalize L.length = n0 at *
  have hH := (hs.get (i := 0) rfl).elim fun _ h => N.there h
  have m1 := N.mMake.find _ hH
  have m2 := N.mMake.enter
  have hM := hs.callEx 0 rfl (fun _ ho => N.make ho)
  have hP := new_pinv n0 (fun _ => 1) key 0
  obtain ⟨hP1, e1⟩ := pinv_make hP (by simp)
  rw [e1] at hM
  generalize makeW (newW n0) = W1 at *
  replace hM : Calls Try.prog f.make.id #[f.make.rv] w fun e w' => e = .returned (.int .i64 1) ∧ ∃ g', (∀ y x q r, R (newW n0) 0 y x q r g g') ∧ Stage (fun _ => False) W0 [O W1 g'] w' := hM
  replace hP1 : PInv [false, true] (fun _ => 1) key 0 n0 0 W1 := hP1
  clear hP e1
  go_enter Try.func30, Try.ntmps30
  go_wp2_with fail
  clear m1 m2 hH hs
  refine hM.mono ?_
  rintro e w1 ⟨rfl, g1, _, hs⟩
  clear hM
  have hl0 := pinv_none hP1 1
  have h1i : inInt 1 := ⟨by omega, by omega⟩
  go_wp2_with fail
  go_loopw [20] (fun i wr => ∃ (k : Nat) (W : WS) (g : γ), k ≤ n0 ∧ i = .int .i64 k ∧ PInv [false, true] (fun _ => 1) key 0 n0 k W ∧ lenW W 1 = k ∧ Stage (fun _ => False) W0 [O W g] wr) (fun i _ => n0 - (intOf i).toNat)
  case atStart => exact ⟨0, W1, g1, Nat.zero_le _, rfl, hP1, hl0, hs⟩
  case round =>
    clear hs hP1 hl0
    obtain ⟨k, W, g, hk, rfl, hP, hl, hs⟩ := hrel
    by_cases hlt : k < n0
    · have hki : (k : Int) < n0 := by omega
      obtain ⟨ba, offa, rfl, u0⟩ := hK k hlt
      replace u0 := later hs.below u0
      obtain ⟨q1, hP2, hl2⟩ := pinv_put hP hlt (pinv_has hP 1 (by omega) (by simp) rfl) (Nat.le_refl _)
      have hI := hs.callEx 0 rfl (fun _ ho => N.ins 1 k (key k) 0 h1i ⟨by omega, by omega⟩ ho)
      have q1' : putB W 1 k = true := q1
      rw [q1'] at hI
      have hl3 := hl2 1
      rw [if_pos (show (1 : Int) = ((1 : Nat) : Int) from rfl)] at hl3
      have e1 : putW W 1 k (key k) 0 = putW W (((fun _ => 1 : Nat → Nat) k : Nat) : Int) k (key k) 0 := rfl
      rw [← e1] at hP2 hl3
      generalize putW W 1 k (key k) 0 = W2 at *
      have hH := (hs.get (i := 0) rfl).elim fun _ h => N.there h
      have m1 := N.mIns.find _ hH
      have m2 := N.mIns.enter
      clear q1 q1' hl2 e1
      go_wp2_with fail
      clear m1 m2 hH u0 hs hP
      refine hI.mono ?_
      rintro e w2 ⟨rfl, g2, _, hs⟩
      clear hI
      have hL := hs.askB 0 rfl (fun _ ho => N.len 1 h1i ho)
      have q2 : (lenW W2 1 : Int) = (k : Int) + 1 := by omega
      rw [q2] at hL
      have hH := (hs.get (i := 0) rfl).elim fun _ h => N.there h
      have m1 := N.mLen.find _ hH
      have m2 := N.mLen.enter
      have e3 : IntKind.i64.wrap ((k : Int) + 1) = (k : Int) + 1 := IntWalk.i64_in _ (by omega)
      go_wp2_with fail
      clear m1 m2 hH
      refine hL.mono ?_
      rintro e w3 ⟨rfl, hs3⟩
      clear hL hs
      go_wp2_with fail
      go_roundw
      case rel => exact ⟨k + 1, W2, g2, by omega, by go_num, hP2, by omega, hs3⟩
      case measure => simp [intOf]; omega
    · have hki : ¬ (k : Int) < n0 := by omega
      obtain rfl : k = n0 := by omega
      have hO := oinv_of hP
      go_wp2_with fail
      go_loopw [8, 43] (fun l i wr => ∃ (j : Nat) (last : Int) (V : WS) (g : γ), j ≤ k ∧ i = .int .i64 j ∧ l = .int .i64 last ∧ OInv key 0 k 1 V ∧ lenW V 1 = k - j ∧ (last = -1 ∨ ∃ p : Nat, last = p ∧ p < k ∧ After key V 1 p) ∧ Stage (fun _ => False) W0 [O V g] wr) (fun _ i _ => k - (intOf i).toNat)
      case atStart => exact ⟨0, -1, W, g, Nat.zero_le _, rfl, rfl, hO, by omega, Or.inl rfl, hs⟩
      case round =>
        clear hs hP hO hl
        obtain ⟨j, last, V, g, hj, rfl, rfl, hO, hl, hlast, hs⟩ := hrel
        by_cases hlt : j < k
        · have hji : (j : Int) < k := by omega
          obtain ⟨m, hm⟩ := min_exists (W := V) (h := 1) (by omega)
          have hmin := min_is hm
          obtain ⟨q1, q2⟩ := minI_some hm
          have q3 : exW V 1 = dropW V m := by simp [exW, hm]
          have hmk : m < k := by rw [← hO.len]; exact hmin.lt
          have hO2 := oinv_drop hO hmin
          have hA2 := after_min hO (by omega) hmin
          have hl2 := len_ex hmin 1
          rw [if_pos rfl] at hl2
          have hcmp : last = -1 ∨ ∃ p : Nat, last = p ∧ p < k ∧ (key p < key m ∨ (key p = key m ∧ p < m)) := by
            rcases hlast with h | ⟨p, h, hp, hA⟩
            · exact Or.inl h
            · exact Or.inr ⟨p, h, hp, hA m hmin.lt hmin.home⟩
          have hM := hs.callEx 0 rfl (fun _ ho => N.min 1 h1i ho)
          rw [q1, q2] at hM
          have hH := (hs.get (i := 0) rfl).elim fun _ h => N.there h
          have m1 := N.mMin.find _ hH
          have m2 := N.mMin.enter
          clear hlast
          go_wp2_with fail
          clear m1 m2 hH hs
          refine hM.mono ?_
          rintro e w2 ⟨rfl, g2, _, hs⟩
          clear hM
          replace hs : Stage (fun _ => False) W0 [O V g2] w2 := hs
          have hE := hs.callEx 0 rfl (fun _ ho => N.ext 1 h1i ho)
          rw [q1, q2, q3] at hE
          have hH := (hs.get (i := 0) rfl).elim fun _ h => N.there h
          have m1 := N.mExt.find _ hH
          have m2 := N.mExt.enter
          go_wp2_with fail
          clear m1 m2 hH hs
          refine hE.mono ?_
          rintro e w3 ⟨rfl, g3, _, hs⟩
          clear hE q1 q2 q3 hm hO hmin
          replace hs : Stage (fun _ => False) W0 [O (dropW V m) g3] w3 := hs
          generalize dropW V m = V2 at *
          have hL := hs.askB 0 rfl (fun _ ho => N.len 1 h1i ho)
          have q4 : (lenW V2 1 : Int) = (k : Int) - 1 - j := by clear hcmp; omega
          rw [q4] at hL
          have hH := (hs.get (i := 0) rfl).elim fun _ h => N.there h
          have m1 := N.mLen.find _ hH
          have m2 := N.mLen.enter
          have e3 : IntKind.i64.wrap ((k : Int) - 1) = (k : Int) - 1 := IntWalk.i64_in _ (by omega)
          have e4 : IntKind.i64.wrap ((k : Int) - 1 - j) = (k : Int) - 1 - j := IntWalk.i64_in _ (by omega)
          have hmi : (m : Int) < k := by omega
          have hm0 : ¬ (m : Int) < 0 := by omega
          go_wp2_with fail
          clear m1 m2 hH
          refine hL.mono ?_
          rintro e w4 ⟨rfl, hs4⟩
          clear hL hs
          obtain ⟨ba, offa, rfl, u0⟩ := hK m hmk
          replace u0 := later hs4.below u0
          rcases hcmp with rfl | ⟨p, rfl, hp, hc⟩
          · go_wp2_with fail
            go_quiet (fail)
            go_wp2_with fail
            go_roundw
            case rel => exact ⟨j + 1, m, V2, g3, by omega, by go_num, rfl, hO2, by omega, Or.inr ⟨m, rfl, hmk, hA2⟩, hs4.drewN _⟩
            case measure => simp [intOf]; omega
          · obtain ⟨_, _, e5, u1⟩ := hK p hp
            cases e5
            replace u1 := later hs4.below u1
            have hpi : (p : Int) < k := by omega
            rcases hc with hc | ⟨hc, hpm⟩
            · have c1 : ¬ key m < key p := by omega
              have c2 : (key p == key m) = false := by simp; omega
              go_wp2_with fail
              go_quiet (fail)
              go_wp2_with fail
              go_roundw
              case rel => exact ⟨j + 1, m, V2, g3, by omega, by go_num, rfl, hO2, by omega, Or.inr ⟨m, rfl, hmk, hA2⟩, hs4.drewN _⟩
              case measure => simp [intOf]; omega
            · rw [hc] at u1
              have c3 : ¬ (m : Int) ≤ p := by omega
              generalize key m = km at *
              go_wp2_with fail
              go_quiet (fail)
              go_wp2_with fail
              go_roundw
              case rel => exact ⟨j + 1, m, V2, g3, by omega, by go_num, rfl, hO2, by omega, Or.inr ⟨m, rfl, hmk, hA2⟩, hs4.drewN _⟩
              case measure => simp [intOf]; omega
        · have hji : ¬ (j : Int) < k := by omega
          have hm := min_none_iff.2 (show lenW V 1 = 0 by omega)
          obtain ⟨q1, q2⟩ := minI_none hm
          have hM := hs.callEx 0 rfl (fun _ ho => N.min 1 h1i ho)
          rw [q1, q2] at hM
          have hH := (hs.get (i := 0) rfl).elim fun _ h => N.there h
          have m1 := N.mMin.find _ hH
          have m2 := N.mMin.enter
          go_wp2_with fail
          clear m1 m2 hH hs
          refine hM.mono ?_
          rintro e w2 ⟨rfl, g2, _, hs⟩
          go_wp2_with fail
          go_ret
          exact ⟨rfl, hs.below⟩
end
end Go.Proofs.Ytmoolbmbdnkooaa
