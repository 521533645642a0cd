/- Merged of NestHalves, GaugeMath, NestOne. -/
import Derived.Test.YtcjjglaimfhofaaNestSorts
import Derived.Lib.BitFns
import Derived.Lib.ItoaNum
import Derived.Lib.Hide
import GoSem.ClaimJoined
namespace Go.Proofs.Ytcjjglaimfhofaa
open Go.RowKit Go.Sort

/-- A list of bools that lies in memory. -/
def BoolsAt (w : World) (a : Option Addr) (l : List Bool) : Prop := ∀ k, k < l.length → ∃ b off, a = some ⟨b, off, none⟩ ∧ w.cell? ⟨b, off + k, none⟩ = some (.bool (l.getD k false))
def sideN (B : List Bool) (i : Nat) : Nat := if i < B.length ∧ B.getD i false = true then 2 else 1
theorem side_or (B : List Bool) (i : Nat) : sideN B i = 1 ∨ sideN B i = 2 := by unfold sideN; split <;> simp
theorem meld_again (V : WS) (h : joinBW V 1 2 = false) : joinW V 1 2 = V := by simp [joinW, h]
section
variable {γ : Type} {O : WS → γ → Ob} {st : γ → Int} {R : WS → Int → Int → Int → Int → Int → γ → γ → Prop} {H : World → Prop} {T : TypeId} {v : Value} {f : NestFns}
set_option maxRecDepth 100000 in
set_option maxHeartbeats 8000000 in
theorem halves_any (N : Nests O st R H T v f) (L : List Int) (hn : L.length ≤ 65536) (a0 : Option Addr) (cap : Nat) (hcap : L.length ≤ cap ∧ cap ≤ 9223372036854775807) (hmin : ∀ n ∈ L, -9223372036854775808 ≤ n)
    (B : List Bool) (a1 : Option Addr) (cap1 : Nat) (hcap' : B.length ≤ cap1 ∧ cap1 ≤ 9223372036854775807) (low gone : Int) (hlow : inInt low) (hgone : inInt gone)
    {g : γ} {W0 w : World} (hkey : IntsAt W0 .i64 a0 L) (hbool : BoolsAt W0 a1 B) (hs : Stage (fun _ => False) W0 [O (newW L.length) g] w) :
    Calls Try.prog 39 #[.iface T v, .slice a0 L.length cap, .agg #[.slice a1 B.length cap1, .int .i64 low, .int .i64 gone]] w fun e w' => e = .returned (.bool true) ∧ Below W0.heap.size W0 w' := by
  obtain ⟨hcap1, hcap2⟩ := hcap
  obtain ⟨hcap3, hcap4⟩ := hcap'
  obtain ⟨key, hke⟩ : ∃ key : Nat → Int, key = fun i => L.getD i 0 := ⟨_, rfl⟩
  have hK : ∀ i, i < L.length → ∃ b off, a0 = some ⟨b, off, none⟩ ∧ W0.cell? ⟨b, off + i, none⟩ = some (.int .i64 (key i)) := fun i hi => by rw [hke]; exact hkey i hi
  have hkm : ∀ i, i < L.length → -9223372036854775808 ≤ key i := fun i hi => by rw [hke]; exact hmin _ (mem_getD' L i 0 hi)
  clear hkey hke hmin
  generalize L.length = n0 at *
  obtain ⟨hh, hhe⟩ : ∃ hh : Nat → Nat, hh = sideN B := ⟨_, rfl⟩
  have hh12 : ∀ i, hh i = 1 ∨ hh i = 2 := fun i => by rw [hhe]; exact side_or B i
  have hh1 : ∀ i, ¬ (i < B.length) → hh i = 1 := fun i hi => by rw [hhe]; unfold sideN; rw [if_neg (by omega)]
  have hh2 : ∀ i, i < B.length → hh i = if B.getD i false then 2 else 1 := fun i hi => by rw [hhe]; unfold sideN; simp [hi]
  clear hhe
  have h1i : inInt 1 := ⟨by omega, by omega⟩
  have h2i : inInt 2 := ⟨by omega, by omega⟩
  obtain ⟨hP1, e1⟩ := pinv_make (new_pinv n0 hh key 1) (by simp)
  obtain ⟨hP2, e2⟩ := pinv_make hP1 (by simp)
  have hM := fun (w : World) g (hs : Stage (fun _ => False) W0 [O (newW n0) g] w) => hs.callEx 0 rfl (fun _ ho => N.make ho)
  rw [e1] at hM
  have hM2 := fun (w : World) g (hs : Stage (fun _ => False) W0 [O (makeW (newW n0)) g] w) => hs.callEx 0 rfl (fun _ ho => N.make ho)
  rw [e2] at hM2
  generalize makeW (makeW (newW n0)) = W2 at *
  generalize makeW (newW n0) = W1 at *
  generalize newW n0 = WN at *
  replace hP2 : PInv [false, true, true] hh key 1 n0 0 W2 := hP2
  clear hP1 e1 e2
  obtain ⟨w1, hw1, hs1⟩ : ∃ w1, w.alloc (.cells #[.slice a1 B.length cap1, .int .i64 low, .int .i64 gone] 54) = w1 ∧ Stage (fun _ => False) W0 [O WN g, Ob.box w.heap.size #[.slice a1 B.length cap1, .int .i64 low, .int .i64 gone] 54] w1 := ⟨_, rfl, hs.alloc _ _⟩
  have k0 := hs1.cell 1 rfl (o := 0) rfl
  have k1 := hs1.cell 1 rfl (o := 1) rfl
  have k2 := hs1.cell 1 rfl (o := 2) rfl
  go_enter Try.func39, Try.ntmps39
  go_wp2_with fail
  go_quiet (fail)
  have hs2 := (hs1.take 1).drewN nq
  clear k0 k1 k2 hw1 hs hs1
  generalize w1.drewN nq = w2 at *
  replace hs2 : Stage (fun _ => False) W0 [O WN g] w2 := hs2
  have hH := (hs2.get (i := 0) rfl).elim fun _ h => N.there h
  have m1 := N.mMake.find _ hH
  have m2 := N.mMake.enter
  go_wp2_with fail
  clear m1 m2 hH
  refine (hM w2 g hs2).mono ?_
  rintro e w3 ⟨rfl, g1, _, hs3⟩
  clear hM hs2
  replace hs3 : Stage (fun _ => False) W0 [O W1 g1] w3 := hs3
  have hH := (hs3.get (i := 0) rfl).elim fun _ h => N.there h
  have m1 := N.mMake.find _ hH
  have m2 := N.mMake.enter
  go_wp2_with fail
  clear m1 m2 hH
  refine (hM2 w3 g1 hs3).mono ?_
  rintro e w4 ⟨rfl, g2, _, hs⟩
  clear hM2 hs3
  replace hs : Stage (fun _ => False) W0 [O W2 g2] w4 := hs
  have l1 := pinv_none hP2 1
  have l2 := pinv_none hP2 2
  go_wp2_with fail
  go_loopw [31] (fun i wr => ∃ (k : Nat) (W : WS) (g : γ), k ≤ n0 ∧ i = .int .i64 k ∧ PInv [false, true, true] hh key 1 n0 k W ∧ lenW W 1 + lenW W 2 = k ∧ Stage (fun _ => False) W0 [O W g] wr) (fun i _ => n0 - (intOf i).toNat)
  case atStart => exact ⟨0, W2, g2, Nat.zero_le _, rfl, hP2, by omega, hs⟩
  case round =>
    clear hs hP2 l1 l2
    obtain ⟨k, W, g, hk, rfl, hP, hl, hs⟩ := hrel
    by_cases hlt : k < n0
    · have hki : (k : Int) < n0 := by omega
      obtain ⟨ba, offa, rfl, u0⟩ := hK k hlt
      replace u0 := later hs.below u0
      have hhas : hasW W (hh k) = true := by
        rcases hh12 k with e | e
        · rw [e]; exact pinv_has hP 1 (by omega) (by simp) rfl
        · rw [e]; exact pinv_has hP 2 (by omega) (by simp) rfl
      obtain ⟨q1, hP2, hl2⟩ := pinv_put hP hlt hhas (by rcases hh12 k with e | e <;> omega)
      have hI := hs.callEx 0 rfl (fun _ ho => N.ins (hh k) k (key k) 1 (by rcases hh12 k with e | e <;> rw [e] <;> exact ⟨by omega, by omega⟩) ⟨by omega, by omega⟩ ho)
      rw [q1] at hI
      have hl3 : lenW (putW W (hh k) k (key k) 1) 1 + lenW (putW W (hh k) k (key k) 1) 2 = k + 1 := by
        have b1 := hl2 1
        have b2 := hl2 2
        rcases hh12 k with e | e
        · rw [e] at b1 b2 ⊢
          rw [if_pos (by rfl)] at b1
          rw [if_neg (by omega)] at b2
          omega
        · rw [e] at b1 b2 ⊢
          rw [if_neg (by omega)] at b1
          rw [if_pos (by rfl)] at b2
          omega
      generalize putW W (hh k) k (key k) 1 = W3 at *
      have hH := (hs.get (i := 0) rfl).elim fun _ h => N.there h
      have m1 := N.mIns.find _ hH
      have m2 := N.mIns.enter
      have c1 := hh1 k
      have c2 := hh2 k
      have hend : ∀ w', Stage (fun _ => False) W0 [O W g] w' → True := fun _ _ => trivial
      clear q1 hl2 hend
      by_cases hkb : k < B.length
      · have hkbi : (k : Int) < B.length := by omega
        obtain ⟨bb, offb, rfl, u1⟩ := hbool k hkb
        replace u1 := later hs.below u1
        replace c2 := c2 hkb
        clear c1
        cases hv : B.getD k false
        · rw [hv] at c2 u1
          replace c2 : hh k = 1 := c2
          rw [c2] at hI
          go_wp2_with fail
          clear m1 m2 hH u0
          refine hI.mono ?_
          rintro e w2 ⟨rfl, g2, _, hs2⟩
          clear hI hs
          replace hs2 : Stage (fun _ => False) W0 [O W3 g2] w2 := hs2
          go_wp2_with fail
          go_roundw
          case rel => exact ⟨k + 1, W3, g2, by omega, by go_num, hP2, hl3, hs2⟩
          case measure => simp [intOf]; omega
        · rw [hv] at c2 u1
          replace c2 : hh k = 2 := c2
          rw [c2] at hI
          go_wp2_with fail
          clear m1 m2 hH u0
          refine hI.mono ?_
          rintro e w2 ⟨rfl, g2, _, hs2⟩
          clear hI hs
          replace hs2 : Stage (fun _ => False) W0 [O W3 g2] w2 := hs2
          go_wp2_with fail
          go_roundw
          case rel => exact ⟨k + 1, W3, g2, by omega, by go_num, hP2, hl3, hs2⟩
          case measure => simp [intOf]; omega
      · have hkbi : ¬ (k : Int) < B.length := by omega
        replace c1 := c1 hkb
        rw [c1] at hI
        clear c2
        go_wp2_with fail
        clear m1 m2 hH u0
        refine hI.mono ?_
        rintro e w2 ⟨rfl, g2, _, hs2⟩
        clear hI hs
        replace hs2 : Stage (fun _ => False) W0 [O W3 g2] w2 := hs2
        go_wp2_with fail
        go_roundw
        case rel => exact ⟨k + 1, W3, g2, by omega, by go_num, hP2, hl3, hs2⟩
        case measure => simp [intOf]; omega
    · have hki : ¬ (k : Int) < n0 := by omega
      obtain rfl : k = n0 := by omega
      obtain ⟨j1, hP2, j2, j3, j4⟩ := pinv_meld hP hh12 hl
      have j5 := meld_again _ j3
      have hJ := hs.callEx 0 rfl (fun _ ho => N.meld 1 2 h1i h2i ho)
      rw [j1] at hJ
      have hlen := j2
      generalize joinW W 1 2 = V at *
      have hH := (hs.get (i := 0) rfl).elim fun _ h => N.there h
      have m1 := N.mMeld.find _ hH
      have m2 := N.mMeld.enter
      go_wp2_with fail
      clear m1 m2 hH
      refine hJ.mono ?_
      rintro e w5 ⟨rfl, g3, _, hs3⟩
      clear hJ hs hP hl j1
      have hs : Stage (fun _ => False) W0 [O V g3] w5 := hs3
      clear hs3
      have hJ := hs.callEx 0 rfl (fun _ ho => N.meld 1 2 h1i h2i ho)
      rw [j3, j5] at hJ
      have hH := (hs.get (i := 0) rfl).elim fun _ h => N.there h
      have m1 := N.mMeld.find _ hH
      have m2 := N.mMeld.enter
      go_wp2_with fail
      clear m1 m2 hH
      refine hJ.mono ?_
      rintro e w6 ⟨rfl, g4, _, hs3⟩
      clear hJ hs j3 j5
      have hs : Stage (fun _ => False) W0 [O V g4] w6 := hs3
      clear hs3
      have hL := hs.askB 0 rfl (fun _ ho => N.len 1 h1i ho)
      rw [j2] at hL
      have hH := (hs.get (i := 0) rfl).elim fun _ h => N.there h
      have m1 := N.mLen.find _ hH
      have m2 := N.mLen.enter
      go_wp2_with fail
      clear m1 m2 hH
      refine hL.mono ?_
      rintro e w7 ⟨rfl, hs3⟩
      clear hL hs
      have hB := hs3.askB 0 rfl (fun _ ho => N.has 2 ho)
      rw [j4] at hB
      have hH := (hs3.get (i := 0) rfl).elim fun _ h => N.there h
      have m1 := N.mHas.find _ hH
      have m2 := N.mHas.enter
      go_wp2_with fail
      clear m1 m2 hH
      refine hB.mono ?_
      rintro e w8 ⟨rfl, hs⟩
      clear hB hs3
      obtain ⟨LI, hlb, hll⟩ := lowS_inv hP2 hkm low
      obtain ⟨hgi, HI, hmn⟩ := goneS_inv hP2 hkm low gone
      rw [hlen] at hll
      have hgl : lenW (goneS k low gone (lowS k low V)) 1 ≤ k := by
        unfold goneS
        split
        · rename_i hg
          obtain ⟨j, hj⟩ : ∃ j : Nat, gone = j := ⟨gone.toNat, by omega⟩
          have hin := hgi hg
          obtain ⟨j', hj', hjl, hne⟩ := in_nat hin
          have := len_drop hjl hne 1
          have e9 : dropW (lowS k low V) gone = ⟨(lowS k low V).heaps, (lowS k low V).cells.set j' .off⟩ := by unfold dropW; rw [if_pos hin, hj', Int.toNat_natCast]
          rw [e9]
          split at this
          · rename_i e8
            rw [← e8] at this
            omega
          · omega
        · omega
      clear hP2 hlen hkm LI j2 j4
      go_upto_region 15 with fail
      go_cut [93] (fun s wx => ∃ g : γ, s = .bool (decide (0 ≤ low ∧ low < k)) ∧ Stage (fun _ => False) W0 [O (lowS k low V) g] wx)
      case first =>
        by_cases hl : 0 ≤ low ∧ low < k
        · have hl1 : 0 ≤ low := hl.1
          have hl2 : low < k := hl.2
          have eL : lowS k low V = lowerW V low (-9223372036854775808) 0 := by simp [lowS, hl]
          have hD := hs.callEx 0 rfl (fun _ ho => N.dec low (-9223372036854775808) 0 hlow ho)
          rw [hlb hl, ← eL] at hD
          have hH := (hs.get (i := 0) rfl).elim fun _ h => N.there h
          have m1 := N.mDec.find _ hH
          have m2 := N.mDec.enter
          clear hlb eL
          go_wp2_with fail
          refine hD.mono ?_
          rintro e w9 ⟨rfl, g5, _, hs3⟩
          go_wp2_with fail
          go_meet
          exact ⟨g5, by simp [hl1, hl2], hs3⟩
        · have eL : lowS k low V = V := by simp [lowS, hl]
          have dB := Lib.hid (decide_eq_false hl)
          by_cases hl1 : 0 ≤ low
          · have hl2 : ¬ low < k := fun h => hl ⟨hl1, h⟩
            clear hlb
            go_wp2_with fail
            go_meet
            exact ⟨g4, by rw [dB.out], by rw [eL]; exact hs⟩
          · clear hlb
            go_wp2_with fail
            go_meet
            exact ⟨g4, by rw [dB.out], by rw [eL]; exact hs⟩
      case rest =>
        obtain ⟨g5, rfl, hs2⟩ := hcut
        clear hs hlb hll
        generalize lowS k low V = VL at *
        generalize hlb : decide (0 ≤ low ∧ low < k) = lb
        go_upto_if 93 with fail
        go_cut [15] (fun s wx => ∃ th : Int, s = .int .i64 th ∧ (th = 0 ∨ (th = 1 ∧ 0 ≤ low ∧ low < k)) ∧ Stage (fun _ => False) W0 [O VL g5] wx)
        case first =>
          cases lb
          · clear hlb
            go_wp2_with fail
            go_meet
            exact ⟨0, rfl, Or.inl rfl, hs2⟩
          · have hl := of_decide_eq_true hlb
            clear hlb
            go_wp2_with fail
            go_meet
            exact ⟨1, rfl, Or.inr ⟨rfl, hl⟩, hs2⟩
        case rest =>
          obtain ⟨th, rfl, hth, hs⟩ := hcut
          clear hs2 hlb
          go_upto_region 17 with fail
          go_cut [112] (fun s wx => ∃ g : γ, s = .bool false ∧ Stage (fun _ => False) W0 [O (goneS k low gone VL) g] wx)
          case first =>
            by_cases hgt : 0 ≤ gone ∧ gone < k ∧ gone ≠ low
            · have hg1 : 0 ≤ gone := hgt.1
              have hg2 : gone < k := hgt.2.1
              have hg3 : (gone == low) = false := by simpa using hgt.2.2
              have hg4 : (gone != low) = true := by simpa using hgt.2.2
              have hg5 : ¬ gone = low := hgt.2.2
              have eG : goneS k low gone VL = dropW VL gone := by simp [goneS, hgt]
              have hD := hs.callEx 0 rfl (fun _ ho => N.del gone hgone ho)
              rw [hgi hgt, ← eG] at hD
              have hH := (hs.get (i := 0) rfl).elim fun _ h => N.there h
              have m1 := N.mDel.find _ hH
              have m2 := N.mDel.enter
              clear hgi hgt eG hth
              go_wp2_with fail
              refine hD.mono ?_
              rintro e w10 ⟨rfl, g6, _, hs3⟩
              go_wp2_with fail
              go_meet
              exact ⟨g6, rfl, hs3⟩
            · have eG : goneS k low gone VL = VL := by simp [goneS, hgt]
              clear hth
              by_cases hg1 : 0 ≤ gone
              · by_cases hg2 : gone < k
                · obtain rfl : gone = low := by
                    by_cases e : gone = low
                    · exact e
                    · exact absurd ⟨hg1, hg2, e⟩ hgt
                  clear hgi hgt
                  go_wp2_with fail
                  go_meet
                  exact ⟨g5, rfl, by rw [eG]; exact hs⟩
                · clear hgi hgt
                  go_wp2_with fail
                  go_meet
                  exact ⟨g5, rfl, by rw [eG]; exact hs⟩
              · clear hgi hgt
                go_wp2_with fail
                go_meet
                exact ⟨g5, rfl, by rw [eG]; exact hs⟩
          case rest =>
            obtain ⟨g6, rfl, hs2⟩ := hcut
            clear hs hgi
            generalize goneS k low gone VL = VG at *
            go_wp2_with fail
            go_loopw [16] (fun i wr => ∃ (j : Nat) (U : WS) (g : γ), i = .int .i64 j ∧ HInv k low gone U ∧ j + lenW U 1 ≤ k ∧ (j = 0 → ∀ i : Nat, i < k → (i : Int) = low → IsMin U 1 i) ∧ Stage (fun _ => False) W0 [O U g] wr) (fun i _ => k - (intOf i).toNat)
            case atStart => exact ⟨0, VG, g6, rfl, HI, by omega, fun _ => hmn, hs2⟩
            case round =>
              clear hs2 HI hmn hgl
              obtain ⟨j, U, g, rfl, HI, hjl, hmn, hs⟩ := hrel
              have hL := hs.askB 0 rfl (fun _ ho => N.len 1 h1i ho)
              have hH := (hs.get (i := 0) rfl).elim fun _ h => N.there h
              have m1 := N.mLen.find _ hH
              have m2 := N.mLen.enter
              go_wp2_with fail
              clear m1 m2 hH
              refine hL.mono ?_
              rintro e w11 ⟨rfl, hs3⟩
              clear hL hs
              by_cases hz : lenW U 1 = 0
              · have hz' : (lenW U 1 : Int) = 0 := by omega
                rw [hz']
                go_wp2_with fail
                go_ret
                exact ⟨rfl, hs3.below⟩
              · have hz' : (0 : Int) < (lenW U 1 : Int) := by omega
                obtain ⟨m, hm⟩ := min_exists (W := U) (h := 1) hz
                have hmin := min_is hm
                obtain ⟨q1, q2⟩ := minI_some hm
                have q3 : exW U 1 = dropW U m := by simp [exW, hm]
                have hl2 := len_ex hmin 1
                rw [if_pos rfl] at hl2
                have HI2 := hinv_drop HI hmin
                have hng := hinv_min HI hmin
                have hlast : j = 0 → 0 ≤ low → low < k → (m : Int) = low := fun h0 h1 h2 => by
                  have := isMin_uniq hmin (hmn h0 low.toNat (by omega) (by omega))
                  omega
                have hE := hs3.callEx 0 rfl (fun _ ho => N.ext 1 h1i ho)
                rw [q1, q2, q3] at hE
                generalize dropW U m = U2 at *
                have hH := (hs3.get (i := 0) rfl).elim fun _ h => N.there h
                have m1 := N.mExt.find _ hH
                have m2 := N.mExt.enter
                have hjk : j + 1 + lenW U2 1 ≤ k := by omega
                generalize lenW U 1 = lu at *
                clear q1 q2 q3 hl2 hmn hm hmin hz
                go_wp2_with fail
                clear m1 m2 hH
                refine hE.mono ?_
                rintro e w12 ⟨rfl, g7, _, hs4⟩
                clear hE hs3
                replace hs4 : Stage (fun _ => False) W0 [O U2 g7] w12 := hs4
                have hjk' : ¬ (k : Int) < j := by omega
                go_upto_region 23 with fail
                go_cut [155] (fun s wx => s = .bool false ∧ Stage (fun _ => False) W0 [O U2 g7] wx)
                case first =>
                  by_cases e1 : (m : Int) = gone
                  · have e2 : gone = low := by
                      by_cases e : gone = low
                      · exact e
                      · exact absurd ⟨e1, e⟩ hng
                    subst e2
                    subst e1
                    clear hng hlast
                    by_cases h0 : j = 0
                    · subst h0
                      rcases hth with rfl | ⟨rfl, _, _⟩
                      · go_wp2_with fail
                        go_meet
                        exact ⟨rfl, hs4⟩
                      · go_wp2_with fail
                        go_meet
                        exact ⟨rfl, hs4⟩
                    · have h0' : ((j : Int) == 0) = false := by simp; omega
                      go_wp2_with fail
                      go_meet
                      exact ⟨by first | rfl | rw [decide_eq_false (show ¬ k < j by omega)], hs4⟩
                  · have e1' : ((m : Int) == gone) = false := by simpa using e1
                    clear hng
                    by_cases h0 : j = 0
                    · subst h0
                      rcases hth with rfl | ⟨rfl, hl1, hl2⟩
                      · clear hlast
                        go_wp2_with fail
                        go_meet
                        exact ⟨rfl, hs4⟩
                      · have e3 := hlast rfl hl1 hl2
                        subst e3
                        clear hlast
                        go_wp2_with fail
                        go_meet
                        exact ⟨rfl, hs4⟩
                    · have h0' : ((j : Int) == 0) = false := by simp; omega
                      clear hlast
                      go_wp2_with fail
                      go_meet
                      exact ⟨by first | rfl | rw [decide_eq_false (show ¬ k < j by omega)], hs4⟩
                case rest =>
                  obtain ⟨rfl, hs5⟩ := hcut
                  clear hs4 hlast hng
                  go_wp2_with fail
                  go_roundw
                  case rel => exact ⟨j + 1, U2, g7, by go_num, HI2, hjk, fun h => absurd h (Nat.succ_ne_zero _), hs5⟩
                  case measure => simp [intOf]; omega
end
end Go.Proofs.Ytcjjglaimfhofaa

namespace Go.Proofs.Ytcjjglaimfhofaa

def fitsB (k d : Int) : Bool := (k == 2 && decide (2 ≤ d) && decide (d ≤ 16)) || (k != 2 && d == 0)
def checkI (k d : Int) : Int := if k < 1 then 21 else if 8 < k then 21 else if fitsB k d then 0 else 22
def arityI (k d : Int) : Int := if checkI k d = 0 then (if k = 1 then 2 else if k = 2 then d else 0) else 0
def bitsI (n : Int) : Int := (Lib.bitLen n.toNat : Int)
def nearI (n : Int) : Int := if n < 0 then 0 else if 1099511627776 < n then 1099511627776 else n
def callI (k d : Int) : Int := if checkI k d = 0 then (if k = 1 then 2 else if k = 2 then d else if k = 3 ∨ k = 6 ∨ k = 8 then 4 else 0) else 0
def wholeFI (k d : Int) : Int := if checkI k d = 0 then (if k = 4 ∨ k = 5 ∨ k = 7 then 16 else 0) else 0
def limitI (k d m : Int) : Int := callI k d * (2 + bitsI (nearI m))
def wholeI (k d n : Int) : Int := wholeFI k d * nearI n * (2 + bitsI (nearI n))

theorem check_cases (k d : Int) : (checkI k d = 21 ∧ (k < 1 ∨ 8 < k)) ∨ (checkI k d = 0 ∧ 1 ≤ k ∧ k ≤ 8 ∧ fitsB k d = true) ∨ (checkI k d = 22 ∧ 1 ≤ k ∧ k ≤ 8 ∧ fitsB k d = false) := by
  unfold checkI
  by_cases h1 : k < 1
  · simp [h1]
  · by_cases h2 : 8 < k
    · simp [h1, h2]
    · cases h3 : fitsB k d <;> simp [h1, h2] <;> omega
theorem fits_cases {k d : Int} (h : fitsB k d = true) : (k = 2 ∧ 2 ≤ d ∧ d ≤ 16) ∨ (k ≠ 2 ∧ d = 0) := by
  unfold fitsB at h
  simp at h
  omega
theorem near_range (n : Int) : 0 ≤ nearI n ∧ nearI n ≤ 1099511627776 := by unfold nearI; split <;> (try split) <;> omega
theorem near_mono {a b : Int} (h : a ≤ b) : nearI a ≤ nearI b := by
  unfold nearI; repeat' split
  all_goals omega
theorem bits_neg {n : Int} (h : n < 0) : bitsI n = 0 := by
  unfold bitsI; rw [show n.toNat = 0 by omega]; decide
theorem bits_range (n : Int) (h : n ≤ 9223372036854775807) : 0 ≤ bitsI n ∧ bitsI n ≤ 64 := by
  unfold bitsI
  have : Lib.bitLen n.toNat ≤ 64 := Lib.bitLen_le n.toNat 64 (by omega) (by omega)
  omega
theorem bits_near (n : Int) : 0 ≤ bitsI (nearI n) ∧ bitsI (nearI n) ≤ 41 := by
  have ⟨h0, h1⟩ := near_range n
  unfold bitsI
  have : Lib.bitLen (nearI n).toNat ≤ 41 := Lib.bitLen_le _ 41 (by omega) (by omega)
  omega
theorem bitLen_mono {a b : Nat} (h : a ≤ b) (hb : b < 2 ^ 64) : Lib.bitLen a ≤ Lib.bitLen b := by
  have hle : Lib.bitLen b ≤ 64 := Lib.bitLen_le b 64 (by omega) hb
  by_cases h0 : b = 0
  · rw [show a = b by omega]; exact Nat.le_refl _
  · exact Lib.bitLen_le a (Lib.bitLen b) hle (Nat.lt_of_le_of_lt h (Lib.bitLenAux_bounds 64 b hb h0).2.2)
theorem bits_mono {a b : Int} (h : a ≤ b) (hb : b ≤ 9223372036854775807) : bitsI a ≤ bitsI b := by
  unfold bitsI
  have := bitLen_mono (a := a.toNat) (b := b.toNat) (by omega) (by omega)
  omega
theorem call_range (k d : Int) : 0 ≤ callI k d ∧ callI k d ≤ 16 := by
  unfold callI
  split
  · rename_i h
    rcases check_cases k d with ⟨h', _⟩ | ⟨_, _, _, hf⟩ | ⟨h', _⟩
    · omega
    · have := fits_cases hf
      repeat' split
      all_goals omega
    · omega
  · omega
theorem whole_range (k d : Int) : wholeFI k d = 0 ∨ wholeFI k d = 16 := by
  unfold wholeFI
  repeat' split
  all_goals simp
theorem arity_range (k d : Int) : 0 ≤ arityI k d ∧ arityI k d ≤ 16 := by
  unfold arityI
  split
  · rcases check_cases k d with ⟨h', _⟩ | ⟨_, _, _, hf⟩ | ⟨h', _⟩
    · omega
    · have := fits_cases hf
      repeat' split
      all_goals omega
    · omega
  · omega
theorem mul_range {a b : Int} {m n : Int} (ha : 0 ≤ a ∧ a ≤ m) (hb : 0 ≤ b ∧ b ≤ n) : 0 ≤ a * b ∧ a * b ≤ m * n :=
  ⟨Int.mul_nonneg ha.1 hb.1, Int.mul_le_mul ha.2 hb.2 hb.1 (by omega)⟩
theorem limit_range (k d m : Int) : 0 ≤ limitI k d m ∧ limitI k d m ≤ 688 := by
  have := bits_near m
  have h := mul_range (call_range k d) (b := 2 + bitsI (nearI m)) (n := 43) (by omega)
  unfold limitI
  omega
theorem wholeN_range (k d n : Int) : 0 ≤ wholeFI k d * nearI n ∧ wholeFI k d * nearI n ≤ 17592186044416 := by
  have := mul_range (a := wholeFI k d) (m := 16) (by have := whole_range k d; omega) (near_range n)
  omega
theorem whole_all_range (k d n : Int) : 0 ≤ wholeI k d n ∧ wholeI k d n ≤ 756463999909888 := by
  have := bits_near n
  have h := mul_range (wholeN_range k d n) (b := 2 + bitsI (nearI n)) (n := 43) (by omega)
  unfold wholeI
  omega
theorem limit_mono (k d : Int) {a b : Int} (h : a ≤ b) : limitI k d a ≤ limitI k d b := by
  have h1 := bits_mono (near_mono h) (by have := near_range b; omega)
  unfold limitI
  exact Int.mul_le_mul_of_nonneg_left (by omega) (call_range k d).1
theorem whole_mono (k d : Int) {a b : Int} (h : a ≤ b) : wholeI k d a ≤ wholeI k d b := by
  have h1 := bits_mono (near_mono h) (by have := near_range b; omega)
  have h2 : 0 ≤ wholeFI k d := by have := whole_range k d; omega
  unfold wholeI
  refine Int.mul_le_mul (Int.mul_le_mul_of_nonneg_left (near_mono h) h2) (by omega) (by have := bits_near a; omega) (wholeN_range k d b).1
/-- Of each kind there is one bound, and just one. -/
theorem one_bound (k d a : Int) (h : checkI k d = 0) : decide (0 < limitI k d a) = !decide (0 < wholeI k d 1) := by
  rcases check_cases k d with ⟨h', _⟩ | ⟨_, h1, h8, hf⟩ | ⟨h', _⟩
  · omega
  · have hc := fits_cases hf
    have hb := bits_near a
    have hw : wholeI k d 1 = wholeFI k d * 3 := by
      unfold wholeI
      rw [show nearI 1 = 1 by decide, show bitsI 1 = 1 by decide]
      omega
    rw [hw]
    unfold limitI
    have e : wholeFI k d = if k = 4 ∨ k = 5 ∨ k = 7 then 16 else 0 := by unfold wholeFI; rw [if_pos h]
    have e2 : callI k d = if k = 1 then 2 else if k = 2 then d else if k = 3 ∨ k = 6 ∨ k = 8 then 4 else 0 := by unfold callI; rw [if_pos h]
    by_cases hk : k = 4 ∨ k = 5 ∨ k = 7
    · have z : callI k d = 0 := by rw [e2]; repeat' split
                                   all_goals omega
      rw [z, e, if_pos hk]; simp
    · rw [e, if_neg hk]
      have z : 1 ≤ callI k d := by rw [e2]; repeat' split
                                   all_goals omega
      have : 0 < callI k d * (2 + bitsI (nearI a)) := Int.mul_pos (by omega) (by omega)
      simp [this]
  · omega
theorem limit_none {k d : Int} (h : ¬ checkI k d = 0) (a : Int) : limitI k d a = 0 := by unfold limitI callI; simp [h]
theorem whole_none {k d : Int} (h : ¬ checkI k d = 0) (a : Int) : wholeI k d a = 0 := by unfold wholeI wholeFI; simp [h]
theorem limit_steps (k d m : Int) : limitI k d m = if checkI k d ≠ 0 then 0 else if k ≤ 2 then arityI k d * (2 + bitsI (nearI m)) else if k = 3 ∨ k = 6 ∨ k = 8 then 4 * (2 + bitsI (nearI m)) else 0 := by
  by_cases h : checkI k d = 0
  · rcases check_cases k d with ⟨h', _⟩ | ⟨_, h1, h8, hf⟩ | ⟨h', _⟩
    · omega
    · unfold limitI callI arityI
      simp only [h, if_true, ne_eq, not_true_eq_false, if_false]
      by_cases e1 : k = 1
      · simp [e1]
      · by_cases e2 : k = 2
        · simp [e2]
        · rw [if_neg e1, if_neg e2, if_neg (by omega : ¬ k ≤ 2)]
          split <;> simp
    · omega
  · rw [limit_none h, if_pos h]
theorem whole_steps (k d n : Int) : wholeI k d n = if checkI k d ≠ 0 then 0 else if k = 4 ∨ k = 5 ∨ k = 7 then 16 * nearI n * (2 + bitsI (nearI n)) else 0 := by
  by_cases h : checkI k d = 0
  · unfold wholeI wholeFI
    simp only [h, if_true, ne_eq, not_true_eq_false, if_false]
    split <;> simp
  · rw [whole_none h, if_pos h]
theorem bits_half (m : Nat) (h0 : 0 < m) (h : m ≤ 9223372036854775807) : Lib.bitLen m = 1 + Lib.bitLen (m / 2) := Lib.bitLen_half m (by omega) (by omega)
end Go.Proofs.Ytcjjglaimfhofaa

namespace Go.Proofs.Ytcjjglaimfhofaa
open Go.RowKit Go.Sort

theorem one_any (w : World) : Calls Try.prog 35 #[.bool true] w fun e w' => e = .returned (.int .i64 1) ∧ w = w' := by
  go_enter Try.func35, Try.ntmps35
  go_wp2
  go_ret
  exact ⟨rfl, rfl⟩
section
variable {W0 w : World} {args : Array Value}
/-- A call that tells 'so', told as 1. -/
theorem runs_one {a b d : Value} (h : Calls Try.prog 36 #[a, b, d] w fun e w' => e = .returned (.bool true) ∧ Below W0.heap.size W0 w') : Calls Try.prog 16 #[a, b, d] w fun e w' => e = .returned (.int .i64 1) ∧ Below W0.heap.size W0 w' := by
  go_enter Try.func16, Try.ntmps16
  go_wp2_with fail
  refine h.mono ?_
  rintro e w1 ⟨rfl, hb⟩
  go_wp2_with fail
  refine (one_any w1).mono ?_
  rintro e w2 ⟨rfl, rfl⟩
  go_wp2_with fail
  go_ret
  exact ⟨rfl, hb⟩
theorem sorts_one {a b : Value} (h : Calls Try.prog 38 #[a, b] w fun e w' => e = .returned (.bool true) ∧ Below W0.heap.size W0 w') : Calls Try.prog 19 #[a, b] w fun e w' => e = .returned (.int .i64 1) ∧ Below W0.heap.size W0 w' := by
  go_enter Try.func19, Try.ntmps19
  go_wp2_with fail
  refine h.mono ?_
  rintro e w1 ⟨rfl, hb⟩
  go_wp2_with fail
  refine (one_any w1).mono ?_
  rintro e w2 ⟨rfl, rfl⟩
  go_wp2_with fail
  go_ret
  exact ⟨rfl, hb⟩
end
section
variable {γ : Type} {O : WS → γ → Ob} {st : γ → Int} {R : WS → Int → Int → Int → Int → Int → γ → γ → Prop} {H : World → Prop} {T : TypeId} {v : Value} {f : NestFns}
theorem halves_num (N : Nests O st R H T v f) (L : List Int) (hn : L.length ≤ 65536) (a0 : Option Addr) (cap : Nat) (hcap : L.length ≤ cap ∧ cap ≤ 9223372036854775807) (hmin : ∀ n ∈ L, -9223372036854775808 ≤ n)
    (B : List Bool) (a1 : Option Addr) (cap1 : Nat) (hcap' : B.length ≤ cap1 ∧ cap1 ≤ 9223372036854775807) (low gone : Int) (hlow : inInt low) (hgone : inInt gone)
    {g : γ} {W0 w : World} (hkey : IntsAt W0 .i64 a0 L) (hbool : BoolsAt W0 a1 B) (hs : Stage (fun _ => False) W0 [O (newW L.length) g] w) :
    Calls Try.prog 20 #[.iface T v, .slice a0 L.length cap, .agg #[.slice a1 B.length cap1, .int .i64 low, .int .i64 gone]] w fun e w' => e = .returned (.int .i64 1) ∧ Below W0.heap.size W0 w' := by
  obtain ⟨w1, hw1, hs1⟩ : ∃ w1, w.alloc (.cells #[.slice a1 B.length cap1, .int .i64 low, .int .i64 gone] 54) = w1 ∧ Stage (fun _ => False) W0 [O (newW L.length) g, Ob.box w.heap.size #[.slice a1 B.length cap1, .int .i64 low, .int .i64 gone] 54] w1 := ⟨_, rfl, hs.alloc _ _⟩
  have h := halves_any N L hn a0 cap hcap hmin B a1 cap1 hcap' low gone hlow hgone hkey hbool (hs1.take 1)
  have c0 := hs1.cell 1 rfl (o := 0) rfl
  have c1 := hs1.cell 1 rfl (o := 1) rfl
  have c2 := hs1.cell 1 rfl (o := 2) rfl
  clear hs hs1 hkey hbool hmin
  generalize L.length = n at *
  generalize B.length = m at *
  go_enter Try.func20, Try.ntmps20
  go_wp2_with fail
  refine h.mono ?_
  rintro e w2 ⟨rfl, hb⟩
  go_wp2_with fail
  refine (one_any w2).mono ?_
  rintro e w3 ⟨rfl, rfl⟩
  go_wp2_with fail
  go_ret
  exact ⟨rfl, hb⟩
end
theorem lt_bits : ∀ m : Nat, m ≤ 9223372036854775807 → m < 2 ^ Lib.bitLen m := by
  intro m
  induction m using Nat.strongRecOn with
  | ind m ih =>
    intro hm
    by_cases h0 : m = 0
    · subst h0; exact Nat.pos_of_ne_zero (by simp)
    · have h1 := bits_half m (by omega) hm
      have h2 := ih (m / 2) (by omega) (by omega)
      rw [h1, Nat.add_comm, Nat.pow_succ]
      omega
end Go.Proofs.Ytcjjglaimfhofaa
