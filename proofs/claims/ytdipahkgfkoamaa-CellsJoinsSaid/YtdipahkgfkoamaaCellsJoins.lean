/- CellsJoins, walked: for every list of keys, every list of sides and every slot the call returns true, in every memory; of what was in memory nothing is changed. -/
import Derived.Test.YtdipahkgfkoamaaCellsNew
import Derived.Test.YtdipahkgfkoamaaJoinsMath
namespace Go.Proofs.Ytdipahkgfkoamaa
open Go.RowKit Go.Sort

theorem put_no {W : WS} {y x k s : Int} (h : putB W y x = false) : putW W y x k s = W := by simp [putW, h]
set_option maxRecDepth 100000 in
set_option maxHeartbeats 2000000 in
theorem joins_walk (ka : Option Addr) (kc n : Nat) (key : Nat → Int) (la : Option Addr) (lc m : Nat) (left : Nat → Bool) (gone : Int) (w : World) (hn : n ≤ 9223372036854775807) (hm : m ≤ 9223372036854775807)
    (hk : ∀ k, k < n → ∃ b off, ka = some ⟨b, off, none⟩ ∧ w.cell? ⟨b, off + k, none⟩ = some (.int .i64 (key k)))
    (hl : ∀ k, k < m → ∃ b off, la = some ⟨b, off, none⟩ ∧ w.cell? ⟨b, off + k, none⟩ = some (.bool (left k))) :
    Calls Try.prog 5 #[.slice ka n kc, .slice la m lc, .int .i64 gone] w fun e w' => e = .returned (.bool true) ∧ Below w.heap.size w w' := by
  go_enter Try.func5, Try.ntmps5
  go_wp2_with fail
  refine (alive_any w).mono ?_
  rintro e w1 ⟨rfl, hb⟩
  by_cases h60 : (60 : Int) < n
  · go_wp2_with fail
    go_ret
    exact ⟨rfl, hb⟩
  · have hn60 : n ≤ 60 := by omega
    go_wp2_with fail
    refine (((Stage.start w).later hb).newCells n (by omega)).mono ?_
    rintro e w2 ⟨p, rfl, hs2⟩
    simp only [List.nil_append] at hs2
    go_wp2_with fail
    refine (hs2.call 0 rfl (fun _ ho => make_cl ho)).mono ?_
    rintro e w3 ⟨rfl, hs1⟩
    clear hs2
    rw [show madeW (newW n) = 1 from rfl]
    go_wp2_with fail
    refine (hs1.call 0 rfl (fun _ ho => make_cl ho)).mono ?_
    rintro e w3 ⟨rfl, hs⟩
    clear hs1
    rw [show madeW (makeW (newW n)) = 2 from rfl]
    obtain ⟨h, hh⟩ : ∃ h : Nat → Nat, h = fun i => if i < m ∧ left i = true then 2 else 1 := ⟨_, rfl⟩
    have hh12 : ∀ i, h i = 1 ∨ h i = 2 := fun i => by
      rw [hh]
      by_cases e : i < m ∧ left i = true
      · exact Or.inr (if_pos e)
      · exact Or.inl (if_neg e)
    have hh1 : ∀ i, i < m → left i = true → h i = 2 := fun i h1 h2 => by rw [hh]; exact if_pos ⟨h1, h2⟩
    have hh2 : ∀ i, i < m → left i = false → h i = 1 := fun i h1 h2 => by rw [hh]; exact if_neg (fun e => by rw [h2] at e; cases e.2)
    have hh3 : ∀ i, ¬ i < m → h i = 1 := fun i h1 => by rw [hh]; exact if_neg (fun e => h1 e.1)
    clear hh
    obtain ⟨hJ, hJ0⟩ := jinv_start h key (n := n) (by omega)
    replace hs : Stage (fun _ => False) w [Ob.cells p (makeW (makeW (newW n))) 0] w3 := hs
    generalize makeW (makeW (newW n)) = W0 at *
    go_wp2_with fail
    go_loopw [11, 45] (fun f i wr => ∃ (k : Nat) (W : WS), k ≤ n ∧ i = .int .i64 k ∧ f = .int .i64 (lenW W 1) ∧ JInv h key n k W ∧ Stage (fun _ => False) w [Ob.cells p W 0] wr) (fun _ i _ => n - (intOf i).toNat)
    case atStart => exact ⟨0, W0, Nat.zero_le _, rfl, by rw [hJ0]; rfl, hJ, hs⟩
    case round =>
      clear hs hJ hJ0 hb
      obtain ⟨k, W, hkn, rfl, rfl, hJ, hs⟩ := hrel
      by_cases hlt : k < n
      · have hki : (k : Int) < n := by omega
        obtain ⟨b, off, rfl, hc⟩ := hk k hlt
        replace hc := later hs.below hc
        obtain ⟨s1, s2, s3, s4, s5⟩ := jinv_step hJ (hh12 k) hlt
        have n4 := put_no (k := 0) (s := 0) s4
        have n5 := put_no (k := 0) (s := 0) s5
        have hsum := hJ.sum
        by_cases hkm : k < m
        · have hkmi : (k : Int) < m := by omega
          obtain ⟨b2, off2, rfl, hc2⟩ := hl k hkm
          replace hc2 := later hs.below hc2
          cases hv : left k
          · have e1 := hh2 k hkm hv
            rw [hv] at hc2
            rw [show ((h k : Nat) : Int) = 1 by rw [e1]; rfl] at s1 s2 s3 s4 s5 n4 n5
            rw [if_pos e1] at s3
            have e3 : IntKind.i64.wrap ((lenW W 1 : Int) + 1) = (lenW W 1 : Int) + 1 := IntWalk.i64_in _ (by omega)
            replace s3 := Lib.hid s3
            have hP1 := hs.call 0 rfl (fun _ ho => put_cl 1 k (key k) 0 ho)
            rw [s1] at hP1
            generalize putW W 1 k (key k) 0 = W' at *
            clear hv hkm e1 hlt hsum
            go_wp2_with fail
            refine hP1.mono ?_
            rintro e w4 ⟨rfl, hs⟩
            replace hs : Stage (fun _ => False) w [Ob.cells p W' 0] w4 := hs
            have hP2 := hs.call 0 rfl (fun _ ho => put_cl 1 k 0 0 ho)
            rw [s4, n4] at hP2
            go_wp2_with fail
            refine hP2.mono ?_
            rintro e w5 ⟨rfl, hs⟩
            replace hs : Stage (fun _ => False) w [Ob.cells p W' 0] w5 := hs
            have hP3 := hs.call 0 rfl (fun _ ho => put_cl 2 k 0 0 ho)
            rw [s5, n5] at hP3
            go_wp2_with fail
            refine hP3.mono ?_
            rintro e w6 ⟨rfl, hs⟩
            go_wp2_with fail
            go_roundw
            case rel => exact ⟨k + 1, W', by omega, by go_num, by rw [s3.out], s2, hs⟩
            case measure => simp [intOf]; omega
          · have e1 := hh1 k hkm hv
            rw [hv] at hc2
            rw [show ((h k : Nat) : Int) = 2 by rw [e1]; rfl] at s1 s2 s3 s4 s5 n4 n5
            rw [if_neg (by omega)] at s3
            have e3 : IntKind.i64.wrap ((lenW W 1 : Int) + 1) = (lenW W 1 : Int) + 1 := IntWalk.i64_in _ (by omega)
            replace s3 := Lib.hid s3
            have hP1 := hs.call 0 rfl (fun _ ho => put_cl 2 k (key k) 0 ho)
            rw [s1] at hP1
            generalize putW W 2 k (key k) 0 = W' at *
            clear hv hkm e1 hlt hsum
            go_wp2_with fail
            refine hP1.mono ?_
            rintro e w4 ⟨rfl, hs⟩
            replace hs : Stage (fun _ => False) w [Ob.cells p W' 0] w4 := hs
            have hP2 := hs.call 0 rfl (fun _ ho => put_cl 1 k 0 0 ho)
            rw [s4, n4] at hP2
            go_wp2_with fail
            refine hP2.mono ?_
            rintro e w5 ⟨rfl, hs⟩
            replace hs : Stage (fun _ => False) w [Ob.cells p W' 0] w5 := hs
            have hP3 := hs.call 0 rfl (fun _ ho => put_cl 2 k 0 0 ho)
            rw [s5, n5] at hP3
            go_wp2_with fail
            refine hP3.mono ?_
            rintro e w6 ⟨rfl, hs⟩
            go_wp2_with fail
            go_roundw
            case rel => exact ⟨k + 1, W', by omega, by go_num, by rw [s3.out, Int.add_zero], s2, hs⟩
            case measure => simp [intOf]; omega
        · have e1 := hh3 k hkm
          have hkmi : ¬ (k : Int) < m := by omega
          rw [show ((h k : Nat) : Int) = 1 by rw [e1]; rfl] at s1 s2 s3 s4 s5 n4 n5
          rw [if_pos e1] at s3
          have e3 : IntKind.i64.wrap ((lenW W 1 : Int) + 1) = (lenW W 1 : Int) + 1 := IntWalk.i64_in _ (by omega)
          replace s3 := Lib.hid s3
          have hP1 := hs.call 0 rfl (fun _ ho => put_cl 1 k (key k) 0 ho)
          rw [s1] at hP1
          generalize putW W 1 k (key k) 0 = W' at *
          clear hkm e1 hlt hsum
          go_wp2_with fail
          refine hP1.mono ?_
          rintro e w4 ⟨rfl, hs⟩
          replace hs : Stage (fun _ => False) w [Ob.cells p W' 0] w4 := hs
          have hP2 := hs.call 0 rfl (fun _ ho => put_cl 1 k 0 0 ho)
          rw [s4, n4] at hP2
          go_wp2_with fail
          refine hP2.mono ?_
          rintro e w5 ⟨rfl, hs⟩
          replace hs : Stage (fun _ => False) w [Ob.cells p W' 0] w5 := hs
          have hP3 := hs.call 0 rfl (fun _ ho => put_cl 2 k 0 0 ho)
          rw [s5, n5] at hP3
          go_wp2_with fail
          refine hP3.mono ?_
          rintro e w6 ⟨rfl, hs⟩
          go_wp2_with fail
          go_roundw
          case rel => exact ⟨k + 1, W', by omega, by go_num, by rw [s3.out], s2, hs⟩
          case measure => simp [intOf]; omega
      · have hki : ¬ (k : Int) < n := by omega
        obtain rfl : k = n := by omega
        have hsum := hJ.sum
        obtain ⟨t1, t2, t3, t4, t5⟩ := jinv_end hJ hh12
        clear hh12 hh1 hh2 hh3 hl hlt
        have hL1 := hs.ask 0 rfl (fun _ ho => len_cl 1 (by omega) ho)
        have hL2 := hs.ask 0 rfl (fun _ ho => len_cl 2 (by omega) ho)
        have hJn := hs.call 0 rfl (fun _ ho => join_cl 2 1 ho)
        rw [t1] at hJn
        generalize joinW W 2 1 = W' at *
        have e1 : IntKind.i64.wrap ((k : Int) - lenW W 1) = lenW W 2 := by rw [show (k : Int) - lenW W 1 = lenW W 2 by omega]; exact IntWalk.i64_in _ (by omega)
        have e2 : IntKind.i64.wrap ((k : Int) - 1) = (k : Int) - 1 := IntWalk.i64_in _ (by omega)
        have hc1 : (lenW W 1 : Int) ≤ k := by omega
        go_wp2_with fail
        refine hL1.mono ?_
        rintro e w4 ⟨rfl, rfl⟩
        go_wp2_with fail
        refine hL2.mono ?_
        rintro e w4 ⟨rfl, rfl⟩
        clear hL1 hL2
        go_wp2_with fail
        refine hJn.mono ?_
        rintro e w4 ⟨rfl, hs4⟩
        replace hs4 : Stage (fun _ => False) w [Ob.cells p W' 0] w4 := hs4
        have hH := hs4.ask 0 rfl (fun _ ho => has_cl 1 ho)
        have hL1 := hs4.ask 0 rfl (fun _ ho => len_cl 1 (by omega) ho)
        have hL2 := hs4.ask 0 rfl (fun _ ho => len_cl 2 (by omega) ho)
        rw [t5] at hH
        rw [t4] at hL1
        rw [t3] at hL2
        clear hJn hs
        go_wp2_with fail
        refine hH.mono ?_
        rintro e w5 ⟨rfl, rfl⟩
        go_wp2_with fail
        refine hL2.mono ?_
        rintro e w5 ⟨rfl, rfl⟩
        go_wp2_with fail
        refine hL1.mono ?_
        rintro e w5 ⟨rfl, rfl⟩
        have hDr := hs4.call 0 rfl (fun _ ho => drop_cl gone ho)
        obtain ⟨r1, r2⟩ := jend_drop t2 t3 gone
        clear hL1 hL2 hH
        have hJ2 := hJ
        cases hin : inW W' gone
        · rw [hin] at hDr r1
          rw [if_neg (by simp)] at r1
          generalize dropW W' gone = W'' at *
          clear t2 t3 t4 t5 hJ2
          go_wp2_with fail
          refine hDr.mono ?_
          rintro e w6 ⟨rfl, hs6⟩
          replace hs6 : Stage (fun _ => False) w [Ob.cells p W'' 0] w6 := hs6
          clear hDr hs4
          go_wp2_with fail
          go_loopw [136] (fun i wr => ∃ q : Nat, q ≤ k ∧ i = .int .i64 q ∧ Stage (fun _ => False) w [Ob.cells p W'' 0] wr) (fun i _ => k - (intOf i).toNat)
          case atStart => exact ⟨0, Nat.zero_le _, rfl, hs6⟩
          case round =>
            clear hs6
            obtain ⟨q, hq, rfl, hs⟩ := hrel
            by_cases hlt : q < k
            · have hki : (q : Int) < k := by omega
              obtain ⟨b, off, rfl, hc⟩ := hk q hlt
              replace hc := later hs.below hc
              obtain ⟨x1, x2⟩ := r2 q hlt
              have hHo := hs.call 0 rfl (fun _ ho => home_cl q ho)
              rw [x1, x2] at hHo
              generalize key q = y at *
              by_cases e : (q : Int) = gone
              · have e' : ((q : Int) == gone) = true := by simpa using e
                rw [if_pos e, decide_eq_true e] at hHo
                rw [if_pos e] at x2
                rw [decide_eq_true e] at x1
                simp only [CellD.off] at hHo x2
                clear e
                go_wp2_with fail
                refine hHo.mono ?_
                rintro e w7 ⟨rfl, hs7⟩
                replace hs7 : Stage (fun _ => False) w [Ob.cells p W'' 0] w7 := hs7
                have hEn := hs7.askB 0 rfl (fun _ ho => entry_cl q ho)
                rw [x1, x2] at hEn
                clear hHo
                go_wp2_with fail
                refine hEn.mono ?_
                rintro e w8 ⟨rfl, hs8⟩
                go_wp2_with fail
                go_roundw
                case rel => exact ⟨q + 1, by omega, by go_num, by first | exact hs8 | exact hs8.later ((Below.refl _ _).alloc (Nat.le_refl _) _)⟩
                case measure => simp [intOf]; omega
              · have e' : ((q : Int) == gone) = false := by simpa using e
                rw [if_neg e, decide_eq_false e] at hHo
                rw [if_neg e] at x2
                rw [decide_eq_false e] at x1
                clear e
                go_wp2_with fail
                refine hHo.mono ?_
                rintro e w7 ⟨rfl, hs7⟩
                replace hs7 : Stage (fun _ => False) w [Ob.cells p W'' 0] w7 := hs7
                have hEn := hs7.askB 0 rfl (fun _ ho => entry_cl q ho)
                rw [x1, x2] at hEn
                clear hHo
                go_wp2_with fail
                refine hEn.mono ?_
                rintro e w8 ⟨rfl, hs8⟩
                go_wp2_with fail
                go_roundw
                case rel => exact ⟨q + 1, by omega, by go_num, by first | exact hs8 | exact hs8.later ((Below.refl _ _).alloc (Nat.le_refl _) _)⟩
                case measure => simp [intOf]; omega
            · have hki : ¬ (q : Int) < k := by omega
              have hL := hs.ask 0 rfl (fun _ ho => len_cl 2 (by omega) ho)
              rw [r1] at hL
              go_wp2_with fail
              refine hL.mono ?_
              rintro e w7 ⟨rfl, rfl⟩
              go_wp2_with fail
              go_ret
              exact ⟨rfl, hs.below⟩
        · rw [hin] at hDr r1
          rw [if_pos rfl] at r1
          generalize dropW W' gone = W'' at *
          clear t2 t3 t4 t5 hJ2
          go_wp2_with fail
          refine hDr.mono ?_
          rintro e w6 ⟨rfl, hs6⟩
          replace hs6 : Stage (fun _ => False) w [Ob.cells p W'' 0] w6 := hs6
          clear hDr hs4
          go_wp2_with fail
          go_loopw [136] (fun i wr => ∃ q : Nat, q ≤ k ∧ i = .int .i64 q ∧ Stage (fun _ => False) w [Ob.cells p W'' 0] wr) (fun i _ => k - (intOf i).toNat)
          case atStart => exact ⟨0, Nat.zero_le _, rfl, hs6⟩
          case round =>
            clear hs6
            obtain ⟨q, hq, rfl, hs⟩ := hrel
            by_cases hlt : q < k
            · have hki : (q : Int) < k := by omega
              obtain ⟨b, off, rfl, hc⟩ := hk q hlt
              replace hc := later hs.below hc
              obtain ⟨x1, x2⟩ := r2 q hlt
              have hHo := hs.call 0 rfl (fun _ ho => home_cl q ho)
              rw [x1, x2] at hHo
              generalize key q = y at *
              by_cases e : (q : Int) = gone
              · have e' : ((q : Int) == gone) = true := by simpa using e
                rw [if_pos e, decide_eq_true e] at hHo
                rw [if_pos e] at x2
                rw [decide_eq_true e] at x1
                simp only [CellD.off] at hHo x2
                clear e
                go_wp2_with fail
                refine hHo.mono ?_
                rintro e w7 ⟨rfl, hs7⟩
                replace hs7 : Stage (fun _ => False) w [Ob.cells p W'' 0] w7 := hs7
                have hEn := hs7.askB 0 rfl (fun _ ho => entry_cl q ho)
                rw [x1, x2] at hEn
                clear hHo
                go_wp2_with fail
                refine hEn.mono ?_
                rintro e w8 ⟨rfl, hs8⟩
                go_wp2_with fail
                go_roundw
                case rel => exact ⟨q + 1, by omega, by go_num, by first | exact hs8 | exact hs8.later ((Below.refl _ _).alloc (Nat.le_refl _) _)⟩
                case measure => simp [intOf]; omega
              · have e' : ((q : Int) == gone) = false := by simpa using e
                rw [if_neg e, decide_eq_false e] at hHo
                rw [if_neg e] at x2
                rw [decide_eq_false e] at x1
                clear e
                go_wp2_with fail
                refine hHo.mono ?_
                rintro e w7 ⟨rfl, hs7⟩
                replace hs7 : Stage (fun _ => False) w [Ob.cells p W'' 0] w7 := hs7
                have hEn := hs7.askB 0 rfl (fun _ ho => entry_cl q ho)
                rw [x1, x2] at hEn
                clear hHo
                go_wp2_with fail
                refine hEn.mono ?_
                rintro e w8 ⟨rfl, hs8⟩
                go_wp2_with fail
                go_roundw
                case rel => exact ⟨q + 1, by omega, by go_num, by first | exact hs8 | exact hs8.later ((Below.refl _ _).alloc (Nat.le_refl _) _)⟩
                case measure => simp [intOf]; omega
            · have hki : ¬ (q : Int) < k := by omega
              have hL := hs.ask 0 rfl (fun _ ho => len_cl 2 (by omega) ho)
              rw [r1] at hL
              go_wp2_with fail
              refine hL.mono ?_
              rintro e w7 ⟨rfl, rfl⟩
              go_wp2_with fail
              go_ret
              exact ⟨rfl, hs.below⟩
end Go.Proofs.Ytdipahkgfkoamaa
