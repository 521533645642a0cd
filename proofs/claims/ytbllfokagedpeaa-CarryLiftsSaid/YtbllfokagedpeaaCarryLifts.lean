/- CarryLifts, walked. -/
import Derived.Test.YtbllfokagedpeaaCarryLiftsMath
import Derived.Deep.RegionHeld3
namespace Go.Proofs.Ytbllfokagedpeaa
open Go.RowKit Go.Sort

set_option maxRecDepth 100000 in
set_option maxHeartbeats 8000000 in
theorem carryLifts_walk (C : Nat) (hC : C ≤ 255) (x : Int) (w : World) :
    Calls Try.prog 7 #[.int .u8 C, .int .i64 x] w fun e w' => e = .returned (.bool true) ∧ Below w.heap.size w w' := by
  obtain ⟨n, hn⟩ : ∃ n, n = 1 + C % 64 := ⟨_, rfl⟩
  have hn64 : n ≤ 64 ∧ 1 ≤ n := by omega
  obtain ⟨hn1, hn2⟩ := hn64
  have q1 : Int.tmod (C : Int) 64 = ((n : Int) - 1) := by
    have h1 : Int.tmod (C : Int) 64 = ((C % 64 : Nat) : Int) := (Int.ofNat_tmod C 64).symm
    rw [h1]; omega
  have q2 : IntKind.i64.wrap (1 + ((n : Int) - 1)) = (n : Int) := by rw [show 1 + ((n : Int) - 1) = (n : Int) by omega]; exact IntWalk.i64_in _ (by omega)
  replace hn := Lib.hid hn
  go_enter Try.func7, Try.ntmps7
  go_wp2_with fail
  refine (carryAlive_any w).mono ?_
  rintro e w1 ⟨rfl, hb⟩
  go_wp2_with fail
  refine (((Stage.start w).later hb).newForest n (by omega)).mono ?_
  rintro e w2 ⟨p, rfl, hs⟩
  clear hb q1 q2
  obtain ⟨w3, hw3, hs3⟩ : ∃ w3, (w2.alloc (.cells #[.slice none 0 0, .int .i64 0] 47)).alloc (.cells #[] 3) = w3 ∧ Stage (fun _ => False) w [Ob.forest p n (fun _ => []), Ob.box w2.heap.size #[.slice none 0 0, .int .i64 0] 47, Ob.ints (.slice (some ⟨w2.heap.size + 1, 0, none⟩) 0 0) []] w3 :=
    ⟨_, rfl, (hs.alloc _ _).emptyRow' 3 1 (size_alloc _ _)⟩
  clear hs
  go_wp2_with fail
  try rw [hw3]
  clear hw3
  generalize hg1 : w2.heap.size + 1 = o1 at *
  generalize w2.heap.size = o at *
  clear hg1
  have hst := Carried.start n (ltK (keyL []))
  go_loopw [9, 10] (fun rv z wr => ∃ (i : Nat) (K : Int → List Int) (s : Int) (r : List Int), z = .int .i64 i ∧ i ≤ n ∧ Carried n (ltK (keyL [])) i K r ∧ Stage (fun _ => False) w [Ob.forest p n K, Ob.box o #[.slice none 0 0, .int .i64 s] 47, Ob.ints rv r] wr) (fun _ z _ => n - (intOf z).toNat)
  case atStart => exact ⟨0, _, 0, [], rfl, Nat.zero_le _, hst, hs3⟩
  case round =>
    clear hst hs3
    obtain ⟨i, K, s, r, rfl, hi, hcar, hs⟩ := hrel
    obtain ⟨I, _⟩ := hs.forestInv 0 rfl
    obtain ⟨ra, rc, rfl, hr1, hr2⟩ := hs.intsForm 2 rfl
    by_cases hin : i < n
    · have hii : (i : Int) < n := by omega
      obtain ⟨w4, hw4, hs4⟩ : ∃ w4, wr.alloc (.cells #[.int .i64 i] 3) = w4 ∧ Stage (fun _ => False) w [Ob.forest p n K, Ob.box o #[.slice none 0 0, .int .i64 s] 47, Ob.ints (.slice ra r.length rc) r, Ob.ints (.slice (some ⟨wr.heap.size, 0, none⟩) 1 1) [(i : Int)]] w4 := ⟨_, rfl, hs.newRow' 3 1 1 #[.int .i64 i] rfl (by decide) rfl⟩
      clear hs
      have hC := lesser_carry (ks := []) (c := 0) (la := r) (lb := [(i : Int)]) (a1 := ra) (b1 := some ⟨wr.heap.size, 0, none⟩) (ca := rc) (cb := 1) ⟨by decide, by decide⟩ (nil_keys _ _ _) ⟨hr1, hr2⟩ ⟨Nat.le_refl _, by omega⟩ (fun h => ⟨h.intsAtI 1 rfl, h.intsAtI 2 rfl⟩) hs4 hcar.row (hcar.one hin) (hcar.apart I)
      replace hC : Calls Try.prog 18 #[.pointer (some ⟨p, 0, none⟩), .iface 45 (.pointer (some ⟨o, 0, none⟩)), .slice ra r.length rc, .slice (some ⟨wr.heap.size, 0, none⟩) 1 1] w4 _ := hC
      clear hs4
      generalize hrl : r.length = rl at *
      clear hrl
      go_wp2_with fail
      try rw [hw4]
      clear hw4
      generalize wr.heap.size = o4 at *
      refine hC.mono ?_
      rintro e w5 ⟨z1, m1, cz1, K1, s1, k1, r1, rfl, ⟨r', hl, hp⟩, hr, _, hs5⟩
      clear hC
      have hcar1 := Carried.next I hcar hin hl hp hr
      clear hl hp hr hcar I
      replace hs5 : Stage (fun _ => False) w [Ob.forest p n K1, Ob.box o #[.slice none 0 0, .int .i64 s1] 47, Ob.ints (.slice z1 m1 cz1) r1] w5 := hs5.select [0, 2, 1] (by decide) rfl
      go_wp2_with fail
      go_roundw
      case rel => exact ⟨i + 1, K1, s1, r1, by go_num, by omega, hcar1, hs5⟩
      case measure => simp [intOf]; omega
    · have hii : ¬ (i : Int) < n := by omega
      clear hcar
      replace hs : Stage (fun _ => False) w [Ob.forest p n K] wr := hs.take 1
      by_cases hx : inN n x
      rotate_left
      · have hL := Stage.liftCall (l := []) hs x
        rw [upK_out I hx] at hL
        have hcase : x < 0 ∨ (¬ x < 0 ∧ decide (x < (n : Int)) = false ∧ ¬ x < n) := by unfold inN at hx; by_cases h : x < 0; exact Or.inl h; exact Or.inr ⟨h, decide_eq_false (by omega), by omega⟩
        clear hx I hs
        rcases hcase with h1 | ⟨h1, h2, h3⟩
        all_goals
          go_wp2_with fail
          refine hL.mono ?_
          rintro e w5 ⟨rfl, hs5⟩
          have hb5 := hs5.below
          clear hL hs5
          go_wp2_with fail
          go_ret
          exact ⟨rfl, hb5⟩
      · obtain ⟨l, hA⟩ := anc_ex I x
        have hsh := anc_short I hA hx
        have hc0 := Climb.start hA
        have hl0 : Lifted n K x l 0 K := Lifted.start hA
        have hx0 : ¬ x < 0 := by have := hx.1; omega
        have hx1 : x < (n : Int) := hx.2
        have hx2 : decide (x < (n : Int)) = true := decide_eq_true hx1
        have hT2 := hs.toldCall 0 rfl
        clear hs
        go_wp2_with fail
        refine hT2.mono ?_
        rintro e w5 ⟨wa, wc, rfl, hs5⟩
        clear hT2
        replace hs5 : Stage (fun _ => False) w [Ob.forest p n K, Ob.docK (.slice wa n wc) n K] w5 := hs5
        obtain ⟨_, _, e9, hw1, hw2⟩ := (hs5.docKAt 1 rfl).elim fun _ h => h.form
        cases e9
        go_wp2_with fail
        go_loopw [12, 13] (fun y z wr => ∃ (j : Nat) (t : Int), z = .int .i64 j ∧ j ≤ n ∧ y = .int .i64 t ∧ Climb K x l j t ∧ inN n t ∧ w5 = wr) (fun _ z _ => n - (intOf z).toNat)
        case atStart => exact ⟨0, x, rfl, Nat.zero_le _, rfl, hc0, hx, rfl⟩
        case round =>
          clear hc0
          obtain ⟨j, t, rfl, hj, rfl, hc, ht, rfl⟩ := hrel
          by_cases hjn : j < n
          · have hji : (j : Int) < n := by omega
            have hU := hs5.docUp 1 rfl I t
            cases hu : upK K t with
            | none =>
              rw [hu] at hU
              have hc2 := Climb.stay I hc hu
              clear hc hu hs5 I hl0 hA
              go_wp2_with fail
              refine hU.mono ?_
              rintro e wx ⟨rfl, rfl⟩
              go_wp2_with fail
              go_roundw
              case rel => exact ⟨j + 1, t, by go_num, by omega, rfl, hc2, ht, trivial⟩
              case measure => simp [intOf]; omega
            | some y =>
              rw [hu] at hU
              have hc2 := Climb.goUp I hc hu
              have hy := (upK_rng I hu).2
              clear hc hu hs5 I hl0 hA
              go_wp2_with fail
              refine hU.mono ?_
              rintro e wx ⟨rfl, rfl⟩
              go_wp2_with fail
              go_roundw
              case rel => exact ⟨j + 1, y, by go_num, by omega, rfl, hc2, hy, trivial⟩
              case measure => simp [intOf]; omega
          · have hji : ¬ (j : Int) < n := by omega
            have ht2 := hc.fin (by omega)
            have hdeg : l ≠ [] → (K x).length < (K t).length := fun h => by rw [ht2]; exact lastOf_deg I hA h
            have htop : l = [] → t = x := fun h => by rw [ht2, h]; rfl
            have hl1 : ∀ j K', Lifted n K x l j K' → CInv n K' → upK K' x = none → j = l.length ∧ (K' x).length = (K t).length := fun j K' h I' hu => by have h9 := Lifted.stay I' h hu; rw [← ht2] at h9; exact h9
            clear hc hA
            replace ht2 := Lib.hid ht2
            go_wp2_with fail
            go_loopw [16] (fun z wr => ∃ (q : Nat) (K' : Int → List Int), z = .int .i64 q ∧ Lifted n K x l q K' ∧ q ≤ l.length ∧ Stage (fun _ => False) w [Ob.forest p n K', Ob.docK (.slice wa n wc) n K] wr) (fun z _ => l.length + 1 - (intOf z).toNat)
            case atStart => exact ⟨0, K, rfl, hl0, Nat.zero_le _, hs5⟩
            case round =>
              clear hs5 hl0
              obtain ⟨q, K', rfl, hlf, hq, hs6⟩ := hrel
              obtain ⟨I', _⟩ := hs6.forestInv 0 rfl
              have hqn : (q : Int) ≤ n := by omega
              have hL := Stage.liftCall (l := [Ob.docK (.slice wa n wc) n K]) hs6 x
              cases hu : upK K' x with
              | some y =>
                rw [hu] at hL
                obtain ⟨hlf2, hq2⟩ := Lifted.goUp I' hlf hu
                clear hlf hu I' hs6
                go_wp2_with fail
                refine hL.mono ?_
                rintro e w7 ⟨rfl, hs7⟩
                clear hL
                go_wp2_with fail
                go_roundw
                case rel => exact ⟨q + 1, _, by go_num, hlf2, by omega, hs7⟩
                case measure => simp [intOf]; omega
              | none =>
                rw [hu] at hL
                obtain ⟨rfl, hd9⟩ := hl1 q K' hlf I' hu
                have e9 : liftF K' x = K' := by simp [liftF, hu]
                rw [e9] at hL
                clear hlf I' hs6 hl1 e9
                go_wp2_with fail
                refine hL.mono ?_
                rintro e w7 ⟨rfl, hs7⟩
                clear hL
                replace hs7 : Stage (fun _ => False) w [Ob.forest p n K', Ob.docK (.slice wa n wc) n K] w7 := hs7
                have hT3 := hs7.toldCall 0 rfl
                clear hs7
                go_wp2_with fail
                refine hT3.mono ?_
                rintro e w8 ⟨na, nc, rfl, hs8⟩
                clear hT3
                replace hs8 : Stage (fun _ => False) w [Ob.forest p n K', Ob.docK (.slice wa n wc) n K, Ob.docK (.slice na n nc) n K'] w8 := hs8
                have hU := hs8.ask 0 rfl (fun _ ho => up_f ho x)
                rw [hu] at hU
                go_wp2_with fail
                refine hU.mono ?_
                rintro e w9 ⟨rfl, rfl⟩
                clear hU
                obtain ⟨I', hn'⟩ := hs8.forestInv 0 rfl
                obtain ⟨tn, rfl⟩ : ∃ tn : Nat, t = tn := ⟨t.toNat, by have := ht.1; omega⟩
                have htn : tn < n := by have := ht.2; omega
                have htni : (tn : Int) < n := by omega
                have hlen : (allK K n (tn : Int)).length = (allK K' n x).length := by
                  rw [all_tree I (deg_lt_n I ht), all_tree I' (deg_lt_n I' hx), tree_size I, tree_size I', hd9]
                obtain ⟨B, hb1, hb2⟩ : ∃ B : Bool, ((l.length : Int) == 0) = B ∧ ((tn : Int) == x) = B := by
                  by_cases h : l = []
                  · exact ⟨true, by rw [h]; rfl, by rw [htop h]; simp⟩
                  · refine ⟨false, ?_, ?_⟩
                    · have := List.length_pos_iff.2 h
                      rw [beq_eq_false_iff_ne]; omega
                    · rw [beq_eq_false_iff_ne]
                      intro e
                      have := hdeg h
                      rw [e] at this
                      omega
                have hBB : (B == B) = true := by cases B <;> rfl
                obtain ⟨gw, c9, ka, kc, e9, u0, _, _, _⟩ := hs8.docAt 1 rfl htn
                cases e9
                obtain ⟨_, _, e9, hn1', hn2'⟩ := hs8.docForm' 2 rfl
                cases e9
                have hD := hs8.drew
                have cA := hD.ask 0 rfl (fun _ ho => deg_f ho x)
                have cB := hD.docCube 2 rfl I' hn' n (by omega) x hx
                have cC := hD.docAll 2 rfl I' hn' n (by omega) x hx
                have cD := fun wx u (h : Stage (fun _ => False) w [Ob.forest p n K', Ob.docK (.slice (some ⟨gw, 0, none⟩) n wc) n K, Ob.docK (.slice na n nc) n K', u] wx) => h.docAll 1 rfl I hn' n (by omega) tn ht
                rw [hd9] at cA
                rw [hlen] at cD
                have e8 : (((allK K' n x).length : Int) == (allK K' n x).length) = true := by simp
                have e7 : (((K tn).length : Int) == (K tn).length) = true := by simp
                clear hs8 hlen hd9 hdeg htop hu I I'
                generalize (K (tn : Int)).length = dt at *
                generalize allK K n (tn : Int) = LA at *
                generalize (allK K' n x).length = mA at *
                go_wp2_with fail
                go_region_held3 (fun w' => w'.cell? ⟨gw, tn, none⟩ = some (.slice ka dt kc)) (first | exact u0 | exact K3 | exact K4)
                  (first
                    | (((with_reducible refine cA.mono ?_); rintro e v1 ⟨rfl, rfl⟩))
                    | (((with_reducible refine cB.mono ?_); rintro e v2 ⟨rfl, rfl⟩))
                    | (((with_reducible refine cC.mono ?_); rintro e v3 ⟨va3, vc3, rfl, hb3, g3⟩; have h3 : Stage (fun _ => False) w [Ob.forest p n K', Ob.docK (.slice (some ⟨gw, 0, none⟩) n wc) n K, Ob.docK (.slice na n nc) n K', Ob.ints (.slice va3 mA vc3) (allK K' n x)] v3 := g3; have K3 := later hb3 u0))
                    | (((with_reducible refine (cD _ _ h3).mono ?_); rintro e v4 ⟨va4, vc4, rfl, hb4, g4⟩; have K4 := later hb4 K3; have K5 := g4.below)))
                all_goals
                  clear K3 K4 h3 g3 g4 cA cB cC cD hb3 hb4 u0
                  go_wp2_with fail
                  go_ret
                  exact ⟨rfl, K5⟩
end Go.Proofs.Ytbllfokagedpeaa
