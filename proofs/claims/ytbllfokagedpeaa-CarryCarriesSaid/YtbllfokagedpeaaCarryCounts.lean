/- Merged of CarryLifts, CarryCounts. -/
import Derived.Test.YtbllfokagedpeaaCarryLiftsMath
import Derived.Deep.RegionHeld3
import Derived.Test.YtbllfokagedpeaaCarrySplit
namespace Go.Proofs.Ytbllfokagedpeaa
open Go.RowKit Go.Sort

set_option maxRecDepth 100000 in
set_option maxHeartbeats 8000000 in
theorem carryLifts_walk (C : Nat) (hC : C ≤ 255) (x : Int) (w : World) :
    Calls Try.prog 7 #[.int .u8 C, .int .i64 x] w fun e w' => e = .returned (.bool true) ∧ Below w.heap.size w w' := by
  obtain ⟨n, hn⟩ : ∃ n, n = 1 + C % 64 := ⟨_, rfl⟩
  have hn64 : n ≤ 64 ∧ 1 ≤ n := by omega
  obtain ⟨hn1, hn2⟩ := hn64
  have q1 : Int.tmod (C : Int) 64 = ((n : Int) - 1) := by
    have h1 : Int.tmod (C : Int) 64 = ((C % 64 : Nat) : Int) := (Int.ofNat_tmod C 64).symm
    rw [h1]; omega
  have q2 : IntKind.i64.wrap (1 + ((n : Int) - 1)) = (n : Int) := by rw [show 1 + ((n : Int) - 1) = (n : Int) by omega]; exact IntWalk.i64_in _ (by omega)
  replace hn := Lib.hid hn
  go_enter Try.func7, Try.ntmps7
  go_wp2_with fail
  refine (carryAlive_any w).mono ?_
  rintro e w1 ⟨rfl, hb⟩
  go_wp2_with fail
  refine (((Stage.start w).later hb).newForest n (by omega)).mono ?_
  rintro e w2 ⟨p, rfl, hs⟩
  clear hb q1 q2
  obtain ⟨w3, hw3, hs3⟩ : ∃ w3, (w2.alloc (.cells #[.slice none 0 0, .int .i64 0] 47)).alloc (.cells #[] 3) = w3 ∧ Stage (fun _ => False) w [Ob.forest p n (fun _ => []), Ob.box w2.heap.size #[.slice none 0 0, .int .i64 0] 47, Ob.ints (.slice (some ⟨w2.heap.size + 1, 0, none⟩) 0 0) []] w3 :=
    ⟨_, rfl, (hs.alloc _ _).emptyRow' 3 1 (size_alloc _ _)⟩
  clear hs
  go_wp2_with fail
  try rw [hw3]
  clear hw3
  generalize hg1 : w2.heap.size + 1 = o1 at *
  generalize w2.heap.size = o at *
  clear hg1
  have hst := Carried.start n (ltK (keyL []))
  go_loopw [9, 10] (fun rv z wr => ∃ (i : Nat) (K : Int → List Int) (s : Int) (r : List Int), z = .int .i64 i ∧ i ≤ n ∧ Carried n (ltK (keyL [])) i K r ∧ Stage (fun _ => False) w [Ob.forest p n K, Ob.box o #[.slice none 0 0, .int .i64 s] 47, Ob.ints rv r] wr) (fun _ z _ => n - (intOf z).toNat)
  case atStart => exact ⟨0, _, 0, [], rfl, Nat.zero_le _, hst, hs3⟩
  case round =>
    clear hst hs3
    obtain ⟨i, K, s, r, rfl, hi, hcar, hs⟩ := hrel
    obtain ⟨I, _⟩ := hs.forestInv 0 rfl
    obtain ⟨ra, rc, rfl, hr1, hr2⟩ := hs.intsForm 2 rfl
    by_cases hin : i < n
    · have hii : (i : Int) < n := by omega
      obtain ⟨w4, hw4, hs4⟩ : ∃ w4, wr.alloc (.cells #[.int .i64 i] 3) = w4 ∧ Stage (fun _ => False) w [Ob.forest p n K, Ob.box o #[.slice none 0 0, .int .i64 s] 47, Ob.ints (.slice ra r.length rc) r, Ob.ints (.slice (some ⟨wr.heap.size, 0, none⟩) 1 1) [(i : Int)]] w4 := ⟨_, rfl, hs.newRow' 3 1 1 #[.int .i64 i] rfl (by decide) rfl⟩
      clear hs
      have hC := lesser_carry (ks := []) (c := 0) (la := r) (lb := [(i : Int)]) (a1 := ra) (b1 := some ⟨wr.heap.size, 0, none⟩) (ca := rc) (cb := 1) ⟨by decide, by decide⟩ (nil_keys _ _ _) ⟨hr1, hr2⟩ ⟨Nat.le_refl _, by omega⟩ (fun h => ⟨h.intsAtI 1 rfl, h.intsAtI 2 rfl⟩) hs4 hcar.row (hcar.one hin) (hcar.apart I)
      replace hC : Calls Try.prog 18 #[.pointer (some ⟨p, 0, none⟩), .iface 45 (.pointer (some ⟨o, 0, none⟩)), .slice ra r.length rc, .slice (some ⟨wr.heap.size, 0, none⟩) 1 1] w4 _ := hC
      clear hs4
      generalize hrl : r.length = rl at *
      clear hrl
      go_wp2_with fail
      try rw [hw4]
      clear hw4
      generalize wr.heap.size = o4 at *
      refine hC.mono ?_
      rintro e w5 ⟨z1, m1, cz1, K1, s1, k1, r1, rfl, ⟨r', hl, hp⟩, hr, _, hs5⟩
      clear hC
      have hcar1 := Carried.next I hcar hin hl hp hr
      clear hl hp hr hcar I
      replace hs5 : Stage (fun _ => False) w [Ob.forest p n K1, Ob.box o #[.slice none 0 0, .int .i64 s1] 47, Ob.ints (.slice z1 m1 cz1) r1] w5 := hs5.select [0, 2, 1] (by decide) rfl
      go_wp2_with fail
      go_roundw
      case rel => exact ⟨i + 1, K1, s1, r1, by go_num, by omega, hcar1, hs5⟩
      case measure => simp [intOf]; omega
    · have hii : ¬ (i : Int) < n := by omega
      clear hcar
      replace hs : Stage (fun _ => False) w [Ob.forest p n K] wr := hs.take 1
      by_cases hx : inN n x
      rotate_left
      · have hL := Stage.liftCall (l := []) hs x
        rw [upK_out I hx] at hL
        have hcase : x < 0 ∨ (¬ x < 0 ∧ decide (x < (n : Int)) = false ∧ ¬ x < n) := by unfold inN at hx; by_cases h : x < 0; exact Or.inl h; exact Or.inr ⟨h, decide_eq_false (by omega), by omega⟩
        clear hx I hs
        rcases hcase with h1 | ⟨h1, h2, h3⟩
        all_goals
          go_wp2_with fail
          refine hL.mono ?_
          rintro e w5 ⟨rfl, hs5⟩
          have hb5 := hs5.below
          clear hL hs5
          go_wp2_with fail
          go_ret
          exact ⟨rfl, hb5⟩
      · obtain ⟨l, hA⟩ := anc_ex I x
        have hsh := anc_short I hA hx
        have hc0 := Climb.start hA
        have hl0 : Lifted n K x l 0 K := Lifted.start hA
        have hx0 : ¬ x < 0 := by have := hx.1; omega
        have hx1 : x < (n : Int) := hx.2
        have hx2 : decide (x < (n : Int)) = true := decide_eq_true hx1
        have hT2 := hs.toldCall 0 rfl
        clear hs
        go_wp2_with fail
        refine hT2.mono ?_
        rintro e w5 ⟨wa, wc, rfl, hs5⟩
        clear hT2
        replace hs5 : Stage (fun _ => False) w [Ob.forest p n K, Ob.docK (.slice wa n wc) n K] w5 := hs5
        obtain ⟨_, _, e9, hw1, hw2⟩ := (hs5.docKAt 1 rfl).elim fun _ h => h.form
        cases e9
        go_wp2_with fail
        go_loopw [12, 13] (fun y z wr => ∃ (j : Nat) (t : Int), z = .int .i64 j ∧ j ≤ n ∧ y = .int .i64 t ∧ Climb K x l j t ∧ inN n t ∧ w5 = wr) (fun _ z _ => n - (intOf z).toNat)
        case atStart => exact ⟨0, x, rfl, Nat.zero_le _, rfl, hc0, hx, rfl⟩
        case round =>
          clear hc0
          obtain ⟨j, t, rfl, hj, rfl, hc, ht, rfl⟩ := hrel
          by_cases hjn : j < n
          · have hji : (j : Int) < n := by omega
            have hU := hs5.docUp 1 rfl I t
            cases hu : upK K t with
            | none =>
              rw [hu] at hU
              have hc2 := Climb.stay I hc hu
              clear hc hu hs5 I hl0 hA
              go_wp2_with fail
              refine hU.mono ?_
              rintro e wx ⟨rfl, rfl⟩
              go_wp2_with fail
              go_roundw
              case rel => exact ⟨j + 1, t, by go_num, by omega, rfl, hc2, ht, trivial⟩
              case measure => simp [intOf]; omega
            | some y =>
              rw [hu] at hU
              have hc2 := Climb.goUp I hc hu
              have hy := (upK_rng I hu).2
              clear hc hu hs5 I hl0 hA
              go_wp2_with fail
              refine hU.mono ?_
              rintro e wx ⟨rfl, rfl⟩
              go_wp2_with fail
              go_roundw
              case rel => exact ⟨j + 1, y, by go_num, by omega, rfl, hc2, hy, trivial⟩
              case measure => simp [intOf]; omega
          · have hji : ¬ (j : Int) < n := by omega
            have ht2 := hc.fin (by omega)
            have hdeg : l ≠ [] → (K x).length < (K t).length := fun h => by rw [ht2]; exact lastOf_deg I hA h
            have htop : l = [] → t = x := fun h => by rw [ht2, h]; rfl
            have hl1 : ∀ j K', Lifted n K x l j K' → CInv n K' → upK K' x = none → j = l.length ∧ (K' x).length = (K t).length := fun j K' h I' hu => by have h9 := Lifted.stay I' h hu; rw [← ht2] at h9; exact h9
            clear hc hA
            replace ht2 := Lib.hid ht2
            go_wp2_with fail
            go_loopw [16] (fun z wr => ∃ (q : Nat) (K' : Int → List Int), z = .int .i64 q ∧ Lifted n K x l q K' ∧ q ≤ l.length ∧ Stage (fun _ => False) w [Ob.forest p n K', Ob.docK (.slice wa n wc) n K] wr) (fun z _ => l.length + 1 - (intOf z).toNat)
            case atStart => exact ⟨0, K, rfl, hl0, Nat.zero_le _, hs5⟩
            case round =>
              clear hs5 hl0
              obtain ⟨q, K', rfl, hlf, hq, hs6⟩ := hrel
              obtain ⟨I', _⟩ := hs6.forestInv 0 rfl
              have hqn : (q : Int) ≤ n := by omega
              have hL := Stage.liftCall (l := [Ob.docK (.slice wa n wc) n K]) hs6 x
              cases hu : upK K' x with
              | some y =>
                rw [hu] at hL
                obtain ⟨hlf2, hq2⟩ := Lifted.goUp I' hlf hu
                clear hlf hu I' hs6
                go_wp2_with fail
                refine hL.mono ?_
                rintro e w7 ⟨rfl, hs7⟩
                clear hL
                go_wp2_with fail
                go_roundw
                case rel => exact ⟨q + 1, _, by go_num, hlf2, by omega, hs7⟩
                case measure => simp [intOf]; omega
              | none =>
                rw [hu] at hL
                obtain ⟨rfl, hd9⟩ := hl1 q K' hlf I' hu
                have e9 : liftF K' x = K' := by simp [liftF, hu]
                rw [e9] at hL
                clear hlf I' hs6 hl1 e9
                go_wp2_with fail
                refine hL.mono ?_
                rintro e w7 ⟨rfl, hs7⟩
                clear hL
                replace hs7 : Stage (fun _ => False) w [Ob.forest p n K', Ob.docK (.slice wa n wc) n K] w7 := hs7
                have hT3 := hs7.toldCall 0 rfl
                clear hs7
                go_wp2_with fail
                refine hT3.mono ?_
                rintro e w8 ⟨na, nc, rfl, hs8⟩
                clear hT3
                replace hs8 : Stage (fun _ => False) w [Ob.forest p n K', Ob.docK (.slice wa n wc) n K, Ob.docK (.slice na n nc) n K'] w8 := hs8
                have hU := hs8.ask 0 rfl (fun _ ho => up_f ho x)
                rw [hu] at hU
                go_wp2_with fail
                refine hU.mono ?_
                rintro e w9 ⟨rfl, rfl⟩
                clear hU
                obtain ⟨I', hn'⟩ := hs8.forestInv 0 rfl
                obtain ⟨tn, rfl⟩ : ∃ tn : Nat, t = tn := ⟨t.toNat, by have := ht.1; omega⟩
                have htn : tn < n := by have := ht.2; omega
                have htni : (tn : Int) < n := by omega
                have hlen : (allK K n (tn : Int)).length = (allK K' n x).length := by
                  rw [all_tree I (deg_lt_n I ht), all_tree I' (deg_lt_n I' hx), tree_size I, tree_size I', hd9]
                obtain ⟨B, hb1, hb2⟩ : ∃ B : Bool, ((l.length : Int) == 0) = B ∧ ((tn : Int) == x) = B := by
                  by_cases h : l = []
                  · exact ⟨true, by rw [h]; rfl, by rw [htop h]; simp⟩
                  · refine ⟨false, ?_, ?_⟩
                    · have := List.length_pos_iff.2 h
                      rw [beq_eq_false_iff_ne]; omega
                    · rw [beq_eq_false_iff_ne]
                      intro e
                      have := hdeg h
                      rw [e] at this
                      omega
                have hBB : (B == B) = true := by cases B <;> rfl
                obtain ⟨gw, c9, ka, kc, e9, u0, _, _, _⟩ := hs8.docAt 1 rfl htn
                cases e9
                obtain ⟨_, _, e9, hn1', hn2'⟩ := hs8.docForm' 2 rfl
                cases e9
                have hD := hs8.drew
                have cA := hD.ask 0 rfl (fun _ ho => deg_f ho x)
                have cB := hD.docCube 2 rfl I' hn' n (by omega) x hx
                have cC := hD.docAll 2 rfl I' hn' n (by omega) x hx
                have cD := fun wx u (h : Stage (fun _ => False) w [Ob.forest p n K', Ob.docK (.slice (some ⟨gw, 0, none⟩) n wc) n K, Ob.docK (.slice na n nc) n K', u] wx) => h.docAll 1 rfl I hn' n (by omega) tn ht
                rw [hd9] at cA
                rw [hlen] at cD
                have e8 : (((allK K' n x).length : Int) == (allK K' n x).length) = true := by simp
                have e7 : (((K tn).length : Int) == (K tn).length) = true := by simp
                clear hs8 hlen hd9 hdeg htop hu I I'
                generalize (K (tn : Int)).length = dt at *
                generalize allK K n (tn : Int) = LA at *
                generalize (allK K' n x).length = mA at *
                go_wp2_with fail
                go_region_held3 (fun w' => w'.cell? ⟨gw, tn, none⟩ = some (.slice ka dt kc)) (first | exact u0 | exact K3 | exact K4)
                  (first
                    | (((with_reducible refine cA.mono ?_); rintro e v1 ⟨rfl, rfl⟩))
                    | (((with_reducible refine cB.mono ?_); rintro e v2 ⟨rfl, rfl⟩))
                    | (((with_reducible refine cC.mono ?_); rintro e v3 ⟨va3, vc3, rfl, hb3, g3⟩; have h3 : Stage (fun _ => False) w [Ob.forest p n K', Ob.docK (.slice (some ⟨gw, 0, none⟩) n wc) n K, Ob.docK (.slice na n nc) n K', Ob.ints (.slice va3 mA vc3) (allK K' n x)] v3 := g3; have K3 := later hb3 u0))
                    | (((with_reducible refine (cD _ _ h3).mono ?_); rintro e v4 ⟨va4, vc4, rfl, hb4, g4⟩; have K4 := later hb4 K3; have K5 := g4.below)))
                all_goals
                  clear K3 K4 h3 g3 g4 cA cB cC cD hb3 hb4 u0
                  go_wp2_with fail
                  go_ret
                  exact ⟨rfl, K5⟩
end Go.Proofs.Ytbllfokagedpeaa

namespace Go.Proofs.Ytbllfokagedpeaa
open Go.RowKit Go.Sort

theorem old_keys (W : World) (a : Option Addr) (ks : List Int) (hk : IntsAt W .i64 a ks) {F0 : Nat → Prop} {W0 w : World} {l : List Ob} (i : Nat) (hi : l[i]? = some (Ob.old W)) (hs : Stage F0 W0 l w) : IntsAt w .i64 a ks := fun j hj => by
  obtain ⟨F, _, h1, h2⟩ := hs.get hi
  obtain ⟨g, o2, e, h3⟩ := hk j hj
  refine ⟨g, o2, e, ?_⟩
  rw [World.cell?_of_block (w := W) (h2 g (block_lt_of_cell h3))]
  exact h3
theorem bits_one (q : Nat) (hq : q < 128) : bits BinOp.and IntKind.i64 (q : Int) 1 = ((q % 2 : Nat) : Int) := by
  have h : ∀ q : Fin 128, bits BinOp.and IntKind.i64 ((q : Nat) : Int) 1 = (((q : Nat) % 2 : Nat) : Int) := by decide +kernel
  exact h ⟨q, hq⟩
set_option maxRecDepth 100000 in
set_option maxHeartbeats 8000000 in
theorem carryCounts_walk (ks : List Int) (a : Option Addr) (c : Nat) (hc : ks.length ≤ c ∧ c ≤ 9223372036854775807) (w : World) (hk : IntsAt w .i64 a ks) :
    Calls Try.prog 6 #[.slice a ks.length c] w fun e w' => e = .returned (.bool true) ∧ Below w.heap.size w w' := by
  obtain ⟨hc1, hc2⟩ := hc
  by_cases h100 : 100 < ks.length
  · have h100' : (100 : Int) < ks.length := by omega
    by_cases hbig : ks.length ≤ 65536
    · have hN := fun wx (h : Stage (fun _ => False) w [] wx) => h.newForest ks.length hbig
      clear hk
      generalize ks.length = n at *
      go_enter Try.func6, Try.ntmps6
      go_wp2_with fail
      refine (carryAlive_any w).mono ?_
      rintro e w1 ⟨rfl, hb⟩
      go_wp2_with fail
      refine (hN w1 ((Stage.start w).later hb)).mono ?_
      rintro e w2 ⟨p, rfl, hs⟩
      have hb2 := hs.below
      clear hN hs
      go_wp2_with fail
      go_ret
      exact ⟨rfl, hb2⟩
    · have hN := fun wx => new_cy_no ks.length wx (by omega)
      clear hk
      generalize ks.length = n at *
      go_enter Try.func6, Try.ntmps6
      go_wp2_with fail
      refine (carryAlive_any w).mono ?_
      rintro e w1 ⟨rfl, hb⟩
      go_wp2_with fail
      refine (hN w1).mono ?_
      rintro e w2 ⟨rfl, rfl⟩
      go_wp2_with fail
      go_ret
      exact ⟨rfl, hb⟩
  have h100' : ¬ (100 : Int) < ks.length := by omega
  have hN := fun wx (h : Stage (oldF w) w [Ob.old w] wx) => h.newForest ks.length (by omega)
  go_enter Try.func6, Try.ntmps6
  go_wp2_with fail
  refine (carryAlive_any w).mono ?_
  rintro e w1 ⟨rfl, hb⟩
  go_wp2_with fail
  refine (hN w1 ((Stage.oldStart w).later hb)).mono ?_
  rintro e w2 ⟨p, rfl, hs⟩
  clear hN hb
  replace hs : Stage (oldF w) w [Ob.old w, Ob.forest p ks.length (fun _ => [])] w2 := hs
  obtain ⟨w3, hw3, hs3⟩ : ∃ w3, (w2.alloc (.cells #[.slice a ks.length c, .int .i64 0] 47)).alloc (.cells #[] 3) = w3 ∧ Stage (oldF w) w [Ob.forest p ks.length (fun _ => []), Ob.box w2.heap.size #[.slice a ks.length c, .int .i64 0] 47, Ob.old w, Ob.ints (.slice (some ⟨w2.heap.size + 1, 0, none⟩) 0 0) []] w3 :=
    ⟨_, rfl, ((hs.alloc _ _).emptyRow' 3 1 (size_alloc _ _)).select [1, 2, 0, 3] (by decide) rfl⟩
  clear hs
  go_wp2_with fail
  try rw [hw3]
  clear hw3
  generalize hg1 : w2.heap.size + 1 = o1 at *
  generalize w2.heap.size = o at *
  clear hg1
  have hst := Carried.start ks.length (ltK (keyL ks))
  go_loopw [6, 44] (fun rv z wr => ∃ (i : Nat) (K : Int → List Int) (s : Int) (r : List Int), z = .int .i64 i ∧ i ≤ ks.length ∧ Carried ks.length (ltK (keyL ks)) i K r ∧ Stage (oldF w) w [Ob.forest p ks.length K, Ob.box o #[.slice a ks.length c, .int .i64 s] 47, Ob.old w, Ob.ints rv r] wr) (fun _ z _ => ks.length - (intOf z).toNat)
  case atStart => exact ⟨0, _, 0, [], rfl, Nat.zero_le _, hst, hs3⟩
  case round =>
    clear hst hs3
    obtain ⟨i, K, s, r, rfl, hi, hcar, hs⟩ := hrel
    obtain ⟨I, _⟩ := hs.forestInv 0 rfl
    obtain ⟨ra, rc, rfl, hr1, hr2⟩ := hs.intsForm 3 rfl
    by_cases hin : i < ks.length
    · have hii : (i : Int) < ks.length := by omega
      obtain ⟨w4, hw4, hs4⟩ : ∃ w4, wr.alloc (.cells #[.int .i64 i] 3) = w4 ∧ Stage (oldF w) w [Ob.forest p ks.length K, Ob.box o #[.slice a ks.length c, .int .i64 s] 47, Ob.old w, Ob.ints (.slice ra r.length rc) r, Ob.ints (.slice (some ⟨wr.heap.size, 0, none⟩) 1 1) [(i : Int)]] w4 := ⟨_, rfl, hs.newRow' 3 1 1 #[.int .i64 i] rfl (by decide) rfl⟩
      clear hs
      have hC := lesser_carry (ks := ks) (la := r) (lb := [(i : Int)]) (a1 := ra) (b1 := some ⟨wr.heap.size, 0, none⟩) (ca := rc) (cb := 1) ⟨hc1, hc2⟩ (fun h => old_keys w a ks hk 1 rfl h) ⟨hr1, hr2⟩ ⟨Nat.le_refl _, by omega⟩ (fun h => ⟨h.intsAtI 2 rfl, h.intsAtI 3 rfl⟩) hs4 hcar.row (hcar.one hin) (hcar.apart I)
      replace hC : Calls Try.prog 18 #[.pointer (some ⟨p, 0, none⟩), .iface 45 (.pointer (some ⟨o, 0, none⟩)), .slice ra r.length rc, .slice (some ⟨wr.heap.size, 0, none⟩) 1 1] w4 _ := hC
      clear hs4
      generalize hrl : r.length = rl at *
      clear hrl
      go_wp2_with fail
      try rw [hw4]
      clear hw4
      generalize wr.heap.size = o4 at *
      refine hC.mono ?_
      rintro e w5 ⟨z1, m1, cz1, K1, s1, k1, r1, rfl, ⟨r', hl, hp⟩, hr, _, hs5⟩
      clear hC
      have hcar1 := Carried.next I hcar hin hl hp hr
      clear hl hp hr hcar I
      replace hs5 : Stage (oldF w) w [Ob.forest p ks.length K1, Ob.box o #[.slice a ks.length c, .int .i64 s1] 47, Ob.old w, Ob.ints (.slice z1 m1 cz1) r1] w5 := hs5.select [0, 2, 3, 1] (by decide) rfl
      obtain ⟨_, _, e9, hr3, hr4⟩ := hs5.intsForm 3 rfl
      cases e9
      obtain ⟨I1, _⟩ := hs5.forestInv 0 rfl
      have hi1 : i + 1 < 128 := by omega
      obtain ⟨N, hN⟩ : ∃ N, N = i + 1 := ⟨_, rfl⟩
      rw [← hN] at hcar1 hi1
      have hNi : (i : Int) + 1 = (N : Int) := by omega
      have hwr : IntKind.i64.wrap ((i : Int) + 1) = (N : Int) := by rw [hNi]; exact IntWalk.i64_in _ (by omega)
      replace hN := Lib.hid hN
      clear hNi
      go_wp2_with fail
      obtain ⟨wo, hwo⟩ : ∃ wo : World, wo = w5 := ⟨_, rfl⟩
      go_loopw [11, 12] (fun x y wr => ∃ (b : Nat), y = .int .i64 b ∧ b ≤ 7 ∧ x = .int .i64 ((onesB N b).length : Int) ∧ w5 = wr) (fun _ y _ => 8 - (intOf y).toNat)
      case atStart => exact ⟨0, rfl, Nat.zero_le _, rfl, rfl⟩
      case round =>
        clear hwo
        obtain ⟨b, rfl, hb, rfl, rfl⟩ := hrel
        have hqc : (N : Int) / 2 ^ b = ((N >>> b : Nat) : Int) := by rw [Nat.shiftRight_eq_div_pow]; simp
        have hq128 : N >>> b < 128 := by rw [Nat.shiftRight_eq_div_pow]; exact Nat.lt_of_le_of_lt (Nat.div_le_self _ _) hi1
        have hand := bits_one _ hq128
        rw [← hqc, shift_and] at hand
        by_cases hq : N >>> b = 0
        · have hq0 : (N : Int) / 2 ^ b ≤ 0 := by rw [hqc, hq]; omega
          have he := carried_end I1 hcar1 hi1 hb hq
          have he1 : (((onesB N b).length : Int) != r1.length) = false := by rw [he]; simp
          have he2 : (((onesB N b).length : Int) == r1.length) = true := by rw [he]; simp
          clear hqc hand hq hq128 I1 he
          generalize (onesB N b).length = t9 at *
          go_wp2_with fail
          go_roundw
          case rel => exact ⟨N, K1, s1, r1, rfl, by rw [hN.out]; omega, hcar1, hs5⟩
          case measure =>
            have hN9 := hN.out
            clear hq0 hwr
            simp [intOf]
            omega
        · have hq0 : (0 : Int) < (N : Int) / 2 ^ b := by rw [hqc]; exact Int.natCast_pos.2 (Nat.pos_of_ne_zero hq)
          have hb7 : b < 7 := by
            rcases Nat.lt_or_ge b 7 with h | h
            · exact h
            · obtain rfl : b = 7 := by omega
              exact absurd (by rw [Nat.shiftRight_eq_div_pow]; exact Nat.div_eq_of_lt hi1) hq
          cases ht : N.testBit b
          · rw [ht, if_neg (by decide)] at hand
            have hand2 : (bits BinOp.and IntKind.i64 ((N : Int) / 2 ^ b) 1 == 0) = true := by rw [hand]; rfl
            have hon := ones_succ N b
            rw [ht, if_neg (by decide), List.append_nil] at hon
            replace hon := Lib.hid hon
            clear hqc hand hq hq128 I1 ht
            generalize hob : onesB N b = ob at *
            clear hob
            go_wp2_with fail
            go_roundw
            case rel => exact ⟨b + 1, by go_num, by omega, by rw [hon.out], trivial⟩
            case measure => simp [intOf]; omega
          · rw [ht, if_pos rfl] at hand
            have hand2 : (bits BinOp.and IntKind.i64 ((N : Int) / 2 ^ b) 1 == 0) = false := by rw [hand]; rfl
            have hon := ones_succ N b
            rw [ht, if_pos rfl] at hon
            replace hon := Lib.hid hon
            obtain ⟨ha1, ha2⟩ := carried_at I1 hcar1 hi1 hb7 ht
            obtain ⟨gz, cz2, e9, _, _, _, hcell, _⟩ := hs5.intsAt 3 rfl (by omega)
            have u0 := hcell _ ha1
            have hD := hs5.ask 0 rfl (fun _ ho => deg_f ho (r1.getD (onesB N b).length 0))
            rw [ha2] at hD
            have hai : ((onesB N b).length : Int) < r1.length := by omega
            have hbb : ((b : Int) != (b : Int)) = false := by simp
            cases e9
            clear hqc hand hq hq128 I1 ht ha2 hcell
            generalize hob : onesB N b = ob at *
            clear hob
            generalize r1.getD ob.length 0 = y at *
            generalize r1.length = rl1 at *
            go_wp2_with fail
            refine hD.mono ?_
            rintro e wx ⟨rfl, rfl⟩
            go_wp2_with fail
            go_roundw
            case rel => exact ⟨b + 1, by go_num, by omega, by rw [hon.out, List.length_append]; rfl, trivial⟩
            case measure => simp [intOf]; omega
    · obtain rfl : i = ks.length := by omega
      clear I
      have hord := hcar.ord
      clear hcar
      go_wp2_with fail
      go_loopw [96] (fun z wr => ∃ (j : Nat) (s : Int), z = .int .i64 j ∧ j ≤ ks.length ∧ Stage (oldF w) w [Ob.forest p ks.length K, Ob.box o #[.slice a ks.length c, .int .i64 s] 47, Ob.old w] wr) (fun z _ => ks.length - (intOf z).toNat)
      case atStart => exact ⟨0, s, rfl, Nat.zero_le _, hs.take 3⟩
      case round =>
        clear hs
        obtain ⟨j, s, rfl, hj, hs⟩ := hrel
        by_cases hjn : j < ks.length
        · have hji : (j : Int) < ks.length := by omega
          obtain ⟨I, _⟩ := hs.forestInv 0 rfl
          have hU := hs.ask 0 rfl (fun _ ho => up_f ho (j : Int))
          cases hu : upK K (j : Int) with
          | none =>
            rw [hu] at hU
            clear I hu
            go_wp2_with fail
            refine hU.mono ?_
            rintro e wx ⟨rfl, rfl⟩
            clear hU
            go_wp2_with fail
            go_roundw
            case rel => exact ⟨j + 1, s, by go_num, by omega, hs⟩
            case measure => simp [intOf]; omega
          | some y =>
            rw [hu] at hU
            have hxy := (upK_some I).1 hu
            have hless := I.less hxy
            have hne : (y == (j : Int)) = false := by
              rw [beq_eq_false_iff_ne]
              exact fun e => by rw [e] at hless; omega
            have hlt := hord y j hxy
            have hs6 : Stage (oldF w) w [Ob.box o #[.slice a ks.length c, .int .i64 s] 47, Ob.old w, Ob.forest p ks.length K] wr := hs.select [1, 2, 0] (by decide) rfl
            have hA := lahead_c (ks := ks) ⟨hc1, hc2⟩ (fun h => old_keys w a ks hk 1 rfl h) hs6 j y
            rw [hlt] at hA
            clear I hu hs hs6 hxy hless hlt
            go_wp2_with fail
            refine hU.mono ?_
            rintro e wx ⟨rfl, rfl⟩
            clear hU
            go_wp2_with fail
            refine hA.mono ?_
            rintro e wy ⟨rfl, hs7⟩
            have hs8 := hs7.select [2, 0, 1] (by decide) rfl
            clear hA hs7
            go_wp2_with fail
            go_roundw
            case rel => exact ⟨j + 1, _, by go_num, by omega, hs8⟩
            case measure => simp [intOf]; omega
        · have hji : ¬ (j : Int) < ks.length := by omega
          have hb9 := hs.oldBelow 2 rfl
          clear hs hord
          go_wp2_with fail
          go_ret
          exact ⟨rfl, hb9⟩
end Go.Proofs.Ytbllfokagedpeaa
