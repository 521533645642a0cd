/- Merged of CarryCounts, CarryTold, CarryLiftsMath. -/
import Derived.Test.YtbllfokagedpeaaCarrySplit
import Derived.Test.YtbllfokagedpeaaCarryCountMath
import Derived.Test.YtbllfokagedpeaaCarryWalks
namespace Go.Proofs.Ytbllfokagedpeaa
open Go.RowKit Go.Sort

theorem old_keys (W : World) (a : Option Addr) (ks : List Int) (hk : IntsAt W .i64 a ks) {F0 : Nat → Prop} {W0 w : World} {l : List Ob} (i : Nat) (hi : l[i]? = some (Ob.old W)) (hs : Stage F0 W0 l w) : IntsAt w .i64 a ks := fun j hj => by
  obtain ⟨F, _, h1, h2⟩ := hs.get hi
  obtain ⟨g, o2, e, h3⟩ := hk j hj
  refine ⟨g, o2, e, ?_⟩
  rw [World.cell?_of_block (w := W) (h2 g (block_lt_of_cell h3))]
  exact h3
theorem bits_one (q : Nat) (hq : q < 128) : bits BinOp.and IntKind.i64 (q : Int) 1 = ((q % 2 : Nat) : Int) := by
  have h : ∀ q : Fin 128, bits BinOp.and IntKind.i64 ((q : Nat) : Int) 1 = (((q : Nat) % 2 : Nat) : Int) := by decide +kernel
  exact h ⟨q, hq⟩
set_option maxRecDepth 100000 in
set_option maxHeartbeats 8000000 in
theorem carryCounts_walk (ks : List Int) (a : Option Addr) (c : Nat) (hc : ks.length ≤ c ∧ c ≤ 9223372036854775807) (w : World) (hk : IntsAt w .i64 a ks) :
    Calls Try.prog 6 #[.slice a ks.length c] w fun e w' => e = .returned (.bool true) ∧ Below w.heap.size w w' := by
  obtain ⟨hc1, hc2⟩ := hc
  by_cases h100 : 100 < ks.length
  · have h100' : (100 : Int) < ks.length := by omega
    by_cases hbig : ks.length ≤ 65536
    · have hN := fun wx (h : Stage (fun _ => False) w [] wx) => h.newForest ks.length hbig
      clear hk
      generalize ks.length = n at *
      go_enter Try.func6, Try.ntmps6
      go_wp2_with fail
      refine (carryAlive_any w).mono ?_
      rintro e w1 ⟨rfl, hb⟩
      go_wp2_with fail
      refine (hN w1 ((Stage.start w).later hb)).mono ?_
      rintro e w2 ⟨p, rfl, hs⟩
      have hb2 := hs.below
      clear hN hs
      go_wp2_with fail
      go_ret
      exact ⟨rfl, hb2⟩
    · have hN := fun wx => new_cy_no ks.length wx (by omega)
      clear hk
      generalize ks.length = n at *
      go_enter Try.func6, Try.ntmps6
      go_wp2_with fail
      refine (carryAlive_any w).mono ?_
      rintro e w1 ⟨rfl, hb⟩
      go_wp2_with fail
      refine (hN w1).mono ?_
      rintro e w2 ⟨rfl, rfl⟩
      go_wp2_with fail
      go_ret
      exact ⟨rfl, hb⟩
  have h100' : ¬ (100 : Int) < ks.length := by omega
  have hN := fun wx (h : Stage (oldF w) w [Ob.old w] wx) => h.newForest ks.length (by omega)
  go_enter Try.func6, Try.ntmps6
  go_wp2_with fail
  refine (carryAlive_any w).mono ?_
  rintro e w1 ⟨rfl, hb⟩
  go_wp2_with fail
  refine (hN w1 ((Stage.oldStart w).later hb)).mono ?_
  rintro e w2 ⟨p, rfl, hs⟩
  clear hN hb
  replace hs : Stage (oldF w) w [Ob.old w, Ob.forest p ks.length (fun _ => [])] w2 := hs
  obtain ⟨w3, hw3, hs3⟩ : ∃ w3, (w2.alloc (.cells #[.slice a ks.length c, .int .i64 0] 47)).alloc (.cells #[] 3) = w3 ∧ Stage (oldF w) w [Ob.forest p ks.length (fun _ => []), Ob.box w2.heap.size #[.slice a ks.length c, .int .i64 0] 47, Ob.old w, Ob.ints (.slice (some ⟨w2.heap.size + 1, 0, none⟩) 0 0) []] w3 :=
    ⟨_, rfl, ((hs.alloc _ _).emptyRow' 3 1 (size_alloc _ _)).select [1, 2, 0, 3] (by decide) rfl⟩
  clear hs
  go_wp2_with fail
  try rw [hw3]
  clear hw3
  generalize hg1 : w2.heap.size + 1 = o1 at *
  generalize w2.heap.size = o at *
  clear hg1
  have hst := Carried.start ks.length (ltK (keyL ks))
  go_loopw [6, 44] (fun rv z wr => ∃ (i : Nat) (K : Int → List Int) (s : Int) (r : List Int), z = .int .i64 i ∧ i ≤ ks.length ∧ Carried ks.length (ltK (keyL ks)) i K r ∧ Stage (oldF w) w [Ob.forest p ks.length K, Ob.box o #[.slice a ks.length c, .int .i64 s] 47, Ob.old w, Ob.ints rv r] wr) (fun _ z _ => ks.length - (intOf z).toNat)
  case atStart => exact ⟨0, _, 0, [], rfl, Nat.zero_le _, hst, hs3⟩
  case round =>
    clear hst hs3
    obtain ⟨i, K, s, r, rfl, hi, hcar, hs⟩ := hrel
    obtain ⟨I, _⟩ := hs.forestInv 0 rfl
    obtain ⟨ra, rc, rfl, hr1, hr2⟩ := hs.intsForm 3 rfl
    by_cases hin : i < ks.length
    · have hii : (i : Int) < ks.length := by omega
      obtain ⟨w4, hw4, hs4⟩ : ∃ w4, wr.alloc (.cells #[.int .i64 i] 3) = w4 ∧ Stage (oldF w) w [Ob.forest p ks.length K, Ob.box o #[.slice a ks.length c, .int .i64 s] 47, Ob.old w, Ob.ints (.slice ra r.length rc) r, Ob.ints (.slice (some ⟨wr.heap.size, 0, none⟩) 1 1) [(i : Int)]] w4 := ⟨_, rfl, hs.newRow' 3 1 1 #[.int .i64 i] rfl (by decide) rfl⟩
      clear hs
      have hC := lesser_carry (ks := ks) (la := r) (lb := [(i : Int)]) (a1 := ra) (b1 := some ⟨wr.heap.size, 0, none⟩) (ca := rc) (cb := 1) ⟨hc1, hc2⟩ (fun h => old_keys w a ks hk 1 rfl h) ⟨hr1, hr2⟩ ⟨Nat.le_refl _, by omega⟩ (fun h => ⟨h.intsAtI 2 rfl, h.intsAtI 3 rfl⟩) hs4 hcar.row (hcar.one hin) (hcar.apart I)
      replace hC : Calls Try.prog 18 #[.pointer (some ⟨p, 0, none⟩), .iface 45 (.pointer (some ⟨o, 0, none⟩)), .slice ra r.length rc, .slice (some ⟨wr.heap.size, 0, none⟩) 1 1] w4 _ := hC
      clear hs4
      generalize hrl : r.length = rl at *
      clear hrl
      go_wp2_with fail
      try rw [hw4]
      clear hw4
      generalize wr.heap.size = o4 at *
      refine hC.mono ?_
      rintro e w5 ⟨z1, m1, cz1, K1, s1, k1, r1, rfl, ⟨r', hl, hp⟩, hr, _, hs5⟩
      clear hC
      have hcar1 := Carried.next I hcar hin hl hp hr
      clear hl hp hr hcar I
      replace hs5 : Stage (oldF w) w [Ob.forest p ks.length K1, Ob.box o #[.slice a ks.length c, .int .i64 s1] 47, Ob.old w, Ob.ints (.slice z1 m1 cz1) r1] w5 := hs5.select [0, 2, 3, 1] (by decide) rfl
      obtain ⟨_, _, e9, hr3, hr4⟩ := hs5.intsForm 3 rfl
      cases e9
      obtain ⟨I1, _⟩ := hs5.forestInv 0 rfl
      have hi1 : i + 1 < 128 := by omega
      obtain ⟨N, hN⟩ : ∃ N, N = i + 1 := ⟨_, rfl⟩
      rw [← hN] at hcar1 hi1
      have hNi : (i : Int) + 1 = (N : Int) := by omega
      have hwr : IntKind.i64.wrap ((i : Int) + 1) = (N : Int) := by rw [hNi]; exact IntWalk.i64_in _ (by omega)
      replace hN := Lib.hid hN
      clear hNi
      go_wp2_with fail
      obtain ⟨wo, hwo⟩ : ∃ wo : World, wo = w5 := ⟨_, rfl⟩
      go_loopw [11, 12] (fun x y wr => ∃ (b : Nat), y = .int .i64 b ∧ b ≤ 7 ∧ x = .int .i64 ((onesB N b).length : Int) ∧ w5 = wr) (fun _ y _ => 8 - (intOf y).toNat)
      case atStart => exact ⟨0, rfl, Nat.zero_le _, rfl, rfl⟩
      case round =>
        clear hwo
        obtain ⟨b, rfl, hb, rfl, rfl⟩ := hrel
        have hqc : (N : Int) / 2 ^ b = ((N >>> b : Nat) : Int) := by rw [Nat.shiftRight_eq_div_pow]; simp
        have hq128 : N >>> b < 128 := by rw [Nat.shiftRight_eq_div_pow]; exact Nat.lt_of_le_of_lt (Nat.div_le_self _ _) hi1
        have hand := bits_one _ hq128
        rw [← hqc, shift_and] at hand
        by_cases hq : N >>> b = 0
        · have hq0 : (N : Int) / 2 ^ b ≤ 0 := by rw [hqc, hq]; omega
          have he := carried_end I1 hcar1 hi1 hb hq
          have he1 : (((onesB N b).length : Int) != r1.length) = false := by rw [he]; simp
          have he2 : (((onesB N b).length : Int) == r1.length) = true := by rw [he]; simp
          clear hqc hand hq hq128 I1 he
          generalize (onesB N b).length = t9 at *
          go_wp2_with fail
          go_roundw
          case rel => exact ⟨N, K1, s1, r1, rfl, by rw [hN.out]; omega, hcar1, hs5⟩
          case measure =>
            have hN9 := hN.out
            clear hq0 hwr
            simp [intOf]
            omega
        · have hq0 : (0 : Int) < (N : Int) / 2 ^ b := by rw [hqc]; exact Int.natCast_pos.2 (Nat.pos_of_ne_zero hq)
          have hb7 : b < 7 := by
            rcases Nat.lt_or_ge b 7 with h | h
            · exact h
            · obtain rfl : b = 7 := by omega
              exact absurd (by rw [Nat.shiftRight_eq_div_pow]; exact Nat.div_eq_of_lt hi1) hq
          cases ht : N.testBit b
          · rw [ht, if_neg (by decide)] at hand
            have hand2 : (bits BinOp.and IntKind.i64 ((N : Int) / 2 ^ b) 1 == 0) = true := by rw [hand]; rfl
            have hon := ones_succ N b
            rw [ht, if_neg (by decide), List.append_nil] at hon
            replace hon := Lib.hid hon
            clear hqc hand hq hq128 I1 ht
            generalize hob : onesB N b = ob at *
            clear hob
            go_wp2_with fail
            go_roundw
            case rel => exact ⟨b + 1, by go_num, by omega, by rw [hon.out], trivial⟩
            case measure => simp [intOf]; omega
          · rw [ht, if_pos rfl] at hand
            have hand2 : (bits BinOp.and IntKind.i64 ((N : Int) / 2 ^ b) 1 == 0) = false := by rw [hand]; rfl
            have hon := ones_succ N b
            rw [ht, if_pos rfl] at hon
            replace hon := Lib.hid hon
            obtain ⟨ha1, ha2⟩ := carried_at I1 hcar1 hi1 hb7 ht
            obtain ⟨gz, cz2, e9, _, _, _, hcell, _⟩ := hs5.intsAt 3 rfl (by omega)
            have u0 := hcell _ ha1
            have hD := hs5.ask 0 rfl (fun _ ho => deg_f ho (r1.getD (onesB N b).length 0))
            rw [ha2] at hD
            have hai : ((onesB N b).length : Int) < r1.length := by omega
            have hbb : ((b : Int) != (b : Int)) = false := by simp
            cases e9
            clear hqc hand hq hq128 I1 ht ha2 hcell
            generalize hob : onesB N b = ob at *
            clear hob
            generalize r1.getD ob.length 0 = y at *
            generalize r1.length = rl1 at *
            go_wp2_with fail
            refine hD.mono ?_
            rintro e wx ⟨rfl, rfl⟩
            go_wp2_with fail
            go_roundw
            case rel => exact ⟨b + 1, by go_num, by omega, by rw [hon.out, List.length_append]; rfl, trivial⟩
            case measure => simp [intOf]; omega
    · obtain rfl : i = ks.length := by omega
      clear I
      have hord := hcar.ord
      clear hcar
      go_wp2_with fail
      go_loopw [96] (fun z wr => ∃ (j : Nat) (s : Int), z = .int .i64 j ∧ j ≤ ks.length ∧ Stage (oldF w) w [Ob.forest p ks.length K, Ob.box o #[.slice a ks.length c, .int .i64 s] 47, Ob.old w] wr) (fun z _ => ks.length - (intOf z).toNat)
      case atStart => exact ⟨0, s, rfl, Nat.zero_le _, hs.take 3⟩
      case round =>
        clear hs
        obtain ⟨j, s, rfl, hj, hs⟩ := hrel
        by_cases hjn : j < ks.length
        · have hji : (j : Int) < ks.length := by omega
          obtain ⟨I, _⟩ := hs.forestInv 0 rfl
          have hU := hs.ask 0 rfl (fun _ ho => up_f ho (j : Int))
          cases hu : upK K (j : Int) with
          | none =>
            rw [hu] at hU
            clear I hu
            go_wp2_with fail
            refine hU.mono ?_
            rintro e wx ⟨rfl, rfl⟩
            clear hU
            go_wp2_with fail
            go_roundw
            case rel => exact ⟨j + 1, s, by go_num, by omega, hs⟩
            case measure => simp [intOf]; omega
          | some y =>
            rw [hu] at hU
            have hxy := (upK_some I).1 hu
            have hless := I.less hxy
            have hne : (y == (j : Int)) = false := by
              rw [beq_eq_false_iff_ne]
              exact fun e => by rw [e] at hless; omega
            have hlt := hord y j hxy
            have hs6 : Stage (oldF w) w [Ob.box o #[.slice a ks.length c, .int .i64 s] 47, Ob.old w, Ob.forest p ks.length K] wr := hs.select [1, 2, 0] (by decide) rfl
            have hA := lahead_c (ks := ks) ⟨hc1, hc2⟩ (fun h => old_keys w a ks hk 1 rfl h) hs6 j y
            rw [hlt] at hA
            clear I hu hs hs6 hxy hless hlt
            go_wp2_with fail
            refine hU.mono ?_
            rintro e wx ⟨rfl, rfl⟩
            clear hU
            go_wp2_with fail
            refine hA.mono ?_
            rintro e wy ⟨rfl, hs7⟩
            have hs8 := hs7.select [2, 0, 1] (by decide) rfl
            clear hA hs7
            go_wp2_with fail
            go_roundw
            case rel => exact ⟨j + 1, _, by go_num, by omega, hs8⟩
            case measure => simp [intOf]; omega
        · have hji : ¬ (j : Int) < ks.length := by omega
          have hb9 := hs.oldBelow 2 rfl
          clear hs hord
          go_wp2_with fail
          go_ret
          exact ⟨rfl, hb9⟩
end Go.Proofs.Ytbllfokagedpeaa

namespace Go.Proofs.Ytbllfokagedpeaa
open Go.RowKit Go.Sort

theorem Stage.toldCall {F0 : Nat → Prop} {W w : World} {l : List Ob} {p n : Nat} {K : Int → List Int} (hs : Stage F0 W l w) (i : Nat) (hi : l[i]? = some (Ob.forest p n K)) :
    Calls Try.prog 19 #[.pointer (some ⟨p, 0, none⟩), .int .i64 n] w fun e w' => ∃ a c, e = .returned (.slice a n c) ∧ Stage F0 W (l ++ [Ob.docK (.slice a n c) n K]) w' := by
  obtain ⟨F, ho⟩ := hs.get hi
  exact (told_any ho).mono fun e w' ⟨a, c, he, G, g1, g2, g3⟩ => ⟨a, c, he, hs.add g3 g1 g2⟩
theorem Stage.docForm' {F0 : Nat → Prop} {W w : World} {l : List Ob} {v : Value} {n : Nat} {K : Int → List Int} (hs : Stage F0 W l w) (i : Nat) (hi : l[i]? = some (Ob.docK v n K)) : ∃ a c, v = .slice a n c ∧ n ≤ c ∧ c ≤ 9223372036854775807 := (hs.docKAt i hi).elim fun _ h => h.form
theorem Stage.docAt {F0 : Nat → Prop} {W w : World} {l : List Ob} {v : Value} {n : Nat} {K : Int → List Int} (hs : Stage F0 W l w) (i : Nat) (hi : l[i]? = some (Ob.docK v n K)) {j : Nat} (hj : j < n) : ∃ g c ka kc, v = .slice (some ⟨g, 0, none⟩) n c ∧ w.cell? ⟨g, j, none⟩ = some (.slice ka (K j).length kc) ∧ (K j).length ≤ kc ∧ kc ≤ 9223372036854775807 ∧ IntsAt w .i64 ka (K j) :=
  (hs.docKAt i hi).elim fun _ h => by
    obtain ⟨g, c, ka, kc, e, h1, h2, h3, h4, _⟩ := h.at' hj
    exact ⟨g, c, ka, kc, e, h1, h2, h3, h4⟩
theorem Stage.docUp {F0 : Nat → Prop} {W w : World} {l : List Ob} {v : Value} {n : Nat} {K : Int → List Int} (hs : Stage F0 W l w) (i : Nat) (hi : l[i]? = some (Ob.docK v n K)) (I : CInv n K) (x : Int) :
    Calls Try.prog 22 #[v, .int .i64 x] w fun e w' => e = .returned (.tuple #[.int .i64 ((upK K x).getD 0), .bool (upK K x).isSome]) ∧ w = w' := (hs.docKAt i hi).elim fun _ h => rUp I h x
theorem Stage.docRow {F0 : Nat → Prop} {W w : World} {l : List Ob} {v : Value} {n : Nat} {K : Int → List Int} (hs : Stage F0 W l w) (i : Nat) (hi : l[i]? = some (Ob.docK v n K)) (I : CInv n K) (hn : n ≤ 65536) (m : List Int) (a : Option Addr) (c : Nat) (hc : m.length ≤ c ∧ c ≤ 9223372036854775807) (hm : IntsAt w .i64 a m) :
    Calls Try.prog 15 #[v, .slice a m.length c] w fun e w' => e = .returned (.bool (isRow n K m)) ∧ Below w.heap.size w w' := (hs.docKAt i hi).elim fun _ h => rRow I hn h m a c hc hm
theorem Stage.docCube {F0 : Nat → Prop} {W w : World} {l : List Ob} {v : Value} {n : Nat} {K : Int → List Int} (hs : Stage F0 W l w) (i : Nat) (hi : l[i]? = some (Ob.docK v n K)) (I : CInv n K) (hn : n ≤ 65536) (k : Nat) (hk : k ≤ 1000) (x : Int) (hx : inN n x) :
    Calls Try.prog 17 #[v, .int .i64 x, .int .i64 k] w fun e w' => e = .returned (.bool true) ∧ w = w' := (hs.docKAt i hi).elim fun _ h => rCube I hn k hk x w hx h
theorem Stage.docAll {F0 : Nat → Prop} {W w : World} {l : List Ob} {v : Value} {n : Nat} {K : Int → List Int} (hs : Stage F0 W l w) (i : Nat) (hi : l[i]? = some (Ob.docK v n K)) (I : CInv n K) (hn : n ≤ 65536) (k : Nat) (hk : k ≤ 1000) (x : Int) (hx : inN n x) :
    Calls Try.prog 21 #[v, .int .i64 x, .int .i64 k] w fun e w' => ∃ va vc, e = .returned (.slice va (allK K k x).length vc) ∧ Below w.heap.size w w' ∧ Stage F0 W (l ++ [Ob.ints (.slice va (allK K k x).length vc) (allK K k x)]) w' :=
  (hs.docKAt i hi).elim fun _ h => (ints_slice (rAll I hn k hk x w hx h)).mono fun _ _ ⟨va, vc, he, _, g1, g2, g3⟩ => ⟨va, vc, he, g3, hs.add g3 g1 g2⟩
end Go.Proofs.Ytbllfokagedpeaa

namespace Go.Proofs.Ytbllfokagedpeaa

def lastOf (x : Int) (l : List Int) : Int := (x :: l).getLast (by simp)
theorem lastOf_cons (x p : Int) (l : List Int) : lastOf x (p :: l) = lastOf p l := List.getLast_cons (by simp)
section
variable {n : Nat} {K : Int → List Int}
theorem anc_up (I : CInv n K) {t : Int} {m : List Int} (h : Anc K t m) : upK K t = m.head? := by
  cases m with
  | nil => exact upK_none.2 h
  | cons p m => exact (upK_some I).2 h.1
theorem lastOf_deg (I : CInv n K) {x : Int} {l : List Int} (h : Anc K x l) (hl : l ≠ []) : (K x).length < (K (lastOf x l)).length := by
  cases l with
  | nil => exact absurd rfl hl
  | cons p l =>
    have := anc_deg I h (lastOf x (p :: l)) (by unfold lastOf; rw [List.getLast_cons (by simp)]; exact List.getLast_mem _)
    exact this
theorem lastOf_in (I : CInv n K) : ∀ {l : List Int} {x : Int}, Anc K x l → inN n x → inN n (lastOf x l)
  | [], _, _, hx => hx
  | p :: l, x, h, _ => by rw [lastOf_cons]; exact lastOf_in I h.2 (I.rng p x h.1).1
theorem anc_short (I : CInv n K) {x : Int} {l : List Int} (h : Anc K x l) (hx : inN n x) : l.length < n := by
  have h1 := anc_len I h
  have h2 := deg_lt_n I (lastOf_in I h hx)
  unfold lastOf at h2
  omega
/-- So far up, step by step. -/
def Climb (K : Int → List Int) (x : Int) (l : List Int) (j : Nat) (t : Int) : Prop := ∃ m, Anc K t m ∧ m.length = l.length - j ∧ lastOf t m = lastOf x l
theorem Climb.start {x : Int} {l : List Int} (h : Anc K x l) : Climb K x l 0 x := ⟨l, h, rfl, rfl⟩
theorem Climb.goUp (I : CInv n K) {x : Int} {l : List Int} {j : Nat} {t p : Int} (h : Climb K x l j t) (hu : upK K t = some p) : Climb K x l (j + 1) p := by
  obtain ⟨m, h1, h2, h3⟩ := h
  rw [anc_up I h1] at hu
  cases m with
  | nil => cases hu
  | cons q m =>
    cases hu
    refine ⟨m, h1.2, ?_, ?_⟩
    · simp only [List.length_cons] at h2; omega
    · rw [← lastOf_cons t]; exact h3
theorem Climb.stay (I : CInv n K) {x : Int} {l : List Int} {j : Nat} {t : Int} (h : Climb K x l j t) (hu : upK K t = none) : Climb K x l (j + 1) t := by
  obtain ⟨m, h1, h2, h3⟩ := h
  rw [anc_up I h1] at hu
  cases m with
  | cons q m => cases hu
  | nil => exact ⟨[], h1, by simp only [List.length_nil] at h2 ⊢; omega, h3⟩
theorem Climb.fin {x : Int} {l : List Int} {j : Nat} {t : Int} (h : Climb K x l j t) (hj : l.length ≤ j) : t = lastOf x l := by
  obtain ⟨m, _, h2, h3⟩ := h
  have : m = [] := List.length_eq_zero_iff.1 (by omega)
  subst this
  exact h3
/-- So often lifted. -/
structure Lifted (n : Nat) (K0 : Int → List Int) (x : Int) (l : List Int) (j : Nat) (K : Int → List Int) : Prop where
  anc : ∃ m, Anc K x m ∧ m.length + j = l.length ∧ (K (lastOf x m)).length = (K0 (lastOf x l)).length
theorem Lifted.start {K0 : Int → List Int} {x : Int} {l : List Int} (h : Anc K0 x l) : Lifted n K0 x l 0 K0 := ⟨l, h, rfl, rfl⟩
theorem Lifted.stay (I : CInv n K) {K0 : Int → List Int} {x : Int} {l : List Int} {j : Nat} (h : Lifted n K0 x l j K) (hu : upK K x = none) : j = l.length ∧ (K x).length = (K0 (lastOf x l)).length := by
  obtain ⟨m, h1, h2, h3⟩ := h.anc
  rw [anc_up I h1] at hu
  cases m with
  | cons q m => cases hu
  | nil => exact ⟨by simpa using h2, h3⟩
theorem Lifted.goUp (I : CInv n K) {K0 : Int → List Int} {x p : Int} {l : List Int} {j : Nat} (h : Lifted n K0 x l j K) (hu : upK K x = some p) : Lifted n K0 x l (j + 1) (liftF K x) ∧ j < l.length := by
  obtain ⟨m, h1, h2, h3⟩ := h.anc
  have hu2 := hu
  rw [anc_up I h1] at hu2
  cases m with
  | nil => cases hu2
  | cons q m =>
    cases hu2
    have e : liftF K x = liftK K x p := by unfold liftF; rw [hu]
    rw [e]
    refine ⟨⟨m, anc_lift I h1, by simp only [List.length_cons] at h2; omega, ?_⟩, by simp only [List.length_cons] at h2; omega⟩
    rw [← h3]
    exact top_lift I h1
end
end Go.Proofs.Ytbllfokagedpeaa
