/- Merged of FiGather, FiFree, FiRaise. -/
import Derived.Test.YtcjjglaimfhofaaFiPlace
import Derived.Test.YtcjjglaimfhofaaFiNestMath
import Derived.Test.YtcjjglaimfhofaaFiFreeMath
namespace Go.Proofs.Ytcjjglaimfhofaa
open Go.RowKit Go.Sort

def GathPost (F0 : Nat → Prop) (W0 : World) (f c rp : Nat) (v : Value) (n : Nat) (W : WS) (s : Int) (A B C D : Ob) (i : Nat) (E : Int → Prop) (R0 : Nat → List Int) (Z : Nat) (PP : Int) (e : Ending) (w' : World) : Prop :=
  ∃ z Bl K' R' T' S' s', e = .returned (trV z (R' i).length) ∧ GathJ n W i E R0 Z K' R' T' S' Bl [] ∧ BestFi W (R' i) z ∧ (s ≤ s' ∧ s' + (potN W K' (lostOf T') : Nat) + 1 ≤ PP + ((R' i).length : Nat)) ∧
      Stage F0 W0 (fbF f c rp v n W s' T' S' ++ [A, B, C, D]) w'
section
variable {F0 : Nat → Prop} {W0 w : World} {f c rp n : Nat} {v : Value} {W : WS} {s : Int} {T : Int → Node} {S : RSt} {A B C D : Ob} {K : Int → List Int} {R : Nat → List Int}
set_option maxRecDepth 100000 in
set_option maxHeartbeats 4000000 in
theorem gather_fb {x : Int} (h : Stage F0 W0 (fbF f c rp v n W s T S ++ [A, B, C, D]) w) {i : Nat} {E : Int → Prop} {R0 : Nat → List Int} {Z : Nat} (J : GathJ n W i E R0 Z K R T S [] (R i)) (hx : x ∈ R i) :
    Calls Try.prog 88 #[.pointer (some ⟨f, 0, none⟩), .int .i64 x] w (GathPost F0 W0 f c rp v n W s A B C D i E R0 Z (s + (potN W K (lostOf T) : Nat))) := by
  obtain ⟨w0, hw0, h0⟩ : ∃ w0, w.alloc (.cells #[.int .i64 0, .int .i64 0] 88) = w0 ∧ Stage F0 W0 (fbF f c rp v n W s T S ++ [A, B, C, D, Ob.box w.heap.size #[.int .i64 0, .int .i64 0] 88]) w0 := ⟨_, rfl, h.alloc _ _⟩
  have hn6 := J.tied.good.few
  have hp0 : (s ≤ s ∧ s + (potN W K (lostOf T) : Nat) ≤ s + (potN W K (lostOf T) : Nat)) := ⟨Int.le_refl _, Int.le_refl _⟩
  obtain ⟨PP, hPP⟩ : ∃ PP : Int, PP = s + (potN W K (lostOf T) : Nat) := ⟨_, rfl⟩
  rw [← hPP]
  replace hp0 : (s ≤ s ∧ s + (potN W K (lostOf T) : Nat) ≤ PP) := ⟨Int.le_refl _, by rw [hPP]; exact Int.le_refl _⟩
  clear hPP
  have hperm := J.tied.rr i x hx
  have hAll := h0.newInts (h0.get (i := 3) rfl |>.elim fun _ ho => rg_all J.tied.good x ho)
  have c1 : w0.cell? ⟨f, 1, none⟩ = some (.pointer (some ⟨rp, 0, none⟩)) := h0.cell 0 rfl rfl
  have J1 : GathJ n W i E R0 Z K R T S [] (allR S.R x) := ⟨J.len, J.mid, J.tied, J.deg, J.off, hperm.symm, J.slot, J.bare, J.some, J.pows⟩
  generalize allR S.R x = l at *
  clear h J hperm
  go_enter Try.func88, Try.ntmps88
  go_wp2_with fail
  generalize w.heap.size = br at *
  refine hAll.mono ?_
  rintro e w1 ⟨vs, rfl, hs⟩
  clear hAll c1 h0 hw0
  obtain ⟨a', c', rfl, hv1, hv2⟩ := hs.intsForm 9 rfl
  have hs1 : Stage F0 W0 (fbF f c rp v n W s T S ++ [A, B, C, D, Ob.box br #[.int .i64 0, .int .i64 0] 88, Ob.ints (.slice a' l.length c') l, Ob.ints (.slice none 0 0) []]) w1 := hs.nilRow 0 3 1
  clear hs
  go_wp2_with fail
  go_loopw [5, 7, 19] (fun bv _ j wr => ∃ (jn : Nat) (Bl : List Int) (K : Int → List Int) (R : Nat → List Int) (T : Int → Node) (S : RSt) (s1 : Int), j = .int .i64 jn ∧ jn ≤ l.length ∧ GathJ n W i E R0 Z K R T S Bl (l.drop jn) ∧ Bl.length ≤ n + 1 ∧ (s ≤ s1 ∧ s1 + (potN W K (lostOf T) : Nat) ≤ PP) ∧
      Stage F0 W0 (fbF f c rp v n W s1 T S ++ [A, B, C, D, Ob.box br #[.int .i64 0, .int .i64 0] 88, Ob.ints (.slice a' l.length c') l, Ob.ints bv Bl]) wr) (fun _ _ j _ => l.length - (intOf j).toNat)
  case atStart => exact ⟨0, [], K, R, T, S, s, rfl, Nat.zero_le _, J1, by simp, hp0, hs1⟩
  case round =>
    clear hs1 J1 hp0
    obtain ⟨j, Bl, K, R, T, S, s1, rfl, hj, J, hBl, hp0, hs⟩ := hrel
    by_cases hlt : j < l.length
    · have hji : (j : Int) < l.length := by omega
      obtain ⟨gr, cr, e, _, _, hgr, hcr, hfr⟩ := hs.intsAt 9 rfl (by omega)
      cases e
      have ux := hcr j hlt
      have hdr : l.drop j = l.getD j 0 :: l.drop (j + 1) := by
        rw [List.drop_eq_getElem_cons hlt, List.getD_eq_getElem?_getD, List.getElem?_eq_getElem hlt]; rfl
      rw [hdr] at J
      have hPl := place_fb hs J hBl
      clear hcr hfr hdr J hs
      generalize l.getD j 0 = y at *
      generalize hPQ : s1 + (potN W K (lostOf T) : Nat) = PQ at *
      generalize hll : l.length = m at *
      replace hll := Lib.hid hll
      go_wp2_with fail
      refine hPl.mono ?_
      rintro e w2 ⟨bv2, Bl2, K2, R2, T2, S2, s2, rfl, J2, hBl2, ⟨hp1, hp2⟩, h4⟩
      clear hPl
      have hq : s ≤ s2 ∧ s2 + (potN W K2 (lostOf T2) : Nat) ≤ PP := by omega
      clear hp1 hp2 hp0 hPQ
      go_wp2_with fail
      go_roundw
      case rel => exact ⟨j + 1, Bl2, K2, R2, T2, S2, s2, by go_num, by omega, J2, hBl2, hq, h4⟩
      case measure => simp [intOf]; omega
    · obtain rfl : j = l.length := by omega
      rw [List.drop_length] at J
      obtain ⟨hdg, hpm⟩ := J.done
      have hroots : ∀ y ∈ keepI Bl, inW W y = true := fun y hy => (J.mid.is i y (hpm.mem_iff.1 hy)).2.1
      have hrne : keepI Bl ≠ [] := fun e => J.some (by rw [e] at hpm; exact List.nil_perm.1 hpm)
      have hBne : Bl ≠ [] := fun e => hrne (by rw [e]; rfl)
      obtain ⟨aB, cB, rfl, hb1, hb2⟩ := hs.intsForm 10 rfl
      have hsF : Stage F0 W0 (Ob.ints (.slice aB Bl.length cB) Bl :: (fbF f c rp v n W s1 T S ++ [A, B, C, D, Ob.box br #[.int .i64 0, .int .i64 0] 88, Ob.ints (.slice a' l.length c') l])) wr := hs.select [10, 0, 1, 2, 3, 4, 5, 6, 7, 8, 9] (by decide) rfl
      have hDel := deleteNone hBne hsF
      have hlenR : (keepI Bl).length = (R i).length := hpm.length_eq
      have hEndJ : ∀ z (s2 : Int) (w2 : World), BestFi W (keepI Bl) z → s ≤ s2 ∧ s2 + (potN W K (lostOf T) : Nat) + 1 ≤ PP + ((keepI Bl).length : Nat) → Stage F0 W0 (fbF f c rp v n W s2 T S ++ [A, B, C, D]) w2 → GathPost F0 W0 f c rp v n W s A B C D i E R0 Z PP (.returned (trV z (keepI Bl).length)) w2 := fun z s2 w2 hb hq h2 =>
        ⟨z, Bl, K, R, T, S, s2, by rw [hlenR], J, ⟨hpm.mem_iff.1 hb.1, fun y hy => hb.2 y (hpm.mem_iff.2 hy)⟩, by rw [← hlenR]; exact hq, h2⟩
      have hrl : (keepI Bl).length ≤ 65536 := by
        rw [hlenR]
        have := J.mid.rfew i
        rw [J.len] at this
        omega
      clear hs hsF J hdg hpm hlenR hBl hv1 hv2
      generalize hll : l.length = m at *
      generalize hbl : Bl.length = mb at *
      replace hll := Lib.hid hll
      replace hbl := Lib.hid hbl
      go_wp2_with fail
      refine hDel.mono ?_
      rintro e w2 ⟨v2, rfl, h2⟩
      clear hDel
      generalize hrt : keepI Bl = rt at *
      replace hrt := Lib.hid hrt
      have hs : Stage F0 W0 (fbF f c rp v n W s1 T S ++ [A, B, C, D, Ob.box br #[.int .i64 0, .int .i64 0] 88, Ob.ints (.slice a' m c') l, Ob.ints v2 rt]) w2 := h2.select [1, 2, 3, 4, 5, 6, 7, 8, 9, 10, 0] (by decide) rfl
      clear h2
      obtain ⟨k, hk⟩ : ∃ k, rt.length = k + 1 := ⟨rt.length - 1, by have := List.length_pos_iff.2 hrne; omega⟩
      obtain ⟨gb, ca, rfl, hc1, hc2, _, hc9, _⟩ := hs.intsAt 10 rfl (by omega)
      have u0 := hc9 0 (by omega)
      have hb0 : BestFi W (rt.take 1) (rt.getD 0 0) := by
        rw [take_succD (by omega)]
        exact bestfi_one W _
      rw [hk] at hc1 hrl hs hEndJ
      clear hc9 hrne hBne
      have hki : ((k + 1 : Nat) : Int) = (k : Int) + 1 := by omega
      rw [hki] at hEndJ
      generalize hy0 : rt.getD 0 0 = y0 at *
      replace hy0 := Lib.hid hy0
      by_cases hca : ca = 1
      · subst hca
        obtain rfl : k = 0 := by omega
        have hb1 : BestFi W rt y0 := by
          have h1 : rt.take 1 = rt := List.take_of_length_le (by omega)
          rwa [h1] at hb0
        clear hb0 hki
        go_wp2_with fail
        go_loopw [9, 11, 36] (fun b _ i wr => b = .int .i64 y0 ∧ i = .int .i64 0 ∧ Stage F0 W0 (fbF f c rp v n W s1 T S ++ [A, B, C, D, Ob.box br #[.int .i64 0, .int .i64 0] 88, Ob.ints (.slice a' m c') l, Ob.ints (.slice (some ⟨gb, 0, none⟩) 1 1) rt]) wr) (fun _ _ _ _ => 0)
        case atStart => exact ⟨rfl, rfl, hs⟩
        case round =>
          clear hs u0 hy0
          obtain ⟨rfl, rfl, hs⟩ := hrel
          have hE := fun w2 h2 => hEndJ y0 s1 w2 hb1 (by omega) h2
          have f0 := hs.free 8 rfl 0
          have f1 := hs.free 8 rfl 1
          have r0 := hs.cell 8 rfl (o := 0) rfl
          have r1 := hs.cell 8 rfl (o := 1) rfl
          have hl := hs.lt 8 rfl
          have hs4 := (hs.store 8 rfl 0 (.int .i64 y0)).store 8 rfl 1 (.int .i64 1)
          have z0 := hs4.cell 8 rfl (o := 0) rfl
          have z1 := hs4.cell 8 rfl (o := 1) rfl
          have hfin := hE _ (hs4.take 8)
          clear hs4 hs hE hEndJ
          go_wp2_with fail
          refine bodyPost_ret (v := .agg #[.int .i64 y0, .int .i64 1]) (by simp [results, Try.results88, go_sem, z0, z1]) rfl ?_
          exact hfin
      · go_wp2_with fail
        go_loopw [9, 11, 36] (fun b _ i wr => ∃ (j : Nat) (z s2 : Int), b = .int .i64 z ∧ i = .int .i64 j ∧ j ≤ k ∧ BestFi W (rt.take (j + 1)) z ∧ (s1 ≤ s2 ∧ s2 ≤ s1 + j) ∧ Stage F0 W0 (fbF f c rp v n W s2 T S ++ [A, B, C, D, Ob.box br #[.int .i64 0, .int .i64 0] 88, Ob.ints (.slice a' m c') l, Ob.ints (.slice (some ⟨gb, 0, none⟩) (k + 1) ca) rt]) wr) (fun _ _ i _ => k - (intOf i).toNat)
        case atStart => exact ⟨0, y0, s1, rfl, rfl, Nat.zero_le _, hb0, ⟨Int.le_refl _, by omega⟩, hs⟩
        case round =>
          clear hs hb0 u0 hy0
          obtain ⟨j, z, s2, rfl, rfl, hj, hb, hr, hs⟩ := hrel
          by_cases hjm : j < k
          · have hji : (j : Int) < k := by omega
            have hs' := hs
            rw [← hk] at hs'
            obtain ⟨g8, c8, e8, _, _, _, hc8, _⟩ := hs'.intsAt 10 rfl (by omega)
            cases e8
            have uj := hc8 (j + 1) (by omega)
            have hO := order_fb (q := [A, B, C, D, Ob.box br #[.int .i64 0, .int .i64 0] 88, Ob.ints (.slice a' m c') l, Ob.ints (.slice (some ⟨gb, 0, none⟩) (k + 1) ca) rt]) hs z (rt.getD (j + 1) 0)
            rw [show (if aheadW W (rt.getD (j + 1) 0) z = true then rt.getD (j + 1) 0 else z) = lkC W z (rt.getD (j + 1) 0) from rfl, show (if aheadW W (rt.getD (j + 1) 0) z = true then z else rt.getD (j + 1) 0) = lkD W z (rt.getD (j + 1) 0) from rfl] at hO
            have hst0 := (nf_fit (q := [A, B, C, D, Ob.box br #[.int .i64 0, .int .i64 0] 88, Ob.ints (.slice a' m c') l, Ob.ints (.slice (some ⟨gb, 0, none⟩) (k + 1) ca) rt]) hs).2
            have hrg : s2 ≤ aheadS W s2 (rt.getD (j + 1) 0) z ∧ aheadS W s2 (rt.getD (j + 1) 0) z ≤ s2 + 1 := by
              unfold aheadS addI
              repeat' split
              all_goals omega
            have hnx := bestfi_more (x := rt.getD (j + 1) 0) (fun y hy => hroots y (List.mem_of_mem_take hy)) hb
            rw [← take_succD (by omega)] at hnx
            clear hs hs' hc8 hb hst0
            rw [Nat.add_comm j 1] at uj
            generalize hyy : rt.getD (j + 1) 0 = y at *
            rw [Nat.add_comm j 1] at hyy
            rw [hyy] at uj
            clear hyy
            generalize aheadS W s2 y z = s3 at *
            generalize lkC W z y = z3 at *
            generalize lkD W z y = z4 at *
            go_wp2_with fail
            refine hO.mono ?_
            rintro e w3 ⟨rfl, h3⟩
            go_wp2_with fail
            go_roundw
            case rel => exact ⟨j + 1, z3, s3, rfl, by go_num, by omega, hnx, ⟨by omega, by omega⟩, h3⟩
            case measure => simp [intOf]; omega
          · obtain rfl : j = k := by omega
            rw [← hk, List.take_length] at hb
            have hE := fun w2 h2 => hEndJ z s2 w2 hb (by omega) h2
            have f0 := hs.free 8 rfl 0
            have f1 := hs.free 8 rfl 1
            have r0 := hs.cell 8 rfl (o := 0) rfl
            have r1 := hs.cell 8 rfl (o := 1) rfl
            have hl := hs.lt 8 rfl
            have hs4 := (hs.store 8 rfl 0 (.int .i64 z)).store 8 rfl 1 (.int .i64 ((j : Int) + 1))
            have z0 := hs4.cell 8 rfl (o := 0) rfl
            have z1 := hs4.cell 8 rfl (o := 1) rfl
            have hfin := hE _ (hs4.take 8)
            clear hs4 hs hE hEndJ
            go_wp2_with fail
            refine bodyPost_ret (v := .agg #[.int .i64 z, .int .i64 ((j : Int) + 1)]) (by simp [results, Try.results88, go_sem, z0, z1]) rfl ?_
            exact hfin
end
end Go.Proofs.Ytcjjglaimfhofaa

namespace Go.Proofs.Ytcjjglaimfhofaa
open Go.RowKit Go.Sort

/-- How many trees a box tells of. -/
def cntOf (w : World) (b : Nat) : Nat := match w.cell? ⟨b, 1, none⟩ with | some (.int _ k) => k.toNat | _ => 0
section
variable {F0 : Nat → Prop} {W0 w : World} {f c rp n : Nat} {v : Value} {W WL : WS} {s : Int} {T : Int → Node} {S : RSt} {A B C D : Ob} {K : Int → List Int} {R : Nat → List Int}
set_option maxRecDepth 100000 in
set_option maxHeartbeats 2000000 in
theorem free_fb (h : Stage F0 W0 (fbF f c rp v n W s T S ++ [A, B, C, D]) w) {i : Nat} {a x0 : Int} {R0 : Nat → List Int} {K0 : Int → List Int} {P0 : Nat} (J : FreeJ n WL i a x0 R0 K0 P0 K R T S x0) :
    Calls Try.prog 84 #[.pointer (some ⟨f, 0, none⟩), trV a (R i).length, .int .i64 x0] w fun e w' => ∃ K' R' T' S', e = .returned (trV a (R' i).length) ∧ FreeEnd n WL i a x0 R0 K0 P0 K' R' T' S' ∧ Stage F0 W0 (fbF f c rp v n W s T' S' ++ [A, B, C, D]) w' := by
  obtain ⟨w1, hw1, h1⟩ : ∃ w1, w.alloc (.cells #[.int .i64 a, .int .i64 (R i).length] 88) = w1 ∧ Stage F0 W0 (fbF f c rp v n W s T S ++ [A, B, C, D, Ob.box w.heap.size #[.int .i64 a, .int .i64 (R i).length] 88]) w1 := ⟨_, rfl, h.alloc _ _⟩
  obtain ⟨w2, hw2, h2⟩ : ∃ w2, w1.alloc (.cells #[.int .i64 0, .int .i64 0] 88) = w2 ∧ Stage F0 W0 (fbF f c rp v n W s T S ++ [A, B, C, D, Ob.box w.heap.size #[.int .i64 a, .int .i64 (R i).length] 88, Ob.box w1.heap.size #[.int .i64 0, .int .i64 0] 88]) w2 := ⟨_, rfl, h1.alloc _ _⟩
  have hn6 := J.tied.good.few
  have hx0 : inB n x0 := J.len ▸ prin_slot J.inw
  obtain ⟨g, k, rfl, hk1, hk2, hgf, _, _⟩ := nf_row h (by have := hx0.1; have := hx0.2; omega)
  clear h h1
  unfold trV
  go_enter Try.func84, Try.ntmps84
  go_wp2_with fail
  generalize w1.heap.size = bR at *
  generalize w.heap.size = bT at *
  clear hw1 hw2
  go_loopw [2, 7] (fun x _ wr => ∃ (x' : Nat) (K : Int → List Int) (R : Nat → List Int) (T : Int → Node) (S : RSt), x = .int .i64 x' ∧ FreeJ n WL i a x0 R0 K0 P0 K R T S x' ∧ Stage F0 W0 (fbF f c rp (.slice (some ⟨g, 0, none⟩) n k) n W s T S ++ [A, B, C, D, Ob.box bT #[.int .i64 a, .int .i64 (R i).length] 88, Ob.box bR #[.int .i64 0, .int .i64 0] 88]) wr) (fun _ _ wr => n + 1 - cntOf wr bT)
  case atStart =>
    obtain ⟨x', rfl⟩ : ∃ i : Nat, x0 = i := ⟨x0.toNat, by have := hx0.1; omega⟩
    exact ⟨x', K, R, T, S, rfl, J, h2⟩
  case round =>
    clear h2 J hx0
    obtain ⟨x, K, R, T, S, rfl, J, hs⟩ := hrel
    have hfew : (R i).length ≤ n := J.len ▸ J.mid.rfew i
    have hxi : inB n x := J.len ▸ prin_slot J.inw
    have hxn : x < n := by have := hxi.2; omega
    have t0 := hs.cell 8 rfl (o := 0) rfl
    have t1 := hs.cell 8 rfl (o := 1) rfl
    have c2 : wr.cell? ⟨f, 2, none⟩ = some (.slice (some ⟨g, 0, none⟩) n k) := hs.cell 0 rfl rfl
    obtain ⟨g', k', e, _, _, _, hc, hf⟩ := nf_row (q := [A, B, C, D, Ob.box bT #[.int .i64 a, .int .i64 (R i).length] 88, Ob.box bR #[.int .i64 0, .int .i64 0] 88]) hs (by omega)
    cases e
    have u0 := (hc x hxn).1
    rcases J.up with ⟨ht, hup⟩ | ⟨p, hp, hup, hpn⟩
    · rw [hup] at u0
      have f0 := hs.free 9 rfl 0
      have f1 := hs.free 9 rfl 1
      have r0 := hs.cell 9 rfl (o := 0) rfl
      have r1 := hs.cell 9 rfl (o := 1) rfl
      have hl := hs.lt 9 rfl
      have hs4 := (hs.store 9 rfl 0 (.int .i64 a)).store 9 rfl 1 (.int .i64 (R i).length)
      have z0 := hs4.cell 9 rfl (o := 0) rfl
      have z1 := hs4.cell 9 rfl (o := 1) rfl
      have hE := J.stop ht
      clear hs hc hf J hup ht hxi
      go_wp2_with fail
      exact bodyPost_ret (v := .agg #[.int .i64 a, .int .i64 (R i).length]) (by simp [results, Try.results84, go_sem, z0, z1]) rfl ⟨K, R, T, S, rfl, hE, hs4.take 8⟩
    · rw [hup] at u0
      have he : (p != -1) = true := by simpa using hpn
      have I := J.mid.f.fb
      rw [J.len] at I
      have hro := J.mid.roots
      rw [J.len] at hro
      have hpi := (I.rng p x hp).1
      obtain ⟨p, rfl⟩ : ∃ i : Nat, p = i := ⟨p.toNat, by have := hpi.1; omega⟩
      have hpn' : p < n := by have := hpi.2; omega
      have hC := cut_fb (q := [A, B, C, D, Ob.box bT #[.int .i64 a, .int .i64 (R i).length] 88, Ob.box bR #[.int .i64 0, .int .i64 0] 88]) hs J.tied I hro hp
      clear hc hf hup hxi hpn
      replace t1 := t1
      go_wp2_with fail
      refine hC.mono ?_
      rintro e w3 ⟨rfl, T', H1, hL, hs3⟩
      have t1' := t1
      clear hC hs u0 c2 t0 t1
      have t0 := hs3.cell 8 rfl (o := 0) rfl
      have c1 : w3.cell? ⟨f, 1, none⟩ = some (.pointer (some ⟨rp, 0, none⟩)) := hs3.cell 0 rfl rfl
      have hS := hs3.drew.call 3 rfl (fun _ ho => rg_splice H1.good.back a x ho)
      have hnext := J.next hp H1 hL
      have hlast := fun T2 hlp hu hk hd hL2 => J.last (T2 := T2) hp H1 hL hlp hu hk hd hL2
      have hlp := hL p
      have hcl : (updR R i ((x : Int) :: R i) i).length = (R i).length + 1 := by rw [updR_at]; rfl
      clear J H1 I hro hp hpi
      generalize partS n S x = S1 at *
      generalize spliceS n S1 a x = S2 at *
      generalize (inR n a && inR n x) = bb at *
      go_wp2_with fail
      go_region_held3 (fun w' => w'.cell? ⟨f, 1, none⟩ = some (.pointer (some ⟨rp, 0, none⟩)) ∧ w'.cell? ⟨bT, 0, none⟩ = some (.int .i64 a)) (first | exact ⟨c1, t0⟩ | exact ⟨c1p, t0p⟩ | simp [*])
        ((with_reducible refine hS.mono ?_; rintro e w4 ⟨rfl, h4⟩; have c1p : w4.cell? ⟨f, 1, none⟩ = some (.pointer (some ⟨rp, 0, none⟩)) := h4.cell 0 rfl rfl; have t0p := h4.cell 8 rfl (o := 0) rfl))
      replace h4 : Stage F0 W0 (fbF f c rp (.slice (some ⟨g, 0, none⟩) n k) n W s T' S2 ++ [A, B, C, D, Ob.box bT #[.int .i64 a, .int .i64 (R i).length] 88, Ob.box bR #[.int .i64 0, .int .i64 0] 88]) w4 := h4
      clear hS hs3 c1 t0 c1p t0p
      have t1 := h4.cell 8 rfl (o := 1) rfl
      have f8 := h4.free 8 rfl 1
      have h5 : Stage F0 W0 (fbF f c rp (.slice (some ⟨g, 0, none⟩) n k) n W s T' S2 ++ [A, B, C, D, Ob.box bT #[.int .i64 a, .int .i64 ((R i).length + 1 : Int)] 88, Ob.box bR #[.int .i64 0, .int .i64 0] 88]) _ := h4.store 8 rfl 1 (.int .i64 ((R i).length + 1 : Int))
      have hw : IntKind.i64.wrap (((R i).length : Int) + 1) = ((R i).length : Int) + 1 := IntWalk.i64_in _ (by omega)
      obtain ⟨w5, hw5, h5⟩ : ∃ w5, w4.setCell ⟨bT, 1, none⟩ (.int .i64 ((R i).length + 1 : Int)) = w5 ∧ Stage F0 W0 (fbF f c rp (.slice (some ⟨g, 0, none⟩) n k) n W s T' S2 ++ [A, B, C, D, Ob.box bT #[.int .i64 a, .int .i64 ((R i).length + 1 : Int)] 88, Ob.box bR #[.int .i64 0, .int .i64 0] 88]) w5 := ⟨_, rfl, h5⟩
      have c2 : w5.cell? ⟨f, 2, none⟩ = some (.slice (some ⟨g, 0, none⟩) n k) := h5.cell 0 rfl rfl
      obtain ⟨g', k', e, _, _, _, hc, hf⟩ := nf_row (q := [A, B, C, D, Ob.box bT #[.int .i64 a, .int .i64 ((R i).length + 1 : Int)] 88, Ob.box bR #[.int .i64 0, .int .i64 0] 88]) h5 (by omega)
      cases e
      obtain ⟨_, _, _, u3⟩ := hc p hpn'
      rw [hlp] at u3
      have f3 := hf (p * 4 + 3)
      clear h4 hc hf
      cases hb : (T p).lost with
      | true =>
        have hJ := hnext hb
        rw [hb] at u3
        clear hlast hnext hb hlp
        go_wp2_with fail
        go_roundw
        case rel =>
          refine ⟨p, _, _, T', S2, rfl, hJ, ?_⟩
          rw [hcl]
          exact h5
        case measure =>
          have m0 : cntOf wr bT = (R i).length := by unfold cntOf; rw [t1']; simp
          have m1 : cntOf w5 bT = (R i).length + 1 := by unfold cntOf; rw [h5.cell 8 rfl (o := 1) rfl]; rfl
          rw [m0, m1]; omega
      | false =>
        rw [hb] at u3
        have h6 := nf_lost (q := [A, B, C, D, Ob.box bT #[.int .i64 a, .int .i64 ((R i).length + 1 : Int)] 88, Ob.box bR #[.int .i64 0, .int .i64 0] 88]) h5 hpn' true
        have hE := hlast (setN T' p ⟨(T' p).up, (T' p).kid, (T' p).deg, true⟩) hb (fun y => by simp only [setN]; split <;> simp_all) (fun y => by simp only [setN]; split <;> simp_all) (fun y => by simp only [setN]; split <;> simp_all) (fun y => by simp only [setN]; split <;> simp_all)
        clear hlast hnext hb hlp h5
        obtain ⟨w6, hw6, h6⟩ : ∃ w6, w5.setCell ⟨g, p * 4 + 3, none⟩ (.bool true) = w6 ∧ Stage F0 W0 (fbF f c rp (.slice (some ⟨g, 0, none⟩) n k) n W s (setN T' p ⟨(T' p).up, (T' p).kid, (T' p).deg, true⟩) S2 ++ [A, B, C, D, Ob.box bT #[.int .i64 a, .int .i64 ((R i).length + 1 : Int)] 88, Ob.box bR #[.int .i64 0, .int .i64 0] 88]) w6 := ⟨_, rfl, h6⟩
        have t0 := h6.cell 8 rfl (o := 0) rfl
        have t1 := h6.cell 8 rfl (o := 1) rfl
        have f0 := h6.free 9 rfl 0
        have f1 := h6.free 9 rfl 1
        have r0 := h6.cell 9 rfl (o := 0) rfl
        have r1 := h6.cell 9 rfl (o := 1) rfl
        have hl := h6.lt 9 rfl
        have hs4 := (h6.store 9 rfl 0 (.int .i64 a)).store 9 rfl 1 (.int .i64 ((R i).length + 1 : Int))
        have z0 := hs4.cell 9 rfl (o := 0) rfl
        have z1 := hs4.cell 9 rfl (o := 1) rfl
        have hfin := hs4.take 8
        clear h6 hs4
        go_wp2_with fail
        exact bodyPost_ret (v := .agg #[.int .i64 a, .int .i64 ((R i).length + 1 : Int)]) (by simp [results, Try.results84, go_sem, z0, z1]) rfl ⟨_, _, _, _, by rw [hcl]; rfl, hE, hfin⟩
end
end Go.Proofs.Ytcjjglaimfhofaa

namespace Go.Proofs.Ytcjjglaimfhofaa
open Go.RowKit Go.Sort

section
variable {F0 : Nat → Prop} {W0 w : World} {f c rp n : Nat} {v : Value} {W WL : WS} {s : Int} {T : Int → Node} {S : RSt} {A B : Ob} {K : Int → List Int} {R : Nat → List Int}
set_option maxRecDepth 100000 in
set_option maxHeartbeats 2000000 in
theorem raise_fb (h : Stage F0 W0 (fbF f c rp v n W s T S ++ [A, B]) w) {i : Nat} {a : Int} {x : Nat} {P0 : Nat} (J : FreeJ n WL i a x R K P0 K R T S x) :
    Calls Try.prog 126 #[.pointer (some ⟨f, 0, none⟩), trV a (R i).length, .int .i64 x] w fun e w' => ∃ K' R' T' S' z s', e = .returned (trV z (R' i).length) ∧ Raised n W WL i a x P0 K R T S K' R' T' S' z ∧ (s ≤ s' ∧ s' ≤ s + 2) ∧ Stage F0 W0 (fbF f c rp v n W s' T' S' ++ [A, B]) w' := by
  obtain ⟨w1, hw1, h1⟩ : ∃ w1, w.alloc (.cells #[.int .i64 a, .int .i64 (R i).length] 88) = w1 ∧ Stage F0 W0 (fbF f c rp v n W s T S ++ [A, B, Ob.box w.heap.size #[.int .i64 a, .int .i64 (R i).length] 88]) w1 := ⟨_, rfl, h.alloc _ _⟩
  obtain ⟨w2, hw2, h2⟩ : ∃ w2, w1.alloc (.cells #[.int .i64 0, .int .i64 0] 88) = w2 ∧ Stage F0 W0 (fbF f c rp v n W s T S ++ [A, B, Ob.box w.heap.size #[.int .i64 a, .int .i64 (R i).length] 88, Ob.box w1.heap.size #[.int .i64 0, .int .i64 0] 88]) w2 := ⟨_, rfl, h1.alloc _ _⟩
  clear h h1
  unfold trV
  have t0 := h2.cell 6 rfl (o := 0) rfl
  have t1 := h2.cell 6 rfl (o := 1) rfl
  have f0 := h2.free 7 rfl 0
  have f1 := h2.free 7 rfl 1
  have r0 := h2.cell 7 rfl (o := 0) rfl
  have r1 := h2.cell 7 rfl (o := 1) rfl
  have hl := h2.lt 7 rfl
  by_cases hxa : (x : Int) = a
  · have hs4 := (h2.store 7 rfl 0 (.int .i64 a)).store 7 rfl 1 (.int .i64 (R i).length)
    have z0 := hs4.cell 7 rfl (o := 0) rfl
    have z1 := hs4.cell 7 rfl (o := 1) rfl
    have hfin := hs4.take 6
    have hR : Raised n W WL i a x P0 K R T S K R T S a := Or.inl ⟨rfl, rfl, rfl, rfl, rfl, Or.inl hxa⟩
    have he : ((x : Int) == a) = true := by simpa using hxa
    clear hs4 h2 J
    subst hxa
    go_enter Try.func126, Try.ntmps126
    go_wp2_with fail
    exact bodyPost_ret (v := .agg #[.int .i64 x, .int .i64 (R i).length]) (by simp [results, Try.results126, go_sem, z0, z1]) rfl ⟨K, R, T, S, x, s, rfl, hR, ⟨Int.le_refl _, by omega⟩, hfin⟩
  · have he : ((x : Int) == a) = false := by simpa using hxa
    have hxn : x < n := by have := (J.len ▸ prin_slot J.inw : inB n x).2; omega
    have hA := rises_fb (q := [A, B, Ob.box w.heap.size #[.int .i64 a, .int .i64 (R i).length] 88, Ob.box w1.heap.size #[.int .i64 0, .int .i64 0] 88]) h2 hxn
    cases hB : ((T x).up == -1 || aheadW W x (T x).up)
    · have hR : Raised n W WL i a x P0 K R T S K R T S a := Or.inl ⟨rfl, rfl, rfl, rfl, rfl, Or.inr (by
        rw [Bool.or_eq_false_iff] at hB
        rcases J.up with ⟨_, hup⟩ | ⟨p, hp, hup, _⟩
        · rw [hup] at hB; exact absurd hB.1 (by decide)
        · rw [hup] at hB; exact ⟨p, hp, hB.2⟩)⟩
      rw [hB] at hA
      clear h2 J f0 f1 r0 r1 hl
      go_enter Try.func126, Try.ntmps126
      go_wp2_with fail
      refine hA.mono ?_
      rintro e w3 ⟨s', rfl, hs', h3⟩
      clear hA t0 t1 hw1 hw2
      replace h3 : Stage F0 W0 (fbF f c rp v n W s' T S ++ [A, B, Ob.box w.heap.size #[.int .i64 a, .int .i64 (R i).length] 88, Ob.box w1.heap.size #[.int .i64 0, .int .i64 0] 88]) w3 := h3
      have t0 := h3.cell 6 rfl (o := 0) rfl
      have t1 := h3.cell 6 rfl (o := 1) rfl
      have f0 := h3.free 7 rfl 0
      have f1 := h3.free 7 rfl 1
      have r0 := h3.cell 7 rfl (o := 0) rfl
      have r1 := h3.cell 7 rfl (o := 1) rfl
      have hl := h3.lt 7 rfl
      have hs4 := (h3.store 7 rfl 0 (.int .i64 a)).store 7 rfl 1 (.int .i64 (R i).length)
      have z0 := hs4.cell 7 rfl (o := 0) rfl
      have z1 := hs4.cell 7 rfl (o := 1) rfl
      have hfin := hs4.take 6
      clear hs4 h3
      go_wp2_with fail
      exact bodyPost_ret (v := .agg #[.int .i64 a, .int .i64 (R i).length]) (by simp [results, Try.results126, go_sem, z0, z1]) rfl ⟨K, R, T, S, a, s', rfl, hR, ⟨hs'.1, by omega⟩, hfin⟩
    · rw [hB] at hA
      have hF := fun (w3 : World) (s' : Int) (h3 : Stage F0 W0 (fbF f c rp v n W s' T S ++ [A, B, Ob.box w.heap.size #[.int .i64 a, .int .i64 (R i).length] 88, Ob.box w1.heap.size #[.int .i64 0, .int .i64 0] 88]) w3) => free_fb h3 J
      have hO : ∀ (w4 : World) (s' : Int) (T' : Int → Node) (S' : RSt) (q : List Ob), Stage F0 W0 (fbF f c rp v n W s' T' S' ++ q) w4 → Calls Try.prog 70 #[.pointer (some ⟨f, 0, none⟩), .int .i64 a, .int .i64 x] w4 fun e w' => ∃ s2, e = .returned (.tuple #[.int .i64 (lkC W a x), .int .i64 (lkD W a x)]) ∧ (s' ≤ s2 ∧ s2 ≤ s' + 1) ∧ Stage F0 W0 (fbF f c rp v n W s2 T' S' ++ q) w' := fun w4 s' T' S' q h4 => (order_fb h4 a x).mono fun e w' ⟨e1, e2⟩ => ⟨_, e1, by
        have := (nf_fit h4).2
        unfold aheadS addI
        repeat' split
        all_goals omega, e2⟩
      have hEnd : ∀ K' R' T' S', FreeEnd n WL i a x R K P0 K' R' T' S' → Raised n W WL i a x P0 K R T S K' R' T' S' (lkC W a x) := fun K' R' T' S' hE => Or.inr ⟨hE, rfl⟩
      clear h2 J hB f0 f1 r0 r1 hl
      generalize hCC : (R i).length = cc at *
      generalize lkC W a x = z at *
      generalize lkD W a x = z2 at *
      unfold trV at hF
      go_enter Try.func126, Try.ntmps126
      go_wp2_with fail
      refine hA.mono ?_
      rintro e w3 ⟨s', rfl, hs', h3⟩
      replace h3 : Stage F0 W0 (fbF f c rp v n W s' T S ++ [A, B, Ob.box w.heap.size #[.int .i64 a, .int .i64 cc] 88, Ob.box w1.heap.size #[.int .i64 0, .int .i64 0] 88]) w3 := h3
      clear hA t0 t1 hw1 hw2
      have t0 := h3.cell 6 rfl (o := 0) rfl
      have t1 := h3.cell 6 rfl (o := 1) rfl
      replace hF := hF w3 s' h3
      clear h3
      generalize w1.heap.size = bR at *
      generalize w.heap.size = bT at *
      go_wp2_with fail
      refine hF.mono ?_
      rintro e w4 ⟨K', R', T', S', rfl, hE, h4⟩
      clear hF t0 t1
      replace hEnd := hEnd _ _ _ _ hE
      replace h4 : Stage F0 W0 (fbF f c rp v n W s' T' S' ++ [A, B, Ob.box bT #[.int .i64 a, .int .i64 cc] 88, Ob.box bR #[.int .i64 0, .int .i64 0] 88]) w4 := h4
      generalize hCC2 : (R' i).length = cc2 at *
      replace hCC2 := Lib.hid hCC2
      obtain ⟨w5, hw5, h5⟩ : ∃ w5, (w4.setCell ⟨bT, 0, none⟩ (.int .i64 a)).setCell ⟨bT, 1, none⟩ (.int .i64 cc2) = w5 ∧ Stage F0 W0 (fbF f c rp v n W s' T' S' ++ [A, B, Ob.box bT #[.int .i64 a, .int .i64 cc2] 88, Ob.box bR #[.int .i64 0, .int .i64 0] 88]) w5 := ⟨_, rfl, (h4.store 6 rfl 0 (.int .i64 a)).store 6 rfl 1 (.int .i64 cc2)⟩
      have f0 := h4.free 6 rfl 0
      have f1 := h4.free 6 rfl 1
      have k0 := h4.cell 6 rfl (o := 0) rfl
      have k1 := h4.cell 6 rfl (o := 1) rfl
      have hl := h4.lt 6 rfl
      have t0 := h5.cell 6 rfl (o := 0) rfl
      replace hO := hO _ _ _ _ _ h5
      clear hE h4 h5
      go_wp2_with fail
      refine hO.mono ?_
      rintro e w6 ⟨s2, rfl, hs2, h6⟩
      replace h6 : Stage F0 W0 (fbF f c rp v n W s2 T' S' ++ [A, B, Ob.box bT #[.int .i64 a, .int .i64 cc2] 88, Ob.box bR #[.int .i64 0, .int .i64 0] 88]) w6 := h6
      clear hO hw5 f0 f1 k0 k1 hl t0
      obtain ⟨w7, hw7, h7⟩ : ∃ w7, w6.setCell ⟨bT, 0, none⟩ (.int .i64 z) = w7 ∧ Stage F0 W0 (fbF f c rp v n W s2 T' S' ++ [A, B, Ob.box bT #[.int .i64 z, .int .i64 cc2] 88, Ob.box bR #[.int .i64 0, .int .i64 0] 88]) w7 := ⟨_, rfl, h6.store 6 rfl 0 (.int .i64 z)⟩
      have f0 := h6.free 6 rfl 0
      have k0 := h6.cell 6 rfl (o := 0) rfl
      have hl := h6.lt 6 rfl
      have t0 := h7.cell 6 rfl (o := 0) rfl
      have t1 := h7.cell 6 rfl (o := 1) rfl
      have g0 := h7.free 7 rfl 0
      have g1 := h7.free 7 rfl 1
      have r0 := h7.cell 7 rfl (o := 0) rfl
      have r1 := h7.cell 7 rfl (o := 1) rfl
      have hl2 := h7.lt 7 rfl
      have hs4 := (h7.store 7 rfl 0 (.int .i64 z)).store 7 rfl 1 (.int .i64 cc2)
      have z0 := hs4.cell 7 rfl (o := 0) rfl
      have z1 := hs4.cell 7 rfl (o := 1) rfl
      have hfin := hs4.take 6
      have hr : s ≤ s2 ∧ s2 ≤ s + 2 := by omega
      clear h6 h7 hs4
      go_wp2_with fail
      exact bodyPost_ret (v := .agg #[.int .i64 z, .int .i64 cc2]) (by simp [results, Try.results126, go_sem, z0, z1]) rfl ⟨K', R', T', S', z, s2, by rw [hCC2.out], hEnd, hr, hfin⟩
end
end Go.Proofs.Ytcjjglaimfhofaa
