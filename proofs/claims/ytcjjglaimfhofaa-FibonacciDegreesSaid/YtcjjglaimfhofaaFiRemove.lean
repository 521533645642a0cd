/- Merged of FiSplit, FiRemove. -/
import Derived.Test.YtcjjglaimfhofaaFiPlace
import Derived.Test.YtcjjglaimfhofaaFiRaise
import Derived.Test.YtcjjglaimfhofaaFiNestMath
namespace Go.Proofs.Ytcjjglaimfhofaa
open Go.RowKit Go.Sort

section
variable {F0 : Nat → Prop} {W0 w : World} {f c rp n : Nat} {v : Value} {W : WS} {s : Int} {T : Int → Node} {S : RSt} {A B C D : Ob} {K : Int → List Int} {R : Nat → List Int}
set_option maxHeartbeats 1000000 in
theorem split_fb (h : Stage F0 W0 (fbF f c rp v n W s T S ++ [A, B, C, D]) w) (H : FTied n K R T S) (I : FbInv n K) (hR : FRoots n K R) {i : Nat} {x : Int} (hx : x ∈ R i) :
    Calls Try.prog 85 #[.pointer (some ⟨f, 0, none⟩), .int .i64 x] w fun e w' => e = .returned (.tuple #[]) ∧ ∃ T' S', FTied n (fbHang K x []) (updR R i (R i ++ K x)) T' S' ∧ (∀ y, (T' y).lost = if y = x then false else (T y).lost) ∧ Stage F0 W0 (fbF f c rp v n W s T' S' ++ [A, B, C, D]) w' := by
  obtain ⟨⟨hx0, hxn⟩, tx⟩ := hR.is i x hx
  obtain ⟨x, rfl⟩ : ∃ i : Nat, x = i := ⟨x.toNat, by omega⟩
  have hxn' : x < n := by omega
  obtain ⟨g, k, rfl, h1, h2, hgf, hc, hf⟩ := nf_row h (by omega)
  have c1 := nf_c1 h
  have c2 := nf_c2 h
  obtain ⟨_, u1, _, _⟩ := hc x hxn'
  obtain ⟨kd, hkd⟩ : ∃ kd, (T x).kid = kd := ⟨_, rfl⟩
  rw [hkd] at u1
  -- the children, as the ring has them
  have hl : ∀ y, y ∈ allR S.R kd ↔ y ∈ K x := fun y => by
    rcases H.kid x ⟨hx0, hxn⟩ with ⟨e0, ek⟩ | ek
    · rw [← hkd, ek, H.good.none (x := -1) (by simp [inR]), e0]
    · rw [← hkd]; exact (H.rk x _ ek).mem_iff
  have hrng : ∀ y ∈ allR S.R kd, inB n y := fun y hy => (I.rng x y ((hl y).1 hy)).2
  have hfew : (allR S.R kd).length ≤ n := by
    rcases H.kid x ⟨hx0, hxn⟩ with ⟨e0, ek⟩ | ek
    · rw [← hkd, ek, H.good.none (x := -1) (by simp [inR])]; exact Nat.zero_le _
    · have hki := (I.rng x _ ek).2
      rw [hkd] at hki
      exact (all_few H.good.inv hki).2
  have hn6 := H.good.few
  have hxk : (x : Int) ∉ K x := fun h => fb_self I h rfl
  -- so far loosened
  obtain ⟨Tj, hTj⟩ : ∃ Tj : Nat → Int → Node, Tj = fun j y => ⟨if y ∈ (allR S.R kd).take j then -1 else (T y).up, (T y).kid, (T y).deg, (T y).lost⟩ := ⟨_, rfl⟩
  have hT0 : T = Tj 0 := by
    rw [hTj]; funext y; simp
  have hTn : ∀ j, j < (allR S.R kd).length → setN (Tj j) ((allR S.R kd).getD j 0) ⟨-1, (Tj j ((allR S.R kd).getD j 0)).kid, (Tj j ((allR S.R kd).getD j 0)).deg, (Tj j ((allR S.R kd).getD j 0)).lost⟩ = Tj (j + 1) := fun j hj => by
    rw [hTj]; funext y
    have e : y ∈ (allR S.R kd).take (j + 1) ↔ y ∈ (allR S.R kd).take j ∨ y = (allR S.R kd).getD j 0 := by rw [take_snocD 0 _ _ hj]; simp
    generalize (allR S.R kd).getD j 0 = z at *
    simp only [setN, e]
    by_cases h1 : y = z
    · subst h1; simp
    · simp [h1]
  have hTe := fun T' hu hk hd => H.split (T' := T') I hR hx (List.Perm.refl _) hu hk hd
  rw [hkd] at hTe
  have hTx : (Tj (allR S.R kd).length x).up = -1 := by
    rw [hTj]
    show (if (x : Int) ∈ (allR S.R kd).take (allR S.R kd).length then -1 else (T x).up) = -1
    rw [List.take_length, if_neg (fun h => hxk ((hl _).1 h))]
    exact H.top x ⟨hx0, hxn⟩ tx
  have hTee : ∀ y, (Tj (allR S.R kd).length y).up = (if y ∈ K x then -1 else (T y).up) ∧ (Tj (allR S.R kd).length y).kid = (T y).kid ∧ (Tj (allR S.R kd).length y).deg = (T y).deg ∧ (Tj (allR S.R kd).length y).lost = (T y).lost := fun y => by
    rw [hTj]
    refine ⟨?_, rfl, rfl, rfl⟩
    show (if y ∈ (allR S.R kd).take (allR S.R kd).length then -1 else (T y).up) = _
    rw [List.take_length]
    by_cases e : y ∈ K x
    · rw [if_pos e, if_pos ((hl y).2 e)]
    · rw [if_neg e, if_neg (fun h => e ((hl y).1 h))]
  rw [hT0] at h
  have hAll := h.newInts (h.get (i := 3) rfl |>.elim fun _ ho => rg_all H.good kd ho)
  have hB := H.good.back
  clear hTj H I hR hc hf hkd hl tx hx hxk
  generalize allR S.R kd = L at *
  clear hT0 h
  go_enter Try.func85, Try.ntmps85
  go_wp2_with fail
  refine hAll.mono ?_
  rintro e w1 ⟨vs, rfl, hs⟩
  clear hAll c1 c2 u1
  obtain ⟨a', c', rfl, hv1, hv2⟩ := hs.intsForm 8 rfl
  go_wp2_with fail
  go_loopw [6, 22] (fun _ i wr => ∃ j : Nat, j ≤ L.length ∧ i = .int .i64 j ∧ Stage F0 W0 (fbF f c rp (.slice (some ⟨g, 0, none⟩) n k) n W s (Tj j) S ++ [A, B, C, D, Ob.ints (.slice a' L.length c') L]) wr) (fun _ i _ => L.length - (intOf i).toNat)
  case atStart => exact ⟨0, Nat.zero_le _, rfl, hs⟩
  case round =>
    clear hs
    obtain ⟨j, hj, rfl, hs⟩ := hrel
    by_cases hlt : j < L.length
    · obtain ⟨gr, cr, e, _, _, hgr, hcr, _⟩ := hs.intsAt 8 rfl (by omega)
      cases e
      have ux := hcr j hlt
      have hT := hTn j hlt
      obtain ⟨y, hy⟩ : ∃ y : Nat, L.getD j 0 = y := ⟨(L.getD j 0).toNat, by have := (hrng _ (mem_getD' L j 0 hlt)).1; omega⟩
      have hyn : y < n := by have := (hrng _ (mem_getD' L j 0 hlt)).2; omega
      rw [hy] at ux hT
      obtain ⟨g', k', e, _, _, _, hc, hf⟩ := nf_row (q := [A, B, C, D, Ob.ints (.slice (some ⟨gr, 0, none⟩) L.length c') L]) hs (by omega)
      cases e
      have c2 := nf_c2 (q := [A, B, C, D, Ob.ints (.slice (some ⟨gr, 0, none⟩) L.length c') L]) hs
      obtain ⟨u0, _, _, _⟩ := hc y hyn
      have f0 := hf (y * 4)
      have hs2 := nf_up (q := [A, B, C, D, Ob.ints (.slice (some ⟨gr, 0, none⟩) L.length c') L]) hs hyn (-1)
      rw [hT] at hs2
      have hji : (j : Int) < L.length := by omega
      clear hTn hTe hTee hTx hcr hs hT hy hrng hc hf
      generalize L.length = m at *
      go_wp2_with fail
      go_roundw
      case rel => exact ⟨j + 1, by omega, by go_num, hs2⟩
      case measure => simp [intOf]; omega
    · obtain rfl : j = L.length := by omega
      clear hTn hrng hlt hj
      have hS := hs.call 3 rfl (fun _ ho => rg_splice hB x kd ho)
      have c1 := nf_c1 (q := [A, B, C, D, Ob.ints (.slice a' L.length c') L]) hs
      generalize L.length = m at *
      generalize Tj m = T1 at *
      generalize spliceS n S x kd = S2 at *
      go_wp2_with fail
      refine hS.mono ?_
      rintro e w2 ⟨rfl, h4⟩
      replace h4 : Stage F0 W0 (fbF f c rp (.slice (some ⟨g, 0, none⟩) n k) n W s T1 S2 ++ [A, B, C, D, Ob.ints (.slice a' m c') L]) w2 := h4
      clear hS c1 hs
      obtain ⟨g', k', e, _, _, _, hc, hf⟩ := nf_row h4 (by omega)
      cases e
      have c2 := nf_c2 h4
      obtain ⟨v0, v1, v2, v3⟩ := hc x hxn'
      have f0 := hf (x * 4)
      have f1 := hf (x * 4 + 1)
      have f2 := hf (x * 4 + 2)
      have f3 := hf (x * 4 + 3)
      have h5 := nf_lost (nf_deg (nf_kid (nf_up h4 hxn' (-1)) hxn' (-1)) hxn' 0) hxn' false
      have hTT := hTe (setN (setN (setN (setN T1 x ⟨-1, (T1 x).kid, (T1 x).deg, (T1 x).lost⟩) x ⟨-1, -1, (T1 x).deg, (T1 x).lost⟩) x ⟨-1, -1, 0, (T1 x).lost⟩) x ⟨-1, -1, 0, false⟩)
        (fun y => by obtain ⟨e1, _, _, _⟩ := hTee y; simp only [setN]; split <;> first | (rename_i e; subst e; rw [← e1, hTx]; done) | exact e1) (fun y => by obtain ⟨_, e1, _, _⟩ := hTee y; simp only [setN]; split <;> first | rfl | exact e1) (fun y => by obtain ⟨_, _, e1, _⟩ := hTee y; simp only [setN]; split <;> first | rfl | exact e1)
      have hL : ∀ y, ((setN (setN (setN (setN T1 x ⟨-1, (T1 x).kid, (T1 x).deg, (T1 x).lost⟩) x ⟨-1, -1, (T1 x).deg, (T1 x).lost⟩) x ⟨-1, -1, 0, (T1 x).lost⟩) x ⟨-1, -1, 0, false⟩) y).lost = if y = x then false else (T y).lost := fun y => by obtain ⟨_, _, _, e1⟩ := hTee y; simp only [setN]; split <;> first | rfl | exact e1
      simp only [setN_at] at h5
      clear hc hf h4 hTe hTee hTx
      go_wp2_with fail
      go_end0
      exact ⟨rfl, _, _, hTT, hL, h5.take 8⟩
end
end Go.Proofs.Ytcjjglaimfhofaa

namespace Go.Proofs.Ytcjjglaimfhofaa
open Go.RowKit Go.Sort

def RemPost (F0 : Nat → Prop) (W0 : World) (f c rp : Nat) (v : Value) (n : Nat) (W : WS) (s : Int) (A B : Ob) (i : Nat) (a x : Int) (R0 : Nat → List Int) (K0 : Int → List Int) (P0 : Nat) (e : Ending) (w' : World) : Prop :=
  ∃ z K' R' T' S' s', e = .returned (trV z (R' i).length) ∧ RemEnd n W i a x R0 K0 P0 s s' K' R' T' S' z ∧ Stage F0 W0 (fbF f c rp v n W s' T' S' ++ [A, B]) w'
section
variable {F0 : Nat → Prop} {W0 w : World} {f c rp n : Nat} {v : Value} {W : WS} {s : Int} {T : Int → Node} {S : RSt} {A B : Ob} {K : Int → List Int} {R : Nat → List Int}
set_option maxRecDepth 100000 in
set_option maxHeartbeats 4000000 in
theorem remove_fb (h : Stage F0 W0 (fbF f c rp v n W s T S ++ [A, B]) w) {i : Nat} {a : Int} {x : Nat} {P0 : Nat} (J : FreeJ n W i a x R K P0 K R T S x) :
    Calls Try.prog 72 #[.pointer (some ⟨f, 0, none⟩), trV a (R i).length, .int .i64 x] w (RemPost F0 W0 f c rp v n W s A B i a x R K P0) := by
  obtain ⟨w1, hw1, h1⟩ : ∃ w1, w.alloc (.cells #[.int .i64 a, .int .i64 (R i).length] 88) = w1 ∧ Stage F0 W0 (fbF f c rp v n W s T S ++ [A, B, Ob.box w.heap.size #[.int .i64 a, .int .i64 (R i).length] 88]) w1 := ⟨_, rfl, h.alloc _ _⟩
  obtain ⟨w2, hw2, h2⟩ : ∃ w2, w1.alloc (.cells #[.int .i64 0, .int .i64 0] 88) = w2 ∧ Stage F0 W0 (fbF f c rp v n W s T S ++ [A, B, Ob.box w.heap.size #[.int .i64 a, .int .i64 (R i).length] 88, Ob.box w1.heap.size #[.int .i64 0, .int .i64 0] 88]) w2 := ⟨_, rfl, h1.alloc _ _⟩
  clear h h1
  have hn6 := J.tied.good.few
  have hxin : inB n x := J.len ▸ prin_slot J.inw
  have hxn : x < n := by have := hxin.2; omega
  have hhm := J.home
  have hxw := J.inw
  obtain ⟨g, k, rfl, hk1, hk2, hgf, _, _⟩ := nf_row h2 (by omega)
  have t0 := h2.cell 6 rfl (o := 0) rfl
  have t1 := h2.cell 6 rfl (o := 1) rfl
  have hF := free_fb h2 J
  unfold trV at hF ⊢
  clear h2 J
  generalize (R i).length = cc at *
  go_enter Try.func72, Try.ntmps72
  go_wp2_with fail
  generalize w1.heap.size = bR at *
  generalize w.heap.size = bT at *
  refine hF.mono ?_
  rintro e w3 ⟨K1, R1, T1, S1, rfl, hE, h3⟩
  clear hF t0 t1 hw1 hw2
  replace h3 : Stage F0 W0 (fbF f c rp (.slice (some ⟨g, 0, none⟩) n k) n W s T1 S1 ++ [A, B, Ob.box bT #[.int .i64 a, .int .i64 cc] 88, Ob.box bR #[.int .i64 0, .int .i64 0] 88]) w3 := h3
  have hro := hE.mid.roots
  have I := hE.mid.f.fb
  rw [hE.len] at hro I
  have hdeg := hE.tied.deg x hxin
  have hKn : (K1 x).length ≤ n := nodup_below n _ (I.nodup x) fun y hy => (I.rng x y hy).2
  have hRn : (R1 i).length ≤ n := by
    have := hE.mid.rfew i
    rwa [hE.len] at this
  have hR0 : 0 < (R1 i).length := List.length_pos_of_mem hE.at0
  have hb : ∀ b, (slotsW W i).length < 2 ^ b → (K1 x).length ≤ 2 * b := fun b h => by
    obtain ⟨had, D⟩ := hE.deg
    exact D.home hE.mid.f hxw hhm h
  obtain ⟨w4, hw4, h4⟩ : ∃ w4, (w3.setCell ⟨bT, 0, none⟩ (.int .i64 a)).setCell ⟨bT, 1, none⟩ (.int .i64 (R1 i).length) = w4 ∧ Stage F0 W0 (fbF f c rp (.slice (some ⟨g, 0, none⟩) n k) n W s T1 S1 ++ [A, B, Ob.box bT #[.int .i64 a, .int .i64 (R1 i).length] 88, Ob.box bR #[.int .i64 0, .int .i64 0] 88]) w4 := ⟨_, rfl, (h3.store 6 rfl 0 (.int .i64 a)).store 6 rfl 1 (.int .i64 (R1 i).length)⟩
  have f0 := h3.free 6 rfl 0
  have f1 := h3.free 6 rfl 1
  have q0 := h3.cell 6 rfl (o := 0) rfl
  have q1 := h3.cell 6 rfl (o := 1) rfl
  have hl := h3.lt 6 rfl
  obtain ⟨g', k', e, _, _, _, hc, hf⟩ := nf_row (q := [A, B, Ob.box bT #[.int .i64 a, .int .i64 (R1 i).length] 88, Ob.box bR #[.int .i64 0, .int .i64 0] 88]) h4 (by omega)
  cases e
  obtain ⟨_, _, u2, _⟩ := hc x hxn
  rw [hdeg] at u2
  have c2 : w4.cell? ⟨f, 2, none⟩ = some (.slice (some ⟨g, 0, none⟩) n k) := h4.cell 0 rfl rfl
  have t1 := h4.cell 6 rfl (o := 1) rfl
  have g1 := h4.free 6 rfl 1
  have hw : IntKind.i64.wrap (((K1 x).length : Int) - 1) = ((K1 x).length : Int) - 1 := IntWalk.i64_in _ (by omega)
  have hwb : IntKind.i64.wrap (((R1 i).length : Int) + (((K1 x).length : Int) - 1)) = ((R1 i).length : Int) + (((K1 x).length : Int) - 1) := IntWalk.i64_in _ (by omega)
  have h5 : Stage F0 W0 (fbF f c rp (.slice (some ⟨g, 0, none⟩) n k) n W s T1 S1 ++ [A, B, Ob.box bT #[.int .i64 a, .int .i64 (((R1 i).length : Int) + (((K1 x).length : Int) - 1))] 88, Ob.box bR #[.int .i64 0, .int .i64 0] 88]) ((w4.setCell ⟨bT, 1, none⟩ (.int .i64 (((R1 i).length : Int) + (((K1 x).length : Int) - 1)))).drew) := (h4.store 6 rfl 1 (.int .i64 (((R1 i).length : Int) + (((K1 x).length : Int) - 1)))).drew
  have hSp := split_fb h5 hE.tied I hro hE.at0
  have hSplit := fun T' S' H hL => hE.split (T' := T') (S' := S') H hL
  clear h3 h4 hc hf hdeg hE hro I
  go_wp2_with fail
  go_region
  go_wp2_with fail
  refine hSp.mono ?_
  rintro e w5 ⟨rfl, T2, S2, H2, hL, h6⟩
  obtain ⟨M, hfirst, hlen, hnx, hpw⟩ := hSplit T2 S2 H2 hL
  have hcm : ((R1 i).length : Int) + (((K1 x).length : Int) - 1) = (((R1 i ++ K1 x).erase (x : Int)).length : Nat) := by omega
  rw [hcm] at h6
  clear hcm hSp hSplit hw hwb hl q0 q1 f0 f1 g1 t1 c2 u2 hw4 hL
  have hN := h6.ask 3 rfl (fun _ ho => rg_next x ho)
  have hP := h6.call 3 rfl (fun _ ho => rg_part H2.good x ho)
  have c1 : w5.cell? ⟨f, 1, none⟩ = some (.pointer (some ⟨rp, 0, none⟩)) := h6.cell 0 rfl rfl
  have hat : updR R1 i ((R1 i ++ K1 x).erase (x : Int)) i = (R1 i ++ K1 x).erase (x : Int) := updR_at _ _ _
  generalize partS n S2 x = S3 at *
  generalize nextI n S2 x = nx at *
  generalize inR n x = ix at *
  generalize updR R1 i ((R1 i ++ K1 x).erase (x : Int)) = R3 at *
  rw [← hat] at hfirst hnx hP hpw
  have hml : (R3 i).length ≤ n := by
    have := M.mid.rfew i
    rwa [M.len] at this
  clear hlen H2 hat h6
  generalize fbHang K1 x [] = K2 at *
  generalize hm : (R3 i).length = m at *
  go_wp2_with fail
  refine hN.mono ?_
  rintro e w6 ⟨rfl, rfl⟩
  go_wp2_with fail
  refine hP.mono ?_
  rintro e w6 ⟨rfl, h7⟩
  replace h7 : Stage F0 W0 (fbF f c rp (.slice (some ⟨g, 0, none⟩) n k) n W s T2 S3 ++ [A, B, Ob.box bT #[.int .i64 a, .int .i64 m] 88, Ob.box bR #[.int .i64 0, .int .i64 0] 88]) w6 := h7
  clear hN hP c1
  have t0 := h7.cell 6 rfl (o := 0) rfl
  have t1 := h7.cell 6 rfl (o := 1) rfl
  have f0 := h7.free 7 rfl 0
  have f1 := h7.free 7 rfl 1
  have r0 := h7.cell 7 rfl (o := 0) rfl
  have r1 := h7.cell 7 rfl (o := 1) rfl
  have hl := h7.lt 7 rfl
  by_cases hxa : (x : Int) = a
  · subst hxa
    by_cases hm0 : m = 0
    · subst hm0
      have h0 : R3 i = [] := List.eq_nil_of_length_eq_zero hm
      have hE := M.none rfl h0 s 0 hb hpw
      have hs4 := (h7.store 7 rfl 0 (.int .i64 0)).store 7 rfl 1 (.int .i64 0)
      have z0 := hs4.cell 7 rfl (o := 0) rfl
      have z1 := hs4.cell 7 rfl (o := 1) rfl
      have hfin : RemPost F0 W0 f c rp (.slice (some ⟨g, 0, none⟩) n k) n W s A B i x x R K P0 (.returned (.agg #[.int .i64 0, .int .i64 0])) _ := ⟨0, K2, R3, T2, S3, s, by (first | (rw [hm]; done) | (rw [hm]; rfl)), hE, hs4.take 6⟩
      clear h7 hs4 hE M hfirst hnx hb hpw
      go_wp2_with fail
      refine bodyPost_ret (v := .agg #[.int .i64 0, .int .i64 0]) (by simp [results, Try.results72, go_sem, z0, z1]) rfl ?_
      exact hfin
    · have hm1 : ((m : Int) == 0) = false := by rw [beq_eq_false_iff_ne]; omega
      have h0 : R3 i ≠ [] := fun e => hm0 (by rw [← hm, e]; rfl)
      have hG := gather_fb h7 (M.gath h0) (hnx h0)
      have hAll := fun Bl K' R' T' S' s' z J hB hs => M.all rfl (Bl := Bl) (K2 := K') (R2 := R') (T2 := T') (S2 := S') (s := s) (s' := s') (z := z) J hB hs hb hpw
      clear h7 f0 f1 r0 r1 hl M hfirst hnx hb hpw
      go_wp2_with fail
      refine hG.mono ?_
      rintro e w7 ⟨z, Bl, K', R', T', S', s', rfl, J', hB', hs', h8⟩
      clear hG
      have hE := hAll Bl K' R' T' S' s' z J' hB' hs'
      clear hAll J' hB' hs'
      replace h8 : Stage F0 W0 (fbF f c rp (.slice (some ⟨g, 0, none⟩) n k) n W s' T' S' ++ [A, B, Ob.box bT #[.int .i64 x, .int .i64 m] 88, Ob.box bR #[.int .i64 0, .int .i64 0] 88]) w7 := h8
      have f0 := h8.free 7 rfl 0
      have f1 := h8.free 7 rfl 1
      have r0 := h8.cell 7 rfl (o := 0) rfl
      have r1 := h8.cell 7 rfl (o := 1) rfl
      have hl := h8.lt 7 rfl
      have hs4 := (h8.store 7 rfl 0 (.int .i64 z)).store 7 rfl 1 (.int .i64 (R' i).length)
      have z0 := hs4.cell 7 rfl (o := 0) rfl
      have z1 := hs4.cell 7 rfl (o := 1) rfl
      have hfin : RemPost F0 W0 f c rp (.slice (some ⟨g, 0, none⟩) n k) n W s A B i x x R K P0 (.returned (.agg #[.int .i64 z, .int .i64 (R' i).length])) _ := ⟨z, K', R', T', S', s', rfl, hE, hs4.take 6⟩
      clear h8 hs4 hE
      generalize (R' i).length = m2 at *
      unfold trV
      go_wp2_with fail
      refine bodyPost_ret (v := .agg #[.int .i64 z, .int .i64 m2]) (by simp [results, Try.results72, go_sem, z0, z1]) rfl ?_
      exact hfin
  · have he : ((x : Int) == a) = false := by simpa using hxa
    have hne : ((x : Int) != a) = true := by simpa using hxa
    have hE := M.rest hxa (hfirst hxa) s hb hpw
    have hs4 := (h7.store 7 rfl 0 (.int .i64 a)).store 7 rfl 1 (.int .i64 m)
    have z0 := hs4.cell 7 rfl (o := 0) rfl
    have z1 := hs4.cell 7 rfl (o := 1) rfl
    have hfin : RemPost F0 W0 f c rp (.slice (some ⟨g, 0, none⟩) n k) n W s A B i a x R K P0 (.returned (.agg #[.int .i64 a, .int .i64 m])) _ := ⟨a, K2, R3, T2, S3, s, by (first | (rw [hm]; done) | (rw [hm]; rfl)), hE, hs4.take 6⟩
    clear h7 hs4 hE M hfirst hnx hb hpw
    go_wp2_with fail
    refine bodyPost_ret (v := .agg #[.int .i64 a, .int .i64 m]) (by simp [results, Try.results72, go_sem, z0, z1]) rfl ?_
    exact hfin
end
end Go.Proofs.Ytcjjglaimfhofaa
