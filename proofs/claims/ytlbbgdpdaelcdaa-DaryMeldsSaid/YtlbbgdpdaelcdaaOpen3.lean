/- Merged of DaryWalks2, Open3. -/
import Derived.Test.YtlbbgdpdaelcdaaDaryWalks
import Derived.Test.YtlbbgdpdaelcdaaOpen2
namespace Go.Proofs.Ytlbbgdpdaelcdaa
open Go.RowKit Go.Sort

set_option maxRecDepth 100000 in
set_option maxHeartbeats 4000000 in
theorem dsorts_walk (d : Int) (L : List Int) (a0 : Option Addr) (cap : Nat) (hcap : L.length ≤ cap ∧ cap ≤ 9223372036854775807) (w : World) (hkey : IntsAt w .i64 a0 L) :
    Calls Try.prog 6 #[.int .i64 d, .slice a0 L.length cap] w fun e w' => e = .returned (.bool true) ∧ Below w.heap.size w w' := by
  by_cases h200 : (200 : Int) < L.length
  · clear hkey
    generalize L.length = n at *
    go_enter Try.func6, Try.ntmps6
    go_wp2_with fail
    refine (dalive_any w).mono ?_
    rintro e w1 ⟨rfl, hb⟩
    go_wp2_with fail
    go_ret
    exact ⟨rfl, hb⟩
  · cases hr : rightD d
    · have hR := fun w1 => right_any L.length d w1
      rw [rightN_deg (by omega) hr] at hR
      clear hkey
      generalize L.length = n at *
      go_enter Try.func6, Try.ntmps6
      go_wp2_with fail
      refine (dalive_any w).mono ?_
      rintro e w1 ⟨rfl, hb⟩
      go_wp2_with fail
      refine (hR w1).mono ?_
      rintro e w2 ⟨rfl, rfl⟩
      go_wp2_with fail
      go_ret
      exact ⟨rfl, hb⟩
    · have hR := fun w1 => right_any L.length d w1
      rw [rightN_yes (by omega) hr] at hR
      obtain ⟨h1, h2⟩ := rightD_iff.1 hr
      obtain ⟨dn, rfl⟩ : ∃ dn : Nat, d = dn := ⟨d.toNat, by omega⟩
      have hd : 2 ≤ dn ∧ dn ≤ 16 := by omega
      have h1i : inInt 1 := ⟨by omega, by omega⟩
      clear hr h1 h2
      have hS : ∀ p c w2 (hs : Stage (fun _ => False) w [Ob.dary p c dn (newW L.length) 0] w2), _ := fun p c w2 hs => sorts_one (sorts_any (dary_nests p c dn hd) L (by omega) a0 cap hcap hkey hs)
      obtain ⟨key, hke⟩ : ∃ key : Nat → Int, key = fun i => L.getD i 0 := ⟨_, rfl⟩
      have hK : ∀ i, i < L.length → ∃ b off, a0 = some ⟨b, off, none⟩ ∧ w.cell? ⟨b, off + i, none⟩ = some (.int .i64 (key i)) := fun i hi => by rw [hke]; exact hkey i hi
      clear hkey hke
      generalize L.length = n at *
      obtain ⟨hcap1, hcap2⟩ := hcap
      have hP := new_pinv n (fun _ => 1) key 0
      obtain ⟨hP1, e1⟩ := pinv_make hP (by simp)
      replace hP1 : PInv [false, true] (fun _ => 1) key 0 n 0 (makeW (newW n)) := hP1
      have e1' : madeW (newW n) = 1 := e1
      clear hP e1
      go_enter Try.func6, Try.ntmps6
      go_wp2_with fail
      refine (dalive_any w).mono ?_
      rintro e w1 ⟨rfl, hb⟩
      go_wp2_with fail
      refine (hR w1).mono ?_
      rintro e w2 ⟨rfl, rfl⟩
      clear hR
      go_wp2_with fail
      refine (dopen_st n dn (by omega) hd ((Stage.start w).later hb)).mono ?_
      rintro e w2 ⟨p, c, rfl, hs⟩
      go_wp2_with fail
      refine (dopen_st n dn (by omega) hd hs).mono ?_
      rintro e w3 ⟨p2, c2, rfl, hs2⟩
      clear hs
      replace hs2 : Stage (fun _ => False) w [Ob.dary p c dn (newW n) 0, Ob.dary p2 c2 dn (newW n) 0] w3 := hs2
      have N := dary_nests p2 c2 dn hd
      have hM : Calls Try.prog 20 #[ptrV c2] w3 fun e w' => e = .returned (.int .i64 1) ∧ ∃ s' : Int, (∀ y x, daryR dn (newW n) 0 y x 0 s') ∧ Stage (fun _ => False) w [Ob.dary p c dn (newW n) 0, Ob.dary p2 c2 dn (makeW (newW n)) s'] w' := by
        have := hs2.callEx 1 rfl (fun _ ho => N.make ho)
        rw [e1'] at this
        exact this
      have p0 := (hs2.get (i := 1) rfl).elim fun _ ho => dary_there ho
      unfold daryH at p0
      go_wp2_with fail
      refine hM.mono ?_
      rintro e w4 ⟨rfl, s1, _, hs3⟩
      clear hM hs2 p0 e1'
      have hl0 := pinv_none hP1 1
      generalize makeW (newW n) = W1 at *
      go_wp2_with fail
      go_loopw [53] (fun i wr => ∃ (k : Nat) (W : WS) (s : Int), k ≤ n ∧ i = .int .i64 k ∧ PInv [false, true] (fun _ => 1) key 0 n k W ∧ lenW W 1 = k ∧ Stage (fun _ => False) w [Ob.dary p c dn (newW n) 0, Ob.dary p2 c2 dn W s] wr) (fun i _ => n - (intOf i).toNat)
      case atStart => exact ⟨0, W1, s1, Nat.zero_le _, rfl, hP1, hl0, hs3⟩
      case round =>
        clear hs3 hP1 hl0
        obtain ⟨k, W, s, hk, rfl, hP, hl, hs⟩ := hrel
        by_cases hlt : k < n
        · have hki : (k : Int) < n := by omega
          obtain ⟨ba, offa, rfl, u0⟩ := hK k hlt
          replace u0 := later hs.below u0
          obtain ⟨q1, hP2, hl2⟩ := pinv_put hP hlt (pinv_has hP 1 (by omega) (by simp) rfl) (Nat.le_refl _)
          have hI := hs.callEx 1 rfl (fun _ ho => N.ins 1 k (key k) 0 h1i ⟨by omega, by omega⟩ ho)
          have q1' : putB W 1 k = true := q1
          rw [q1'] at hI
          have hl3 := hl2 1
          rw [if_pos (show (1 : Int) = ((1 : Nat) : Int) from rfl)] at hl3
          have e1 : putW W 1 k (key k) 0 = putW W (((fun _ => 1 : Nat → Nat) k : Nat) : Int) k (key k) 0 := rfl
          rw [← e1] at hP2 hl3
          replace hI : Calls Try.prog 21 #[ptrV p2, .int .i64 1, .int .i64 k, .agg #[.int .i64 (key k), .int .u64 0]] wr fun e w' => e = .returned (.bool true) ∧ ∃ s' : Int, daryR dn W 1 1 k s s' ∧ Stage (fun _ => False) w [Ob.dary p c dn (newW n) 0, Ob.dary p2 c2 dn (putW W 1 k (key k) 0) s'] w' := hI
          generalize putW W 1 k (key k) 0 = W2 at *
          clear q1 q1' hl2 e1 hS
          generalize key k = kk at *
          go_wp2_with fail
          clear u0 hs hP
          refine hI.mono ?_
          rintro e w5 ⟨rfl, s5, _, hs⟩
          clear hI
          have q2 : lenW W2 1 = k + 1 := by omega
          have hD := hs.askB 1 rfl (fun _ ho => depth_da 1 h1i ho)
          rw [q2] at hD
          replace hD : Calls Try.prog 14 #[.pointer (some ⟨p2, 0, none⟩), .int .i64 1] w5 fun e w' => e = .returned (.int .i64 (depthD dn ((k + 1 : Nat) : Int))) ∧ Stage (fun _ => False) w [Ob.dary p c dn (newW n) 0, Ob.dary p2 c2 dn W2 s5] w' := hD
          have e3 : IntKind.i64.wrap ((k : Int) + 1) = ((k + 1 : Nat) : Int) := IntWalk.i64_in _ (by omega)
          have hF := fun w1 => refdepth_c dn ((k + 1 : Nat) : Int) w1
          generalize depthD dn ((k + 1 : Nat) : Int) = D at *
          go_wp2_with fail
          refine hD.mono ?_
          rintro e w6 ⟨rfl, hs6⟩
          clear hD hs
          go_wp2_with fail
          refine (hF w6).mono ?_
          rintro e w7 ⟨rfl, rfl⟩
          go_wp2_with fail
          go_roundw
          case rel => exact ⟨k + 1, W2, s5, by omega, by go_num, hP2, q2, hs6⟩
          case measure => simp [intOf]; omega
        · have hki : ¬ (k : Int) < n := by omega
          have hX := hS p c wr (hs.take 1)
          go_wp2_with fail
          refine hX.mono ?_
          rintro e w5 ⟨rfl, hb5⟩
          go_wp2_with fail
          go_ret
          exact ⟨rfl, hb5⟩
set_option maxRecDepth 100000 in
theorem dmelds_walk (d : Int) (L : List Int) (a0 : Option Addr) (cap : Nat) (hcap : L.length ≤ cap ∧ cap ≤ 9223372036854775807) (hmin : ∀ n ∈ L, -9223372036854775808 ≤ n) (B : List Bool) (a1 : Option Addr) (cap1 : Nat) (hcap' : B.length ≤ cap1 ∧ cap1 ≤ 9223372036854775807) (low gone : Int) (hlow : inInt low) (hgone : inInt gone) (w : World) (hkey : IntsAt w .i64 a0 L) (hbool : BoolsAt w a1 B) :
    Calls Try.prog 7 #[.int .i64 d, .slice a0 L.length cap, .agg #[.slice a1 B.length cap1, .int .i64 low, .int .i64 gone]] w fun e w' => e = .returned (.bool true) ∧ Below w.heap.size w w' := by
  obtain ⟨w0, hw0, hs0⟩ : ∃ w0, w.alloc (.cells #[.slice a1 B.length cap1, .int .i64 low, .int .i64 gone] 60) = w0 ∧ Stage (fun _ => False) w [Ob.box w.heap.size #[.slice a1 B.length cap1, .int .i64 low, .int .i64 gone] 60] w0 := ⟨_, rfl, (Stage.start w).alloc _ _⟩
  by_cases h200 : (200 : Int) < L.length
  · clear hkey hbool hmin
    generalize L.length = n at *
    generalize B.length = m at *
    go_enter Try.func7, Try.ntmps7
    go_wp2_with fail
    refine (dalive_any w0).mono ?_
    rintro e w1 ⟨rfl, hb⟩
    clear hw0
    go_wp2_with fail
    go_ret
    exact ⟨rfl, (hs0.later hb).below⟩
  · cases hr : rightD d
    · have hR := fun w1 => right_any L.length d w1
      rw [rightN_deg (by omega) hr] at hR
      clear hkey hbool hmin
      generalize L.length = n at *
      generalize B.length = m at *
      go_enter Try.func7, Try.ntmps7
      go_wp2_with fail
      refine (dalive_any w0).mono ?_
      rintro e w1 ⟨rfl, hb⟩
      clear hw0
      go_wp2_with fail
      refine (hR w1).mono ?_
      rintro e w2 ⟨rfl, rfl⟩
      go_wp2_with fail
      go_ret
      exact ⟨rfl, (hs0.later hb).below⟩
    · have hR := fun w1 => right_any L.length d w1
      rw [rightN_yes (by omega) hr] at hR
      obtain ⟨h1, h2⟩ := rightD_iff.1 hr
      obtain ⟨dn, rfl⟩ : ∃ dn : Nat, d = dn := ⟨d.toNat, by omega⟩
      have hd : 2 ≤ dn ∧ dn ≤ 16 := by omega
      clear hr h1 h2
      have hN := fun w1 (hb : Below w0.heap.size w0 w1) => dopen_st L.length dn (by omega) hd (hs0.later hb)
      have hS := fun p c w2 (hs : Stage (fun _ => False) w [Ob.dary p c dn (newW L.length) 0] w2) => halves_num (dary_nests p c dn hd) L (by omega) a0 cap hcap hmin B a1 cap1 hcap' low gone hlow hgone hkey hbool hs
      clear hkey hbool hmin hs0
      generalize L.length = n at *
      generalize B.length = m at *
      go_enter Try.func7, Try.ntmps7
      go_wp2_with fail
      refine (dalive_any w0).mono ?_
      rintro e w1 ⟨rfl, hb⟩
      clear hw0
      go_wp2_with fail
      refine (hR w1).mono ?_
      rintro e w2 ⟨rfl, rfl⟩
      clear hR
      go_wp2_with fail
      refine (hN w1 hb).mono ?_
      rintro e w2 ⟨p, c, rfl, hs⟩
      have hX := hS p c w2 (hs.select [1] (by decide) rfl)
      have c0 := hs.cell 0 rfl (o := 0) rfl
      have c1 := hs.cell 0 rfl (o := 1) rfl
      have c2 := hs.cell 0 rfl (o := 2) rfl
      clear hN hS
      go_wp2_with fail
      refine hX.mono ?_
      rintro e w3 ⟨rfl, hb3⟩
      go_wp2_with fail
      go_ret
      exact ⟨rfl, hb3⟩
end Go.Proofs.Ytlbbgdpdaelcdaa

namespace Go.Proofs.Ytlbbgdpdaelcdaa
open Go.RowKit Go.WideShapes Go.ChangeShapes Go.Deep

section
variable {H : Type} {enc : TypeId × Value → H} {P : Program} {w : World} {base : Nat} {held : Bool} {r : Reach} {b0 : Nat}
theorem open_bag' {t e : TypeId} {f0 f1 f2 : Field} {k1 k2 : IntKind} {v : Value} {d : DataW H} {p : List MemPlace} (hs : P.underlying t = some (.struct #[f0, f1, f2]))
    (h0 : P.underlying f0.type = some (.slice e)) (p0 : f0.offset = 0 ∧ P.cellsOf f0.type = 1) (he : P.underlying e = some .bool) (hc : P.cellsOf e = 1)
    (h1 : P.underlying f1.type = some (.int k1)) (p1 : f1.offset = 1 ∧ P.cellsOf f1.type = 1) (h2 : P.underlying f2.type = some (.int k2)) (p2 : f2.offset = 2 ∧ P.cellsOf f2.type = 1) (hC : P.cellsOf t = 3)
    (hv : Value.okWide P w r b0 t v) (h : DataW.Trod enc P w base (fun _ => true) held t v d p) :
    ∃ (a : Option Addr) (cap : Nat) (l : List Bool) (m n : Int), v = .agg #[.slice a l.length cap, .int k1 m, .int k2 n] ∧ l.length ≤ cap ∧ cap ≤ 9223372036854775807 ∧ (k1.min ≤ m ∧ m ≤ k1.max) ∧ (k2.min ≤ n ∧ n ≤ k2.max) ∧
      ∀ k, k < l.length → ∃ b off, a = some ⟨b, off, none⟩ ∧ w.cell? ⟨b, off + k, none⟩ = some (.bool (l.getD k false)) := by
  obtain ⟨cs, rfl, hsz⟩ := okWide_struct hs hv
  rw [hC] at hsz
  obtain ⟨fuel, hf⟩ := h
  rcases cs with ⟨l⟩
  match l, hsz with
  | [v0, v1, v2], _ =>
    obtain ⟨ys, n', _, _, _, hyl, hff⟩ := DataW.trod_struct hs hf
    have e0 := hff 0 f0 rfl
    have e1 := hff 1 f1 rfl
    have e2 := hff 2 f2 rfl
    rw [p0.1, p0.2] at e0
    rw [p1.1, p1.2] at e1
    rw [p2.1, p2.2] at e2
    match ys, hyl with
    | [y0, y1, y2], _ =>
      simp only [Value.cells, List.drop_zero, List.take_succ_cons, List.take_zero, List.drop_succ_cons, List.getElem?_cons_zero, List.getElem?_cons_succ] at e0 e1 e2
      obtain ⟨m, em, _, wm⟩ := DataW.trod_int h1 e1
      obtain ⟨n, en, _, wn⟩ := DataW.trod_int h2 e2
      simp only [List.cons.injEq, and_true] at em en
      subst em en
      simp [Lit.wf] at wm wn
      rcases open_bools h0 he hc e0 with ⟨hcs, _⟩ | ⟨a, len, cap, B, hcs, _, hl, hm, _, hcell⟩
      · simp only [List.cons.injEq, and_true] at hcs
        subst hcs
        exact ⟨none, 0, [], m, n, rfl, Nat.le_refl _, by omega, wm, wn, fun i hi => by simp at hi⟩
      · simp only [List.cons.injEq, and_true] at hcs
        subst hcs
        have hlen : ((List.range len).map B).length = len := by simp
        refine ⟨some a, cap, (List.range len).map B, m, n, by rw [hlen], by rw [hlen]; exact hl, by unfold maxLen at hm; omega, wm, wn, fun i hi => ?_⟩
        rw [hlen] at hi
        have h := hcell i (by omega)
        obtain ⟨b, off, spot⟩ := a
        have hspot : spot = none := by simpa [Addr.add] using World.cell?_spot (hcell 0 (by omega))
        subst hspot
        refine ⟨b, off, rfl, ?_⟩
        rw [add_plain] at h
        rw [h]
        simp [List.getD, hi]
end
end Go.Proofs.Ytlbbgdpdaelcdaa
