/- Merged of NestWholes, SkewWhole. -/
import Derived.Test.YtehoejoeoaimjaaNestRuns
import Derived.Test.YtehoejoeoaimjaaSkewNests
namespace Go.Proofs.Ytehoejoeoaimjaa
open Go.RowKit Go.Sort

section
variable {γ : Type} {O : WS → γ → Ob} {st : γ → Int} {R : WS → Int → Int → Int → Int → Int → γ → γ → Prop} {H : World → Prop} {T : TypeId} {v : Value} {f : NestFns}
set_option maxRecDepth 100000 in
set_option maxHeartbeats 8000000 in
theorem wholes_any (N : Nests O st R H T v f) (kc dc : Int) (n0 : Nat) (J : Nat → WS → γ → Prop)
    (hJ : ∀ {j : Nat} {W : WS} {k y x q r : Int} {g g' : γ}, j < n0 → (∃ w F, (O W g).holds w F) → (∃ w F, (O (doW W k y x q r) g').holds w F) → J j W g → R W k y x q r g g' → J (j + 1) (doW W k y x q r) g')
    (hB : ∀ {j : Nat} {W : WS} {g : γ}, J j W g → 0 < j → j ≤ n0 → st g ≤ wholeI kc dc j)
    (m : Nat) (hm : m ≤ 65536) (a0 : Option Addr) (cap : Nat) (hcap : n0 ≤ cap ∧ cap ≤ 9223372036854775807) {g : γ} {W0 w : World} (h0 : J 0 (newW m) g) (hact : ActsAt W0 a0 n0) (hs : Stage (fun _ => False) W0 [O (newW m) g] w) :
    Calls Try.prog 30 #[.iface T v, .agg #[.int .i64 kc, .int .i64 dc], .int .i64 m, .slice a0 n0 cap] w fun e w' => e = .returned (.bool true) ∧ Below W0.heap.size W0 w' := by
  obtain ⟨hcap1, hcap2⟩ := hcap
  obtain ⟨w1, hw1, hs1⟩ : ∃ w1, w.alloc (.cells #[.int .i64 kc, .int .i64 dc] 46) = w1 ∧ Stage (fun _ => False) W0 [O (newW m) g, Ob.box w.heap.size #[.int .i64 kc, .int .i64 dc] 46] w1 := ⟨_, rfl, hs.alloc _ _⟩
  go_enter Try.func30, Try.ntmps30
  go_wp2_with fail
  clear hw1 hs
  generalize w.heap.size = bC at *
  refine (refnew_any m hm w1).mono ?_
  rintro e w3 ⟨hv, cv, rfl, hb3, hN3, hF3⟩
  obtain ⟨ha, hc, rfl, _, _⟩ := hN3.hform
  obtain ⟨ca, cc, hcv, _, _⟩ := hN3.cform
  have hW0 : (newW m).cells.length = m := by simp [newW]
  rw [hW0] at hcv
  subst hcv
  generalize hn1 : (newW m).heaps.length = n1 at *
  have hs2 := ((hs1.add (O := Ob.nest (.slice ha n1 hc) (.slice ca m cc) (newW m)) hb3 ⟨hN3, rfl⟩ hF3).alloc #[.slice ha n1 hc, .slice ca m cc] 58).select [0, 2, 3, 1] (by decide) rfl
  clear hs1 hb3 hN3 hF3 hn1
  obtain ⟨w4, hw4, hs⟩ : ∃ w4, w3.alloc (.cells #[.slice ha n1 hc, .slice ca m cc] 58) = w4 ∧ Stage (fun _ => False) W0 [O (newW m) g, Ob.nest (.slice ha n1 hc) (.slice ca m cc) (newW m), Ob.box w3.heap.size #[.slice ha n1 hc, .slice ca m cc] 58, Ob.box bC #[.int .i64 kc, .int .i64 dc] 46] w4 := ⟨_, rfl, hs2⟩
  clear hs2
  go_wp2_with fail
  clear hw4
  generalize w3.heap.size = b8 at *
  generalize newW m = WN at *
  go_loopw [18] (fun i wr => ∃ (k : Nat) (W : WS) (g : γ) (a : Option Addr) (n c : Nat) (a' : Option Addr) (n' c' : Nat), k ≤ n0 ∧ i = .int .i64 k ∧ J k W g ∧ Stage (fun _ => False) W0 [O W g, Ob.nest (.slice a n c) (.slice a' n' c') W, Ob.box b8 #[.slice a n c, .slice a' n' c'] 58, Ob.box bC #[.int .i64 kc, .int .i64 dc] 46] wr) (fun i _ => n0 - (intOf i).toNat)
  case atStart => exact ⟨0, WN, g, ha, n1, hc, ca, m, cc, Nat.zero_le _, rfl, h0, hs⟩
  case round =>
    clear hs hW0 h0
    obtain ⟨k, W, g, a, n, c, a', n', c', hk, rfl, hj, hs⟩ := hrel
    by_cases hlt : k < n0
    · have hki : (k : Int) < n0 := by omega
      have hthere : ∃ w F, (O W g).holds w F := (hs.get (i := 0) rfl).elim fun F h => ⟨_, F, h⟩
      obtain ⟨ba, offa, x, y, z, q, r, rfl, g0, g1, g2, g3, g4, hy, hz⟩ := hact k hlt
      replace g0 := later hs.below g0
      replace g1 := later hs.below g1
      replace g2 := later hs.below g2
      replace g3 := later hs.below g3
      replace g4 := later hs.below g4
      obtain ⟨wr1, hwr1, hs3⟩ : ∃ w9 : World, wr.alloc (.cells #[.int .i64 x, .int .i64 y, .int .i64 z, .int .i64 q, .int .u64 r] 64) = w9 ∧ Stage (fun _ => False) W0 ([O W g, Ob.nest (.slice a n c) (.slice a' n' c') W] ++ [Ob.box b8 #[.slice a n c, .slice a' n' c'] 58, Ob.box bC #[.int .i64 kc, .int .i64 dc] 46, Ob.box wr.heap.size #[.int .i64 x, .int .i64 y, .int .i64 z, .int .i64 q, .int .u64 r] 64]) w9 := ⟨_, rfl, hs.alloc _ _⟩
      have hD := do_st N x y z q r hy hz hs3
      have k0 := hs3.cell 2 rfl (o := 0) rfl
      have k1 := hs3.cell 2 rfl (o := 1) rfl
      have d0 := hs3.cell 4 rfl (o := 0) rfl
      have d1 := hs3.cell 4 rfl (o := 1) rfl
      have d2 := hs3.cell 4 rfl (o := 2) rfl
      have d3 := hs3.cell 4 rfl (o := 3) rfl
      have d4 := hs3.cell 4 rfl (o := 4) rfl
      have hJJ := fun g' h2 h3 => hJ (k := x) (y := y) (x := z) (q := q) (r := r) (g' := g') hlt hthere h2 hj h3
      clear hj hthere
      go_wp2_with fail
      clear hwr1 g0 g1 g2 g3 g4 k0 k1 d0 d1 d2 d3 d4 hs
      generalize wr.heap.size = bA at *
      refine hD.mono ?_
      rintro e v4 ⟨a2, n2, c2, a3, n3, c3, g', rfl, hRg, hs4⟩
      clear hD hs3
      have hj2 := hJJ g' ((hs4.get (i := 0) rfl).elim fun F h => ⟨_, F, h⟩) hRg
      clear hJJ hRg
      have hbd := hB hj2 (by omega) (by omega)
      generalize doW W x y z q r = W2 at *
      replace hs4 : Stage (fun _ => False) W0 [O W2 g', Ob.nest (.slice a2 n2 c2) (.slice a3 n3 c3) W2, Ob.box b8 #[.slice a n c, .slice a' n' c'] 58, Ob.box bC #[.int .i64 kc, .int .i64 dc] 46, Ob.box bA #[.int .i64 x, .int .i64 y, .int .i64 z, .int .i64 q, .int .u64 r] 64] v4 := hs4
      obtain ⟨v5, hv5, hs5⟩ : ∃ v5, v4.alloc (.cells #[.slice a2 n2 c2, .slice a3 n3 c3] 58) = v5 ∧ Stage (fun _ => False) W0 [O W2 g', Ob.nest (.slice a2 n2 c2) (.slice a3 n3 c3) W2, Ob.box b8 #[.slice a n c, .slice a' n' c'] 58, Ob.box bC #[.int .i64 kc, .int .i64 dc] 46, Ob.box bA #[.int .i64 x, .int .i64 y, .int .i64 z, .int .i64 q, .int .u64 r] 64, Ob.box v4.heap.size #[.slice a2 n2 c2, .slice a3 n3 c3] 58] v5 := ⟨_, rfl, hs4.alloc _ _⟩
      clear hs4
      have j0 := hs5.cell 5 rfl (o := 0) rfl
      have j1 := hs5.cell 5 rfl (o := 1) rfl
      have f0 := hs5.free 2 rfl 0
      have f1 := hs5.free 2 rfl 1
      have l8 := hs5.lt 2 rfl
      have k0 := hs5.cell 2 rfl (o := 0) rfl
      have k1 := hs5.cell 2 rfl (o := 1) rfl
      obtain ⟨v6, hv6, hs6⟩ : ∃ v6, (v5.setCell ⟨b8, 0, none⟩ (.slice a2 n2 c2)).setCell ⟨b8, 1, none⟩ (.slice a3 n3 c3) = v6 ∧ Stage (fun _ => False) W0 [O W2 g', Ob.nest (.slice a2 n2 c2) (.slice a3 n3 c3) W2, Ob.box b8 #[.slice a2 n2 c2, .slice a3 n3 c3] 58, Ob.box bC #[.int .i64 kc, .int .i64 dc] 46] v6 := ⟨_, rfl, ((hs5.store 2 rfl 0 _).store 2 rfl 1 _).take 4⟩
      clear hs5
      go_upto_region 7 with fail
      clear hv5 hv6 j0 j1 f0 f1 l8 k0 k1
      have c0 := cell_regrown (hs6.cell 3 rfl (o := 0) rfl)
      have c1 := cell_regrown (hs6.cell 3 rfl (o := 1) rfl)
      have e2 : IntKind.i64.wrap ((k : Int) + 1) = (k : Int) + 1 := IntWalk.i64_in _ (by omega)
      have cS : ∀ d' os, Calls Try.prog f.steps.id #[f.steps.rv] (grow (redrawn v6 d') os) fun e w'' => e = .returned (.int .i64 (st g')) ∧ ∃ p : Regrown, w'' = grow (redrawn v6 p.d) p.os := fun d' os => Calls.regrown_of (by obtain ⟨F', ho⟩ := (hs6.later (below_regrown v6 d' os)).get (i := 0) rfl; exact N.steps ho)
      have hH : ∀ d' os, H (grow (redrawn v6 d') os) := fun d' os => ((hs6.later (below_regrown v6 d' os)).get (i := 0) rfl).elim fun _ h => N.there h
      have m1 := fun d' os => N.mSteps.find _ (hH d' os)
      have m2 := N.mSteps.enter
      have cW : ∀ d' os, Calls Try.prog 49 #[.agg #[.int .i64 kc, .int .i64 dc], .int .i64 ((k : Int) + 1)] (grow (redrawn v6 d') os) fun e w'' => e = .returned (.int .i64 (wholeI kc dc ((k : Int) + 1))) ∧ ∃ p : Regrown, w'' = grow (redrawn v6 p.d) p.os := fun d' os => Calls.regrown_of (refWhole_any kc dc _ _)
      have hcast : ((k + 1 : Nat) : Int) = (k : Int) + 1 := by omega
      rw [hcast] at hbd
      have hb2 : decide (wholeI kc dc ((k : Int) + 1) < st g') = false := by simpa using hbd
      have hb3 : ¬ wholeI kc dc ((k : Int) + 1) < st g' := by omega
      clear hbd hcast
      generalize wholeI kc dc ((k : Int) + 1) = mo at *
      generalize hsg : st g' = sg at *
      replace hsg := Lib.hid hsg
      refine wp_region_quiet_below (by kernel_rfl) (by kernel_rfl) ?_
      repeat (first | go_big_quiet_step (first | with_reducible exact cS _ _ | with_reducible exact cW _ _) | quiet_step (fail))
      refine wpQuiet_nil ?_
      intro W3 hw
      replace hw := below_regrown' hw
      have hs7 := hs6.later hw
      clear cS cW hH m1 m2 c0 c1 hs6 hw hb2 hb3
      go_wp2_with fail
      go_roundw
      case rel => exact ⟨k + 1, W2, g', a2, n2, c2, a3, n3, c3, by omega, by go_num, hj2, hs7⟩
      case measure => simp [intOf]; omega
    · have hki : ¬ (k : Int) < n0 := by omega
      have c0 := cell_regrown (hs.cell 3 rfl (o := 0) rfl)
      have c1 := cell_regrown (hs.cell 3 rfl (o := 1) rfl)
      have cA : ∀ d' os, Calls Try.prog 50 #[.agg #[.int .i64 kc, .int .i64 dc], .int .i64 9] (grow (redrawn wr d') os) fun e w'' => e = .returned (.int .i64 (wholeI kc dc 9)) ∧ ∃ p : Regrown, w'' = grow (redrawn wr p.d) p.os := fun d' os => Calls.regrown_of (whole_any kc dc 9 _)
      have cB : ∀ d' os, Calls Try.prog 49 #[.agg #[.int .i64 kc, .int .i64 dc], .int .i64 9] (grow (redrawn wr d') os) fun e w'' => e = .returned (.int .i64 (wholeI kc dc 9)) ∧ ∃ p : Regrown, w'' = grow (redrawn wr p.d) p.os := fun d' os => Calls.regrown_of (refWhole_any kc dc 9 _)
      clear hj
      generalize wholeI kc dc 9 = l9 at *
      go_wp2_with fail
      refine wp_region_quiet_below (by kernel_rfl) (by kernel_rfl) ?_
      repeat (first | go_big_quiet_step (first | with_reducible exact cA _ _ | with_reducible exact cB _ _) | quiet_step (fail))
      refine wpQuiet_nil ?_
      intro W3 hw
      replace hw := below_regrown' hw
      go_wp2_with fail
      go_ret
      exact ⟨rfl, (hs.later hw).below⟩
theorem wholes_num (N : Nests O st R H T v f) (kc dc : Int) (n0 : Nat) (J : Nat → WS → γ → Prop)
    (hJ : ∀ {j : Nat} {W : WS} {k y x q r : Int} {g g' : γ}, j < n0 → (∃ w F, (O W g).holds w F) → (∃ w F, (O (doW W k y x q r) g').holds w F) → J j W g → R W k y x q r g g' → J (j + 1) (doW W k y x q r) g')
    (hB : ∀ {j : Nat} {W : WS} {g : γ}, J j W g → 0 < j → j ≤ n0 → st g ≤ wholeI kc dc j)
    (m : Nat) (hm : m ≤ 65536) (a0 : Option Addr) (cap : Nat) (hcap : n0 ≤ cap ∧ cap ≤ 9223372036854775807) {g : γ} {W0 w : World} (h0 : J 0 (newW m) g) (hact : ActsAt W0 a0 n0) (hs : Stage (fun _ => False) W0 [O (newW m) g] w) :
    Calls Try.prog 16 #[.iface T v, .agg #[.int .i64 kc, .int .i64 dc], .int .i64 m, .slice a0 n0 cap] w fun e w' => e = .returned (.int .i64 1) ∧ Below W0.heap.size W0 w' := by
  obtain ⟨w1, hw1, hs1⟩ : ∃ w1, w.alloc (.cells #[.int .i64 kc, .int .i64 dc] 46) = w1 ∧ Stage (fun _ => False) W0 [O (newW m) g, Ob.box w.heap.size #[.int .i64 kc, .int .i64 dc] 46] w1 := ⟨_, rfl, hs.alloc _ _⟩
  have h := wholes_any N kc dc n0 J hJ hB m hm a0 cap hcap h0 hact (hs1.take 1)
  have c0 := hs1.cell 1 rfl (o := 0) rfl
  have c1 := hs1.cell 1 rfl (o := 1) rfl
  clear hs hs1 hact
  go_enter Try.func16, Try.ntmps16
  go_wp2_with fail
  refine h.mono ?_
  rintro e w2 ⟨rfl, hb⟩
  go_wp2_with fail
  refine (one_any w2).mono ?_
  rintro e w3 ⟨rfl, rfl⟩
  go_wp2_with fail
  go_ret
  exact ⟨rfl, hb⟩
end
end Go.Proofs.Ytehoejoeoaimjaa

namespace Go.Proofs.Ytehoejoeoaimjaa
open Go.RowKit Go.Sort

section
variable {W : WS} {Ts : Nat → Tr} {s : Int}
theorem upd_sum (f : Tr → Nat) (Ts : Nat → Tr) {h : Nat} (hh : h < 65537) (T : Tr) : sumT f (updT Ts h T) + f (Ts h) = sumT f Ts + f T :=
  sumT_upd f Ts (updT Ts h T) hh (updT_at _ _ _) fun _ hi => updT_ne _ _ hi
/-- What a call that turns one heap's tree takes: by that tree's potential. -/
theorem sum_step {h : Nat} (hh : h < 65537) {T : Tr} {a c : Nat} (hp : a + Tr.pot T ≤ Tr.pot (Ts h) + c) (hs : Tr.size T ≤ Tr.size (Ts h) + 1) :
    a + sumT Tr.pot (updT Ts h T) ≤ sumT Tr.pot Ts + c ∧ sumT Tr.size (updT Ts h T) ≤ sumT Tr.size Ts + 1 := by
  have h1 := upd_sum Tr.pot Ts hh T
  have h2 := upd_sum Tr.size Ts hh T
  have h3 := le_sumT Tr.pot Ts hh
  have h4 := le_sumT Tr.size Ts hh
  omega
/-- Of a call, the steps and the potential behind it, and how many slots there are. -/
def Paid (n : Nat) (g g' : KG) : Prop := g'.1 + (sumT Tr.pot g'.2 : Nat) ≤ g.1 + (sumT Tr.pot g.2 + (1 + 5 * n) : Nat) ∧ sumT Tr.size g'.2 ≤ sumT Tr.size g.2 + 1
theorem paid_none (n : Nat) (g : KG) : Paid n g g := ⟨by omega, by omega⟩
theorem paid_step {n h a : Nat} (hst : 0 ≤ s ∧ s ≤ 4611686018427387904) (hh : h < 65537) {T : Tr} (hp : a + Tr.pot T ≤ Tr.pot (Ts h) + (1 + 5 * n)) (hs : Tr.size T ≤ Tr.size (Ts h) + 1) : Paid n (s, Ts) (stp s a, updT Ts h T) := by
  obtain ⟨h1, h2⟩ := sum_step hh hp hs
  have h3 := (stp_le hst a).2
  refine ⟨?_, h2⟩
  show stp s a + (sumT Tr.pot (updT Ts h T) : Nat) ≤ s + (sumT Tr.pot Ts + (1 + 5 * n) : Nat)
  omega
theorem size_lt {n h : Nat} (hn : sumT Tr.size Ts + 1 < 2 ^ n) (hh : h < 65537) : Tr.size (Ts h) + 1 < 2 ^ n := by
  have := le_sumT Tr.size Ts hh
  omega
theorem paid_del {n : Nat} {x : Int} (I : TInv W Ts) (hf : W.Fit) (hst : 0 ≤ s ∧ s ≤ 4611686018427387904) (hn : sumT Tr.size Ts + 1 < 2 ^ n) : Paid n (s, Ts) (skDel W x (s, Ts)) := by
  cases hB : inW W x
  · have e : skDel W x (s, Ts) = (s, Ts) := by unfold skDel; rw [hB]; rfl
    rw [e]; exact paid_none _ _
  · obtain ⟨k, hk⟩ : ∃ k, k = (cellW W x).home := ⟨_, rfl⟩
    obtain ⟨hk1, hm⟩ := I.home hB
    rw [← hk] at hk1 hm
    have hnn : Ts k ≠ .nil := fun e => by rw [e] at hm; simp [Tr.slots] at hm
    obtain ⟨_, hk2⟩ := I.keyLt hf hnn
    have e : skDel W x (s, Ts) = skDelAt W k (s, Ts) (Tr.cutAt (Ts k) x) := by unfold skDel; rw [if_pos hB, ← hk]
    have hT := Tr.cutAt_spec hm
    rw [e]
    generalize Tr.cutAt (Ts k) x = p at *
    obtain ⟨z, l, r⟩ := p
    replace hT : Ts k = Tr.fillZ z (.node x l r) := hT
    have hsz := size_lt hn hk2
    rw [hT] at hsz
    refine paid_step hst hk2 ?_ ?_
    · have := Tr.del_pot (aheadW W) (z := z) (x := x) (l := l) (r := r) (n := n) (by omega)
      rw [hT]
      show Tr.asked (aheadW W) l r + Tr.pot (Tr.fillZ z (Tr.merge (aheadW W) l r)) ≤ _
      omega
    · rw [hT]
      show Tr.size (Tr.fillZ z (Tr.merge (aheadW W) l r)) ≤ Tr.size (Tr.fillZ z (.node x l r)) + 1
      rw [Tr.zip_size, Tr.zip_size, Tr.merge_size]
      simp only [Tr.size]
      omega
theorem paid_any {n : Nat} {k y x q r : Int} (I : TInv W Ts) (hf : W.Fit) (hst : 0 ≤ s ∧ s ≤ 4611686018427387904) (hn : sumT Tr.size Ts + 1 < 2 ^ n) : Paid n (s, Ts) (skF W k y x q r (s, Ts)) := by
  unfold skF
  split
  · unfold skIns
    split
    · rename_i hB
      obtain ⟨i, rfl, hi1, hi2⟩ : ∃ i : Nat, y = i ∧ 1 ≤ i ∧ i < 65537 := by
        have hB2 := hB
        simp only [putB, Bool.and_eq_true] at hB2
        obtain ⟨i, rfl, h1, h2, _⟩ := has_nat hB2.1
        have := hf.len
        exact ⟨i, rfl, h1, by omega⟩
      have hsz := size_lt hn hi2
      have e1 : Tr.size (.node x .nil .nil) = 1 := rfl
      have e2 : Tr.pot (.node x .nil .nil) = 0 := rfl
      refine paid_step hst hi2 ?_ ?_
      · have := Tr.merge_pot (aheadW (putW W i x q r)) (a := Ts i) (b := .node x .nil .nil) (n := n) (by omega)
        simp only [Int.toNat_natCast]
        omega
      · simp only [Int.toNat_natCast]
        rw [Tr.merge_size, e1]
        exact Nat.le_refl _
    · exact paid_none _ _
  · split
    · unfold skExt
      split
      · exact paid_del I hf hst hn
      · exact paid_none _ _
    · split
      · unfold skDec
        split
        · rename_i hlb
          have hB : inW W x = true := by
            have := hlb
            simp only [lowerB, Bool.and_eq_true] at this
            exact this.1
          obtain ⟨kk, hk⟩ : ∃ kk, kk = (cellW W x).home := ⟨_, rfl⟩
          obtain ⟨hk1, hm⟩ := I.home hB
          rw [← hk] at hk1 hm ⊢
          have hnn : Ts kk ≠ .nil := fun e => by rw [e] at hm; simp [Tr.slots] at hm
          obtain ⟨_, hk2⟩ := I.keyLt hf hnn
          have hT := Tr.cutAt_spec hm
          show Paid n (s, Ts) (skDecAt (lowerW W x q r) kk x (s, Ts) (Tr.cutAt (Ts kk) x))
          generalize Tr.cutAt (Ts kk) x = p at *
          obtain ⟨z, l, r'⟩ := p
          replace hT : Ts kk = Tr.fillZ z (.node x l r') := hT
          cases z with
          | nil => exact paid_none _ _
          | cons g z =>
            show Paid n (s, Ts) (if aheadW (lowerW W x q r) x g.x = true then _ else _)
            split
            · have hsz := size_lt hn hk2
              rw [hT] at hsz
              refine paid_step hst hk2 ?_ ?_
              · have := (Tr.dec_pot (aheadW (lowerW W x q r)) (z := g :: z) (t := .node x l r') (n := n) (by omega)).1
                rw [hT]
                omega
              · have e1 := Tr.zip_size (g :: z) (.node x l r')
                have e2 := Tr.zip_size (g :: z) .nil
                have e3 : Tr.size .nil = 0 := rfl
                rw [Tr.merge_size, hT]
                omega
            · have := (stp_le hst 1).2
              refine ⟨?_, Nat.le_succ _⟩
              show stp s 1 + (sumT Tr.pot Ts : Nat) ≤ s + (sumT Tr.pot Ts + (1 + 5 * n) : Nat)
              omega
        · exact paid_none _ _
      · split
        · exact paid_del I hf hst hn
        · split
          · unfold skMeld
            split
            · rename_i hB
              obtain ⟨i, j, rfl, rfl, hi1, hi2, hj1, hj2, hne⟩ : ∃ i j : Nat, y = i ∧ x = j ∧ 1 ≤ i ∧ i < 65537 ∧ 1 ≤ j ∧ j < 65537 ∧ i ≠ j := by
                have hB2 := hB
                simp only [joinBW, Bool.and_eq_true, decide_eq_true_eq] at hB2
                obtain ⟨i, rfl, h1, h2, _⟩ := has_nat hB2.1
                obtain ⟨j, rfl, h3, h4, _⟩ := has_nat hB2.2.1
                have := hf.len
                exact ⟨i, j, rfl, rfl, h1, by omega, h3, by omega, fun e => hB2.2.2 (by rw [e])⟩
              have ei : updT Ts j .nil i = Ts i := updT_ne _ _ hne
              have p1 := upd_sum Tr.pot Ts hj2 .nil
              have s1 := upd_sum Tr.size Ts hj2 .nil
              have p2 := upd_sum Tr.pot (updT Ts j .nil) hi2 (Tr.merge (aheadW (joinW W i j)) (Ts i) (Ts j))
              have s2 := upd_sum Tr.size (updT Ts j .nil) hi2 (Tr.merge (aheadW (joinW W i j)) (Ts i) (Ts j))
              have l1 := le_sumT Tr.size (updT Ts j .nil) hi2
              have e1 : Tr.pot .nil = 0 := rfl
              have e2 : Tr.size .nil = 0 := rfl
              rw [ei] at p2 s2 l1
              have hm := Tr.merge_pot (aheadW (joinW W i j)) (a := Ts i) (b := Ts j) (n := n) (by omega)
              have hz := Tr.merge_size (aheadW (joinW W i j)) (Ts i) (Ts j)
              have h3 := (stp_le hst (Tr.asked (aheadW (joinW W i j)) (Ts i) (Ts j))).2
              simp only [Int.toNat_natCast]
              refine ⟨?_, ?_⟩
              · show stp s (Tr.asked (aheadW (joinW W i j)) (Ts i) (Ts j)) + (sumT Tr.pot (updT (updT Ts j .nil) i (Tr.merge (aheadW (joinW W i j)) (Ts i) (Ts j))) : Nat) ≤ s + (sumT Tr.pot Ts + (1 + 5 * n) : Nat)
                omega
              · show sumT Tr.size (updT (updT Ts j .nil) i (Tr.merge (aheadW (joinW W i j)) (Ts i) (Ts j))) ≤ sumT Tr.size Ts + 1
                omega
            · exact paid_none _ _
          · exact paid_none _ _
end
/-- Behind so many calls. -/
def SkJ (j : Nat) (_W : WS) (g : KG) : Prop := g.1 + (sumT Tr.pot g.2 : Nat) ≤ (j * (1 + 5 * Lib.bitLen j) : Nat) ∧ sumT Tr.size g.2 ≤ j
theorem skJ_new (n : Nat) : SkJ 0 (newW n) (0, fun _ => .nil) := by
  have h1 := sumT_nil Tr.pot rfl
  have h2 := sumT_nil Tr.size rfl
  refine ⟨?_, ?_⟩
  · show (0 : Int) + (sumT Tr.pot (fun _ => .nil) : Nat) ≤ _
    rw [h1]; omega
  · show sumT Tr.size (fun _ => .nil) ≤ 0
    omega
theorem skJ_step {p c j : Nat} {W W' : WS} {k y x q r : Int} {g g' : KG} (hj : j < 65536) (ht : ∃ w F, (Ob.skew p c W g.1 g.2).holds w F) (h : SkJ j W g) (hR : skewR W k y x q r g g') : SkJ (j + 1) W' g' := by
  obtain ⟨w, F, ho⟩ := ht
  have hlt := lt_bits (j + 1) (by omega)
  obtain ⟨h1, h2⟩ := h
  obtain ⟨p1, p2⟩ := paid_any (n := Lib.bitLen (j + 1)) (k := k) (y := y) (x := x) (q := q) (r := r) (s := g.1) (Ts := g.2) (skew_inv ho) (skew_fit ho) (skew_range ho) (by omega)
  have e : g' = skF W k y x q r (g.1, g.2) := hR
  rw [← e] at p1 p2
  have hm := bitLen_mono (a := j) (b := j + 1) (by omega) (by omega)
  have hq : j * (1 + 5 * Lib.bitLen j) ≤ j * (1 + 5 * Lib.bitLen (j + 1)) := Nat.mul_le_mul_left _ (by omega)
  have hz : (j + 1) * (1 + 5 * Lib.bitLen (j + 1)) = j * (1 + 5 * Lib.bitLen (j + 1)) + (1 + 5 * Lib.bitLen (j + 1)) := by rw [Nat.add_mul, Nat.one_mul]
  refine ⟨?_, ?_⟩
  · rw [hz]
    have p1' : g'.1 + (sumT Tr.pot g'.2 : Nat) ≤ g.1 + (sumT Tr.pot g.2 + (1 + 5 * Lib.bitLen (j + 1)) : Nat) := p1
    omega
  · have p2' : sumT Tr.size g'.2 ≤ sumT Tr.size g.2 + 1 := p2
    omega
theorem skJ_most {j : Nat} {W : WS} {g : KG} (hj : j < 65536) (h : SkJ j W g) : g.1 ≤ wholeI 7 0 j := by
  have hn : nearI (j : Int) = (j : Int) := by unfold nearI; rw [if_neg (by omega), if_neg (by omega)]
  have hc : wholeFI 7 0 = 16 := rfl
  have hz : j * (1 + 5 * Lib.bitLen j) ≤ j * (32 + 16 * Lib.bitLen j) := Nat.mul_le_mul_left _ (by omega)
  have e : wholeI 7 0 j = (j * (32 + 16 * Lib.bitLen j) : Nat) := by
    unfold wholeI bitsI
    rw [hc, hn, Int.toNat_natCast]
    have : (16 * (j : Int)) * (2 + (Lib.bitLen j : Int)) = (j : Int) * (32 + 16 * (Lib.bitLen j : Int)) := by
      rw [Int.mul_comm 16, Int.mul_assoc, Int.mul_add]; rfl
    rw [this]
    simp
  rw [e]
  have := h.1
  omega
end Go.Proofs.Ytehoejoeoaimjaa
