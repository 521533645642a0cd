/- Merged of FiCalls, FiJoin, FiPlace. -/
import Derived.Test.YtcjjglaimfhofaaFiFreeMath
import Derived.Test.YtcjjglaimfhofaaFiGathMath
import Derived.Test.YtcjjglaimfhofaaRingCalls
namespace Go.Proofs.Ytcjjglaimfhofaa
open Go.RowKit Go.Sort

theorem FRoots.less {n : Nat} {K : Int → List Int} {R : Nat → List Int} (hR : FRoots n K R) {h : Nat} {l : List Int} (hl : ∀ y ∈ l, y ∈ R h) (hd : l.Nodup) : FRoots n K (updR R h l) := by
  have hin : ∀ g y, y ∈ updR R h l g → y ∈ R g := fun g y k => by
    by_cases e : g = h
    · subst e; rw [updR_at] at k; exact hl y k
    · rw [updR_off R l e] at k; exact k
  refine ⟨fun g y k => hR.is g y (hin g y k), fun g g' y k k' => hR.one g g' y (hin g y k) (hin g' y k'), fun g => ?_⟩
  by_cases e : g = h
  · subst e; rw [updR_at]; exact hd
  · rw [updR_off R l e]; exact hR.nd g
section
variable {F0 : Nat → Prop} {W0 w : World} {f c rp n : Nat} {v : Value} {W : WS} {s : Int} {T : Int → Node} {S : RSt} {q : List Ob} {K : Int → List Int} {R : Nat → List Int}
theorem degree_fb (h : Stage F0 W0 (fbF f c rp v n W s T S ++ q) w) (H : FTied n K R T S) (hK : ∀ x, ¬ inB n x → K x = []) (hv : ∃ a k, v = .slice a n k) (x : Int) : Calls Try.prog 46 #[.pointer (some ⟨f, 0, none⟩), .int .i64 x] w fun e w' => e = .returned (.int .i64 (K x).length) ∧ w = w' := by
  have c2 := nf_c2 h
  by_cases hx : inB n x
  · obtain ⟨x, rfl⟩ : ∃ i : Nat, x = i := ⟨x.toNat, by have := hx.1; omega⟩
    have hxn : x < n := by have := hx.2; omega
    obtain ⟨g, k, rfl, h1, h2, hgf, hc, hf⟩ := nf_row h (by omega)
    obtain ⟨_, _, u2, _⟩ := hc x hxn
    rw [H.deg x hx] at u2
    clear hc hf h H
    generalize (K x).length = m at *
    have hlt : decide ((n : Int) ≤ x) = false := by simp; omega
    have hlt2 : ¬ (n : Int) ≤ x := by omega
    go_enter Try.func46, Try.ntmps46
    go_wp2_with fail
    go_ret
    exact ⟨rfl, rfl⟩
  · rw [hK x hx]
    obtain ⟨a, k, rfl⟩ := hv
    clear h H
    go_enter Try.func46, Try.ntmps46
    by_cases h0 : x < 0
    · go_wp2_with fail
      go_ret
      exact ⟨rfl, rfl⟩
    · have hge : (n : Int) ≤ x := by
        unfold inB at hx
        omega
      go_wp2_with fail
      go_ret
      exact ⟨rfl, rfl⟩
set_option maxHeartbeats 1000000 in
/-- A root comes below another one. -/
theorem hang_fb (h : Stage F0 W0 (fbF f c rp v n W s T S ++ q) w) (H : FTied n K R T S) (I : FbInv n K) (hR : FRoots n K R) {i : Nat} {p x : Int} (hp : p ∈ R i) (hx : x ∈ R i) (hne : p ≠ x) :
    Calls Try.prog 105 #[.pointer (some ⟨f, 0, none⟩), .int .i64 p, .int .i64 x] w fun e w' => e = .returned (.tuple #[]) ∧ ∃ T' S', FTied n (fbHang K p (x :: K p)) (updR R i ((R i).erase x)) T' S' ∧ (∀ y, (T' y).lost = if y = x then false else (T y).lost) ∧ Stage F0 W0 (fbF f c rp v n W s T' S' ++ q) w' := by
  obtain ⟨⟨hp0, hpn⟩, tp⟩ := hR.is i p hp
  obtain ⟨⟨hx0, hxn⟩, tx⟩ := hR.is i x hx
  obtain ⟨p, rfl⟩ : ∃ i : Nat, p = i := ⟨p.toNat, by omega⟩
  obtain ⟨x, rfl⟩ : ∃ i : Nat, x = i := ⟨x.toNat, by omega⟩
  have hpn' : p < n := by omega
  have hxn' : x < n := by omega
  have hxp : (x : Int) ≠ p := fun e => hne e.symm
  have hdg := H.deg p ⟨by omega, by omega⟩
  have hlen2 : (K p).length ≤ n := nodup_below n _ (I.nodup p) fun y hy => (I.rng p y hy).2
  have hn6 := H.good.few
  have hnd := hR.nd i
  have hR1 : FRoots n K (updR R i ((R i).erase x)) := hR.less (fun y hy => List.mem_of_mem_erase hy) (hnd.erase _)
  have hn1 : ∀ g, (x : Int) ∉ updR R i ((R i).erase x) g := fun g k => by
    by_cases e : g = i
    · subst e; rw [updR_at] at k; exact ((hnd.mem_erase_iff).1 k).1 rfl
    · rw [updR_off _ _ e] at k; exact e (hR.one g i x k hx)
  have H1 := H.del I hR hx (List.perm_cons_erase hx)
  have hT := fun T' hu hk hd => H1.hang1 (T' := T') I hR1 (p := p) (x := x) ⟨by omega, by omega⟩ ⟨by omega, by omega⟩ hne tx hn1 (List.Perm.refl _) hu hk hd
  obtain ⟨g, k, rfl, h1, h2, hgf, hc, hf⟩ := nf_row h (by omega)
  have c1 := nf_c1 h
  have hP := h.call 3 rfl (fun _ ho => rg_part H.good x ho)
  have hB := H1.good.back
  generalize partS n S x = S1 at *
  clear hc hf H H1 hR hR1 hn1 hnd tx tp hp hx
  go_enter Try.func105, Try.ntmps105
  go_wp2_with fail
  refine hP.mono ?_
  rintro e w1 ⟨rfl, h3⟩
  replace h3 : Stage F0 W0 (fbF f c rp (.slice (some ⟨g, 0, none⟩) n k) n W s T S1 ++ q) w1 := h3
  clear hP h c1
  obtain ⟨g', k', e, _, _, _, hc, hf⟩ := nf_row h3 (by omega)
  cases e
  have c1 := nf_c1 h3
  have c2 := nf_c2 h3
  obtain ⟨_, v1, _, _⟩ := hc p hpn'
  have hS := h3.drew.call 3 rfl (fun _ ho => rg_splice hB (T p).kid x ho)
  generalize spliceS n S1 (T p).kid x = S2 at *
  generalize (inR n (T p).kid && inR n x) = bb at *
  generalize hkd : (T p).kid = kd at *
  clear hc hf
  go_wp2_with fail
  go_region_held3 (fun w' => w'.cell? ⟨f, 1, none⟩ = some (.pointer (some ⟨rp, 0, none⟩)) ∧ w'.cell? ⟨f, 2, none⟩ = some (.slice (some ⟨g, 0, none⟩) n k) ∧ w'.cell? ⟨g, p * 4 + 1, none⟩ = some (.int .i64 kd)) (first | exact ⟨c1, c2, v1⟩ | exact ⟨c1p, c2p, v1p⟩ | simp [*])
    ((with_reducible refine hS.mono ?_; rintro e w2 ⟨rfl, h4⟩; have c1p : w2.cell? ⟨f, 1, none⟩ = some (.pointer (some ⟨rp, 0, none⟩)) := h4.cell 0 rfl rfl; have c2p : w2.cell? ⟨f, 2, none⟩ = some (.slice (some ⟨g, 0, none⟩) n k) := h4.cell 0 rfl rfl; have v1p : w2.cell? ⟨g, p * 4 + 1, none⟩ = some (.int .i64 kd) := by (obtain ⟨g', k', e, _, _, _, hc, hf⟩ := nf_row (q := q) (S := S2) h4 (by omega); cases e; rw [(hc p hpn').2.1, hkd])))
  replace h4 : Stage F0 W0 (fbF f c rp (.slice (some ⟨g, 0, none⟩) n k) n W s T S2 ++ q) w2 := h4
  clear hS h3 c1 c2 v1 c1p v1p
  obtain ⟨g', k', e, _, _, _, hc, hf⟩ := nf_row h4 (by omega)
  cases e
  obtain ⟨_, v1, v2, _⟩ := hc p hpn'
  obtain ⟨x0, _, _, x3⟩ := hc x hxn'
  rw [hdg] at v2
  have f1 := hf (p * 4 + 1)
  have f2 := hf (p * 4 + 2)
  have f3 := hf (x * 4)
  have f4 := hf (x * 4 + 3)
  have hw : IntKind.i64.wrap (((K p).length : Int) + 1) = ((K p).length : Int) + 1 := IntWalk.i64_in _ (by omega)
  have h5 := (nf_lost (nf_up (nf_deg (nf_kid h4 hpn' x) hpn' (((K p).length : Int) + 1)) hxn' p) hxn' false)
  have hTT := hT (setN (setN (setN (setN T p ⟨(T p).up, x, (T p).deg, (T p).lost⟩) p ⟨(T p).up, x, ((K p).length : Int) + 1, (T p).lost⟩) x ⟨p, (T x).kid, (T x).deg, (T x).lost⟩) x ⟨p, (T x).kid, (T x).deg, false⟩)
    (fun y => by simp only [setN]; (repeat' split) <;> first | rfl | (simp_all; done) | omega) (fun y => by simp only [setN]; (repeat' split) <;> first | rfl | (simp_all; done) | omega) (fun y => by simp only [setN, hdg]; (repeat' split) <;> first | rfl | (simp_all; done) | omega)
  have hL : ∀ y, ((setN (setN (setN (setN T p ⟨(T p).up, x, (T p).deg, (T p).lost⟩) p ⟨(T p).up, x, ((K p).length : Int) + 1, (T p).lost⟩) x ⟨p, (T x).kid, (T x).deg, (T x).lost⟩) x ⟨p, (T x).kid, (T x).deg, false⟩) y).lost = if y = x then false else (T y).lost := fun y => by simp only [setN]; (repeat' split) <;> simp_all
  rw [setN_at, setN_at, setN_ne _ _ hxp, setN_ne _ _ hxp] at h5
  dsimp only at h5
  clear hc hf h4 hT I hdg hkd hB
  generalize (K p).length = m at *
  go_wp2_with fail
  go_region
  go_wp2_with fail
  go_end0
  exact ⟨rfl, _, _, hTT, hL, h5.drew⟩
/-- Two trees become one. -/
theorem link_fb (h : Stage F0 W0 (fbF f c rp v n W s T S ++ q) w) (H : FTied n K R T S) (I : FbInv n K) (hR : FRoots n K R) {i : Nat} {a b : Int} (ha : a ∈ R i) (hb : b ∈ R i) (hne : a ≠ b) :
    Calls Try.prog 103 #[.pointer (some ⟨f, 0, none⟩), .int .i64 a, .int .i64 b] w fun e w' => e = .returned (.int .i64 (lkC W a b)) ∧ ∃ T' S', FTied n (fbHang K (lkC W a b) (lkD W a b :: K (lkC W a b))) (updR R i ((R i).erase (lkD W a b))) T' S' ∧ (∀ y, (T' y).lost = if y = lkD W a b then false else (T y).lost) ∧ Stage F0 W0 (fbF f c rp v n W (aheadS W s b a) T' S' ++ q) w' := by
  have hO := order_fb h a b
  have hHa := fun (w1 : World) (s1 : Int) (h1 : Stage F0 W0 (fbF f c rp v n W s1 T S ++ q) w1) => hang_fb h1 H I hR (p := lkC W a b) (x := lkD W a b) (i := i) (by unfold lkC; split <;> assumption) (by unfold lkD; split <;> assumption) (by unfold lkC lkD; split <;> first | exact fun e => hne e.symm | exact hne)
  rw [show (if aheadW W b a = true then b else a) = lkC W a b from rfl, show (if aheadW W b a = true then a else b) = lkD W a b from rfl] at hO
  generalize aheadS W s b a = s1 at *
  generalize lkC W a b = x at *
  generalize lkD W a b = y at *
  clear h H I hR ha hb hne
  go_enter Try.func103, Try.ntmps103
  go_wp2_with fail
  refine hO.mono ?_
  rintro e w1 ⟨rfl, h1⟩
  replace hHa := hHa w1 s1 h1
  clear hO h1
  go_wp2_with fail
  refine hHa.mono ?_
  rintro e w2 ⟨rfl, T', S', hT, hL, h2⟩
  clear hHa
  go_wp2_with fail
  go_ret
  exact ⟨rfl, T', S', hT, hL, h2⟩
end
end Go.Proofs.Ytcjjglaimfhofaa

namespace Go.Proofs.Ytcjjglaimfhofaa
open Go.RowKit Go.Sort

/-- Some trees, as a value: what is topmost and first, and how many they are. -/
abbrev trV (a : Int) (k : Int) : Value := .agg #[.int .i64 a, .int .i64 k]
section
variable {F0 : Nat → Prop} {W0 w : World} {f c rp n : Nat} {v : Value} {W : WS} {s : Int} {T : Int → Node} {S : RSt} {A B : Ob} {K : Int → List Int} {R : Nat → List Int}
/-- The boxes in which the two, and what is answered, lie. -/
theorem join_boxes {l : List Ob} (h : Stage F0 W0 l w) (a ka b kb : Int) : ∃ w1 w2 w3 : World, w.alloc (.cells #[.int .i64 a, .int .i64 ka] 88) = w1 ∧ w1.alloc (.cells #[.int .i64 b, .int .i64 kb] 88) = w2 ∧ w2.alloc (.cells #[.int .i64 0, .int .i64 0] 88) = w3 ∧
    Stage F0 W0 (((l ++ [Ob.box w.heap.size #[.int .i64 a, .int .i64 ka] 88]) ++ [Ob.box w1.heap.size #[.int .i64 b, .int .i64 kb] 88]) ++ [Ob.box w2.heap.size #[.int .i64 0, .int .i64 0] 88]) w3 :=
  ⟨_, _, _, rfl, rfl, rfl, ((h.alloc _ _).alloc _ _).alloc _ _⟩
theorem join_b (h : Stage F0 W0 (fbF f c rp v n W s T S ++ [A, B]) w) (a b : Int) (kb : Nat) : Calls Try.prog 50 #[.pointer (some ⟨f, 0, none⟩), trV a 0, trV b kb] w fun e w' => e = .returned (trV b kb) ∧ Stage F0 W0 (fbF f c rp v n W s T S ++ [A, B]) w' := by
  obtain ⟨w1, w2, w3, hw1, hw2, hw3, hs⟩ := join_boxes h a 0 b kb
  have a0 := hs.cell 6 rfl (o := 0) rfl
  have a1 := hs.cell 6 rfl (o := 1) rfl
  have b0 := hs.cell 7 rfl (o := 0) rfl
  have b1 := hs.cell 7 rfl (o := 1) rfl
  have f0 := hs.free 8 rfl 0
  have f1 := hs.free 8 rfl 1
  have r0 := hs.cell 8 rfl (o := 0) rfl
  have r1 := hs.cell 8 rfl (o := 1) rfl
  have hl := hs.lt 8 rfl
  have hs4 := ((hs.store 8 rfl 0 (.int .i64 b)).store 8 rfl 1 (.int .i64 kb))
  have z0 := hs4.cell 8 rfl (o := 0) rfl
  have z1 := hs4.cell 8 rfl (o := 1) rfl
  clear hs h
  unfold trV
  go_enter Try.func50, Try.ntmps50
  go_wp2_with fail
  exact bodyPost_ret (v := .agg #[.int .i64 b, .int .i64 kb]) (by simp [results, Try.results50, go_sem, z0, z1]) rfl ⟨rfl, hs4.take 6⟩
theorem join_a (h : Stage F0 W0 (fbF f c rp v n W s T S ++ [A, B]) w) (a b : Int) (ka : Nat) (hk : 0 < ka) : Calls Try.prog 50 #[.pointer (some ⟨f, 0, none⟩), trV a ka, trV b 0] w fun e w' => e = .returned (trV a ka) ∧ Stage F0 W0 (fbF f c rp v n W s T S ++ [A, B]) w' := by
  obtain ⟨w1, w2, w3, hw1, hw2, hw3, hs⟩ := join_boxes h a ka b 0
  have a0 := hs.cell 6 rfl (o := 0) rfl
  have a1 := hs.cell 6 rfl (o := 1) rfl
  have b0 := hs.cell 7 rfl (o := 0) rfl
  have b1 := hs.cell 7 rfl (o := 1) rfl
  have f0 := hs.free 8 rfl 0
  have f1 := hs.free 8 rfl 1
  have r0 := hs.cell 8 rfl (o := 0) rfl
  have r1 := hs.cell 8 rfl (o := 1) rfl
  have hl := hs.lt 8 rfl
  have hs4 := ((hs.store 8 rfl 0 (.int .i64 a)).store 8 rfl 1 (.int .i64 ka))
  have z0 := hs4.cell 8 rfl (o := 0) rfl
  have z1 := hs4.cell 8 rfl (o := 1) rfl
  have hk1 : ((ka : Int) == 0) = false := by rw [beq_eq_false_iff_ne]; omega
  clear hs h
  unfold trV
  go_enter Try.func50, Try.ntmps50
  go_wp2_with fail
  exact bodyPost_ret (v := .agg #[.int .i64 a, .int .i64 ka]) (by simp [results, Try.results50, go_sem, z0, z1]) rfl ⟨rfl, hs4.take 6⟩
theorem join_ab (h : Stage F0 W0 (fbF f c rp v n W s T S ++ [A, B]) w) (hB : Back n S.f S.g) (a b : Int) (ka kb : Nat) (hka : 0 < ka) (hkb : 0 < kb) (hk : ka + kb ≤ 65536) : Calls Try.prog 50 #[.pointer (some ⟨f, 0, none⟩), trV a ka, trV b kb] w fun e w' =>
    e = .returned (trV (lkC W a b) ((ka : Int) + kb)) ∧ Stage F0 W0 (fbF f c rp v n W (aheadS W s b a) T (spliceS n S a b) ++ [A, B]) w' := by
  obtain ⟨w1, w2, w3, hw1, hw2, hw3, hs⟩ := join_boxes h a ka b kb
  have a0 := hs.cell 6 rfl (o := 0) rfl
  have a1 := hs.cell 6 rfl (o := 1) rfl
  have b0 := hs.cell 7 rfl (o := 0) rfl
  have b1 := hs.cell 7 rfl (o := 1) rfl
  have c1 : w3.cell? ⟨f, 1, none⟩ = some (.pointer (some ⟨rp, 0, none⟩)) := hs.cell 0 rfl rfl
  have hka1 : ((ka : Int) == 0) = false := by rw [beq_eq_false_iff_ne]; omega
  have hkb1 : ((kb : Int) == 0) = false := by rw [beq_eq_false_iff_ne]; omega
  have hS := hs.drew.call 3 rfl (fun _ ho => rg_splice hB a b ho)
  have hO : ∀ (w4 : World) (q : List Ob), Stage F0 W0 (fbF f c rp v n W s T (spliceS n S a b) ++ q) w4 → Calls Try.prog 70 #[.pointer (some ⟨f, 0, none⟩), .int .i64 a, .int .i64 b] w4 fun e w' => e = .returned (.tuple #[.int .i64 (lkC W a b), .int .i64 (lkD W a b)]) ∧ Stage F0 W0 (fbF f c rp v n W (aheadS W s b a) T (spliceS n S a b) ++ q) w' := fun w4 q h4 => order_fb h4 a b
  clear h
  generalize aheadS W s b a = s1 at *
  generalize lkC W a b = x at *
  generalize lkD W a b = y at *
  generalize spliceS n S a b = S2 at *
  generalize (inR n a && inR n b) = bb at *
  unfold trV
  go_enter Try.func50, Try.ntmps50
  go_wp2_with fail
  generalize w2.heap.size = bR at *
  generalize w1.heap.size = bB at *
  generalize w.heap.size = bA at *
  go_region_held3 (fun w' => w'.cell? ⟨f, 1, none⟩ = some (.pointer (some ⟨rp, 0, none⟩)) ∧ w'.cell? ⟨bA, 0, none⟩ = some (.int .i64 a) ∧ w'.cell? ⟨bB, 0, none⟩ = some (.int .i64 b)) (first | exact ⟨c1, a0, b0⟩ | exact ⟨c1p, a0p, b0p⟩ | simp [*])
    ((with_reducible refine hS.mono ?_; rintro e w4 ⟨rfl, h4⟩; have c1p : w4.cell? ⟨f, 1, none⟩ = some (.pointer (some ⟨rp, 0, none⟩)) := h4.cell 0 rfl rfl; have a0p := h4.cell 6 rfl (o := 0) rfl; have b0p := h4.cell 7 rfl (o := 0) rfl))
  replace h4 : Stage F0 W0 (fbF f c rp v n W s T S2 ++ [A, B, Ob.box bA #[.int .i64 a, .int .i64 ka] 88, Ob.box bB #[.int .i64 b, .int .i64 kb] 88, Ob.box bR #[.int .i64 0, .int .i64 0] 88]) w4 := h4
  clear hs hS a0 a1 b0 b1 c1 c1p hw1 hw2 hw3
  replace hO := hO _ _ h4
  clear h4
  go_wp2_with fail
  refine hO.mono ?_
  rintro e w5 ⟨rfl, h5⟩
  clear hO
  replace h5 : Stage F0 W0 (fbF f c rp v n W s1 T S2 ++ [A, B, Ob.box bA #[.int .i64 a, .int .i64 ka] 88, Ob.box bB #[.int .i64 b, .int .i64 kb] 88, Ob.box bR #[.int .i64 0, .int .i64 0] 88]) w5 := h5
  have a1 := h5.cell 6 rfl (o := 1) rfl
  have b1 := h5.cell 7 rfl (o := 1) rfl
  have f0 := h5.free 8 rfl 0
  have f1 := h5.free 8 rfl 1
  have r0 := h5.cell 8 rfl (o := 0) rfl
  have r1 := h5.cell 8 rfl (o := 1) rfl
  have hl := h5.lt 8 rfl
  have hw : IntKind.i64.wrap ((ka : Int) + kb) = (ka : Int) + kb := IntWalk.i64_in _ (by omega)
  have hs4 := ((h5.store 8 rfl 0 (.int .i64 x)).store 8 rfl 1 (.int .i64 ((ka : Int) + kb)))
  have z0 := hs4.cell 8 rfl (o := 0) rfl
  have z1 := hs4.cell 8 rfl (o := 1) rfl
  go_wp2_with fail
  exact bodyPost_ret (v := .agg #[.int .i64 x, .int .i64 ((ka : Int) + kb)]) (by simp [results, Try.results50, go_sem, z0, z1]) rfl ⟨rfl, hs4.take 6⟩
end
end Go.Proofs.Ytcjjglaimfhofaa

namespace Go.Proofs.Ytcjjglaimfhofaa
open Go.RowKit Go.Sort

def lenS (v : Value) : Nat := match v with | .slice _ n _ => n | _ => 0
/-- The degree that a node's cells tell. -/
def degAt (w : World) (g : Nat) (x : Value) : Nat := match w.cell? ⟨g, (intOf x).toNat * 4 + 2, none⟩ with | some (.int _ k) => k.toNat | _ => 0
def PlacePost (F0 : Nat → Prop) (W0 : World) (f c rp : Nat) (v : Value) (n : Nat) (W : WS) (s : Int) (A B C D G L : Ob) (i : Nat) (E : Int → Prop) (R0 : Nat → List Int) (Z : Nat) (P : List Int) (PP : Int) (e : Ending) (w' : World) : Prop :=
  ∃ bv' Bl' K' R' T' S' s', e = .returned bv' ∧ GathJ n W i E R0 Z K' R' T' S' Bl' P ∧ Bl'.length ≤ n + 1 ∧ (s ≤ s' ∧ s' + (potN W K' (lostOf T') : Nat) ≤ PP) ∧
      Stage F0 W0 (fbF f c rp v n W s' T' S' ++ [A, B, C, D, G, L, Ob.ints bv' Bl']) w'
section
variable {F0 : Nat → Prop} {W0 w : World} {f c rp n : Nat} {v : Value} {W : WS} {s : Int} {T : Int → Node} {S : RSt} {A B C D G L : Ob} {K : Int → List Int} {R : Nat → List Int}
set_option maxRecDepth 100000 in
set_option maxHeartbeats 2000000 in
theorem place_fb {bv : Value} {Bl P : List Int} {x : Int} (h : Stage F0 W0 (fbF f c rp v n W s T S ++ [A, B, C, D, G, L, Ob.ints bv Bl]) w) {i : Nat} {E : Int → Prop} {R0 : Nat → List Int} {Z : Nat} (J : GathJ n W i E R0 Z K R T S Bl (x :: P)) (hBl : Bl.length ≤ n + 1) :
    Calls Try.prog 98 #[.pointer (some ⟨f, 0, none⟩), bv, .int .i64 x] w (PlacePost F0 W0 f c rp v n W s A B C D G L i E R0 Z P (s + (potN W K (lostOf T) : Nat))) := by
  have hx := (J.isR (y := x) (by simp)).2.1
  have hn6 := J.tied.good.few
  obtain ⟨x, rfl⟩ : ∃ i : Nat, x = i := ⟨x.toNat, by have := hx.1; omega⟩
  have hxn : x < n := by have := hx.2; omega
  obtain ⟨g, k, rfl, hk1, hk2, hgf, _, _⟩ := nf_row h (by omega)
  obtain ⟨PP, hPP⟩ : ∃ PP : Int, PP = s + (potN W K (lostOf T) : Nat) := ⟨_, rfl⟩
  rw [← hPP]
  have hp0 : (s ≤ s ∧ s + (potN W K (lostOf T) : Nat) ≤ PP) := ⟨Int.le_refl _, by rw [hPP]; exact Int.le_refl _⟩
  clear hPP
  go_enter Try.func98, Try.ntmps98
  go_wp2_with fail
  go_loopw [1, 2, 7, 8] (fun bd xx _ _ wr => ∃ (x : Nat) (bv : Value) (Bl : List Int) (K : Int → List Int) (R : Nat → List Int) (T : Int → Node) (S : RSt) (s1 : Int), bd = bv ∧ xx = .int .i64 x ∧ GathJ n W i E R0 Z K R T S Bl (x :: P) ∧ Bl.length ≤ n + 1 ∧ (s ≤ s1 ∧ s1 + (potN W K (lostOf T) : Nat) ≤ PP) ∧
      Stage F0 W0 (fbF f c rp (.slice (some ⟨g, 0, none⟩) n k) n W s1 T S ++ [A, B, C, D, G, L, Ob.ints bv Bl]) wr) (fun _ xx _ _ wr => n + 1 - degAt wr g xx)
  case atStart => exact ⟨x, bv, Bl, K, R, T, S, s, rfl, rfl, J, hBl, hp0, h⟩
  case round =>
    clear h J hx hxn hp0 hBl
    obtain ⟨x, bv, Bl, K, R, T, S, s1, rfl, rfl, J, hBl, hp0, hs⟩ := hrel
    have hx := (J.isR (y := (x : Int)) (by simp)).2.1
    have hxn : x < n := by have := hx.2; omega
    obtain ⟨g', k', e, _, _, _, hc, hf⟩ := nf_row hs (by omega)
    cases e
    have c2 := nf_c2 hs
    obtain ⟨_, _, u2, _⟩ := hc x hxn
    have hdg := J.tied.deg x hx
    rw [hdg] at u2
    have hI := J.mid.f.fb
    rw [J.len] at hI
    have hdn : (K x).length ≤ n := nodup_below n _ (hI.nodup x) fun y hy => (hI.rng x y hy).2
    have hm0 : degAt wr g (.int .i64 x) = (K x).length := by
      unfold degAt
      rw [show (intOf (.int .i64 (x : Int))).toNat = x from by simp [intOf], u2]; simp
    obtain ⟨a', c', rfl, hv1, hv2⟩ := hs.intsForm 10 rfl
    generalize hd : (K x).length = d at *
    replace hdg := Lib.hid hdg
    replace hd := Lib.hid hd
    clear hc hf hI
    go_wp2_with fail
    go_loopw [1] (fun bd wi => ∃ (a : Option Addr) (Bl : List Int) (cb : Nat), bd = .slice a Bl.length cb ∧ GathJ n W i E R0 Z K R T S Bl (x :: P) ∧ Bl.length ≤ n + 1 ∧ Stage F0 W0 (fbF f c rp (.slice (some ⟨g, 0, none⟩) n k) n W s1 T S ++ [A, B, C, D, G, L, Ob.ints (.slice a Bl.length cb) Bl]) wi) (fun bd _ => d + 1 - lenS bd)
    case atStart => exact ⟨_, Bl, _, rfl, J, hBl, hs⟩
    case round =>
      clear hs J hBl hv1 hv2 c2 u2
      obtain ⟨a, Bl, cb, rfl, J, hBl, hs⟩ := hrel
      obtain ⟨_, _, e9, hv1, hv2⟩ := hs.intsForm 10 rfl
      cases e9
      by_cases hlt : Bl.length ≤ d
      · have hli : (Bl.length : Int) ≤ d := by omega
        have J2 := J.grow
        have hL2 : (Bl ++ [(-1 : Int)]).length = Bl.length + 1 := by simp
        clear J
        generalize hm : Bl.length = m at *
        go_wp2_with (at_builtin; refine hs.wp_appendInt (x := -1) 10 rfl rfl rfl _ _ 112 rfl Try.underlying112 sinfo_int rfl rfl (by omega) ?_)
        intro v2 w2 hN2
        replace hN2 : Stage F0 W0 (fbF f c rp (.slice (some ⟨g, 0, none⟩) n k) n W s1 T S ++ [A, B, C, D, G, L, Ob.ints v2 (Bl ++ [(-1 : Int)])]) w2 := hN2
        obtain ⟨a2, c2, rfl, _, _⟩ := hN2.intsForm 10 rfl
        clear hs
        go_wp2_with fail
        go_roundw
        case rel => exact ⟨a2, Bl ++ [(-1 : Int)], c2, rfl, J2, by omega, hN2⟩
        case measure => simp only [lenS, hL2]; omega
      · have hli : ¬ (Bl.length : Int) ≤ d := by omega
        have hdl : d < Bl.length := by omega
        obtain ⟨gr, cr, e, _, _, hgr, hcr, hfr⟩ := hs.intsAt 10 rfl (by omega)
        cases e
        have ux := hcr d hdl
        have hfd := hfr d
        have hji : (d : Int) < Bl.length := by omega
        obtain ⟨o, ho⟩ : ∃ o, Bl.getD d 0 = o := ⟨_, rfl⟩
        rw [ho] at ux
        by_cases e : o = -1
        · subst e
          have J2 := J.put hdl hd.out ho
          have hst : Stage F0 W0 (fbF f c rp (.slice (some ⟨g, 0, none⟩) n k) n W s1 T S ++ [A, B, C, D, G, L, Ob.ints (.slice (some ⟨gr, 0, none⟩) Bl.length cb) (Bl.set d x)]) (wr.setCell ⟨gr, d, none⟩ (.int .i64 (x : Int))) := by
            have h1 := hs.storeRow 10 rfl d (.int .i64 (x : Int)) (intC_set _ d _)
            have h2 : (Bl.set d (x : Int)).length = Bl.length := List.length_set
            unfold Ob.ints
            rw [h2]
            exact h1
          have hBl2 : (Bl.set d (x : Int)).length ≤ n + 1 := by rw [List.length_set]; exact hBl
          clear hs J hcr hfr hBl
          go_wp2_with fail
          go_ret
          exact ⟨_, Bl.set d x, K, R, T, S, s1, rfl, J2, hBl2, hp0, hst⟩
        · have he : (o == -1) = false := by simpa using e
          have hoR := J.isR (y := o) (by
            refine List.mem_append.2 (Or.inl (mem_keepI.2 ⟨?_, e⟩))
            rw [← ho]; exact mem_getD' Bl d 0 hdl)
          have hxR := J.isR (y := (x : Int)) (by simp)
          have hst : Stage F0 W0 (fbF f c rp (.slice (some ⟨g, 0, none⟩) n k) n W s1 T S ++ [A, B, C, D, G, L, Ob.ints (.slice (some ⟨gr, 0, none⟩) Bl.length cb) (Bl.set d (-1))]) (wr.setCell ⟨gr, d, none⟩ (.int .i64 (-1))) := by
            have h1 := hs.storeRow 10 rfl d (.int .i64 (-1)) (intC_set _ d _)
            have h2 : (Bl.set d (-1 : Int)).length = Bl.length := List.length_set
            unfold Ob.ints
            rw [h2]
            exact h1
          have hBl2 : (Bl.set d (-1 : Int)).length ≤ n + 1 := by rw [List.length_set]; exact hBl
          have hst0 := (nf_fit hs).2
          have I := J.mid.f.fb
          have hro := J.mid.roots
          rw [J.len] at I hro
          have hox : o ≠ (x : Int) := fun e2 => by
            have h1 := J.mid.nd i
            rw [J.perm.nodup_iff, List.nodup_append] at h1
            exact h1.2.2 o (mem_keepI.2 ⟨by rw [← ho]; exact mem_getD' Bl d 0 hdl, e⟩) x (by simp) e2
          have hLk := link_fb hst J.tied I hro hoR.1 hxR.1 hox
          have hJJ := fun T' S' H hL => J.link (T' := T') (S' := S') hdl hd.out ho e H hL
          have hcn : inB n (lkC W o x) := by
            rcases lk_cases W o x with ⟨e1, _⟩ | ⟨e1, _⟩
            · rw [e1]; exact hoR.2.1
            · rw [e1]; exact hxR.2.1
          have hstep : s1 ≤ aheadS W s1 x o ∧ aheadS W s1 x o ≤ s1 + 1 := by
            unfold aheadS addI
            repeat' split
            all_goals omega
          clear hs J hcr hfr hBl hoR hxR I hro hst hst0 ho
          generalize aheadS W s1 x o = s2 at *
          generalize hKK : fbHang K (lkC W o x) (lkD W o x :: K (lkC W o x)) = K2 at *
          generalize hRR : updR R i ((R i).erase (lkD W o x)) = R2 at *
          generalize lkC W o x = z at *
          generalize lkD W o x = z2 at *
          generalize hBB : Bl.set d (-1) = B2 at *
          replace hKK := Lib.hid hKK
          replace hRR := Lib.hid hRR
          replace hBB := Lib.hid hBB
          obtain ⟨z, rfl⟩ : ∃ i : Nat, z = i := ⟨z.toNat, by have := hcn.1; omega⟩
          have hzn : z < n := by have := hcn.2; omega
          go_wp2_with fail
          refine hLk.mono ?_
          rintro e w2 ⟨rfl, T', S', hT, hL, h4⟩
          obtain ⟨J2, hz, hpot⟩ := hJJ T' S' hT hL
          have hzd := J2.tied.deg z hcn
          obtain ⟨g', k', e, _, _, _, hc, hf⟩ := nf_row h4 (by omega)
          cases e
          obtain ⟨_, _, u2, _⟩ := hc z hzn
          rw [hzd, hz] at u2
          clear hLk hJJ hT hL hc hf
          go_wp2_with fail
          go_roundw
          case rel => exact ⟨z, _, B2, K2, R2, T', S', s2, rfl, rfl, J2, hBl2, ⟨by omega, by omega⟩, h4⟩
          case measure =>
            rw [hm0]
            have hm1 : degAt w2 g (.int .i64 z) = d + 1 := by
              unfold degAt
              rw [show (intOf (.int .i64 (z : Int))).toNat = z from by simp [intOf], u2]
              show ((d + 1 : Nat) : Int).toNat = d + 1
              omega
            rw [hm1]; omega
end
end Go.Proofs.Ytcjjglaimfhofaa
