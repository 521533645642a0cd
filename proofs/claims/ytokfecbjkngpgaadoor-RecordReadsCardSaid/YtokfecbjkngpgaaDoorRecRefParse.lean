/- The document's Parse: piece by piece; of what was in memory nothing is changed. -/
import Derived.Test.YtokfecbjkngpgaaDoorRecSmall
import Derived.Test.YtokfecbjkngpgaaDoorRec8
import Derived.Deep.CutBlock
import Derived.Deep.RegionHeld3
namespace Go.Proofs.YtokfecbjkngpgaaDoor
open Go.RowKit Go.Sort Go.Lib

/-- A text's pieces lie in a row. -/
abbrev Pc (g N q : Nat) (P : List (List UInt8)) : Ob := Ob.row 0 9 1 (.slice (some ⟨g, 0, none⟩) N q) N (cellsBy strC P)
abbrev PrSt (W w : World) (p g N q d e n : Nat) (P : List (List UInt8)) (A B K : Int) : Prop :=
  Stage (fun _ => False) W [Ob.box p #[.int .i64 0, .int .u32 0, .int .u32 0, .int .i64 0] 24, Pc g N q P, Ob.box d #[.bool (Rec.hA n), .bool (Rec.hB n), .bool (Rec.hK n)] 4, Ob.box e #[.int .i64 n, .int .u32 A, .int .u32 B, .int .i64 K] 24] w
theorem pc_cell {F0 : Nat → Prop} {W w : World} {l : List Ob} {g N q : Nat} {P : List (List UInt8)} (hs : Stage F0 W l w) (k : Nat) (hk : l[k]? = some (Pc g N q P)) (i : Nat) {x : List UInt8} (hx : P[i]? = some x) : w.cell? ⟨g, i, none⟩ = some (.string (bs x)) := by
  have ho := hs.owns k hk
  have hi : i < P.length := (List.getElem?_eq_some_iff.1 hx).1
  have hl : (cellsBy strC P).length = N * 1 := ho.1
  have hl2 : (cellsBy strC P).length = P.length := by
    have : ∀ Q : List (List UInt8), (cellsBy strC Q).length = Q.length := by
      intro Q
      induction Q with
      | nil => rfl
      | cons y Q ih => rw [show cellsBy strC (y :: Q) = .string (bs y) :: cellsBy strC Q from rfl]; simp [ih]
    exact this P
  rw [ho.cellAt i (by omega)]
  have hP : ∀ (Q : List (List UInt8)) (i : Nat), (cellsBy strC Q)[i]? = Q[i]?.map fun x => .string (bs x) := by
    intro Q
    induction Q with
    | nil => intro i; simp [cellsBy]
    | cons y Q ih =>
      intro i
      rw [show cellsBy strC (y :: Q) = .string (bs y) :: cellsBy strC Q from rfl]
      cases i with
      | zero => rfl
      | succ i => simpa using ih i
  rw [hP, hx]
  rfl
section
variable {W w : World} {p g N q d e n : Nat} {P : List (List UInt8)} {A B K : Int}
theorem pr_res {F0 : Nat → Prop} {l : List Ob} (hs : Stage F0 W (Ob.box p #[.int .i64 0, .int .u32 0, .int .u32 0, .int .i64 0] 24 :: l) w) : (w.cell? ⟨p, 0, none⟩ = some (.int .i64 0) ∧ w.cell? ⟨p, 1, none⟩ = some (.int .u32 0) ∧ w.cell? ⟨p, 2, none⟩ = some (.int .u32 0) ∧ w.cell? ⟨p, 3, none⟩ = some (.int .i64 0)) ∧
    w.frozen? ⟨p, 0, none⟩ = false ∧ w.frozen? ⟨p, 1, none⟩ = false ∧ w.frozen? ⟨p, 2, none⟩ = false ∧ w.frozen? ⟨p, 3, none⟩ = false ∧ p < w.heap.size :=
  ⟨⟨hs.cell 0 rfl rfl, hs.cell 0 rfl rfl, hs.cell 0 rfl rfl, hs.cell 0 rfl rfl⟩, hs.free 0 rfl _, hs.free 0 rfl _, hs.free 0 rfl _, hs.free 0 rfl _, hs.lt 0 rfl⟩
theorem pr_rec (hs : PrSt W w p g N q d e n P A B K) : (w.cell? ⟨e, 0, none⟩ = some (.int .i64 n) ∧ w.cell? ⟨e, 1, none⟩ = some (.int .u32 A) ∧ w.cell? ⟨e, 2, none⟩ = some (.int .u32 B) ∧ w.cell? ⟨e, 3, none⟩ = some (.int .i64 K)) ∧
    w.frozen? ⟨e, 1, none⟩ = false ∧ w.frozen? ⟨e, 2, none⟩ = false ∧ w.frozen? ⟨e, 3, none⟩ = false ∧ e < w.heap.size ∧ e ≠ p ∧ p ≠ e :=
  ⟨⟨hs.cell 3 rfl rfl, hs.cell 3 rfl rfl, hs.cell 3 rfl rfl, hs.cell 3 rfl rfl⟩, hs.free 3 rfl _, hs.free 3 rfl _, hs.free 3 rfl _, hs.lt 3 rfl, hs.ne 3 0 rfl rfl (by decide), hs.ne 0 3 rfl rfl (by decide)⟩
theorem pr_has (hs : PrSt W w p g N q d e n P A B K) (j : Nat) (hj : j < 3) : w.cell? ⟨d, j, none⟩ = some (.bool (Rec.has n j)) := by
  have hj' : j = 0 ∨ j = 1 ∨ j = 2 := by omega
  rcases hj' with rfl | rfl | rfl
  · exact hs.cell 2 rfl rfl
  · exact hs.cell 2 rfl rfl
  · exact hs.cell 2 rfl rfl
theorem pr_A (hs : PrSt W w p g N q d e n P A B K) (A' : Int) : PrSt W (w.setCell ⟨e, 1, none⟩ (.int .u32 A')) p g N q d e n P A' B K := hs.store 3 rfl 1 _
theorem pr_B (hs : PrSt W w p g N q d e n P A B K) (B' : Int) : PrSt W (w.setCell ⟨e, 2, none⟩ (.int .u32 B')) p g N q d e n P A B' K := hs.store 3 rfl 2 _
theorem pr_K (hs : PrSt W w p g N q d e n P A B K) (K' : Int) : PrSt W (w.setCell ⟨e, 3, none⟩ (.int .i64 K')) p g N q d e n P A B K' := hs.store 3 rfl 3 _
end
theorem bs_size' (l : List UInt8) : (bs l).size = l.length := rfl
theorem from3_no {o n i : Nat} {r : Rec.R} {rest : List (List UInt8)} (hh : Rec.has o i = false) : Rec.from3 o (n + 1) i r rest = Rec.from3 o n (i + 1) r rest := by
  cases rest <;> simp [Rec.from3, hh]
theorem from3_yes {o n i : Nat} {r : Rec.R} {x : List UInt8} {t : List (List UInt8)} (hh : Rec.has o i = true) : Rec.from3 o (n + 1) i r (x :: t) = if Rec.okI i x = true then Rec.from3 o n (i + 1) (Rec.setI i r x) t else Rec.bad := by
  simp [Rec.from3, hh]
theorem from3_out {o n i : Nat} {r : Rec.R} (hh : Rec.has o i = true) : Rec.from3 o (n + 1) i r [] = Rec.bad := by
  simp [Rec.from3, hh]
theorem cells_drop (i : Nat) : ∀ P : List (List UInt8), cellsBy strC (P.drop i) = (cellsBy strC P).drop i := by
  induction i with
  | zero => intro P; simp
  | succ i ih =>
    intro P
    cases P with
    | nil => simp [cellsBy]
    | cons y P => rw [show cellsBy strC (y :: P) = .string (bs y) :: cellsBy strC P from rfl]; simp [ih]
theorem reads_rest {F0 : Nat → Prop} {W w : World} {l : List Ob} {g N q : Nat} {P : List (List UInt8)} (hs : Stage F0 W l w) (k : Nat) (hk : l[k]? = some (Pc g N q P)) (i : Nat) (hi : i ≤ N) (b : Addr) (hb : i < N → b = ⟨g, i, none⟩) (c : Nat) : RowReads w 1 (.slice (some b) (N - i) c) (N - i) (cellsBy strC (P.drop i)) := by
  have ho := hs.owns k hk
  by_cases h : i < N
  · obtain rfl := hb h
    have := reads_sub ho i (N - i) c (by omega)
    rw [Nat.mul_one] at this
    rw [cells_drop]
    have hl : (cellsBy strC P).length = N * 1 := ho.1
    rwa [List.take_of_length_le (by rw [List.length_drop]; omega)] at this
  · have hz : N - i = 0 := by omega
    have hl : (cellsBy strC P).length = N * 1 := ho.1
    rw [hz, cells_drop, List.drop_eq_nil_of_le (by omega)]
    exact reads_empty _ _ _ _
theorem if_addr {p : Prop} [Decidable p] (a b : Addr) : (if p then some a else some b) = some (if p then a else b) := by split <;> rfl
theorem small_num {l : List UInt8} (h : (Rec.small l).2 = true) : (Num.numR l).2 = true := by
  unfold Rec.small at h
  split at h
  · rename_i hc; exact hc.1
  · simp at h
theorem splits_len (c : UInt8) : ∀ l : List UInt8, (Rec.splits c l).length ≤ l.length + 1
  | [] => by simp [Rec.splits]
  | d :: l => by
    have ih := splits_len c l
    unfold Rec.splits
    split
    · simp; omega
    · split
      · simp
      · rename_i x xs hx
        rw [hx] at ih
        simp at ih ⊢
        omega
theorem splits_short (c : UInt8) : ∀ l : List UInt8, ∀ x ∈ Rec.splits c l, x.length ≤ l.length
  | [], x, h => by simp [Rec.splits] at h; subst h; simp
  | d :: l, x, h => by
    have ih := splits_short c l
    unfold Rec.splits at h
    split at h
    · rcases List.mem_cons.1 h with e | e
      · subst e; simp
      · have := ih x e; simp; omega
    · split at h
      · simp at h; subst h; simp
      · rename_i y ys hy
        rcases List.mem_cons.1 h with e | e
        · subst e
          have := ih y (by rw [hy]; simp)
          simp; exact this
        · have := ih x (by rw [hy]; simp [e])
          simp; omega

set_option maxHeartbeats 16000000 in
set_option maxRecDepth 100000 in
theorem refParse_any (s : ByteArray) (hs : s.size ≤ 300) (w : World) :
    Calls Tryd.prog 22 #[.string s] w fun e w' => e = .returned (.tuple #[recV (Rec.parR s.data.toList).1, .int .i64 (Rec.parR s.data.toList).2]) ∧ Below w.heap.size w w' := by
  have HC := Lib.hid (refCut_any s hs 32)
  have hsl : s.data.toList.length = s.size := rfl
  have hlen := splits_len 32 s.data.toList
  have hsh := splits_short 32 s.data.toList
  obtain ⟨w0, t, hsp⟩ : ∃ w0 t, Rec.splits 32 s.data.toList = w0 :: t := by
    cases h : Rec.splits 32 s.data.toList with
    | nil => exact absurd h (Rec.splits_ne _ _)
    | cons a b => exact ⟨a, b, rfl⟩
  have hE0 : Rec.findW w0 = none → Rec.parR s.data.toList = Rec.bad := fun h => by unfold Rec.parR; rw [hsp]; simp only [h]
  have hE1 : ∀ o, Rec.findW w0 = some o → Rec.pieces o t = none → Rec.parR s.data.toList = Rec.bad := fun o h h' => by unfold Rec.parR; rw [hsp]; simp only [h, h']
  have hE2 : ∀ o p, Rec.findW w0 = some o → Rec.pieces o t = some p → Rec.parR s.data.toList = Rec.from3 o 3 0 ⟨o, 0, 0, 0⟩ p := fun o p h h' => by unfold Rec.parR; rw [hsp]; simp only [h, h']
  rw [hsp] at HC hlen hsh
  have hfy : ∀ k, k ≤ 10 → Rec.word k = w0 → (∀ i, i < k → Rec.word i ≠ w0) → Rec.findW w0 = some k := fun k h1 h2 h3 => findW_some h1 h2 h3
  have hfn := @findW_none w0
  have hs0 := (Stage.start w).alloc #[.int .i64 0, .int .u32 0, .int .u32 0, .int .i64 0] 24
  generalize Rec.parR s.data.toList = E at *
  obtain ⟨E, er⟩ := E
  have HE0 := Lib.hid hE0
  have HE1 := Lib.hid hE1
  have HE2 := Lib.hid hE2
  have HFY := Lib.hid hfy
  have HFN := Lib.hid hfn
  have HSH := Lib.hid hsh
  clear hE0 hE1 hE2 hfy hfn hsp hsh
  obtain ⟨N, hN⟩ : ∃ N, N = (w0 :: t).length := ⟨_, rfl⟩
  rw [← hN] at HC hlen
  have hNt : N = t.length + 1 := by rw [hN]; rfl
  have hN1 : 1 ≤ N := by omega
  have HNt := Lib.hid hNt
  clear hN hNt
  go_enter Tryd.func22, Tryd.ntmps22
  go_wp2_with fail
  refine (HC.out _).mono ?_
  rintro e w1 ⟨v, rfl, ⟨g, c, rfl⟩, F', ho, hn, hb⟩
  have hs1 := hs0.add hb ho hn
  clear hs0 ho hn hb HC F'
  obtain ⟨g, rfl, hNc⟩ : ∃ g', g = some ⟨g', 0, none⟩ ∧ N ≤ c := by
    obtain ⟨b, c', hv, h1, _⟩ := owns_slice (hs1.owns 1 rfl) (by omega)
    injection hv with e1 e2 e3
    exact ⟨b, e1, by omega⟩
  have hp : w.heap.size ≤ w.heap.size := Nat.le_refl _
  replace hs1 : Stage (fun _ => False) w [Ob.box w.heap.size #[.int .i64 0, .int .u32 0, .int .u32 0, .int .i64 0] 24, Pc g N c (w0 :: t)] w1 := hs1
  generalize hpp : w.heap.size = p at hs1 hp ⊢
  have hpw := hpp
  clear hpp
  go_wp2_with fail
  go_loopw [5] (fun mv wr => ∃ m : Nat, mv = .int .i64 m ∧ m ≤ 11 ∧ Hid (∀ i, i < m → Rec.word i ≠ w0) ∧ Stage (fun _ => False) w [Ob.box p #[.int .i64 0, .int .u32 0, .int .u32 0, .int .i64 0] 24, Pc g N c (w0 :: t)] wr) (fun mv _ => 11 - (RowKit.intOf mv).toNat)
  case atStart => exact ⟨0, rfl, by omega, Lib.hid (fun i hi => absurd hi (Nat.not_lt_zero _)), hs1⟩
  case round =>
    clear hs1
    obtain ⟨m, rfl, hm, hno, hst⟩ := hrel
    by_cases hm11 : m < 11
    · have hmi : (m : Int) ≤ 10 := by omega
      have u0 := cell_regrown (pc_cell hst 1 rfl 0 (x := w0) rfl)
      have hgl := hst.keeps.size
      have cW : ∀ d os, Calls Tryd.prog 26 #[.int .i64 m] (grow (redrawn wr d) os) fun e w'' => e = .returned (.string (bs (Rec.word m))) ∧ ∃ p : Regrown, w'' = grow (redrawn wr p.d) p.os := fun d os => Calls.regrown_of (refWord_in m (by omega) _)
      have hNi : (0 : Int) < (N : Int) := by omega
      by_cases e : Rec.word m = w0
      · have hf := HFY.out m (by omega) e hno.out
        rw [e] at cW
        have hPN : (w0 :: t).length = N := by have := HNt.out; simp; omega
        have HPS : Hid (∀ x, x ∈ w0 :: t → x.length ≤ 300) := Lib.hid fun x hx => by have := HSH.out x hx; omega
        clear HFY HFN HE0 hno HSH
        generalize bs w0 = S at *
        go_upto_region 5 with fail
        refine wp_region_quiet_below (by kernel_rfl) (by kernel_rfl) ?_
        repeat (first | go_big_quiet_step (first | with_reducible exact cW _ _) | quiet_step (fail))
        refine wpQuiet_nil ?_
        intro W3 hw'
        replace hw' := below_regrown' hw'
        replace hst := hst.later hw'
        clear u0 cW hw'
        cases hH : Rec.handle m with
        | false =>
          have hpc : Rec.pieces m t = some t := by cases t with | nil => rfl | cons x t => simp [Rec.pieces, hH]
          have HQ0 := Lib.hid (HE2.out m t hf hpc)
          have HH := Lib.hid (refHandle_in m (by omega))
          rw [hH] at HH
          have HA := Lib.hid (refA_in m (by omega))
          have HB := Lib.hid (refB_in m (by omega))
          have HK := Lib.hid (refK_in m (by omega))
          go_wp2_with (first
            | (go_at_call 32; refine (HH.out _).mono ?_; rintro e w' ⟨rfl, rfl⟩)
            | (go_at_call 27; refine (HA.out _).mono ?_; rintro e w' ⟨rfl, rfl⟩)
            | (go_at_call 28; refine (HB.out _).mono ?_; rintro e w' ⟨rfl, rfl⟩)
            | (go_at_call 29; refine (HK.out _).mono ?_; rintro e w' ⟨rfl, rfl⟩))
          all_goals
            have hst4 := (hst.alloc #[.bool (Rec.hA m), .bool (Rec.hB m), .bool (Rec.hK m)] 4).alloc #[.int .i64 m, .int .u32 0, .int .u32 0, .int .i64 0] 24
            simp only [World.size_alloc] at hst4
            replace hst : PrSt w ((W3.alloc (.cells #[.bool (Rec.hA m), .bool (Rec.hB m), .bool (Rec.hK m)] 4)).alloc (.cells #[.int .i64 m, .int .u32 0, .int .u32 0, .int .i64 0] 24)) p g N c W3.heap.size (W3.heap.size + 1) m (w0 :: t) 0 0 0 := hst4
            clear hst4 HA HB HK HH HE1 HE2 hf
            generalize W3.heap.size + 1 = ep at hst ⊢
            generalize W3.heap.size = dp at hst ⊢
            have HQ : Hid ((E, er) = Rec.from3 m 3 0 ⟨m, 0, 0, 0⟩ ((w0 :: t).drop 1)) := HQ0
            obtain ⟨P, hP⟩ : ∃ P, P = w0 :: t := ⟨_, rfl⟩
            rw [← hP] at HQ hst hPN HPS
            clear hP HQ0 e HNt
            go_loopw [6, 61] (fun rv jv wr => ∃ (j i q : Nat) (a : Option Addr) (A B K : Int), jv = .int .i64 j ∧ j ≤ 3 ∧ rv = .slice a (N - i) q ∧ i ≤ N ∧ N - i ≤ q ∧ (i < N → a = some ⟨g, i, none⟩) ∧ Hid ((E, er) = Rec.from3 m (3 - j) j ⟨m, A, B, K⟩ (P.drop i)) ∧ PrSt w wr p g N c dp ep m P A B K) (fun _ jv _ => 3 - (RowKit.intOf jv).toNat)
            case atStart => exact ⟨0, 1, _, _, 0, 0, 0, rfl, by omega, by first | rfl | (rw [hNz2]), by omega, by omega, by first | exact fun _ => rfl | exact fun h => absurd h (by omega), HQ, hst⟩
            case round =>
              clear hst HQ
              obtain ⟨j, i, q, a, A, B, K, rfl, hj, rfl, hiM, hq, ha, hE, hst⟩ := hrel
              obtain ⟨⟨c0, c1, c2, c3⟩, f0, f1, f2, f3, hl⟩ := pr_res hst
              obtain ⟨⟨r0, r1, r2, r3⟩, s1, s2, s3, hle, hep, hpe⟩ := pr_rec hst
              by_cases hj3 : j < 3
              · have hji : (j : Int) < 3 := by omega
                have uj := pr_has hst j hj3
                cases hh : Rec.has m j with
                | false =>
                  rw [hh] at uj
                  have hE2 : (E, er) = Rec.from3 m (3 - (j + 1)) (j + 1) ⟨m, A, B, K⟩ (P.drop i) := by
                    rw [hE.out, show 3 - j = (3 - (j + 1)) + 1 by omega, from3_no hh]
                  have HE2 := Lib.hid hE2
                  clear hE hE2
                  go_wp2_with fail
                  go_roundw
                  case rel => exact ⟨j + 1, i, q, a, A, B, K, by go_num, by omega, rfl, hiM, hq, ha, HE2, hst⟩
                  case measure => simp [RowKit.intOf]; omega
                | true =>
                  rw [hh] at uj
                  have hEE := hE.out
                  rw [show 3 - j = (3 - (j + 1)) + 1 by omega] at hEE
                  by_cases hi : i < N
                  · obtain rfl := ha hi
                    obtain ⟨x, hx⟩ : ∃ x, P[i]? = some x := ⟨P[i]'(by omega), List.getElem?_eq_getElem (by omega)⟩
                    have hdr : P.drop i = x :: P.drop (i + 1) := by rw [List.drop_eq_getElem_cons (by omega)]; congr 1; exact (List.getElem?_eq_some_iff.1 hx).2
                    have hxs : x.length ≤ 300 := HPS.out x (List.mem_of_getElem? hx)
                    have ux := pc_cell hst 1 rfl i hx
                    have hS := fun w => refSmall_any (bs x) (by rw [bs_size']; omega) w
                    have hN' := fun w => refNumber_any (bs x) (by rw [bs_size']; omega) w
                    rw [show (bs x).data.toList = x from rfl] at hS hN'
                    have hMi : ¬ N - i = 0 := by omega
                    have hMi2 : (0 : Int) < ((N - i : Nat) : Int) := by omega
                    have hMi3 : ¬ ((N - i : Nat) : Int) = 0 := by omega
                    rw [hdr, from3_yes hh] at hEE
                    have hj' : j = 0 ∨ j = 1 ∨ j = 2 := by omega
                    by_cases hk : Rec.okI j x = true
                    · rw [if_pos hk] at hEE
                      rcases hj' with rfl | rfl | rfl
                      · have hsm : (Rec.small x).2 = true := by simpa [Rec.okI] using hk
                        have hnm := small_num hsm
                        rw [hsm] at hS
                        rw [hnm] at hN'
                        generalize (Num.numR x).1 = kk at hN'
                        have hEE' : (E, er) = Rec.from3 m (3 - 1) 1 ⟨m, (Rec.small x).1, B, K⟩ (P.drop (i + 1)) := by simpa [Rec.setI] using hEE
                        generalize (Rec.small x).1 = n at hS hEE'
                        have HEE := Lib.hid hEE'
                        have HS1 := Lib.hid hS
                        have HN1 := Lib.hid hN'
                        clear hEE hEE' hS hN' hE hdr hx hk
                        go_wp2_with (first
                          | (go_at_call 40; refine (HS1.out _).mono ?_; rintro e w' ⟨rfl, rfl⟩)
                          | (go_at_call 41; refine (HN1.out _).mono ?_; rintro e w' ⟨rfl, rfl⟩))
                        all_goals
                          replace hst := pr_A hst n
                          go_roundw
                          case rel => exact ⟨1, i + 1, _, _, n, B, K, by go_num, by omega, by rw [show N - (i + 1) = N - i - 1 by omega], by omega, by omega, fun h => if_neg (by omega), HEE, hst⟩
                          case measure => simp [RowKit.intOf]
                      · have hsm : (Rec.small x).2 = true := by simpa [Rec.okI] using hk
                        have hnm := small_num hsm
                        rw [hsm] at hS
                        rw [hnm] at hN'
                        generalize (Num.numR x).1 = kk at hN'
                        have hEE' : (E, er) = Rec.from3 m (3 - 2) 2 ⟨m, A, (Rec.small x).1, K⟩ (P.drop (i + 1)) := by simpa [Rec.setI] using hEE
                        generalize (Rec.small x).1 = n at hS hEE'
                        have HEE := Lib.hid hEE'
                        have HS1 := Lib.hid hS
                        have HN1 := Lib.hid hN'
                        clear hEE hEE' hS hN' hE hdr hx hk
                        go_wp2_with (first
                          | (go_at_call 40; refine (HS1.out _).mono ?_; rintro e w' ⟨rfl, rfl⟩)
                          | (go_at_call 41; refine (HN1.out _).mono ?_; rintro e w' ⟨rfl, rfl⟩))
                        all_goals
                          replace hst := pr_B hst n
                          go_roundw
                          case rel => exact ⟨2, i + 1, _, _, A, n, K, by go_num, by omega, by rw [show N - (i + 1) = N - i - 1 by omega], by omega, by omega, fun h => if_neg (by omega), HEE, hst⟩
                          case measure => simp [RowKit.intOf]
                      · have hnm : (Num.numR x).2 = true := by simpa [Rec.okI] using hk
                        rw [hnm] at hN'
                        generalize (Rec.small x).1 = kk at hS
                        generalize (Rec.small x).2 = kb at hS
                        have hEE' : (E, er) = Rec.from3 m (3 - 3) 3 ⟨m, A, B, (Num.numR x).1⟩ (P.drop (i + 1)) := by simpa [Rec.setI] using hEE
                        generalize (Num.numR x).1 = n at hN' hEE'
                        have HEE := Lib.hid hEE'
                        have HS1 := Lib.hid hS
                        have HN1 := Lib.hid hN'
                        clear hEE hEE' hS hN' hE hdr hx hk
                        go_wp2_with (first
                          | (go_at_call 40; refine (HS1.out _).mono ?_; rintro e w' ⟨rfl, rfl⟩)
                          | (go_at_call 41; refine (HN1.out _).mono ?_; rintro e w' ⟨rfl, rfl⟩))
                        all_goals
                          replace hst := pr_K hst n
                          go_roundw
                          case rel => exact ⟨3, i + 1, _, _, A, B, n, by go_num, by omega, by rw [show N - (i + 1) = N - i - 1 by omega], by omega, by omega, fun h => if_neg (by omega), HEE, hst⟩
                          case measure => simp [RowKit.intOf]
                    · rw [if_neg hk] at hEE
                      rcases hj' with rfl | rfl | rfl
                      · have hsm : (Rec.small x).2 = false := by simpa [Rec.okI] using hk
                        rw [hsm] at hS
                        generalize (Rec.small x).1 = kk at hS
                        generalize (Num.numR x).1 = k1 at hN'
                        generalize (Num.numR x).2 = k2 at hN'
                        have HS1 := Lib.hid hS
                        have HN1 := Lib.hid hN'
                        clear hS hN' hE hdr hx hk
                        obtain ⟨rfl, rfl⟩ : E = ⟨0, 0, 0, 0⟩ ∧ er = 181 := by simpa [Rec.bad, Rec.zero] using hEE
                        have HS := Lib.hid hst.below
                        clear hst hEE
                        go_wp2_with (first
                          | (go_at_call 40; refine (HS1.out _).mono ?_; rintro e w' ⟨rfl, rfl⟩)
                          | (go_at_call 41; refine (HN1.out _).mono ?_; rintro e w' ⟨rfl, rfl⟩))
                        refine bodyPost_ret (v := .tuple #[recV ⟨0, 0, 0, 0⟩, .int .i64 181]) (by simp [results, Tryd.results22, go_sem, c0, c1, c2, c3, hl]) rfl ⟨rfl, ?_⟩
                        rw [hpw]
                        iterate 4 refine Below.setCell ?_ hp _
                        rw [← hpw]
                        with_reducible exact HS.out
                      · have hsm : (Rec.small x).2 = false := by simpa [Rec.okI] using hk
                        rw [hsm] at hS
                        generalize (Rec.small x).1 = kk at hS
                        generalize (Num.numR x).1 = k1 at hN'
                        generalize (Num.numR x).2 = k2 at hN'
                        have HS1 := Lib.hid hS
                        have HN1 := Lib.hid hN'
                        clear hS hN' hE hdr hx hk
                        obtain ⟨rfl, rfl⟩ : E = ⟨0, 0, 0, 0⟩ ∧ er = 181 := by simpa [Rec.bad, Rec.zero] using hEE
                        have HS := Lib.hid hst.below
                        clear hst hEE
                        go_wp2_with (first
                          | (go_at_call 40; refine (HS1.out _).mono ?_; rintro e w' ⟨rfl, rfl⟩)
                          | (go_at_call 41; refine (HN1.out _).mono ?_; rintro e w' ⟨rfl, rfl⟩))
                        refine bodyPost_ret (v := .tuple #[recV ⟨0, 0, 0, 0⟩, .int .i64 181]) (by simp [results, Tryd.results22, go_sem, c0, c1, c2, c3, hl]) rfl ⟨rfl, ?_⟩
                        rw [hpw]
                        iterate 4 refine Below.setCell ?_ hp _
                        rw [← hpw]
                        with_reducible exact HS.out
                      · have hnm : (Num.numR x).2 = false := by simpa [Rec.okI] using hk
                        rw [hnm] at hN'
                        generalize (Rec.small x).1 = kk at hS
                        generalize (Rec.small x).2 = kb at hS
                        generalize (Num.numR x).1 = k1 at hN'
                        have HS1 := Lib.hid hS
                        have HN1 := Lib.hid hN'
                        clear hS hN' hE hdr hx hk
                        obtain ⟨rfl, rfl⟩ : E = ⟨0, 0, 0, 0⟩ ∧ er = 181 := by simpa [Rec.bad, Rec.zero] using hEE
                        have HS := Lib.hid hst.below
                        clear hst hEE
                        go_wp2_with (first
                          | (go_at_call 40; refine (HS1.out _).mono ?_; rintro e w' ⟨rfl, rfl⟩)
                          | (go_at_call 41; refine (HN1.out _).mono ?_; rintro e w' ⟨rfl, rfl⟩))
                        refine bodyPost_ret (v := .tuple #[recV ⟨0, 0, 0, 0⟩, .int .i64 181]) (by simp [results, Tryd.results22, go_sem, c0, c1, c2, c3, hl]) rfl ⟨rfl, ?_⟩
                        rw [hpw]
                        iterate 4 refine Below.setCell ?_ hp _
                        rw [← hpw]
                        with_reducible exact HS.out
                  · have hiN : i = N := by omega
                    have hdr : P.drop i = [] := List.drop_eq_nil_of_le (by omega)
                    have hz : N - i = 0 := by omega
                    rw [hdr, from3_out hh] at hEE
                    clear hE hdr
                    rw [hz]
                    obtain ⟨rfl, rfl⟩ : E = ⟨0, 0, 0, 0⟩ ∧ er = 181 := by simpa [Rec.bad, Rec.zero] using hEE
                    have HS := Lib.hid hst.below
                    clear hst hEE
                    go_wp2_with fail
                    refine bodyPost_ret (v := .tuple #[recV ⟨0, 0, 0, 0⟩, .int .i64 181]) (by simp [results, Tryd.results22, go_sem, c0, c1, c2, c3, hl]) rfl ⟨rfl, ?_⟩
                    rw [hpw]
                    iterate 4 refine Below.setCell ?_ hp _
                    rw [← hpw]
                    with_reducible exact HS.out
              · obtain rfl : j = 3 := by omega
                have hEE := hE.out
                by_cases hi : i < N
                · obtain ⟨x, y, hdr⟩ : ∃ x y, P.drop i = x :: y := ⟨P[i]'(by omega), P.drop (i + 1), List.drop_eq_getElem_cons (by omega)⟩
                  have hMi2 : (0 : Int) < ((N - i : Nat) : Int) := by omega
                  rw [hdr, show Rec.from3 m (3 - 3) 3 ⟨m, A, B, K⟩ (x :: y) = Rec.bad from rfl] at hEE
                  clear hE hdr
                  obtain ⟨rfl, rfl⟩ : E = ⟨0, 0, 0, 0⟩ ∧ er = 181 := by simpa [Rec.bad, Rec.zero] using hEE
                  have HS := Lib.hid hst.below
                  clear hst hEE
                  go_wp2_with fail
                  refine bodyPost_ret (v := .tuple #[recV ⟨0, 0, 0, 0⟩, .int .i64 181]) (by simp [results, Tryd.results22, go_sem, c0, c1, c2, c3, hl]) rfl ⟨rfl, ?_⟩
                  rw [hpw]
                  iterate 4 refine Below.setCell ?_ hp _
                  rw [← hpw]
                  with_reducible exact HS.out
                · have hz : N - i = 0 := by omega
                  rw [List.drop_eq_nil_of_le (by omega), show Rec.from3 m (3 - 3) 3 ⟨m, A, B, K⟩ [] = (⟨m, A, B, K⟩, 0) from rfl] at hEE
                  obtain ⟨rfl, rfl⟩ : E = ⟨m, A, B, K⟩ ∧ er = 0 := by simpa using hEE
                  have HS := Lib.hid hst.below
                  clear hst hEE hE
                  rw [hz]
                  go_wp2_with fail
                  refine bodyPost_ret (v := .tuple #[recV ⟨m, A, B, K⟩, .int .i64 0]) (by simp [results, Tryd.results22, go_sem, c0, c1, c2, c3, hl]) rfl ⟨rfl, ?_⟩
                  rw [hpw]
                  iterate 4 refine Below.setCell ?_ hp _
                  rw [← hpw]
                  with_reducible exact HS.out
        | true =>
          cases t with
          | nil =>
            have hNe : N = 1 := by have := HNt.out; simpa using this
            have hNz : ¬ (0 : Int) < ((N - 1 : Nat) : Int) := by omega
            have hNz2 : N - 1 = 0 := by omega
            obtain ⟨t, ht⟩ : ∃ t : List (List UInt8), t = [] := ⟨_, rfl⟩
            have hpc : Rec.pieces m t = some t := by rw [ht]; rfl
            rw [← ht] at HE1 HE2 HPS hPN hst HNt
            clear hNe ht
            have HQ0 : Hid ((E, er) = Rec.from3 m 3 0 ⟨m, 0, 0, 0⟩ t) := Lib.hid (HE2.out m t hf hpc)
            have HH := Lib.hid (refHandle_in m (by omega))
            rw [hH] at HH
            have HA := Lib.hid (refA_in m (by omega))
            have HB := Lib.hid (refB_in m (by omega))
            have HK := Lib.hid (refK_in m (by omega))
            go_wp2_with (first
              | (go_at_call 32; refine (HH.out _).mono ?_; rintro e w' ⟨rfl, rfl⟩)
              | (go_at_call 27; refine (HA.out _).mono ?_; rintro e w' ⟨rfl, rfl⟩)
              | (go_at_call 28; refine (HB.out _).mono ?_; rintro e w' ⟨rfl, rfl⟩)
              | (go_at_call 29; refine (HK.out _).mono ?_; rintro e w' ⟨rfl, rfl⟩))
            all_goals
              have hst4 := (hst.alloc #[.bool (Rec.hA m), .bool (Rec.hB m), .bool (Rec.hK m)] 4).alloc #[.int .i64 m, .int .u32 0, .int .u32 0, .int .i64 0] 24
              simp only [World.size_alloc] at hst4
              replace hst : PrSt w ((W3.alloc (.cells #[.bool (Rec.hA m), .bool (Rec.hB m), .bool (Rec.hK m)] 4)).alloc (.cells #[.int .i64 m, .int .u32 0, .int .u32 0, .int .i64 0] 24)) p g N c W3.heap.size (W3.heap.size + 1) m (w0 :: t) 0 0 0 := hst4
              clear hst4 HA HB HK HH HE1 HE2 hf
              generalize W3.heap.size + 1 = ep at hst ⊢
              generalize W3.heap.size = dp at hst ⊢
              have HQ : Hid ((E, er) = Rec.from3 m 3 0 ⟨m, 0, 0, 0⟩ ((w0 :: t).drop 1)) := HQ0
              obtain ⟨P, hP⟩ : ∃ P, P = w0 :: t := ⟨_, rfl⟩
              rw [← hP] at HQ hst hPN HPS
              clear hP HQ0 e HNt
              go_loopw [6, 61] (fun rv jv wr => ∃ (j i q : Nat) (a : Option Addr) (A B K : Int), jv = .int .i64 j ∧ j ≤ 3 ∧ rv = .slice a (N - i) q ∧ i ≤ N ∧ N - i ≤ q ∧ (i < N → a = some ⟨g, i, none⟩) ∧ Hid ((E, er) = Rec.from3 m (3 - j) j ⟨m, A, B, K⟩ (P.drop i)) ∧ PrSt w wr p g N c dp ep m P A B K) (fun _ jv _ => 3 - (RowKit.intOf jv).toNat)
              case atStart => exact ⟨0, 1, _, _, 0, 0, 0, rfl, by omega, by first | rfl | (rw [hNz2]), by omega, by omega, by first | exact fun _ => rfl | exact fun h => absurd h (by omega), HQ, hst⟩
              case round =>
                clear hst HQ
                obtain ⟨j, i, q, a, A, B, K, rfl, hj, rfl, hiM, hq, ha, hE, hst⟩ := hrel
                obtain ⟨⟨c0, c1, c2, c3⟩, f0, f1, f2, f3, hl⟩ := pr_res hst
                obtain ⟨⟨r0, r1, r2, r3⟩, s1, s2, s3, hle, hep, hpe⟩ := pr_rec hst
                by_cases hj3 : j < 3
                · have hji : (j : Int) < 3 := by omega
                  have uj := pr_has hst j hj3
                  cases hh : Rec.has m j with
                  | false =>
                    rw [hh] at uj
                    have hE2 : (E, er) = Rec.from3 m (3 - (j + 1)) (j + 1) ⟨m, A, B, K⟩ (P.drop i) := by
                      rw [hE.out, show 3 - j = (3 - (j + 1)) + 1 by omega, from3_no hh]
                    have HE2 := Lib.hid hE2
                    clear hE hE2
                    go_wp2_with fail
                    go_roundw
                    case rel => exact ⟨j + 1, i, q, a, A, B, K, by go_num, by omega, rfl, hiM, hq, ha, HE2, hst⟩
                    case measure => simp [RowKit.intOf]; omega
                  | true =>
                    rw [hh] at uj
                    have hEE := hE.out
                    rw [show 3 - j = (3 - (j + 1)) + 1 by omega] at hEE
                    by_cases hi : i < N
                    · obtain rfl := ha hi
                      obtain ⟨x, hx⟩ : ∃ x, P[i]? = some x := ⟨P[i]'(by omega), List.getElem?_eq_getElem (by omega)⟩
                      have hdr : P.drop i = x :: P.drop (i + 1) := by rw [List.drop_eq_getElem_cons (by omega)]; congr 1; exact (List.getElem?_eq_some_iff.1 hx).2
                      have hxs : x.length ≤ 300 := HPS.out x (List.mem_of_getElem? hx)
                      have ux := pc_cell hst 1 rfl i hx
                      have hS := fun w => refSmall_any (bs x) (by rw [bs_size']; omega) w
                      have hN' := fun w => refNumber_any (bs x) (by rw [bs_size']; omega) w
                      rw [show (bs x).data.toList = x from rfl] at hS hN'
                      have hMi : ¬ N - i = 0 := by omega
                      have hMi2 : (0 : Int) < ((N - i : Nat) : Int) := by omega
                      have hMi3 : ¬ ((N - i : Nat) : Int) = 0 := by omega
                      rw [hdr, from3_yes hh] at hEE
                      have hj' : j = 0 ∨ j = 1 ∨ j = 2 := by omega
                      by_cases hk : Rec.okI j x = true
                      · rw [if_pos hk] at hEE
                        rcases hj' with rfl | rfl | rfl
                        · have hsm : (Rec.small x).2 = true := by simpa [Rec.okI] using hk
                          have hnm := small_num hsm
                          rw [hsm] at hS
                          rw [hnm] at hN'
                          generalize (Num.numR x).1 = kk at hN'
                          have hEE' : (E, er) = Rec.from3 m (3 - 1) 1 ⟨m, (Rec.small x).1, B, K⟩ (P.drop (i + 1)) := by simpa [Rec.setI] using hEE
                          generalize (Rec.small x).1 = n at hS hEE'
                          have HEE := Lib.hid hEE'
                          have HS1 := Lib.hid hS
                          have HN1 := Lib.hid hN'
                          clear hEE hEE' hS hN' hE hdr hx hk
                          go_wp2_with (first
                            | (go_at_call 40; refine (HS1.out _).mono ?_; rintro e w' ⟨rfl, rfl⟩)
                            | (go_at_call 41; refine (HN1.out _).mono ?_; rintro e w' ⟨rfl, rfl⟩))
                          all_goals
                            replace hst := pr_A hst n
                            go_roundw
                            case rel => exact ⟨1, i + 1, _, _, n, B, K, by go_num, by omega, by rw [show N - (i + 1) = N - i - 1 by omega], by omega, by omega, fun h => if_neg (by omega), HEE, hst⟩
                            case measure => simp [RowKit.intOf]
                        · have hsm : (Rec.small x).2 = true := by simpa [Rec.okI] using hk
                          have hnm := small_num hsm
                          rw [hsm] at hS
                          rw [hnm] at hN'
                          generalize (Num.numR x).1 = kk at hN'
                          have hEE' : (E, er) = Rec.from3 m (3 - 2) 2 ⟨m, A, (Rec.small x).1, K⟩ (P.drop (i + 1)) := by simpa [Rec.setI] using hEE
                          generalize (Rec.small x).1 = n at hS hEE'
                          have HEE := Lib.hid hEE'
                          have HS1 := Lib.hid hS
                          have HN1 := Lib.hid hN'
                          clear hEE hEE' hS hN' hE hdr hx hk
                          go_wp2_with (first
                            | (go_at_call 40; refine (HS1.out _).mono ?_; rintro e w' ⟨rfl, rfl⟩)
                            | (go_at_call 41; refine (HN1.out _).mono ?_; rintro e w' ⟨rfl, rfl⟩))
                          all_goals
                            replace hst := pr_B hst n
                            go_roundw
                            case rel => exact ⟨2, i + 1, _, _, A, n, K, by go_num, by omega, by rw [show N - (i + 1) = N - i - 1 by omega], by omega, by omega, fun h => if_neg (by omega), HEE, hst⟩
                            case measure => simp [RowKit.intOf]
                        · have hnm : (Num.numR x).2 = true := by simpa [Rec.okI] using hk
                          rw [hnm] at hN'
                          generalize (Rec.small x).1 = kk at hS
                          generalize (Rec.small x).2 = kb at hS
                          have hEE' : (E, er) = Rec.from3 m (3 - 3) 3 ⟨m, A, B, (Num.numR x).1⟩ (P.drop (i + 1)) := by simpa [Rec.setI] using hEE
                          generalize (Num.numR x).1 = n at hN' hEE'
                          have HEE := Lib.hid hEE'
                          have HS1 := Lib.hid hS
                          have HN1 := Lib.hid hN'
                          clear hEE hEE' hS hN' hE hdr hx hk
                          go_wp2_with (first
                            | (go_at_call 40; refine (HS1.out _).mono ?_; rintro e w' ⟨rfl, rfl⟩)
                            | (go_at_call 41; refine (HN1.out _).mono ?_; rintro e w' ⟨rfl, rfl⟩))
                          all_goals
                            replace hst := pr_K hst n
                            go_roundw
                            case rel => exact ⟨3, i + 1, _, _, A, B, n, by go_num, by omega, by rw [show N - (i + 1) = N - i - 1 by omega], by omega, by omega, fun h => if_neg (by omega), HEE, hst⟩
                            case measure => simp [RowKit.intOf]
                      · rw [if_neg hk] at hEE
                        rcases hj' with rfl | rfl | rfl
                        · have hsm : (Rec.small x).2 = false := by simpa [Rec.okI] using hk
                          rw [hsm] at hS
                          generalize (Rec.small x).1 = kk at hS
                          generalize (Num.numR x).1 = k1 at hN'
                          generalize (Num.numR x).2 = k2 at hN'
                          have HS1 := Lib.hid hS
                          have HN1 := Lib.hid hN'
                          clear hS hN' hE hdr hx hk
                          obtain ⟨rfl, rfl⟩ : E = ⟨0, 0, 0, 0⟩ ∧ er = 181 := by simpa [Rec.bad, Rec.zero] using hEE
                          have HS := Lib.hid hst.below
                          clear hst hEE
                          go_wp2_with (first
                            | (go_at_call 40; refine (HS1.out _).mono ?_; rintro e w' ⟨rfl, rfl⟩)
                            | (go_at_call 41; refine (HN1.out _).mono ?_; rintro e w' ⟨rfl, rfl⟩))
                          refine bodyPost_ret (v := .tuple #[recV ⟨0, 0, 0, 0⟩, .int .i64 181]) (by simp [results, Tryd.results22, go_sem, c0, c1, c2, c3, hl]) rfl ⟨rfl, ?_⟩
                          rw [hpw]
                          iterate 4 refine Below.setCell ?_ hp _
                          rw [← hpw]
                          with_reducible exact HS.out
                        · have hsm : (Rec.small x).2 = false := by simpa [Rec.okI] using hk
                          rw [hsm] at hS
                          generalize (Rec.small x).1 = kk at hS
                          generalize (Num.numR x).1 = k1 at hN'
                          generalize (Num.numR x).2 = k2 at hN'
                          have HS1 := Lib.hid hS
                          have HN1 := Lib.hid hN'
                          clear hS hN' hE hdr hx hk
                          obtain ⟨rfl, rfl⟩ : E = ⟨0, 0, 0, 0⟩ ∧ er = 181 := by simpa [Rec.bad, Rec.zero] using hEE
                          have HS := Lib.hid hst.below
                          clear hst hEE
                          go_wp2_with (first
                            | (go_at_call 40; refine (HS1.out _).mono ?_; rintro e w' ⟨rfl, rfl⟩)
                            | (go_at_call 41; refine (HN1.out _).mono ?_; rintro e w' ⟨rfl, rfl⟩))
                          refine bodyPost_ret (v := .tuple #[recV ⟨0, 0, 0, 0⟩, .int .i64 181]) (by simp [results, Tryd.results22, go_sem, c0, c1, c2, c3, hl]) rfl ⟨rfl, ?_⟩
                          rw [hpw]
                          iterate 4 refine Below.setCell ?_ hp _
                          rw [← hpw]
                          with_reducible exact HS.out
                        · have hnm : (Num.numR x).2 = false := by simpa [Rec.okI] using hk
                          rw [hnm] at hN'
                          generalize (Rec.small x).1 = kk at hS
                          generalize (Rec.small x).2 = kb at hS
                          generalize (Num.numR x).1 = k1 at hN'
                          have HS1 := Lib.hid hS
                          have HN1 := Lib.hid hN'
                          clear hS hN' hE hdr hx hk
                          obtain ⟨rfl, rfl⟩ : E = ⟨0, 0, 0, 0⟩ ∧ er = 181 := by simpa [Rec.bad, Rec.zero] using hEE
                          have HS := Lib.hid hst.below
                          clear hst hEE
                          go_wp2_with (first
                            | (go_at_call 40; refine (HS1.out _).mono ?_; rintro e w' ⟨rfl, rfl⟩)
                            | (go_at_call 41; refine (HN1.out _).mono ?_; rintro e w' ⟨rfl, rfl⟩))
                          refine bodyPost_ret (v := .tuple #[recV ⟨0, 0, 0, 0⟩, .int .i64 181]) (by simp [results, Tryd.results22, go_sem, c0, c1, c2, c3, hl]) rfl ⟨rfl, ?_⟩
                          rw [hpw]
                          iterate 4 refine Below.setCell ?_ hp _
                          rw [← hpw]
                          with_reducible exact HS.out
                    · have hiN : i = N := by omega
                      have hdr : P.drop i = [] := List.drop_eq_nil_of_le (by omega)
                      have hz : N - i = 0 := by omega
                      rw [hdr, from3_out hh] at hEE
                      clear hE hdr
                      rw [hz]
                      obtain ⟨rfl, rfl⟩ : E = ⟨0, 0, 0, 0⟩ ∧ er = 181 := by simpa [Rec.bad, Rec.zero] using hEE
                      have HS := Lib.hid hst.below
                      clear hst hEE
                      go_wp2_with fail
                      refine bodyPost_ret (v := .tuple #[recV ⟨0, 0, 0, 0⟩, .int .i64 181]) (by simp [results, Tryd.results22, go_sem, c0, c1, c2, c3, hl]) rfl ⟨rfl, ?_⟩
                      rw [hpw]
                      iterate 4 refine Below.setCell ?_ hp _
                      rw [← hpw]
                      with_reducible exact HS.out
                · obtain rfl : j = 3 := by omega
                  have hEE := hE.out
                  by_cases hi : i < N
                  · obtain ⟨x, y, hdr⟩ : ∃ x y, P.drop i = x :: y := ⟨P[i]'(by omega), P.drop (i + 1), List.drop_eq_getElem_cons (by omega)⟩
                    have hMi2 : (0 : Int) < ((N - i : Nat) : Int) := by omega
                    rw [hdr, show Rec.from3 m (3 - 3) 3 ⟨m, A, B, K⟩ (x :: y) = Rec.bad from rfl] at hEE
                    clear hE hdr
                    obtain ⟨rfl, rfl⟩ : E = ⟨0, 0, 0, 0⟩ ∧ er = 181 := by simpa [Rec.bad, Rec.zero] using hEE
                    have HS := Lib.hid hst.below
                    clear hst hEE
                    go_wp2_with fail
                    refine bodyPost_ret (v := .tuple #[recV ⟨0, 0, 0, 0⟩, .int .i64 181]) (by simp [results, Tryd.results22, go_sem, c0, c1, c2, c3, hl]) rfl ⟨rfl, ?_⟩
                    rw [hpw]
                    iterate 4 refine Below.setCell ?_ hp _
                    rw [← hpw]
                    with_reducible exact HS.out
                  · have hz : N - i = 0 := by omega
                    rw [List.drop_eq_nil_of_le (by omega), show Rec.from3 m (3 - 3) 3 ⟨m, A, B, K⟩ [] = (⟨m, A, B, K⟩, 0) from rfl] at hEE
                    obtain ⟨rfl, rfl⟩ : E = ⟨m, A, B, K⟩ ∧ er = 0 := by simpa using hEE
                    have HS := Lib.hid hst.below
                    clear hst hEE hE
                    rw [hz]
                    go_wp2_with fail
                    refine bodyPost_ret (v := .tuple #[recV ⟨m, A, B, K⟩, .int .i64 0]) (by simp [results, Tryd.results22, go_sem, c0, c1, c2, c3, hl]) rfl ⟨rfl, ?_⟩
                    rw [hpw]
                    iterate 4 refine Below.setCell ?_ hp _
                    rw [← hpw]
                    with_reducible exact HS.out
          | cons x t' =>
            have hNx : N = t'.length + 2 := by have := HNt.out; simpa using this
            have hc2 : ¬ c = 1 := by omega
            have hHc := (refHandle_in m (by omega) W3)
            rw [hH] at hHc
            have hxl : x.length ≤ 300 := HPS.out x (by simp)
            have u1 := pc_cell hst 1 rfl 1 (x := x) rfl
            have hq0 := u1
            have hq1 : W3.drew.cell? ⟨g, 1, none⟩ = some (.string (bs x)) := pc_cell hst.drew 1 rfl 1 (x := x) rfl
            have hC2 : Calls Tryd.prog 39 #[.string (bs x), .int .u8 46] W3.drew (NewRow 9 (Rec.splits 46 (bs x).data.toList).length (cellsBy strC (Rec.splits 46 (bs x).data.toList)) W3.drew) := refCut_any (bs x) (by rw [bs_size']; omega) 46 W3.drew
            have HC3 : Hid (∀ w : World, Calls Tryd.prog 39 #[.string (bs x), .int .u8 46] w (NewRow 9 (Rec.splits 46 (bs x).data.toList).length (cellsBy strC (Rec.splits 46 (bs x).data.toList)) w)) := Lib.hid fun w => refCut_any (bs x) (by rw [bs_size']; omega) 46 w
            rw [show (bs x).data.toList = x from rfl] at hC2 HC3
            have hYl := splits_len 46 x
            have hYs := splits_short 46 x
            have hpc : Rec.pieces m (x :: t') = if (Rec.splits 46 x).length = 2 then some (Rec.splits 46 x ++ t') else none := by simp [Rec.pieces, hH]
            have hYn : 0 < (Rec.splits 46 x).length := by have := Rec.splits_ne 46 x; cases h : Rec.splits 46 x with | nil => exact absurd h this | cons a b => simp
            generalize Rec.splits 46 x = Y at *
            have hNi : (0 : Int) < ((N - 1 : Nat) : Int) := by omega
            have hk1 : 1 ≤ N - 1 := by omega
            have hk2 : N - 1 ≤ c - 1 := by omega
            have HNx := Lib.hid hNx
            have hN3 : N ≤ 301 := by omega
            clear HNt hNx
            go_wp2_with fail
            refine hHc.mono ?_
            rintro e w' ⟨rfl, rfl⟩
            generalize hg1 : N - 1 = N1 at *
            have hN1n := Lib.hid hg1
            generalize c - 1 = c1 at *
            clear hg1
            go_wp2_with fail
            by_cases hc1 : c1 = 1
            · have hn1 : N1 = 1 := by omega
              subst hn1 hc1
              have ht' : t' = [] := by have h1 := HNx.out; have h2 := hN1n.out; exact List.eq_nil_of_length_eq_zero (by omega)
              have hRd : ∀ (W' : World) (l : List Ob), Stage (fun _ => False) w (Ob.box p #[.int .i64 0, .int .u32 0, .int .u32 0, .int .i64 0] 24 :: Pc g N c (w0 :: x :: t') :: l) W' → RowReads W' 1 (.slice (some ⟨g, 1, none⟩) 0 0) 0 (cellsBy strC t') := fun _ _ _ => by rw [ht']; exact reads_empty _ _ _ _
              have Hmm : Hid (0 = t'.length) := Lib.hid (by rw [ht']; rfl)
              clear ht'
              go_region_held3 (fun w' => w'.cell? ⟨g, 1, none⟩ = some (.string (bs x))) (with_reducible first | exact hq0 | exact hq1 | exact pk | exact pk2)
                (first
                  | ((with_reducible refine hC2.mono ?_); rintro e w5 ⟨v5, rfl, ⟨g5, c5, rfl⟩, F5, ho5, hn5, hb5⟩; have hs5 : Stage (fun _ => False) w [Ob.box p #[.int .i64 0, .int .u32 0, .int .u32 0, .int .i64 0] 24, Pc g N c (w0 :: x :: t'), Ob.row 0 9 1 (.slice g5 Y.length c5) Y.length (cellsBy strC Y)] w5 := hst.drew.add hb5 ho5 hn5; have pk := pc_cell hs5 1 rfl 1 (x := x) rfl; have hrd := hRd _ _ hs5)
                  | ((with_reducible show @ite _ _ _ (Oper.wp _ _ _ w5 _ _) _); (refine Stage.step_appendStr hs5 2 rfl rfl (.tmp 39) (.tmp 41) rfl rfl rfl hrd Hmm.out (by have h1 := Hmm.out; have h2 := HNx.out; omega) ?_); intro E' g6 c6 w6 hE' hl6 hs6; have Hl6 := Lib.hid hl6; clear hl6; have pk2 := pc_cell hs6 1 rfl 1 (x := x) rfl)
                  | (trace_state; fail "no arm"))
              clear pk hrd hRd hs5 hq0 hq1 hC2 u1
              have HPK := Lib.hid hs6
              have hN1i : (1 : Int) < (N : Int) := by have h1 := HNx.out; omega
              go_wp2_with fail
              refine (HC3.out _).mono ?_
              rintro e w7 ⟨v7, rfl, ⟨g7, c7, rfl⟩, F7, _, _, hb7⟩
              replace hs6 := hs6.later hb7
              clear hb7 pk2 HPK HC3
              by_cases hY2 : Y.length = 2
              · have hY2i : (Y.length : Int) = 2 := by omega
                rw [if_pos hY2] at hpc
                have HQ0 := Lib.hid (HE2.out m _ hf hpc)
                have hE'' := hE'.out
                rw [← hE''] at HQ0
                have hPS : ∀ y, y ∈ E' → y.length ≤ 300 := fun y hy => by
                  rw [hE''] at hy
                  rcases List.mem_append.1 hy with h | h
                  · have := hYs y h; omega
                  · exact HPS.out y (by simp [h])
                have HPS' := Lib.hid hPS
                have hL : 1 ≤ E'.length := by rw [hE'']; simp; omega
                have hL2 : E'.length ≤ 1000 := by have h1 := Hmm.out; have h2 := HNx.out; have h3 := Hl6.out; omega
                obtain ⟨g, rfl, hNc⟩ : ∃ g', g6 = some ⟨g', 0, none⟩ ∧ E'.length ≤ c6 := by
                  obtain ⟨b, c', hv, h1, _⟩ := owns_slice (hs6.owns 2 rfl) (by omega)
                  injection hv with e1 e2 e3
                  exact ⟨b, e1, by omega⟩
                replace hst : Stage (fun _ => False) w [Ob.box p #[.int .i64 0, .int .u32 0, .int .u32 0, .int .i64 0] 24, Pc g E'.length c6 E'] w7 := hs6.select [0, 2] (by decide) rfl
                have HA := Lib.hid (refA_in m (by omega))
                have HB := Lib.hid (refB_in m (by omega))
                have HK := Lib.hid (refK_in m (by omega))
                clear hs6 hE' hE'' hPS HE1 HE2 hpc hYs hYl Hmm HNx hN1n HPS hYn
                obtain ⟨N, hN⟩ : ∃ N, N = E'.length := ⟨_, rfl⟩
                rw [← hN] at hst hL hL2 hNc ⊢
                have hPN := hN.symm
                clear hN
                obtain ⟨c, rfl⟩ : ∃ c, c = c6 := ⟨_, rfl⟩
                obtain ⟨P, rfl⟩ : ∃ P, P = E' := ⟨_, rfl⟩
                have HPS := HPS'
                clear HPS'
                have hNz2 : N = N := rfl
                go_wp2_with (first
                  | (go_at_call 27; refine (HA.out _).mono ?_; rintro e w' ⟨rfl, rfl⟩)
                  | (go_at_call 28; refine (HB.out _).mono ?_; rintro e w' ⟨rfl, rfl⟩)
                  | (go_at_call 29; refine (HK.out _).mono ?_; rintro e w' ⟨rfl, rfl⟩))
                have hst4 := (hst.alloc #[.bool (Rec.hA m), .bool (Rec.hB m), .bool (Rec.hK m)] 4).alloc #[.int .i64 m, .int .u32 0, .int .u32 0, .int .i64 0] 24
                simp only [World.size_alloc] at hst4
                replace hst : PrSt w ((w7.alloc (.cells #[.bool (Rec.hA m), .bool (Rec.hB m), .bool (Rec.hK m)] 4)).alloc (.cells #[.int .i64 m, .int .u32 0, .int .u32 0, .int .i64 0] 24)) p g N c w7.heap.size (w7.heap.size + 1) m P 0 0 0 := hst4
                clear hst4 HA HB HK
                generalize w7.heap.size + 1 = ep at hst ⊢
                generalize w7.heap.size = dp at hst ⊢
                have HQ : Hid ((E, er) = Rec.from3 m 3 0 ⟨m, 0, 0, 0⟩ (P.drop 0)) := HQ0
                clear HQ0
                go_loopw [6, 61] (fun rv jv wr => ∃ (j i q : Nat) (a : Option Addr) (A B K : Int), jv = .int .i64 j ∧ j ≤ 3 ∧ rv = .slice a (N - i) q ∧ i ≤ N ∧ N - i ≤ q ∧ (i < N → a = some ⟨g, i, none⟩) ∧ Hid ((E, er) = Rec.from3 m (3 - j) j ⟨m, A, B, K⟩ (P.drop i)) ∧ PrSt w wr p g N c dp ep m P A B K) (fun _ jv _ => 3 - (RowKit.intOf jv).toNat)
                case atStart => exact ⟨0, 0, _, _, 0, 0, 0, rfl, by omega, by first | rfl | (rw [hNz2]), by omega, by omega, by first | exact fun _ => rfl | exact fun h => absurd h (by omega), HQ, hst⟩
                case round =>
                  clear hst HQ
                  obtain ⟨j, i, q, a, A, B, K, rfl, hj, rfl, hiM, hq, ha, hE, hst⟩ := hrel
                  obtain ⟨⟨c0, c1, c2, c3⟩, f0, f1, f2, f3, hl⟩ := pr_res hst
                  obtain ⟨⟨r0, r1, r2, r3⟩, s1, s2, s3, hle, hep, hpe⟩ := pr_rec hst
                  by_cases hj3 : j < 3
                  · have hji : (j : Int) < 3 := by omega
                    have uj := pr_has hst j hj3
                    cases hh : Rec.has m j with
                    | false =>
                      rw [hh] at uj
                      have hE2 : (E, er) = Rec.from3 m (3 - (j + 1)) (j + 1) ⟨m, A, B, K⟩ (P.drop i) := by
                        rw [hE.out, show 3 - j = (3 - (j + 1)) + 1 by omega, from3_no hh]
                      have HE2 := Lib.hid hE2
                      clear hE hE2
                      go_wp2_with fail
                      go_roundw
                      case rel => exact ⟨j + 1, i, q, a, A, B, K, by go_num, by omega, rfl, hiM, hq, ha, HE2, hst⟩
                      case measure => simp [RowKit.intOf]; omega
                    | true =>
                      rw [hh] at uj
                      have hEE := hE.out
                      rw [show 3 - j = (3 - (j + 1)) + 1 by omega] at hEE
                      by_cases hi : i < N
                      · obtain rfl := ha hi
                        obtain ⟨x, hx⟩ : ∃ x, P[i]? = some x := ⟨P[i]'(by omega), List.getElem?_eq_getElem (by omega)⟩
                        have hdr : P.drop i = x :: P.drop (i + 1) := by rw [List.drop_eq_getElem_cons (by omega)]; congr 1; exact (List.getElem?_eq_some_iff.1 hx).2
                        have hxs : x.length ≤ 300 := HPS.out x (List.mem_of_getElem? hx)
                        have ux := pc_cell hst 1 rfl i hx
                        have hS := fun w => refSmall_any (bs x) (by rw [bs_size']; omega) w
                        have hN' := fun w => refNumber_any (bs x) (by rw [bs_size']; omega) w
                        rw [show (bs x).data.toList = x from rfl] at hS hN'
                        have hMi : ¬ N - i = 0 := by omega
                        have hMi2 : (0 : Int) < ((N - i : Nat) : Int) := by omega
                        have hMi3 : ¬ ((N - i : Nat) : Int) = 0 := by omega
                        rw [hdr, from3_yes hh] at hEE
                        have hj' : j = 0 ∨ j = 1 ∨ j = 2 := by omega
                        by_cases hk : Rec.okI j x = true
                        · rw [if_pos hk] at hEE
                          rcases hj' with rfl | rfl | rfl
                          · have hsm : (Rec.small x).2 = true := by simpa [Rec.okI] using hk
                            have hnm := small_num hsm
                            rw [hsm] at hS
                            rw [hnm] at hN'
                            generalize (Num.numR x).1 = kk at hN'
                            have hEE' : (E, er) = Rec.from3 m (3 - 1) 1 ⟨m, (Rec.small x).1, B, K⟩ (P.drop (i + 1)) := by simpa [Rec.setI] using hEE
                            generalize (Rec.small x).1 = n at hS hEE'
                            have HEE := Lib.hid hEE'
                            have HS1 := Lib.hid hS
                            have HN1 := Lib.hid hN'
                            clear hEE hEE' hS hN' hE hdr hx hk
                            go_wp2_with (first
                              | (go_at_call 40; refine (HS1.out _).mono ?_; rintro e w' ⟨rfl, rfl⟩)
                              | (go_at_call 41; refine (HN1.out _).mono ?_; rintro e w' ⟨rfl, rfl⟩))
                            all_goals
                              replace hst := pr_A hst n
                              go_roundw
                              case rel => exact ⟨1, i + 1, _, _, n, B, K, by go_num, by omega, by rw [show N - (i + 1) = N - i - 1 by omega], by omega, by omega, fun h => if_neg (by omega), HEE, hst⟩
                              case measure => simp [RowKit.intOf]
                          · have hsm : (Rec.small x).2 = true := by simpa [Rec.okI] using hk
                            have hnm := small_num hsm
                            rw [hsm] at hS
                            rw [hnm] at hN'
                            generalize (Num.numR x).1 = kk at hN'
                            have hEE' : (E, er) = Rec.from3 m (3 - 2) 2 ⟨m, A, (Rec.small x).1, K⟩ (P.drop (i + 1)) := by simpa [Rec.setI] using hEE
                            generalize (Rec.small x).1 = n at hS hEE'
                            have HEE := Lib.hid hEE'
                            have HS1 := Lib.hid hS
                            have HN1 := Lib.hid hN'
                            clear hEE hEE' hS hN' hE hdr hx hk
                            go_wp2_with (first
                              | (go_at_call 40; refine (HS1.out _).mono ?_; rintro e w' ⟨rfl, rfl⟩)
                              | (go_at_call 41; refine (HN1.out _).mono ?_; rintro e w' ⟨rfl, rfl⟩))
                            all_goals
                              replace hst := pr_B hst n
                              go_roundw
                              case rel => exact ⟨2, i + 1, _, _, A, n, K, by go_num, by omega, by rw [show N - (i + 1) = N - i - 1 by omega], by omega, by omega, fun h => if_neg (by omega), HEE, hst⟩
                              case measure => simp [RowKit.intOf]
                          · have hnm : (Num.numR x).2 = true := by simpa [Rec.okI] using hk
                            rw [hnm] at hN'
                            generalize (Rec.small x).1 = kk at hS
                            generalize (Rec.small x).2 = kb at hS
                            have hEE' : (E, er) = Rec.from3 m (3 - 3) 3 ⟨m, A, B, (Num.numR x).1⟩ (P.drop (i + 1)) := by simpa [Rec.setI] using hEE
                            generalize (Num.numR x).1 = n at hN' hEE'
                            have HEE := Lib.hid hEE'
                            have HS1 := Lib.hid hS
                            have HN1 := Lib.hid hN'
                            clear hEE hEE' hS hN' hE hdr hx hk
                            go_wp2_with (first
                              | (go_at_call 40; refine (HS1.out _).mono ?_; rintro e w' ⟨rfl, rfl⟩)
                              | (go_at_call 41; refine (HN1.out _).mono ?_; rintro e w' ⟨rfl, rfl⟩))
                            all_goals
                              replace hst := pr_K hst n
                              go_roundw
                              case rel => exact ⟨3, i + 1, _, _, A, B, n, by go_num, by omega, by rw [show N - (i + 1) = N - i - 1 by omega], by omega, by omega, fun h => if_neg (by omega), HEE, hst⟩
                              case measure => simp [RowKit.intOf]
                        · rw [if_neg hk] at hEE
                          rcases hj' with rfl | rfl | rfl
                          · have hsm : (Rec.small x).2 = false := by simpa [Rec.okI] using hk
                            rw [hsm] at hS
                            generalize (Rec.small x).1 = kk at hS
                            generalize (Num.numR x).1 = k1 at hN'
                            generalize (Num.numR x).2 = k2 at hN'
                            have HS1 := Lib.hid hS
                            have HN1 := Lib.hid hN'
                            clear hS hN' hE hdr hx hk
                            obtain ⟨rfl, rfl⟩ : E = ⟨0, 0, 0, 0⟩ ∧ er = 181 := by simpa [Rec.bad, Rec.zero] using hEE
                            have HS := Lib.hid hst.below
                            clear hst hEE
                            go_wp2_with (first
                              | (go_at_call 40; refine (HS1.out _).mono ?_; rintro e w' ⟨rfl, rfl⟩)
                              | (go_at_call 41; refine (HN1.out _).mono ?_; rintro e w' ⟨rfl, rfl⟩))
                            refine bodyPost_ret (v := .tuple #[recV ⟨0, 0, 0, 0⟩, .int .i64 181]) (by simp [results, Tryd.results22, go_sem, c0, c1, c2, c3, hl]) rfl ⟨rfl, ?_⟩
                            rw [hpw]
                            iterate 4 refine Below.setCell ?_ hp _
                            rw [← hpw]
                            with_reducible exact HS.out
                          · have hsm : (Rec.small x).2 = false := by simpa [Rec.okI] using hk
                            rw [hsm] at hS
                            generalize (Rec.small x).1 = kk at hS
                            generalize (Num.numR x).1 = k1 at hN'
                            generalize (Num.numR x).2 = k2 at hN'
                            have HS1 := Lib.hid hS
                            have HN1 := Lib.hid hN'
                            clear hS hN' hE hdr hx hk
                            obtain ⟨rfl, rfl⟩ : E = ⟨0, 0, 0, 0⟩ ∧ er = 181 := by simpa [Rec.bad, Rec.zero] using hEE
                            have HS := Lib.hid hst.below
                            clear hst hEE
                            go_wp2_with (first
                              | (go_at_call 40; refine (HS1.out _).mono ?_; rintro e w' ⟨rfl, rfl⟩)
                              | (go_at_call 41; refine (HN1.out _).mono ?_; rintro e w' ⟨rfl, rfl⟩))
                            refine bodyPost_ret (v := .tuple #[recV ⟨0, 0, 0, 0⟩, .int .i64 181]) (by simp [results, Tryd.results22, go_sem, c0, c1, c2, c3, hl]) rfl ⟨rfl, ?_⟩
                            rw [hpw]
                            iterate 4 refine Below.setCell ?_ hp _
                            rw [← hpw]
                            with_reducible exact HS.out
                          · have hnm : (Num.numR x).2 = false := by simpa [Rec.okI] using hk
                            rw [hnm] at hN'
                            generalize (Rec.small x).1 = kk at hS
                            generalize (Rec.small x).2 = kb at hS
                            generalize (Num.numR x).1 = k1 at hN'
                            have HS1 := Lib.hid hS
                            have HN1 := Lib.hid hN'
                            clear hS hN' hE hdr hx hk
                            obtain ⟨rfl, rfl⟩ : E = ⟨0, 0, 0, 0⟩ ∧ er = 181 := by simpa [Rec.bad, Rec.zero] using hEE
                            have HS := Lib.hid hst.below
                            clear hst hEE
                            go_wp2_with (first
                              | (go_at_call 40; refine (HS1.out _).mono ?_; rintro e w' ⟨rfl, rfl⟩)
                              | (go_at_call 41; refine (HN1.out _).mono ?_; rintro e w' ⟨rfl, rfl⟩))
                            refine bodyPost_ret (v := .tuple #[recV ⟨0, 0, 0, 0⟩, .int .i64 181]) (by simp [results, Tryd.results22, go_sem, c0, c1, c2, c3, hl]) rfl ⟨rfl, ?_⟩
                            rw [hpw]
                            iterate 4 refine Below.setCell ?_ hp _
                            rw [← hpw]
                            with_reducible exact HS.out
                      · have hiN : i = N := by omega
                        have hdr : P.drop i = [] := List.drop_eq_nil_of_le (by omega)
                        have hz : N - i = 0 := by omega
                        rw [hdr, from3_out hh] at hEE
                        clear hE hdr
                        rw [hz]
                        obtain ⟨rfl, rfl⟩ : E = ⟨0, 0, 0, 0⟩ ∧ er = 181 := by simpa [Rec.bad, Rec.zero] using hEE
                        have HS := Lib.hid hst.below
                        clear hst hEE
                        go_wp2_with fail
                        refine bodyPost_ret (v := .tuple #[recV ⟨0, 0, 0, 0⟩, .int .i64 181]) (by simp [results, Tryd.results22, go_sem, c0, c1, c2, c3, hl]) rfl ⟨rfl, ?_⟩
                        rw [hpw]
                        iterate 4 refine Below.setCell ?_ hp _
                        rw [← hpw]
                        with_reducible exact HS.out
                  · obtain rfl : j = 3 := by omega
                    have hEE := hE.out
                    by_cases hi : i < N
                    · obtain ⟨x, y, hdr⟩ : ∃ x y, P.drop i = x :: y := ⟨P[i]'(by omega), P.drop (i + 1), List.drop_eq_getElem_cons (by omega)⟩
                      have hMi2 : (0 : Int) < ((N - i : Nat) : Int) := by omega
                      rw [hdr, show Rec.from3 m (3 - 3) 3 ⟨m, A, B, K⟩ (x :: y) = Rec.bad from rfl] at hEE
                      clear hE hdr
                      obtain ⟨rfl, rfl⟩ : E = ⟨0, 0, 0, 0⟩ ∧ er = 181 := by simpa [Rec.bad, Rec.zero] using hEE
                      have HS := Lib.hid hst.below
                      clear hst hEE
                      go_wp2_with fail
                      refine bodyPost_ret (v := .tuple #[recV ⟨0, 0, 0, 0⟩, .int .i64 181]) (by simp [results, Tryd.results22, go_sem, c0, c1, c2, c3, hl]) rfl ⟨rfl, ?_⟩
                      rw [hpw]
                      iterate 4 refine Below.setCell ?_ hp _
                      rw [← hpw]
                      with_reducible exact HS.out
                    · have hz : N - i = 0 := by omega
                      rw [List.drop_eq_nil_of_le (by omega), show Rec.from3 m (3 - 3) 3 ⟨m, A, B, K⟩ [] = (⟨m, A, B, K⟩, 0) from rfl] at hEE
                      obtain ⟨rfl, rfl⟩ : E = ⟨m, A, B, K⟩ ∧ er = 0 := by simpa using hEE
                      have HS := Lib.hid hst.below
                      clear hst hEE hE
                      rw [hz]
                      go_wp2_with fail
                      refine bodyPost_ret (v := .tuple #[recV ⟨m, A, B, K⟩, .int .i64 0]) (by simp [results, Tryd.results22, go_sem, c0, c1, c2, c3, hl]) rfl ⟨rfl, ?_⟩
                      rw [hpw]
                      iterate 4 refine Below.setCell ?_ hp _
                      rw [← hpw]
                      with_reducible exact HS.out
              · have hY2i : ¬ (Y.length : Int) = 2 := by omega
                rw [if_neg hY2] at hpc
                have hEE := HE1.out m hf hpc
                obtain ⟨rfl, rfl⟩ : E = ⟨0, 0, 0, 0⟩ ∧ er = 181 := by simpa [Rec.bad, Rec.zero] using hEE
                obtain ⟨⟨c0, c1, c2, c3⟩, f0, f1, f2, f3, hl⟩ := pr_res (l := [_, _]) hs6
                have HS := Lib.hid hs6.below
                clear hs6 hEE HE1 HE2 hE' hpc hYs hYl Hl6 Hmm HPS hst
                go_wp2_with fail
                refine bodyPost_ret (v := .tuple #[recV ⟨0, 0, 0, 0⟩, .int .i64 181]) (by simp [results, Tryd.results22, go_sem, c0, c1, c2, c3, hl]) rfl ⟨rfl, ?_⟩
                rw [hpw]
                iterate 4 refine Below.setCell ?_ hp _
                rw [← hpw]
                with_reducible exact HS.out
            · obtain ⟨n1, rfl⟩ : ∃ n, N1 = n + 1 := ⟨N1 - 1, by omega⟩
              obtain ⟨d1, rfl⟩ : ∃ d, c1 = d + 2 := ⟨c1 - 2, by omega⟩
              have hnd : n1 ≤ d1 + 1 := by omega
              have hmm : n1 = t'.length := by have h1 := HNx.out; have h2 := hN1n.out; omega
              have hRd : ∀ (W' : World) (l : List Ob), Stage (fun _ => False) w (Ob.box p #[.int .i64 0, .int .u32 0, .int .u32 0, .int .i64 0] 24 :: Pc g N c (w0 :: x :: t') :: l) W' → RowReads W' 1 (.slice (some ⟨g, 2, none⟩) n1 (d1 + 1)) n1 (cellsBy strC t') := fun W' l h => by
                have := reads_rest h 1 rfl 2 (by have h1 := HNx.out; omega) ⟨g, 2, none⟩ (fun _ => rfl) (d1 + 1)
                have h1 := HNx.out
                rw [show N - 2 = n1 by omega] at this
                exact this
              have Hmm := Lib.hid hmm
              have hz1 : (1 : Int) ≤ (n1 : Int) + 1 := by omega
              have hz2 : ¬ ((n1 : Int) + 1 < 1) := by omega
              clear hmm hnd hk1 hk2
              go_region_held3 (fun w' => w'.cell? ⟨g, 1, none⟩ = some (.string (bs x))) (with_reducible first | exact hq0 | exact hq1 | exact pk | exact pk2)
                (first
                  | ((with_reducible refine hC2.mono ?_); rintro e w5 ⟨v5, rfl, ⟨g5, c5, rfl⟩, F5, ho5, hn5, hb5⟩; have hs5 : Stage (fun _ => False) w [Ob.box p #[.int .i64 0, .int .u32 0, .int .u32 0, .int .i64 0] 24, Pc g N c (w0 :: x :: t'), Ob.row 0 9 1 (.slice g5 Y.length c5) Y.length (cellsBy strC Y)] w5 := hst.drew.add hb5 ho5 hn5; have pk := pc_cell hs5 1 rfl 1 (x := x) rfl; have hrd := hRd _ _ hs5)
                  | ((with_reducible show @ite _ _ _ (Oper.wp _ _ _ w5 _ _) _); (refine Stage.step_appendStr hs5 2 rfl rfl (.tmp 39) (.tmp 41) rfl rfl rfl hrd Hmm.out (by have h1 := Hmm.out; have h2 := HNx.out; omega) ?_); intro E' g6 c6 w6 hE' hl6 hs6; have Hl6 := Lib.hid hl6; clear hl6; have pk2 := pc_cell hs6 1 rfl 1 (x := x) rfl)
                  | (trace_state; fail "no arm"))
              clear pk hrd hRd hs5 hq0 hq1 hC2 u1
              have HPK := Lib.hid hs6
              have hN1i : (1 : Int) < (N : Int) := by have h1 := HNx.out; omega
              go_wp2_with fail
              refine (HC3.out _).mono ?_
              rintro e w7 ⟨v7, rfl, ⟨g7, c7, rfl⟩, F7, _, _, hb7⟩
              replace hs6 := hs6.later hb7
              clear hb7 pk2 HPK HC3
              by_cases hY2 : Y.length = 2
              · have hY2i : (Y.length : Int) = 2 := by omega
                rw [if_pos hY2] at hpc
                have HQ0 := Lib.hid (HE2.out m _ hf hpc)
                have hE'' := hE'.out
                rw [← hE''] at HQ0
                have hPS : ∀ y, y ∈ E' → y.length ≤ 300 := fun y hy => by
                  rw [hE''] at hy
                  rcases List.mem_append.1 hy with h | h
                  · have := hYs y h; omega
                  · exact HPS.out y (by simp [h])
                have HPS' := Lib.hid hPS
                have hL : 1 ≤ E'.length := by rw [hE'']; simp; omega
                have hL2 : E'.length ≤ 1000 := by have h1 := Hmm.out; have h2 := HNx.out; have h3 := Hl6.out; omega
                obtain ⟨g, rfl, hNc⟩ : ∃ g', g6 = some ⟨g', 0, none⟩ ∧ E'.length ≤ c6 := by
                  obtain ⟨b, c', hv, h1, _⟩ := owns_slice (hs6.owns 2 rfl) (by omega)
                  injection hv with e1 e2 e3
                  exact ⟨b, e1, by omega⟩
                replace hst : Stage (fun _ => False) w [Ob.box p #[.int .i64 0, .int .u32 0, .int .u32 0, .int .i64 0] 24, Pc g E'.length c6 E'] w7 := hs6.select [0, 2] (by decide) rfl
                have HA := Lib.hid (refA_in m (by omega))
                have HB := Lib.hid (refB_in m (by omega))
                have HK := Lib.hid (refK_in m (by omega))
                clear hs6 hE' hE'' hPS HE1 HE2 hpc hYs hYl Hmm HNx hN1n HPS hYn
                obtain ⟨N, hN⟩ : ∃ N, N = E'.length := ⟨_, rfl⟩
                rw [← hN] at hst hL hL2 hNc ⊢
                have hPN := hN.symm
                clear hN
                obtain ⟨c, rfl⟩ : ∃ c, c = c6 := ⟨_, rfl⟩
                obtain ⟨P, rfl⟩ : ∃ P, P = E' := ⟨_, rfl⟩
                have HPS := HPS'
                clear HPS'
                have hNz2 : N = N := rfl
                go_wp2_with (first
                  | (go_at_call 27; refine (HA.out _).mono ?_; rintro e w' ⟨rfl, rfl⟩)
                  | (go_at_call 28; refine (HB.out _).mono ?_; rintro e w' ⟨rfl, rfl⟩)
                  | (go_at_call 29; refine (HK.out _).mono ?_; rintro e w' ⟨rfl, rfl⟩))
                have hst4 := (hst.alloc #[.bool (Rec.hA m), .bool (Rec.hB m), .bool (Rec.hK m)] 4).alloc #[.int .i64 m, .int .u32 0, .int .u32 0, .int .i64 0] 24
                simp only [World.size_alloc] at hst4
                replace hst : PrSt w ((w7.alloc (.cells #[.bool (Rec.hA m), .bool (Rec.hB m), .bool (Rec.hK m)] 4)).alloc (.cells #[.int .i64 m, .int .u32 0, .int .u32 0, .int .i64 0] 24)) p g N c w7.heap.size (w7.heap.size + 1) m P 0 0 0 := hst4
                clear hst4 HA HB HK
                generalize w7.heap.size + 1 = ep at hst ⊢
                generalize w7.heap.size = dp at hst ⊢
                have HQ : Hid ((E, er) = Rec.from3 m 3 0 ⟨m, 0, 0, 0⟩ (P.drop 0)) := HQ0
                clear HQ0
                go_loopw [6, 61] (fun rv jv wr => ∃ (j i q : Nat) (a : Option Addr) (A B K : Int), jv = .int .i64 j ∧ j ≤ 3 ∧ rv = .slice a (N - i) q ∧ i ≤ N ∧ N - i ≤ q ∧ (i < N → a = some ⟨g, i, none⟩) ∧ Hid ((E, er) = Rec.from3 m (3 - j) j ⟨m, A, B, K⟩ (P.drop i)) ∧ PrSt w wr p g N c dp ep m P A B K) (fun _ jv _ => 3 - (RowKit.intOf jv).toNat)
                case atStart => exact ⟨0, 0, _, _, 0, 0, 0, rfl, by omega, by first | rfl | (rw [hNz2]), by omega, by omega, by first | exact fun _ => rfl | exact fun h => absurd h (by omega), HQ, hst⟩
                case round =>
                  clear hst HQ
                  obtain ⟨j, i, q, a, A, B, K, rfl, hj, rfl, hiM, hq, ha, hE, hst⟩ := hrel
                  obtain ⟨⟨c0, c1, c2, c3⟩, f0, f1, f2, f3, hl⟩ := pr_res hst
                  obtain ⟨⟨r0, r1, r2, r3⟩, s1, s2, s3, hle, hep, hpe⟩ := pr_rec hst
                  by_cases hj3 : j < 3
                  · have hji : (j : Int) < 3 := by omega
                    have uj := pr_has hst j hj3
                    cases hh : Rec.has m j with
                    | false =>
                      rw [hh] at uj
                      have hE2 : (E, er) = Rec.from3 m (3 - (j + 1)) (j + 1) ⟨m, A, B, K⟩ (P.drop i) := by
                        rw [hE.out, show 3 - j = (3 - (j + 1)) + 1 by omega, from3_no hh]
                      have HE2 := Lib.hid hE2
                      clear hE hE2
                      go_wp2_with fail
                      go_roundw
                      case rel => exact ⟨j + 1, i, q, a, A, B, K, by go_num, by omega, rfl, hiM, hq, ha, HE2, hst⟩
                      case measure => simp [RowKit.intOf]; omega
                    | true =>
                      rw [hh] at uj
                      have hEE := hE.out
                      rw [show 3 - j = (3 - (j + 1)) + 1 by omega] at hEE
                      by_cases hi : i < N
                      · obtain rfl := ha hi
                        obtain ⟨x, hx⟩ : ∃ x, P[i]? = some x := ⟨P[i]'(by omega), List.getElem?_eq_getElem (by omega)⟩
                        have hdr : P.drop i = x :: P.drop (i + 1) := by rw [List.drop_eq_getElem_cons (by omega)]; congr 1; exact (List.getElem?_eq_some_iff.1 hx).2
                        have hxs : x.length ≤ 300 := HPS.out x (List.mem_of_getElem? hx)
                        have ux := pc_cell hst 1 rfl i hx
                        have hS := fun w => refSmall_any (bs x) (by rw [bs_size']; omega) w
                        have hN' := fun w => refNumber_any (bs x) (by rw [bs_size']; omega) w
                        rw [show (bs x).data.toList = x from rfl] at hS hN'
                        have hMi : ¬ N - i = 0 := by omega
                        have hMi2 : (0 : Int) < ((N - i : Nat) : Int) := by omega
                        have hMi3 : ¬ ((N - i : Nat) : Int) = 0 := by omega
                        rw [hdr, from3_yes hh] at hEE
                        have hj' : j = 0 ∨ j = 1 ∨ j = 2 := by omega
                        by_cases hk : Rec.okI j x = true
                        · rw [if_pos hk] at hEE
                          rcases hj' with rfl | rfl | rfl
                          · have hsm : (Rec.small x).2 = true := by simpa [Rec.okI] using hk
                            have hnm := small_num hsm
                            rw [hsm] at hS
                            rw [hnm] at hN'
                            generalize (Num.numR x).1 = kk at hN'
                            have hEE' : (E, er) = Rec.from3 m (3 - 1) 1 ⟨m, (Rec.small x).1, B, K⟩ (P.drop (i + 1)) := by simpa [Rec.setI] using hEE
                            generalize (Rec.small x).1 = n at hS hEE'
                            have HEE := Lib.hid hEE'
                            have HS1 := Lib.hid hS
                            have HN1 := Lib.hid hN'
                            clear hEE hEE' hS hN' hE hdr hx hk
                            go_wp2_with (first
                              | (go_at_call 40; refine (HS1.out _).mono ?_; rintro e w' ⟨rfl, rfl⟩)
                              | (go_at_call 41; refine (HN1.out _).mono ?_; rintro e w' ⟨rfl, rfl⟩))
                            all_goals
                              replace hst := pr_A hst n
                              go_roundw
                              case rel => exact ⟨1, i + 1, _, _, n, B, K, by go_num, by omega, by rw [show N - (i + 1) = N - i - 1 by omega], by omega, by omega, fun h => if_neg (by omega), HEE, hst⟩
                              case measure => simp [RowKit.intOf]
                          · have hsm : (Rec.small x).2 = true := by simpa [Rec.okI] using hk
                            have hnm := small_num hsm
                            rw [hsm] at hS
                            rw [hnm] at hN'
                            generalize (Num.numR x).1 = kk at hN'
                            have hEE' : (E, er) = Rec.from3 m (3 - 2) 2 ⟨m, A, (Rec.small x).1, K⟩ (P.drop (i + 1)) := by simpa [Rec.setI] using hEE
                            generalize (Rec.small x).1 = n at hS hEE'
                            have HEE := Lib.hid hEE'
                            have HS1 := Lib.hid hS
                            have HN1 := Lib.hid hN'
                            clear hEE hEE' hS hN' hE hdr hx hk
                            go_wp2_with (first
                              | (go_at_call 40; refine (HS1.out _).mono ?_; rintro e w' ⟨rfl, rfl⟩)
                              | (go_at_call 41; refine (HN1.out _).mono ?_; rintro e w' ⟨rfl, rfl⟩))
                            all_goals
                              replace hst := pr_B hst n
                              go_roundw
                              case rel => exact ⟨2, i + 1, _, _, A, n, K, by go_num, by omega, by rw [show N - (i + 1) = N - i - 1 by omega], by omega, by omega, fun h => if_neg (by omega), HEE, hst⟩
                              case measure => simp [RowKit.intOf]
                          · have hnm : (Num.numR x).2 = true := by simpa [Rec.okI] using hk
                            rw [hnm] at hN'
                            generalize (Rec.small x).1 = kk at hS
                            generalize (Rec.small x).2 = kb at hS
                            have hEE' : (E, er) = Rec.from3 m (3 - 3) 3 ⟨m, A, B, (Num.numR x).1⟩ (P.drop (i + 1)) := by simpa [Rec.setI] using hEE
                            generalize (Num.numR x).1 = n at hN' hEE'
                            have HEE := Lib.hid hEE'
                            have HS1 := Lib.hid hS
                            have HN1 := Lib.hid hN'
                            clear hEE hEE' hS hN' hE hdr hx hk
                            go_wp2_with (first
                              | (go_at_call 40; refine (HS1.out _).mono ?_; rintro e w' ⟨rfl, rfl⟩)
                              | (go_at_call 41; refine (HN1.out _).mono ?_; rintro e w' ⟨rfl, rfl⟩))
                            all_goals
                              replace hst := pr_K hst n
                              go_roundw
                              case rel => exact ⟨3, i + 1, _, _, A, B, n, by go_num, by omega, by rw [show N - (i + 1) = N - i - 1 by omega], by omega, by omega, fun h => if_neg (by omega), HEE, hst⟩
                              case measure => simp [RowKit.intOf]
                        · rw [if_neg hk] at hEE
                          rcases hj' with rfl | rfl | rfl
                          · have hsm : (Rec.small x).2 = false := by simpa [Rec.okI] using hk
                            rw [hsm] at hS
                            generalize (Rec.small x).1 = kk at hS
                            generalize (Num.numR x).1 = k1 at hN'
                            generalize (Num.numR x).2 = k2 at hN'
                            have HS1 := Lib.hid hS
                            have HN1 := Lib.hid hN'
                            clear hS hN' hE hdr hx hk
                            obtain ⟨rfl, rfl⟩ : E = ⟨0, 0, 0, 0⟩ ∧ er = 181 := by simpa [Rec.bad, Rec.zero] using hEE
                            have HS := Lib.hid hst.below
                            clear hst hEE
                            go_wp2_with (first
                              | (go_at_call 40; refine (HS1.out _).mono ?_; rintro e w' ⟨rfl, rfl⟩)
                              | (go_at_call 41; refine (HN1.out _).mono ?_; rintro e w' ⟨rfl, rfl⟩))
                            refine bodyPost_ret (v := .tuple #[recV ⟨0, 0, 0, 0⟩, .int .i64 181]) (by simp [results, Tryd.results22, go_sem, c0, c1, c2, c3, hl]) rfl ⟨rfl, ?_⟩
                            rw [hpw]
                            iterate 4 refine Below.setCell ?_ hp _
                            rw [← hpw]
                            with_reducible exact HS.out
                          · have hsm : (Rec.small x).2 = false := by simpa [Rec.okI] using hk
                            rw [hsm] at hS
                            generalize (Rec.small x).1 = kk at hS
                            generalize (Num.numR x).1 = k1 at hN'
                            generalize (Num.numR x).2 = k2 at hN'
                            have HS1 := Lib.hid hS
                            have HN1 := Lib.hid hN'
                            clear hS hN' hE hdr hx hk
                            obtain ⟨rfl, rfl⟩ : E = ⟨0, 0, 0, 0⟩ ∧ er = 181 := by simpa [Rec.bad, Rec.zero] using hEE
                            have HS := Lib.hid hst.below
                            clear hst hEE
                            go_wp2_with (first
                              | (go_at_call 40; refine (HS1.out _).mono ?_; rintro e w' ⟨rfl, rfl⟩)
                              | (go_at_call 41; refine (HN1.out _).mono ?_; rintro e w' ⟨rfl, rfl⟩))
                            refine bodyPost_ret (v := .tuple #[recV ⟨0, 0, 0, 0⟩, .int .i64 181]) (by simp [results, Tryd.results22, go_sem, c0, c1, c2, c3, hl]) rfl ⟨rfl, ?_⟩
                            rw [hpw]
                            iterate 4 refine Below.setCell ?_ hp _
                            rw [← hpw]
                            with_reducible exact HS.out
                          · have hnm : (Num.numR x).2 = false := by simpa [Rec.okI] using hk
                            rw [hnm] at hN'
                            generalize (Rec.small x).1 = kk at hS
                            generalize (Rec.small x).2 = kb at hS
                            generalize (Num.numR x).1 = k1 at hN'
                            have HS1 := Lib.hid hS
                            have HN1 := Lib.hid hN'
                            clear hS hN' hE hdr hx hk
                            obtain ⟨rfl, rfl⟩ : E = ⟨0, 0, 0, 0⟩ ∧ er = 181 := by simpa [Rec.bad, Rec.zero] using hEE
                            have HS := Lib.hid hst.below
                            clear hst hEE
                            go_wp2_with (first
                              | (go_at_call 40; refine (HS1.out _).mono ?_; rintro e w' ⟨rfl, rfl⟩)
                              | (go_at_call 41; refine (HN1.out _).mono ?_; rintro e w' ⟨rfl, rfl⟩))
                            refine bodyPost_ret (v := .tuple #[recV ⟨0, 0, 0, 0⟩, .int .i64 181]) (by simp [results, Tryd.results22, go_sem, c0, c1, c2, c3, hl]) rfl ⟨rfl, ?_⟩
                            rw [hpw]
                            iterate 4 refine Below.setCell ?_ hp _
                            rw [← hpw]
                            with_reducible exact HS.out
                      · have hiN : i = N := by omega
                        have hdr : P.drop i = [] := List.drop_eq_nil_of_le (by omega)
                        have hz : N - i = 0 := by omega
                        rw [hdr, from3_out hh] at hEE
                        clear hE hdr
                        rw [hz]
                        obtain ⟨rfl, rfl⟩ : E = ⟨0, 0, 0, 0⟩ ∧ er = 181 := by simpa [Rec.bad, Rec.zero] using hEE
                        have HS := Lib.hid hst.below
                        clear hst hEE
                        go_wp2_with fail
                        refine bodyPost_ret (v := .tuple #[recV ⟨0, 0, 0, 0⟩, .int .i64 181]) (by simp [results, Tryd.results22, go_sem, c0, c1, c2, c3, hl]) rfl ⟨rfl, ?_⟩
                        rw [hpw]
                        iterate 4 refine Below.setCell ?_ hp _
                        rw [← hpw]
                        with_reducible exact HS.out
                  · obtain rfl : j = 3 := by omega
                    have hEE := hE.out
                    by_cases hi : i < N
                    · obtain ⟨x, y, hdr⟩ : ∃ x y, P.drop i = x :: y := ⟨P[i]'(by omega), P.drop (i + 1), List.drop_eq_getElem_cons (by omega)⟩
                      have hMi2 : (0 : Int) < ((N - i : Nat) : Int) := by omega
                      rw [hdr, show Rec.from3 m (3 - 3) 3 ⟨m, A, B, K⟩ (x :: y) = Rec.bad from rfl] at hEE
                      clear hE hdr
                      obtain ⟨rfl, rfl⟩ : E = ⟨0, 0, 0, 0⟩ ∧ er = 181 := by simpa [Rec.bad, Rec.zero] using hEE
                      have HS := Lib.hid hst.below
                      clear hst hEE
                      go_wp2_with fail
                      refine bodyPost_ret (v := .tuple #[recV ⟨0, 0, 0, 0⟩, .int .i64 181]) (by simp [results, Tryd.results22, go_sem, c0, c1, c2, c3, hl]) rfl ⟨rfl, ?_⟩
                      rw [hpw]
                      iterate 4 refine Below.setCell ?_ hp _
                      rw [← hpw]
                      with_reducible exact HS.out
                    · have hz : N - i = 0 := by omega
                      rw [List.drop_eq_nil_of_le (by omega), show Rec.from3 m (3 - 3) 3 ⟨m, A, B, K⟩ [] = (⟨m, A, B, K⟩, 0) from rfl] at hEE
                      obtain ⟨rfl, rfl⟩ : E = ⟨m, A, B, K⟩ ∧ er = 0 := by simpa using hEE
                      have HS := Lib.hid hst.below
                      clear hst hEE hE
                      rw [hz]
                      go_wp2_with fail
                      refine bodyPost_ret (v := .tuple #[recV ⟨m, A, B, K⟩, .int .i64 0]) (by simp [results, Tryd.results22, go_sem, c0, c1, c2, c3, hl]) rfl ⟨rfl, ?_⟩
                      rw [hpw]
                      iterate 4 refine Below.setCell ?_ hp _
                      rw [← hpw]
                      with_reducible exact HS.out
              · have hY2i : ¬ (Y.length : Int) = 2 := by omega
                rw [if_neg hY2] at hpc
                have hEE := HE1.out m hf hpc
                obtain ⟨rfl, rfl⟩ : E = ⟨0, 0, 0, 0⟩ ∧ er = 181 := by simpa [Rec.bad, Rec.zero] using hEE
                obtain ⟨⟨c0, c1, c2, c3⟩, f0, f1, f2, f3, hl⟩ := pr_res (l := [_, _]) hs6
                have HS := Lib.hid hs6.below
                clear hs6 hEE HE1 HE2 hE' hpc hYs hYl Hl6 Hmm HPS hst
                go_wp2_with fail
                refine bodyPost_ret (v := .tuple #[recV ⟨0, 0, 0, 0⟩, .int .i64 181]) (by simp [results, Tryd.results22, go_sem, c0, c1, c2, c3, hl]) rfl ⟨rfl, ?_⟩
                rw [hpw]
                iterate 4 refine Below.setCell ?_ hp _
                rw [← hpw]
                with_reducible exact HS.out
      · have hno2 : ∀ i, i < m + 1 → Rec.word i ≠ w0 := fun i hi => by
          by_cases e2 : i = m
          · rw [e2]; exact e
          · exact hno.out i (by omega)
        have HO := Lib.hid hno2
        have e1 : ¬ (bs (Rec.word m)).toList = (bs w0).toList := fun x => e (by rw [ByteArray.toList_eq, ByteArray.toList_eq] at x; exact x)
        have e2 : ((bs (Rec.word m)).toList == (bs w0).toList) = false := by simpa using e1
        have e3 : ((bs (Rec.word m)).toList != (bs w0).toList) = true := by simpa using e1
        clear HFY HFN HE0 HE1 HE2 hno hno2 e
        generalize bs (Rec.word m) = R at *
        generalize bs w0 = S at *
        go_upto_region 5 with fail
        refine wp_region_quiet_below (by kernel_rfl) (by kernel_rfl) ?_
        repeat (first | go_big_quiet_step (first | with_reducible exact cW _ _) | quiet_step (fail))
        refine wpQuiet_nil ?_
        intro W3 hw'
        replace hw' := below_regrown' hw'
        replace hst := hst.later hw'
        clear u0 cW hw'
        go_wp2_with fail
        go_roundw
        case rel => exact ⟨m + 1, by go_num, by omega, HO, hst⟩
        case measure => simp [RowKit.intOf]; omega
    · obtain rfl : m = 11 := by omega
      have hE := HE0.out (HFN.out hno.out)
      obtain ⟨rfl, rfl⟩ : E = ⟨0, 0, 0, 0⟩ ∧ er = 181 := by simpa [Rec.bad, Rec.zero] using hE
      obtain ⟨⟨c0, c1, c2, c3⟩, f0, f1, f2, f3, hl⟩ := pr_res hst
      have HS := Lib.hid hst.below
      clear hst HE0 HE1 HE2 HFY HFN hno hE HSH
      go_wp2_with fail
      refine bodyPost_ret (v := .tuple #[recV ⟨0, 0, 0, 0⟩, .int .i64 181]) (by simp [results, Tryd.results22, go_sem, c0, c1, c2, c3, hl]) rfl ⟨rfl, ?_⟩
      rw [hpw]
      iterate 4 refine Below.setCell ?_ hp _
      rw [← hpw]
      with_reducible exact HS.out
end Go.Proofs.YtokfecbjkngpgaaDoor
