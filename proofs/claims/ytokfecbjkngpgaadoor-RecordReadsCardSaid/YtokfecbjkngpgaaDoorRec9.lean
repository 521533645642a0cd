/- Package record's lower and read: what stands behind a word; of what was in memory nothing is changed. -/
import Derived.Test.YtokfecbjkngpgaaDoorRec8
namespace Go.Proofs.YtokfecbjkngpgaaDoor
open Go.RowKit Go.Sort Go.Lib

/-- What the walks read of the package-level variables. -/
structure Env (w : World) : Prop where
  at' : At w
  sh : Shapes w
theorem Env.below {w w' : World} (h : Env w) (hb : Below w.heap.size w w') : Env w' := ⟨h.at'.below hb, h.sh.below hb⟩
theorem cut_any (s p : ByteArray) (hs : s.size < 4294967281) (x y : List UInt8) (z : Bool) (hc : Lib.cut s.data.toList p.data.toList = (x, y, z)) (w : World) (h : At w) :
    Calls Tryd.prog 23 #[.string s, .string p] w fun e w' => e = .returned (.tuple #[.string (bs x), .string (bs y), .bool z]) ∧ Below w.heap.size w w' := by
  obtain ⟨m, hm⟩ := h.most
  refine (Tryd.strings_Cut s p m w hs hm).mono ?_
  rintro e w' ⟨he, n, rfl⟩
  rw [hc] at he
  exact ⟨he, below_drewN (Below.refl _ _) n⟩
theorem lower_any (s : ByteArray) (hs : s.size ≤ 281474976710656) (w : World) (h : At w) :
    Calls Tryd.prog 44 #[.string s] w fun e w' => e = .returned (.int .u32 (Rec.low s.data.toList)) ∧ Below w.heap.size w w' := by
  have hN := number_any s hs
  unfold Rec.low
  generalize Num.numE s.data.toList = x at *
  obtain ⟨k, ok⟩ := x
  have HN := Lib.hid hN
  clear hN
  go_enter Tryd.func44, Tryd.ntmps44
  go_wp2_with fail
  refine (HN.out _ h).mono ?_
  rintro e w1 ⟨rfl, hb1⟩
  go_wp2_with fail
  go_ret
  exact ⟨ret_int (by simp), hb1⟩

/-- The three boxes that read keeps: its answer, the shape, the record. -/
abbrev RdSt (W w : World) (p d q n : Nat) (Wd M : ByteArray) (u v : Bool) (A B K : Int) : Prop :=
  Stage (fun _ => False) W [Ob.box p #[.int .i64 0, .int .u32 0, .int .u32 0, .int .i64 0] 24, Ob.box d #[.string Wd, .bool u, .string M, .bool v] 48, Ob.box q #[.int .i64 n, .int .u32 A, .int .u32 B, .int .i64 K] 24] w
section
variable {W w : World} {p d q n : Nat} {Wd M : ByteArray} {u v : Bool} {A B K : Int}
theorem rd_cells (hs : RdSt W w p d q n Wd M u v A B K) : w.cell? ⟨d, 0, none⟩ = some (.string Wd) ∧ w.cell? ⟨d, 1, none⟩ = some (.bool u) ∧ w.cell? ⟨d, 2, none⟩ = some (.string M) ∧ w.cell? ⟨d, 3, none⟩ = some (.bool v) ∧
    w.cell? ⟨q, 0, none⟩ = some (.int .i64 n) ∧ w.cell? ⟨q, 1, none⟩ = some (.int .u32 A) ∧ w.cell? ⟨q, 2, none⟩ = some (.int .u32 B) ∧ w.cell? ⟨q, 3, none⟩ = some (.int .i64 K) :=
  ⟨hs.cell 1 rfl rfl, hs.cell 1 rfl rfl, hs.cell 1 rfl rfl, hs.cell 1 rfl rfl, hs.cell 2 rfl rfl, hs.cell 2 rfl rfl, hs.cell 2 rfl rfl, hs.cell 2 rfl rfl⟩
theorem rd_res (hs : RdSt W w p d q n Wd M u v A B K) : w.cell? ⟨p, 0, none⟩ = some (.int .i64 0) ∧ w.cell? ⟨p, 1, none⟩ = some (.int .u32 0) ∧ w.cell? ⟨p, 2, none⟩ = some (.int .u32 0) ∧ w.cell? ⟨p, 3, none⟩ = some (.int .i64 0) :=
  ⟨hs.cell 0 rfl rfl, hs.cell 0 rfl rfl, hs.cell 0 rfl rfl, hs.cell 0 rfl rfl⟩
theorem rd_free (hs : RdSt W w p d q n Wd M u v A B K) : (w.frozen? ⟨q, 1, none⟩ = false ∧ w.frozen? ⟨q, 2, none⟩ = false ∧ w.frozen? ⟨q, 3, none⟩ = false) ∧ w.frozen? ⟨p, 0, none⟩ = false ∧ w.frozen? ⟨p, 1, none⟩ = false ∧ w.frozen? ⟨p, 2, none⟩ = false ∧ w.frozen? ⟨p, 3, none⟩ = false :=
  ⟨⟨hs.free 2 rfl _, hs.free 2 rfl _, hs.free 2 rfl _⟩, hs.free 0 rfl _, hs.free 0 rfl _, hs.free 0 rfl _, hs.free 0 rfl _⟩
theorem rd_lts (hs : RdSt W w p d q n Wd M u v A B K) : p < w.heap.size ∧ d < w.heap.size ∧ q < w.heap.size ∧ d ≠ q ∧ p ≠ q ∧ q ≠ p ∧ q ≠ d := ⟨hs.lt 0 rfl, hs.lt 1 rfl, hs.lt 2 rfl, hs.ne 1 2 rfl rfl (by decide), hs.ne 0 2 rfl rfl (by decide), hs.ne 2 0 rfl rfl (by decide), hs.ne 2 1 rfl rfl (by decide)⟩
theorem rd_A (hs : RdSt W w p d q n Wd M u v A B K) (A' : Int) : RdSt W (w.setCell ⟨q, 1, none⟩ (.int .u32 A')) p d q n Wd M u v A' B K := hs.store 2 rfl 1 _
theorem rd_B (hs : RdSt W w p d q n Wd M u v A B K) (B' : Int) : RdSt W (w.setCell ⟨q, 2, none⟩ (.int .u32 B')) p d q n Wd M u v A B' K := hs.store 2 rfl 2 _
theorem rd_K (hs : RdSt W w p d q n Wd M u v A B K) (K' : Int) : RdSt W (w.setCell ⟨q, 3, none⟩ (.int .i64 K')) p d q n Wd M u v A B K' := hs.store 2 rfl 3 _
end

set_option maxHeartbeats 8000000 in
set_option maxRecDepth 100000 in
theorem read_of (n : Nat) (hn : n ≤ 10) (L X1 Y1 X2 Y2 : ByteArray) (A B K : Int) (z1 z2 zk : Bool) (w : World) (h : Env w) (R : Rec.R)
    (hE : R = ⟨n, if Rec.hA n then A else 0, if Rec.hB n then B else 0, if Rec.hK n then K else 0⟩)
    (C1 : Hid (Rec.hK n = true → ∀ w : World, At w → Calls Tryd.prog 23 #[.string L, .string ⟨#[32]⟩] w fun e w' => e = .returned (.tuple #[.string X1, .string Y1, .bool z1]) ∧ Below w.heap.size w w')) (e1 : Rec.hK n = false → X1 = L)
    (C2 : Hid (Rec.hB n = true → ∀ w : World, At w → Calls Tryd.prog 23 #[.string X1, .string (bs (markL n))] w fun e w' => e = .returned (.tuple #[.string X2, .string Y2, .bool z2]) ∧ Below w.heap.size w w')) (e2 : Rec.hB n = false → X2 = X1)
    (NK : Hid (∀ w : World, At w → Calls Tryd.prog 43 #[.string Y1] w fun e w' => e = .returned (.tuple #[.int .i64 K, .bool zk]) ∧ Below w.heap.size w w'))
    (LB : Hid (∀ w : World, At w → Calls Tryd.prog 44 #[.string Y2] w fun e w' => e = .returned (.int .u32 B) ∧ Below w.heap.size w w'))
    (LA : Hid (∀ w : World, At w → Calls Tryd.prog 44 #[.string X2] w fun e w' => e = .returned (.int .u32 A) ∧ Below w.heap.size w w')) :
    Calls Tryd.prog 25 #[.int .i64 n, .string L] w fun e w' => e = .returned (recV R) ∧ Below w.heap.size w w' := by
  obtain ⟨x0, x1, x2, x3⟩ := h.sh n hn
  have hlt := block_lt_of_cell x0
  have hm := mark_or n
  generalize bs (markL n) = M at *
  generalize bs (Rec.word n) = Wd at *
  have g1 : ¬ ((n : Int) < 0) := by omega
  have g3 : (n : Int) < 11 := by omega
  have g4 : (0 : Int) ≤ (n : Int) := by omega
  have E2 := Lib.hid e2
  have E1 := Lib.hid e1
  clear e1 e2
  cases hA : Rec.hA n <;> cases hK : Rec.hK n <;> rcases hm with ⟨hB, rfl⟩ | ⟨hB, hm⟩ <;> rw [hA] at x1 hE <;> rw [hK] at x3 hE <;> rw [hB] at hE <;> simp only [if_true, if_false, Bool.false_eq_true] at hE <;> subst hE
  · skip
    obtain rfl := E1.out hK
    obtain rfl := E2.out hB
    have hs : RdSt w (((w.alloc (.cells #[.int .i64 0, .int .u32 0, .int .u32 0, .int .i64 0] 24)).alloc (.cells #[.string Wd, .bool false, .string noS, .bool false] 48)).alloc (.cells #[.int .i64 n, .int .u32 0, .int .u32 0, .int .i64 0] 24)) w.heap.size (w.heap.size + 1) (w.heap.size + 1 + 1) n Wd noS false false 0 0 0 := by
      have := (((Stage.start w).alloc #[.int .i64 0, .int .u32 0, .int .u32 0, .int .i64 0] 24).alloc #[.string Wd, .bool false, .string noS, .bool false] 48).alloc #[.int .i64 n, .int .u32 0, .int .u32 0, .int .i64 0] 24
      simp only [World.size_alloc] at this
      exact this
    go_enter Tryd.func25, Tryd.ntmps25
    go_wp2_with fail
    refine bodyPost_ret (v := recV ⟨n, 0, 0, 0⟩) (by simp [results, Tryd.results25, go_sem]) rfl ⟨rfl, ?_⟩
    exact (((Below.refl _ _).alloc (Nat.le_refl _) _).alloc (by simp) _).alloc (by simp; omega) _
  · skip
    obtain rfl := E1.out hK
    have C2' := Lib.hid (C2.out hB)
    have hs : RdSt w (((w.alloc (.cells #[.int .i64 0, .int .u32 0, .int .u32 0, .int .i64 0] 24)).alloc (.cells #[.string Wd, .bool false, .string M, .bool false] 48)).alloc (.cells #[.int .i64 n, .int .u32 0, .int .u32 0, .int .i64 0] 24)) w.heap.size (w.heap.size + 1) (w.heap.size + 1 + 1) n Wd M false false 0 0 0 := by
      have := (((Stage.start w).alloc #[.int .i64 0, .int .u32 0, .int .u32 0, .int .i64 0] 24).alloc #[.string Wd, .bool false, .string M, .bool false] 48).alloc #[.int .i64 n, .int .u32 0, .int .u32 0, .int .i64 0] 24
      simp only [World.size_alloc] at this
      exact this
    go_enter Tryd.func25, Tryd.ntmps25
    go_wp2_with fail
    have hp : w.heap.size ≤ w.heap.size ∧ w.heap.size ≤ w.heap.size + 1 ∧ w.heap.size ≤ w.heap.size + 1 + 1 := by omega
    refine (C2'.out _ (h.at'.below hs.below)).mono ?_
    rintro e w1 ⟨rfl, hb⟩
    replace hs := hs.later hb
    clear hb
    generalize w.heap.size + 1 + 1 = q at hs hp ⊢
    generalize w.heap.size + 1 = d at hs hp ⊢
    clear x0 x1 x2 x3 hlt
    obtain ⟨c0, c1, c2, c3, d0, d1, d2, d3⟩ := rd_cells hs
    obtain ⟨p0, p1, p2, p3⟩ := rd_res hs
    obtain ⟨⟨f1, f2, f3⟩, r0, r1, r2, r3⟩ := rd_free hs
    obtain ⟨i1, i2, i3, i4, i5, i6, i7⟩ := rd_lts hs
    go_wp2_with fail
    refine (LB.out _ (h.at'.below hs.below)).mono ?_
    rintro e w2 ⟨rfl, hb⟩
    replace hs := hs.later hb
    clear hb
    clear c0 c1 c2 c3 d0 d1 d2 d3 p0 p1 p2 p3 f1 f2 f3 r0 r1 r2 r3 i1 i2 i3 i4 i5 i6 i7
    obtain ⟨c0, c1, c2, c3, d0, d1, d2, d3⟩ := rd_cells hs
    obtain ⟨p0, p1, p2, p3⟩ := rd_res hs
    obtain ⟨⟨f1, f2, f3⟩, r0, r1, r2, r3⟩ := rd_free hs
    obtain ⟨i1, i2, i3, i4, i5, i6, i7⟩ := rd_lts hs
    go_wp2_with fail
    replace hs := rd_B hs B
    have HS := Lib.hid hs.below
    clear hs
    refine bodyPost_ret (v := recV ⟨n, 0, B, 0⟩) (by simp [results, Tryd.results25, go_sem, p0, p1, p2, p3, i1, i6]) rfl ⟨rfl, ?_⟩
    iterate 4 refine Below.setCell ?_ hp.1 _
    with_reducible exact HS.out
  · skip
    have C1' := Lib.hid (C1.out hK)
    obtain rfl := E2.out hB
    have hs : RdSt w (((w.alloc (.cells #[.int .i64 0, .int .u32 0, .int .u32 0, .int .i64 0] 24)).alloc (.cells #[.string Wd, .bool false, .string noS, .bool true] 48)).alloc (.cells #[.int .i64 n, .int .u32 0, .int .u32 0, .int .i64 0] 24)) w.heap.size (w.heap.size + 1) (w.heap.size + 1 + 1) n Wd noS false true 0 0 0 := by
      have := (((Stage.start w).alloc #[.int .i64 0, .int .u32 0, .int .u32 0, .int .i64 0] 24).alloc #[.string Wd, .bool false, .string noS, .bool true] 48).alloc #[.int .i64 n, .int .u32 0, .int .u32 0, .int .i64 0] 24
      simp only [World.size_alloc] at this
      exact this
    go_enter Tryd.func25, Tryd.ntmps25
    go_wp2_with fail
    have hp : w.heap.size ≤ w.heap.size ∧ w.heap.size ≤ w.heap.size + 1 ∧ w.heap.size ≤ w.heap.size + 1 + 1 := by omega
    refine (C1'.out _ (h.at'.below hs.below)).mono ?_
    rintro e w1 ⟨rfl, hb⟩
    replace hs := hs.later hb
    clear hb
    generalize w.heap.size + 1 + 1 = q at hs hp ⊢
    generalize w.heap.size + 1 = d at hs hp ⊢
    clear x0 x1 x2 x3 hlt
    obtain ⟨c0, c1, c2, c3, d0, d1, d2, d3⟩ := rd_cells hs
    obtain ⟨p0, p1, p2, p3⟩ := rd_res hs
    obtain ⟨⟨f1, f2, f3⟩, r0, r1, r2, r3⟩ := rd_free hs
    obtain ⟨i1, i2, i3, i4, i5, i6, i7⟩ := rd_lts hs
    go_wp2_with fail
    refine (NK.out _ (h.at'.below hs.below)).mono ?_
    rintro e w2 ⟨rfl, hb⟩
    replace hs := hs.later hb
    clear hb
    clear c0 c1 c2 c3 d0 d1 d2 d3 p0 p1 p2 p3 f1 f2 f3 r0 r1 r2 r3 i1 i2 i3 i4 i5 i6 i7
    obtain ⟨c0, c1, c2, c3, d0, d1, d2, d3⟩ := rd_cells hs
    obtain ⟨p0, p1, p2, p3⟩ := rd_res hs
    obtain ⟨⟨f1, f2, f3⟩, r0, r1, r2, r3⟩ := rd_free hs
    obtain ⟨i1, i2, i3, i4, i5, i6, i7⟩ := rd_lts hs
    go_wp2_with fail
    replace hs := rd_K hs K
    have HS := Lib.hid hs.below
    clear hs
    refine bodyPost_ret (v := recV ⟨n, 0, 0, K⟩) (by simp [results, Tryd.results25, go_sem, p0, p1, p2, p3, i1, i6]) rfl ⟨rfl, ?_⟩
    iterate 4 refine Below.setCell ?_ hp.1 _
    with_reducible exact HS.out
  · skip
    have C1' := Lib.hid (C1.out hK)
    have C2' := Lib.hid (C2.out hB)
    have hs : RdSt w (((w.alloc (.cells #[.int .i64 0, .int .u32 0, .int .u32 0, .int .i64 0] 24)).alloc (.cells #[.string Wd, .bool false, .string M, .bool true] 48)).alloc (.cells #[.int .i64 n, .int .u32 0, .int .u32 0, .int .i64 0] 24)) w.heap.size (w.heap.size + 1) (w.heap.size + 1 + 1) n Wd M false true 0 0 0 := by
      have := (((Stage.start w).alloc #[.int .i64 0, .int .u32 0, .int .u32 0, .int .i64 0] 24).alloc #[.string Wd, .bool false, .string M, .bool true] 48).alloc #[.int .i64 n, .int .u32 0, .int .u32 0, .int .i64 0] 24
      simp only [World.size_alloc] at this
      exact this
    go_enter Tryd.func25, Tryd.ntmps25
    go_wp2_with fail
    have hp : w.heap.size ≤ w.heap.size ∧ w.heap.size ≤ w.heap.size + 1 ∧ w.heap.size ≤ w.heap.size + 1 + 1 := by omega
    refine (C1'.out _ (h.at'.below hs.below)).mono ?_
    rintro e w1 ⟨rfl, hb⟩
    replace hs := hs.later hb
    clear hb
    generalize w.heap.size + 1 + 1 = q at hs hp ⊢
    generalize w.heap.size + 1 = d at hs hp ⊢
    clear x0 x1 x2 x3 hlt
    obtain ⟨c0, c1, c2, c3, d0, d1, d2, d3⟩ := rd_cells hs
    obtain ⟨p0, p1, p2, p3⟩ := rd_res hs
    obtain ⟨⟨f1, f2, f3⟩, r0, r1, r2, r3⟩ := rd_free hs
    obtain ⟨i1, i2, i3, i4, i5, i6, i7⟩ := rd_lts hs
    go_wp2_with fail
    refine (NK.out _ (h.at'.below hs.below)).mono ?_
    rintro e w2 ⟨rfl, hb⟩
    replace hs := hs.later hb
    clear hb
    clear c0 c1 c2 c3 d0 d1 d2 d3 p0 p1 p2 p3 f1 f2 f3 r0 r1 r2 r3 i1 i2 i3 i4 i5 i6 i7
    obtain ⟨c0, c1, c2, c3, d0, d1, d2, d3⟩ := rd_cells hs
    obtain ⟨p0, p1, p2, p3⟩ := rd_res hs
    obtain ⟨⟨f1, f2, f3⟩, r0, r1, r2, r3⟩ := rd_free hs
    obtain ⟨i1, i2, i3, i4, i5, i6, i7⟩ := rd_lts hs
    go_wp2_with fail
    replace hs := rd_K hs K
    refine (C2'.out _ (h.at'.below hs.below)).mono ?_
    rintro e w3 ⟨rfl, hb⟩
    replace hs := hs.later hb
    clear hb
    clear c0 c1 c2 c3 d0 d1 d2 d3 p0 p1 p2 p3 f1 f2 f3 r0 r1 r2 r3 i1 i2 i3 i4 i5 i6 i7
    obtain ⟨c0, c1, c2, c3, d0, d1, d2, d3⟩ := rd_cells hs
    obtain ⟨p0, p1, p2, p3⟩ := rd_res hs
    obtain ⟨⟨f1, f2, f3⟩, r0, r1, r2, r3⟩ := rd_free hs
    obtain ⟨i1, i2, i3, i4, i5, i6, i7⟩ := rd_lts hs
    go_wp2_with fail
    refine (LB.out _ (h.at'.below hs.below)).mono ?_
    rintro e w4 ⟨rfl, hb⟩
    replace hs := hs.later hb
    clear hb
    clear c0 c1 c2 c3 d0 d1 d2 d3 p0 p1 p2 p3 f1 f2 f3 r0 r1 r2 r3 i1 i2 i3 i4 i5 i6 i7
    obtain ⟨c0, c1, c2, c3, d0, d1, d2, d3⟩ := rd_cells hs
    obtain ⟨p0, p1, p2, p3⟩ := rd_res hs
    obtain ⟨⟨f1, f2, f3⟩, r0, r1, r2, r3⟩ := rd_free hs
    obtain ⟨i1, i2, i3, i4, i5, i6, i7⟩ := rd_lts hs
    go_wp2_with fail
    replace hs := rd_B hs B
    have HS := Lib.hid hs.below
    clear hs
    refine bodyPost_ret (v := recV ⟨n, 0, B, K⟩) (by simp [results, Tryd.results25, go_sem, p0, p1, p2, p3, i1, i6]) rfl ⟨rfl, ?_⟩
    iterate 4 refine Below.setCell ?_ hp.1 _
    with_reducible exact HS.out
  · skip
    obtain rfl := E1.out hK
    obtain rfl := E2.out hB
    have hs : RdSt w (((w.alloc (.cells #[.int .i64 0, .int .u32 0, .int .u32 0, .int .i64 0] 24)).alloc (.cells #[.string Wd, .bool true, .string noS, .bool false] 48)).alloc (.cells #[.int .i64 n, .int .u32 0, .int .u32 0, .int .i64 0] 24)) w.heap.size (w.heap.size + 1) (w.heap.size + 1 + 1) n Wd noS true false 0 0 0 := by
      have := (((Stage.start w).alloc #[.int .i64 0, .int .u32 0, .int .u32 0, .int .i64 0] 24).alloc #[.string Wd, .bool true, .string noS, .bool false] 48).alloc #[.int .i64 n, .int .u32 0, .int .u32 0, .int .i64 0] 24
      simp only [World.size_alloc] at this
      exact this
    go_enter Tryd.func25, Tryd.ntmps25
    go_wp2_with fail
    have hp : w.heap.size ≤ w.heap.size ∧ w.heap.size ≤ w.heap.size + 1 ∧ w.heap.size ≤ w.heap.size + 1 + 1 := by omega
    refine (LA.out _ (h.at'.below hs.below)).mono ?_
    rintro e w1 ⟨rfl, hb⟩
    replace hs := hs.later hb
    clear hb
    generalize w.heap.size + 1 + 1 = q at hs hp ⊢
    generalize w.heap.size + 1 = d at hs hp ⊢
    clear x0 x1 x2 x3 hlt
    obtain ⟨c0, c1, c2, c3, d0, d1, d2, d3⟩ := rd_cells hs
    obtain ⟨p0, p1, p2, p3⟩ := rd_res hs
    obtain ⟨⟨f1, f2, f3⟩, r0, r1, r2, r3⟩ := rd_free hs
    obtain ⟨i1, i2, i3, i4, i5, i6, i7⟩ := rd_lts hs
    go_wp2_with fail
    replace hs := rd_A hs A
    have HS := Lib.hid hs.below
    clear hs
    refine bodyPost_ret (v := recV ⟨n, A, 0, 0⟩) (by simp [results, Tryd.results25, go_sem, p0, p1, p2, p3, i1, i6]) rfl ⟨rfl, ?_⟩
    iterate 4 refine Below.setCell ?_ hp.1 _
    with_reducible exact HS.out
  · skip
    obtain rfl := E1.out hK
    have C2' := Lib.hid (C2.out hB)
    have hs : RdSt w (((w.alloc (.cells #[.int .i64 0, .int .u32 0, .int .u32 0, .int .i64 0] 24)).alloc (.cells #[.string Wd, .bool true, .string M, .bool false] 48)).alloc (.cells #[.int .i64 n, .int .u32 0, .int .u32 0, .int .i64 0] 24)) w.heap.size (w.heap.size + 1) (w.heap.size + 1 + 1) n Wd M true false 0 0 0 := by
      have := (((Stage.start w).alloc #[.int .i64 0, .int .u32 0, .int .u32 0, .int .i64 0] 24).alloc #[.string Wd, .bool true, .string M, .bool false] 48).alloc #[.int .i64 n, .int .u32 0, .int .u32 0, .int .i64 0] 24
      simp only [World.size_alloc] at this
      exact this
    go_enter Tryd.func25, Tryd.ntmps25
    go_wp2_with fail
    have hp : w.heap.size ≤ w.heap.size ∧ w.heap.size ≤ w.heap.size + 1 ∧ w.heap.size ≤ w.heap.size + 1 + 1 := by omega
    refine (C2'.out _ (h.at'.below hs.below)).mono ?_
    rintro e w1 ⟨rfl, hb⟩
    replace hs := hs.later hb
    clear hb
    generalize w.heap.size + 1 + 1 = q at hs hp ⊢
    generalize w.heap.size + 1 = d at hs hp ⊢
    clear x0 x1 x2 x3 hlt
    obtain ⟨c0, c1, c2, c3, d0, d1, d2, d3⟩ := rd_cells hs
    obtain ⟨p0, p1, p2, p3⟩ := rd_res hs
    obtain ⟨⟨f1, f2, f3⟩, r0, r1, r2, r3⟩ := rd_free hs
    obtain ⟨i1, i2, i3, i4, i5, i6, i7⟩ := rd_lts hs
    go_wp2_with fail
    refine (LB.out _ (h.at'.below hs.below)).mono ?_
    rintro e w2 ⟨rfl, hb⟩
    replace hs := hs.later hb
    clear hb
    clear c0 c1 c2 c3 d0 d1 d2 d3 p0 p1 p2 p3 f1 f2 f3 r0 r1 r2 r3 i1 i2 i3 i4 i5 i6 i7
    obtain ⟨c0, c1, c2, c3, d0, d1, d2, d3⟩ := rd_cells hs
    obtain ⟨p0, p1, p2, p3⟩ := rd_res hs
    obtain ⟨⟨f1, f2, f3⟩, r0, r1, r2, r3⟩ := rd_free hs
    obtain ⟨i1, i2, i3, i4, i5, i6, i7⟩ := rd_lts hs
    go_wp2_with fail
    replace hs := rd_B hs B
    refine (LA.out _ (h.at'.below hs.below)).mono ?_
    rintro e w3 ⟨rfl, hb⟩
    replace hs := hs.later hb
    clear hb
    clear c0 c1 c2 c3 d0 d1 d2 d3 p0 p1 p2 p3 f1 f2 f3 r0 r1 r2 r3 i1 i2 i3 i4 i5 i6 i7
    obtain ⟨c0, c1, c2, c3, d0, d1, d2, d3⟩ := rd_cells hs
    obtain ⟨p0, p1, p2, p3⟩ := rd_res hs
    obtain ⟨⟨f1, f2, f3⟩, r0, r1, r2, r3⟩ := rd_free hs
    obtain ⟨i1, i2, i3, i4, i5, i6, i7⟩ := rd_lts hs
    go_wp2_with fail
    replace hs := rd_A hs A
    have HS := Lib.hid hs.below
    clear hs
    refine bodyPost_ret (v := recV ⟨n, A, B, 0⟩) (by simp [results, Tryd.results25, go_sem, p0, p1, p2, p3, i1, i6]) rfl ⟨rfl, ?_⟩
    iterate 4 refine Below.setCell ?_ hp.1 _
    with_reducible exact HS.out
  · skip
    have C1' := Lib.hid (C1.out hK)
    obtain rfl := E2.out hB
    have hs : RdSt w (((w.alloc (.cells #[.int .i64 0, .int .u32 0, .int .u32 0, .int .i64 0] 24)).alloc (.cells #[.string Wd, .bool true, .string noS, .bool true] 48)).alloc (.cells #[.int .i64 n, .int .u32 0, .int .u32 0, .int .i64 0] 24)) w.heap.size (w.heap.size + 1) (w.heap.size + 1 + 1) n Wd noS true true 0 0 0 := by
      have := (((Stage.start w).alloc #[.int .i64 0, .int .u32 0, .int .u32 0, .int .i64 0] 24).alloc #[.string Wd, .bool true, .string noS, .bool true] 48).alloc #[.int .i64 n, .int .u32 0, .int .u32 0, .int .i64 0] 24
      simp only [World.size_alloc] at this
      exact this
    go_enter Tryd.func25, Tryd.ntmps25
    go_wp2_with fail
    have hp : w.heap.size ≤ w.heap.size ∧ w.heap.size ≤ w.heap.size + 1 ∧ w.heap.size ≤ w.heap.size + 1 + 1 := by omega
    refine (C1'.out _ (h.at'.below hs.below)).mono ?_
    rintro e w1 ⟨rfl, hb⟩
    replace hs := hs.later hb
    clear hb
    generalize w.heap.size + 1 + 1 = q at hs hp ⊢
    generalize w.heap.size + 1 = d at hs hp ⊢
    clear x0 x1 x2 x3 hlt
    obtain ⟨c0, c1, c2, c3, d0, d1, d2, d3⟩ := rd_cells hs
    obtain ⟨p0, p1, p2, p3⟩ := rd_res hs
    obtain ⟨⟨f1, f2, f3⟩, r0, r1, r2, r3⟩ := rd_free hs
    obtain ⟨i1, i2, i3, i4, i5, i6, i7⟩ := rd_lts hs
    go_wp2_with fail
    refine (NK.out _ (h.at'.below hs.below)).mono ?_
    rintro e w2 ⟨rfl, hb⟩
    replace hs := hs.later hb
    clear hb
    clear c0 c1 c2 c3 d0 d1 d2 d3 p0 p1 p2 p3 f1 f2 f3 r0 r1 r2 r3 i1 i2 i3 i4 i5 i6 i7
    obtain ⟨c0, c1, c2, c3, d0, d1, d2, d3⟩ := rd_cells hs
    obtain ⟨p0, p1, p2, p3⟩ := rd_res hs
    obtain ⟨⟨f1, f2, f3⟩, r0, r1, r2, r3⟩ := rd_free hs
    obtain ⟨i1, i2, i3, i4, i5, i6, i7⟩ := rd_lts hs
    go_wp2_with fail
    replace hs := rd_K hs K
    refine (LA.out _ (h.at'.below hs.below)).mono ?_
    rintro e w3 ⟨rfl, hb⟩
    replace hs := hs.later hb
    clear hb
    clear c0 c1 c2 c3 d0 d1 d2 d3 p0 p1 p2 p3 f1 f2 f3 r0 r1 r2 r3 i1 i2 i3 i4 i5 i6 i7
    obtain ⟨c0, c1, c2, c3, d0, d1, d2, d3⟩ := rd_cells hs
    obtain ⟨p0, p1, p2, p3⟩ := rd_res hs
    obtain ⟨⟨f1, f2, f3⟩, r0, r1, r2, r3⟩ := rd_free hs
    obtain ⟨i1, i2, i3, i4, i5, i6, i7⟩ := rd_lts hs
    go_wp2_with fail
    replace hs := rd_A hs A
    have HS := Lib.hid hs.below
    clear hs
    refine bodyPost_ret (v := recV ⟨n, A, 0, K⟩) (by simp [results, Tryd.results25, go_sem, p0, p1, p2, p3, i1, i6]) rfl ⟨rfl, ?_⟩
    iterate 4 refine Below.setCell ?_ hp.1 _
    with_reducible exact HS.out
  · skip
    have C1' := Lib.hid (C1.out hK)
    have C2' := Lib.hid (C2.out hB)
    have hs : RdSt w (((w.alloc (.cells #[.int .i64 0, .int .u32 0, .int .u32 0, .int .i64 0] 24)).alloc (.cells #[.string Wd, .bool true, .string M, .bool true] 48)).alloc (.cells #[.int .i64 n, .int .u32 0, .int .u32 0, .int .i64 0] 24)) w.heap.size (w.heap.size + 1) (w.heap.size + 1 + 1) n Wd M true true 0 0 0 := by
      have := (((Stage.start w).alloc #[.int .i64 0, .int .u32 0, .int .u32 0, .int .i64 0] 24).alloc #[.string Wd, .bool true, .string M, .bool true] 48).alloc #[.int .i64 n, .int .u32 0, .int .u32 0, .int .i64 0] 24
      simp only [World.size_alloc] at this
      exact this
    go_enter Tryd.func25, Tryd.ntmps25
    go_wp2_with fail
    have hp : w.heap.size ≤ w.heap.size ∧ w.heap.size ≤ w.heap.size + 1 ∧ w.heap.size ≤ w.heap.size + 1 + 1 := by omega
    refine (C1'.out _ (h.at'.below hs.below)).mono ?_
    rintro e w1 ⟨rfl, hb⟩
    replace hs := hs.later hb
    clear hb
    generalize w.heap.size + 1 + 1 = q at hs hp ⊢
    generalize w.heap.size + 1 = d at hs hp ⊢
    clear x0 x1 x2 x3 hlt
    obtain ⟨c0, c1, c2, c3, d0, d1, d2, d3⟩ := rd_cells hs
    obtain ⟨p0, p1, p2, p3⟩ := rd_res hs
    obtain ⟨⟨f1, f2, f3⟩, r0, r1, r2, r3⟩ := rd_free hs
    obtain ⟨i1, i2, i3, i4, i5, i6, i7⟩ := rd_lts hs
    go_wp2_with fail
    refine (NK.out _ (h.at'.below hs.below)).mono ?_
    rintro e w2 ⟨rfl, hb⟩
    replace hs := hs.later hb
    clear hb
    clear c0 c1 c2 c3 d0 d1 d2 d3 p0 p1 p2 p3 f1 f2 f3 r0 r1 r2 r3 i1 i2 i3 i4 i5 i6 i7
    obtain ⟨c0, c1, c2, c3, d0, d1, d2, d3⟩ := rd_cells hs
    obtain ⟨p0, p1, p2, p3⟩ := rd_res hs
    obtain ⟨⟨f1, f2, f3⟩, r0, r1, r2, r3⟩ := rd_free hs
    obtain ⟨i1, i2, i3, i4, i5, i6, i7⟩ := rd_lts hs
    go_wp2_with fail
    replace hs := rd_K hs K
    refine (C2'.out _ (h.at'.below hs.below)).mono ?_
    rintro e w3 ⟨rfl, hb⟩
    replace hs := hs.later hb
    clear hb
    clear c0 c1 c2 c3 d0 d1 d2 d3 p0 p1 p2 p3 f1 f2 f3 r0 r1 r2 r3 i1 i2 i3 i4 i5 i6 i7
    obtain ⟨c0, c1, c2, c3, d0, d1, d2, d3⟩ := rd_cells hs
    obtain ⟨p0, p1, p2, p3⟩ := rd_res hs
    obtain ⟨⟨f1, f2, f3⟩, r0, r1, r2, r3⟩ := rd_free hs
    obtain ⟨i1, i2, i3, i4, i5, i6, i7⟩ := rd_lts hs
    go_wp2_with fail
    refine (LB.out _ (h.at'.below hs.below)).mono ?_
    rintro e w4 ⟨rfl, hb⟩
    replace hs := hs.later hb
    clear hb
    clear c0 c1 c2 c3 d0 d1 d2 d3 p0 p1 p2 p3 f1 f2 f3 r0 r1 r2 r3 i1 i2 i3 i4 i5 i6 i7
    obtain ⟨c0, c1, c2, c3, d0, d1, d2, d3⟩ := rd_cells hs
    obtain ⟨p0, p1, p2, p3⟩ := rd_res hs
    obtain ⟨⟨f1, f2, f3⟩, r0, r1, r2, r3⟩ := rd_free hs
    obtain ⟨i1, i2, i3, i4, i5, i6, i7⟩ := rd_lts hs
    go_wp2_with fail
    replace hs := rd_B hs B
    refine (LA.out _ (h.at'.below hs.below)).mono ?_
    rintro e w5 ⟨rfl, hb⟩
    replace hs := hs.later hb
    clear hb
    clear c0 c1 c2 c3 d0 d1 d2 d3 p0 p1 p2 p3 f1 f2 f3 r0 r1 r2 r3 i1 i2 i3 i4 i5 i6 i7
    obtain ⟨c0, c1, c2, c3, d0, d1, d2, d3⟩ := rd_cells hs
    obtain ⟨p0, p1, p2, p3⟩ := rd_res hs
    obtain ⟨⟨f1, f2, f3⟩, r0, r1, r2, r3⟩ := rd_free hs
    obtain ⟨i1, i2, i3, i4, i5, i6, i7⟩ := rd_lts hs
    go_wp2_with fail
    replace hs := rd_A hs A
    have HS := Lib.hid hs.below
    clear hs
    refine bodyPost_ret (v := recV ⟨n, A, B, K⟩) (by simp [results, Tryd.results25, go_sem, p0, p1, p2, p3, i1, i6]) rfl ⟨rfl, ?_⟩
    iterate 4 refine Below.setCell ?_ hp.1 _
    with_reducible exact HS.out
end Go.Proofs.YtokfecbjkngpgaaDoor
