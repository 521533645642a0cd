/- Package record's Parse: of any text the record that it is; of what was in memory nothing is changed. -/
import Derived.Test.YtokfecbjkngpgaaDoorRec9
namespace Go.Proofs.YtokfecbjkngpgaaDoor
open Go.RowKit Go.Sort Go.Lib

theorem cut_len (l p : List UInt8) : (Lib.cut l p).1.length ≤ l.length ∧ (Lib.cut l p).2.1.length ≤ l.length := by
  unfold Lib.cut
  split <;> simp <;> omega
theorem bs_size (l : List UInt8) : (bs l).size = l.length := rfl
theorem size_list (s : ByteArray) : s.size = s.data.toList.length := rfl
theorem read_any (n : Nat) (hn : n ≤ 10) (L : ByteArray) (hL : L.size < 4294967281) (w : World) (h : Env w) :
    Calls Tryd.prog 25 #[.int .i64 n, .string L] w fun e w' => e = .returned (recV (Rec.rd3 n L.data.toList)) ∧ Below w.heap.size w w' := by
  have q1 := cut_len L.data.toList [32]
  rw [size_list] at hL
  obtain ⟨x1, hx1⟩ : ∃ x1, x1 = if Rec.hK n then (Lib.cut L.data.toList [32]).1 else L.data.toList := ⟨_, rfl⟩
  have q2 : x1.length ≤ L.data.toList.length := by rw [hx1]; split <;> omega
  obtain ⟨x2, hx2⟩ : ∃ x2, x2 = if Rec.hB n then (Lib.cut x1 [Rec.mk n]).1 else x1 := ⟨_, rfl⟩
  have q3 := cut_len x1 [Rec.mk n]
  have q4 : x2.length ≤ L.data.toList.length := by rw [hx2]; split <;> omega
  refine read_of n hn L (bs x1) (bs (Lib.cut L.data.toList [32]).2.1) (bs x2) (bs (Lib.cut x1 [Rec.mk n]).2.1) (Rec.low x2) (Rec.low (Lib.cut x1 [Rec.mk n]).2.1) (Num.numE (Lib.cut L.data.toList [32]).2.1).1
    (Lib.cut L.data.toList [32]).2.2 (Lib.cut x1 [Rec.mk n]).2.2 (Num.numE (Lib.cut L.data.toList [32]).2.1).2 w h _ ?_ (Lib.hid ?_) ?_ (Lib.hid ?_) ?_ (Lib.hid ?_) (Lib.hid ?_) (Lib.hid ?_)
  · subst hx2 hx1
    unfold Rec.rd3
    cases hA : Rec.hA n <;> cases hB : Rec.hB n <;> cases hK : Rec.hK n <;> simp
  · intro hK w ha
    rw [if_pos hK] at hx1
    rw [hx1]
    exact cut_any L ⟨#[32]⟩ (by rw [size_list]; omega) _ _ _ rfl w ha
  · intro hK
    rw [hK] at hx1
    rw [hx1]
    rfl
  · intro hB w ha
    rw [if_pos hB] at hx2
    rw [hx2, show bs (markL n) = ⟨#[Rec.mk n]⟩ by simp [markL, hB, bs]]
    exact cut_any (bs x1) ⟨#[Rec.mk n]⟩ (by rw [bs_size]; omega) _ _ _ rfl w ha
  · intro hB
    rw [hB] at hx2
    rw [hx2]
    rfl
  · intro w ha
    exact number_any (bs (Lib.cut L.data.toList [32]).2.1) (by rw [bs_size]; omega) w ha
  · intro w ha
    exact lower_any (bs (Lib.cut x1 [Rec.mk n]).2.1) (by rw [bs_size]; omega) w ha
  · intro w ha
    exact lower_any (bs x2) (by rw [bs_size]; omega) w ha

/-- A text's reading, from what its word is. -/
theorem parE_none {l : List UInt8} (h : Rec.findW (Lib.cut l [32]).1 = none) : Rec.parE l = Rec.bad := by unfold Rec.parE; rw [h]
theorem parE_some {l : List UInt8} {o : Nat} (h : Rec.findW (Lib.cut l [32]).1 = some o) : Rec.parE l = if Rec.txt (Rec.rd3 o (Lib.cut l [32]).2.1) = l then (Rec.rd3 o (Lib.cut l [32]).2.1, 0) else Rec.bad := by unfold Rec.parE; rw [h]

set_option maxHeartbeats 4000000 in
set_option maxRecDepth 100000 in
theorem parse_of (s Wd L T : ByteArray) (z : Bool) (k : Option Nat) (o a b c : Int) (w : World) (h : Env w) (E : Rec.R) (er : Int)
    (HC : Hid (∀ w : World, At w → Calls Tryd.prog 23 #[.string s, .string ⟨#[32]⟩] w fun e w' => e = .returned (.tuple #[.string Wd, .string L, .bool z]) ∧ Below w.heap.size w w'))
    (HF : Hid (∀ w : World, Shapes w → Calls Tryd.prog 24 #[.string Wd] w fun e w' => e = .returned (.tuple #[.int .i64 ((k.getD 0 : Nat) : Int), .bool k.isSome]) ∧ Below w.heap.size w w'))
    (HR : Hid (∀ n, k = some n → ∀ w : World, Env w → Calls Tryd.prog 25 #[.int .i64 n, .string L] w fun e w' => e = .returned (recV ⟨o, a, b, c⟩) ∧ Below w.heap.size w w'))
    (HT : Hid (∀ n, k = some n → ∀ w : World, Env w → Calls Tryd.prog 15 #[recV ⟨o, a, b, c⟩] w fun e w' => e = .returned (.string T) ∧ Below w.heap.size w w'))
    (h0 : k = none → E = ⟨0, 0, 0, 0⟩ ∧ er = 181) (h1 : ∀ n, k = some n → T = s → E = ⟨o, a, b, c⟩ ∧ er = 0) (h2 : ∀ n, k = some n → ¬ T.toList = s.toList → E = ⟨0, 0, 0, 0⟩ ∧ er = 181) :
    Calls Tryd.prog 9 #[.string s] w fun e w' => e = .returned (.tuple #[recV E, .int .i64 er]) ∧ Below w.heap.size w w' := by
  have hp : w.heap.size ≤ w.heap.size := Nat.le_refl _
  have H0 := Lib.hid h0
  have H1 := Lib.hid h1
  have H2 := Lib.hid h2
  clear h0 h1 h2
  have hs0 := (Stage.start w).alloc #[.int .i64 0, .int .u32 0, .int .u32 0, .int .i64 0] 24
  go_enter Tryd.func9, Tryd.ntmps9
  go_wp2_with fail
  refine (HC.out _ (h.at'.below hs0.below)).mono ?_
  rintro e w1 ⟨rfl, hb⟩
  have hs1 := hs0.later hb
  clear hs0 hb HC
  go_wp2_with fail
  refine (HF.out _ (h.sh.below hs1.below)).mono ?_
  rintro e w2 ⟨rfl, hb⟩
  have hs2 := hs1.later hb
  clear hs1 hb HF
  have c0 : w2.cell? ⟨w.heap.size, 0, none⟩ = some (.int .i64 0) := hs2.cell 0 rfl rfl
  have c1 : w2.cell? ⟨w.heap.size, 1, none⟩ = some (.int .u32 0) := hs2.cell 0 rfl rfl
  have c2 : w2.cell? ⟨w.heap.size, 2, none⟩ = some (.int .u32 0) := hs2.cell 0 rfl rfl
  have c3 : w2.cell? ⟨w.heap.size, 3, none⟩ = some (.int .i64 0) := hs2.cell 0 rfl rfl
  have f0 := hs2.free 0 rfl 0
  have f1 := hs2.free 0 rfl 1
  have f2 := hs2.free 0 rfl 2
  have f3 := hs2.free 0 rfl 3
  have hl := hs2.lt 0 rfl
  cases k with
  | none =>
    obtain ⟨rfl, rfl⟩ := H0.out rfl
    have HS := Lib.hid hs2.below
    clear hs2
    simp only [Option.getD_none, Option.isSome_none]
    go_wp2_with fail
    refine bodyPost_ret (v := .tuple #[recV ⟨0, 0, 0, 0⟩, .int .i64 181]) (by simp [results, Tryd.results9, go_sem, c0, c1, c2, c3, hl]) rfl ⟨rfl, ?_⟩
    iterate 4 refine Below.setCell ?_ hp _
    with_reducible exact HS.out
  | some n =>
    simp only [Option.getD_some, Option.isSome_some]
    go_wp2_with fail
    refine (HR.out n rfl _ (h.below hs2.below)).mono ?_
    rintro e w3 ⟨rfl, hb⟩
    have hs3 := (hs2.later hb).alloc #[.int .i64 o, .int .u32 a, .int .u32 b, .int .i64 c] 24
    clear hs2 hb c0 c1 c2 c3 f0 f1 f2 f3 hl HR
    go_wp2_with fail
    refine (HT.out n rfl _ (h.below hs3.below)).mono ?_
    rintro e w4 ⟨rfl, hb⟩
    have hs4 := hs3.later hb
    clear hs3 hb HT
    generalize w3.heap.size = q at hs4 ⊢
    have c0 : w4.cell? ⟨w.heap.size, 0, none⟩ = some (.int .i64 0) := hs4.cell 0 rfl rfl
    have c1 : w4.cell? ⟨w.heap.size, 1, none⟩ = some (.int .u32 0) := hs4.cell 0 rfl rfl
    have c2 : w4.cell? ⟨w.heap.size, 2, none⟩ = some (.int .u32 0) := hs4.cell 0 rfl rfl
    have c3 : w4.cell? ⟨w.heap.size, 3, none⟩ = some (.int .i64 0) := hs4.cell 0 rfl rfl
    have d0 : w4.cell? ⟨q, 0, none⟩ = some (.int .i64 o) := hs4.cell 1 rfl rfl
    have d1 : w4.cell? ⟨q, 1, none⟩ = some (.int .u32 a) := hs4.cell 1 rfl rfl
    have d2 : w4.cell? ⟨q, 2, none⟩ = some (.int .u32 b) := hs4.cell 1 rfl rfl
    have d3 : w4.cell? ⟨q, 3, none⟩ = some (.int .i64 c) := hs4.cell 1 rfl rfl
    have f0 := hs4.free 0 rfl 0
    have f1 := hs4.free 0 rfl 1
    have f2 := hs4.free 0 rfl 2
    have f3 := hs4.free 0 rfl 3
    have hl := hs4.lt 0 rfl
    have HS := Lib.hid hs4.below
    clear hs4
    by_cases hT : T = s
    · subst hT
      obtain ⟨rfl, rfl⟩ := H1.out n rfl rfl
      go_wp2_with fail
      refine bodyPost_ret (v := .tuple #[recV ⟨o, a, b, c⟩, .int .i64 0]) (by simp [results, Tryd.results9, go_sem, c0, c1, c2, c3, hl]) rfl ⟨rfl, ?_⟩
      iterate 4 refine Below.setCell ?_ hp _
      with_reducible exact HS.out
    · have e1 : ¬ T.toList = s.toList := fun x => hT (by
        rw [ByteArray.toList_eq, ByteArray.toList_eq] at x
        exact ByteArray.ext (Array.toList_inj.1 x))
      have e2 : (T.toList == s.toList) = false := by simpa using e1
      have e3 : (T.toList != s.toList) = true := by simpa using e1
      obtain ⟨rfl, rfl⟩ := H2.out n rfl e1
      clear hT
      go_wp2_with fail
      refine bodyPost_ret (v := .tuple #[recV ⟨0, 0, 0, 0⟩, .int .i64 181]) (by simp [results, Tryd.results9, go_sem, c0, c1, c2, c3, hl]) rfl ⟨rfl, ?_⟩
      iterate 4 refine Below.setCell ?_ hp _
      with_reducible exact HS.out
theorem parse_any (s : ByteArray) (hs : s.size < 4294967281) (w : World) (h : Env w) :
    Calls Tryd.prog 9 #[.string s] w fun e w' => e = .returned (.tuple #[recV (Rec.parE s.data.toList).1, .int .i64 (Rec.parE s.data.toList).2]) ∧ Below w.heap.size w w' := by
  have q1 := cut_len s.data.toList [32]
  rw [size_list] at hs
  cases hk : Rec.findW (Lib.cut s.data.toList [32]).1 with
  | none =>
    refine parse_of s (bs (Lib.cut s.data.toList [32]).1) (bs (Lib.cut s.data.toList [32]).2.1) s (Lib.cut s.data.toList [32]).2.2 none 0 0 0 0 w h _ _ (Lib.hid fun w ha => cut_any s ⟨#[32]⟩ hs _ _ _ rfl w ha) (Lib.hid fun w ha => ?_)
      (Lib.hid fun n hn => by cases hn) (Lib.hid fun n hn => by cases hn) (fun _ => ?_) (fun n hn => by cases hn) (fun n hn => by cases hn)
    · have := find_any (bs (Lib.cut s.data.toList [32]).1) w ha
      rw [bs_list, hk] at this
      exact this
    · rw [parE_none hk]; exact ⟨rfl, rfl⟩
  | some o =>
    have ho := (Rec.findW_le hk).1
    have hR := parE_some hk
    have hin := Rec.rd3_in o (Lib.cut s.data.toList [32]).2.1
    have hrd := fun w (h : Env w) => read_any o ho (bs (Lib.cut s.data.toList [32]).2.1) (by rw [bs_size]; omega) w h
    rw [bs_list] at hrd
    generalize Rec.rd3 o (Lib.cut s.data.toList [32]).2.1 = r at *
    obtain ⟨p, a, b, c⟩ := r
    refine parse_of s (bs (Lib.cut s.data.toList [32]).1) (bs (Lib.cut s.data.toList [32]).2.1) (bs (Rec.txt ⟨p, a, b, c⟩)) (Lib.cut s.data.toList [32]).2.2 (some o) p a b c w h _ _ (Lib.hid fun w ha => cut_any s ⟨#[32]⟩ hs _ _ _ rfl w ha) (Lib.hid fun w ha => ?_)
      (Lib.hid fun n hn w hw => ?_) (Lib.hid fun n hn w hw => text_any _ hin w hw.sh hw.at'.tab) (fun hn => by cases hn) (fun n hn ht => ?_) (fun n hn ht => ?_)
    · have := find_any (bs (Lib.cut s.data.toList [32]).1) w ha
      rw [bs_list, hk] at this
      exact this
    · injection hn with hn
      subst hn
      exact hrd w hw
    · rw [hR, if_pos (by rw [← ht])]
      exact ⟨rfl, rfl⟩
    · rw [hR, if_neg (fun e => ht (by rw [e]))]
      exact ⟨rfl, rfl⟩
end Go.Proofs.YtokfecbjkngpgaaDoor
