/- The statements RecordNames and RecordLines, walked; of what was in memory nothing is changed. -/
import Derived.Test.YtokfecbjkngpgaaDoorRecAlive
namespace Go.Proofs.YtokfecbjkngpgaaDoor
open Go.RowKit Go.Sort Go.Lib

set_option maxHeartbeats 2000000 in
set_option maxRecDepth 100000 in
theorem names_walk (w : World) (h : Env w) :
    Calls Tryd.prog 3 #[] w fun e w' => e = .returned (.bool true) ∧ Below w.heap.size w w' := by
  have hP : ∀ w : World, Env w → Calls Tryd.prog 9 #[.string ⟨#[110, 101, 119, 32, 49]⟩] w fun e w' => e = .returned (.tuple #[recV ⟨0, 0, 0, 0⟩, .int .i64 181]) ∧ Below w.heap.size w w' := fun w h => by
    have := parse_any ⟨#[110, 101, 119, 32, 49]⟩ (by decide) w h
    rw [show Rec.parE (⟨#[110, 101, 119, 32, 49]⟩ : ByteArray).data.toList = Rec.bad by decide +kernel] at this
    exact this
  have hQ : ∀ w : World, Env w → Calls Tryd.prog 9 #[.string ⟨#[98, 97, 100]⟩] w fun e w' => e = .returned (.tuple #[recV ⟨0, 0, 0, 0⟩, .int .i64 0]) ∧ Below w.heap.size w w' := fun w h => by
    have := parse_any ⟨#[98, 97, 100]⟩ (by decide) w h
    rw [show Rec.parE (⟨#[98, 97, 100]⟩ : ByteArray).data.toList = (Rec.zero, 0) by decide +kernel] at this
    exact this
  have HP := Lib.hid hP
  have HQ := Lib.hid hQ
  clear hP hQ
  go_enter Tryd.func3, Tryd.ntmps3
  go_wp2_with fail
  refine (HP.out _ h).mono ?_
  rintro e w1 ⟨rfl, hb1⟩
  have hs1 := ((Stage.start w).later hb1).alloc #[.int .i64 0, .int .u32 0, .int .u32 0, .int .i64 0] 24
  go_wp2_with fail
  refine (HQ.out _ (h.below hs1.below)).mono ?_
  rintro e w2 ⟨rfl, hb2⟩
  have hs2 := (hs1.later hb2).alloc #[.int .i64 0, .int .u32 0, .int .u32 0, .int .i64 0] 24
  go_wp2_with fail
  refine (alive_any _ (h.below hs2.below)).mono ?_
  rintro e w3 ⟨rfl, hb3⟩
  have hs3 := hs2.later hb3
  have c0 : w3.cell? ⟨w2.heap.size, 0, none⟩ = some (.int .i64 0) := hs3.cell 1 rfl rfl
  have c1 : w3.cell? ⟨w2.heap.size, 1, none⟩ = some (.int .u32 0) := hs3.cell 1 rfl rfl
  have c2 : w3.cell? ⟨w2.heap.size, 2, none⟩ = some (.int .u32 0) := hs3.cell 1 rfl rfl
  have c3 : w3.cell? ⟨w2.heap.size, 3, none⟩ = some (.int .i64 0) := hs3.cell 1 rfl rfl
  go_wp2_with fail
  go_ret
  exact ⟨rfl, hs3.below⟩
set_option maxHeartbeats 2000000 in
set_option maxRecDepth 100000 in
theorem lines_walk (s : ByteArray) (w : World) (h : Env w) :
    Calls Tryd.prog 8 #[.string s] w fun e w' => e = .returned (.bool true) ∧ Below w.heap.size w w' := by
  by_cases hs : 300 < s.size
  · have hs' : (300 : Int) < (s.size : Int) := by omega
    go_enter Tryd.func8, Tryd.ntmps8
    go_wp2_with fail
    refine (alive_any _ h).mono ?_
    rintro e w1 ⟨rfl, hb1⟩
    go_wp2_with fail
    go_ret
    exact ⟨rfl, hb1⟩
  · have hs' : (s.size : Int) ≤ 300 := by omega
    have hP := fun w (h : Env w) => parse_any s (by omega) w h
    rcases Rec.parE_cases s.data.toList with ⟨r, h1, h2, h3, h4⟩ | h4
    · have hT := fun w (h : Env w) => text_any r h2 w h.sh h.at'.tab
      have hR := fun w (h : Env w) => right_any r w h.sh
      rw [h4] at hP
      rw [h1] at hR
      rw [h3, show bs s.data.toList = s from rfl] at hT
      obtain ⟨o, a, b, c⟩ := r
      have HP := Lib.hid hP
      have HT := Lib.hid hT
      have HR := Lib.hid hR
      clear hP hT hR h1 h2 h3 h4
      go_enter Tryd.func8, Tryd.ntmps8
      go_wp2_with fail
      refine (alive_any _ h).mono ?_
      rintro e w1 ⟨rfl, hb1⟩
      have hs1 := (Stage.start w).later hb1
      clear hb1
      go_wp2_with fail
      refine (HP.out _ (h.below hs1.below)).mono ?_
      rintro e w2 ⟨rfl, hb2⟩
      have hs2 := (hs1.later hb2).alloc #[.int .i64 o, .int .u32 a, .int .u32 b, .int .i64 c] 24
      clear hs1 hb2
      go_wp2_with fail
      refine (HR.out _ (h.below hs2.below)).mono ?_
      rintro e w3 ⟨rfl, hb3⟩
      have hs3 := hs2.later hb3
      have c0 : w3.cell? ⟨w2.heap.size, 0, none⟩ = some (.int .i64 o) := hs3.cell 0 rfl rfl
      have c1 : w3.cell? ⟨w2.heap.size, 1, none⟩ = some (.int .u32 a) := hs3.cell 0 rfl rfl
      have c2 : w3.cell? ⟨w2.heap.size, 2, none⟩ = some (.int .u32 b) := hs3.cell 0 rfl rfl
      have c3 : w3.cell? ⟨w2.heap.size, 3, none⟩ = some (.int .i64 c) := hs3.cell 0 rfl rfl
      clear hs2 hb3
      go_wp2_with fail
      refine (HT.out _ (h.below hs3.below)).mono ?_
      rintro e w4 ⟨rfl, hb4⟩
      have hs4 := hs3.later hb4
      go_wp2_with fail
      go_ret
      exact ⟨rfl, hs4.below⟩
    · rw [h4] at hP
      have HP : Hid (∀ w : World, Env w → Calls Tryd.prog 9 #[.string s] w fun e w' => e = .returned (.tuple #[recV ⟨0, 0, 0, 0⟩, .int .i64 181]) ∧ Below w.heap.size w w') := Lib.hid hP
      clear hP h4
      go_enter Tryd.func8, Tryd.ntmps8
      go_wp2_with fail
      refine (alive_any _ h).mono ?_
      rintro e w1 ⟨rfl, hb1⟩
      have hs1 := (Stage.start w).later hb1
      clear hb1
      go_wp2_with fail
      refine (HP.out _ (h.below hs1.below)).mono ?_
      rintro e w2 ⟨rfl, hb2⟩
      have hs2 := (hs1.later hb2).alloc #[.int .i64 0, .int .u32 0, .int .u32 0, .int .i64 0] 24
      clear hs1 hb2
      go_wp2_with fail
      go_ret
      exact ⟨rfl, hs2.below⟩
end Go.Proofs.YtokfecbjkngpgaaDoor
