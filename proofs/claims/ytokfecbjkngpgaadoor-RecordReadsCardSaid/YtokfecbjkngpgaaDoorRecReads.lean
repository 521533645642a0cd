/- The statement RecordReads, walked; of what was in memory nothing is changed. -/
import Derived.Test.YtokfecbjkngpgaaDoorRecAlive
import Derived.Test.YtokfecbjkngpgaaDoorRecRefParse
namespace Go.Proofs.YtokfecbjkngpgaaDoor
open Go.RowKit Go.Sort Go.Lib

set_option maxHeartbeats 2000000 in
set_option maxRecDepth 100000 in
theorem reads_walk (s : ByteArray) (w : World) (h : Env w) :
    Calls Tryd.prog 6 #[.string s] w fun e w' => e = .returned (.bool true) ∧ Below w.heap.size w w' := by
  by_cases hs : 300 < s.size
  · have hs' : (300 : Int) < (s.size : Int) := by omega
    go_enter Tryd.func6, Tryd.ntmps6
    go_wp2_with fail
    refine (alive_any _ h).mono ?_
    rintro e w1 ⟨rfl, hb1⟩
    go_wp2_with fail
    go_ret
    exact ⟨rfl, hb1⟩
  · have hs' : (s.size : Int) ≤ 300 := by omega
    have hP := fun w (h : Env w) => parse_any s (by omega) w h
    have hQ := refParse_any s (by omega)
    rw [← Rec.par_same] at hQ
    generalize Rec.parE s.data.toList = E at *
    obtain ⟨⟨o, a, b, c⟩, er⟩ := E
    have HP := Lib.hid hP
    have HQ := Lib.hid hQ
    clear hP hQ
    go_enter Tryd.func6, Tryd.ntmps6
    go_wp2_with fail
    refine (alive_any _ h).mono ?_
    rintro e w1 ⟨rfl, hb1⟩
    have hs1 := (Stage.start w).later hb1
    clear hb1
    go_wp2_with fail
    refine (HP.out _ (h.below hs1.below)).mono ?_
    rintro e w2 ⟨rfl, hb2⟩
    have hs2 := (hs1.later hb2).alloc #[.int .i64 o, .int .u32 a, .int .u32 b, .int .i64 c] 24
    clear hs1 hb2
    go_wp2_with fail
    refine (HQ.out _).mono ?_
    rintro e w3 ⟨rfl, hb3⟩
    have hs3 := (hs2.later hb3)
    have c0 : w3.cell? ⟨w2.heap.size, 0, none⟩ = some (.int .i64 o) := hs3.cell 0 rfl rfl
    have c1 : w3.cell? ⟨w2.heap.size, 1, none⟩ = some (.int .u32 a) := hs3.cell 0 rfl rfl
    have c2 : w3.cell? ⟨w2.heap.size, 2, none⟩ = some (.int .u32 b) := hs3.cell 0 rfl rfl
    have c3 : w3.cell? ⟨w2.heap.size, 3, none⟩ = some (.int .i64 c) := hs3.cell 0 rfl rfl
    have hz := hs3.lt 0 rfl
    have hs4 := hs3.alloc #[.int .i64 o, .int .u32 a, .int .u32 b, .int .i64 c] 24
    clear hs2 hs3 hb3
    go_wp2_with fail
    go_ret
    exact ⟨ret_bool (by simp), hs4.below⟩
end Go.Proofs.YtokfecbjkngpgaaDoor
