/- The chapter's example, and the statements RecordNames and RecordTells, walked; of what was in memory nothing is changed. -/
import Derived.Test.YtokfecbjkngpgaaDoorRec10
import Derived.Test.YtokfecbjkngpgaaDoorRec7
namespace Go.Proofs.YtokfecbjkngpgaaDoor
open Go.RowKit Go.Sort Go.Lib

abbrev exS : ByteArray := ⟨#[100, 101, 99, 114, 101, 97, 115, 101, 32, 51, 46, 49, 32, 45, 55]⟩
theorem ex_parse : Rec.parE exS.data.toList = (⟨5, 3, 1, -7⟩, 0) := by decide +kernel
theorem ex_text : bs (Rec.txt ⟨5, 3, 1, -7⟩) = exS := by
  have h : Rec.txt ⟨5, 3, 1, -7⟩ = exS.data.toList := by decide +kernel
  rw [h]
set_option maxHeartbeats 2000000 in
set_option maxRecDepth 100000 in
theorem alive_any (w : World) (h : Env w) :
    Calls Tryd.prog 10 #[] w fun e w' => e = .returned (.bool true) ∧ Below w.heap.size w w' := by
  have hP := parse_any exS (by decide) w h
  rw [ex_parse] at hP
  have hT := fun w (h : Env w) => text_any ⟨5, 3, 1, -7⟩ ⟨by simp, by simp, by constructor <;> simp⟩ w h.sh h.at'.tab
  rw [ex_text] at hT
  have HP := Lib.hid hP
  have HT := Lib.hid hT
  clear hP hT
  go_enter Tryd.func10, Tryd.ntmps10
  go_wp2_with fail
  refine HP.out.mono ?_
  rintro e w1 ⟨rfl, hb1⟩
  have hs1 := ((Stage.start w).later hb1).alloc #[.int .i64 5, .int .u32 3, .int .u32 1, .int .i64 (-7)] 24
  go_wp2_with fail
  refine (HT.out _ (h.below hs1.below)).mono ?_
  rintro e w2 ⟨rfl, hb2⟩
  have hs2 := hs1.later hb2
  go_wp2_with fail
  go_ret
  exact ⟨rfl, hs2.below⟩
end Go.Proofs.YtokfecbjkngpgaaDoor
