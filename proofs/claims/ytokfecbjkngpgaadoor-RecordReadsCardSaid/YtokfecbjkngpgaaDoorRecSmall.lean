/- The document's small: a number of 32 bits, if a text is one; nothing is changed. -/
import Derived.Test.YtokfecbjkngpgaaDoorRecCut
import Derived.Test.YtokfecbjkngpgaaDoorRecMath
namespace Go.Proofs.YtokfecbjkngpgaaDoor
open Go.RowKit Go.Sort Go.Lib

set_option maxRecDepth 100000 in
theorem refSmall_any (s : ByteArray) (hs : s.size ≤ 281474976710656) (w : World) :
    Calls Tryd.prog 40 #[.string s] w fun e w' => e = .returned (.tuple #[.int .u32 (Rec.small s.data.toList).1, .bool (Rec.small s.data.toList).2]) ∧ w = w' := by
  have hN := refNumber_any s hs
  unfold Rec.small
  have hin : Num.InI (Num.numR s.data.toList).1 := by
    rcases Num.numR_cases s.data.toList with ⟨n, hn, _, e⟩ | e
    · rw [e]; exact hn
    · rw [e]; constructor <;> simp
  generalize Num.numR s.data.toList = x at *
  obtain ⟨n, ok⟩ := x
  obtain ⟨i1, i2⟩ := hin
  simp only at i1 i2
  have HN := Lib.hid hN
  clear hN
  cases ok with
  | false =>
    simp only [Bool.false_eq_true, false_and, if_false]
    go_enter Tryd.func40, Tryd.ntmps40
    go_wp2_with fail
    refine (HN.out _).mono ?_
    rintro e w1 ⟨rfl, rfl⟩
    go_wp2_with fail
    go_ret2
    exact ⟨rfl, rfl⟩
  | true =>
    by_cases h0 : n < 0
    · rw [if_neg (by rintro ⟨_, h, _⟩; simp only at h; omega)]
      go_enter Tryd.func40, Tryd.ntmps40
      go_wp2_with fail
      refine (HN.out _).mono ?_
      rintro e w1 ⟨rfl, rfl⟩
      go_wp2_with fail
      go_ret2
      exact ⟨rfl, rfl⟩
    · by_cases h1 : 4294967295 < n
      · rw [if_neg (by rintro ⟨_, _, h⟩; simp only at h; omega)]
        go_enter Tryd.func40, Tryd.ntmps40
        go_wp2_with fail
        refine (HN.out _).mono ?_
        rintro e w1 ⟨rfl, rfl⟩
        go_wp2_with fail
        go_ret2
        exact ⟨rfl, rfl⟩
      · have hm : n % 4294967296 = n := by omega
        rw [if_pos ⟨rfl, by simp only; omega, by simp only; omega⟩]
        go_enter Tryd.func40, Tryd.ntmps40
        go_wp2_with fail
        refine (HN.out _).mono ?_
        rintro e w1 ⟨rfl, rfl⟩
        go_wp2_with fail
        go_ret2
        exact ⟨rfl, rfl⟩
end Go.Proofs.YtokfecbjkngpgaaDoor
