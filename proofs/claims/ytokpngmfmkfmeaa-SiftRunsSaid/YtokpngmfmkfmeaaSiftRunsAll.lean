/- SiftRuns, walked: for whatever d, and whatever acts. -/
import Derived.Test.YtokpngmfmkfmeaaSiftRuns
namespace Go.Proofs.Ytokpngmfmkfmeaa
open Go.RowKit Go.Sort

set_option maxRecDepth 100000 in
set_option maxHeartbeats 8000000 in
theorem runs_walk (d : Int) (la : Option Addr) (N cap : Nat) (_hcap : N ≤ cap ∧ cap ≤ 9223372036854775807) (W : World)
    (hact : ActsAt W la N) :
    Calls Try.prog 4 #[.int .i64 d, .slice la N cap] W fun e w' => e = .returned (.bool true) ∧ Below W.heap.size W w' := by
  have hAl := alive_c W
  have p7 := right_c d
  cases hr : rightD d
  · rw [hr] at p7
    have hN := new_no d hr
    clear hr hact
    by_cases hn : 80 < N
    · have hn' : (80 : Int) < N := by omega
      go_enter Try.func4, Try.ntmps4
      go_wp2_with fail
      refine hAl.mono ?_
      rintro e w1 ⟨rfl, hb⟩
      clear hAl
      go_wp2_with fail
      refine (hN _).mono ?_
      rintro e w2 ⟨rfl, rfl⟩
      go_wp2_with fail
      go_ret
      exact ⟨rfl, hb⟩
    · have hn' : ¬ (80 : Int) < N := by omega
      go_enter Try.func4, Try.ntmps4
      go_wp2_with fail
      refine hAl.mono ?_
      rintro e w1 ⟨rfl, hb⟩
      clear hAl
      go_wp2_with fail
      refine (hN _).mono ?_
      rintro e w2 ⟨rfl, rfl⟩
      go_wp2_with fail
      refine (p7 _).mono ?_
      rintro e w2 ⟨rfl, rfl⟩
      go_wp2_with fail
      go_ret
      exact ⟨rfl, hb⟩
  rw [hr] at p7
  obtain ⟨hd1, hd2⟩ := rightD_iff.1 hr
  obtain ⟨dn, rfl⟩ : ∃ dn : Nat, d = dn := ⟨d.toNat, by omega⟩
  have hd : 2 ≤ dn ∧ dn ≤ 16 := by omega
  have hN := fun w (hb : Below W.heap.size W w) => new_st ((Stage.start W).later hb) dn hd
  by_cases hn : 80 < N
  · have hn' : (80 : Int) < N := by omega
    clear hact
    go_enter Try.func4, Try.ntmps4
    go_wp2_with fail
    refine hAl.mono ?_
    rintro e w1 ⟨rfl, hb⟩
    clear hAl
    go_wp2_with fail
    refine (hN _ hb).mono ?_
    rintro e w2 ⟨rfl, hs⟩
    go_wp2_with fail
    go_ret
    exact ⟨rfl, hs.below⟩
  exact runs_main dn hd la N cap hn W hact
end Go.Proofs.Ytokpngmfmkfmeaa
