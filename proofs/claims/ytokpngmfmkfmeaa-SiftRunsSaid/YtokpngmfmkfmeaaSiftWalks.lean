/- The statements of layer 7 on numbers, walked: places, and their tree. -/
import Derived.Test.YtokpngmfmkfmeaaSiftAlive
namespace Go.Proofs.Ytokpngmfmkfmeaa
open Go.RowKit Go.Sort

set_option maxRecDepth 100000 in
set_option maxHeartbeats 1000000 in
theorem places_walk (d i k : Int) (W : World) (hd : inInt d) (hi : inInt i) (_hk : inInt k) : Calls Try.prog 3 #[.int .i64 d, .int .i64 i, .int .i64 k] W fun e w' => e = .returned (.bool true) ∧ Below W.heap.size W w' := by
  have hAl := alive_c W
  have p1 := fun w => parent_c d i w hi.2
  have p2 := fun w => refparent_c d i w hi.2
  have p3 := child_c d i k
  have p4 := refchild_c d i k
  have p5 := depth_c d i
  have p6 := refdepth_c d i
  have p7 := right_c d
  generalize (parD d i).1 = a at *
  generalize (parD d i).2 = b at *
  generalize (childD d i k).1 = x at *
  generalize (childD d i k).2 = y at *
  generalize depthD d i = z at *
  cases hr : rightD d
  · have hN := new_no d hr
    rw [hr] at p7
    clear hd hi hr
    go_enter Try.func3, Try.ntmps3
    go_wp2_with fail
    refine hAl.mono ?_
    rintro e w1 ⟨rfl, hb⟩
    clear hAl
    go_wp2_with fail
    refine (p1 _).mono ?_
    rintro e w2 ⟨rfl, rfl⟩
    clear p1
    go_wp2_with fail
    refine (p2 _).mono ?_
    rintro e w2 ⟨rfl, rfl⟩
    clear p2
    go_wp2_with fail
    refine (p3 _).mono ?_
    rintro e w2 ⟨rfl, rfl⟩
    clear p3
    go_wp2_with fail
    refine (p4 _).mono ?_
    rintro e w2 ⟨rfl, rfl⟩
    clear p4
    go_wp2_with fail
    refine (hN _).mono ?_
    rintro e w2 ⟨rfl, rfl⟩
    clear hN
    go_wp2_with fail
    refine (p5 _).mono ?_
    rintro e w2 ⟨rfl, rfl⟩
    clear p5
    go_wp2_with fail
    refine (p6 _).mono ?_
    rintro e w2 ⟨rfl, rfl⟩
    clear p6
    go_wp2_with fail
    refine (p7 _).mono ?_
    rintro e w2 ⟨rfl, rfl⟩
    go_wp2_with fail
    refine (p7 _).mono ?_
    rintro e w2 ⟨rfl, rfl⟩
    go_wp2_with fail
    refine (p7 _).mono ?_
    rintro e w2 ⟨rfl, rfl⟩
    go_wp2_with fail
    go_ret
    exact ⟨rfl, hb⟩
  · obtain ⟨hd1, hd2⟩ := rightD_iff.1 hr
    obtain ⟨dn, rfl⟩ : ∃ dn : Nat, d = dn := ⟨d.toNat, by omega⟩
    have hN := fun w => new_st (Stage.start w) dn (by omega)
    rw [hr] at p7
    clear hd hi hr hd1 hd2
    go_enter Try.func3, Try.ntmps3
    go_wp2_with fail
    refine hAl.mono ?_
    rintro e w1 ⟨rfl, hb⟩
    clear hAl
    go_wp2_with fail
    refine (p1 _).mono ?_
    rintro e w2 ⟨rfl, rfl⟩
    clear p1
    go_wp2_with fail
    refine (p2 _).mono ?_
    rintro e w2 ⟨rfl, rfl⟩
    clear p2
    go_wp2_with fail
    refine (p3 _).mono ?_
    rintro e w2 ⟨rfl, rfl⟩
    clear p3
    go_wp2_with fail
    refine (p4 _).mono ?_
    rintro e w2 ⟨rfl, rfl⟩
    clear p4
    go_wp2_with fail
    refine (hN _).mono ?_
    rintro e w2 ⟨rfl, hs⟩
    replace hb := below_chain hb hs.below
    clear hN hs
    generalize w1.heap.size + 1 = r at *
    go_wp2_with fail
    refine (p5 _).mono ?_
    rintro e w2 ⟨rfl, rfl⟩
    clear p5
    go_wp2_with fail
    refine (p6 _).mono ?_
    rintro e w2 ⟨rfl, rfl⟩
    clear p6
    go_wp2_with fail
    refine (p7 _).mono ?_
    rintro e w2 ⟨rfl, rfl⟩
    go_wp2_with fail
    refine (p7 _).mono ?_
    rintro e w2 ⟨rfl, rfl⟩
    go_wp2_with fail
    refine (p7 _).mono ?_
    rintro e w2 ⟨rfl, rfl⟩
    go_wp2_with fail
    go_ret
    exact ⟨rfl, hb⟩
end Go.Proofs.Ytokpngmfmkfmeaa
