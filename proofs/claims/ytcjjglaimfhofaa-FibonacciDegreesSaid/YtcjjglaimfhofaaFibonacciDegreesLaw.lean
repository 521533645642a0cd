/- FibonacciDegrees is proved: for every capacity and every list of acts no slot has more children than twice the binary digits of how many are in its heap, and all children together are all slots but the topmost ones, so the statement's function returns true. No conditions. -/
import Derived.Test.YtcjjglaimfhofaaLaw
import Derived.Test.YtcjjglaimfhofaaRows
import Derived.Test.YtcjjglaimfhofaaFiDegrees
import Derived.Test.YtcjjglaimfhofaaFiTreesMath
import Derived.WalkKit
import Derived.ProofKit
import Derived.OpenShut
namespace Go.Proofs.Ytcjjglaimfhofaa.lawFibonacciDegrees
open Go.ChangeShapes Go.WideShapes Go.ChangeAt Go.RowKit Go.ChangeMaps

theorem own : ownKnob Try.prog.godebug = none := by kernel_rfl
set_option maxRecDepth 100000 in
theorem contract (H : Type) (enc : TypeId × Value → H) (W : World) (base : Nat) (args : Array Value) (ds gs : List (DataW H)) (before : List MemPlace)
    (hval : ∀ (j : Nat) t v, Try.f9.params[j]? = some t → args[j]? = some v → Value.okWide Try.prog W .any base t v)
    (hW : DataW.Whole enc Try.prog Try.f9.params.toList Rows.fibonacciDegreesSpec.vars false W args.toList ds gs before) :
    Calls Try.prog 9 args W fun e W' => ∃ v, e = .returned v ∧ Rows.fibonacciDegreesSpec.post enc Try.prog Try.f9 false true false false W args v W' := by
  have hW' := hW
  obtain ⟨p, q, hA0, _, _, _, _⟩ := hW
  have hA : DataW.TrodAll enc Try.prog W 0 (fun _ => true) true Try.f9.params.toList args.toList ds p := hA0
  rw [Try.params9] at hA hval
  obtain ⟨v0, vs0, d0, ds0, p0, q0, hargs, rfl, rfl, h0, r0⟩ := trodAll_cons hA
  obtain ⟨v1, vs1, d1, ds1, p1, q1, rfl, rfl, rfl, h1, r1⟩ := trodAll_cons r0
  obtain ⟨rfl, rfl, rfl⟩ := trodAll_nil r1
  obtain rfl : args = #[v0, v1] := by cases args; simp_all
  obtain ⟨c, rfl, bc⟩ := open_int' Try.underlying5 (hval 0 _ _ rfl rfl) h0
  obtain ⟨la, lc, ln, rfl, blc, blm, rl⟩ := open_fives' Try.underlying42 Try.underlying65 (by kernel_rfl) Try.underlying3 ⟨rfl, by kernel_rfl⟩ Try.underlying3 ⟨rfl, by kernel_rfl⟩ Try.underlying3 ⟨rfl, by kernel_rfl⟩ Try.underlying63 ⟨rfl, by kernel_rfl⟩ Try.underlying2 ⟨rfl, by kernel_rfl⟩ Try.underlying61 ⟨rfl, by kernel_rfl⟩ (hval 1 _ _ rfl rfl) h1
  obtain ⟨cn, rfl⟩ : ∃ j9 : Nat, c = j9 := ⟨c.toNat, by have h : (0 : Int) ≤ c := bc.1; omega⟩
  have hc : (cn : Int) ≤ 255 := bc.2
  refine (fdegrees_walk cn (by omega) la ln lc ⟨blc, blm⟩ W (fun j hj => by obtain ⟨b, off, x, y, z, q, r, h1, h2, h3, h4, h5, h6, _, h7, h8, _⟩ := rl j hj; exact ⟨b, off, x, y, z, q, r, h1, h2, h3, h4, h5, h6, h7, h8⟩)).mono fun e W' ⟨he, hb⟩ => ⟨_, he, ?_⟩
  refine law_post (B := 4) (by kernel_rfl) ?_ rfl (by kernel_rfl) Try.underlying4 hW' (by cases gs with | nil => rfl | cons _ _ => exact (show False from by have := hW'; obtain ⟨_, _, _, hV, _⟩ := this; exact hV).elim) hb
  intro t ht
  rw [Try.params9] at ht
  simp only [List.mem_cons, List.not_mem_nil, or_false] at ht
  rcases ht with rfl | rfl
  · exact ⟨by kernel_rfl, of_decide_eq_true (by kernel_rfl)⟩
  · exact ⟨by kernel_rfl, of_decide_eq_true (by kernel_rfl)⟩

abbrev sample : Array Value := #[.int .u8 0, .slice none 0 0]
set_option maxRecDepth 100000 in
theorem lifted (os : Os) (started : os.Started) (H : Type) (enc : TypeId × Value → H) :
    ReturnsInHanded {} Try.checked os 9 .any (Rows.fibonacciDegreesSpec.pre6 enc Try.prog Try.f9 Rows.fibonacciDegreesRow.domain false) (Rows.fibonacciDegreesSpec.post enc Try.prog Try.f9 false true false false) := by
  refine returnsInHanded_of_change (C := Try.checked) own started (by kernel_rfl) Try.func9
    (ChangeSpec.witness6 (enc := enc) (C := Try.checked) false ⟨#[], sample, []⟩ 8 (by kernel_rfl) (by kernel_rfl) (by kernel_rfl) (by kernel_rfl)) ?_
  intro W base args ds gs before hval hW _ _
  exact contract H enc W base args ds gs before hval hW

theorem said : Rows.FibonacciDegreesSaid :=
  OpenClaim.holds_of_wide 9 Try.f9 rfl rfl rfl rfl rfl rfl rfl ⟨rfl, rfl, rfl, rfl, rfl⟩ rfl rfl rfl rfl rfl (by kernel_rfl) Try.func9 (by kernel_rfl)
    (of_decide_eq_true (by kernel_rfl)) (by unfold Func.isWrapper; first | (rw [if_pos (by decide +kernel)]; kernel_rfl) | (rw [if_neg (by decide +kernel)]; exact ⟨rfl, rfl⟩))
    (fun os started H enc _ => lifted os started H enc)
#print axioms said
end Go.Proofs.Ytcjjglaimfhofaa.lawFibonacciDegrees
