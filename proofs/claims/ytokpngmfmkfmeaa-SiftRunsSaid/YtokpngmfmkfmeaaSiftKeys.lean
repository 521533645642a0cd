/- Keys of things, and how often it was asked which is ahead: what the statements hand to a row as its order. -/
import Derived.Test.YtokpngmfmkfmeaaSiftCalls3
import Derived.Deep.RegionHeld3
namespace Go.Proofs.Ytokpngmfmkfmeaa
open Go.RowKit Go.Sort

def keyOfF (f : Int → Option Int) (x : Int) : Int := (f x).getD 0
/-- At p the keys f, of n things, and that it was asked s times. -/
def Ob.keys (p km : Nat) (f : Int → Option Int) (n : Nat) (s : Int) : Ob :=
  Ob.group [Ob.box p #[.map (some km), .int .i64 s] 37, Ob.zmap Try.prog 3 2 km f n]
theorem zero_int64 (w : World) : (zeroValue 2).run Try.prog w = .ok (.int .i64 0) w := by kernel_rfl
section
variable {F0 : Nat → Prop} {W0 w : World} {p km : Nat} {f : Int → Option Int} {n : Nat} {s : Int} {q : List Ob}
set_option maxRecDepth 100000 in
set_option maxHeartbeats 1000000 in
theorem before_c (h : Stage F0 W0 ([Ob.box p #[.map (some km), .int .i64 s] 37, Ob.zmap Try.prog 3 2 km f n] ++ q) w) (a b : Int) (ha : inInt a) (hb : inInt b) :
    Calls Try.prog 25 #[.pointer (some ⟨p, 0, none⟩), .int .i64 a, .int .i64 b] w fun e w' => e = .returned (.bool (ltK (keyOfF f) a b)) ∧ Below w.heap.size w w' := by
  have k0 := h.cell 0 rfl (o := 0) rfl
  have la := h.drew.lookZ 1 rfl Try.underlying35 Try.underlying3 Try.underlying2 (zero_int64 _) a ha
  have lb := h.drew.lookZ 1 rfl Try.underlying35 Try.underlying3 Try.underlying2 (zero_int64 _) b hb
  have hl : ltK (keyOfF f) a b = (decide ((f a).getD 0 < (f b).getD 0) || ((f a).getD 0 == (f b).getD 0 && decide (a < b))) := rfl
  rw [hl]
  clear h hl
  generalize (f a).getD 0 = x at *
  generalize (f b).getD 0 = y at *
  by_cases h1 : x < y
  · have e : (decide (x < y) || (x == y && decide (a < b))) = true := by simp [h1]
    rw [e]
    clear e
    go_enter Try.func25, Try.ntmps25
    go_wp2_with fail
    go_region
    go_wp2_with fail
    go_ret
    exact ⟨rfl, (Below.refl _ _).drew⟩
  by_cases h2 : x = y
  · subst h2
    have h3 : ((x : Int) == x) = true := by simp
    by_cases h4 : a < b
    · have e : (decide (x < x) || (x == x && decide (a < b))) = true := by simp [h4]
      rw [e]
      clear e
      go_enter Try.func25, Try.ntmps25
      go_wp2_with fail
      go_region
      go_wp2_with fail
      go_ret
      exact ⟨rfl, (Below.refl _ _).drew⟩
    · have e : (decide (x < x) || (x == x && decide (a < b))) = false := by simp [h4]
      have h5 : decide (a < b) = false := decide_eq_false h4
      rw [e]
      clear e
      go_enter Try.func25, Try.ntmps25
      go_wp2_with fail
      go_region
      go_wp2_with fail
      go_ret
      exact ⟨rfl, (Below.refl _ _).drew⟩
  · have h3 : ((x : Int) == y) = false := by simpa using h2
    have e : (decide (x < y) || (x == y && decide (a < b))) = false := by simp [h1, h2]
    have h5 : decide (x < y) = false := decide_eq_false h1
    rw [e]
    clear e
    go_enter Try.func25, Try.ntmps25
    go_wp2_with fail
    go_region
    go_wp2_with fail
    go_ret
    exact ⟨rfl, (Below.refl _ _).drew⟩
end
end Go.Proofs.Ytokpngmfmkfmeaa
