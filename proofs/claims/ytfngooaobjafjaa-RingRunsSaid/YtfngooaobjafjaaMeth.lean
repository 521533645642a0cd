/- Calls by a method's name, of no program; a call that turns one thing into one of some things. -/
import Derived.Test.YtfngooaobjafjaaStage
import Derived.Test.YtfngooaobjafjaaProg
namespace Go.Proofs.Ytfngooaobjafjaa
open Go.RowKit Go.Sort

/-- A function that a call by a name enters, and the receiver that it is handed. -/
structure Fn where
  id : FuncId
  rv : Value
/-- By the name n the value v of type T is called by f, in each world in which H holds. -/
structure Meth (H : World → Prop) (T : TypeId) (v : Value) (n : String) (f : Fn) : Prop where
  find : ∀ w, H w → (method 174 T v n).run Try.prog w = .ok (f.id, f.rv) w
  enter : ∀ args w, (callFunc f.id args).run Try.prog w = .ok (.enter f.id args) w
def inInt (y : Int) : Prop := -9223372036854775808 ≤ y ∧ y ≤ 9223372036854775807
abbrev ptrV (p : Nat) : Value := .pointer (some ⟨p, 0, none⟩)
namespace Stage
variable {F0 : Nat → Prop} {W w w' : World} {l : List Ob} {P : Program} {f : FuncId} {args : Array Value} {O : Ob} {v : Value}
/-- A call on one thing, which it turns into one of some things. -/
theorem callEx {α : Type} {Q : α → Prop} {O' : α → Ob} (h : Stage F0 W l w) (i : Nat) (hi : l[i]? = some O) (hc : ∀ F, O.holds w F → Calls P f args w fun e w' => e = .returned v ∧ ∃ a, Q a ∧ ∃ F', (O' a).holds w' F' ∧ Moved F F' w w') :
    Calls P f args w fun e w' => e = .returned v ∧ ∃ a, Q a ∧ Stage F0 W (l.set i (O' a)) w' := by
  obtain ⟨hbl, F, h1, h2, h3⟩ := h
  exact (hc (F i) (h1 i O hi)).mono fun e w' ⟨he, a, hq, F', ho, m⟩ => ⟨he, a, hq, swap hbl h1 h2 h3 (Scene.idx hi) ho m⟩
end Stage
end Go.Proofs.Ytfngooaobjafjaa
