/- Whoever tells which of two things is ahead, of no package: a thing O that each question turns; how often it was asked. -/
import Derived.Test.YtokpngmfmkfmeaaMeth
import Derived.Test.YtokpngmfmkfmeaaSiftRunsMath
namespace Go.Proofs.Ytokpngmfmkfmeaa
open Go.RowKit Go.Sort

/-- Asked just so often. -/
inductive Turns {γ : Type} (R : γ → γ → Prop) : Nat → γ → γ → Prop where
  | none (g : γ) : Turns R 0 g g
  | more {n : Nat} {g h k : γ} : Turns R n g h → R h k → Turns R (n + 1) g k
theorem Turns.trans {γ : Type} {R : γ → γ → Prop} {m n : Nat} {g h k : γ} (a : Turns R m g h) (b : Turns R n h k) : Turns R (m + n) g k := by
  induction b with
  | none => exact a
  | more _ r ih => exact (ih a).more r
theorem Turns.one {γ : Type} {R : γ → γ → Prop} {g h : γ} (r : R g h) : Turns R 1 g h := (Turns.none g).more r
/-- Asked no more than so often. -/
def Within {γ : Type} (R : γ → γ → Prop) (n : Nat) (g h : γ) : Prop := ∃ m, m ≤ n ∧ Turns R m g h
theorem Within.refl {γ : Type} (R : γ → γ → Prop) (n : Nat) (g : γ) : Within R n g g := ⟨0, Nat.zero_le _, Turns.none g⟩
theorem Within.trans {γ : Type} {R : γ → γ → Prop} {m n : Nat} {g h k : γ} (a : Within R m g h) (b : Within R n h k) : Within R (m + n) g k := by
  obtain ⟨i, hi, a⟩ := a
  obtain ⟨j, hj, b⟩ := b
  exact ⟨i + j, by omega, a.trans b⟩
theorem Within.more {γ : Type} {R : γ → γ → Prop} {n : Nat} {g h k : γ} (a : Within R n g h) (r : R h k) : Within R (n + 1) g k := a.trans ⟨1, Nat.le_refl _, Turns.one r⟩
theorem Within.mono {γ : Type} {R : γ → γ → Prop} {m n : Nat} {g h : γ} (a : Within R m g h) (l : m ≤ n) : Within R n g h := by
  obtain ⟨i, hi, a⟩ := a
  exact ⟨i, by omega, a⟩
/-- What holds of whoever is asked: O g is it, lt what it tells of the things that are ok, R how a question turns it. -/
structure Asks {γ : Type} (O : γ → Ob) (R : γ → γ → Prop) (ok : Int → Prop) (lt : Int → Int → Bool) (H : World → Prop) (T : TypeId) (v : Value) (f : Fn) : Prop where
  there : ∀ {g w F}, (O g).holds w F → H w
  ask : ∀ {g w F} (a b : Int), ok a → ok b → (O g).holds w F → Calls Try.prog f.id #[f.rv, .int .i64 a, .int .i64 b] w fun e w' => e = .returned (.bool (lt a b)) ∧ ∃ g', R g g' ∧ ∃ F', (O g').holds w' F' ∧ Moved F F' w w'
  meth : Meth H T v "Ahead" f
theorem Asks.stage {γ : Type} {O : γ → Ob} {R : γ → γ → Prop} {ok : Int → Prop} {lt : Int → Int → Bool} {H : World → Prop} {T : TypeId} {v : Value} {f : Fn} (A : Asks O R ok lt H T v f)
    {F0 : Nat → Prop} {W w : World} {l : List Ob} {g : γ} (hs : Stage F0 W l w) (i : Nat) (hi : l[i]? = some (O g)) (a b : Int) (ha : ok a) (hb : ok b) :
    Calls Try.prog f.id #[f.rv, .int .i64 a, .int .i64 b] w fun e w' => e = .returned (.bool (lt a b)) ∧ ∃ g', R g g' ∧ Stage F0 W (l.set i (O g')) w' :=
  hs.callEx i hi fun _ ho => A.ask a b ha hb ho
theorem Asks.find {γ : Type} {O : γ → Ob} {R : γ → γ → Prop} {ok : Int → Prop} {lt : Int → Int → Bool} {H : World → Prop} {T : TypeId} {v : Value} {f : Fn} (A : Asks O R ok lt H T v f)
    {F0 : Nat → Prop} {W w : World} {l : List Ob} {g : γ} (hs : Stage F0 W l w) (i : Nat) (hi : l[i]? = some (O g)) : (method 178 T v "Ahead").run Try.prog w = .ok (f.id, f.rv) w :=
  A.meth.find w ((hs.get hi).elim fun _ h => A.there h)
end Go.Proofs.Ytokpngmfmkfmeaa
