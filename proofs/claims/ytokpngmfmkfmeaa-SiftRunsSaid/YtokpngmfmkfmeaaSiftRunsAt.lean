/- What SiftRuns goes over: between two acts; how often it was asked; an entry set. -/
import Derived.Test.YtokpngmfmkfmeaaSiftSound
import Derived.Test.YtokpngmfmkfmeaaOpen
import Derived.Deep.CutBlock
import Derived.Deep.DeepCutAuto
namespace Go.Proofs.Ytokpngmfmkfmeaa
open Go.RowKit Go.Sort

theorem turns_count {m : Nat} {s s' : Int} (t : Turns oneMore m s s') (h0 : 0 ≤ s) (h1 : s + m ≤ 4611686018427387904) : s' = s + m := by
  induction t with
  | none => omega
  | more t r ih =>
    rename_i n h k
    have e := ih h0 (by omega)
    subst e
    rw [r, IntWalk.i64_in _ (by omega)]
    omega
theorem within_count {n : Nat} {s s' : Int} (t : Within oneMore n s s') (h0 : 0 ≤ s) (h1 : s ≤ 1000000) (hn : n ≤ 1000000) : s ≤ s' ∧ s' ≤ s + n := by
  obtain ⟨m, hm, t⟩ := t
  have := turns_count t h0 (by omega)
  omega
section
variable {F0 : Nat → Prop} {W0 w : World} {q : List Ob} {p km : Nat} {f : Int → Option Int} {n : Nat} {s : Int}
theorem keys_cells (hs : Stage F0 W0 q w) (i : Nat) (hi : q[i]? = some (Ob.keys p km f n s)) : w.cell? ⟨p, 0, none⟩ = some (.map (some km)) ∧ w.cell? ⟨p, 1, none⟩ = some (.int .i64 s) ∧
    ∀ x, inInt x → (Instr.lookup 35 (.map (some km)) (.int .i64 x) false).run Try.prog w = .ok (.int .i64 (keyOfF f x)) w := by
  obtain ⟨F, ho⟩ := hs.get hi
  have h := Ob.group.open ho
  exact ⟨h.cell 0 rfl rfl, h.cell 0 rfl rfl, fun x hx => h.lookZ 1 rfl Try.underlying35 Try.underlying3 Try.underlying2 (zero_int64 w) x hx⟩
theorem Stage.wp_putZ' {P : Program} {t k e : TypeId} {b n : Nat} {f : Int → Option Int} {W w : World} {l : List Ob} {ops : Array Oper} {rest : List Oper} {o : Oper} {a : Act} {Q : Exit → Act → World → Prop} (n' : Nat) (f' : Int → Option Int) (h : Stage F0 W l w) (i : Nat) (hi : l[i]? = some (Ob.zmap P k e b f n)) (hg : o.guard = none) (m x v : Operand) (hop : o.op = Op.mapUpdate t m x v)
    (ht : P.underlying t = some (.map k e)) (hk : P.underlying k = some (.int .i64)) (he : P.underlying e = some (.int .i64)) (hM : n < maxLen)
    (hm : a.eval m = .map (some b)) (key val : Int) (hx : a.eval x = .int .i64 key) (hv : a.eval v = .int .i64 val) (hkey : -9223372036854775808 ≤ key ∧ key ≤ 9223372036854775807) (hval : -9223372036854775808 ≤ val ∧ val ≤ 9223372036854775807) (hn : Hid ((if (f key).isSome then n else n + 1) = n')) (hf : Hid (setZ f key (some val) = f'))
    (hK : ∀ w', Stage F0 W (l.set i (Ob.zmap P k e b f' n')) w' → wpList P ops Q rest (a.put o.dst undef) w') : wpList P ops Q (o :: rest) a w :=
  h.wp_putZ i hi hg m x v hop ht hk he hM hm key val hx hv hkey hval fun w' hs => hK w' (by rw [← hn.out, ← hf.out]; exact hs)
end
/-- Between two acts. -/
def RunSt (W : World) (r bm p km d k : Nat) (tv : Value) (wr : World) : Prop :=
  ∃ (v : Value) (l : List Int) (f : Int → Option Int) (n : Nat) (s : Int) (m : List Int), n ≤ k ∧ m.length ≤ k ∧ l.Perm m ∧ m.Nodup ∧ (∀ y ∈ m, inInt y) ∧ Heap d (ltK (keyOfF f)) l ∧ (∀ y, inInt (keyOfF f y)) ∧ (0 ≤ s ∧ s ≤ 2000 * (k : Int)) ∧ Stage (fun _ => False) W (soundL r bm v d l p km f n s tv m []) wr
theorem drop_box {F0 : Nat → Prop} {W0 w : World} {r bm : Nat} {v : Value} {d : Nat} {l : List Int} {p km : Nat} {f : Int → Option Int} {n : Nat} {s : Int} {tv : Value} {m : List Int} {O : Ob} (h : Stage F0 W0 (soundL r bm v d l p km f n s tv m [O]) w) : Stage F0 W0 (soundL r bm v d l p km f n s tv m []) w := h.take 5
theorem rowIn_perm {l m : List Int} (hp : l.Perm m) (hn : m.Nodup) (hi : ∀ y ∈ m, inInt y) (hl : m.length ≤ 1048576) : RowIn inInt l :=
  ⟨hp.nodup_iff.2 hn, fun x hx => hi x (hp.mem_iff.1 hx), fun x hx => hi x (hp.mem_iff.1 hx), by rw [hp.length_eq]; exact hl⟩
/-- The acts, as they lie in memory. -/
def ActsAt (W : World) (la : Option Addr) (N : Nat) : Prop :=
  ∀ k, k < N → ∃ b off x y z, la = some ⟨b, off, none⟩ ∧ W.cell? ⟨b, off + k * 3, none⟩ = some (.int .i64 x) ∧ W.cell? ⟨b, off + k * 3 + 1, none⟩ = some (.int .i64 y) ∧ W.cell? ⟨b, off + k * 3 + 2, none⟩ = some (.int .i64 z) ∧ inInt x ∧ inInt y ∧ inInt z
end Go.Proofs.Ytokpngmfmkfmeaa
