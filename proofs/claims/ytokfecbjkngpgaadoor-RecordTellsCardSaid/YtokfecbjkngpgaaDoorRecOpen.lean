/- A record, and records, that come in. -/
import Derived.Test.YtokfecbjkngpgaaDoorOpen9
import Derived.Test.YtokfecbjkngpgaaDoorLaw
import Derived.Test.YtokfecbjkngpgaaDoorRec
namespace Go.Proofs.YtokfecbjkngpgaaDoor
open Go.RowKit Go.WideShapes Go.ChangeShapes Go.Deep

section
variable {H : Type} {enc : TypeId × Value → H} {w : World} {base : Nat} {spare : Nat → Bool} {held : Bool} {r : Reach} {b0 : Nat}
set_option maxRecDepth 100000 in
theorem open_rec {v : Value} {d : DataW H} {p : List MemPlace} (hv : Value.okWide Tryd.prog w r b0 24 v) (h : DataW.Trod enc Tryd.prog w base spare held 24 v d p) :
    ∃ o a b k : Int, v = recV ⟨o, a, b, k⟩ ∧ Rec.InR ⟨o, a, b, k⟩ := by
  obtain ⟨cs, rfl, hsz⟩ := okWide_struct Tryd.underlying24 hv
  have hC : Tryd.prog.cellsOf 24 = 4 := by kernel_rfl
  have c0 : Tryd.prog.cellsOf 3 = 1 := by kernel_rfl
  have c1 : Tryd.prog.cellsOf 22 = 1 := by kernel_rfl
  have c2 : Tryd.prog.cellsOf 2 = 1 := by kernel_rfl
  rw [hC] at hsz
  obtain ⟨fuel, hf⟩ := h
  rcases cs with ⟨l⟩
  match l, hsz with
  | [v0, v1, v2, v3], _ =>
    obtain ⟨y0, y1, y2, y3, n, _, _, h0, h1, h2, h3⟩ := Joins.trod_struct4 Tryd.underlying24 hf
    obtain ⟨o, e0, _, w0⟩ := DataW.trod_int Tryd.underlying3 h0
    obtain ⟨a, e1, _, w1⟩ := DataW.trod_int Tryd.underlying22 h1
    obtain ⟨b, e2, _, w2⟩ := DataW.trod_int Tryd.underlying22 h2
    obtain ⟨k, e3, _, w3⟩ := DataW.trod_int Tryd.underlying2 h3
    simp [c0, c1, c2, Value.cells] at e0 e1 e2 e3
    subst e0 e1 e2 e3
    simp [Lit.wf, IntKind.min, IntKind.max, IntKind.signed, IntKind.bits] at w0 w1 w2 w3
    exact ⟨o, a, b, k, rfl, ⟨by simp only; omega, by simp only; omega, by simp only [Num.InI]; omega⟩⟩
/-- Records in a row. -/
def RecsAt (w : World) (a : Option Addr) (l : List Rec.R) : Prop := ∀ i, i < l.length → ∃ g o, a = some ⟨g, o, none⟩ ∧ w.cell? ⟨g, o + i * 4, none⟩ = some (.int .i64 (l.getD i Rec.zero).op) ∧ w.cell? ⟨g, o + i * 4 + 1, none⟩ = some (.int .u32 (l.getD i Rec.zero).a) ∧
  w.cell? ⟨g, o + i * 4 + 2, none⟩ = some (.int .u32 (l.getD i Rec.zero).b) ∧ w.cell? ⟨g, o + i * 4 + 3, none⟩ = some (.int .i64 (l.getD i Rec.zero).key)
theorem list_of {α : Type} (Q : Nat → α → Prop) (d : α) : ∀ n, (∀ k, k < n → ∃ x, Q k x) → ∃ l : List α, l.length = n ∧ ∀ i, i < n → Q i (l.getD i d)
  | 0, _ => ⟨[], rfl, fun i hi => absurd hi (Nat.not_lt_zero _)⟩
  | n + 1, h => by
    obtain ⟨l, hl, hq⟩ := list_of Q d n (fun k hk => h k (by omega))
    obtain ⟨x, hx⟩ := h n (by omega)
    refine ⟨l ++ [x], by simp [hl], fun i hi => ?_⟩
    by_cases e : i < n
    · have := hq i e
      rwa [List.getD_eq_getElem?_getD, List.getElem?_append_left (by omega), ← List.getD_eq_getElem?_getD]
    · obtain rfl : i = n := by omega
      rw [List.getD_eq_getElem?_getD, List.getElem?_append_right (by omega)]
      simpa [hl] using hx
set_option maxRecDepth 100000 in
theorem open_recs {v : Value} {d : DataW H} {p : List MemPlace} (hv : Value.okWide Tryd.prog w r b0 32 v) (h : DataW.Trod enc Tryd.prog w base (fun _ => true) held 32 v d p) :
    ∃ (a : Option Addr) (cap : Nat) (l : List Rec.R), v = .slice a l.length cap ∧ l.length ≤ cap ∧ cap ≤ 9223372036854775807 ∧ RecsAt w a l ∧ ∀ i, i < l.length → Rec.InR (l.getD i Rec.zero) := by
  obtain ⟨a, cap, n, rfl, h1, h2, h3⟩ := open_fours' Tryd.underlying32 Tryd.underlying24 (by kernel_rfl) Tryd.underlying3 ⟨rfl, by kernel_rfl⟩ Tryd.underlying22 ⟨rfl, by kernel_rfl⟩ Tryd.underlying22 ⟨rfl, by kernel_rfl⟩ Tryd.underlying2 ⟨rfl, by kernel_rfl⟩ hv h
  obtain ⟨l, hl, hq⟩ := list_of (fun k (q : Rec.R) => (∃ g o, a = some ⟨g, o, none⟩ ∧ w.cell? ⟨g, o + k * 4, none⟩ = some (.int .i64 q.op) ∧ w.cell? ⟨g, o + k * 4 + 1, none⟩ = some (.int .u32 q.a) ∧ w.cell? ⟨g, o + k * 4 + 2, none⟩ = some (.int .u32 q.b) ∧ w.cell? ⟨g, o + k * 4 + 3, none⟩ = some (.int .i64 q.key)) ∧ Rec.InR q) Rec.zero n (fun k hk => by
    obtain ⟨g, o, x, y, z, u, e, q0, q1, q2, q3, _, r1, r2, r3⟩ := h3 k hk
    simp [IntKind.min, IntKind.max, IntKind.signed, IntKind.bits] at r1 r2 r3
    exact ⟨⟨x, y, z, u⟩, ⟨g, o, e, q0, q1, q2, q3⟩, ⟨by simp only; omega, by simp only; omega, by simp only [Num.InI]; omega⟩⟩)
  subst hl
  exact ⟨a, cap, l, rfl, h1, h2, fun i hi => (hq i hi).1, fun i hi => (hq i hi).2⟩
end
end Go.Proofs.YtokfecbjkngpgaaDoor
