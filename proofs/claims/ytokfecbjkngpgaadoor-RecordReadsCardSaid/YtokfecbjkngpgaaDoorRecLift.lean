/- What a row's list of three tables, two error values and the table of shapes gives the walks, and a world for its witness: the heap that the program's own initialisers leave. -/
import Derived.Test.YtokfecbjkngpgaaDoorCards
import Derived.Test.YtokfecbjkngpgaaDoorTie
import Derived.Test.YtokfecbjkngpgaaDoorRec9
import Derived.WalkKit
import Derived.ProofKit
import Derived.OpenShut
import Derived.Deep.DeepHandedRow
import Derived.Deep.DeepWitnessRowRef
import Derived.Lib.LaidTab
import Derived.Lib.SmallJoins
import Derived.LaidMore
import Derived.LaidHandle
import Derived.Stop.LaidErr
namespace Go.Proofs.YtokfecbjkngpgaaDoor
open Go.ChangeShapes Go.WideShapes Go.ChangeAt Go.RowKit Go.ChangeMaps

theorem own : ownKnob Tryd.prog.godebug = none := by kernel_rfl
theorem gPow : Tryd.prog.globalNamed "internal/strconv.uint64pow10" = some 2 := by kernel_rfl
theorem gPowType : (Tryd.prog.globals[2]?).map (·.type) = some 97 := by kernel_rfl
theorem cellsPow : Tryd.prog.cellsOf 97 = 20 := by kernel_rfl
theorem cellsU64 : Tryd.prog.cellsOf 54 = 1 := by kernel_rfl
theorem gFar : Tryd.prog.globalNamed "strconv.ErrRange" = some 4 := by kernel_rfl
theorem gFarType : (Tryd.prog.globals[4]?).map (·.type) = some 77 := by kernel_rfl
theorem gBad : Tryd.prog.globalNamed "strconv.ErrSyntax" = some 3 := by kernel_rfl
theorem gBadType : (Tryd.prog.globals[3]?).map (·.type) = some 77 := by kernel_rfl
theorem gSh : Tryd.prog.globalNamed "haycock/record.shapes" = some 0 := by kernel_rfl
theorem gShType : (Tryd.prog.globals[0]?).map (·.type) = some 49 := by kernel_rfl
theorem cellsSh : Tryd.prog.cellsOf 48 = 4 := by kernel_rfl
theorem rowErr (u : TypeId) (h : Tryd.prog.typeName? 3 u = some "*errors.errorString") : u = 107 :=
  typeName_ptr_named (nm := "errors.errorString") (by kernel_rfl) (by kernel_rfl) (by decide) u h

/-- The shapes, as data. -/
def shapeD (o : Nat) : DataW Unit := .agg [.lit (.string (Rec.word o)), .lit (.bool (Rec.hA o)), .lit (.string (markL o)), .lit (.bool (Rec.hK o))]
theorem laid_eq : (Rows.laid_haycock_record_shapes : DataW Unit) = .agg ((List.range 11).map shapeD) := by kernel_rfl
set_option maxRecDepth 100000 in
theorem shape_cells {enc : TypeId × Value → Unit} {W : World} {base : Nat} {sp : Nat → Bool} {held : Bool} {fuel : Nat} {cs : List Value} {o : Nat} {p : List MemPlace} (h : DataW.trod enc Tryd.prog W base sp held fuel 48 cs = some (shapeD o, p)) :
    cs = [.string (bs (Rec.word o)), .bool (Rec.hA o), .string (bs (markL o)), .bool (Rec.hK o)] := by
  obtain ⟨y0, y1, y2, y3, n, hx, hl, h0, h1, h2, h3⟩ := Joins.trod_struct4 Tryd.underlying48 h
  rw [cellsSh] at hl
  match cs, hl with
  | [v0, v1, v2, v3], _ =>
    obtain ⟨s0, e0, rfl, _⟩ := DataW.trod_string Tryd.underlying9 h0
    obtain ⟨s1, e1, rfl⟩ := DataW.trod_bool Tryd.underlying4 h1
    obtain ⟨s2, e2, rfl, _⟩ := DataW.trod_string Tryd.underlying9 h2
    obtain ⟨s3, e3, rfl⟩ := DataW.trod_bool Tryd.underlying4 h3
    have c1 : Tryd.prog.cellsOf 9 = 1 := by kernel_rfl
    have c2 : Tryd.prog.cellsOf 4 = 1 := by kernel_rfl
    simp [c1, c2] at e0 e1 e2 e3
    subst e0 e1 e2 e3
    simp only [shapeD, Prod.mk.injEq, DataW.agg.injEq, List.cons.injEq, DataW.lit.injEq, Lit.string.injEq, Lit.bool.injEq, and_true] at hx
    obtain ⟨⟨h0, h1, h2, h3⟩, _⟩ := hx
    rw [h0, h1, h2, h3]
set_option maxRecDepth 100000 in
theorem shapes_of {W : World} {rest : List (String × DataW Unit)} (h : laidMet Tryd.prog (("haycock/record.shapes", Rows.laid_haycock_record_shapes) :: rest) W) : Shapes W := by
  obtain ⟨ps, ⟨g0, t0, cs, f0, p0, q0, hg0, ht0, hv0, hd0, _, _⟩, _, _⟩ := h
  obtain rfl := Option.some.inj (gSh.symm.trans hg0)
  obtain rfl := Option.some.inj (gShType.symm.trans ht0)
  rw [laid_eq] at hd0
  obtain ⟨xs, m, _, hx, hl, hn, hat⟩ := DataW.trod_array Tryd.underlying49 hd0
  intro o ho
  have hxs : xs.map (·.1) = (List.range 11).map shapeD := by
    have := congrArg Prod.fst hx
    simp only [DataW.agg.injEq] at this
    exact this.symm
  have h1 := hat o (by omega)
  rw [cellsSh] at h1
  obtain ⟨y, hy⟩ : ∃ y, xs[o]? = some y := ⟨xs[o]'(by omega), List.getElem?_eq_getElem (by omega)⟩
  have h2 : y.1 = shapeD o := by
    have e : (xs.map (·.1))[o]? = ((List.range 11).map shapeD)[o]? := by rw [hxs]
    rw [List.getElem?_map, hy, List.getElem?_map, List.getElem?_range (by omega)] at e
    simpa using e
  rw [hy] at h1
  obtain ⟨d, q⟩ := y
  simp only at h2
  subst h2
  have h3 := shape_cells h1
  have hc : ∀ j v, j < 4 → [Value.string (bs (Rec.word o)), .bool (Rec.hA o), .string (bs (markL o)), .bool (Rec.hK o)][j]? = some v → W.cell? ⟨0, o * 4 + j, none⟩ = some v := fun j v hj hv => by
    rw [← h3] at hv
    rw [World.var?_cell gSh hv0]
    rw [List.getElem?_take_of_lt hj, List.getElem?_drop] at hv
    simpa using hv
  exact ⟨hc 0 _ (by omega) rfl, hc 1 _ (by omega) rfl, hc 2 _ (by omega) rfl, hc 3 _ (by omega) rfl⟩

def list6 : List (String × DataW Unit) := [("math/bits.deBruijn32tab", Rows.laid_math_bits_deBruijn32tab), ("math/bits.deBruijn64tab", Rows.laid_math_bits_deBruijn64tab), ("internal/strconv.uint64pow10", Rows.laid_internal_strconv_uint64pow10), ("strconv.ErrRange", Rows.laid_strconv_ErrRange), ("strconv.ErrSyntax", Rows.laid_strconv_ErrSyntax), ("haycock/record.shapes", Rows.laid_haycock_record_shapes)]
theorem env_of6 {W : World} (h : laidMetH Tryd.prog list6 W) (hS : W.ShapedOpen Tryd.prog) : Env W := by
  rw [MakeChecks.laidMetH_plain _ _ _ (by kernel_rfl)] at h
  refine ⟨⟨?_, ?_, ?_, Tryd.laysM145.s1_3 W hS⟩, shapes_of h.tail.tail.tail.tail.tail⟩
  · exact Lib.tabIs_of_head gPow gPowType Tryd.underlying97 Tryd.underlying54 cellsU64 cellsPow h.tail.tail
  · obtain ⟨a, s, hv, _⟩ := laid_sentinel h.tail.tail.tail.tail gBad gBadType Tryd.underlying77 rowErr Tryd.underlying107 Tryd.underlying109 rfl rfl Tryd.underlying9 (by kernel_rfl) (by kernel_rfl)
    exact ⟨_, _, hv⟩
  · obtain ⟨a, s, hv, _⟩ := laid_sentinel h.tail.tail.tail gFar gFarType Tryd.underlying77 rowErr Tryd.underlying107 Tryd.underlying109 rfl rfl Tryd.underlying9 (by kernel_rfl) (by kernel_rfl)
    exact ⟨_, _, hv⟩
theorem door6 (os : Os) (args : Array Value) : laidMetH Tryd.prog list6 ((World.doorLaid Tryd.prog 78 os).forCall (fun _ _ => 0) ⟨#[], args, []⟩).memory :=
  laidMetH_of_parts3 (fuel := 8) (laidMet_of_run' 8 (by kernel_rfl) (by kernel_rfl)) (by kernel_rfl) (by kernel_rfl)
end Go.Proofs.YtokfecbjkngpgaaDoor
