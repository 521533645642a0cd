/- Merged of NestRef, NestRef2, NestRef3, NestRef4, NestRef5, NestRef6, NestRef7, NestRef8, NestMin, NestOrder, NestSortMath, NestCalls, PqObj, PqHeld. -/
import Derived.Test.YtkcicnflcilekaaGreatStageAppend
import Derived.Test.YtkcicnflcilekaaGreatArena2
import Derived.Test.YtkcicnflcilekaaGreatCells2
import Derived.Deep.RegionLaw
import Derived.Deep.RegionHeld3
import Derived.Deep.DeepCutAuto
import Derived.Deep.RegionWith
import Derived.Test.YtkcicnflcilekaaGreatNames
import Derived.Test.YtkcicnflcilekaaGreatArenaObj
namespace Go.Proofs.YtkcicnflcilekaaGreat
open Go.RowKit Go.Sort

def boolC (b : Bool) : List Value := [.bool b]
def ncellC (c : CellD) : List Value := [.int .i64 c.home, .int .i64 c.key, .int .u64 c.seq]
theorem ncellC_len (c : CellD) : (ncellC c).length = 3 := rfl
/-- hv and cv are the rows of the nest W; nobody writes them. -/
structure NestAt (w : World) (hv cv : Value) (W : WS) : Prop where
  hrow : w.ownsRow 0 4 1 hv W.heaps.length (cellsBy boolC W.heaps)
  crow : w.ownsRow 0 115 3 cv W.cells.length (cellsBy ncellC W.cells)
  hlen : W.heaps.length ≤ 65537
  clen : W.cells.length ≤ 65536
def nestF (hv cv : Value) : Nat → Prop := fun k => rowF hv k ∨ rowF cv k
theorem NestAt.keeps {G : Nat → Prop} {w w' : World} {hv cv : Value} {W : WS} (h : NestAt w hv cv W) (k : Keeps G w w') (hn : ∀ b, nestF hv cv b → ¬ G b) : NestAt w' hv cv W :=
  ⟨owns_keeps h.hrow k (fun b hb => hn b (Or.inl hb)), owns_keeps h.crow k (fun b hb => hn b (Or.inr hb)), h.hlen, h.clen⟩
theorem NestAt.lt {w : World} {hv cv : Value} {W : WS} (h : NestAt w hv cv W) : ∀ k, nestF hv cv k → k < w.heap.size := by
  rintro k (hk | hk)
  · exact (h.hrow.lt k hk).2
  · exact (h.crow.lt k hk).2
/-- The document's nest as a thing. -/
def Ob.nest (hv cv : Value) (W : WS) : Ob where
  holds w F := NestAt w hv cv W ∧ F = nestF hv cv
  keeps := by rintro w w' F G ⟨h, rfl⟩ k hn; exact ⟨h.keeps k hn, rfl⟩
  lt := by rintro w F ⟨h, rfl⟩; exact h.lt
section
variable {w : World} {hv cv : Value} {W : WS}
theorem NestAt.hform (h : NestAt w hv cv W) : ∃ a c, hv = .slice a W.heaps.length c ∧ W.heaps.length ≤ c ∧ c ≤ 9223372036854775807 := by
  obtain ⟨a, c, h1, h2, h3⟩ := owns_form h.hrow
  exact ⟨a, c, h1, h2, by unfold maxLen at h3; omega⟩
theorem NestAt.cform (h : NestAt w hv cv W) : ∃ a c, cv = .slice a W.cells.length c ∧ W.cells.length ≤ c ∧ c ≤ 9223372036854775807 := by
  obtain ⟨a, c, h1, h2, h3⟩ := owns_form h.crow
  exact ⟨a, c, h1, h2, by unfold maxLen at h3; omega⟩

end
end Go.Proofs.YtkcicnflcilekaaGreat

namespace Go.Proofs.YtkcicnflcilekaaGreat
open Go.RowKit Go.Sort

theorem info_ncell : (Tryz.prog.info? 115).map (fun i => (i.zero, i.size, i.bytes)) = some (some (.agg #[.int .i64 0, .int .i64 0, .int .u64 0]), 3, 24) := by kernel_rfl
section
variable {w : World} {hv cv : Value} {W : WS}
end
end Go.Proofs.YtkcicnflcilekaaGreat

namespace Go.Proofs.YtkcicnflcilekaaGreat
open Go.RowKit Go.Sort

section
variable {w : World} {hv cv : Value} {W : WS}
end
end Go.Proofs.YtkcicnflcilekaaGreat

namespace Go.Proofs.YtkcicnflcilekaaGreat
open Go.RowKit Go.Sort

section
variable {w : World} {hv cv : Value} {W : WS}
end
end Go.Proofs.YtkcicnflcilekaaGreat

namespace Go.Proofs.YtkcicnflcilekaaGreat
open Go.RowKit Go.Sort

section
variable {w : World} {hv cv : Value} {W : WS}
end
end Go.Proofs.YtkcicnflcilekaaGreat

namespace Go.Proofs.YtkcicnflcilekaaGreat
open Go.RowKit Go.Sort

theorem refnew_any (n : Nat) (hn : n ≤ 65536) (w : World) : Calls Tryz.prog 39 #[.int .i64 n] w fun e w' => ∃ hv cv, e = .returned (.agg #[hv, cv]) ∧ Below w.heap.size w w' ∧ NestAt w' hv cv (newW n) ∧ ∀ k, nestF hv cv k → w.heap.size ≤ k := by
  have hmk := run_make_rows (P := Tryz.prog) 43 115 _ 3 24 Tryz.underlying43 info_ncell n (by omega) (by omega)
  go_enter Tryz.func39, Tryz.ntmps39
  go_wp2_with fail
  have hs := (((Stage.start w).alloc' #[.slice (some ⟨w.heap.size + 1, 0, none⟩) 1 1, .slice (some ⟨w.heap.size + 1 + 1, 0, none⟩) n n] 45 rfl).newRow' 4 1 1 #[.bool false] rfl (by decide) (b := w.heap.size + 1) (size_alloc _ _)).newRow' 115 3 n (madeCells #[.int .i64 0, .int .i64 0, .int .u64 0] (n * 3)) (size_madeCells _ _) (by unfold maxLen; omega) (b := w.heap.size + 1 + 1) (by rw [size_alloc, size_alloc])
  have z0 := hs.cell 0 rfl (o := 0) rfl
  have z1 := hs.cell 0 rfl (o := 1) rfl
  refine bodyPost_ret (v := .agg #[.slice (some ⟨w.heap.size + 1, 0, none⟩) 1 1, .slice (some ⟨w.heap.size + 1 + 1, 0, none⟩) n n]) (by simp [results, Tryz.results39, go_sem, z0, z1]) rfl ⟨_, _, rfl, hs.below, ⟨hs.owns 1 rfl, ?_, by simp [newW], by simpa [newW] using hn⟩, ?_⟩
  · have := hs.owns 2 rfl
    rw [made_rows ncellC_len (by decide) .off #[.int .i64 0, .int .i64 0, .int .u64 0] rfl n] at this
    have e1 : (newW n).cells.length = n := by simp [newW]
    rw [e1]
    exact this
  · rintro k (hk | hk)
    · have : w.heap.size + 1 = k := by simpa [rowF, Value.ownBlock] using hk
      omega
    · have : w.heap.size + 1 + 1 = k := by simpa [rowF, Value.ownBlock] using hk
      omega

section
variable {w : World} {hv cv : Value} {W : WS}
end
end Go.Proofs.YtkcicnflcilekaaGreat

namespace Go.Proofs.YtkcicnflcilekaaGreat
open Go.RowKit Go.Sort

section
variable {w : World} {hv cv : Value} {W : WS}
end
end Go.Proofs.YtkcicnflcilekaaGreat

namespace Go.Proofs.YtkcicnflcilekaaGreat
open Go.RowKit Go.Sort

section
variable {w : World} {hv cv : Value} {W : WS}
end
end Go.Proofs.YtkcicnflcilekaaGreat

namespace Go.Proofs.YtkcicnflcilekaaGreat
open Go.RowKit Go.Sort

def minI (W : WS) (h : Int) : Int := match minW W h with | none => 0 | some m => m
def minB (W : WS) (h : Int) : Bool := (minW W h).isSome
theorem minI_some {W : WS} {h : Int} {m : Nat} (e : minW W h = some m) : minI W h = m ∧ minB W h = true := by simp [minI, minB, e]
theorem minI_none {W : WS} {h : Int} (e : minW W h = none) : minI W h = 0 ∧ minB W h = false := by simp [minI, minB, e]
section
variable {w : World} {hv cv : Value} {W : WS}
end
end Go.Proofs.YtkcicnflcilekaaGreat

namespace Go.Proofs.YtkcicnflcilekaaGreat
open Go.RowKit Go.Sort

def natC (x : Nat) : List Value := [.int .i64 x]
theorem natC_len (x : Nat) : (natC x).length = 1 := rfl
section
variable {w : World} {hv cv : Value} {W : WS}
end
end Go.Proofs.YtkcicnflcilekaaGreat

namespace Go.Proofs.YtkcicnflcilekaaGreat

theorem getD_setN {α : Type} (l : List α) (i j : Nat) (x d : α) (hi : i < l.length) : (l.set i x).getD j d = if i = j then x else l.getD j d := by
  simp only [List.getD_eq_getElem?_getD, List.getElem?_set]
  by_cases h : i = j
  · subst h; simp [hi]
  · simp [h]


/-! ### two heaps, melded -/
end Go.Proofs.YtkcicnflcilekaaGreat

namespace Go.Proofs.YtkcicnflcilekaaGreat
open Go.RowKit Go.Sort

structure NestFns where
  make : Fn
  ins : Fn
  min : Fn
  steps : Fn
  entry : Fn
  has : Fn
structure Nests {γ : Type} (O : WS → γ → Ob) (st : γ → Int) (H : World → Prop) (T : TypeId) (v : Value) (f : NestFns) : Prop where
  there : ∀ {W g w F}, (O W g).holds w F → H w
  fit : ∀ {W g w F}, (O W g).holds w F → W.Fit
  entry : ∀ {W g w F} (x : Int), (O W g).holds w F → Calls Tryz.prog f.entry.id #[f.entry.rv, .int .i64 x] w fun e w' => e = .returned (.tuple #[.agg #[.int .i64 (cellW W x).key, .int .u64 (cellW W x).seq], .bool (inW W x)]) ∧ Below w.heap.size w w'
  has : ∀ {W g w F} (y : Int), (O W g).holds w F → Calls Tryz.prog f.has.id #[f.has.rv, .int .i64 y] w fun e w' => e = .returned (.bool (hasW W y)) ∧ Below w.heap.size w w'
  steps : ∀ {W g w F}, (O W g).holds w F → Calls Tryz.prog f.steps.id #[f.steps.rv] w fun e w' => e = .returned (.int .i64 (st g)) ∧ Below w.heap.size w w'
  make : ∀ {W g w F}, (O W g).holds w F → Calls Tryz.prog f.make.id #[f.make.rv] w fun e w' => e = .returned (.int .i64 (madeW W)) ∧ ∃ g' F', (O (makeW W) g').holds w' F' ∧ Moved F F' w w'
  ins : ∀ {W g w F} (y x k q : Int), inInt y → inInt x → (O W g).holds w F → Calls Tryz.prog f.ins.id #[f.ins.rv, .int .i64 y, .int .i64 x, .agg #[.int .i64 k, .int .u64 q]] w fun e w' => e = .returned (.bool (putB W y x)) ∧ ∃ g' F', (O (putW W y x k q) g').holds w' F' ∧ Moved F F' w w'
  min : ∀ {W g w F} (y : Int), inInt y → (O W g).holds w F → Calls Tryz.prog f.min.id #[f.min.rv, .int .i64 y] w fun e w' => e = .returned (.tuple #[.int .i64 (minI W y), .bool (minB W y)]) ∧ ∃ g' F', (O W g').holds w' F' ∧ Moved F F' w w'
  mMake : Meth H T v "Make" f.make
  mIns : Meth H T v "Insert" f.ins
  mMin : Meth H T v "Min" f.min
  mSteps : Meth H T v "Steps" f.steps
  mEntry : Meth H T v "Entry" f.entry
  mHas : Meth H T v "Has" f.has
end Go.Proofs.YtkcicnflcilekaaGreat

namespace Go.Proofs.YtkcicnflcilekaaGreat
open Go.RowKit Go.Sort

def stF (p : Nat) (k d : Int) (a : Nat) (T : TypeId) (v : Value) (q : Nat) (A : AS) (O : Ob) : List Ob :=
  [Ob.box p #[.int .i64 k, .int .i64 d, ptrV a, .iface T v, .int .u64 q] 89, Ob.arena a A, O]
/-- A store at p, of which kind; b: nothing was asked yet. -/
def Ob.store (p : Nat) (k d : Int) (b : Bool) (S : SS) : Ob where
  holds w F := ∃ (γ : Type) (O : WS → γ → Ob) (st : γ → Int) (H : World → Prop) (T : TypeId) (v : Value) (f : NestFns) (a : Nat) (g : γ), Nests O st H T v f ∧ S.Ok ∧ (b = true → st g = 0) ∧ (Ob.group (stF p k d a T v S.q S.A (O S.W g))).holds w F
  keeps := fun ⟨γ, O, st, H, T, v, f, a, g, h1, h2, h3, h⟩ k hn => ⟨γ, O, st, H, T, v, f, a, g, h1, h2, h3, (Ob.group _).keeps h k hn⟩
  lt := fun ⟨_, _, _, _, _, _, _, _, _, _, _, _, h⟩ => (Ob.group _).lt h
namespace Stage
variable {F0 : Nat → Prop} {W w w' : World} {l : List Ob} {P : Program} {f : FuncId} {args : Array Value} {O : Ob} {v : Value}
/-- A call on one thing, which it turns into one of some things. -/
theorem callX {α : Type} {O' : α → Ob} (h : Stage F0 W l w) (i : Nat) (hi : l[i]? = some O) (hc : ∀ F, O.holds w F → Calls P f args w fun e w' => e = .returned v ∧ ∃ a F', (O' a).holds w' F' ∧ Moved F F' w w') :
    Calls P f args w fun e w' => e = .returned v ∧ ∃ a, Stage F0 W (l.set i (O' a)) w' :=
  (h.callEx (Q := fun _ => True) i hi fun F ho => (hc F ho).mono fun _ _ ⟨h1, a, h2⟩ => ⟨h1, a, trivial, h2⟩).mono fun _ _ ⟨h1, a, _, h2⟩ => ⟨h1, a, h2⟩
end Stage
section
variable {w : World} {p : Nat} {k d : Int} {b : Bool} {S : SS} {F : Nat → Prop}
/-- A store is whole again. -/
theorem st_close {γ : Type} {O : WS → γ → Ob} {st : γ → Int} {H : World → Prop} {T : TypeId} {v : Value} {f : NestFns} {a : Nat} {g : γ} {w' : World} {S : SS} (hF : ∀ b, F b → b < w.heap.size) (N : Nests O st H T v f) (ok : S.Ok) (hs : Stage F w (stF p k d a T v S.q S.A (O S.W g)) w') :
    ∃ F', (Ob.store p k d false S).holds w' F' ∧ Moved F F' w w' :=
  (hs.close hF).elim fun F' ⟨h1, h2⟩ => ⟨F', ⟨γ, O, st, H, T, v, f, a, g, N, ok, (fun e => by cases e), h1⟩, h2⟩
/-- Behind a call: the store says S'. -/
def StP (p : Nat) (k d : Int) (F : Nat → Prop) (w : World) (S' : SS) (r : Value) (e : Ending) (w' : World) : Prop := e = .returned r ∧ ∃ F', (Ob.store p k d false S').holds w' F' ∧ Moved F F' w w'
theorem live_pq (ho : (Ob.store p k d b S).holds w F) : Calls Tryz.prog 19 #[.pointer (some ⟨p, 0, none⟩)] w fun e w' => e = .returned (.int .i64 S.A.live) ∧ w = w' := by
  obtain ⟨γ, O, st, H, T, v, f, a, g, N, ok, _, hg⟩ := ho
  have hs := Ob.group.open hg
  have hc := hs.countArena 1 rfl
  have p2 := hs.cell 0 rfl (o := 2) rfl
  clear hg hs
  generalize (S.A.live : Int) = L at *
  go_enter Tryz.func19, Tryz.ntmps19
  go_wp2_with fail
  refine hc.mono ?_
  rintro e w1 ⟨rfl, rfl⟩
  go_wp2_with fail
  go_ret
  exact ⟨rfl, rfl⟩
theorem capacity_pq (ho : (Ob.store p k d b S).holds w F) : Calls Tryz.prog 17 #[.pointer (some ⟨p, 0, none⟩)] w fun e w' => e = .returned (.int .i64 S.A.cap) ∧ w = w' := by
  obtain ⟨γ, O, st, H, T, v, f, a, g, N, ok, _, hg⟩ := ho
  have hs := Ob.group.open hg
  have hc := hs.capArena 1 rfl
  have p2 := hs.cell 0 rfl (o := 2) rfl
  clear hg hs
  generalize (S.A.cap : Int) = L at *
  go_enter Tryz.func17, Tryz.ntmps17
  go_wp2_with fail
  refine hc.mono ?_
  rintro e w1 ⟨rfl, rfl⟩
  go_wp2_with fail
  go_ret
  exact ⟨rfl, rfl⟩
theorem steps_pq (ho : (Ob.store p k d true S).holds w F) : Calls Tryz.prog 20 #[.pointer (some ⟨p, 0, none⟩)] w fun e w' => e = .returned (.int .i64 0) ∧ Below w.heap.size w w' := by
  obtain ⟨γ, O, st, H, T, v, f, a, g, N, ok, h0, hg⟩ := ho
  have hs := Ob.group.open hg
  obtain ⟨_, h2⟩ := hs.get (i := 2) rfl
  have hc := N.steps h2
  rw [h0 rfl] at hc
  have m1 := N.mSteps.find _ (N.there h2)
  have m2 := N.mSteps.enter
  have p3 := hs.cell 0 rfl (o := 3) rfl
  clear hg hs h2
  go_enter Tryz.func20, Tryz.ntmps20
  go_wp2_with fail
  refine hc.mono ?_
  rintro e w1 ⟨rfl, hb⟩
  go_wp2_with fail
  go_ret
  exact ⟨rfl, hb⟩
theorem newheap_pq (ho : (Ob.store p k d b S).holds w F) : Calls Tryz.prog 13 #[.pointer (some ⟨p, 0, none⟩)] w (StP p k d F w (mkS S) (.tuple #[.int .i64 (mkR S).heap, .int .i64 (mkR S).code])) := by
  have hF := (Ob.store p k d b S).lt ho
  obtain ⟨γ, O, st, H, T, v, f, a, g, N, ok, _, hg⟩ := ho
  have hs := Ob.group.open hg
  obtain ⟨_, h2⟩ := hs.get (i := 2) rfl
  have hc := hs.callX 2 rfl fun _ ho => N.make ho
  have m1 := N.mMake.find _ (N.there h2)
  have m2 := N.mMake.enter
  have p3 := hs.cell 0 rfl (o := 3) rfl
  have ok' := ok_new ok
  unfold mkR
  clear hg hs h2 ok
  by_cases hm : madeW S.W = 0
  · rw [hm] at hc ⊢
    clear hm
    go_enter Tryz.func13, Tryz.ntmps13
    go_wp2_with fail
    refine hc.mono ?_
    rintro e w1 ⟨rfl, g', hs⟩
    go_wp2_with fail
    go_ret2
    exact ⟨rfl, st_close hF N ok' hs⟩
  · rw [if_neg hm]
    have hm' : (madeW S.W == 0) = false := by simpa using hm
    clear hm
    simp only
    generalize madeW S.W = M at *
    go_enter Tryz.func13, Tryz.ntmps13
    go_wp2_with fail
    refine hc.mono ?_
    rintro e w1 ⟨rfl, g', hs⟩
    go_wp2_with fail
    go_ret2
    exact ⟨rfl, st_close hF N ok' hs⟩
end
end Go.Proofs.YtkcicnflcilekaaGreat

namespace Go.Proofs.YtkcicnflcilekaaGreat
open Go.RowKit Go.Sort

section
variable {w : World} {p : Nat} {k d : Int} {b : Bool} {S : SS} {F : Nat → Prop}
end
end Go.Proofs.YtkcicnflcilekaaGreat
