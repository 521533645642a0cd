/- Merged of Base, Mem, Law, ArenaMath. -/
import Derived.Below
import Derived.ChangeSame
import Derived.Lib.QuietBelow
import Derived.BigQuiet
import Derived.Deep.Draws
import Derived.WalkKit
import Derived.Lib.Hide
import Derived.OneCell
import Derived.Carry
import Derived.ProofKit
import Derived.OpenShut
import Derived.Lib.SmallJoins
import Derived.ChangeSlices
import Derived.Deep.Slices
import Derived.JoinedOf
import Derived.JoinedAt
import GoSem.ClaimData
namespace Go.Proofs.YtkcicnflcilekaaGreat
open Go.RowKit Go.WideShapes Go.ChangeShapes Go.Sort

section
variable {H : Type} {enc : TypeId × Value → H} {P : Program}
/-- The last step of a row whose call may have made memory: of what was there nothing has turned. -/
theorem post_of_below {f : Func} {s : ChangeSpec} {apart fresh handsOn again : Bool} {W W' : World} {args : Array Value} {v : Value} {ds gs : List (DataW H)} {before pa pv : List MemPlace}
    (hW : DataW.Whole enc P f.params.toList s.vars apart W args.toList ds gs before)
    (hres : ∀ (b : Nat) (sp : Nat → Bool) (hd : Bool), DataW.TrodAll enc P W' b sp hd f.resultTypes.toList (v.resultList f.resultTypes.size) (s.fn H (ds ++ gs)).results [])
    (hargs : ∀ sp : Nat → Bool, (∀ p ∈ before, sp p.block = true) → DataW.TrodAll enc P W' 0 sp true f.params.toList args.toList (s.fn H (ds ++ gs)).args pa)
    (hvars : ∀ sp : Nat → Bool, (∀ p ∈ before, sp p.block = true) → DataW.TrodVars enc P W' sp s.vars (s.fn H (ds ++ gs)).vars pv)
    (hps : before = pa ++ pv) (hb : Below W.heap.size W W')
    (hok : ∀ (j : Nat) (t : TypeId) (r : Value), f.resultTypes[j]? = some t → (v.resultList f.resultTypes.size)[j]? = some r → Value.okWide P W' .any 0 t r) :
    s.post enc P f apart fresh handsOn again W args v W' := by
  have hlt : ∀ p ∈ before, p.block < W.heap.size := fun p hp => hW.lt p hp
  have hold : ∀ p ∈ before, (fun b => decide (b < W.heap.size)) p.block = true := fun p hp => by simpa using hlt p hp
  refine ⟨ds, gs, before, [], pa, pv, hW, hres _ _ _, hargs _ hold, hvars _ hold, World.keptBut_mono (fun p hp => ⟨hp, ?_⟩) (hb.frame (· ∈ before)), fun _ => ?_⟩
  · rw [hps, List.mem_append] at hp
    exact Or.inr hp
  · obtain ⟨_, _, _, _, _, hz, hn⟩ := hW
    refine ⟨hok, _, _, ([] ++ pa) ++ pv, ⟨[] ++ pa, pv, trodAll_append (hargs _ (fun _ _ => rfl)) (hres _ _ _), hvars _ (fun _ _ => rfl), rfl, ?_, ?_⟩, ?_⟩
    · intro b off hp
      have hin : MemPlace.cell b off ∈ before := by rw [hps]; simpa using hp
      rw [hb.frozen (hlt _ hin)]
      exact hz b off hin
    · intro ha
      have := hn ha
      rw [hps] at this
      simpa using this
    · intro p hp _
      rw [hps]
      simpa using hp
end

theorem below_drewN {B : Nat} {a w : World} (h : Below B a w) (n : Nat) : Below B a (w.drewN n) := ⟨h.os, h.tape, h.output, h.size, h.block⟩
/-- Below 'a''s own blocks nothing has turned, so what holds of the later world holds of the earlier. -/
theorem below_chain {a b c : World} (h : Below a.heap.size a b) (k : Below b.heap.size b c) : Below a.heap.size a c := h.trans (k.mono h.size)

end Go.Proofs.YtkcicnflcilekaaGreat

namespace Go.Proofs.YtkcicnflcilekaaGreat
open Go.RowKit Go.Sort

/-- A block of cells that may be written, known whole. -/
def Blk (w : World) (b : Nat) (c : Array Value) (t : TypeId) : Prop := w.heap[b]? = some (.cells c t (0, 0))
/-- All blocks that were there, but those of F, are as they were. -/
structure Keeps (F : Nat → Prop) (w w' : World) : Prop where
  os : w'.os = w.os
  tape : w'.tape = w.tape
  output : w'.output = w.output
  size : w.heap.size ≤ w'.heap.size
  block : ∀ k, k < w.heap.size → ¬ F k → w'.heap[k]? = w.heap[k]?

theorem blk_lt {w : World} {b : Nat} {c : Array Value} {t : TypeId} (h : Blk w b c t) : b < w.heap.size := lt_of_block h
theorem blk_cell {w : World} {b : Nat} {c : Array Value} {t : TypeId} (h : Blk w b c t) {o : Nat} {v : Value} (hv : c[o]? = some v) : w.cell? ⟨b, o, none⟩ = some v := by
  simp only [Blk] at h; simp [World.cell?, h, hv]
theorem blk_free {w : World} {b : Nat} {c : Array Value} {t : TypeId} (h : Blk w b c t) (o : Nat) : w.frozen? ⟨b, o, none⟩ = false := by
  simp only [Blk] at h; simp [World.frozen?, h]
theorem blk_set {w : World} {b : Nat} {c : Array Value} {t : TypeId} (h : Blk w b c t) (o : Nat) (v : Value) : Blk (w.setCell ⟨b, o, none⟩ v) b (c.setIfInBounds o v) t := by
  have hlt := blk_lt h
  simp only [Blk] at *
  have h' : w.heap[b] = .cells c t (0, 0) := by simpa [Array.getElem?_eq_getElem hlt] using h
  show (w.heap.modify b _)[b]? = _
  rw [Array.getElem?_eq_getElem (by simpa using hlt), Array.getElem_modify_self, h']
  rfl
theorem blk_set_other {w : World} {b : Nat} {c : Array Value} {t : TypeId} (h : Blk w b c t) {a : Addr} (ha : a.block ≠ b) (v : Value) : Blk (w.setCell a v) b c t := by
  simp only [Blk] at *; rw [Below.heap_setCell _ _ _ _ (fun e => ha e.symm)]; exact h
theorem blk_new (w : World) (c : Array Value) (t : TypeId) : Blk (w.alloc (.cells c t)) w.heap.size c t := by
  show (w.heap.push _)[w.heap.size]? = _
  simp
theorem blk_same {w w' : World} (e : w'.heap = w.heap) {b : Nat} {c : Array Value} {t : TypeId} (h : Blk w b c t) : Blk w' b c t := by simp only [Blk] at *; rw [e]; exact h

theorem Keeps.refl (F : Nat → Prop) (w : World) : Keeps F w w := ⟨rfl, rfl, rfl, Nat.le_refl _, fun _ _ _ => rfl⟩
theorem Keeps.mono {F G : Nat → Prop} {w w' : World} (h : Keeps F w w') (hG : ∀ k, k < w.heap.size → F k → G k) : Keeps G w w' := ⟨h.os, h.tape, h.output, h.size, fun k hk hn => h.block k hk (fun hf => hn (hG k hk hf))⟩
theorem Keeps.trans {F G : Nat → Prop} {a b c : World} (h : Keeps F a b) (k : Keeps G b c) (hG : ∀ i, i < a.heap.size → G i → F i) : Keeps F a c :=
  ⟨k.os.trans h.os, k.tape.trans h.tape, k.output.trans h.output, Nat.le_trans h.size k.size, fun i hi hn => (k.block i (Nat.lt_of_lt_of_le hi h.size) (fun hg => hn (hG i hi hg))).trans (h.block i hi hn)⟩
theorem Keeps.then {F : Nat → Prop} {a b c : World} (h : Keeps F a b) (k : Keeps F b c) : Keeps F a c := h.trans k fun _ _ x => x
theorem Keeps.drewN {F : Nat → Prop} {a w : World} (h : Keeps F a w) (n : Nat) : Keeps F a (w.drewN n) := ⟨h.os, h.tape, h.output, h.size, h.block⟩
theorem Keeps.alloc {F : Nat → Prop} {a w : World} (h : Keeps F a w) (o : Obj) : Keeps F a (w.alloc o) :=
  h.then ⟨rfl, rfl, rfl, by simp, fun k hk _ => Below.heap_alloc _ _ _ hk⟩
theorem Keeps.setCell {F : Nat → Prop} {a w : World} (h : Keeps F a w) (p : Addr) (hp : F p.block ∨ a.heap.size ≤ p.block) (u : Value) : Keeps F a (w.setCell p u) :=
  ⟨h.os, h.tape, h.output, Nat.le_trans h.size (by simp [World.setCell]), fun k hk hn => (Below.heap_setCell _ _ _ _ (fun e => by
    rcases hp with hp | hp
    · exact hn (e ▸ hp)
    · omega)).trans (h.block k hk hn)⟩
theorem Keeps.of_below_all {w w' : World} (h : Below w.heap.size w w') (F : Nat → Prop) : Keeps F w w' := ⟨h.os, h.tape, h.output, h.size, fun k hk _ => h.block k hk⟩
theorem Keeps.below {F : Nat → Prop} {B : Nat} {w w' : World} (h : Keeps F w w') (hB : B ≤ w.heap.size) (hF : ∀ k, F k → B ≤ k) : Below B w w' :=
  ⟨h.os, h.tape, h.output, h.size, fun k hk => h.block k (by omega) (fun hf => by have := hF k hf; omega)⟩
theorem Keeps.blk {F : Nat → Prop} {w w' : World} (h : Keeps F w w') {b : Nat} {c : Array Value} {t : TypeId} (hb : Blk w b c t) (hn : ¬ F b) : Blk w' b c t := by
  have := blk_lt hb
  simp only [Blk] at *; rw [h.block b this hn]; exact hb
/-- A cell that was there reads later as it read. -/
theorem later {w w1 : World} {a : Addr} {v : Value} (hb : Below w.heap.size w w1) (h : w.cell? a = some v) : w1.cell? a = some v := by rw [hb.cell (block_lt_of_cell h)]; exact h
theorem later_blk {w w1 : World} {b : Nat} {c : Array Value} {t : TypeId} (hb : Below w.heap.size w w1) (h : Blk w b c t) : Blk w1 b c t := by
  have := blk_lt h
  simp only [Blk] at *; rw [hb.block _ this]; exact h
theorem ret_bool {a b : Bool} (h : a = b) : Ending.returned (.bool a) = .returned (.bool b) := by rw [h]
theorem ret_int {k : IntKind} {a b : Int} (h : a = b) : Ending.returned (.int k a) = .returned (.int k b) := by rw [h]
/-- Behind one new block: what lay below is as it was. -/
theorem below_alloc1 {w w1 : World} {o : Obj} (h : Below (w.alloc o).heap.size (w.alloc o) w1) : Below w.heap.size w w1 :=
  ((Below.refl _ _).alloc (Nat.le_refl _) o).trans (h.mono (by simp))
theorem cells1 {w w1 : World} {x : Array Value} {t : TypeId} (h : Below (w.alloc (.cells x t)).heap.size (w.alloc (.cells x t)) w1) (o : Nat) :
    w1.cell? ⟨w.heap.size, o, none⟩ = (w.alloc (.cells x t)).cell? ⟨w.heap.size, o, none⟩ := h.cell (p := ⟨w.heap.size, o, none⟩) (by simp)
/-- A struct of two numbers that was put by: its cells, later. -/
theorem box2 {w w1 : World} {x y : Value} {t : TypeId} (h : Below (w.alloc (.cells #[x, y] t)).heap.size (w.alloc (.cells #[x, y] t)) w1) :
    w1.cell? ⟨w.heap.size, 0, none⟩ = some x ∧ w1.cell? ⟨w.heap.size, 1, none⟩ = some y := by
  rw [cells1 h, cells1 h]
  exact ⟨by go_simp, by go_simp⟩
theorem below_regrown' {W W3 : World} (hw : ∃ p : Regrown, W3 = grow (redrawn W p.d) p.os) : Below W.heap.size W W3 := by
  obtain ⟨p, rfl⟩ := hw
  exact below_regrown _ _ _
/-- What is owned stays owned while other blocks are written. -/
theorem owns_keep {F : Nat → Prop} {w w' : World} {base : Nat} {e : TypeId} {size : Nat} {v : Value} {n : Nat} {xs : List Value} (h : w.ownsRow base e size v n xs) (k : Keeps F w w') (hn : ∀ b, v.ownBlock = some b → ¬ F b) : w'.ownsRow base e size v n xs := by
  obtain ⟨h1, h2⟩ := h
  refine ⟨h1, ?_⟩
  rcases h2 with h2 | ⟨g, cap, cur, hv, hg, hh, r⟩
  · exact Or.inl h2
  · subst hv
    exact Or.inr ⟨g, cap, cur, rfl, hg, by rw [k.block g (lt_of_block hh) (hn g rfl)]; exact hh, r⟩
theorem owns_later {w w' : World} {base : Nat} {e : TypeId} {size : Nat} {v : Value} {n : Nat} {xs : List Value} (h : w.ownsRow base e size v n xs) (hb : Below w.heap.size w w') : w'.ownsRow base e size v n xs :=
  owns_keep h (Keeps.of_below_all hb (fun _ => False)) (fun _ _ x => x)
/-- A block that was just made reads as what was put into it. -/
theorem new_cells (w : World) (c : Array Value) (t : TypeId) (news : List Value) (h : news = c.toList) : ∀ j u, news[j]? = some u → (w.alloc (.cells c t)).cell? ((⟨w.heap.size, 0, none⟩ : Addr).add j) = some u := by
  subst h
  intro j u hj
  have : (w.alloc (.cells c t)).cell? ⟨w.heap.size, j, none⟩ = c[j]? := World.cell?_alloc_new w c t j
  have e : (⟨w.heap.size, 0, none⟩ : Addr).add j = ⟨w.heap.size, j, none⟩ := by
    unfold Addr.add
    by_cases h0 : j = 0
    · simp [h0]
    · simp [h0]
  rw [e, this]
  simpa using hj
/-- A list that was just written out is the call's own. -/
theorem owns_new {w : World} {base : Nat} {e : TypeId} {size n : Nat} {c : Array Value} (hb : base ≤ w.heap.size) (hs : c.size = n * size) (hm : n ≤ maxLen) : (w.alloc (.cells c e)).ownsRow base e size (.slice (some ⟨w.heap.size, 0, none⟩) n n) n c.toList :=
  ⟨by simpa using hs, Or.inr ⟨w.heap.size, n, c, rfl, hb, blk_new w c e, Nat.le_refl _, hm, hs, by rw [List.take_of_length_le (by simp [hs])]⟩⟩
/-- What an owned list that isn't empty is. -/
theorem owns_slice {w : World} {base : Nat} {e : TypeId} {size : Nat} {v : Value} {n : Nat} {xs : List Value} (h : w.ownsRow base e size v n xs) (hn : 0 < n) :
    ∃ g cap, v = .slice (some ⟨g, 0, none⟩) n cap ∧ n ≤ cap ∧ cap ≤ maxLen ∧ base ≤ g ∧ g < w.heap.size ∧ ∀ j u, xs[j]? = some u → w.cell? ⟨g, j, none⟩ = some u := by
  have hc := @World.ownsRow.cells _ _ _ _ _ _ _ h
  obtain ⟨_, ⟨_, h0⟩ | ⟨g, cap, cur, hv, hg, hh, hle, hmax, _⟩⟩ := h
  · omega
  · refine ⟨g, cap, hv, hle, hmax, hg, lt_of_block hh, fun j u hj => ?_⟩
    have := hc (g := g) (by rw [hv]; rfl) j u hj
    have e : (⟨g, 0, none⟩ : Addr).add j = ⟨g, j, none⟩ := by
      unfold Addr.add
      by_cases h0 : j = 0
      · simp [h0]
      · simp [h0]
    rw [e] at this
    exact this
/-- One cell was written, and nothing else. -/
structure Wrote (a : Addr) (v : Value) (w w' : World) : Prop where
  heap : w'.heap = (w.setCell a v).heap
  os : w'.os = w.os
  tape : w'.tape = w.tape
  output : w'.output = w.output
theorem Wrote.keeps {a : Addr} {v : Value} {w w' : World} (h : Wrote a v w w') : Keeps (· = a.block) w w' :=
  ⟨h.os, h.tape, h.output, by rw [h.heap]; simp [World.setCell], fun k _ hn => by rw [h.heap]; exact Below.heap_setCell _ _ _ _ hn⟩
theorem Wrote.blk {b o : Nat} {v : Value} {w w' : World} (h : Wrote ⟨b, o, none⟩ v w w') {c : Array Value} {t : TypeId} (hb : Blk w b c t) : Blk w' b (c.setIfInBounds o v) t := blk_same h.heap (blk_set hb o v)
/-- To write what stands there is to write nothing. -/
theorem wrote_same {a : Addr} {v : Value} {w : World} (hc : w.cell? a = some v) : Wrote a v w w := by
  refine ⟨?_, rfl, rfl, rfl⟩
  apply Array.ext_getElem?
  intro k
  by_cases hk : k = a.block
  · subst hk
    unfold World.cell? at hc
    simp only [World.setCell, Array.getElem?_modify, if_true]
    split at hc
    · rename_i c e f hb
      rw [hb]
      cases hs : a.spot with
      | some _ => simp [hs] at hc
      | none =>
        simp only [hs, Option.isSome_none, Bool.false_eq_true, if_false] at hc
        simp only [Option.map_some, Option.isSome_none, Bool.false_eq_true, if_false]
        congr 2
        apply Array.ext_getElem?
        intro i
        rw [Array.getElem?_setIfInBounds]
        by_cases hi : a.off = i
        · subst hi
          rw [if_pos rfl, hc]
          have := (Array.getElem?_eq_some_iff.1 hc).1
          simp [this]
        · rw [if_neg hi]
    · simp at hc
  · exact (Below.heap_setCell w a v k hk).symm
end Go.Proofs.YtkcicnflcilekaaGreat

namespace Go.Proofs.YtkcicnflcilekaaGreat
open Go.RowKit Go.WideShapes Go.ChangeShapes Go.Sort

section
variable {H : Type} {enc : TypeId × Value → H} {P : Program}
/-- All arguments read as they did, where their places hold what they held. -/
theorem trodAll_stays (hl : laidOutB P = true) {W W' : World} {sp : Nat → Bool} : ∀ (ts : List TypeId) (vs : List Value) (ds : List (DataW H)) (ps : List MemPlace), (∀ t ∈ ts, P.readableRec t = true ∧ t < P.types.size) →
    DataW.TrodAll enc P W 0 (fun _ => true) true ts vs ds ps → (∀ p ∈ ps, W.sameAt W' p) → (∀ p ∈ ps, sp p.block = true) → DataW.TrodAll enc P W' 0 sp true ts vs ds ps
  | [], [], [], _, _, h, _, _ => h
  | t :: ts, v :: vs, d :: ds, ps, hts, h, hsame, hs => by
    obtain ⟨p, q, h1, h2, rfl⟩ := h
    have ht := hts t (List.mem_cons_self ..)
    exact ⟨p, q, WideElems.Trod_stays hl ht.1 ht.2 h1 (fun x hx => hsame x (List.mem_append_left _ hx)) (fun x hx => hs x (List.mem_append_left _ hx)),
      trodAll_stays hl ts vs ds q (fun t ht => hts t (List.mem_cons_of_mem _ ht)) h2 (fun x hx => hsame x (List.mem_append_right _ hx)) (fun x hx => hs x (List.mem_append_right _ hx)), rfl⟩
  | [], [], _ :: _, _, _, h, _, _ => h.elim
  | [], _ :: _, _, _, _, h, _, _ => h.elim
  | _ :: _, [], _, _, _, h, _, _ => h.elim
  | _ :: _, _ :: _, [], _, _, h, _, _ => h.elim

/-- The row's last step. -/
theorem law_post {f : Func} {s : ChangeSpec} {B : TypeId} {W W' : World} {args : Array Value} {ds gs : List (DataW H)} {before : List MemPlace} (hl : laidOutB P = true)
    (hts : ∀ t ∈ f.params.toList, P.readableRec t = true ∧ t < P.types.size) (hv : s.vars = []) (hR : f.resultTypes = #[B]) (hB : P.underlying B = some .bool)
    (hW : DataW.Whole enc P f.params.toList s.vars false W args.toList ds gs before) (hfn : s.fn H (ds ++ gs) = { results := [.lit (.bool true)], args := ds }) (hb : Below W.heap.size W W') :
    s.post enc P f false true false false W args (.bool true) W' := by
  have hW' := hW
  obtain ⟨p, q, hA, hV, hbe, _, _⟩ := hW
  rw [hv] at hV
  obtain ⟨rfl, rfl⟩ := trodVars_none hV
  have hlt : ∀ x ∈ p, x.block < W.heap.size := fun x hx => hW'.lt x (by rw [hbe]; simpa using hx)
  have hg : (s.fn H (ds ++ [])).vars = [] := by rw [hfn]
  refine post_of_below (pa := p) (pv := []) hW' (fun b sp hd => ?_) (fun sp hsp => ?_) (fun sp _ => ?_) hbe hb ?_
  · rw [hR, hfn]
    exact trodAll_cons_mk (shut_bool hB _) trodAll_mk0
  · rw [hfn]
    exact trodAll_stays hl _ _ _ _ hts hA (fun x hx => hb.same (hlt x hx)) (fun x hx => hsp x (by rw [hbe]; simpa using hx))
  · rw [hv, hg]; exact rfl
  · exact ok_one hR rfl (okWide_bool_mk hB _)

variable {w : World} {base : Nat} {spare : Nat → Bool} {held : Bool} {r : Reach} {b0 : Nat}
/-- An integer that comes in. -/
theorem open_int' {t : TypeId} {k : IntKind} {v : Value} {d : DataW H} {p : List MemPlace} (ht : P.underlying t = some (.int k)) (hv : Value.okWide P w r b0 t v) (h : DataW.Trod enc P w base spare held t v d p) :
    ∃ n : Int, v = .int k n ∧ k.min ≤ n ∧ n ≤ k.max := by
  obtain ⟨n, rfl, rfl, rfl, hw⟩ := open_int ht hv h
  simp [Lit.wf] at hw
  exact ⟨n, rfl, hw⟩
/-- A struct of two integers that comes in. -/
theorem open_pair' {t : TypeId} {f0 f1 : Field} {k0 k1 : IntKind} {v : Value} {d : DataW H} {p : List MemPlace} (hs : P.underlying t = some (.struct #[f0, f1])) (hone : Go.Deep.oneCellFields P #[f0, f1] = true) (hC : P.cellsOf t = 2)
    (h0 : P.underlying f0.type = some (.int k0)) (h1 : P.underlying f1.type = some (.int k1)) (hv : Value.okWide P w r b0 t v) (h : DataW.Trod enc P w base spare held t v d p) :
    ∃ m n : Int, v = .agg #[.int k0 m, .int k1 n] ∧ (k0.min ≤ m ∧ m ≤ k0.max) ∧ (k1.min ≤ n ∧ n ≤ k1.max) := by
  obtain ⟨v0, v1, y0, y1, n, rfl, rfl, rfl, g0, g1⟩ := Joins.open_agg2 hs hone hC hv h
  obtain ⟨m, e0, rfl, w0⟩ := DataW.trod_int h0 g0
  obtain ⟨q, e1, rfl, w1⟩ := DataW.trod_int h1 g1
  simp only [List.cons.injEq, and_true] at e0 e1
  subst e0 e1
  simp [Lit.wf] at w0 w1
  exact ⟨m, q, rfl, w0, w1⟩
/-- A list of integers that comes in: it reads, cell by cell, as a list. -/
def IntsAt (w : World) (k : IntKind) (a : Option Addr) (l : List Int) : Prop := ∀ i, i < l.length → ∃ b off, a = some ⟨b, off, none⟩ ∧ w.cell? ⟨b, off + i, none⟩ = some (.int k (l.getD i 0))
end
end Go.Proofs.YtkcicnflcilekaaGreat

namespace Go.Proofs.YtkcicnflcilekaaGreat

/-- An arena: how many slots, the greatest generation; of each slot that was ever given out its generation, and whether it is out; those that wait; how many are out. -/
structure AS where
  cap : Nat
  most : Nat
  used : List (Nat × Bool)
  waiting : List Nat
  live : Nat
/-- Was there ever a handle of that slot? -/
def hasBAr (s : Int) (n : Nat) : Bool := decide (0 ≤ s ∧ s < n)
def liveB (A : AS) (s g : Int) : Bool := hasBAr s A.used.length && (((A.used.getD s.toNat (0, false)).1 : Int) == g && (A.used.getD s.toNat (0, false)).2)
/-- What holds of an arena's numbers. -/
structure AS.Fit (A : AS) : Prop where
  cap : A.cap ≤ 65536
  most : 1 ≤ A.most ∧ A.most ≤ 4294967295
  used : A.used.length ≤ A.cap
  nodup : A.waiting.Nodup
  live : A.live = A.used.countP (·.2)
  gen : ∀ i, i < A.used.length → 1 ≤ (A.used.getD i (0, false)).1 ∧ (A.used.getD i (0, false)).1 ≤ A.most
  waits : ∀ i, i ∈ A.waiting → i < A.used.length ∧ (A.used.getD i (0, false)).2 = false ∧ (A.used.getD i (0, false)).1 < A.most
  all : ∀ i, i < A.used.length → (A.used.getD i (0, false)).2 = false → (A.used.getD i (0, false)).1 < A.most → i ∈ A.waiting

theorem nodup_le : ∀ (n : Nat) (l : List Nat), l.Nodup → (∀ i ∈ l, i < n) → l.length ≤ n := by
  intro n
  induction n with
  | zero =>
    intro l _ h
    cases l with
    | nil => simp
    | cons a r => exact absurd (h a (List.mem_cons_self ..)) (by omega)
  | succ n ih =>
    intro l hd h
    by_cases hn : n ∈ l
    · have h1 := ih (l.erase n) (hd.erase n) (fun i hi => by
        have := (hd.mem_erase_iff).1 hi
        have := h i this.2
        omega)
      have h2 := List.length_erase_of_mem hn
      have h3 := List.length_pos_of_mem hn
      omega
    · have := ih l hd (fun i hi => by have := h i hi; have : i ≠ n := fun e => hn (e ▸ hi); omega)
      omega
theorem AS.Fit.wait {A : AS} (h : A.Fit) : A.waiting.length ≤ A.used.length := nodup_le _ _ h.nodup (fun i hi => (h.waits i hi).1)
theorem AS.Fit.liveLe {A : AS} (h : A.Fit) : A.live ≤ A.used.length := by rw [h.live]; exact List.countP_le_length

theorem getD_setAr {α : Type} (l : List α) (i j : Nat) (x d : α) (hi : i < l.length) : (l.set i x).getD j d = if i = j then x else l.getD j d := by
  simp only [List.getD_eq_getElem?_getD, List.getElem?_set]
  by_cases h : i = j
  · subst h; simp [hi]
  · simp [h]
theorem getD_snocAr {α : Type} (l : List α) (j : Nat) (x d : α) : (l ++ [x]).getD j d = if j = l.length then x else l.getD j d := by
  simp only [List.getD_eq_getElem?_getD, List.getElem?_append]
  by_cases h : j < l.length
  · simp [h]; omega
  · by_cases h2 : j = l.length
    · subst h2; simp
    · have h3 : l.length < j := by omega
      simp only [h, if_false, h2]
      rw [List.getElem?_eq_none (by simp; omega), List.getElem?_eq_none (by omega)]
theorem count_set (l : List (Nat × Bool)) (i g : Nat) (b : Bool) (hi : i < l.length) : (l.set i (g, b)).countP (·.2) + (if (l.getD i (0, false)).2 then 1 else 0) = l.countP (·.2) + (if b then 1 else 0) := by
  induction l generalizing i with
  | nil => simp at hi
  | cons p r ih =>
    cases i with
    | zero => simp [List.countP_cons]; omega
    | succ i =>
      have := ih i (by simpa using hi)
      simp only [List.set_cons_succ, List.countP_cons, List.getD_cons_succ] at this ⊢
      omega

/-- Take: which slot, with which generation, and what then is. -/
def takeA (A : AS) : Option (Nat × Nat × AS) :=
  match A.waiting.getLast? with
  | some i => some (i, (A.used.getD i (0, false)).1 + 1, ⟨A.cap, A.most, A.used.set i ((A.used.getD i (0, false)).1 + 1, true), A.waiting.dropLast, A.live + 1⟩)
  | none => if A.used.length < A.cap then some (A.used.length, 1, ⟨A.cap, A.most, A.used ++ [(1, true)], A.waiting, A.live + 1⟩) else none
def usableN (A : AS) : Nat := A.waiting.length + (A.cap - A.used.length)

theorem take_cases (A : AS) : (∃ ws i, A.waiting = ws ++ [i] ∧ takeA A = some (i, (A.used.getD i (0, false)).1 + 1, ⟨A.cap, A.most, A.used.set i ((A.used.getD i (0, false)).1 + 1, true), ws, A.live + 1⟩)) ∨
    (A.waiting = [] ∧ A.used.length < A.cap ∧ takeA A = some (A.used.length, 1, ⟨A.cap, A.most, A.used ++ [(1, true)], [], A.live + 1⟩)) ∨ (A.waiting = [] ∧ A.cap ≤ A.used.length ∧ takeA A = none) := by
  rcases List.eq_nil_or_concat A.waiting with h | ⟨ws, i, h⟩
  · by_cases hc : A.used.length < A.cap
    · exact Or.inr (Or.inl ⟨h, hc, by simp [takeA, h, hc]⟩)
    · exact Or.inr (Or.inr ⟨h, by omega, by simp [takeA, h, hc]⟩)
  · rw [List.concat_eq_append] at h
    exact Or.inl ⟨ws, i, h, by simp [takeA, h]⟩

theorem take_fit {A A' : AS} {i g : Nat} (hA : A.Fit) (h : takeA A = some (i, g, A')) : A'.Fit ∧ A'.cap = A.cap ∧ A'.most = A.most ∧ A'.live = A.live + 1 ∧ usableN A = usableN A' + 1 ∧ i < A'.used.length ∧ A'.used.getD i (0, false) = (g, true) ∧ liveB A i g = false ∧ 1 ≤ g := by
  rcases take_cases A with ⟨ws, k, hw, ht⟩ | ⟨hw, hc, ht⟩ | ⟨_, _, ht⟩
  · rw [ht] at h
    simp only [Option.some.injEq, Prod.mk.injEq] at h
    obtain ⟨rfl, rfl, rfl⟩ := h
    have hk := hA.waits k (by rw [hw]; simp)
    have hnd := hA.nodup
    rw [hw] at hnd
    have hnk : k ∉ ws := by
      have := List.nodup_append.1 hnd
      intro hm
      exact this.2.2 k hm k (by simp) rfl
    refine ⟨⟨hA.cap, hA.most, by simpa using hA.used, (List.nodup_append.1 hnd).1, ?_, fun j hj => ?_, fun j hj => ?_, fun j hj h1 h2 => ?_⟩, rfl, rfl, rfl, ?_, by simpa using hk.1, ?_, ?_, by omega⟩
    · have := count_set A.used k ((A.used.getD k (0, false)).1 + 1) true hk.1
      rw [hk.2.1] at this
      have := hA.live
      simp at *
      omega
    · simp only [List.length_set] at hj
      rw [getD_setAr _ _ _ _ _ hk.1]
      split
      · have := hk.2.2
        exact ⟨Nat.le_add_left 1 _, this⟩
      · exact hA.gen j hj
    · have hj' := hA.waits j (by rw [hw]; simp [hj])
      rw [getD_setAr _ _ _ _ _ hk.1, if_neg (show ¬ k = j from fun e => hnk (e ▸ hj))]
      simpa using hj'
    · simp only [List.length_set] at hj
      rw [getD_setAr _ _ _ _ _ hk.1] at h1 h2
      split at h1
      · simp at h1
      · rename_i hne
        rw [if_neg hne] at h2
        have := hA.all j hj h1 h2
        rw [hw] at this
        simp at this
        rcases this with h | h
        · exact h
        · exact absurd h.symm hne
    · simp only [usableN, hw, List.length_set, List.length_append, List.length_cons, List.length_nil]; omega
    · rw [getD_setAr _ _ _ _ _ hk.1, if_pos rfl]
    · simp only [liveB, Int.toNat_natCast, hk.2.1, Bool.and_false]
  · rw [ht] at h
    simp only [Option.some.injEq, Prod.mk.injEq] at h
    obtain ⟨rfl, rfl, rfl⟩ := h
    have hm := hA.most
    refine ⟨⟨hA.cap, hA.most, by simp; omega, by simp, ?_, fun j hj => ?_, fun j hj => by simp at hj, fun j hj h1 h2 => ?_⟩, rfl, rfl, rfl, ?_, by simp, ?_, ?_, by omega⟩
    · have := hA.live
      simp [List.countP_append, this]
    · rw [getD_snocAr]
      split
      · exact ⟨Nat.le_refl _, hm.1⟩
      · exact hA.gen j (by simp at hj; omega)
    · rw [getD_snocAr] at h1 h2
      split at h1
      · simp at h1
      · rename_i hne
        rw [if_neg hne] at h2
        have := hA.all j (by simp at hj; omega) h1 h2
        rw [hw] at this
        simp at this
    · simp only [usableN, hw, List.length_append, List.length_cons, List.length_nil]; omega
    · rw [getD_snocAr, if_pos rfl]
    · simp [liveB, hasBAr]
  · rw [ht] at h; cases h

theorem live_of {A : AS} {i k : Nat} (hi : i < A.used.length) (h : A.used.getD i (0, false) = (k, true)) : liveB A i k = true := by
  simp only [liveB, hasBAr, Int.toNat_natCast, h]
  simp [hi]
end Go.Proofs.YtkcicnflcilekaaGreat
