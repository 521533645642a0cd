/- Merged of SkewNest3, SkewNests, HomeInv, CarryMath. -/
import Derived.Test.YtkcicnflcilekaaGreatSkewNest2
import Derived.Deep.RegionHeld3
import Derived.Test.YtkcicnflcilekaaGreatPqHeld
import Derived.Test.YtkcicnflcilekaaGreatSiftRunsMath
import Derived.Test.YtkcicnflcilekaaGreatAsks
import Derived.Lib.Hide
namespace Go.Proofs.YtkcicnflcilekaaGreat
open Go.RowKit Go.Sort

section
variable {w : World} {p c f t bm n : Nat} {W W' : WS} {s s' : Int} {F F0 : Nat → Prop} {L : List Hg} {Ts : Nat → Tr}
end
def newSkewPost (w : World) (n : Nat) (e : Ending) (w' : World) : Prop := ∃ p c, e = .returned (.tuple #[.pointer (some ⟨p, 0, none⟩), .int .i64 0]) ∧ ∃ F', (Ob.skew p c (newW n) 0 (fun _ => .nil)).holds w' F' ∧ (∀ k, F' k → w.heap.size ≤ k) ∧ Below w.heap.size w w'
theorem knewForest_st {F0 : Nat → Prop} {W0 w : World} {c n : Nat} {W : WS} {s : Int} (h : Stage F0 W0 [Ob.cells c W s] w) (hn : W.cells.length = n) (hn2 : n ≤ 65536) : Calls Tryz.prog 93 #[.pointer (some ⟨c, 0, none⟩)] w fun e w' => ∃ f t, e = .returned (.tuple #[.pointer (some ⟨f, 0, none⟩), .int .i64 0]) ∧ Stage F0 W0 (skForest f c t n W s []) w' := by
  have hC := h.ask 0 rfl (fun _ ho => capacity_cl ho)
  rw [hn] at hC
  have hN := h.newSpine n hn2
  go_enter Tryz.func93, Tryz.ntmps93
  go_wp2_with fail
  refine hC.mono ?_
  rintro e w1 ⟨rfl, rfl⟩
  clear hC
  go_wp2_with fail
  refine hN.mono ?_
  rintro e w1 ⟨t, rfl, hs1⟩
  clear hN h
  have hs2 := hs1.alloc #[ptrV c, ptrV t] 255
  have hs3 : Stage F0 W0 (skForest w1.heap.size c t n W s []) _ := hs2.select [2, 0, 1] (by decide) rfl
  clear hs1 hs2
  go_wp2_with fail
  exact bodyPost_ret (v := .tuple #[.pointer (some ⟨w1.heap.size, 0, none⟩), .int .i64 0]) (by simp [results, Tryz.results93, go_sem]) rfl ⟨_, t, rfl, hs3⟩
set_option maxRecDepth 100000 in
theorem new_sk (n : Nat) (hn : n ≤ 65536) (w : World) : Calls Tryz.prog 70 #[.int .i64 n] w (newSkewPost w n) := by
  have hmm := @run_makeMap Tryz.prog
  have hC := new_cl n hn w
  go_enter Tryz.func70, Tryz.ntmps70
  go_wp2_with fail
  refine hC.mono ?_
  rintro e w1 ⟨c, rfl, F1, h1, h2, h3⟩
  have hs1 : Stage (fun _ => False) w [Ob.cells c (newW n) 0] w1 := (Stage.start w).add (O := Ob.cells c (newW n) 0) h3 h1 h2
  clear hC h1 h2 h3
  have hnl : (newW n).cells.length = n := by simp [newW]
  have hN := knewForest_st hs1 hnl hn
  go_wp2_with fail
  refine hN.mono ?_
  rintro e w2 ⟨f, t, rfl, hs2⟩
  clear hN hs1
  have hs3 := hs2.newZMap Tryz.prog 3 3 rfl
  have hz : (w2.alloc (.map #[] 0)).heap.size = w2.heap.size + 1 := size_alloc _ _
  have hs4 := hs3.alloc #[ptrV c, ptrV f, .map (some w2.heap.size)] 206
  rw [hz] at hs4
  have e1 : topsT (fun _ => Tr.nil) = fun _ => none := by funext h; unfold topsT; split <;> rfl
  have e2 : cntT (fun _ => Tr.nil) = 0 := by
    unfold cntT
    rw [List.countP_eq_zero]
    intro a _
    simp [Tr.top]
  have hs5 : Stage (fun _ => False) w (skParts (w2.heap.size + 1) f c t w2.heap.size n (newW n) 0 [] (fun _ => .nil)) ((w2.alloc (.map #[] 0)).alloc (.cells #[ptrV c, ptrV f, .map (some w2.heap.size)] 206)) := by
    unfold skParts
    rw [e1, e2]
    exact hs4.select [0, 1, 2, 4, 3] (by decide) rfl
  clear hs2 hs3 hs4
  go_wp2_with fail
  obtain ⟨F', g1, g2, g3⟩ := hs5.closeNew
  exact bodyPost_ret (v := .tuple #[.pointer (some ⟨w2.heap.size + 1, 0, none⟩), .int .i64 0]) (by simp [results, Tryz.results70, go_sem]) rfl ⟨_, c, rfl, F', ⟨f, t, w2.heap.size, n, [], tinv_new n, kinv_new, hnl, new_fitW hn, ⟨Int.le_refl _, by omega⟩, g1⟩, g2, g3⟩
end Go.Proofs.YtkcicnflcilekaaGreat

namespace Go.Proofs.YtkcicnflcilekaaGreat
open Go.RowKit Go.Sort

/-- The functions that such a nest's calls enter. -/
def skewF (p c : Nat) : NestFns where
  make := ⟨139, ptrV c⟩
  ins := ⟨280, ptrV p⟩
  min := ⟨282, ptrV p⟩
  steps := ⟨142, ptrV c⟩
  entry := ⟨134, ptrV c⟩
  has := ⟨135, ptrV c⟩
section
variable {w : World} {p c : Nat} {W : WS} {s : Int} {F : Nat → Prop} {Ts : Nat → Tr}
theorem skew_there (h : (Ob.skew p c W s Ts).holds w F) : skewH p c w := by
  obtain ⟨f, t, bm, n, L, _, _, _, _, _, hg⟩ := h
  exact sk_p0 (Ob.group.open hg)
theorem skew_fit (h : (Ob.skew p c W s Ts).holds w F) : W.Fit := by
  obtain ⟨f, t, bm, n, L, _, _, _, h, _, hg⟩ := h; exact h
/-- A call on the cells alone. -/
theorem skew_cells {f : FuncId} {args : Array Value} {v : Value} {W' : WS} (h : (Ob.skew p c W s Ts).holds w F) (hW : ∀ Ts, TInv W Ts → TInv W' Ts) (hl : W'.cells.length = W.cells.length)
    (hc : ∀ G, (Ob.cells c W s).holds w G → Calls Tryz.prog f args w fun e w' => e = .returned v ∧ ∃ G', (Ob.cells c W' s).holds w' G' ∧ Moved G G' w w') :
    Calls Tryz.prog f args w fun e w' => e = .returned v ∧ ∃ F', (Ob.skew p c W' s Ts).holds w' F' ∧ Moved F F' w w' := by
  have hF := (Ob.skew p c W s Ts).lt h
  obtain ⟨f, t, bm, n, L, I, J, hn, hf, _, hg⟩ := h
  have hs := Ob.group.open hg
  refine (hs.call 1 rfl hc).mono ?_
  rintro e w' ⟨rfl, hs1⟩
  have hs2 : Stage F w (skParts p f c t bm n W' s L Ts) w' := hs1
  exact ⟨rfl, skew_close hs2 hF (hW Ts I) J (by rw [hl]; exact hn)⟩
/-- .. that only asks. -/
theorem skew_ask {f : FuncId} {args : Array Value} {v : Value} (h : (Ob.skew p c W s Ts).holds w F) (hc : ∀ G, (Ob.cells c W s).holds w G → Calls Tryz.prog f args w fun e w' => e = .returned v ∧ Below w.heap.size w w') :
    Calls Tryz.prog f args w fun e w' => e = .returned v ∧ Below w.heap.size w w' := by
  obtain ⟨f, t, bm, n, L, I, J, hn, hf, _, hg⟩ := h
  obtain ⟨G, ho⟩ := (Ob.group.open hg).get (i := 1) rfl
  exact hc G ho
theorem ksame_below {f : FuncId} {args : Array Value} {v : Value} (h : Calls Tryz.prog f args w fun e w' => e = .returned v ∧ w = w') : Calls Tryz.prog f args w fun e w' => e = .returned v ∧ Below w.heap.size w w' := h.mono fun _ _ ⟨h1, h2⟩ => ⟨h1, by subst h2; exact Below.refl _ _⟩
end
abbrev ktoMeter : FieldStep := { struct := 226, index := 0, deref := true }
theorem kload_cells {p c : Nat} {w : World} (h : skewH p c w) : (loadVar 166 ⟨p, 0, none⟩).run Tryz.prog w = .ok (ptrV c) w := by
  unfold skewH at h
  go_simp
/-- A method of the cells, by the nest. -/
theorem km_prom {n : String} {f : FuncId} {p c : Nat} {w : World} (h : skewH p c w) (e : (method 470 143 (ptrV p) n).run Tryz.prog w = (do let v ← loadVar 166 ⟨p, 0, none⟩; pure (f, v) : Sem (FuncId × Value)).run Tryz.prog w) : (method 470 143 (ptrV p) n).run Tryz.prog w = .ok (f, ptrV c) w := by
  rw [e, Sem.run_bind, kload_cells h]
  rfl
set_option maxRecDepth 100000 in
theorem km_steps {p c : Nat} {w : World} (h : skewH p c w) : (method 470 143 (ptrV p) "Steps").run Tryz.prog w = .ok (142, ptrV c) w := by
  have e : (method 470 143 (ptrV p) "Steps").run Tryz.prog w = (do let x ← follow [ktoMeter] 166 (.var ⟨p, 0, none⟩); let r ← receiverAt x.1 x.2 true none; pure (142, r) : Sem (FuncId × Value)).run Tryz.prog w := by kernel_rfl
  have e1 : (follow [ktoMeter] 166 (.var ⟨p, 0, none⟩)).run Tryz.prog w = (do let v ← loadVar 166 ⟨p, 0, none⟩; follow [ktoMeter] 166 (.val v)).run Tryz.prog w := by kernel_rfl
  have e2 : (follow [ktoMeter] 166 (.val (ptrV c))).run Tryz.prog w = .ok (224, .var ⟨c, 0, none⟩) w := by kernel_rfl
  have e3 : (follow [ktoMeter] 166 (.var ⟨p, 0, none⟩)).run Tryz.prog w = .ok (224, .var ⟨c, 0, none⟩) w := by
    rw [e1, Sem.run_bind, kload_cells h, Result.andThen_ok]
    exact e2
  have e4 : (do let r ← receiverAt 224 (.var ⟨c, 0, none⟩) true none; pure (142, r) : Sem (FuncId × Value)).run Tryz.prog w = .ok (142, ptrV c) w := by kernel_rfl
  rw [e, Sem.run_bind, e3, Result.andThen_ok]
  exact e4
theorem skew_nests (p c : Nat) : Nests (fun W (g : KG) => Ob.skew p c W g.1 g.2) Prod.fst (skewH p c) 143 (ptrV p) (skewF p c) where
  there := skew_there
  fit h := skew_fit h
  entry x h := skew_ask h fun _ ho => entry_cl x ho
  has y h := skew_ask h fun _ ho => ksame_below (has_cl y ho)
  steps h := skew_ask h fun _ ho => ksame_below (steps_cl ho)
  make {W g w F} h := (skew_cells h (W' := makeW W) (fun _ I => I.congr (by unfold makeW; split <;> rfl)) (by unfold makeW; split <;> rfl) fun _ ho => make_cl ho).mono fun e w' ⟨h1, h2⟩ => ⟨h1, g, h2⟩
  ins {W g w F} y x k q _ _ h := (insert_sk y x k q h).mono fun e w' ⟨h1, h4⟩ => ⟨h1, skIns W y x k q g, h4⟩
  min {W g w F} y hy h := (min_sk y hy h).mono fun e w' ⟨h1, h2⟩ => ⟨h1, g, F, by subst h2; exact ⟨h, Moved.refl _ _⟩⟩
  mMake := ⟨fun w h => km_prom h (by kernel_rfl), fun _ _ => by kernel_rfl⟩
  mIns := ⟨fun _ _ => by kernel_rfl, fun _ _ => by kernel_rfl⟩
  mMin := ⟨fun _ _ => by kernel_rfl, fun _ _ => by kernel_rfl⟩
  mSteps := ⟨fun w h => km_steps h, fun _ _ => by kernel_rfl⟩
  mEntry := ⟨fun w h => km_prom h (by kernel_rfl), fun _ _ => by kernel_rfl⟩
  mHas := ⟨fun w h => km_prom h (by kernel_rfl), fun _ _ => by kernel_rfl⟩
end Go.Proofs.YtkcicnflcilekaaGreat

namespace Go.Proofs.YtkcicnflcilekaaGreat

/-- The lists Ss are those of the slots of the nest W. -/
structure HomeInv (W : WS) (Ss : Nat → List Int) : Prop where
  mem : ∀ h x, 1 ≤ h → (x ∈ Ss h ↔ (cellW W x).home = h)
  zero : Ss 0 = []
  nodup : ∀ h, (Ss h).Nodup
/-- What isn't ahead of what isn't ahead. -/
theorem hm_neg {W : WS} {x y z : Int} (hx : inW W x = true) (hy : inW W y = true) (h1 : aheadW W x y = false) (h2 : aheadW W y z = false) : aheadW W x z = false := by
  cases h : aheadW W x z with
  | false => rfl
  | true =>
    by_cases e : x = y
    · subst e; rw [h2] at h; cases h
    · have h3 := dahead_trans (dahead_total hx hy e h1) h
      rw [h2] at h3; cases h3
theorem hm_asym {W : WS} {x y : Int} (h : aheadW W x y = true) : aheadW W y x = false := by
  cases h2 : aheadW W y x with
  | false => rfl
  | true => have := dahead_trans h h2; rw [dahead_irr] at this; cases this
section
variable {W : WS} {Ss : Nat → List Int}
theorem HomeInv.in' (I : HomeInv W Ss) {h : Nat} {x : Int} (hx : x ∈ Ss h) : 1 ≤ h ∧ (cellW W x).home = h ∧ inW W x = true ∧ ∃ k : Nat, x = k ∧ k < W.cells.length ∧ homeAt W k = h := by
  by_cases e : h = 0
  · subst e; rw [I.zero] at hx; cases hx
  · have h1 := (I.mem h x (by omega)).1 hx
    obtain ⟨k, h2, h3, h4, h5⟩ := dcell_in (by omega) h1
    exact ⟨by omega, h1, h5, k, h2, h3, h4⟩
theorem HomeInv.one (I : HomeInv W Ss) {g h : Nat} {x : Int} (h1 : x ∈ Ss g) (h2 : x ∈ Ss h) : g = h := by
  rw [← (I.in' h1).2.1, (I.in' h2).2.1]
theorem HomeInv.home (I : HomeInv W Ss) {x : Int} (h : inW W x = true) : 1 ≤ (cellW W x).home ∧ x ∈ Ss (cellW W x).home := by
  have h1 : 1 ≤ (cellW W x).home := by
    unfold inW at h
    have : (cellW W x).home ≠ 0 := by simpa using h
    omega
  exact ⟨h1, (I.mem _ x h1).2 rfl⟩
theorem HomeInv.size (I : HomeInv W Ss) (h : Nat) (hp : 1 ≤ h) : (Ss h).length = lenW W h := by
  have hl : lenW W h = ((List.range W.cells.length).filter fun x => homeAt W x == h).length := by
    unfold lenW
    rw [if_pos (by omega), ← List.countP_eq_length_filter]
    have e : W.cells = (List.range W.cells.length).map fun x => W.cells.getD x .off := by
      apply List.ext_getElem
      · simp
      · intro n h1 h2
        simp [List.getD_eq_getElem?_getD, h1]
    conv => lhs; rw [e]
    rw [List.countP_map]
    refine List.countP_congr fun x _ => ?_
    simp only [Function.comp, homeAt, beq_iff_eq]
    omega
  rw [hl, ← List.length_map (f := fun i : Nat => (i : Int))]
  refine List.Perm.length_eq ((List.perm_ext_iff_of_nodup (I.nodup h) ?_).2 fun x => ?_)
  · rw [List.nodup_iff_pairwise_ne, List.pairwise_map]
    exact (List.nodup_range.filter _).imp (fun h e => h (by omega))
  · rw [List.mem_map]
    constructor
    · intro hx
      obtain ⟨_, _, _, k, h2, h3, h4⟩ := I.in' hx
      exact ⟨k, by rw [List.mem_filter, List.mem_range]; exact ⟨h3, by simp [h4]⟩, h2.symm⟩
    · rintro ⟨k, hk, rfl⟩
      rw [List.mem_filter, List.mem_range] at hk
      rw [I.mem h _ hp, cell_nat W k hk.1]
      have := hk.2
      simp only [beq_iff_eq] at this
      exact this
theorem HomeInv.empty (I : HomeInv W Ss) {h : Nat} (hp : 1 ≤ h) : Ss h = [] ↔ lenW W h = 0 := by
  rw [← I.size h hp]; exact List.length_eq_zero_iff.symm
/-- Only heaps that are there have slots. -/
theorem HomeInv.has (I : HomeInv W Ss) (hf : W.Fit) {h : Nat} (hn : Ss h ≠ []) : hasW W h = true := by
  obtain ⟨x, hx⟩ := List.exists_mem_of_ne_nil _ hn
  obtain ⟨h1, _, h3, k, h4, h5, h6⟩ := I.in' hx
  have h7 := hf.home k h5
  have e : (W.cells.getD k .off).home = h := h6
  rw [e] at h7
  rcases h7 with h7 | h7
  · omega
  · exact h7
theorem HomeInv.keyLt (I : HomeInv W Ss) (hf : W.Fit) {h : Nat} (hn : Ss h ≠ []) : 1 ≤ h ∧ h < 65537 := by
  obtain ⟨i, hi, h1, hl, _⟩ := has_nat (I.has hf hn)
  have := hf.len
  omega
/-- One that no other is ahead of is ahead of all others. -/
theorem HomeInv.min (I : HomeInv W Ss) {h : Nat} {x : Int} (hx : x ∈ Ss h) (hle : ∀ y ∈ Ss h, aheadW W y x = false) : ∃ k : Nat, x = k ∧ IsMin W h k := by
  obtain ⟨h1, _, hin2, k, h2, h3, h4⟩ := I.in' hx
  refine ⟨k, h2, ⟨h3, by omega, by omega, fun j hj hh hne => ?_⟩⟩
  have hm : (j : Int) ∈ Ss h := (I.mem h j h1).2 (by rw [cell_nat W j hj]; show homeAt W j = h; omega)
  have h7 := dahead_total (I.in' hm).2.2.1 hin2 (fun e2 : (j : Int) = x => hne (by omega)) (hle j hm)
  rw [h2] at h7
  exact h7
theorem homes_new (n : Nat) : HomeInv (newW n) (fun _ => []) := by
  refine ⟨fun h x hp => ?_, rfl, fun _ => List.nodup_nil⟩
  simp only [List.not_mem_nil, false_iff]
  intro e
  obtain ⟨k, _, h3, h4, _⟩ := dcell_in hp e
  simp only [newW, List.length_replicate] at h3
  simp [homeAt, newW, List.getD_eq_getElem?_getD, h3, CellD.off] at h4
  omega
theorem HomeInv.congr {W' : WS} (I : HomeInv W Ss) (h1 : W'.cells = W.cells) : HomeInv W' Ss :=
  ⟨fun h x hp => by rw [dcells_eq h1]; exact I.mem h x hp, I.zero, I.nodup⟩
theorem HomeInv.perm {Ss' : Nat → List Int} (I : HomeInv W Ss) (h : ∀ g, (Ss' g).Perm (Ss g)) : HomeInv W Ss' :=
  ⟨fun g x hg => by rw [(h g).mem_iff]; exact I.mem g x hg, by have := h 0; rw [I.zero] at this; exact this.eq_nil, fun g => (h g).nodup_iff.2 (I.nodup g)⟩
/-- One slot comes in. -/
theorem homes_put (I : HomeInv W Ss) {h : Nat} {x k s : Int} (hp : putB W h x = true) (h1 : 1 ≤ h) :
    (∀ g, x ∉ Ss g) ∧ inW W x = false ∧ inW (putW W h x k s) x = true ∧ (∀ y, y ≠ x → cellW (putW W h x k s) y = cellW W y) ∧
    ∀ T : Nat → List Int, (T h).Perm (x :: Ss h) → (∀ g, g ≠ h → (T g).Perm (Ss g)) → HomeInv (putW W h x k s) T := by
  have hp' := hp
  simp only [putB, Bool.and_eq_true, Bool.not_eq_true'] at hp
  obtain ⟨_, h2, h3⟩ := hp
  obtain ⟨x', e, hx⟩ := slot_nat h2
  subst e
  have h0 : (cellW W x').home = 0 := by unfold inW at h3; simpa using h3
  have e1 : putW W h x' k s = ⟨W.heaps, W.cells.set x' ⟨h, k, s⟩⟩ := by simp [putW, hp']
  have hc : ∀ y, cellW (putW W h x' k s) y = if y = (x' : Int) then ⟨h, k, s⟩ else cellW W y := fun y => by rw [e1]; exact dcell_set W hx _ y
  have hnot : ∀ g, (x' : Int) ∉ Ss g := fun g hm => by
    have := I.in' hm
    omega
  refine ⟨hnot, h3, ?_, fun y hy => by rw [hc, if_neg hy], fun T Pm Po => ⟨fun g y hg => ?_, ?_, fun g => ?_⟩⟩
  · unfold inW; rw [hc, if_pos rfl]; exact bne_iff_ne.2 (by show h ≠ 0; omega)
  · rw [hc]
    by_cases e : g = h
    · subst e
      rw [Pm.mem_iff, List.mem_cons, I.mem g y hg]
      by_cases e2 : y = x'
      · rw [if_pos e2]; simp [e2]
      · rw [if_neg e2]; simp [e2]
    · rw [(Po g e).mem_iff, I.mem g y hg]
      by_cases e2 : y = x'
      · rw [if_pos e2, e2, h0]; constructor
        · intro h; omega
        · intro h5; exact absurd h5.symm e
      · rw [if_neg e2]
  · have := Po 0 (by omega); rw [I.zero] at this; exact this.eq_nil
  · by_cases e : g = h
    · rw [e, Pm.nodup_iff]; exact List.nodup_cons.2 ⟨hnot h, I.nodup h⟩
    · rw [(Po g e).nodup_iff]; exact I.nodup g
end
end Go.Proofs.YtkcicnflcilekaaGreat

namespace Go.Proofs.YtkcicnflcilekaaGreat

def inC (n : Nat) (x : Int) : Prop := 0 ≤ x ∧ x < n
/-- Each thing hangs once, and each is a cube: its i-th child has i children. -/
structure CInv (n : Nat) (K : Int → List Int) : Prop where
  rng : ∀ p x, x ∈ K p → inC n p ∧ inC n x
  one : ∀ p q x, x ∈ K p → x ∈ K q → p = q
  nodup : ∀ p, (K p).Nodup
  cube : ∀ p (i : Nat) k, (K p)[i]? = some k → (K k).length = i
def topK (K : Int → List Int) (x : Int) : Prop := ∀ p, x ∉ K p
/-- All of a tree, so many levels of it. -/
def allK (K : Int → List Int) : Nat → Int → List Int
  | 0, _ => []
  | k + 1, x => x :: (K x).flatMap (allK K k)
section
variable {n : Nat} {K : Int → List Int}
theorem CInv.less (I : CInv n K) {p x : Int} (h : x ∈ K p) : (K x).length < (K p).length := by
  obtain ⟨i, hi, e⟩ := List.getElem_of_mem h
  have := I.cube p i x (by rw [List.getElem?_eq_getElem hi, e])
  omega
theorem all_fuelK (I : CInv n K) : ∀ (k j : Nat) (x : Int), (K x).length < k → (K x).length < j → allK K k x = allK K j x
  | 0, _, _, h, _ => by omega
  | k + 1, 0, _, _, h => by omega
  | k + 1, j + 1, x, h1, h2 => by
    have : (K x).flatMap (allK K k) = (K x).flatMap (allK K j) := by
      unfold List.flatMap
      congr 1
      apply List.map_congr_left
      intro c hc
      have := I.less hc
      exact all_fuelK I k j c (by omega) (by omega)
    rw [allK, allK, this]
def treeK (K : Int → List Int) (x : Int) : List Int := allK K ((K x).length + 1) x
theorem tree_eq (I : CInv n K) (x : Int) : treeK K x = x :: (K x).flatMap (treeK K) := by
  unfold treeK
  rw [allK]
  congr 1
  unfold List.flatMap
  congr 1
  apply List.map_congr_left
  intro c hc
  have := I.less hc
  exact all_fuelK I _ _ c (by omega) (by omega)
/-- By how many children there are: what holds of all children, holds. -/
theorem CInv.ind (I : CInv n K) {P : Int → Prop} (h : ∀ x, (∀ c ∈ K x, P c) → P x) (x : Int) : P x := by
  have hgo : ∀ (k : Nat) (x : Int), (K x).length ≤ k → P x := by
    intro k
    induction k with
    | zero => intro x hx; exact h x fun c hc => by (have e : K x = [] := List.eq_nil_of_length_eq_zero (by omega)); rw [e] at hc; cases hc
    | succ k ih => intro x hx; exact h x fun c hc => ih c (by have := I.less hc; omega)
  exact hgo _ x (Nat.le_refl _)
theorem sum_pow (k : Nat) : ((List.range k).map fun i => 2 ^ i).sum + 1 = 2 ^ k := by
  induction k with
  | zero => rfl
  | succ k ih => rw [List.range_succ, List.map_append, List.sum_append, Nat.pow_succ]; simp; omega
/-- A cube of k children has 2^k things. -/
theorem tree_size (I : CInv n K) (x : Int) : (treeK K x).length = 2 ^ (K x).length := by
  refine I.ind (P := fun x => (treeK K x).length = 2 ^ (K x).length) (fun x ih => ?_) x
  rw [tree_eq I, List.length_cons, List.length_flatMap]
  have e : (K x).map (fun a => (treeK K a).length) = (List.range (K x).length).map fun i => 2 ^ i := by
    apply List.ext_getElem?
    intro i
    rw [List.getElem?_map, List.getElem?_map]
    by_cases hi : i < (K x).length
    · rw [List.getElem?_eq_getElem hi, List.getElem?_range hi]
      simp only [Option.map_some]
      rw [ih _ (List.getElem_mem hi), I.cube x i _ (List.getElem?_eq_getElem hi)]
    · rw [List.getElem?_eq_none (by omega), List.getElem?_eq_none (by simp; omega)]; rfl
  rw [e, sum_pow]
theorem mem_treeK (I : CInv n K) {x y : Int} : y ∈ treeK K x ↔ y = x ∨ ∃ c ∈ K x, y ∈ treeK K c := by
  rw [tree_eq I, List.mem_cons, List.mem_flatMap]
theorem tree_self (I : CInv n K) (x : Int) : x ∈ treeK K x := (mem_treeK I).2 (Or.inl rfl)
/-- What is in a tree, but its top, hangs below something of it. -/
theorem tree_up (I : CInv n K) {x y : Int} (h : y ∈ treeK K x) (hne : y ≠ x) : ∃ p ∈ treeK K x, y ∈ K p := by
  revert h hne
  refine I.ind (P := fun x => y ∈ treeK K x → y ≠ x → ∃ p ∈ treeK K x, y ∈ K p) (fun x ih h hne => ?_) x
  rcases (mem_treeK I).1 h with e | ⟨c, hc, hy⟩
  · exact absurd e hne
  · by_cases e : y = c
    · subst e; exact ⟨x, tree_self I x, hc⟩
    · obtain ⟨p, h1, h2⟩ := ih c hc hy e
      exact ⟨p, (mem_treeK I).2 (Or.inr ⟨c, hc, h1⟩), h2⟩
theorem tree_deg (I : CInv n K) {x y : Int} (h : y ∈ treeK K x) : (K y).length ≤ (K x).length := by
  revert h
  refine I.ind (P := fun x => y ∈ treeK K x → (K y).length ≤ (K x).length) (fun x ih h => ?_) x
  rcases (mem_treeK I).1 h with e | ⟨c, hc, hp⟩
  · rw [e]; exact Nat.le_refl _
  · have := ih c hc hp; have := I.less hc; omega
/-- Two trees that share a thing: one is within the other one. -/
theorem tree_nest (I : CInv n K) {a b y : Int} (ha : y ∈ treeK K a) (hb : y ∈ treeK K b) : a ∈ treeK K b ∨ b ∈ treeK K a := by
  have hgo : ∀ (k : Nat) (y : Int), (K a).length + (K b).length - (K y).length ≤ k → y ∈ treeK K a → y ∈ treeK K b → a ∈ treeK K b ∨ b ∈ treeK K a := by
    intro k
    induction k with
    | zero =>
      intro y hk h1 h2
      have := tree_deg I h1; have := tree_deg I h2
      by_cases e : y = a
      · subst e; exact Or.inl h2
      · obtain ⟨p, hp, hy⟩ := tree_up I h1 e
        have := I.less hy; have := tree_deg I hp; omega
    | succ k ih =>
      intro y hk h1 h2
      by_cases e : y = a
      · subst e; exact Or.inl h2
      · by_cases e2 : y = b
        · subst e2; exact Or.inr h1
        · obtain ⟨p, hp, hy⟩ := tree_up I h1 e
          obtain ⟨q, hq, hy2⟩ := tree_up I h2 e2
          have := I.one p q y hy hy2
          subst this
          have := I.less hy
          have := tree_deg I hp
          exact ih p (by omega) hp hq
  exact hgo _ y (Nat.le_refl _) ha hb
theorem top_in (I : CInv n K) {a b : Int} (ha : topK K a) (h : a ∈ treeK K b) : a = b := by
  by_cases e : a = b
  · exact e
  · obtain ⟨p, _, hp⟩ := tree_up I h e
    exact absurd hp (ha p)
theorem tree_nodup (I : CInv n K) (x : Int) : (treeK K x).Nodup := by
  refine I.ind (P := fun x => (treeK K x).Nodup) (fun x ih => ?_) x
  rw [tree_eq I, List.nodup_cons]
  refine ⟨fun h => ?_, ?_⟩
  · obtain ⟨c, hc, hx⟩ := List.mem_flatMap.1 h
    have := tree_deg I hx; have := I.less hc; omega
  · have hgo : ∀ l : List Int, (∀ c ∈ l, c ∈ K x) → l.Nodup → (l.flatMap (treeK K)).Nodup := by
      intro l
      induction l with
      | nil => intro _ _; exact List.nodup_nil
      | cons c l ih2 =>
        intro h1 h2
        obtain ⟨h3, h4⟩ := List.nodup_cons.1 h2
        rw [List.flatMap_cons, List.nodup_append]
        refine ⟨ih c (h1 c (by simp)), ih2 (fun a ha => h1 a (by simp [ha])) h4, fun a ha b hb e => ?_⟩
        subst e
        obtain ⟨c2, hc2, hb⟩ := List.mem_flatMap.1 hb
        have hne : c ≠ c2 := fun e => h3 (e ▸ hc2)
        rcases tree_nest I ha hb with h | h
        · obtain ⟨q, hq, hy⟩ := tree_up I h hne
          have := I.one x q c (h1 c (by simp)) hy
          subst this
          have := tree_deg I hq; have := I.less (h1 c2 (by simp [hc2])); omega
        · obtain ⟨q, hq, hy⟩ := tree_up I h (fun e => hne e.symm)
          have := I.one x q c2 (h1 c2 (by simp [hc2])) hy
          subst this
          have := tree_deg I hq; have := I.less (h1 c (by simp)); omega
    exact hgo (K x) (fun _ h => h) (I.nodup x)
theorem tree_in (I : CInv n K) {x y : Int} (hx : inC n x) (h : y ∈ treeK K x) : inC n y := by
  by_cases e : y = x
  · subst e; exact hx
  · obtain ⟨p, _, hp⟩ := tree_up I h e
    exact (I.rng p y hp).2
/-- What differs elsewhere alone leaves a tree as it is. -/
theorem tree_congr {K' : Int → List Int} (I : CInv n K) (I' : CInv n K') {x : Int} (h : ∀ y ∈ treeK K x, K' y = K y) : treeK K' x = treeK K x := by
  revert h
  refine I.ind (P := fun x => (∀ y ∈ treeK K x, K' y = K y) → treeK K' x = treeK K x) (fun x ih h => ?_) x
  rw [tree_eq I, tree_eq I', h x (tree_self I x)]
  congr 1
  unfold List.flatMap
  congr 1
  apply List.map_congr_left
  intro c hc
  exact ih c hc fun y hy => h y ((mem_treeK I).2 (Or.inr ⟨c, hc, hy⟩))
/-! ### link -/
def linkK (K : Int → List Int) (a b : Int) : Int → List Int := fun z => if z = a then K a ++ [b] else K z
theorem mem_link {a b p x : Int} : x ∈ linkK K a b p ↔ x ∈ K p ∨ p = a ∧ x = b := by
  unfold linkK
  by_cases h : p = a
  · rw [if_pos h, h]; simp
  · rw [if_neg h]; simp [h]
theorem link_inv (I : CInv n K) {a b : Int} (ha : inC n a) (hb : inC n b) (ta : topK K a) (tb : topK K b) (hne : a ≠ b) (hd : (K a).length = (K b).length) : CInv n (linkK K a b) := by
  refine ⟨fun p x h => ?_, fun p q x h1 h2 => ?_, fun p => ?_, fun p i k h => ?_⟩
  · rcases mem_link.1 h with h | ⟨rfl, rfl⟩
    · exact I.rng p x h
    · exact ⟨ha, hb⟩
  · rcases mem_link.1 h1 with h3 | ⟨e1, e2⟩ <;> rcases mem_link.1 h2 with h4 | ⟨e3, e4⟩
    · exact I.one p q x h3 h4
    · rw [e4] at h3; exact absurd h3 (tb p)
    · rw [e2] at h4; exact absurd h4 (tb q)
    · rw [e1, e3]
  · unfold linkK
    split
    · rw [List.nodup_append]
      exact ⟨I.nodup a, by simp, fun x hx y hy e => tb a (by rw [List.mem_singleton.1 hy] at e; rw [← e]; exact hx)⟩
    · exact I.nodup p
  · have hka : k ≠ a := fun e => by
      subst e
      have := List.mem_of_getElem? h
      rcases mem_link.1 this with h | ⟨_, e⟩
      · exact ta p h
      · exact hne e
    have e1 : linkK K a b k = K k := by unfold linkK; rw [if_neg hka]
    rw [e1]
    unfold linkK at h
    split at h
    · rw [List.getElem?_append] at h
      split at h
      · exact I.cube a i k h
      · rename_i hlt
        have h2 := List.mem_of_getElem? h
        rw [List.mem_singleton] at h2
        have h3 : i - (K a).length < 1 := by
          have := (List.getElem?_eq_some_iff.1 h).1; simpa using this
        subst h2
        omega
    · exact I.cube p i k h
/-- A tree, linked below another one: both together. -/
theorem link_tree (I : CInv n K) {a b : Int} (ha : inC n a) (hb : inC n b) (ta : topK K a) (tb : topK K b) (hne : a ≠ b) (hd : (K a).length = (K b).length) :
    treeK (linkK K a b) a = treeK K a ++ treeK K b ∧ ∀ c, topK K c → c ≠ a → treeK (linkK K a b) c = treeK K c := by
  have I' := link_inv I ha hb ta tb hne hd
  have hoff : ∀ c, a ∉ treeK K c → treeK (linkK K a b) c = treeK K c := fun c hc => tree_congr I I' fun y hy => by
    unfold linkK; rw [if_neg (fun e : y = a => hc (by rw [← e]; exact hy))]
  refine ⟨?_, fun c _ hca => hoff c fun h => hca (top_in I ta h).symm⟩
  rw [tree_eq I', tree_eq I a]
  have e : linkK K a b a = K a ++ [b] := by unfold linkK; rw [if_pos rfl]
  rw [e, List.flatMap_append]
  have e2 : (K a).flatMap (treeK (linkK K a b)) = (K a).flatMap (treeK K) := by
    unfold List.flatMap
    congr 1
    apply List.map_congr_left
    intro c hc
    exact hoff c fun h => by have := tree_deg I h; have := I.less hc; omega
  rw [e2, List.flatMap_cons, List.flatMap_nil, List.append_nil, hoff b (fun h => hne (top_in I ta h))]
  rfl
theorem top_link {a b x : Int} : topK (linkK K a b) x ↔ topK K x ∧ x ≠ b := by
  constructor
  · intro h
    exact ⟨fun p hp => h p (mem_link.2 (Or.inl hp)), fun e => h a (mem_link.2 (Or.inr ⟨rfl, e⟩))⟩
  · rintro ⟨h1, h2⟩ p hp
    rcases mem_link.1 hp with h | ⟨_, e⟩
    · exact h1 p h
    · exact h2 e
/-! ### split -/
end
end Go.Proofs.YtkcicnflcilekaaGreat
