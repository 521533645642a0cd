/- Merged of FiNest5, FiNests, Gauge, PqOpen, PqNew. -/
import Derived.Test.YtkcicnflcilekaaGreatRepeatN
import Derived.Test.YtkcicnflcilekaaGreatArenaMath
import Derived.Test.YtkcicnflcilekaaGreatSiftRunsMath
import Derived.Test.YtkcicnflcilekaaGreatChecked
import Derived.WalkLawsBesides
import Derived.WalkSpells
import Derived.IntWalk
import Derived.Test.YtkcicnflcilekaaGreatPqHeld
import Derived.Test.YtkcicnflcilekaaGreatSpineAllMath
import Derived.Test.YtkcicnflcilekaaGreatSkewPotMath
import Derived.Test.YtkcicnflcilekaaGreatCarryMath
import Derived.Test.YtkcicnflcilekaaGreatPrTie
import Derived.Test.YtkcicnflcilekaaGreatPrNests
namespace Go.Proofs.YtkcicnflcilekaaGreat
open Go.RowKit Go.Sort

theorem newForest_fb {F0 : Nat → Prop} {W0 w : World} {c n : Nat} {W : WS} {s : Int} (h : Stage F0 W0 [Ob.cells c W s] w) (hn : W.cells.length = n) (hn2 : n ≤ 65536) : Calls Tryz.prog 91 #[.pointer (some ⟨c, 0, none⟩)] w fun e w' => ∃ f rp v, e = .returned (.tuple #[.pointer (some ⟨f, 0, none⟩), .int .i64 0]) ∧ Stage F0 W0 (fbF f c rp v n W s (fun _ => .no) (newS n)) w' := by
  have hC := h.ask 0 rfl (fun _ ho => capacity_cl ho)
  rw [hn] at hC
  have hR := h.newRing n hn2
  go_enter Tryz.func91, Tryz.ntmps91
  go_wp2_with fail
  refine hC.mono ?_
  rintro e w1 ⟨rfl, rfl⟩
  clear hC
  go_wp2_with fail
  refine hR.mono ?_
  rintro e w1 ⟨rp, rfl, hs1⟩
  clear hR h
  obtain ⟨w2, hw2, h2⟩ : ∃ w2, w1.alloc (.cells #[.int .i64 (-1), .int .i64 (-1), .int .i64 0, .bool false] 246) = w2 ∧ Stage F0 W0 [Ob.box w1.heap.size #[.int .i64 (-1), .int .i64 (-1), .int .i64 0, .bool false] 246, Ob.cells c W s, Ob.ring rp n (newS n)] w2 := ⟨_, rfl, (hs1.alloc _ _).select [2, 0, 1] (by decide) rfl⟩
  have hC := h2.ask 1 rfl (fun _ ho => capacity_cl ho)
  rw [hn] at hC
  have hN := repeat_st_nd h2 n hn2
  clear hs1 h2
  go_wp2_with fail
  refine hC.mono ?_
  rintro e w3 ⟨rfl, rfl⟩
  clear hC
  go_wp2_with fail
  refine hN.mono ?_
  rintro e w3 ⟨g, rfl, hs2⟩
  clear hN hw2
  have hs3 := hs2.alloc #[ptrV c, ptrV rp, .slice (some ⟨g, 0, none⟩) n n] 248
  have hs4 : Stage F0 W0 (fbF w3.heap.size c rp (.slice (some ⟨g, 0, none⟩) n n) n W s (fun _ => .no) (newS n)) _ := hs3.select [4, 1, 3, 2] (by decide) rfl
  clear hs2 hs3
  go_wp2_with fail
  exact bodyPost_ret (v := .tuple #[.pointer (some ⟨w3.heap.size, 0, none⟩), .int .i64 0]) (by simp [results, Tryz.results91, go_sem]) rfl ⟨_, rp, _, rfl, hs4⟩
theorem new_single (n : Nat) {x : Int} (hx : inB n x) : allRRg (newS n).R x = [x] := by
  obtain ⟨s, e1, e2, e3, _⟩ := (new_rings n).all hx
  show allRRg ((List.range n).map fun i : Nat => [(i : Int)]) x = [x]
  rw [e1, self_ring e2 e3 rfl]
theorem fiok_new (n : Nat) (hn : n ≤ 65536) : FiOk n (newW n) (fun _ => []) (fun _ => []) (fun _ => .no) (newS n) (fun _ => 0) := by
  have hin : ∀ x, inW (newW n) x = false := fun x => by
    cases e : inW (newW n) x with
    | false => rfl
    | true =>
      have := ((homes_new n).home e).2
      cases this
  refine ⟨by simp [newW], ⟨⟨⟨fun _ _ h => (by cases h), fun _ _ _ h => (by cases h), fun _ => List.nodup_nil, fun _ => 0, fun _ _ h => (by cases h)⟩, fun _ _ h => (by cases h)⟩, fun x h => (by rw [hin] at h; cases h), fun _ _ h => (by cases h), fun _ => List.nodup_nil, fun _ h => h.elim⟩, ⟨good_new n hn, fun _ _ h => (by cases h), fun _ _ _ => rfl, fun _ _ => Or.inl ⟨rfl, rfl⟩, fun _ _ => rfl, fun _ _ h => (by cases h), fun _ _ h => (by cases h), fun x hx _ _ => new_single n hx⟩, ⟨fun _ => 0, FiDeg.none _ (fun _ => rfl) _ _⟩, fun _ h => absurd rfl h⟩
/-- What there is to tell of a new one. -/
def fiG0 : FiG := ⟨0, fun _ => [], fun _ => [], fun _ => .no⟩
def newFibPost (w : World) (n : Nat) (e : Ending) (w' : World) : Prop := ∃ p c, e = .returned (.tuple #[.pointer (some ⟨p, 0, none⟩), .int .i64 0]) ∧ ∃ F', (Ob.fibn p c (newW n) fiG0).holds w' F' ∧ (∀ k, F' k → w.heap.size ≤ k) ∧ Below w.heap.size w w'
theorem trF_new (z : Nat → Int) : trF z (lenR fun _ => []) = fun _ => none := by
  funext h; unfold trF lenR
  exact if_neg (fun e => e.2 rfl)
set_option maxRecDepth 100000 in
theorem new_fib (n : Nat) (hn : n ≤ 65536) (w : World) : Calls Tryz.prog 66 #[.int .i64 n] w (newFibPost w n) := by
  have hmm := @run_makeMap Tryz.prog
  have hC := new_cl n hn w
  go_enter Tryz.func66, Tryz.ntmps66
  go_wp2_with fail
  refine hC.mono ?_
  rintro e w1 ⟨c, rfl, F1, h1, h2, h3⟩
  have hs1 : Stage (fun _ => False) w [Ob.cells c (newW n) 0] w1 := (Stage.start w).add (O := Ob.cells c (newW n) 0) h3 h1 h2
  clear hC h1 h2 h3
  have hnl : (newW n).cells.length = n := by simp [newW]
  have hN := newForest_fb hs1 hnl hn
  go_wp2_with fail
  refine hN.mono ?_
  rintro e w2 ⟨f, rp, v, rfl, hs2⟩
  clear hN hs1
  have hs3 := hs2.newTMap Tryz.prog 3 65537 (b := w2.heap.size) rfl
  have hz : (w2.alloc (.map #[] 0)).heap.size = w2.heap.size + 1 := size_alloc _ _
  have hs4 := hs3.alloc #[ptrV c, ptrV f, .map (some w2.heap.size)] 194
  rw [hz, ← trF_new (fun _ => 0)] at hs4
  have hs5 : Stage (fun _ => False) w (fbN (w2.heap.size + 1) f c rp w2.heap.size v n (newW n) 0 (fun _ => .no) (newS n) (fun _ => 0) (lenR fun _ => [])) ((w2.alloc (.map #[] 0)).alloc (.cells #[ptrV c, ptrV f, .map (some w2.heap.size)] 194)) := hs4.select [0, 1, 2, 3, 5, 4] (by decide) rfl
  clear hs2 hs3 hs4
  go_wp2_with fail
  obtain ⟨F', g1, g2, g3⟩ := hs5.closeNew
  exact bodyPost_ret (v := .tuple #[.pointer (some ⟨w2.heap.size + 1, 0, none⟩), .int .i64 0]) (by simp [results, Tryz.results66, go_sem]) rfl ⟨_, c, rfl, F', ⟨f, rp, w2.heap.size, v, n, _, _, fiok_new n hn, new_fitW hn, ⟨Int.le_refl _, by show (0 : Int) ≤ _; omega⟩, g1⟩, g2, g3⟩
end Go.Proofs.YtkcicnflcilekaaGreat

namespace Go.Proofs.YtkcicnflcilekaaGreat
open Go.RowKit Go.Sort

/-- The functions that such a nest's calls enter. -/
def fibF (p c : Nat) : NestFns where
  make := ⟨139, ptrV c⟩
  ins := ⟨231, ptrV p⟩
  min := ⟨233, ptrV p⟩
  steps := ⟨142, ptrV c⟩
  entry := ⟨134, ptrV c⟩
  has := ⟨135, ptrV c⟩
section
variable {w : World} {p c : Nat} {W : WS} {g : FiG} {F : Nat → Prop}
theorem fib_there (h : (Ob.fibn p c W g).holds w F) : fibH p c w := by
  obtain ⟨f, rp, bm, v, n, S, z, _, _, _, hg⟩ := h
  exact fn_p0 (Ob.group.open hg)
theorem fib_fit (h : (Ob.fibn p c W g).holds w F) : W.Fit := by
  obtain ⟨f, rp, bm, v, n, S, z, _, h, _, hg⟩ := h; exact h
/-- A call on the cells alone. -/
theorem fib_cells {f : FuncId} {args : Array Value} {v : Value} {W' : WS} (h : (Ob.fibn p c W g).holds w F) (hW : W'.cells = W.cells)
    (hc : ∀ G, (Ob.cells c W g.s).holds w G → Calls Tryz.prog f args w fun e w' => e = .returned v ∧ ∃ G', (Ob.cells c W' g.s).holds w' G' ∧ Moved G G' w w') :
    Calls Tryz.prog f args w fun e w' => e = .returned v ∧ FiPaid W W' g g ∧ ∃ F', (Ob.fibn p c W' g).holds w' F' ∧ Moved F F' w w' := by
  have hF := (Ob.fibn p c W g).lt h
  obtain ⟨f, rp, bm, v, n, S, z, I, hf, _, hg⟩ := h
  have hs := Ob.group.open hg
  obtain ⟨I2, hp⟩ := I.cells hW
  refine (hs.call 1 rfl hc).mono ?_
  rintro e w' ⟨rfl, hs1⟩
  have hs2 : Stage F w (fbN p f c rp bm v n W' g.s g.T S z (lenR g.R)) w' := hs1
  refine ⟨rfl, ⟨fun b _ => by omega, ?_⟩, fib_close hs2 hF I2 rfl⟩
  exact Nat.le_succ_of_le (allW_more [] fun y hy => Or.inl (by unfold inW at hy ⊢; rwa [dcells_eq hW] at hy))
/-- .. that only asks. -/
theorem fib_ask {f : FuncId} {args : Array Value} {v : Value} (h : (Ob.fibn p c W g).holds w F) (hc : ∀ G, (Ob.cells c W g.s).holds w G → Calls Tryz.prog f args w fun e w' => e = .returned v ∧ Below w.heap.size w w') :
    Calls Tryz.prog f args w fun e w' => e = .returned v ∧ Below w.heap.size w w' := by
  obtain ⟨f, rp, bm, v, n, S, z, I, hf, _, hg⟩ := h
  obtain ⟨G, ho⟩ := (Ob.group.open hg).get (i := 1) rfl
  exact hc G ho
theorem fbsame_below {f : FuncId} {args : Array Value} {v : Value} (h : Calls Tryz.prog f args w fun e w' => e = .returned v ∧ w = w') : Calls Tryz.prog f args w fun e w' => e = .returned v ∧ Below w.heap.size w w' := h.mono fun _ _ ⟨h1, h2⟩ => ⟨h1, by subst h2; exact Below.refl _ _⟩
theorem min_fib (y : Int) (hy : inInt y) (h : (Ob.fibn p c W g).holds w F) : Calls Tryz.prog 233 #[.pointer (some ⟨p, 0, none⟩), .int .i64 y] w fun e w' => e = .returned (.tuple #[.int .i64 (minI W y), .bool (minB W y)]) ∧ (Ob.fibn p c W g).holds w' F ∧ Moved F F w w' := by
  have h' := h
  obtain ⟨f, rp, bm, v, n, S, z, I, hf, _, hg⟩ := h
  exact (min_stF I (Ob.group.open hg) y hy).mono fun e w' ⟨h1, hb⟩ => ⟨h1, (Ob.fibn p c W g).keeps h' (Keeps.of_below_all hb (fun _ => False)) (fun _ _ k => k), Keeps.of_below_all hb F, fun _ k => Or.inl k⟩
end
abbrev fbtoMeter : FieldStep := { struct := 226, index := 0, deref := true }
theorem fbload_cells {p c : Nat} {w : World} (h : fibH p c w) : (loadVar 166 ⟨p, 0, none⟩).run Tryz.prog w = .ok (ptrV c) w := by
  unfold fibH at h
  go_simp
/-- A method of the cells, by the nest. -/
theorem fbm_prom {n : String} {f : FuncId} {p c : Nat} {w : World} (h : fibH p c w) (e : (method 470 137 (ptrV p) n).run Tryz.prog w = (do let v ← loadVar 166 ⟨p, 0, none⟩; pure (f, v) : Sem (FuncId × Value)).run Tryz.prog w) : (method 470 137 (ptrV p) n).run Tryz.prog w = .ok (f, ptrV c) w := by
  rw [e, Sem.run_bind, fbload_cells h]
  rfl
set_option maxRecDepth 100000 in
theorem fbm_steps {p c : Nat} {w : World} (h : fibH p c w) : (method 470 137 (ptrV p) "Steps").run Tryz.prog w = .ok (142, ptrV c) w := by
  have e : (method 470 137 (ptrV p) "Steps").run Tryz.prog w = (do let x ← follow [fbtoMeter] 166 (.var ⟨p, 0, none⟩); let r ← receiverAt x.1 x.2 true none; pure (142, r) : Sem (FuncId × Value)).run Tryz.prog w := by kernel_rfl
  have e1 : (follow [fbtoMeter] 166 (.var ⟨p, 0, none⟩)).run Tryz.prog w = (do let v ← loadVar 166 ⟨p, 0, none⟩; follow [fbtoMeter] 166 (.val v)).run Tryz.prog w := by kernel_rfl
  have e2 : (follow [fbtoMeter] 166 (.val (ptrV c))).run Tryz.prog w = .ok (224, .var ⟨c, 0, none⟩) w := by kernel_rfl
  have e3 : (follow [fbtoMeter] 166 (.var ⟨p, 0, none⟩)).run Tryz.prog w = .ok (224, .var ⟨c, 0, none⟩) w := by
    rw [e1, Sem.run_bind, fbload_cells h, Result.andThen_ok]
    exact e2
  have e4 : (do let r ← receiverAt 224 (.var ⟨c, 0, none⟩) true none; pure (142, r) : Sem (FuncId × Value)).run Tryz.prog w = .ok (142, ptrV c) w := by kernel_rfl
  rw [e, Sem.run_bind, e3, Result.andThen_ok]
  exact e4
theorem fib_nests (p c : Nat) : Nests (fun W g => Ob.fibn p c W g) FiG.s (fibH p c) 137 (ptrV p) (fibF p c) where
  there := fib_there
  fit h := fib_fit h
  entry x h := fib_ask h fun _ ho => entry_cl x ho
  has y h := fib_ask h fun _ ho => fbsame_below (has_cl y ho)
  steps h := fib_ask h fun _ ho => fbsame_below (steps_cl ho)
  make {W g w F} h := (fib_cells h (W' := makeW W) (by unfold makeW; split <;> rfl) fun _ ho => make_cl ho).mono fun e w' ⟨h1, h2, h3⟩ => ⟨h1, g, h3⟩
  ins {W g w F} y x k q _ _ h := (insert_fib y x k q h).mono fun e w' ⟨h1, g', F', h2, h3, h4⟩ => ⟨h1, g', F', h4⟩
  min {W g w F} y hy h := (min_fib y hy h).mono fun e w' ⟨h1, h2⟩ => ⟨h1, g, F, h2⟩
  mMake := ⟨fun w h => fbm_prom h (by kernel_rfl), fun _ _ => by kernel_rfl⟩
  mIns := ⟨fun _ _ => by kernel_rfl, fun _ _ => by kernel_rfl⟩
  mMin := ⟨fun _ _ => by kernel_rfl, fun _ _ => by kernel_rfl⟩
  mSteps := ⟨fun w h => fbm_steps h, fun _ _ => by kernel_rfl⟩
  mEntry := ⟨fun w h => fbm_prom h (by kernel_rfl), fun _ _ => by kernel_rfl⟩
  mHas := ⟨fun w h => fbm_prom h (by kernel_rfl), fun _ _ => by kernel_rfl⟩
end Go.Proofs.YtkcicnflcilekaaGreat

namespace Go.Proofs.YtkcicnflcilekaaGreat
open Go.RowKit

theorem fits_any (k d : Int) (w : World) :
    Calls Tryz.prog 56 #[.agg #[.int .i64 k, .int .i64 d]] w fun e w' => e = .returned (.bool (fitsB k d)) ∧ Below w.heap.size w w' := by
  go_enter Tryz.func56, Tryz.ntmps56
  go_wp2
  all_goals
    go_ret
    exact ⟨ret_bool (by rw [Bool.eq_iff_iff]; simp_all [fitsB]; try omega), (Below.refl _ _).alloc (Nat.le_refl _) _⟩

theorem check_any (k d : Int) (w : World) :
    Calls Tryz.prog 33 #[.agg #[.int .i64 k, .int .i64 d]] w fun e w' => e = .returned (.int .i64 (checkI k d)) ∧ Below w.heap.size w w' := by
  rcases check_cases k d with ⟨h, hk⟩ | ⟨h, h1, h2, hf⟩ | ⟨h, h1, h2, hf⟩
  · rw [h]
    clear h
    rcases hk with hk | hk
    · go_enter Tryz.func33, Tryz.ntmps33
      go_wp2
      go_ret
      exact ⟨rfl, (Below.refl _ _).alloc (Nat.le_refl _) _⟩
    · have hk1 : ¬ k < 1 := by omega
      go_enter Tryz.func33, Tryz.ntmps33
      go_wp2
      go_ret
      exact ⟨rfl, (Below.refl _ _).alloc (Nat.le_refl _) _⟩
  · rw [h]
    have HF := Lib.hid hf
    clear h hf
    go_enter Tryz.func33, Tryz.ntmps33
    go_wp2_with (go_at_call 56; refine (fits_any _ _ _).mono ?_; rintro e w' ⟨rfl, hb⟩; rw [HF.out])
    go_ret
    exact ⟨rfl, below_alloc1 hb⟩
  · rw [h]
    have HF := Lib.hid hf
    clear h hf
    go_enter Tryz.func33, Tryz.ntmps33
    go_wp2_with (go_at_call 56; refine (fits_any _ _ _).mono ?_; rintro e w' ⟨rfl, hb⟩; rw [HF.out])
    go_ret
    exact ⟨rfl, below_alloc1 hb⟩

theorem refCheck_any (k d : Int) (w : World) :
    Calls Tryz.prog 28 #[.agg #[.int .i64 k, .int .i64 d]] w fun e w' => e = .returned (.int .i64 (checkI k d)) ∧ Below w.heap.size w w' := by
  go_enter Tryz.func28, Tryz.ntmps28
  go_wp2
  all_goals
    go_ret
    exact ⟨ret_int (by simp_all [checkI, fitsB]; try omega), (Below.refl _ _).alloc (Nat.le_refl _) _⟩

theorem arity_any (k d : Int) (w : World) :
    Calls Tryz.prog 59 #[.agg #[.int .i64 k, .int .i64 d]] w fun e w' => e = .returned (.int .i64 (arityI k d)) ∧ Below w.heap.size w w' := by
  have HA : Hid (arityI k d = if checkI k d = 0 then (if k = 1 then 2 else if k = 2 then d else 0) else 0) := Lib.hid rfl
  go_enter Tryz.func59, Tryz.ntmps59
  go_wp2_with fail
  refine (check_any _ _ _).mono ?_
  rintro e w1 ⟨rfl, hb⟩
  obtain ⟨c0, c1⟩ := box2 hb
  have hb' := below_alloc1 hb
  clear hb
  go_wp2
  all_goals
    go_ret
    exact ⟨ret_int (by rw [HA.out]; simp_all), hb'⟩

end Go.Proofs.YtkcicnflcilekaaGreat

namespace Go.Proofs.YtkcicnflcilekaaGreat
open Go.RowKit Go.Sort

/-- A nest is made. -/
def NewN (w : World) (n : Nat) (e : Ending) (w' : World) : Prop := ∃ (T : TypeId) (v : Value) (γ : Type) (O : WS → γ → Ob) (st : γ → Int) (H : World → Prop) (f : NestFns) (g : γ), e = .returned (.tuple #[.iface T v, .int .i64 0]) ∧ Nests O st H T v f ∧ st g = 0 ∧ ∃ F', (O (newW n) g).holds w' F' ∧ (∀ k, F' k → w.heap.size ≤ k) ∧ Below w.heap.size w w'
theorem arity_cl (k d : Int) (D : Nat) (hD : arityI k d = D) (hD2 : 2 ≤ D ∧ D ≤ 16) (n : Nat) (hn : n ≤ 65536) (b : Nat) (w : World) (h0 : w.cell? ⟨b, 0, none⟩ = some (.int .i64 k)) (h1 : w.cell? ⟨b, 1, none⟩ = some (.int .i64 d)) :
    Calls Tryz.prog 57 #[.int .i64 n, .pointer (some ⟨b, 0, none⟩)] w (newDaryPost w n D) := by
  have hA := arity_any k d w
  rw [hD] at hA
  clear hD
  go_enter Tryz.func57, Tryz.ntmps57
  go_wp2_with fail
  refine hA.mono ?_
  rintro e w1 ⟨rfl, hb⟩
  have hN := new_da n D hn hD2 w1
  clear hA hD2 h0 h1
  go_wp2_with fail
  refine hN.mono ?_
  rintro e w2 ⟨p, c, rfl, F', g1, g2, g3⟩
  go_wp2_with fail
  go_ret2
  exact ⟨p, c, rfl, F', g1, fun k hk => Nat.le_trans hb.size (g2 k hk), hb.trans (g3.mono hb.size)⟩
theorem op_da (k d : Int) (D : Nat) (hD : arityI k d = D) (hD2 : 2 ≤ D ∧ D ≤ 16) (n : Nat) (hn : n ≤ 65536) (b : Nat) (w : World) (h0 : w.cell? ⟨b, 0, none⟩ = some (.int .i64 k)) (h1 : w.cell? ⟨b, 1, none⟩ = some (.int .i64 d)) :
    Calls Tryz.prog 60 #[.func (.func 57) #[] #[.pointer (some ⟨b, 0, none⟩)], .int .i64 n] w (NewN w n) := by
  have hc := arity_cl k d D hD hD2 n hn b w h0 h1
  clear hD h0 h1
  go_enter Tryz.func60, Tryz.ntmps60
  go_wp2_with fail
  refine hc.mono ?_
  rintro e w1 ⟨p, c, rfl, h⟩
  clear hc
  go_wp2_with fail
  go_ret2
  exact ⟨_, _, _, _, _, _, _, _, rfl, dary_nests p c D hD2, rfl, h⟩
theorem op_le (n : Nat) (hn : n ≤ 65536) (w : World) : Calls Tryz.prog 67 #[.func (.func 68) #[] #[], .int .i64 n] w (NewN w n) := by
  have hc := new_le n hn w
  go_enter Tryz.func67, Tryz.ntmps67
  go_wp2_with fail
  refine hc.mono ?_
  rintro e w1 ⟨p, c, rfl, h⟩
  clear hc
  go_wp2_with fail
  go_ret2
  exact ⟨_, _, _, _, _, _, _, ((0 : Int), fun _ => Tr.nil), rfl, left_nests p c, rfl, h⟩
theorem op_sk (n : Nat) (hn : n ≤ 65536) (w : World) : Calls Tryz.prog 69 #[.func (.func 70) #[] #[], .int .i64 n] w (NewN w n) := by
  have hc := new_sk n hn w
  go_enter Tryz.func69, Tryz.ntmps69
  go_wp2_with fail
  refine hc.mono ?_
  rintro e w1 ⟨p, c, rfl, h⟩
  clear hc
  go_wp2_with fail
  go_ret2
  exact ⟨_, _, _, _, _, _, _, ((0 : Int), fun _ => Tr.nil), rfl, skew_nests p c, rfl, h⟩
theorem op_bn (n : Nat) (hn : n ≤ 65536) (w : World) : Calls Tryz.prog 61 #[.func (.func 62) #[] #[], .int .i64 n] w (NewN w n) := by
  have hc := new_bn n hn w
  go_enter Tryz.func61, Tryz.ntmps61
  go_wp2_with fail
  refine hc.mono ?_
  rintro e w1 ⟨p, c, rfl, h⟩
  clear hc
  go_wp2_with fail
  go_ret2
  exact ⟨_, _, _, _, _, _, _, _, rfl, bin_nests p c, rfl, h⟩
theorem op_prn (n : Nat) (hn : n ≤ 65536) (w : World) : Calls Tryz.prog 63 #[.func (.func 64) #[] #[], .int .i64 n] w (NewN w n) := by
  have hc := new_prn n hn w
  go_enter Tryz.func63, Tryz.ntmps63
  go_wp2_with fail
  refine hc.mono ?_
  rintro e w1 ⟨p, c, rfl, h⟩
  clear hc
  go_wp2_with fail
  go_ret2
  exact ⟨_, _, _, _, _, _, _, _, rfl, prn_nests p c, rfl, h⟩
theorem op_fib (n : Nat) (hn : n ≤ 65536) (w : World) : Calls Tryz.prog 65 #[.func (.func 66) #[] #[], .int .i64 n] w (NewN w n) := by
  have hc := new_fib n hn w
  go_enter Tryz.func65, Tryz.ntmps65
  go_wp2_with fail
  refine hc.mono ?_
  rintro e w1 ⟨p, c, rfl, h⟩
  clear hc
  go_wp2_with fail
  go_ret2
  exact ⟨_, _, _, _, _, _, _, _, rfl, fib_nests p c, rfl, h⟩
theorem op_sh (n : Nat) (hn : n ≤ 65536) (w : World) : Calls Tryz.prog 71 #[.func (.func 72) #[] #[], .int .i64 n] w (NewN w n) := by
  have hc := new_sh n hn w
  go_enter Tryz.func71, Tryz.ntmps71
  go_wp2_with fail
  refine hc.mono ?_
  rintro e w1 ⟨p, c, rfl, h⟩
  clear hc
  go_wp2_with fail
  go_ret2
  exact ⟨_, _, _, _, _, _, _, _, rfl, shed_nests p c, rfl, h⟩
/-- A nest of a kind that can be. -/
theorem newnest_pq (k d : Int) (hk : checkI k d = 0) (n : Nat) (hn : n ≤ 65536) (w : World) : Calls Tryz.prog 35 #[.agg #[.int .i64 k, .int .i64 d], .int .i64 n] w (NewN w n) := by
  have hs := (Stage.start w).alloc #[.int .i64 k, .int .i64 d] 27
  have h0 : (w.alloc (.cells #[.int .i64 k, .int .i64 d] 27)).cell? ⟨w.heap.size, 0, none⟩ = some (.int .i64 k) := hs.cell 0 rfl rfl
  have h1 : (w.alloc (.cells #[.int .i64 k, .int .i64 d] 27)).cell? ⟨w.heap.size, 1, none⟩ = some (.int .i64 d) := hs.cell 0 rfl rfl
  have hb := hs.below
  have up : ∀ {e w'}, NewN (w.alloc (.cells #[.int .i64 k, .int .i64 d] 27)) n e w' → NewN w n e w' := fun ⟨T, v, γ, O, st, H, f, g, e0, N, e1, F', g1, g2, g3⟩ =>
    ⟨T, v, γ, O, st, H, f, g, e0, N, e1, F', g1, fun k hk => Nat.le_trans hs.size (g2 k hk), hb.trans (g3.mono hs.size)⟩
  clear hs hb
  rcases check_cases k d with ⟨e, _⟩ | ⟨_, k1, k8, hf⟩ | ⟨e, _⟩
  · rw [hk] at e; cases e
  rotate_left
  · rw [hk] at e; cases e
  rcases fits_cases hf with ⟨rfl, d2, d16⟩ | ⟨k2, rfl⟩
  · obtain ⟨D, rfl⟩ : ∃ D : Nat, d = D := ⟨d.toNat, by omega⟩
    have hc := op_da 2 D D (by simp [arityI, hk]) ⟨by omega, by omega⟩ n hn w.heap.size _ h0 h1
    clear hk hf k1 k8
    go_enter Tryz.func35, Tryz.ntmps35
    go_wp2_with fail
    refine hc.mono ?_
    rintro e w1 hq
    obtain ⟨T, v, γ, O, st, H, f, g, rfl, hr⟩ := up hq
    clear hc h0 h1
    go_wp2_with fail
    go_ret2
    exact ⟨T, v, γ, O, st, H, f, g, rfl, hr⟩
  · have hk8 : k = 1 ∨ k = 3 ∨ k = 4 ∨ k = 5 ∨ k = 6 ∨ k = 7 ∨ k = 8 := by omega
    clear hf k1 k8 k2
    rcases hk8 with rfl | rfl | rfl | rfl | rfl | rfl | rfl
    · have hc := op_da 1 0 2 (by simp [arityI, hk]) ⟨by omega, by omega⟩ n hn w.heap.size _ h0 h1
      clear hk
      go_enter Tryz.func35, Tryz.ntmps35
      go_wp2_with fail
      refine hc.mono ?_
      rintro e w1 hq
      obtain ⟨T, v, γ, O, st, H, f, g, rfl, hr⟩ := up hq
      clear hc h0 h1
      go_wp2_with fail
      go_ret2
      exact ⟨T, v, γ, O, st, H, f, g, rfl, hr⟩
    · have hc := op_bn n hn (w.alloc (.cells #[.int .i64 3, .int .i64 0] 27))
      clear hk
      go_enter Tryz.func35, Tryz.ntmps35
      go_wp2_with fail
      refine hc.mono ?_
      rintro e w1 hq
      obtain ⟨T, v, γ, O, st, H, f, g, rfl, hr⟩ := up hq
      clear hc h0 h1
      go_wp2_with fail
      go_ret2
      exact ⟨T, v, γ, O, st, H, f, g, rfl, hr⟩
    · have hc := op_prn n hn (w.alloc (.cells #[.int .i64 4, .int .i64 0] 27))
      clear hk
      go_enter Tryz.func35, Tryz.ntmps35
      go_wp2_with fail
      refine hc.mono ?_
      rintro e w1 hq
      obtain ⟨T, v, γ, O, st, H, f, g, rfl, hr⟩ := up hq
      clear hc h0 h1
      go_wp2_with fail
      go_ret2
      exact ⟨T, v, γ, O, st, H, f, g, rfl, hr⟩
    · have hc := op_fib n hn (w.alloc (.cells #[.int .i64 5, .int .i64 0] 27))
      clear hk
      go_enter Tryz.func35, Tryz.ntmps35
      go_wp2_with fail
      refine hc.mono ?_
      rintro e w1 hq
      obtain ⟨T, v, γ, O, st, H, f, g, rfl, hr⟩ := up hq
      clear hc h0 h1
      go_wp2_with fail
      go_ret2
      exact ⟨T, v, γ, O, st, H, f, g, rfl, hr⟩
    · have hc := op_le n hn (w.alloc (.cells #[.int .i64 6, .int .i64 0] 27))
      clear hk
      go_enter Tryz.func35, Tryz.ntmps35
      go_wp2_with fail
      refine hc.mono ?_
      rintro e w1 hq
      obtain ⟨T, v, γ, O, st, H, f, g, rfl, hr⟩ := up hq
      clear hc h0 h1
      go_wp2_with fail
      go_ret2
      exact ⟨T, v, γ, O, st, H, f, g, rfl, hr⟩
    · have hc := op_sk n hn (w.alloc (.cells #[.int .i64 7, .int .i64 0] 27))
      clear hk
      go_enter Tryz.func35, Tryz.ntmps35
      go_wp2_with fail
      refine hc.mono ?_
      rintro e w1 hq
      obtain ⟨T, v, γ, O, st, H, f, g, rfl, hr⟩ := up hq
      clear hc h0 h1
      go_wp2_with fail
      go_ret2
      exact ⟨T, v, γ, O, st, H, f, g, rfl, hr⟩
    · have hc := op_sh n hn (w.alloc (.cells #[.int .i64 8, .int .i64 0] 27))
      clear hk
      go_enter Tryz.func35, Tryz.ntmps35
      go_wp2_with fail
      refine hc.mono ?_
      rintro e w1 hq
      obtain ⟨T, v, γ, O, st, H, f, g, rfl, hr⟩ := up hq
      clear hc h0 h1
      go_wp2_with fail
      go_ret2
      exact ⟨T, v, γ, O, st, H, f, g, rfl, hr⟩
end Go.Proofs.YtkcicnflcilekaaGreat

namespace Go.Proofs.YtkcicnflcilekaaGreat
open Go.RowKit Go.Sort

def openE (k d n m : Int) : Int := if checkI k d = 0 then (if 0 ≤ n ∧ n ≤ 65536 ∧ m ≠ 0 then 0 else 31) else checkI k d
theorem open_cases {k d n m : Int} (h : openE k d n m = 0) (h0 : 0 ≤ m) : checkI k d = 0 ∧ ∃ a b : Nat, n = a ∧ m = b ∧ a ≤ 65536 ∧ 1 ≤ b := by
  unfold openE at h
  by_cases e : checkI k d = 0
  · rw [if_pos e] at h
    by_cases e2 : 0 ≤ n ∧ n ≤ 65536 ∧ m ≠ 0
    · exact ⟨e, n.toNat, m.toNat, by omega, by omega, by omega, by omega⟩
    · rw [if_neg e2] at h; cases h
  · rw [if_neg e] at h; exact absurd h e
/-- A store is there. -/
def OpenP (w : World) (k d : Int) (n m : Nat) (e : Ending) (w' : World) : Prop := ∃ p, e = .returned (.tuple #[.pointer (some ⟨p, 0, none⟩), .int .i64 0]) ∧ ∃ F', (Ob.store p k d true (openS n m)).holds w' F' ∧ (∀ k, F' k → w.heap.size ≤ k) ∧ Below w.heap.size w w'
set_option maxHeartbeats 1000000 in
theorem open_no (k d n m : Int) (h : openE k d n m ≠ 0) (w : World) : Calls Tryz.prog 10 #[.agg #[.int .i64 k, .int .i64 d], .int .i64 n, .int .u32 m] w fun e w' => e = .returned (.tuple #[.pointer none, .int .i64 (openE k d n m)]) ∧ Below w.heap.size w w' := by
  have hs := (Stage.start w).alloc #[.int .i64 k, .int .i64 d] 27
  obtain ⟨w0, hw0⟩ : ∃ w0, w.alloc (.cells #[.int .i64 k, .int .i64 d] 27) = w0 := ⟨_, rfl⟩
  rw [hw0] at hs
  have h0 : w0.cell? ⟨w.heap.size, 0, none⟩ = some (.int .i64 k) := hs.cell 0 rfl rfl
  have h1 : w0.cell? ⟨w.heap.size, 1, none⟩ = some (.int .i64 d) := hs.cell 0 rfl rfl
  have hC := check_any k d w0
  unfold openE at *
  by_cases e : checkI k d = 0
  · rw [if_pos e] at h ⊢
    rw [e] at hC
    have e2 : ¬ (0 ≤ n ∧ n ≤ 65536 ∧ m ≠ 0) := fun e2 => h (if_pos e2)
    rw [if_neg e2]
    clear h e
    go_enter Tryz.func10, Tryz.ntmps10
    go_wp2_with fail
    refine hC.mono ?_
    rintro e w1 ⟨rfl, hb⟩
    have hN := new_any n m w1 e2
    have hs1 := hs.later hb
    clear hC h0 h1 hw0 e2 hs
    go_wp2_with fail
    refine hN.mono ?_
    rintro e w2 ⟨rfl, rfl⟩
    go_wp2_with fail
    go_ret2
    exact ⟨rfl, hs1.below⟩
  · rw [if_neg e]
    have e' : (checkI k d == 0) = false := by simpa using e
    have e'' : (checkI k d != 0) = true := by simpa using e
    clear h e
    generalize checkI k d = C at *
    go_enter Tryz.func10, Tryz.ntmps10
    go_wp2_with fail
    refine hC.mono ?_
    rintro e w1 ⟨rfl, hb⟩
    have hs1 := hs.later hb
    clear hC h0 h1 hw0 hs
    go_wp2_with fail
    go_ret2
    exact ⟨rfl, hs1.below⟩
set_option maxHeartbeats 1000000 in
theorem open_pq (k d : Int) (n m : Nat) (hk : checkI k d = 0) (hn : n ≤ 65536) (hm : 1 ≤ m ∧ m ≤ 4294967295) (w : World) : Calls Tryz.prog 10 #[.agg #[.int .i64 k, .int .i64 d], .int .i64 n, .int .u32 m] w (OpenP w k d n m) := by
  have hs := (Stage.start w).alloc #[.int .i64 k, .int .i64 d] 27
  obtain ⟨w0, hw0⟩ : ∃ w0, w.alloc (.cells #[.int .i64 k, .int .i64 d] 27) = w0 := ⟨_, rfl⟩
  rw [hw0] at hs
  have h0 : w0.cell? ⟨w.heap.size, 0, none⟩ = some (.int .i64 k) := hs.cell 0 rfl rfl
  have h1 : w0.cell? ⟨w.heap.size, 1, none⟩ = some (.int .i64 d) := hs.cell 0 rfl rfl
  have hC := check_any k d w0
  rw [hk] at hC
  go_enter Tryz.func10, Tryz.ntmps10
  go_wp2_with fail
  refine hC.mono ?_
  rintro e w1 ⟨rfl, hb⟩
  have hs1 := hs.later hb
  have hN := hs1.newArena n m hn hm
  clear hC h0 h1 hw0 hs hb
  go_wp2_with fail
  refine hN.mono ?_
  rintro e w2 ⟨a, rfl, hs2⟩
  clear hN hs1
  have h0 : w2.cell? ⟨w.heap.size, 0, none⟩ = some (.int .i64 k) := hs2.cell 0 rfl rfl
  have h1 : w2.cell? ⟨w.heap.size, 1, none⟩ = some (.int .i64 d) := hs2.cell 0 rfl rfl
  have hN := newnest_pq k d hk n hn w2
  go_wp2_with fail
  refine hN.mono ?_
  rintro e w3 ⟨T, v, γ, O, st, H, f, g, rfl, N, hg, F', g1, g2, g3⟩
  have hs3 := hs2.add g3 g1 g2
  clear hN hs2 h0 h1 hk hn hm
  have h0 : w3.cell? ⟨w.heap.size, 0, none⟩ = some (.int .i64 k) := hs3.cell 0 rfl rfl
  have h1 : w3.cell? ⟨w.heap.size, 1, none⟩ = some (.int .i64 d) := hs3.cell 0 rfl rfl
  have hs4 := (hs3.alloc #[.int .i64 k, .int .i64 d, ptrV a, .iface T v, .int .u64 0] 89).select [3, 1, 2] (by decide) rfl
  clear hs3
  go_wp2_with fail
  go_ret2
  obtain ⟨F', h1, h2, h3⟩ := hs4.closeNew
  exact ⟨w3.heap.size, rfl, F', ⟨γ, O, st, H, T, v, f, a, g, N, ok_open n m, fun _ => hg, h1⟩, h2, h3⟩
end Go.Proofs.YtkcicnflcilekaaGreat
