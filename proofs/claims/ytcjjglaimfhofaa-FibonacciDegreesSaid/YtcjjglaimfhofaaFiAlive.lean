/- Merged of FiNest5, FiNests, FiAlive. -/
import Derived.Test.YtcjjglaimfhofaaRepeatN
namespace Go.Proofs.Ytcjjglaimfhofaa
open Go.RowKit Go.Sort

theorem newForest_fb {F0 : Nat → Prop} {W0 w : World} {c n : Nat} {W : WS} {s : Int} (h : Stage F0 W0 [Ob.cells c W s] w) (hn : W.cells.length = n) (hn2 : n ≤ 65536) : Calls Try.prog 33 #[.pointer (some ⟨c, 0, none⟩)] w fun e w' => ∃ f rp v, e = .returned (.tuple #[.pointer (some ⟨f, 0, none⟩), .int .i64 0]) ∧ Stage F0 W0 (fbF f c rp v n W s (fun _ => .no) (newS n)) w' := by
  have hC := h.ask 0 rfl (fun _ ho => capacity_cl ho)
  rw [hn] at hC
  have hR := h.newRing n hn2
  go_enter Try.func33, Try.ntmps33
  go_wp2_with fail
  refine hC.mono ?_
  rintro e w1 ⟨rfl, rfl⟩
  clear hC
  go_wp2_with fail
  refine hR.mono ?_
  rintro e w1 ⟨rp, rfl, hs1⟩
  clear hR h
  obtain ⟨w2, hw2, h2⟩ : ∃ w2, w1.alloc (.cells #[.int .i64 (-1), .int .i64 (-1), .int .i64 0, .bool false] 109) = w2 ∧ Stage F0 W0 [Ob.box w1.heap.size #[.int .i64 (-1), .int .i64 (-1), .int .i64 0, .bool false] 109, Ob.cells c W s, Ob.ring rp n (newS n)] w2 := ⟨_, rfl, (hs1.alloc _ _).select [2, 0, 1] (by decide) rfl⟩
  have hC := h2.ask 1 rfl (fun _ ho => capacity_cl ho)
  rw [hn] at hC
  have hN := repeat_st_nd h2 n hn2
  clear hs1 h2
  go_wp2_with fail
  refine hC.mono ?_
  rintro e w3 ⟨rfl, rfl⟩
  clear hC
  go_wp2_with fail
  refine hN.mono ?_
  rintro e w3 ⟨g, rfl, hs2⟩
  clear hN hw2
  have hs3 := hs2.alloc #[ptrV c, ptrV rp, .slice (some ⟨g, 0, none⟩) n n] 111
  have hs4 : Stage F0 W0 (fbF w3.heap.size c rp (.slice (some ⟨g, 0, none⟩) n n) n W s (fun _ => .no) (newS n)) _ := hs3.select [4, 1, 3, 2] (by decide) rfl
  clear hs2 hs3
  go_wp2_with fail
  exact bodyPost_ret (v := .tuple #[.pointer (some ⟨w3.heap.size, 0, none⟩), .int .i64 0]) (by simp [results, Try.results33, go_sem]) rfl ⟨_, rp, _, rfl, hs4⟩
theorem new_single (n : Nat) {x : Int} (hx : inB n x) : allR (newS n).R x = [x] := by
  obtain ⟨s, e1, e2, e3, _⟩ := (new_rings n).all hx
  show allR ((List.range n).map fun i : Nat => [(i : Int)]) x = [x]
  rw [e1, self_ring e2 e3 rfl]
theorem fiok_new (n : Nat) (hn : n ≤ 65536) : FiOk n (newW n) (fun _ => []) (fun _ => []) (fun _ => .no) (newS n) (fun _ => 0) := by
  have hin : ∀ x, inW (newW n) x = false := fun x => by
    cases e : inW (newW n) x with
    | false => rfl
    | true =>
      have := ((homes_new n).home e).2
      cases this
  refine ⟨by simp [newW], ⟨⟨⟨fun _ _ h => (by cases h), fun _ _ _ h => (by cases h), fun _ => List.nodup_nil, fun _ => 0, fun _ _ h => (by cases h)⟩, fun _ _ h => (by cases h)⟩, fun x h => (by rw [hin] at h; cases h), fun _ _ h => (by cases h), fun _ => List.nodup_nil, fun _ h => h.elim⟩, ⟨good_new n hn, fun _ _ h => (by cases h), fun _ _ _ => rfl, fun _ _ => Or.inl ⟨rfl, rfl⟩, fun _ _ => rfl, fun _ _ h => (by cases h), fun _ _ h => (by cases h), fun x hx _ _ => new_single n hx⟩, ⟨fun _ => 0, FiDeg.none _ (fun _ => rfl) _ _⟩, fun _ h => absurd rfl h⟩
/-- What there is to tell of a new one. -/
def fiG0 : FiG := ⟨0, fun _ => [], fun _ => [], fun _ => .no⟩
def newFibPost (w : World) (n : Nat) (e : Ending) (w' : World) : Prop := ∃ p c, e = .returned (.tuple #[.pointer (some ⟨p, 0, none⟩), .int .i64 0]) ∧ ∃ F', (Ob.fibn p c (newW n) fiG0).holds w' F' ∧ (∀ k, F' k → w.heap.size ≤ k) ∧ Below w.heap.size w w'
theorem trF_new (z : Nat → Int) : trF z (lenR fun _ => []) = fun _ => none := by
  funext h; unfold trF lenR
  exact if_neg (fun e => e.2 rfl)
set_option maxRecDepth 100000 in
theorem new_fib (n : Nat) (hn : n ≤ 65536) (w : World) : Calls Try.prog 11 #[.int .i64 n] w (newFibPost w n) := by
  have hmm := @run_makeMap Try.prog
  have hC := new_cl n hn w
  go_enter Try.func11, Try.ntmps11
  go_wp2_with fail
  refine hC.mono ?_
  rintro e w1 ⟨c, rfl, F1, h1, h2, h3⟩
  have hs1 : Stage (fun _ => False) w [Ob.cells c (newW n) 0] w1 := (Stage.start w).add (O := Ob.cells c (newW n) 0) h3 h1 h2
  clear hC h1 h2 h3
  have hnl : (newW n).cells.length = n := by simp [newW]
  have hN := newForest_fb hs1 hnl hn
  go_wp2_with fail
  refine hN.mono ?_
  rintro e w2 ⟨f, rp, v, rfl, hs2⟩
  clear hN hs1
  have hs3 := hs2.newTMap Try.prog 3 65537 (b := w2.heap.size) rfl
  have hz : (w2.alloc (.map #[] 0)).heap.size = w2.heap.size + 1 := size_alloc _ _
  have hs4 := hs3.alloc #[ptrV c, ptrV f, .map (some w2.heap.size)] 32
  rw [hz, ← trF_new (fun _ => 0)] at hs4
  have hs5 : Stage (fun _ => False) w (fbN (w2.heap.size + 1) f c rp w2.heap.size v n (newW n) 0 (fun _ => .no) (newS n) (fun _ => 0) (lenR fun _ => [])) ((w2.alloc (.map #[] 0)).alloc (.cells #[ptrV c, ptrV f, .map (some w2.heap.size)] 32)) := hs4.select [0, 1, 2, 3, 5, 4] (by decide) rfl
  clear hs2 hs3 hs4
  go_wp2_with fail
  obtain ⟨F', g1, g2, g3⟩ := hs5.closeNew
  exact bodyPost_ret (v := .tuple #[.pointer (some ⟨w2.heap.size + 1, 0, none⟩), .int .i64 0]) (by simp [results, Try.results11, go_sem]) rfl ⟨_, c, rfl, F', ⟨f, rp, w2.heap.size, v, n, _, _, fiok_new n hn, new_fitW hn, ⟨Int.le_refl _, by show (0 : Int) ≤ _; omega⟩, g1⟩, g2, g3⟩
theorem new_fib_no (n : Int) (w : World) (hn : ¬ (0 ≤ n ∧ n ≤ 65536)) : Calls Try.prog 11 #[.int .i64 n] w fun e w' => e = .returned (.tuple #[.pointer none, .int .i64 31]) ∧ w = w' := by
  go_enter Try.func11, Try.ntmps11
  go_wp2_with fail
  refine (new_no n w hn).mono ?_
  rintro e w1 ⟨rfl, rfl⟩
  go_wp2_with fail
  exact bodyPost_ret (v := .tuple #[.pointer none, .int .i64 31]) (by simp [results, Try.results11, go_sem]) rfl ⟨rfl, rfl⟩
end Go.Proofs.Ytcjjglaimfhofaa

namespace Go.Proofs.Ytcjjglaimfhofaa
open Go.RowKit Go.Sort

/-- The functions that such a nest's calls enter. -/
def fibF (p c : Nat) : NestFns where
  cap := ⟨12, ptrV c⟩
  make := ⟨29, ptrV c⟩
  ins := ⟨30, ptrV p⟩
  min := ⟨51, ptrV p⟩
  ext := ⟨31, ptrV p⟩
  dec := ⟨122, ptrV p⟩
  del := ⟨52, ptrV p⟩
  meld := ⟨124, ptrV p⟩
  steps := ⟨13, ptrV c⟩
  entry := ⟨123, ptrV c⟩
  home := ⟨71, ptrV c⟩
  has := ⟨14, ptrV c⟩
  len := ⟨15, ptrV c⟩
/-- How a call turns what there is to tell. -/
def FiR (W : WS) (k y x q r : Int) (g g' : FiG) : Prop :=
  FiPaid W (doW W k y x q r) g g' ∧ (k = 1 → putB W y x = true → (g'.R y.toNat).length = (g.R y.toNat).length + 1) ∧ (k = 4 → ∀ i, (g.R i).length ≤ (g'.R i).length) ∧ (k = 6 → joinBW W y x = true → (g'.R y.toNat).length = (g.R y.toNat).length + (g.R x.toNat).length) ∧ (k = 3 → minB W y = true → Unlike g' y.toNat)
section
variable {w : World} {p c : Nat} {W : WS} {g : FiG} {F : Nat → Prop}
theorem fib_there (h : (Ob.fibn p c W g).holds w F) : fibH p c w := by
  obtain ⟨f, rp, bm, v, n, S, z, _, _, _, hg⟩ := h
  exact fn_p0 (Ob.group.open hg)
theorem fib_fit (h : (Ob.fibn p c W g).holds w F) : W.Fit := by
  obtain ⟨f, rp, bm, v, n, S, z, _, h, _, hg⟩ := h; exact h
/-- A call on the cells alone. -/
theorem fib_cells {f : FuncId} {args : Array Value} {v : Value} {W' : WS} (h : (Ob.fibn p c W g).holds w F) (hW : W'.cells = W.cells)
    (hc : ∀ G, (Ob.cells c W g.s).holds w G → Calls Try.prog f args w fun e w' => e = .returned v ∧ ∃ G', (Ob.cells c W' g.s).holds w' G' ∧ Moved G G' w w') :
    Calls Try.prog f args w fun e w' => e = .returned v ∧ FiPaid W W' g g ∧ ∃ F', (Ob.fibn p c W' g).holds w' F' ∧ Moved F F' w w' := by
  have hF := (Ob.fibn p c W g).lt h
  obtain ⟨f, rp, bm, v, n, S, z, I, hf, _, hg⟩ := h
  have hs := Ob.group.open hg
  obtain ⟨I2, hp⟩ := I.cells hW
  refine (hs.call 1 rfl hc).mono ?_
  rintro e w' ⟨rfl, hs1⟩
  have hs2 : Stage F w (fbN p f c rp bm v n W' g.s g.T S z (lenR g.R)) w' := hs1
  refine ⟨rfl, ⟨fun b _ => by omega, ?_⟩, fib_close hs2 hF I2 rfl⟩
  exact Nat.le_succ_of_le (allW_more [] fun y hy => Or.inl (by unfold inW at hy ⊢; rwa [dcells_eq hW] at hy))
/-- .. that only asks. -/
theorem fib_ask {f : FuncId} {args : Array Value} {v : Value} (h : (Ob.fibn p c W g).holds w F) (hc : ∀ G, (Ob.cells c W g.s).holds w G → Calls Try.prog f args w fun e w' => e = .returned v ∧ Below w.heap.size w w') :
    Calls Try.prog f args w fun e w' => e = .returned v ∧ Below w.heap.size w w' := by
  obtain ⟨f, rp, bm, v, n, S, z, I, hf, _, hg⟩ := h
  obtain ⟨G, ho⟩ := (Ob.group.open hg).get (i := 1) rfl
  exact hc G ho
theorem fbsame_below {f : FuncId} {args : Array Value} {v : Value} (h : Calls Try.prog f args w fun e w' => e = .returned v ∧ w = w') : Calls Try.prog f args w fun e w' => e = .returned v ∧ Below w.heap.size w w' := h.mono fun _ _ ⟨h1, h2⟩ => ⟨h1, by subst h2; exact Below.refl _ _⟩
theorem min_fib (y : Int) (hy : inInt y) (h : (Ob.fibn p c W g).holds w F) : Calls Try.prog 51 #[.pointer (some ⟨p, 0, none⟩), .int .i64 y] w fun e w' => e = .returned (.tuple #[.int .i64 (minI W y), .bool (minB W y)]) ∧ (Ob.fibn p c W g).holds w' F ∧ Moved F F w w' := by
  have h' := h
  obtain ⟨f, rp, bm, v, n, S, z, I, hf, _, hg⟩ := h
  exact (min_st I (Ob.group.open hg) y hy).mono fun e w' ⟨h1, hb⟩ => ⟨h1, (Ob.fibn p c W g).keeps h' (Keeps.of_below_all hb (fun _ => False)) (fun _ _ k => k), Keeps.of_below_all hb F, fun _ k => Or.inl k⟩
end
abbrev fbtoMeter : FieldStep := { struct := 39, index := 0, deref := true }
theorem fbload_cells {p c : Nat} {w : World} (h : fibH p c w) : (loadVar 28 ⟨p, 0, none⟩).run Try.prog w = .ok (ptrV c) w := by
  unfold fibH at h
  go_simp
/-- A method of the cells, by the nest. -/
theorem fbm_prom {n : String} {f : FuncId} {p c : Nat} {w : World} (h : fibH p c w) (e : (method 272 23 (ptrV p) n).run Try.prog w = (do let v ← loadVar 28 ⟨p, 0, none⟩; pure (f, v) : Sem (FuncId × Value)).run Try.prog w) : (method 272 23 (ptrV p) n).run Try.prog w = .ok (f, ptrV c) w := by
  rw [e, Sem.run_bind, fbload_cells h]
  rfl
set_option maxRecDepth 100000 in
theorem fbm_steps {p c : Nat} {w : World} (h : fibH p c w) : (method 272 23 (ptrV p) "Steps").run Try.prog w = .ok (13, ptrV c) w := by
  have e : (method 272 23 (ptrV p) "Steps").run Try.prog w = (do let x ← follow [fbtoMeter] 28 (.var ⟨p, 0, none⟩); let r ← receiverAt x.1 x.2 true none; pure (13, r) : Sem (FuncId × Value)).run Try.prog w := by kernel_rfl
  have e1 : (follow [fbtoMeter] 28 (.var ⟨p, 0, none⟩)).run Try.prog w = (do let v ← loadVar 28 ⟨p, 0, none⟩; follow [fbtoMeter] 28 (.val v)).run Try.prog w := by kernel_rfl
  have e2 : (follow [fbtoMeter] 28 (.val (ptrV c))).run Try.prog w = .ok (34, .var ⟨c, 0, none⟩) w := by kernel_rfl
  have e3 : (follow [fbtoMeter] 28 (.var ⟨p, 0, none⟩)).run Try.prog w = .ok (34, .var ⟨c, 0, none⟩) w := by
    rw [e1, Sem.run_bind, fbload_cells h, Result.andThen_ok]
    exact e2
  have e4 : (do let r ← receiverAt 34 (.var ⟨c, 0, none⟩) true none; pure (13, r) : Sem (FuncId × Value)).run Try.prog w = .ok (13, ptrV c) w := by kernel_rfl
  rw [e, Sem.run_bind, e3, Result.andThen_ok]
  exact e4
theorem fib_nests (p c : Nat) : Nests (fun W g => Ob.fibn p c W g) FiG.s FiR (fibH p c) 23 (ptrV p) (fibF p c) where
  there := fib_there
  fit h := fib_fit h
  still W k y x q r g hk := by
    have e : doW W k y x q r = W := by
      unfold doW
      rw [if_neg (by omega), if_neg (by omega), if_neg (by omega), if_neg (by omega), if_neg (by omega), if_neg (by omega)]
    exact ⟨by rw [e]; exact fipaid_none W g, fun e => by omega, fun e => by omega, fun e => by omega, fun e => by omega⟩
  entry x h := fib_ask h fun _ ho => entry_cl x ho
  home {W g w F} x h := by
    have hF := (Ob.fibn p c W g).lt h
    obtain ⟨f, rp, bm, v, n, S, z, I, hf, hst, hg⟩ := h
    have hs := Ob.group.open hg
    refine (hs.call 1 rfl fun _ ho => home_cl x ho).mono ?_
    rintro e w' ⟨rfl, hs1⟩
    have hs2 : Stage F w (fbN p f c rp bm v n W g.s g.T S z (lenR g.R)) w' := hs1
    exact ⟨rfl, fib_close hs2 hF I rfl⟩
  has y h := fib_ask h fun _ ho => fbsame_below (has_cl y ho)
  len y hy h := fib_ask h fun _ ho => fbsame_below (len_cl y hy ho)
  cap h := fib_ask h fun _ ho => fbsame_below (capacity_cl ho)
  steps h := fib_ask h fun _ ho => fbsame_below (steps_cl ho)
  make {W g w F} h := (fib_cells h (W' := makeW W) (by unfold makeW; split <;> rfl) fun _ ho => make_cl ho).mono fun e w' ⟨h1, h2, h3⟩ => ⟨h1, g, fun _ _ _ _ => ⟨h2, fun e => by omega, fun e => by omega, fun e => by omega, fun e => by omega⟩, h3⟩
  ins {W g w F} y x k q _ _ h := (insert_fib y x k q h).mono fun e w' ⟨h1, g', F', h2, h3, h4⟩ => ⟨h1, g', ⟨h2, fun _ hb => (by rw [(h3 hb).2, updR_at]; simp), fun e => by omega, fun e => by omega, fun e => by omega⟩, F', h4⟩
  min {W g w F} y hy h := (min_fib y hy h).mono fun e w' ⟨h1, h2⟩ => ⟨h1, g, fun _ _ _ => ⟨fipaid_none W g, fun e => by omega, fun e => by omega, fun e => by omega, fun e => by omega⟩, F, h2⟩
  ext {W g w F} y hy h := (extract_fib y hy h).mono fun e w' ⟨h1, g', F', h2, h3, h4⟩ => ⟨h1, g', fun _ _ _ => ⟨h2, fun e => by omega, fun e => by omega, fun e => by omega, fun _ hb => (h3 hb).1⟩, F', h4⟩
  dec {W g w F} x k q _ h := (decrease_fib x k q h).mono fun e w' ⟨h1, g', F', h2, h3, h4⟩ => ⟨h1, g', fun _ => ⟨h2, fun e => by omega, fun _ => h3, fun e => by omega, fun e => by omega⟩, F', h4⟩
  del {W g w F} x _ h := (delete_fib x h).mono fun e w' ⟨h1, g', F', h2, _, h4⟩ => ⟨h1, g', fun _ _ _ => ⟨h2, fun e => by omega, fun e => by omega, fun e => by omega, fun e => by omega⟩, F', h4⟩
  meld {W g w F} a b _ _ h := (meld_fib a b h).mono fun e w' ⟨h1, g', F', h2, h3, h4⟩ => ⟨h1, g', fun _ _ => ⟨h2, fun e => by omega, fun e => by omega, fun _ => h3, fun e => by omega⟩, F', h4⟩
  mCap := ⟨fun w h => fbm_prom h (by kernel_rfl), fun _ _ => by kernel_rfl⟩
  mMake := ⟨fun w h => fbm_prom h (by kernel_rfl), fun _ _ => by kernel_rfl⟩
  mIns := ⟨fun _ _ => by kernel_rfl, fun _ _ => by kernel_rfl⟩
  mMin := ⟨fun _ _ => by kernel_rfl, fun _ _ => by kernel_rfl⟩
  mExt := ⟨fun _ _ => by kernel_rfl, fun _ _ => by kernel_rfl⟩
  mDec := ⟨fun _ _ => by kernel_rfl, fun _ _ => by kernel_rfl⟩
  mDel := ⟨fun _ _ => by kernel_rfl, fun _ _ => by kernel_rfl⟩
  mMeld := ⟨fun _ _ => by kernel_rfl, fun _ _ => by kernel_rfl⟩
  mSteps := ⟨fun w h => fbm_steps h, fun _ _ => by kernel_rfl⟩
  mEntry := ⟨fun w h => fbm_prom h (by kernel_rfl), fun _ _ => by kernel_rfl⟩
  mHome := ⟨fun w h => fbm_prom h (by kernel_rfl), fun _ _ => by kernel_rfl⟩
  mHas := ⟨fun w h => fbm_prom h (by kernel_rfl), fun _ _ => by kernel_rfl⟩
  mLen := ⟨fun w h => fbm_prom h (by kernel_rfl), fun _ _ => by kernel_rfl⟩
end Go.Proofs.Ytcjjglaimfhofaa

namespace Go.Proofs.Ytcjjglaimfhofaa
open Go.RowKit Go.Sort

theorem nodup_flat {K : Int → List Int} (h1 : ∀ p q x, x ∈ K p → x ∈ K q → p = q) (h2 : ∀ p, (K p).Nodup) : ∀ {l : List Int}, l.Nodup → (l.flatMap K).Nodup
  | [], _ => List.nodup_nil
  | a :: l, hd => by
    obtain ⟨h3, h4⟩ := List.nodup_cons.1 hd
    rw [List.flatMap_cons, List.nodup_append]
    refine ⟨h2 a, nodup_flat h1 h2 h4, fun x hx y hy e => ?_⟩
    subst e
    obtain ⟨p, hp, hxp⟩ := List.mem_flatMap.1 hy
    exact h3 (h1 a p x hx hxp ▸ hp)
section
variable {n : Nat} {W : WS} {K : Int → List Int} {R : Nat → List Int} {T : Int → Node} {S : RSt} {z : Nat → Int}
/-- All children together are all slots but the topmost ones. -/
theorem FiMid.count (I : FiMid W K R noE) (h : Nat) (hp : 1 ≤ h) : ((slotsW W h).map fun x => (K x).length).sum + (R h).length = lenW W h := by
  have hper : (slotsW W h).Perm (R h ++ (slotsW W h).flatMap K) := by
    have hnd := (homes_all W).nodup h
    refine (List.perm_ext_iff_of_nodup hnd ?_).2 fun y => ?_
    · rw [List.nodup_append]
      refine ⟨I.nd h, nodup_flat I.f.fb.one I.f.fb.nodup hnd, fun x hx y hy e => ?_⟩
      subst e
      obtain ⟨p, _, hxp⟩ := List.mem_flatMap.1 hy
      exact (I.is h x hx).2.2.2.1 p hxp
    · rw [List.mem_append]
      constructor
      · intro hy
        obtain ⟨h1, h2⟩ := mem_slotsW hy
        by_cases ht : fbTop K y
        · have := (I.top y h1 ht).elim id False.elim
          rw [h2] at this
          exact Or.inl this
        · obtain ⟨p, hp2⟩ : ∃ p, y ∈ K p := Classical.byContradiction fun k => ht fun p hp => k ⟨p, hp⟩
          refine Or.inr (List.mem_flatMap.2 ⟨p, ?_, hp2⟩)
          refine ((homes_all W).mem h p hp).2 ?_
          rw [← (I.f.kin p y hp2).2.1, h2]
      · rintro (hy | hy)
        · obtain ⟨_, _, h3, _⟩ := I.is h y hy
          exact ((homes_all W).mem h y hp).2 h3
        · obtain ⟨p, hp2, hy2⟩ := List.mem_flatMap.1 hy
          refine ((homes_all W).mem h y hp).2 ?_
          rw [(I.f.kin p y hy2).2.1]; exact (mem_slotsW hp2).2
  have h1 := hper.length_eq
  rw [List.length_append, List.length_flatMap, (homes_all W).size h hp] at h1
  rw [h1, Nat.add_comm]
end
/-- A call that tells what else there is to tell. -/
theorem Stage.callG {α : Type} {F0 : Nat → Prop} {W w : World} {l : List Ob} {P : Program} {f : FuncId} {args : Array Value} {v : Value} {O : Ob} {O' : α → Ob} {Q : α → Prop} (h : Stage F0 W l w) (i : Nat) (hi : l[i]? = some O)
    (hc : ∀ F, O.holds w F → Calls P f args w fun e w' => e = .returned v ∧ ∃ a F', Q a ∧ (O' a).holds w' F' ∧ Moved F F' w w') : Calls P f args w fun e w' => e = .returned v ∧ ∃ a, Q a ∧ Stage F0 W (l.set i (O' a)) w' := by
  obtain ⟨hbl, F, h1, h2, h3⟩ := h
  exact (hc (F i) (h1 i O hi)).mono fun e w' ⟨he, a, F', hp, ho, m⟩ => ⟨he, a, hp, Stage.swap hbl h1 h2 h3 (Scene.idx hi) ho m⟩
section
variable {w : World} {p c : Nat} {W : WS} {g : FiG} {F : Nat → Prop}
theorem fib_ok (h : (Ob.fibn p c W g).holds w F) : ∃ n S z, FiOk n W g.K g.R g.T S z := by
  obtain ⟨f, rp, bm, v, n, S, z, I, _⟩ := h
  exact ⟨n, S, z, I⟩
/-- How many trees a heap has; none, where there is no such heap. -/
def rootsI (g : FiG) (y : Int) : Nat := if 0 ≤ y then (g.R y.toNat).length else 0
theorem roots_fib (y : Int) (hy : inInt y) (h : (Ob.fibn p c W g).holds w F) : Calls Try.prog 23 #[.pointer (some ⟨p, 0, none⟩), .int .i64 y] w fun e w' => e = .returned (.int .i64 (rootsI g y)) ∧ Below w.heap.size w w' := by
  obtain ⟨f, rp, bm, v, n, S, z, I, _, _, hg⟩ := h
  exact roots_st I (Ob.group.open hg) y hy
theorem degree_fib (x : Int) (h : (Ob.fibn p c W g).holds w F) : Calls Try.prog 28 #[.pointer (some ⟨p, 0, none⟩), .int .i64 x] w fun e w' => e = .returned (.int .i64 (g.K x).length) ∧ Below w.heap.size w w' := by
  obtain ⟨f, rp, bm, v, n, S, z, I, _, _, hg⟩ := h
  exact degree_st I (Ob.group.open hg) x
end
theorem fib_start {W0 w : World} {l : List Ob} (n : Nat) (hn : n ≤ 65536) (hs : Stage (fun _ => False) W0 l w) : Calls Try.prog 11 #[.int .i64 n] w fun e w' => ∃ p c, e = .returned (.tuple #[.pointer (some ⟨p, 0, none⟩), .int .i64 0]) ∧ Stage (fun _ => False) W0 (l ++ [Ob.fibn p c (newW n) fiG0]) w' :=
  (new_fib n hn w).mono fun _ _ ⟨p, c, he, _, h1, h2, h3⟩ => ⟨p, c, he, hs.add h3 h1 h2⟩
/-- The example's nest with so many slots in; with one out again. -/
def fourI (k : Nat) : WS := ⟨[false, true], (List.range 4).map fun (i : Nat) => if i < k then ⟨1, (i : Int) + 1, 0⟩ else .off⟩
def fourE : WS := ⟨[false, true], [.off, ⟨1, 2, 0⟩, ⟨1, 3, 0⟩, ⟨1, 4, 0⟩]⟩
def fourR (k : Nat) : Nat → List Int := fun h => if h = 1 then (List.range k).map fun i : Nat => (i : Int) else []
theorem four_put : ∀ k, k < 4 → putB (fourI k) 1 k = true ∧ putW (fourI k) 1 k ((k : Int) + 1) 0 = fourI (k + 1) := by
  intro k hk
  have : k = 0 ∨ k = 1 ∨ k = 2 ∨ k = 3 := by omega
  rcases this with rfl | rfl | rfl | rfl <;> exact ⟨rfl, rfl⟩
theorem four_roots (k : Nat) : updR (fourR k) 1 (fourR k 1 ++ [(k : Int)]) = fourR (k + 1) := by
  funext h
  unfold updR fourR
  by_cases e : h = 1
  · rw [if_pos e, if_pos rfl, if_pos e, List.range_succ, List.map_append]; rfl
  · rw [if_neg e, if_neg e, if_neg e]
theorem four_ex : minB (fourI 4) 1 = true ∧ minI (fourI 4) 1 = 0 ∧ exW (fourI 4) 1 = fourE := ⟨rfl, rfl, rfl⟩
theorem two_pow_ge {d : Nat} (h : 2 ≤ d) : 4 ≤ 2 ^ d := by
  have := Nat.pow_le_pow_right (n := 2) (by omega) h
  simpa using this
/-- Three slots in unlike trees, of which each is as large as its degree tells: two trees, of two slots and one. -/
theorem four_end {K : Int → List Int} {R : Nat → List Int} (I : FiMid fourE K R noE) (hu : ((R 1).map fun y => (K y).length).Nodup) (hp : powR K (R 1) = 3) : (R 1).length = 2 ∧ (K 1).length + (K 2).length + (K 3).length = 1 := by
  have h2 : (R 1).length = 2 := by
    cases e : R 1 with
    | nil => rw [e] at hp; cases hp
    | cons a l =>
      rw [e] at hp hu
      cases l with
      | nil =>
        simp only [powR] at hp
        rcases Nat.lt_or_ge (K a).length 2 with h | h
        · rcases (show (K a).length = 0 ∨ (K a).length = 1 by omega) with e1 | e1 <;> rw [e1] at hp <;> simp at hp
        · have := two_pow_ge h; omega
      | cons b l =>
        cases l with
        | nil => rfl
        | cons d l =>
          simp only [powR] at hp
          simp only [List.map_cons, List.nodup_cons, List.mem_cons, not_or] at hu
          have h0 : ∀ k : Nat, 1 ≤ 2 ^ k := fun k => Nat.one_le_two_pow
          have := h0 (K a).length
          have := h0 (K b).length
          have := h0 (K d).length
          have ha : (K a).length < 2 := Classical.byContradiction fun h => by have := two_pow_ge (show 2 ≤ (K a).length by omega); omega
          have hb : (K b).length < 2 := Classical.byContradiction fun h => by have := two_pow_ge (show 2 ≤ (K b).length by omega); omega
          have hd : (K d).length < 2 := Classical.byContradiction fun h => by have := two_pow_ge (show 2 ≤ (K d).length by omega); omega
          omega
  refine ⟨h2, ?_⟩
  have h3 := I.count 1 (by omega)
  have e1 : slotsW fourE 1 = [1, 2, 3] := by decide
  have e2 : lenW fourE ((1 : Nat) : Int) = 3 := by decide
  rw [e1, e2, h2] at h3
  simp at h3
  omega
set_option maxRecDepth 100000 in
set_option maxHeartbeats 2000000 in
theorem falive_any (w : World) : Calls Try.prog 10 #[] w fun e w' => e = .returned (.bool true) ∧ Below w.heap.size w w' := by
  go_enter Try.func10, Try.ntmps10
  go_wp2_with fail
  refine (fib_start 4 (by omega) (Stage.start w)).mono ?_
  rintro e w1 ⟨p, c, rfl, hs⟩
  have p0 := (hs.get (i := 0) rfl).elim fun _ ho => fib_there ho
  unfold fibH at p0
  have hM : Calls Try.prog 29 #[ptrV c] w1 fun e w' => e = .returned (.int .i64 1) ∧ Stage (fun _ => False) w [Ob.fibn p c (fourI 0) fiG0] w' := hs.call (v := .int .i64 1) (O' := Ob.fibn p c (fourI 0) fiG0) 0 rfl (fun _ ho => (fib_cells ho (W' := makeW (newW 4)) (by rfl) fun _ ho => make_cl ho).mono fun e w' ⟨h1, _, h3⟩ => ⟨h1, h3⟩)
  go_wp2_with fail
  refine hM.mono ?_
  rintro e w2 ⟨rfl, hs2⟩
  clear hM hs p0
  go_wp2_with fail
  go_loopw [3] (fun i wr => ∃ (k : Nat) (g : FiG), i = .int .i64 k ∧ k ≤ 4 ∧ g.K = (fun _ => []) ∧ g.R = fourR k ∧ Stage (fun _ => False) w [Ob.fibn p c (fourI k) g] wr) (fun i _ => 4 - (intOf i).toNat)
  case atStart => exact ⟨0, fiG0, rfl, by omega, rfl, by funext h; unfold fourR; split <;> rfl, hs2⟩
  case round =>
    clear hs2
    obtain ⟨k, g, rfl, hk, hgK, hgR, hs⟩ := hrel
    by_cases hlt : k < 4
    · have hki : (k : Int) < 4 := by omega
      have hI : Calls Try.prog 30 #[ptrV p, .int .i64 1, .int .i64 k, .agg #[.int .i64 ((k : Int) + 1), .int .u64 0]] wr fun e w'' => e = .returned (.bool true) ∧ ∃ g' : FiG, g'.K = (fun _ => []) ∧ g'.R = fourR (k + 1) ∧ Stage (fun _ => False) w [Ob.fibn p c (fourI (k + 1)) g'] w'' := by
        obtain ⟨e1, e2⟩ := four_put k hlt
        have hC := hs.callG (Q := fun g' : FiG => g'.K = (fun _ => []) ∧ g'.R = fourR (k + 1)) (O' := fun g' => Ob.fibn p c (fourI (k + 1)) g') (v := .bool true) 0 rfl (fun F ho => by
          have h := insert_fib (1 : Int) k ((k : Int) + 1) 0 ho
          rw [e1, e2] at h
          exact h.mono fun e w' ⟨h1, g', F', _, h3, h4⟩ => ⟨h1, g', F', ⟨(h3 rfl).1.trans hgK, by rw [(h3 rfl).2, hgR]; exact four_roots k⟩, h4⟩)
        exact hC.mono fun e w' ⟨h1, g', ⟨h2, h3⟩, h4⟩ => ⟨h1, g', h2, h3, h4⟩
      have e4 : IntKind.i64.wrap ((k : Int) + 1) = (k : Int) + 1 := IntWalk.i64_in _ (by omega)
      clear hs hgK hgR
      go_wp2_with fail
      refine hI.mono ?_
      rintro e w4 ⟨rfl, g', hK', hR', hs4⟩
      clear hI
      go_wp2_with fail
      go_roundw
      case rel => exact ⟨k + 1, g', by go_num, by omega, hK', hR', hs4⟩
      case measure => simp [intOf]; omega
    · have hki : ¬ (k : Int) < 4 := by omega
      have hk4 : k = 4 := by omega
      generalize hkk : (k : Int) = ki at *
      clear hkk
      subst hk4
      have hRo : Calls Try.prog 23 #[ptrV p, .int .i64 1] wr fun e w' => e = .returned (.int .i64 4) ∧ Stage (fun _ => False) w [Ob.fibn p c (fourI 4) g] w' := hs.askB 0 rfl (fun _ ho => by
        have h := roots_fib (1 : Int) ⟨by omega, by omega⟩ ho
        have e : rootsI g 1 = 4 := by unfold rootsI; rw [if_pos (by omega), hgR]; rfl
        rw [e] at h
        exact h)
      clear hs
      go_wp2_with fail
      refine hRo.mono ?_
      rintro e w3 ⟨rfl, hs3⟩
      clear hRo
      have hEx : Calls Try.prog 31 #[ptrV p, .int .i64 1] w3 fun e w' => e = .returned (.tuple #[.int .i64 0, .bool true]) ∧ ∃ g' : FiG, (Unlike g' 1 ∧ powR g'.K (g'.R 1) = 3) ∧ Stage (fun _ => False) w [Ob.fibn p c fourE g'] w' := hs3.callG (Q := fun g' : FiG => Unlike g' 1 ∧ powR g'.K (g'.R 1) = 3) (O' := fun g' => Ob.fibn p c fourE g') 0 rfl (fun F ho => by
        obtain ⟨e1, e2, e3⟩ := four_ex
        have h := extract_fib (1 : Int) ⟨by omega, by omega⟩ ho
        rw [e1, e2, e3] at h
        refine h.mono fun e w' ⟨h1, g', F', _, h3, h4⟩ => ⟨h1, g', F', ⟨(h3 rfl).1, ?_⟩, h4⟩
        have h5 := (h3 rfl).2 (fun q hq => by rw [hgK] at hq; cases hq)
        rw [hgK, hgR] at h5
        exact h5)
      clear hs3 hgK hgR
      go_wp2_with fail
      refine hEx.mono ?_
      rintro e w4 ⟨rfl, g', ⟨hu, hpw⟩, hs4⟩
      clear hEx
      obtain ⟨hr2, hsum⟩ : (g'.R 1).length = 2 ∧ (g'.K 1).length + (g'.K 2).length + (g'.K 3).length = 1 := by
        obtain ⟨F, ho⟩ := hs4.get (i := 0) rfl
        obtain ⟨n, S, z, I⟩ := fib_ok ho
        exact four_end I.mid hu hpw
      have hRo : Calls Try.prog 23 #[ptrV p, .int .i64 1] w4 fun e w' => e = .returned (.int .i64 2) ∧ Stage (fun _ => False) w [Ob.fibn p c fourE g'] w' := hs4.askB 0 rfl (fun _ ho => by
        have h := roots_fib (1 : Int) ⟨by omega, by omega⟩ ho
        have e : rootsI g' 1 = 2 := by unfold rootsI; rw [if_pos (by omega)]; exact hr2
        rw [e] at h
        exact h)
      have hD : ∀ (x : Int) (w5 : World), Stage (fun _ => False) w [Ob.fibn p c fourE g'] w5 → Calls Try.prog 28 #[ptrV p, .int .i64 x] w5 fun e w' => e = .returned (.int .i64 (g'.K x).length) ∧ Stage (fun _ => False) w [Ob.fibn p c fourE g'] w' := fun x w5 h => h.askB 0 rfl (fun _ ho => degree_fib x ho)
      clear hs4 hu hpw hr2
      go_wp2_with fail
      refine hRo.mono ?_
      rintro e w5 ⟨rfl, hs5⟩
      clear hRo
      have h1 := hD 1 w5 hs5
      go_wp2_with fail
      refine h1.mono ?_
      rintro e w6 ⟨rfl, hs6⟩
      clear h1 hs5
      have h1 := hD 2 w6 hs6
      go_wp2_with fail
      refine h1.mono ?_
      rintro e w7 ⟨rfl, hs7⟩
      clear h1 hs6
      have h1 := hD 3 w7 hs7
      go_wp2_with fail
      refine h1.mono ?_
      rintro e w8 ⟨rfl, hs8⟩
      clear h1 hs7 hD
      have hw1 : IntKind.i64.wrap (((g'.K 1).length : Int) + (g'.K 2).length) = ((g'.K 1).length : Int) + (g'.K 2).length := IntWalk.i64_in _ (by omega)
      have hw2 : IntKind.i64.wrap (((g'.K 1).length : Int) + (g'.K 2).length + (g'.K 3).length) = 1 := by
        rw [show ((g'.K 1).length : Int) + (g'.K 2).length + (g'.K 3).length = 1 by omega]; rfl
      clear hsum
      go_wp2_with fail
      go_ret
      exact ⟨rfl, hs8.below⟩
end Go.Proofs.Ytcjjglaimfhofaa
