/- Merged of NestNum, DaryNests, DaryLimitMath, DarySteps. -/
import Derived.Test.YtlbbgdpdaelcdaaNestHalves
import Derived.Test.YtlbbgdpdaelcdaaNestLimits
import Derived.Test.YtlbbgdpdaelcdaaDaryMeld
import Derived.Test.YtlbbgdpdaelcdaaGaugeMath
import Derived.Test.YtlbbgdpdaelcdaaSiftRunsMath
namespace Go.Proofs.Ytlbbgdpdaelcdaa
open Go.RowKit Go.Sort

theorem one_any (w : World) : Calls Try.prog 34 #[.bool true] w fun e w' => e = .returned (.int .i64 1) ∧ w = w' := by
  go_enter Try.func34, Try.ntmps34
  go_wp2
  go_ret
  exact ⟨rfl, rfl⟩
section
variable {W0 w : World} {args : Array Value}
/-- A call that tells 'so', told as 1. -/
theorem runs_one {a b d : Value} (h : Calls Try.prog 35 #[a, b, d] w fun e w' => e = .returned (.bool true) ∧ Below W0.heap.size W0 w') : Calls Try.prog 17 #[a, b, d] w fun e w' => e = .returned (.int .i64 1) ∧ Below W0.heap.size W0 w' := by
  go_enter Try.func17, Try.ntmps17
  go_wp2_with fail
  refine h.mono ?_
  rintro e w1 ⟨rfl, hb⟩
  go_wp2_with fail
  refine (one_any w1).mono ?_
  rintro e w2 ⟨rfl, rfl⟩
  go_wp2_with fail
  go_ret
  exact ⟨rfl, hb⟩
theorem sorts_one {a b : Value} (h : Calls Try.prog 44 #[a, b] w fun e w' => e = .returned (.bool true) ∧ Below W0.heap.size W0 w') : Calls Try.prog 23 #[a, b] w fun e w' => e = .returned (.int .i64 1) ∧ Below W0.heap.size W0 w' := by
  go_enter Try.func23, Try.ntmps23
  go_wp2_with fail
  refine h.mono ?_
  rintro e w1 ⟨rfl, hb⟩
  go_wp2_with fail
  refine (one_any w1).mono ?_
  rintro e w2 ⟨rfl, rfl⟩
  go_wp2_with fail
  go_ret
  exact ⟨rfl, hb⟩
end
section
variable {γ : Type} {O : WS → γ → Ob} {st : γ → Int} {R : WS → Int → Int → Int → γ → γ → Prop} {H : World → Prop} {T : TypeId} {v : Value} {f : NestFns}
theorem limits_num (N : Nests O st R H T v f) (kc dc : Int) (rows : Bool) (hst : ∀ {W g w F}, (O W g).holds w F → 0 ≤ st g ∧ st g ≤ 4611686018427387904) (hR : ∀ {W : WS} {k y x : Int} {g g' : γ}, W.Fit → R W k y x g g' → st g ≤ st g' ∧ st g' ≤ st g + mostW kc dc rows W k y x)
    (m : Nat) (hm : m ≤ 65536) (a0 : Option Addr) (n0 cap : Nat) (hcap : n0 ≤ cap ∧ cap ≤ 9223372036854775807) {g : γ} {W0 w : World} (hact : ActsAt W0 a0 n0) (hs : Stage (fun _ => False) W0 [O (newW m) g] w) :
    Calls Try.prog 18 #[.iface T v, .agg #[.int .i64 kc, .int .i64 dc], .int .i64 m, .bool rows, .slice a0 n0 cap] w fun e w' => e = .returned (.int .i64 1) ∧ Below W0.heap.size W0 w' := by
  obtain ⟨w1, hw1, hs1⟩ : ∃ w1, w.alloc (.cells #[.int .i64 kc, .int .i64 dc] 49) = w1 ∧ Stage (fun _ => False) W0 [O (newW m) g, Ob.box w.heap.size #[.int .i64 kc, .int .i64 dc] 49] w1 := ⟨_, rfl, hs.alloc _ _⟩
  have h := limits_any N kc dc rows hst hR m hm a0 n0 cap hcap hact (hs1.take 1)
  have c0 := hs1.cell 1 rfl (o := 0) rfl
  have c1 := hs1.cell 1 rfl (o := 1) rfl
  clear hs hs1 hact
  go_enter Try.func18, Try.ntmps18
  go_wp2_with fail
  refine h.mono ?_
  rintro e w2 ⟨rfl, hb⟩
  go_wp2_with fail
  refine (one_any w2).mono ?_
  rintro e w3 ⟨rfl, rfl⟩
  go_wp2_with fail
  go_ret
  exact ⟨rfl, hb⟩
theorem halves_num (N : Nests O st R H T v f) (L : List Int) (hn : L.length ≤ 65536) (a0 : Option Addr) (cap : Nat) (hcap : L.length ≤ cap ∧ cap ≤ 9223372036854775807) (hmin : ∀ n ∈ L, -9223372036854775808 ≤ n)
    (B : List Bool) (a1 : Option Addr) (cap1 : Nat) (hcap' : B.length ≤ cap1 ∧ cap1 ≤ 9223372036854775807) (low gone : Int) (hlow : inInt low) (hgone : inInt gone)
    {g : γ} {W0 w : World} (hkey : IntsAt W0 .i64 a0 L) (hbool : BoolsAt W0 a1 B) (hs : Stage (fun _ => False) W0 [O (newW L.length) g] w) :
    Calls Try.prog 24 #[.iface T v, .slice a0 L.length cap, .agg #[.slice a1 B.length cap1, .int .i64 low, .int .i64 gone]] w fun e w' => e = .returned (.int .i64 1) ∧ Below W0.heap.size W0 w' := by
  obtain ⟨w1, hw1, hs1⟩ : ∃ w1, w.alloc (.cells #[.slice a1 B.length cap1, .int .i64 low, .int .i64 gone] 60) = w1 ∧ Stage (fun _ => False) W0 [O (newW L.length) g, Ob.box w.heap.size #[.slice a1 B.length cap1, .int .i64 low, .int .i64 gone] 60] w1 := ⟨_, rfl, hs.alloc _ _⟩
  have h := halves_any N L hn a0 cap hcap hmin B a1 cap1 hcap' low gone hlow hgone hkey hbool (hs1.take 1)
  have c0 := hs1.cell 1 rfl (o := 0) rfl
  have c1 := hs1.cell 1 rfl (o := 1) rfl
  have c2 := hs1.cell 1 rfl (o := 2) rfl
  clear hs hs1 hkey hbool hmin
  generalize L.length = n at *
  generalize B.length = m at *
  go_enter Try.func24, Try.ntmps24
  go_wp2_with fail
  refine h.mono ?_
  rintro e w2 ⟨rfl, hb⟩
  go_wp2_with fail
  refine (one_any w2).mono ?_
  rintro e w3 ⟨rfl, rfl⟩
  go_wp2_with fail
  go_ret
  exact ⟨rfl, hb⟩
end
theorem lt_bits : ∀ m : Nat, m ≤ 9223372036854775807 → m < 2 ^ Lib.bitLen m := by
  intro m
  induction m using Nat.strongRecOn with
  | ind m ih =>
    intro hm
    by_cases h0 : m = 0
    · subst h0; exact Nat.pos_of_ne_zero (by simp)
    · have h1 := bits_half m (by omega) hm
      have h2 := ih (m / 2) (by omega) (by omega)
      rw [h1, Nat.add_comm, Nat.pow_succ]
      omega
end Go.Proofs.Ytlbbgdpdaelcdaa

namespace Go.Proofs.Ytlbbgdpdaelcdaa
open Go.RowKit Go.Sort

/-- How a call turns the steps. -/
def daryR (d : Nat) (W : WS) (k y x s s' : Int) : Prop := s ≤ s' ∧
  (k = 0 ∨ k = 2 → s' = s) ∧ (k = 1 → s' ≤ s + depthI d (lenW W y) ∧ (putB W y x = true → 0 < lenW W y → 0 < s')) ∧ (k = 3 → s' ≤ s + (d * depthI d (lenW W y - 1) + 1 : Nat)) ∧
  (k = 4 ∨ k = 5 → (inW W x = false → s' = s) ∧ s' ≤ s + (d * depthI d (lenW W (cellW W x).home - 1) + 1 : Nat)) ∧ (k = 6 → s' ≤ s + (min (lenW W y) (lenW W x) * depthI d (lenW W y + lenW W x) : Nat)) ∧ (¬ (0 ≤ k ∧ k ≤ 6) → s' = s)
/-- The functions that such a nest's calls enter. -/
def daryF (p c : Nat) : NestFns where
  cap := ⟨12, ptrV c⟩
  make := ⟨20, ptrV c⟩
  ins := ⟨21, ptrV p⟩
  min := ⟨25, ptrV p⟩
  ext := ⟨26, ptrV p⟩
  dec := ⟨27, ptrV p⟩
  del := ⟨28, ptrV p⟩
  meld := ⟨29, ptrV p⟩
  steps := ⟨15, ptrV c⟩
  entry := ⟨124, ptrV c⟩
  home := ⟨47, ptrV c⟩
  has := ⟨66, ptrV c⟩
  len := ⟨30, ptrV c⟩
section
variable {w : World} {p c d : Nat} {W : WS} {s : Int} {F : Nat → Prop}
theorem dary_there (h : (Ob.dary p c d W s).holds w F) : daryH p c w := by
  obtain ⟨bm, Ls, qs, _, _, _, hg⟩ := h
  exact ((Ob.group.open hg).get (i := 0) rfl).elim fun _ h => (dcells_cell h).1
theorem dary_degree (h : (Ob.dary p c d W s).holds w F) : w.cell? ⟨p, 1, none⟩ = some (.int .i64 d) := by
  obtain ⟨bm, Ls, qs, _, _, _, hg⟩ := h
  exact ((Ob.group.open hg).get (i := 0) rfl).elim fun _ h => (dcells_cell h).2.1
theorem dary_fit (h : (Ob.dary p c d W s).holds w F) : W.Fit := by
  obtain ⟨_, _, _, _, h, _⟩ := h; exact h
theorem dary_range (h : (Ob.dary p c d W s).holds w F) : 0 ≤ s ∧ s ≤ 4611686018427387904 := by
  obtain ⟨_, _, _, _, _, h, _⟩ := h; exact h
/-- A call on the cells alone. -/
theorem dary_cells {f : FuncId} {args : Array Value} {v : Value} {W' : WS} (h : (Ob.dary p c d W s).holds w F) (hW : ∀ Ls, DInv W d Ls → DInv W' d Ls)
    (hc : ∀ G, (Ob.cells c W s).holds w G → Calls Try.prog f args w fun e w' => e = .returned v ∧ ∃ G', (Ob.cells c W' s).holds w' G' ∧ Moved G G' w w') :
    Calls Try.prog f args w fun e w' => e = .returned v ∧ ∃ F', (Ob.dary p c d W' s).holds w' F' ∧ Moved F F' w w' := by
  have hF := (Ob.dary p c d W s).lt h
  obtain ⟨bm, Ls, qs, I, hf, _, hg⟩ := h
  have hs := Ob.group.open hg
  refine (hs.call 0 rfl fun _ ho => dcells_call ho hc).mono ?_
  rintro e w' ⟨rfl, hs1⟩
  have hs2 : Stage F w (daryParts p c d bm W' s (dmapO Ls qs) (dfamO d Ls qs)) w' := hs1
  exact ⟨rfl, dary_close hs2 hF (hW Ls I)⟩
/-- .. that only asks. -/
theorem dary_ask {f : FuncId} {args : Array Value} {v : Value} (h : (Ob.dary p c d W s).holds w F) (hc : ∀ G, (Ob.cells c W s).holds w G → Calls Try.prog f args w fun e w' => e = .returned v ∧ Below w.heap.size w w') :
    Calls Try.prog f args w fun e w' => e = .returned v ∧ Below w.heap.size w w' := by
  obtain ⟨bm, Ls, qs, _, _, _, hg⟩ := h
  obtain ⟨G, ho⟩ := (Ob.group.open hg).get (i := 0) rfl
  obtain ⟨G', ho'⟩ := (Ob.group.open ho).get (i := 1) rfl
  exact hc G' ho'
theorem dsame_below {f : FuncId} {args : Array Value} {v : Value} (h : Calls Try.prog f args w fun e w' => e = .returned v ∧ w = w') : Calls Try.prog f args w fun e w' => e = .returned v ∧ Below w.heap.size w w' := h.mono fun _ _ ⟨h1, h2⟩ => ⟨h1, by subst h2; exact Below.refl _ _⟩
theorem degree_da (h : (Ob.dary p c d W s).holds w F) : Calls Try.prog 13 #[.pointer (some ⟨p, 0, none⟩)] w fun e w' => e = .returned (.int .i64 d) ∧ w = w' := by
  have p1 := dary_degree h
  clear h
  go_enter Try.func13, Try.ntmps13
  go_wp2_with fail
  go_ret
  exact ⟨rfl, rfl⟩
theorem depth_da (y : Int) (hy : inInt y) (h : (Ob.dary p c d W s).holds w F) : Calls Try.prog 14 #[.pointer (some ⟨p, 0, none⟩), .int .i64 y] w fun e w' => e = .returned (.int .i64 (depthD d (lenW W y))) ∧ Below w.heap.size w w' := by
  have k0 := cell_regrown (show w.cell? ⟨p, 0, none⟩ = some (.pointer (some ⟨c, 0, none⟩)) from dary_there h)
  have k1 := cell_regrown (dary_degree h)
  have cA : ∀ d' os, Calls Try.prog 30 #[.pointer (some ⟨c, 0, none⟩), .int .i64 y] (grow (redrawn w d') os) fun e w'' => e = .returned (.int .i64 (lenW W y)) ∧ ∃ p : Regrown, w'' = grow (redrawn w p.d) p.os := fun d' os =>
    Calls.regrown_of (dary_ask ((Ob.dary p c d W s).keeps h (Keeps.of_below_all (below_regrown w d' os) (fun _ => False)) (fun _ _ x => x)) fun _ ho => dsame_below (len_cl y hy ho))
  have cB : ∀ d' os, Calls Try.prog 33 #[.int .i64 d, .int .i64 (lenW W y)] (grow (redrawn w d') os) fun e w'' => e = .returned (.int .i64 (depthD d (lenW W y))) ∧ ∃ p : Regrown, w'' = grow (redrawn w p.d) p.os := fun d' os => Calls.regrown_of (dsame_below (depth_c d (lenW W y) _))
  clear h
  generalize depthD d (lenW W y) = D at *
  generalize (lenW W y : Int) = n at *
  go_enter Try.func14, Try.ntmps14
  go_wp2_with fail
  refine wp_region_quiet_below (by kernel_rfl) (by kernel_rfl) ?_
  repeat (go_big_quiet_step (first | with_reducible exact cA _ _ | with_reducible exact cB _ _))
  refine wpQuiet_nil ?_
  intro W3 hw'
  replace hw' := below_regrown' hw'
  go_wp2_with fail
  go_ret
  exact ⟨rfl, hw'⟩
end
abbrev dtoMeter : FieldStep := { struct := 40, index := 0, deref := true }
set_option maxRecDepth 100000 in
theorem dm_steps {p c : Nat} {w : World} (h : daryH p c w) : (method 260 23 (ptrV p) "Steps").run Try.prog w = .ok (15, ptrV c) w := by
  have e : (method 260 23 (ptrV p) "Steps").run Try.prog w = (do let x ← follow [dtoMeter] 29 (.var ⟨p, 0, none⟩); let r ← receiverAt x.1 x.2 true none; pure (15, r) : Sem (FuncId × Value)).run Try.prog w := by kernel_rfl
  have e1 : (follow [dtoMeter] 29 (.var ⟨p, 0, none⟩)).run Try.prog w = (do let v ← loadVar 29 ⟨p, 0, none⟩; follow [dtoMeter] 29 (.val v)).run Try.prog w := by kernel_rfl
  have e2 : (follow [dtoMeter] 29 (.val (ptrV c))).run Try.prog w = .ok (35, .var ⟨c, 0, none⟩) w := by kernel_rfl
  have e3 : (follow [dtoMeter] 29 (.var ⟨p, 0, none⟩)).run Try.prog w = .ok (35, .var ⟨c, 0, none⟩) w := by
    rw [e1, Sem.run_bind, dload_cells h, Result.andThen_ok]
    exact e2
  have e4 : (do let r ← receiverAt 35 (.var ⟨c, 0, none⟩) true none; pure (15, r) : Sem (FuncId × Value)).run Try.prog w = .ok (15, ptrV c) w := by kernel_rfl
  rw [e, Sem.run_bind, e3, Result.andThen_ok]
  exact e4
theorem dary_nests (p c d : Nat) (hd : 2 ≤ d ∧ d ≤ 16) : Nests (fun W s => Ob.dary p c d W s) id (daryR d) (daryH p c) 23 (ptrV p) (daryF p c) where
  there := dary_there
  fit h := dary_fit h
  still W k y x g h := ⟨Int.le_refl _, fun _ => rfl, fun e => by omega, fun e => by omega, fun e => by omega, fun e => by omega, fun _ => rfl⟩
  entry x h := dary_ask h fun _ ho => entry_cl x ho
  home x h := dary_cells h (fun _ I => I) fun _ ho => home_cl x ho
  has y h := dary_ask h fun _ ho => dsame_below (has_cl y ho)
  len y hy h := dary_ask h fun _ ho => dsame_below (len_cl y hy ho)
  cap h := dary_ask h fun _ ho => dsame_below (capacity_cl ho)
  steps h := dary_ask h fun _ ho => dsame_below (steps_cl ho)
  make {W g w F} h := (dary_cells h (W' := makeW W) (fun _ I => I.congr (by unfold makeW; split <;> rfl)) fun _ ho => make_cl ho).mono fun e w' ⟨h1, h2⟩ => ⟨h1, g, fun _ _ => ⟨Int.le_refl _, fun _ => rfl, fun e => by omega, fun e => by omega, fun e => by omega, fun e => by omega, fun _ => rfl⟩, h2⟩
  ins y x k q _ _ h := (insert_da hd y x k q h).mono fun e w' ⟨h1, s', ⟨h2, _, h3⟩, h4⟩ => ⟨h1, s', ⟨h2, fun e => by omega, fun _ => h3, fun e => by omega, fun e => by omega, fun e => by omega, fun e => by omega⟩, h4⟩
  min {W g w F} y hy h := (min_da hd y hy h).mono fun e w' ⟨h1, h2⟩ => ⟨h1, g, fun _ => ⟨Int.le_refl _, fun _ => rfl, fun e => by omega, fun e => by omega, fun e => by omega, fun e => by omega, fun _ => rfl⟩, F, by subst h2; exact ⟨h, Moved.refl _ _⟩⟩
  ext y hy h := (extract_da hd y hy h).mono fun e w' ⟨h1, s', ⟨h2, h3⟩, h4⟩ => ⟨h1, s', fun _ => ⟨h2, fun e => by omega, fun e => by omega, fun _ => h3, fun e => by omega, fun e => by omega, fun e => by omega⟩, h4⟩
  dec {W g w F} x k q _ h := (decrease_da hd x k q h).mono fun e w' ⟨h1, s', ⟨h2, h5, h3⟩, h4⟩ => ⟨h1, s', fun _ => ⟨h2, fun e => by omega, fun e => by omega, fun e => by omega, fun _ => ⟨fun e => h5 (by simp [lowerB, e]), by
    have := Nat.le_mul_of_pos_left (depthI d (lenW W (cellW W x).home - 1)) (show 0 < d by omega)
    omega⟩, fun e => by omega, fun e => by omega⟩, h4⟩
  del x _ h := (delete_da hd x h).mono fun e w' ⟨h1, s', ⟨h2, h5, h3⟩, h4⟩ => ⟨h1, s', fun _ => ⟨h2, fun e => by omega, fun e => by omega, fun e => by omega, fun _ => ⟨h5, h3⟩, fun e => by omega, fun e => by omega⟩, h4⟩
  meld a b _ _ h := (meld_da hd a b h).mono fun e w' ⟨h1, s', ⟨h2, h3⟩, h4⟩ => ⟨h1, s', ⟨h2, fun e => by omega, fun e => by omega, fun e => by omega, fun e => by omega, fun _ => h3, fun e => by omega⟩, h4⟩
  mCap := ⟨fun w h => dm_prom h (by kernel_rfl), fun _ _ => by kernel_rfl⟩
  mMake := ⟨fun w h => dm_prom h (by kernel_rfl), fun _ _ => by kernel_rfl⟩
  mIns := ⟨fun _ _ => by kernel_rfl, fun _ _ => by kernel_rfl⟩
  mMin := ⟨fun _ _ => by kernel_rfl, fun _ _ => by kernel_rfl⟩
  mExt := ⟨fun _ _ => by kernel_rfl, fun _ _ => by kernel_rfl⟩
  mDec := ⟨fun _ _ => by kernel_rfl, fun _ _ => by kernel_rfl⟩
  mDel := ⟨fun _ _ => by kernel_rfl, fun _ _ => by kernel_rfl⟩
  mMeld := ⟨fun _ _ => by kernel_rfl, fun _ _ => by kernel_rfl⟩
  mSteps := ⟨fun w h => dm_steps h, fun _ _ => by kernel_rfl⟩
  mEntry := ⟨fun w h => dm_prom h (by kernel_rfl), fun _ _ => by kernel_rfl⟩
  mHome := ⟨fun w h => dm_prom h (by kernel_rfl), fun _ _ => by kernel_rfl⟩
  mHas := ⟨fun w h => dm_prom h (by kernel_rfl), fun _ _ => by kernel_rfl⟩
  mLen := ⟨fun w h => dm_prom h (by kernel_rfl), fun _ _ => by kernel_rfl⟩
end Go.Proofs.Ytlbbgdpdaelcdaa

namespace Go.Proofs.Ytlbbgdpdaelcdaa

theorem dlt_bits : ∀ m : Nat, m ≤ 9223372036854775807 → m < 2 ^ Lib.bitLen m := by
  intro m
  induction m using Nat.strongRecOn with
  | ind m ih =>
    intro hm
    by_cases h0 : m = 0
    · subst h0; exact Nat.pos_of_ne_zero (by simp)
    · have h1 := bits_half m (by omega) hm
      have h2 := ih (m / 2) (by omega) (by omega)
      rw [h1, Nat.add_comm, Nat.pow_succ]
      omega
/-- How deep a place of n is, d children each, against the digits of one more than n. -/
theorem ddepth_limit {d : Nat} (hd : 2 ≤ d ∧ d ≤ 16) (n : Nat) (h : n ≤ 131072) (i : Nat) (hi : i ≤ n) : ((d * depthI d i + 2 * d : Nat) : Int) ≤ limitI 2 d ((n : Int) + 1) := by
  have hk : checkI 2 d = 0 := by
    unfold checkI fitsB
    have h1 : decide (2 ≤ (d : Int)) = true := decide_eq_true (by omega)
    have h2 : decide ((d : Int) ≤ 16) = true := decide_eq_true (by omega)
    simp [h1, h2]
  have hc : callI 2 d = d := by unfold callI; rw [if_pos hk]; rfl
  have hn : nearI ((n : Int) + 1) = ((n + 1 : Nat) : Int) := by unfold nearI; rw [if_neg (by omega), if_neg (by omega)]; omega
  have hb := dlt_bits (n + 1) (by omega)
  have hdp : depthI d i ≤ Lib.bitLen (n + 1) := depth_log hd.1 _ i (by rw [Nat.pow_succ]; omega)
  unfold limitI bitsI
  rw [hc, hn, Int.toNat_natCast]
  have h3 : d * depthI d i ≤ d * Lib.bitLen (n + 1) := Nat.mul_le_mul_left _ hdp
  have h4 : ((d : Int)) * (2 + (Lib.bitLen (n + 1) : Int)) = ((d * (2 + Lib.bitLen (n + 1)) : Nat) : Int) := by rw [Int.natCast_mul, Int.natCast_add]; rfl
  rw [h4]
  have h5 : d * (2 + Lib.bitLen (n + 1)) = d * 2 + d * Lib.bitLen (n + 1) := Nat.mul_add _ _ _
  omega
theorem depth_mul {d : Nat} (hd : 2 ≤ d) (t : Nat) : t ≤ d * t := Nat.le_mul_of_pos_left _ (by omega)
end Go.Proofs.Ytlbbgdpdaelcdaa

namespace Go.Proofs.Ytlbbgdpdaelcdaa

theorem dary_limit {d : Nat} (hd : 2 ≤ d ∧ d ≤ 16) {W : WS} {k y x s s' : Int} (hf : W.Fit) (h : daryR d W k y x s s') : id s ≤ id s' ∧ id s' ≤ id s + mostW 2 d true W k y x := by
  obtain ⟨h0, h1, h2, h3, h4, h5, h6⟩ := h
  have hl : ∀ z, lenW W z ≤ 65536 := fun z => Nat.le_trans (len_le W z) hf.cap
  refine ⟨h0, ?_⟩
  show s' ≤ s + _
  by_cases e6 : k = 6
  · have hb := h5 e6
    have eA : sizeA W k y x = lenW W y := by simp [sizeA, e6]
    have eB : sizeB W k x = lenW W x := by simp [sizeB, e6]
    unfold mostW
    rw [if_pos ⟨e6, rfl⟩, eA, eB]
    have hdp := ddepth_limit hd (lenW W y + lenW W x) (by have := hl y; have := hl x; omega) _ (Nat.le_refl _)
    rw [Int.natCast_add (lenW W y)] at hdp
    obtain ⟨l0, _⟩ := limit_range 2 d ((lenW W y : Int) + lenW W x + 1)
    generalize limitI 2 d ((lenW W y : Int) + lenW W x + 1) = li at *
    have hm : min (lenW W y : Int) (lenW W x) = (min (lenW W y) (lenW W x) : Nat) := by omega
    rw [hm]
    generalize min (lenW W y) (lenW W x) = mn at *
    have hdm := depth_mul hd.1 (depthI d (lenW W y + lenW W x))
    generalize depthI d (lenW W y + lenW W x) = t at *
    have h7 : (t : Int) ≤ li := by omega
    have h8 : ((mn * t : Nat) : Int) ≤ li * ((mn : Int) + 1) := by
      rw [Int.natCast_mul, Int.mul_comm]
      exact Int.mul_le_mul h7 (show (mn : Int) ≤ (mn : Int) + 1 by omega) (by omega) l0
    omega
  · have eB : sizeB W k x = 0 := by simp [sizeB, e6]
    have eM : mostW 2 d true W k y x = limitI 2 d ((lenW W (heapOf W k y x) : Int) + 1) := by
      unfold mostW
      rw [if_neg (fun h => e6 h.1), eB]
      simp [sizeA, e6]
    rw [eM]
    obtain ⟨l0, _⟩ := limit_range 2 d ((lenW W (heapOf W k y x) : Int) + 1)
    by_cases e45 : k = 4 ∨ k = 5
    · obtain ⟨g1, g2⟩ := h4 e45
      cases hin : inW W x
      · rw [g1 hin]; omega
      · have eH : heapOf W k y x = (cellW W x).home := by simp [heapOf, e45, hin]
        rw [eH] at l0 ⊢
        have hdp := ddepth_limit hd (lenW W (cellW W x).home) (by have := hl (cellW W x).home; omega) (lenW W (cellW W x).home - 1) (by omega)
        omega
    · have eH : heapOf W k y x = y := by simp [heapOf, e45]
      rw [eH] at l0 ⊢
      have hdp := ddepth_limit hd (lenW W y) (by have := hl y; omega) (lenW W y) (Nat.le_refl _)
      have hdp2 := ddepth_limit hd (lenW W y) (by have := hl y; omega) (lenW W y - 1) (by omega)
      have hdm := depth_mul hd.1 (depthI d (lenW W y))
      by_cases e1 : k = 1
      · have := (h2 e1).1; omega
      · by_cases e3 : k = 3
        · have := h3 e3; omega
        · by_cases e0 : k = 0 ∨ k = 2
          · rw [h1 e0]; omega
          · rw [h6 (by omega)]; omega
end Go.Proofs.Ytlbbgdpdaelcdaa
