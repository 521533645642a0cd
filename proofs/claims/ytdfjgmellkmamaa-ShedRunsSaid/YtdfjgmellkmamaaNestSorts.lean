/- Merged of ShedNests, NestSorts. -/
import Derived.Test.YtdfjgmellkmamaaShedMeld
import Derived.Test.YtdfjgmellkmamaaNestLimits
import Derived.Test.YtdfjgmellkmamaaNestRuns
import Derived.Test.YtdfjgmellkmamaaLaw
namespace Go.Proofs.Ytdfjgmellkmamaa
open Go.RowKit Go.Sort

/-- How a call turns the steps. -/
def shedR (W : WS) (k y x s s' : Int) : Prop := s ≤ s' ∧
  (k = 0 ∨ k = 2 → s' = s) ∧ (k = 1 → s' ≤ s + depthI 2 (lenW W y) ∧ (putB W y x = true → 0 < lenW W y → 0 < s')) ∧ (k = 3 → s' ≤ s + (2 * depthI 2 (lenW W y - 1) + 2 : Nat)) ∧
  (k = 4 ∨ k = 5 → (inW W x = false → s' = s) ∧ s' ≤ s + (2 * depthI 2 (lenW W (cellW W x).home - 1) + 2 : Nat)) ∧ (k = 6 → s' ≤ s + (min (lenW W y) (lenW W x) * depthI 2 (lenW W y + lenW W x) : Nat)) ∧ (¬ (0 ≤ k ∧ k ≤ 6) → s' = s)
/-- The functions that a shed's calls enter. -/
def shedF (p c : Nat) : NestFns where
  cap := ⟨10, ptrV c⟩
  make := ⟨18, ptrV c⟩
  ins := ⟨19, ptrV p⟩
  min := ⟨33, ptrV p⟩
  ext := ⟨20, ptrV p⟩
  dec := ⟨97, ptrV p⟩
  del := ⟨34, ptrV p⟩
  meld := ⟨99, ptrV p⟩
  steps := ⟨11, ptrV c⟩
  entry := ⟨98, ptrV c⟩
  home := ⟨52, ptrV c⟩
  has := ⟨12, ptrV c⟩
  len := ⟨51, ptrV c⟩
/-- At p lies a pointer to the cells at c. -/
def shedH (p c : Nat) (w : World) : Prop := w.cell? ⟨p, 0, none⟩ = some (ptrV c)
section
variable {w : World} {p c : Nat} {W : WS} {s : Int} {F : Nat → Prop}
theorem shed_there (h : (Ob.shed p c W s).holds w F) : shedH p c w := by
  obtain ⟨bm, vp, pl, Ls, qs, _, _, _, hg⟩ := h
  exact (Ob.group.open hg).cell 0 rfl (o := 0) rfl
/-- A call on the cells alone. -/
theorem shed_cells {f : FuncId} {args : Array Value} {v : Value} {W' : WS} (h : (Ob.shed p c W s).holds w F) (hW : ∀ pl Ls, SInv W pl Ls → SInv W' pl Ls)
    (hc : ∀ G, (Ob.cells c W s).holds w G → Calls Try.prog f args w fun e w' => e = .returned v ∧ ∃ G', (Ob.cells c W' s).holds w' G' ∧ Moved G G' w w') :
    Calls Try.prog f args w fun e w' => e = .returned v ∧ ∃ F', (Ob.shed p c W' s).holds w' F' ∧ Moved F F' w w' := by
  have hF := (Ob.shed p c W s).lt h
  obtain ⟨bm, vp, pl, Ls, qs, I, hf, _, hg⟩ := h
  have hs := Ob.group.open hg
  refine (hs.call 1 rfl hc).mono ?_
  rintro e w' ⟨rfl, hs1⟩
  have hs2 : Stage F w (shedParts p c bm vp W' s pl (mapO Ls qs) (famO p Ls qs)) w' := hs1
  exact ⟨rfl, shed_close hs2 hF (hW pl Ls I) (parts_fit hs2)⟩
/-- .. that only asks. -/
theorem shed_asks {f : FuncId} {args : Array Value} {v : Value} (h : (Ob.shed p c W s).holds w F) (hc : ∀ G, (Ob.cells c W s).holds w G → Calls Try.prog f args w fun e w' => e = .returned v ∧ Below w.heap.size w w') :
    Calls Try.prog f args w fun e w' => e = .returned v ∧ Below w.heap.size w w' := by
  obtain ⟨bm, vp, pl, Ls, qs, _, _, _, hg⟩ := h
  obtain ⟨G, ho⟩ := (Ob.group.open hg).get (i := 1) rfl
  exact hc G ho
theorem same_below {f : FuncId} {args : Array Value} {v : Value} (h : Calls Try.prog f args w fun e w' => e = .returned v ∧ w = w') : Calls Try.prog f args w fun e w' => e = .returned v ∧ Below w.heap.size w w' := h.mono fun _ _ ⟨h1, h2⟩ => ⟨h1, by subst h2; exact Below.refl _ _⟩
end
theorem load_cells {p c : Nat} {w : World} (h : shedH p c w) : (loadVar 28 ⟨p, 0, none⟩).run Try.prog w = .ok (ptrV c) w := by
  unfold shedH at h
  go_simp
/-- A method of the cells, by the nest. -/
theorem m_prom {n : String} {f : FuncId} {p c : Nat} {w : World} (h : shedH p c w) (e : (method 251 23 (ptrV p) n).run Try.prog w = (do let v ← loadVar 28 ⟨p, 0, none⟩; pure (f, v) : Sem (FuncId × Value)).run Try.prog w) : (method 251 23 (ptrV p) n).run Try.prog w = .ok (f, ptrV c) w := by
  rw [e, Sem.run_bind, load_cells h]
  rfl
abbrev toMeter : FieldStep := { struct := 39, index := 0, deref := true }
set_option maxRecDepth 100000 in
theorem m_steps {p c : Nat} {w : World} (h : shedH p c w) : (method 251 23 (ptrV p) "Steps").run Try.prog w = .ok (11, ptrV c) w := by
  have e : (method 251 23 (ptrV p) "Steps").run Try.prog w = (do let x ← follow [toMeter] 28 (.var ⟨p, 0, none⟩); let r ← receiverAt x.1 x.2 true none; pure (11, r) : Sem (FuncId × Value)).run Try.prog w := by kernel_rfl
  have e1 : (follow [toMeter] 28 (.var ⟨p, 0, none⟩)).run Try.prog w = (do let v ← loadVar 28 ⟨p, 0, none⟩; follow [toMeter] 28 (.val v)).run Try.prog w := by kernel_rfl
  have e2 : (follow [toMeter] 28 (.val (ptrV c))).run Try.prog w = .ok (34, .var ⟨c, 0, none⟩) w := by kernel_rfl
  have e3 : (follow [toMeter] 28 (.var ⟨p, 0, none⟩)).run Try.prog w = .ok (34, .var ⟨c, 0, none⟩) w := by
    rw [e1, Sem.run_bind, load_cells h, Result.andThen_ok]
    exact e2
  have e4 : (do let r ← receiverAt 34 (.var ⟨c, 0, none⟩) true none; pure (11, r) : Sem (FuncId × Value)).run Try.prog w = .ok (11, ptrV c) w := by kernel_rfl
  rw [e, Sem.run_bind, e3, Result.andThen_ok]
  exact e4
theorem shed_nests (p c : Nat) : Nests (fun W s => Ob.shed p c W s) id shedR (shedH p c) 23 (ptrV p) (shedF p c) where
  there := shed_there
  fit h := by obtain ⟨_, _, _, _, _, _, h, _⟩ := h; exact h
  still W k y x g h := ⟨Int.le_refl _, fun _ => rfl, fun e => by omega, fun e => by omega, fun e => by omega, fun e => by omega, fun _ => rfl⟩
  entry x h := shed_asks h fun _ ho => entry_cl x ho
  home x h := shed_cells h (fun _ _ I => I) fun _ ho => home_cl x ho
  has y h := shed_asks h fun _ ho => same_below (has_cl y ho)
  len y hy h := shed_asks h fun _ ho => same_below (len_cl y hy ho)
  cap h := shed_asks h fun _ ho => same_below (capacity_cl ho)
  steps h := shed_asks h fun _ ho => same_below (steps_cl ho)
  make {W g w F} h := (shed_cells h (W' := makeW W) (fun _ _ I => I.congr (by unfold makeW; split <;> rfl)) fun _ ho => make_cl ho).mono fun e w' ⟨h1, h2⟩ => ⟨h1, g, fun _ _ => ⟨Int.le_refl _, fun _ => rfl, fun e => by omega, fun e => by omega, fun e => by omega, fun e => by omega, fun _ => rfl⟩, h2⟩
  ins y x k q _ _ h := (insert_sh y x k q h).mono fun e w' ⟨h1, s', ⟨h2, _, h3⟩, h4⟩ => ⟨h1, s', ⟨h2, fun e => by omega, fun _ => h3, fun e => by omega, fun e => by omega, fun e => by omega, fun e => by omega⟩, h4⟩
  min {W g w F} y hy h := (min_sh y hy h).mono fun e w' ⟨h1, h2⟩ => ⟨h1, g, fun _ => ⟨Int.le_refl _, fun _ => rfl, fun e => by omega, fun e => by omega, fun e => by omega, fun e => by omega, fun _ => rfl⟩, F, by subst h2; exact ⟨h, Moved.refl _ _⟩⟩
  ext y hy h := (extract_sh y hy h).mono fun e w' ⟨h1, s', ⟨h2, h3⟩, h4⟩ => ⟨h1, s', fun _ => ⟨h2, fun e => by omega, fun e => by omega, fun _ => h3, fun e => by omega, fun e => by omega, fun e => by omega⟩, h4⟩
  dec {W g w F} x k q _ h := (decrease_sh x k q h).mono fun e w' ⟨h1, s', ⟨h2, h5, h3⟩, h4⟩ => ⟨h1, s', fun _ => ⟨h2, fun e => by omega, fun e => by omega, fun e => by omega, fun _ => ⟨fun e => h5 (by simp [lowerB, e]), h3⟩, fun e => by omega, fun e => by omega⟩, h4⟩
  del x _ h := (delete_sh x h).mono fun e w' ⟨h1, s', ⟨h2, h5, h3⟩, h4⟩ => ⟨h1, s', fun _ => ⟨h2, fun e => by omega, fun e => by omega, fun e => by omega, fun _ => ⟨h5, h3⟩, fun e => by omega, fun e => by omega⟩, h4⟩
  meld a b _ _ h := (meld_sh a b h).mono fun e w' ⟨h1, s', ⟨h2, h3⟩, h4⟩ => ⟨h1, s', ⟨h2, fun e => by omega, fun e => by omega, fun e => by omega, fun e => by omega, fun _ => h3, fun e => by omega⟩, h4⟩
  mCap := ⟨fun w h => m_prom h (by kernel_rfl), fun _ _ => by kernel_rfl⟩
  mMake := ⟨fun w h => m_prom h (by kernel_rfl), fun _ _ => by kernel_rfl⟩
  mIns := ⟨fun _ _ => by kernel_rfl, fun _ _ => by kernel_rfl⟩
  mMin := ⟨fun _ _ => by kernel_rfl, fun _ _ => by kernel_rfl⟩
  mExt := ⟨fun _ _ => by kernel_rfl, fun _ _ => by kernel_rfl⟩
  mDec := ⟨fun _ _ => by kernel_rfl, fun _ _ => by kernel_rfl⟩
  mDel := ⟨fun _ _ => by kernel_rfl, fun _ _ => by kernel_rfl⟩
  mMeld := ⟨fun _ _ => by kernel_rfl, fun _ _ => by kernel_rfl⟩
  mSteps := ⟨fun w h => m_steps h, fun _ _ => by kernel_rfl⟩
  mEntry := ⟨fun w h => m_prom h (by kernel_rfl), fun _ _ => by kernel_rfl⟩
  mHome := ⟨fun w h => m_prom h (by kernel_rfl), fun _ _ => by kernel_rfl⟩
  mHas := ⟨fun w h => m_prom h (by kernel_rfl), fun _ _ => by kernel_rfl⟩
  mLen := ⟨fun w h => m_prom h (by kernel_rfl), fun _ _ => by kernel_rfl⟩
end Go.Proofs.Ytdfjgmellkmamaa

namespace Go.Proofs.Ytdfjgmellkmamaa
open Go.RowKit Go.Sort

theorem pinv_none {H : List Bool} {h : Nat → Nat} {key : Nat → Int} {q : Int} {n : Nat} {W : WS} (P : PInv H h key q n 0 W) (y : Int) : lenW W y = 0 := by
  rw [len_zero]
  intro i hi hy he
  have := P.rest i (Nat.zero_le _) (by rw [← P.len]; exact hi)
  rw [homeAt, this] at he
  simp [CellD.off] at he
  omega
theorem pinv_has {H : List Bool} {h : Nat → Nat} {key : Nat → Int} {q : Int} {n k : Nat} {W : WS} (P : PInv H h key q n k W) (i : Nat) (h1 : 1 ≤ i) (h2 : i < H.length) (h3 : H.getD i false = true) : hasW W i = true := by
  have : (1 : Int) ≤ i ∧ (i : Int) < H.length := by omega
  unfold hasW
  rw [P.heaps, decide_eq_true this, Bool.true_and, Int.toNat_natCast]
  exact h3
section
variable {γ : Type} {O : WS → γ → Ob} {st : γ → Int} {R : WS → Int → Int → Int → γ → γ → Prop} {H : World → Prop} {T : TypeId} {v : Value} {f : NestFns}
set_option maxRecDepth 100000 in
set_option maxHeartbeats 4000000 in
theorem sorts_any (N : Nests O st R H T v f) (L : List Int) (hn : L.length ≤ 65536) (a0 : Option Addr) (cap : Nat) (hcap : L.length ≤ cap ∧ cap ≤ 9223372036854775807) {g : γ} {W0 w : World} (hkey : IntsAt W0 .i64 a0 L) (hs : Stage (fun _ => False) W0 [O (newW L.length) g] w) :
    Calls Try.prog 26 #[.iface T v, .slice a0 L.length cap] w fun e w' => e = .returned (.bool true) ∧ Below W0.heap.size W0 w' := by
  obtain ⟨hcap1, hcap2⟩ := hcap
  obtain ⟨key, hke⟩ : ∃ key : Nat → Int, key = fun i => L.getD i 0 := ⟨_, rfl⟩
  have hK : ∀ i, i < L.length → ∃ b off, a0 = some ⟨b, off, none⟩ ∧ W0.cell? ⟨b, off + i, none⟩ = some (.int .i64 (key i)) := fun i hi => by rw [hke]; exact hkey i hi
  clear hkey hke
  generalize L.length = n0 at *
  have hH := (hs.get (i := 0) rfl).elim fun _ h => N.there h
  have m1 := N.mMake.find _ hH
  have m2 := N.mMake.enter
  have hM := hs.callEx 0 rfl (fun _ ho => N.make ho)
  have hP := new_pinv n0 (fun _ => 1) key 0
  obtain ⟨hP1, e1⟩ := pinv_make hP (by simp)
  rw [e1] at hM
  generalize makeW (newW n0) = W1 at *
  replace hM : Calls Try.prog f.make.id #[f.make.rv] w fun e w' => e = .returned (.int .i64 1) ∧ ∃ g', (∀ y x, R (newW n0) 0 y x g g') ∧ Stage (fun _ => False) W0 [O W1 g'] w' := hM
  replace hP1 : PInv [false, true] (fun _ => 1) key 0 n0 0 W1 := hP1
  clear hP e1
  go_enter Try.func26, Try.ntmps26
  go_wp2_with fail
  clear m1 m2 hH hs
  refine hM.mono ?_
  rintro e w1 ⟨rfl, g1, _, hs⟩
  clear hM
  have hl0 := pinv_none hP1 1
  have h1i : inInt 1 := ⟨by omega, by omega⟩
  go_wp2_with fail
  go_loopw [20] (fun i wr => ∃ (k : Nat) (W : WS) (g : γ), k ≤ n0 ∧ i = .int .i64 k ∧ PInv [false, true] (fun _ => 1) key 0 n0 k W ∧ lenW W 1 = k ∧ Stage (fun _ => False) W0 [O W g] wr) (fun i _ => n0 - (intOf i).toNat)
  case atStart => exact ⟨0, W1, g1, Nat.zero_le _, rfl, hP1, hl0, hs⟩
  case round =>
    clear hs hP1 hl0
    obtain ⟨k, W, g, hk, rfl, hP, hl, hs⟩ := hrel
    by_cases hlt : k < n0
    · have hki : (k : Int) < n0 := by omega
      obtain ⟨ba, offa, rfl, u0⟩ := hK k hlt
      replace u0 := later hs.below u0
      obtain ⟨q1, hP2, hl2⟩ := pinv_put hP hlt (pinv_has hP 1 (by omega) (by simp) rfl) (Nat.le_refl _)
      have hI := hs.callEx 0 rfl (fun _ ho => N.ins 1 k (key k) 0 h1i ⟨by omega, by omega⟩ ho)
      have q1' : putB W 1 k = true := q1
      rw [q1'] at hI
      have hl3 := hl2 1
      rw [if_pos (show (1 : Int) = ((1 : Nat) : Int) from rfl)] at hl3
      have e1 : putW W 1 k (key k) 0 = putW W (((fun _ => 1 : Nat → Nat) k : Nat) : Int) k (key k) 0 := rfl
      rw [← e1] at hP2 hl3
      generalize putW W 1 k (key k) 0 = W2 at *
      have hH := (hs.get (i := 0) rfl).elim fun _ h => N.there h
      have m1 := N.mIns.find _ hH
      have m2 := N.mIns.enter
      clear q1 q1' hl2 e1
      go_wp2_with fail
      clear m1 m2 hH u0 hs hP
      refine hI.mono ?_
      rintro e w2 ⟨rfl, g2, _, hs⟩
      clear hI
      have hL := hs.askB 0 rfl (fun _ ho => N.len 1 h1i ho)
      have q2 : (lenW W2 1 : Int) = (k : Int) + 1 := by omega
      rw [q2] at hL
      have hH := (hs.get (i := 0) rfl).elim fun _ h => N.there h
      have m1 := N.mLen.find _ hH
      have m2 := N.mLen.enter
      have e3 : IntKind.i64.wrap ((k : Int) + 1) = (k : Int) + 1 := IntWalk.i64_in _ (by omega)
      go_wp2_with fail
      clear m1 m2 hH
      refine hL.mono ?_
      rintro e w3 ⟨rfl, hs3⟩
      clear hL hs
      go_wp2_with fail
      go_roundw
      case rel => exact ⟨k + 1, W2, g2, by omega, by go_num, hP2, by omega, hs3⟩
      case measure => simp [intOf]; omega
    · have hki : ¬ (k : Int) < n0 := by omega
      obtain rfl : k = n0 := by omega
      have hO := oinv_of hP
      go_wp2_with fail
      go_loopw [8, 43] (fun l i wr => ∃ (j : Nat) (last : Int) (V : WS) (g : γ), j ≤ k ∧ i = .int .i64 j ∧ l = .int .i64 last ∧ OInv key 0 k 1 V ∧ lenW V 1 = k - j ∧ (last = -1 ∨ ∃ p : Nat, last = p ∧ p < k ∧ After key V 1 p) ∧ Stage (fun _ => False) W0 [O V g] wr) (fun _ i _ => k - (intOf i).toNat)
      case atStart => exact ⟨0, -1, W, g, Nat.zero_le _, rfl, rfl, hO, by omega, Or.inl rfl, hs⟩
      case round =>
        clear hs hP hO hl
        obtain ⟨j, last, V, g, hj, rfl, rfl, hO, hl, hlast, hs⟩ := hrel
        by_cases hlt : j < k
        · have hji : (j : Int) < k := by omega
          obtain ⟨m, hm⟩ := min_exists (W := V) (h := 1) (by omega)
          have hmin := min_is hm
          obtain ⟨q1, q2⟩ := minI_some hm
          have q3 : exW V 1 = dropW V m := by simp [exW, hm]
          have hmk : m < k := by rw [← hO.len]; exact hmin.lt
          have hO2 := oinv_drop hO hmin
          have hA2 := after_min hO (by omega) hmin
          have hl2 := len_ex hmin 1
          rw [if_pos rfl] at hl2
          have hcmp : last = -1 ∨ ∃ p : Nat, last = p ∧ p < k ∧ (key p < key m ∨ (key p = key m ∧ p < m)) := by
            rcases hlast with h | ⟨p, h, hp, hA⟩
            · exact Or.inl h
            · exact Or.inr ⟨p, h, hp, hA m hmin.lt hmin.home⟩
          have hM := hs.callEx 0 rfl (fun _ ho => N.min 1 h1i ho)
          rw [q1, q2] at hM
          have hH := (hs.get (i := 0) rfl).elim fun _ h => N.there h
          have m1 := N.mMin.find _ hH
          have m2 := N.mMin.enter
          clear hlast
          go_wp2_with fail
          clear m1 m2 hH hs
          refine hM.mono ?_
          rintro e w2 ⟨rfl, g2, _, hs⟩
          clear hM
          replace hs : Stage (fun _ => False) W0 [O V g2] w2 := hs
          have hE := hs.callEx 0 rfl (fun _ ho => N.ext 1 h1i ho)
          rw [q1, q2, q3] at hE
          have hH := (hs.get (i := 0) rfl).elim fun _ h => N.there h
          have m1 := N.mExt.find _ hH
          have m2 := N.mExt.enter
          go_wp2_with fail
          clear m1 m2 hH hs
          refine hE.mono ?_
          rintro e w3 ⟨rfl, g3, _, hs⟩
          clear hE q1 q2 q3 hm hO hmin
          replace hs : Stage (fun _ => False) W0 [O (dropW V m) g3] w3 := hs
          generalize dropW V m = V2 at *
          have hL := hs.askB 0 rfl (fun _ ho => N.len 1 h1i ho)
          have q4 : (lenW V2 1 : Int) = (k : Int) - 1 - j := by clear hcmp; omega
          rw [q4] at hL
          have hH := (hs.get (i := 0) rfl).elim fun _ h => N.there h
          have m1 := N.mLen.find _ hH
          have m2 := N.mLen.enter
          have e3 : IntKind.i64.wrap ((k : Int) - 1) = (k : Int) - 1 := IntWalk.i64_in _ (by omega)
          have e4 : IntKind.i64.wrap ((k : Int) - 1 - j) = (k : Int) - 1 - j := IntWalk.i64_in _ (by omega)
          have hmi : (m : Int) < k := by omega
          have hm0 : ¬ (m : Int) < 0 := by omega
          go_wp2_with fail
          clear m1 m2 hH
          refine hL.mono ?_
          rintro e w4 ⟨rfl, hs4⟩
          clear hL hs
          obtain ⟨ba, offa, rfl, u0⟩ := hK m hmk
          replace u0 := later hs4.below u0
          rcases hcmp with rfl | ⟨p, rfl, hp, hc⟩
          · go_wp2_with fail
            go_quiet (fail)
            go_wp2_with fail
            go_roundw
            case rel => exact ⟨j + 1, m, V2, g3, by omega, by go_num, rfl, hO2, by omega, Or.inr ⟨m, rfl, hmk, hA2⟩, hs4.drewN _⟩
            case measure => simp [intOf]; omega
          · obtain ⟨_, _, e5, u1⟩ := hK p hp
            cases e5
            replace u1 := later hs4.below u1
            have hpi : (p : Int) < k := by omega
            rcases hc with hc | ⟨hc, hpm⟩
            · have c1 : ¬ key m < key p := by omega
              have c2 : (key p == key m) = false := by simp; omega
              go_wp2_with fail
              go_quiet (fail)
              go_wp2_with fail
              go_roundw
              case rel => exact ⟨j + 1, m, V2, g3, by omega, by go_num, rfl, hO2, by omega, Or.inr ⟨m, rfl, hmk, hA2⟩, hs4.drewN _⟩
              case measure => simp [intOf]; omega
            · rw [hc] at u1
              have c3 : ¬ (m : Int) ≤ p := by omega
              generalize key m = km at *
              go_wp2_with fail
              go_quiet (fail)
              go_wp2_with fail
              go_roundw
              case rel => exact ⟨j + 1, m, V2, g3, by omega, by go_num, rfl, hO2, by omega, Or.inr ⟨m, rfl, hmk, hA2⟩, hs4.drewN _⟩
              case measure => simp [intOf]; omega
        · have hji : ¬ (j : Int) < k := by omega
          have hm := min_none_iff.2 (show lenW V 1 = 0 by omega)
          obtain ⟨q1, q2⟩ := minI_none hm
          have hM := hs.callEx 0 rfl (fun _ ho => N.min 1 h1i ho)
          rw [q1, q2] at hM
          have hH := (hs.get (i := 0) rfl).elim fun _ h => N.there h
          have m1 := N.mMin.find _ hH
          have m2 := N.mMin.enter
          go_wp2_with fail
          clear m1 m2 hH hs
          refine hM.mono ?_
          rintro e w2 ⟨rfl, g2, _, hs⟩
          go_wp2_with fail
          go_ret
          exact ⟨rfl, hs.below⟩
end
end Go.Proofs.Ytdfjgmellkmamaa
