/- Merged of CellsLooks, NestMin, NestOrder. -/
import Derived.Test.YtmoolbmbdnkooaaInts
import Derived.Test.YtmoolbmbdnkooaaBinObj
import Derived.Test.YtmoolbmbdnkooaaNestRef8
import Derived.Test.YtmoolbmbdnkooaaNestMinMath
namespace Go.Proofs.Ytmoolbmbdnkooaa
open Go.RowKit Go.Sort

/-- The thing O tells where the slots of W are, by these functions. -/
structure Tells (O : Ob) (H : World → Prop) (W : WS) (fE fH fB fL : Fn) : Prop where
  fit : W.Fit
  there : ∀ {w : World} {F : Nat → Prop}, O.holds w F → H w
  entry : ∀ (x : Int) (w : World) (F : Nat → Prop), O.holds w F → Calls Try.prog fE.id #[fE.rv, .int .i64 x] w fun e w' => e = .returned (.tuple #[.agg #[.int .i64 (cellW W x).key, .int .u64 (cellW W x).seq], .bool (inW W x)]) ∧ Below w.heap.size w w'
  home : ∀ (x : Int) (w : World) (F : Nat → Prop), O.holds w F → Calls Try.prog fH.id #[fH.rv, .int .i64 x] w fun e w' => e = .returned (.tuple #[.int .i64 (cellW W x).home, .bool (inW W x)]) ∧ ∃ F', O.holds w' F' ∧ Moved F F' w w'
  has : ∀ (y : Int) (w : World) (F : Nat → Prop), O.holds w F → Calls Try.prog fB.id #[fB.rv, .int .i64 y] w fun e w' => e = .returned (.bool (hasW W y)) ∧ Below w.heap.size w w'
  len : ∀ (y : Int), -9223372036854775808 ≤ y ∧ y ≤ 9223372036854775807 → ∀ (w : World) (F : Nat → Prop), O.holds w F → Calls Try.prog fL.id #[fL.rv, .int .i64 y] w fun e w' => e = .returned (.int .i64 (lenW W y)) ∧ Below w.heap.size w w'
theorem Stage.nestAt {F0 : Nat → Prop} {W0 w : World} {l : List Ob} (h : Stage F0 W0 l w) (i : Nat) {hv cv : Value} {W : WS} (hi : l[i]? = some (Ob.nest hv cv W)) : NestAt w hv cv W := by
  obtain ⟨F, h, _⟩ := h.get hi; exact h
set_option maxHeartbeats 1000000 in
set_option maxRecDepth 100000 in
theorem looks_any {O : Ob} {H : World → Prop} {v : Value} {W : WS} {T : TypeId} {fE fH fB fL : Fn} (hT : Tells O H W fE fH fB fL)
    (mE : Meth H T v "Entry" fE) (mH : Meth H T v "Home" fH) (mB : Meth H T v "Has" fB) (mL : Meth H T v "Len" fL)
    {hv cv : Value} (k y x q r : Int) (hy : -9223372036854775808 ≤ y ∧ y ≤ 9223372036854775807) {F : Nat → Prop} {w : World} (hs : Stage F w [O, Ob.nest hv cv W] w) :
    Calls Try.prog 46 #[.iface T v, .agg #[hv, cv], .agg #[.int .i64 k, .int .i64 y, .int .i64 x, .int .i64 q, .int .u64 r]] w fun e w' => e = .returned (.bool true) ∧ Stage F w [O, Ob.nest hv cv W] w' := by
  have hN := hs.nestAt 1 rfl
  obtain ⟨a9, c9, hhv, _, _⟩ := hN.hform
  generalize hn9 : W.heaps.length = n9 at hhv
  subst hhv
  obtain ⟨a8, c8, hcv, b81, b82⟩ := hN.cform
  have hl8 := hN.clen
  generalize hn8 : W.cells.length = n8 at hcv b81 hl8
  subst hcv
  obtain ⟨V, hV, hs1⟩ : ∃ V, (w.alloc (.cells #[.slice a9 n9 c9, .slice a8 n8 c8] 55)).alloc (.cells #[.int .i64 k, .int .i64 y, .int .i64 x, .int .i64 q, .int .u64 r] 61) = V ∧
      Stage F w [O, Ob.nest (.slice a9 n9 c9) (.slice a8 n8 c8) W, Ob.box w.heap.size #[.slice a9 n9 c9, .slice a8 n8 c8] 55, Ob.box (w.heap.size + 1) #[.int .i64 k, .int .i64 y, .int .i64 x, .int .i64 q, .int .u64 r] 61] V :=
    ⟨_, rfl, (hs.alloc _ _).alloc' _ _ (size_alloc _ _)⟩
  have a2 := hs1.cell 3 rfl (o := 2) rfl
  have hE := hs1.askB 0 rfl (fun F' ho => hT.entry x V F' ho)
  have hH := (hs1.get (i := 0) rfl).elim fun _ h => hT.there h
  have m1 := mE.find _ hH
  have m2 := mE.enter
  clear hN
  go_enter Try.func46, Try.ntmps46
  go_wp2_with fail
  clear hV m1 m2 hH
  refine hE.mono ?_
  rintro e w1 ⟨rfl, hs2⟩
  clear hE a2 hs1
  have hs3 := hs2.alloc #[.int .i64 (cellW W x).key, .int .u64 (cellW W x).seq] 59
  obtain ⟨V1, hV1, hs3⟩ : ∃ V1, w1.alloc (.cells #[.int .i64 (cellW W x).key, .int .u64 (cellW W x).seq] 59) = V1 ∧ Stage F w _ V1 := ⟨_, rfl, hs3⟩
  have a2 := hs3.cell 3 rfl (o := 2) rfl
  have hH := hs3.call 0 rfl (fun F' ho => hT.home x V1 F' ho)
  have hH := (hs3.get (i := 0) rfl).elim fun _ h => hT.there h
  have m1 := mH.find _ hH
  have m2 := mH.enter
  go_wp2_with fail
  clear hV1 m1 m2 hs2 hH
  refine hH.mono ?_
  rintro e w2 ⟨rfl, hs4⟩
  clear hH a2 hs3
  generalize w1.heap.size = b4 at *
  have a2 := hs4.cell 3 rfl (o := 2) rfl
  have n0 := hs4.cell 2 rfl (o := 0) rfl
  have n1 := hs4.cell 2 rfl (o := 1) rfl
  have hI := refin_any x (hs4.nestAt 1 rfl)
  go_wp2_with fail
  clear a2 n0 n1
  refine hI.mono ?_
  rintro e w3 ⟨rfl, hb⟩
  have hs5 := hs4.later hb
  clear hI hb hs4
  have a1 := cell_regrown (hs5.cell 3 rfl (o := 1) rfl)
  have n0 := cell_regrown (hs5.cell 2 rfl (o := 0) rfl)
  have n1 := cell_regrown (hs5.cell 2 rfl (o := 1) rfl)
  have cA : ∀ d' os, Calls Try.prog fB.id #[fB.rv, .int .i64 y] (grow (redrawn w3 d') os) fun e w'' => e = .returned (.bool (hasW W y)) ∧ ∃ p : Regrown, w'' = grow (redrawn w3 p.d) p.os := fun d' os => Calls.regrown_of (by obtain ⟨F', ho⟩ := (hs5.later (below_regrown w3 d' os)).get (i := 0) rfl; exact hT.has y _ F' ho)
  have cB : ∀ d' os, Calls Try.prog fL.id #[fL.rv, .int .i64 y] (grow (redrawn w3 d') os) fun e w'' => e = .returned (.int .i64 (lenW W y)) ∧ ∃ p : Regrown, w'' = grow (redrawn w3 p.d) p.os := fun d' os => Calls.regrown_of (by obtain ⟨F', ho⟩ := (hs5.later (below_regrown w3 d' os)).get (i := 0) rfl; exact hT.len y hy _ F' ho)
  have cC : ∀ d' os, Calls Try.prog 48 #[.agg #[.slice a9 n9 c9, .slice a8 n8 c8], .int .i64 y] (grow (redrawn w3 d') os) fun e w'' => e = .returned (.bool (hasW W y)) ∧ ∃ p : Regrown, w'' = grow (redrawn w3 p.d) p.os := fun d' os => Calls.regrown_of (refhas_any y ((hs5.nestAt 1 rfl).later (below_regrown w3 d' os)))
  have cD : ∀ d' os, Calls Try.prog 22 #[.agg #[.slice a9 n9 c9, .slice a8 n8 c8], .int .i64 y] (grow (redrawn w3 d') os) fun e w'' => e = .returned (.int .i64 (lenW W y)) ∧ ∃ p : Regrown, w'' = grow (redrawn w3 p.d) p.os := fun d' os => Calls.regrown_of (reflen_any y ((hs5.nestAt 1 rfl).later (below_regrown w3 d' os)))
  have hH : ∀ d' os, H (grow (redrawn w3 d') os) := fun d' os => ((hs5.later (below_regrown w3 d' os)).get (i := 0) rfl).elim fun _ h => hT.there h
  have m1 := fun d' os => mB.find _ (hH d' os)
  have m2 := mB.enter
  have m3 := fun d' os => mL.find _ (hH d' os)
  have m4 := mL.enter
  go_wp2_with fail
  refine wp_region_quiet_below (by kernel_rfl) (by kernel_rfl) ?_
  repeat (first | go_big_quiet_step (first | with_reducible exact cA _ _ | with_reducible exact cB _ _ | with_reducible exact cC _ _ | with_reducible exact cD _ _) | quiet_step (fail))
  refine wpQuiet_nil ?_
  intro W3 hw
  replace hw := below_regrown' hw
  have hs6 := hs5.later hw
  clear hH cA cB cC cD m1 m2 m3 m4 a1 n0 n1 hs5 hw
  have e0 := hs6.cell 4 rfl (o := 0) rfl
  have e1 := hs6.cell 4 rfl (o := 1) rfl
  have a2 := hs6.cell 3 rfl (o := 2) rfl
  have n1 := hs6.cell 2 rfl (o := 1) rfl
  cases hin : inW W x
  · have ho := hT.fit.cellOff hin
    rw [ho]
    replace e0 : W3.cell? ⟨b4, 0, none⟩ = some (.int .i64 0) := by rw [ho] at e0; exact e0
    replace e1 : W3.cell? ⟨b4, 1, none⟩ = some (.int .u64 0) := by rw [ho] at e1; exact e1
    have h0 : (CellD.off.home : Int) = 0 := rfl
    clear ho
    go_wp2_with fail
    go_ret
    exact ⟨rfl, hs6.take 2⟩
  · obtain ⟨i, rfl, hi, _⟩ := in_nat hin
    have hc := cell_nat W i hi
    rw [hc] at e0 e1
    rw [hc]
    obtain ⟨g, c8', hcc, hg, u0, u1, u2⟩ := (hs6.nestAt 1 rfl).ccell i hi
    rw [hn8] at hcc
    cases hcc
    generalize W.cells.getD i .off = c at *
    have hi8 : i < n8 := by omega
    clear hc
    go_wp2_with fail
    go_quiet (fail)
    go_wp2_with fail
    go_ret
    exact ⟨rfl, (hs6.drewN _).take 2⟩

end Go.Proofs.Ytmoolbmbdnkooaa

namespace Go.Proofs.Ytmoolbmbdnkooaa
open Go.RowKit Go.Sort

def minI (W : WS) (h : Int) : Int := match minW W h with | none => 0 | some m => m
def minB (W : WS) (h : Int) : Bool := (minW W h).isSome
theorem minI_some {W : WS} {h : Int} {m : Nat} (e : minW W h = some m) : minI W h = m ∧ minB W h = true := by simp [minI, minB, e]
theorem minI_none {W : WS} {h : Int} (e : minW W h = none) : minI W h = 0 ∧ minB W h = false := by simp [minI, minB, e]
def bestI (W : WS) (h : Int) (k : Nat) : Int := match minTo W h k with | none => -1 | some m => m
theorem best_zero (W : WS) (h : Int) : bestI W h 0 = -1 := rfl
theorem best_lt (W : WS) (h : Int) (k : Nat) (hk : k ≤ W.cells.length) : -1 ≤ bestI W h k ∧ bestI W h k < k := by
  unfold bestI
  cases e : minTo W h k with
  | none => simp only; omega
  | some m => have := (minTo_some k hk m e).1; simp only; omega
theorem best_no {W : WS} {h : Int} {k : Nat} (hc : ¬ (0 < h ∧ ((W.cells.getD k .off).home : Int) = h)) : bestI W h (k + 1) = bestI W h k := by
  unfold bestI
  rw [minTo, if_neg (show ¬ (0 < h ∧ (homeAt W k : Int) = h) from hc)]
theorem best_first {W : WS} {h : Int} {k : Nat} (hc : 0 < h ∧ ((W.cells.getD k .off).home : Int) = h) (hb : bestI W h k < 0) : bestI W h (k + 1) = k := by
  unfold bestI at *
  rw [minTo, if_pos (show 0 < h ∧ (homeAt W k : Int) = h from hc)]
  cases e : minTo W h k with
  | none => rfl
  | some m => rw [e] at hb; simp only at hb; omega
theorem best_next {W : WS} {h : Int} {k : Nat} (hc : 0 < h ∧ ((W.cells.getD k .off).home : Int) = h) (hb : ¬ bestI W h k < 0) : bestI W h (k + 1) = if aheadW W k (bestI W h k) then (k : Int) else bestI W h k := by
  unfold bestI at *
  rw [minTo, if_pos (show 0 < h ∧ (homeAt W k : Int) = h from hc)]
  cases e : minTo W h k with
  | none => rw [e] at hb; simp at hb
  | some m => simp only; cases aheadW W k m <;> rfl
theorem best_end (W : WS) (h : Int) : (bestI W h W.cells.length < 0 → minI W h = 0 ∧ minB W h = false) ∧ (0 ≤ bestI W h W.cells.length → minI W h = bestI W h W.cells.length ∧ minB W h = true) := by
  unfold bestI minI minB minW
  cases e : minTo W h W.cells.length with
  | none => simp
  | some m => simp
section
variable {w : World} {hv cv : Value} {W : WS}
theorem refmin_any (y : Int) (h : NestAt w hv cv W) : Calls Try.prog 34 #[.agg #[hv, cv], .int .i64 y] w fun e w' => e = .returned (.tuple #[.int .i64 (minI W y), .bool (minB W y)]) ∧ Below w.heap.size w w' := by
  obtain ⟨a9, c9, hhv, _, _⟩ := h.hform
  generalize hn9 : W.heaps.length = n9 at hhv
  subst hhv
  obtain ⟨a8, c8, hcv, b81, b82⟩ := h.cform
  have hcl := h.clen
  obtain ⟨f, hf⟩ : ∃ f : Nat → Int, f = bestI W y := ⟨_, rfl⟩
  obtain ⟨g, hg⟩ : ∃ g : Nat → Int → Bool, g = fun (k : Nat) b => aheadW W k b := ⟨_, rfl⟩
  have f0 : f 0 = -1 := by rw [hf]; rfl
  have fle : ∀ k, k ≤ W.cells.length → -1 ≤ f k ∧ f k < k := fun k hk => by rw [hf]; exact best_lt W y k hk
  have fno : ∀ k, ¬ (0 < y ∧ ((W.cells.getD k .off).home : Int) = y) → f (k + 1) = f k := fun k hk => by rw [hf]; exact best_no hk
  have ffirst : ∀ k, (0 < y ∧ ((W.cells.getD k .off).home : Int) = y) → f k < 0 → f (k + 1) = k := fun k hk => by rw [hf]; exact best_first hk
  have fnext : ∀ k, (0 < y ∧ ((W.cells.getD k .off).home : Int) = y) → 0 ≤ f k → f (k + 1) = if g k (f k) then (k : Int) else f k := fun k hk hb => by rw [hf] at hb ⊢; rw [hg]; exact best_next hk (by omega)
  have fend := best_end W y
  rw [← hf] at fend
  generalize minI W y = M at *
  generalize minB W y = B at *
  have hahead : ∀ (w1 : World) (k : Nat) (b : Int), NestAt w1 (.slice a9 n9 c9) cv W → Calls Try.prog 51 #[.agg #[.slice a9 n9 c9, cv], .int .i64 k, .int .i64 b] w1 fun e w' => e = .returned (.bool (g k b)) ∧ Below w1.heap.size w1 w' := fun w1 k b h1 => by rw [hg]; exact refahead_any k b h1
  clear hg hf
  generalize hn8 : W.cells.length = n8 at hcv b81 hcl fle fend
  subst hcv
  obtain ⟨V, hV, hs⟩ : ∃ V, w.alloc (.cells #[.slice a9 n9 c9, .slice a8 n8 c8] 55) = V ∧ Stage (fun _ => False) w [Ob.box w.heap.size #[.slice a9 n9 c9, .slice a8 n8 c8] 55] V := ⟨_, rfl, (Stage.start w).alloc _ _⟩
  have k1 := hs.cell 0 rfl (o := 1) rfl
  go_enter Try.func34, Try.ntmps34
  go_wp2_with fail
  clear hV
  generalize w.heap.size = b0 at *
  go_loopw [6, 12] (fun c i wr => ∃ k : Nat, k ≤ n8 ∧ i = .int .i64 k ∧ c = .int .i64 (f k) ∧ Stage (fun _ => False) w [Ob.box b0 #[.slice a9 n9 c9, .slice a8 n8 c8] 55] wr) (fun _ i _ => n8 - (intOf i).toNat)
  case atStart => exact ⟨0, Nat.zero_le _, rfl, by rw [f0], hs⟩
  case round =>
    clear hs k1
    obtain ⟨k, hk, rfl, rfl, hs⟩ := hrel
    have hfk := fle k hk
    by_cases hlt : k < n8
    · have hki : (k : Int) < n8 := by omega
      obtain ⟨g8, c8', hcc, hg, u0, u1, u2⟩ := (h.later hs.below).ccell k (by omega)
      rw [hn8] at hcc
      cases hcc
      have y2 := fno k
      have y3 := ffirst k
      have y4 := fnext k
      generalize W.cells.getD k .off = d at *
      obtain ⟨w1, hw1, hs1⟩ : ∃ w1, wr.alloc (.cells #[.int .i64 d.home, .int .i64 d.key, .int .u64 d.seq] 93) = w1 ∧ Stage (fun _ => False) w [Ob.box b0 #[.slice a9 n9 c9, .slice (some ⟨g8, 0, none⟩) n8 c8] 55, Ob.box wr.heap.size #[.int .i64 d.home, .int .i64 d.key, .int .u64 d.seq] 93] w1 := ⟨_, rfl, hs.alloc _ _⟩
      have d0 := hs1.cell 1 rfl (o := 0) rfl
      have d1 := hs1.cell 1 rfl (o := 1) rfl
      have d2 := hs1.cell 1 rfl (o := 2) rfl
      have k0 := hs1.cell 0 rfl (o := 0) rfl
      have k1 := hs1.cell 0 rfl (o := 1) rfl
      by_cases hc : 0 < y ∧ (d.home : Int) = y
      · have e' : ((d.home : Int) == y) = true := by simpa using hc.2
        have hy := hc.1
        by_cases hb : f k < 0
        · have q := Lib.hid (y3 hc hb)
          clear y2 y3 y4 hc
          go_wp2_with fail
          go_roundw
          case rel => exact ⟨k + 1, by omega, by go_num, by rw [q.out], hs1.take 1⟩
          case measure => simp [intOf]; omega
        · have q := Lib.hid (y4 hc (by omega))
          have hA := hahead w1 k (f k) (h.later hs1.below)
          clear y2 y3 y4 hc
          go_wp2_with fail
          refine hA.mono ?_
          rintro e w2 ⟨rfl, hb2⟩
          have hs2 := hs1.later hb2
          clear hA hw1
          cases hgk : g k (f k)
          · have q2 := q.out
            rw [hgk] at q2
            replace q2 := Lib.hid q2
            clear q
            go_wp2_with fail
            go_roundw
            case rel => exact ⟨k + 1, by omega, by go_num, by rw [q2.out]; rfl, hs2.take 1⟩
            case measure => simp [intOf]; omega
          · have q2 := q.out
            rw [hgk] at q2
            replace q2 := Lib.hid q2
            clear q
            go_wp2_with fail
            go_roundw
            case rel => exact ⟨k + 1, by omega, by go_num, by rw [q2.out]; rfl, hs2.take 1⟩
            case measure => simp [intOf]; omega
      · have q := Lib.hid (y2 hc)
        clear y2 y3 y4
        by_cases hy : 0 < y
        · have e' : ((d.home : Int) == y) = false := by simpa using fun e => hc ⟨hy, e⟩
          clear hc
          go_wp2_with fail
          go_roundw
          case rel => exact ⟨k + 1, by omega, by go_num, by rw [q.out], hs1.take 1⟩
          case measure => simp [intOf]; omega
        · clear hc
          go_wp2_with fail
          go_roundw
          case rel => exact ⟨k + 1, by omega, by go_num, by rw [q.out], hs1.take 1⟩
          case measure => simp [intOf]; omega
    · have hki : ¬ (k : Int) < n8 := by omega
      obtain rfl : k = n8 := by omega
      by_cases hb : f k < 0
      · obtain ⟨rfl, rfl⟩ := fend.1 hb
        clear fend
        go_wp2_with fail
        exact bodyPost_ret (v := .tuple #[.int .i64 0, .bool false]) (by simp [results, Try.results34, go_sem]) rfl ⟨rfl, hs.below⟩
      · obtain ⟨rfl, rfl⟩ := fend.2 (by omega)
        clear fend
        go_wp2_with fail
        exact bodyPost_ret (v := .tuple #[.int .i64 (f k), .bool true]) (by simp [results, Try.results34, go_sem]) rfl ⟨rfl, hs.below⟩
end
end Go.Proofs.Ytmoolbmbdnkooaa

namespace Go.Proofs.Ytmoolbmbdnkooaa
open Go.RowKit Go.Sort

def natC (x : Nat) : List Value := [.int .i64 x]
theorem natC_len (x : Nat) : (natC x).length = 1 := rfl
theorem nats_one (l : List Nat) : ∀ u ∈ cellsBy natC l, u.oneCell' = true := by
  intro u hu
  unfold cellsBy at hu
  rw [List.mem_flatMap] at hu
  obtain ⟨p, _, hp⟩ := hu
  simp only [natC, List.mem_cons, List.not_mem_nil, or_false] at hp
  subst hp; rfl
theorem info_order : (Try.prog.info? 3).map (fun i => (i.zero, i.size, i.bytes)) = some (some (.int .i64 0), 1, 8) := by kernel_rfl
def lenOf : Value → Nat | .slice _ n _ => n | _ => 0
/-- The order that is told: a row of its own. -/
def OrderPost (w : World) (l : List Nat) (e : Ending) (w' : World) : Prop := ∃ a c, e = .returned (.slice a l.length c) ∧ Stage (fun _ => False) w [Ob.row 0 3 1 (.slice a l.length c) l.length (cellsBy natC l)] w'
theorem order_le (W : WS) (y : Int) : (orderW W y).length ≤ W.cells.length := by rw [order_len]; exact len_le W y
theorem drop_cells (V : WS) (x : Int) : (dropW V x).cells.length = V.cells.length := by
  unfold dropW
  split
  · simp
  · rfl
section
variable {w : World} {hv cv : Value} {W : WS}
set_option maxHeartbeats 1000000 in
theorem reforder_any (y : Int) (h : NestAt w hv cv W) : Calls Try.prog 47 #[.agg #[hv, cv], .int .i64 y] w (OrderPost w (orderW W y)) := by
  obtain ⟨a9, c9, hhv, _, _⟩ := h.hform
  obtain ⟨a8, c8, hcv, b81, b82⟩ := h.cform
  have hcl := h.clen
  have hol := order_le W y
  obtain ⟨L, hL⟩ : ∃ L, L = orderW W y := ⟨_, rfl⟩
  rw [← hL] at hol ⊢
  generalize hn9 : W.heaps.length = n9 at hhv
  subst hhv
  generalize hn8 : W.cells.length = n8 at hcv b81 hcl hol
  subst hcv
  obtain ⟨V, hV, hs⟩ : ∃ V, (w.alloc (.cells #[.slice a9 n9 c9, .slice a8 n8 c8] 55)).alloc (.cells #[] 3) = V ∧ Stage (fun _ => False) w [Ob.box w.heap.size #[.slice a9 n9 c9, .slice a8 n8 c8] 55, Ob.row 0 3 1 (.slice (some ⟨w.heap.size + 1, 0, none⟩) 0 0) 0 (cellsBy natC [])] V :=
    ⟨_, rfl, ((Stage.start w).alloc _ _).emptyRow' _ _ (size_alloc _ _)⟩
  have hap : ∀ k, nestF (.slice a9 n9 c9) (.slice a8 n8 c8) k → k ≠ w.heap.size ∧ ¬ rowF (.slice (some ⟨w.heap.size + 1, 0, none⟩) 0 0) k := fun k hk => by
    have := h.lt k hk
    refine ⟨by omega, fun hr => ?_⟩
    have : w.heap.size + 1 = k := by simpa [rowF, Value.ownBlock] using hr
    omega
  have hN := h.later hs.below
  obtain ⟨i0, hi0, hzz⟩ := Option.map_eq_some_iff.1 info_order
  simp only [Prod.mk.injEq] at hzz
  obtain ⟨hz0, hz1, hz2⟩ := hzz
  go_enter Try.func47, Try.ntmps47
  go_wp2_with fail
  clear hV
  have hbl := hs.size
  generalize w.heap.size = b0 at *
  go_loopw [5] (fun v wr => ∃ (U : WS) (l : List Nat) (ha : Option Addr) (hn hc : Nat) (ca : Option Addr) (cn cc : Nat) (a : Option Addr) (c : Nat), v = .slice a l.length c ∧ U.cells.length = n8 ∧ l ++ orderW U y = L ∧ NestAt wr (.slice ha hn hc) (.slice ca cn cc) U ∧
      (∀ k, nestF (.slice ha hn hc) (.slice ca cn cc) k → k ≠ b0 ∧ ¬ rowF (.slice a l.length c) k) ∧ Stage (fun _ => False) w [Ob.box b0 #[.slice ha hn hc, .slice ca cn cc] 55, Ob.row 0 3 1 (.slice a l.length c) l.length (cellsBy natC l)] wr) (fun v _ => L.length - lenOf v)
  case atStart => exact ⟨W, [], a9, n9, c9, a8, n8, c8, _, 0, rfl, hn8, hL.symm, hN, hap, hs⟩
  case round =>
    clear hs hap hN hL
    obtain ⟨U, l, ha, hn, hc, ca, cn, cc, a, c, rfl, hUl, hU, hN, hap, hs⟩ := hrel
    have k0 := hs.cell 0 rfl (o := 0) rfl
    have k1 := hs.cell 0 rfl (o := 1) rfl
    go_wp2_with fail
    refine (refmin_any y hN).mono ?_
    rintro e w1 ⟨rfl, hb1⟩
    clear k0 k1
    have hs1 := hs.later hb1
    have hN1 := hN.later hb1
    clear hs hN hb1
    cases hm : minW U y with
    | none =>
      obtain ⟨q1, q2⟩ := minI_none hm
      rw [q1, q2]
      have hl : l = L := by rw [order_none hm, List.append_nil] at hU; exact hU
      subst hl
      go_wp2_with fail
      go_ret
      exact ⟨a, c, rfl, hs1.select [1] (by decide) rfl⟩
    | some m =>
      obtain ⟨q1, q2⟩ := minI_some hm
      rw [q1, q2]
      have ho := order_some hm
      rw [ho] at hU
      have hll : l.length < L.length := by rw [← hU]; simp
      have hs2 := hs1.later (below_alloc1 (o := .cells #[.int .i64 m] 3) (Below.refl _ _))
      have hN2 := hN1.later (below_alloc1 (o := .cells #[.int .i64 m] 3) (Below.refl _ _))
      have k0 := hs1.cell 0 rfl (o := 0) rfl
      have k1 := hs1.cell 0 rfl (o := 1) rfl
      go_wp2_with (at_builtin; refine wpList_append_any _ rfl _ _ 65 rfl 0 3 i0 (.int .i64 0) 1 8 Try.underlying65 hi0 hz0 hz1 hz2 rfl (by decide) _ l.length (cellsBy natC l) rfl (hs2.owns 1 rfl) _ 1 [.int .i64 m] rfl (reads_new w1 #[.int .i64 m] _ 1 1 _ rfl rfl) (by intro u hu; simp at hu; subst hu; rfl) (by unfold maxLen; omega) (by omega) (Nat.zero_le _) ?_)
      intro v1 w2 ho1 hg1 hl1
      clear k0 k1
      have hs3 := hs2.grown 1 rfl (m := l.length + 1) (ys := cellsBy natC (l ++ [m])) (by rw [cellsBy_append, cellsBy_one]; exact ho1) hg1 hl1
      have hN3 := hN2.keeps (grown_keeps hg1) (fun b hb => (hap b hb).2)
      have hap3 : ∀ k, nestF (.slice ha hn hc) (.slice ca cn cc) k → k ≠ b0 ∧ ¬ rowF v1 k := fun k hk => ⟨(hap k hk).1, fun hr => by
        rcases hl1 k hr with h1 | h1
        · exact (hap k hk).2 h1
        · have := hN2.lt k hk; have := size_alloc w1 (.cells #[.int .i64 m] 3); omega⟩
      obtain ⟨a1, c1, rfl, _, _⟩ := owns_form (hs3.owns 1 rfl)
      clear ho1 hg1 hl1 hs2 hN2 hs1 hN1 hap
      replace hs3 : Stage (fun _ => False) w [Ob.box b0 #[.slice ha hn hc, .slice ca cn cc] 55, Ob.row 0 3 1 (.slice a1 (l.length + 1) c1) (l.length + 1) (cellsBy natC (l ++ [m]))] w2 := hs3
      have k0 := hs3.cell 0 rfl (o := 0) rfl
      have k1 := hs3.cell 0 rfl (o := 1) rfl
      have hD := refdrop_any m hN3
      go_wp2_with fail
      refine hD.mono ?_
      rintro e w3 ⟨hv', cv', rfl, hb4, hN4, hF4⟩
      obtain ⟨ha', hc', rfl, _, _⟩ := hN4.hform
      obtain ⟨ca', cc', hcv', _, _⟩ := hN4.cform
      have hUd : (dropW U m).cells.length = n8 := by rw [drop_cells]; exact hUl
      rw [hUd] at hcv'
      subst hcv'
      generalize dropW U m = U' at *
      generalize U'.heaps.length = hn' at *
      have hb0 := hs3.lt 0 rfl
      have hs4 := hs3.later hb4
      have hr4 : ∀ k, rowF (.slice a1 (l.length + 1) c1) k → k < w2.heap.size := fun k hk => ((hs3.owns 1 rfl).lt k hk).2
      have hap4 : ∀ k, nestF (.slice ha' hn' hc') (.slice ca' n8 cc') k → k ≠ b0 ∧ ¬ rowF (.slice a1 (l.length + 1) c1) k := fun k hk => by
        rcases hF4 k hk with h1 | h1
        · exact hap3 k h1
        · exact ⟨by omega, fun hr => by have := hr4 k hr; omega⟩
      clear k0 k1 hD hs3 hF4 hap3 hr4 hN3
      have g0 := hs4.free 0 rfl 0
      have g1 := hs4.free 0 rfl 1
      have k0 := hs4.cell 0 rfl (o := 0) rfl
      have k1 := hs4.cell 0 rfl (o := 1) rfl
      have l0 := hs4.lt 0 rfl
      obtain ⟨w4, hw4, hs5, hN5⟩ : ∃ w4, (w3.setCell ⟨b0, 0, none⟩ (.slice ha' hn' hc')).setCell ⟨b0, 1, none⟩ (.slice ca' n8 cc') = w4 ∧ Stage (fun _ => False) w [Ob.box b0 #[.slice ha' hn' hc', .slice ca' n8 cc'] 55, Ob.row 0 3 1 (.slice a1 (l.length + 1) c1) (l.length + 1) (cellsBy natC (l ++ [m]))] w4 ∧ NestAt w4 (.slice ha' hn' hc') (.slice ca' n8 cc') U' :=
        ⟨_, rfl, (hs4.store 0 rfl 0 _).store 0 rfl 1 _, hN4.keeps (((Keeps.refl (· = b0) _).setCell ⟨b0, 0, none⟩ (Or.inl rfl) _).setCell ⟨b0, 1, none⟩ (Or.inl rfl) _) (fun b hb e => (hap4 b hb).1 e)⟩
      go_wp2_with fail
      go_roundw
      case rel =>
        refine ⟨U', l ++ [m], ha', hn', hc', ca', n8, cc', a1, c1, by simp, ?_, by rw [List.append_assoc]; exact hU, hN5, by rw [List.length_append]; exact hap4, by rw [List.length_append]; exact hs5⟩
        exact hUd
      case measure => simp [lenOf]; omega
end
end Go.Proofs.Ytmoolbmbdnkooaa
