/- Merged of NestMin, NestOrder. -/
import Derived.Test.YtlbbgdpdaelcdaaCellsLooks
import Derived.Test.YtlbbgdpdaelcdaaNestMinMath
namespace Go.Proofs.Ytlbbgdpdaelcdaa
open Go.RowKit Go.Sort

def minI (W : WS) (h : Int) : Int := match minW W h with | none => 0 | some m => m
def minB (W : WS) (h : Int) : Bool := (minW W h).isSome
theorem minI_some {W : WS} {h : Int} {m : Nat} (e : minW W h = some m) : minI W h = m ∧ minB W h = true := by simp [minI, minB, e]
theorem minI_none {W : WS} {h : Int} (e : minW W h = none) : minI W h = 0 ∧ minB W h = false := by simp [minI, minB, e]
def bestI (W : WS) (h : Int) (k : Nat) : Int := match minTo W h k with | none => -1 | some m => m
theorem best_zero (W : WS) (h : Int) : bestI W h 0 = -1 := rfl
theorem best_lt (W : WS) (h : Int) (k : Nat) (hk : k ≤ W.cells.length) : -1 ≤ bestI W h k ∧ bestI W h k < k := by
  unfold bestI
  cases e : minTo W h k with
  | none => simp only; omega
  | some m => have := (minTo_some k hk m e).1; simp only; omega
theorem best_no {W : WS} {h : Int} {k : Nat} (hc : ¬ (0 < h ∧ ((W.cells.getD k .off).home : Int) = h)) : bestI W h (k + 1) = bestI W h k := by
  unfold bestI
  rw [minTo, if_neg (show ¬ (0 < h ∧ (homeAt W k : Int) = h) from hc)]
theorem best_first {W : WS} {h : Int} {k : Nat} (hc : 0 < h ∧ ((W.cells.getD k .off).home : Int) = h) (hb : bestI W h k < 0) : bestI W h (k + 1) = k := by
  unfold bestI at *
  rw [minTo, if_pos (show 0 < h ∧ (homeAt W k : Int) = h from hc)]
  cases e : minTo W h k with
  | none => rfl
  | some m => rw [e] at hb; simp only at hb; omega
theorem best_next {W : WS} {h : Int} {k : Nat} (hc : 0 < h ∧ ((W.cells.getD k .off).home : Int) = h) (hb : ¬ bestI W h k < 0) : bestI W h (k + 1) = if aheadW W k (bestI W h k) then (k : Int) else bestI W h k := by
  unfold bestI at *
  rw [minTo, if_pos (show 0 < h ∧ (homeAt W k : Int) = h from hc)]
  cases e : minTo W h k with
  | none => rw [e] at hb; simp at hb
  | some m => simp only; cases aheadW W k m <;> rfl
theorem best_end (W : WS) (h : Int) : (bestI W h W.cells.length < 0 → minI W h = 0 ∧ minB W h = false) ∧ (0 ≤ bestI W h W.cells.length → minI W h = bestI W h W.cells.length ∧ minB W h = true) := by
  unfold bestI minI minB minW
  cases e : minTo W h W.cells.length with
  | none => simp
  | some m => simp
section
variable {w : World} {hv cv : Value} {W : WS}
theorem refmin_any (y : Int) (h : NestAt w hv cv W) : Calls Try.prog 80 #[.agg #[hv, cv], .int .i64 y] w fun e w' => e = .returned (.tuple #[.int .i64 (minI W y), .bool (minB W y)]) ∧ Below w.heap.size w w' := by
  obtain ⟨a9, c9, hhv, _, _⟩ := h.hform
  generalize hn9 : W.heaps.length = n9 at hhv
  subst hhv
  obtain ⟨a8, c8, hcv, b81, b82⟩ := h.cform
  have hcl := h.clen
  obtain ⟨f, hf⟩ : ∃ f : Nat → Int, f = bestI W y := ⟨_, rfl⟩
  obtain ⟨g, hg⟩ : ∃ g : Nat → Int → Bool, g = fun (k : Nat) b => aheadW W k b := ⟨_, rfl⟩
  have f0 : f 0 = -1 := by rw [hf]; rfl
  have fle : ∀ k, k ≤ W.cells.length → -1 ≤ f k ∧ f k < k := fun k hk => by rw [hf]; exact best_lt W y k hk
  have fno : ∀ k, ¬ (0 < y ∧ ((W.cells.getD k .off).home : Int) = y) → f (k + 1) = f k := fun k hk => by rw [hf]; exact best_no hk
  have ffirst : ∀ k, (0 < y ∧ ((W.cells.getD k .off).home : Int) = y) → f k < 0 → f (k + 1) = k := fun k hk => by rw [hf]; exact best_first hk
  have fnext : ∀ k, (0 < y ∧ ((W.cells.getD k .off).home : Int) = y) → 0 ≤ f k → f (k + 1) = if g k (f k) then (k : Int) else f k := fun k hk hb => by rw [hf] at hb ⊢; rw [hg]; exact best_next hk (by omega)
  have fend := best_end W y
  rw [← hf] at fend
  generalize minI W y = M at *
  generalize minB W y = B at *
  have hahead : ∀ (w1 : World) (k : Nat) (b : Int), NestAt w1 (.slice a9 n9 c9) cv W → Calls Try.prog 99 #[.agg #[.slice a9 n9 c9, cv], .int .i64 k, .int .i64 b] w1 fun e w' => e = .returned (.bool (g k b)) ∧ Below w1.heap.size w1 w' := fun w1 k b h1 => by rw [hg]; exact refahead_any k b h1
  clear hg hf
  generalize hn8 : W.cells.length = n8 at hcv b81 hcl fle fend
  subst hcv
  obtain ⟨V, hV, hs⟩ : ∃ V, w.alloc (.cells #[.slice a9 n9 c9, .slice a8 n8 c8] 98) = V ∧ Stage (fun _ => False) w [Ob.box w.heap.size #[.slice a9 n9 c9, .slice a8 n8 c8] 98] V := ⟨_, rfl, (Stage.start w).alloc _ _⟩
  have k1 := hs.cell 0 rfl (o := 1) rfl
  go_enter Try.func80, Try.ntmps80
  go_wp2_with fail
  clear hV
  generalize w.heap.size = b0 at *
  go_loopw [6, 12] (fun c i wr => ∃ k : Nat, k ≤ n8 ∧ i = .int .i64 k ∧ c = .int .i64 (f k) ∧ Stage (fun _ => False) w [Ob.box b0 #[.slice a9 n9 c9, .slice a8 n8 c8] 98] wr) (fun _ i _ => n8 - (intOf i).toNat)
  case atStart => exact ⟨0, Nat.zero_le _, rfl, by rw [f0], hs⟩
  case round =>
    clear hs k1
    obtain ⟨k, hk, rfl, rfl, hs⟩ := hrel
    have hfk := fle k hk
    by_cases hlt : k < n8
    · have hki : (k : Int) < n8 := by omega
      obtain ⟨g8, c8', hcc, hg, u0, u1, u2⟩ := (h.later hs.below).ccell k (by omega)
      rw [hn8] at hcc
      cases hcc
      have y2 := fno k
      have y3 := ffirst k
      have y4 := fnext k
      generalize W.cells.getD k .off = d at *
      obtain ⟨w1, hw1, hs1⟩ : ∃ w1, wr.alloc (.cells #[.int .i64 d.home, .int .i64 d.key, .int .u64 d.seq] 132) = w1 ∧ Stage (fun _ => False) w [Ob.box b0 #[.slice a9 n9 c9, .slice (some ⟨g8, 0, none⟩) n8 c8] 98, Ob.box wr.heap.size #[.int .i64 d.home, .int .i64 d.key, .int .u64 d.seq] 132] w1 := ⟨_, rfl, hs.alloc _ _⟩
      have d0 := hs1.cell 1 rfl (o := 0) rfl
      have d1 := hs1.cell 1 rfl (o := 1) rfl
      have d2 := hs1.cell 1 rfl (o := 2) rfl
      have k0 := hs1.cell 0 rfl (o := 0) rfl
      have k1 := hs1.cell 0 rfl (o := 1) rfl
      by_cases hc : 0 < y ∧ (d.home : Int) = y
      · have e' : ((d.home : Int) == y) = true := by simpa using hc.2
        have hy := hc.1
        by_cases hb : f k < 0
        · have q := Lib.hid (y3 hc hb)
          clear y2 y3 y4 hc
          go_wp2_with fail
          go_roundw
          case rel => exact ⟨k + 1, by omega, by go_num, by rw [q.out], hs1.take 1⟩
          case measure => simp [intOf]; omega
        · have q := Lib.hid (y4 hc (by omega))
          have hA := hahead w1 k (f k) (h.later hs1.below)
          clear y2 y3 y4 hc
          go_wp2_with fail
          refine hA.mono ?_
          rintro e w2 ⟨rfl, hb2⟩
          have hs2 := hs1.later hb2
          clear hA hw1
          cases hgk : g k (f k)
          · have q2 := q.out
            rw [hgk] at q2
            replace q2 := Lib.hid q2
            clear q
            go_wp2_with fail
            go_roundw
            case rel => exact ⟨k + 1, by omega, by go_num, by rw [q2.out]; rfl, hs2.take 1⟩
            case measure => simp [intOf]; omega
          · have q2 := q.out
            rw [hgk] at q2
            replace q2 := Lib.hid q2
            clear q
            go_wp2_with fail
            go_roundw
            case rel => exact ⟨k + 1, by omega, by go_num, by rw [q2.out]; rfl, hs2.take 1⟩
            case measure => simp [intOf]; omega
      · have q := Lib.hid (y2 hc)
        clear y2 y3 y4
        by_cases hy : 0 < y
        · have e' : ((d.home : Int) == y) = false := by simpa using fun e => hc ⟨hy, e⟩
          clear hc
          go_wp2_with fail
          go_roundw
          case rel => exact ⟨k + 1, by omega, by go_num, by rw [q.out], hs1.take 1⟩
          case measure => simp [intOf]; omega
        · clear hc
          go_wp2_with fail
          go_roundw
          case rel => exact ⟨k + 1, by omega, by go_num, by rw [q.out], hs1.take 1⟩
          case measure => simp [intOf]; omega
    · have hki : ¬ (k : Int) < n8 := by omega
      obtain rfl : k = n8 := by omega
      by_cases hb : f k < 0
      · obtain ⟨rfl, rfl⟩ := fend.1 hb
        clear fend
        go_wp2_with fail
        exact bodyPost_ret (v := .tuple #[.int .i64 0, .bool false]) (by simp [results, Try.results80, go_sem]) rfl ⟨rfl, hs.below⟩
      · obtain ⟨rfl, rfl⟩ := fend.2 (by omega)
        clear fend
        go_wp2_with fail
        exact bodyPost_ret (v := .tuple #[.int .i64 (f k), .bool true]) (by simp [results, Try.results80, go_sem]) rfl ⟨rfl, hs.below⟩
end
end Go.Proofs.Ytlbbgdpdaelcdaa

namespace Go.Proofs.Ytlbbgdpdaelcdaa
open Go.RowKit Go.Sort

def natC (x : Nat) : List Value := [.int .i64 x]
theorem natC_len (x : Nat) : (natC x).length = 1 := rfl
theorem nats_one (l : List Nat) : ∀ u ∈ cellsBy natC l, u.oneCell' = true := by
  intro u hu
  unfold cellsBy at hu
  rw [List.mem_flatMap] at hu
  obtain ⟨p, _, hp⟩ := hu
  simp only [natC, List.mem_cons, List.not_mem_nil, or_false] at hp
  subst hp; rfl
theorem info_order : (Try.prog.info? 3).map (fun i => (i.zero, i.size, i.bytes)) = some (some (.int .i64 0), 1, 8) := by kernel_rfl
def lenOf : Value → Nat | .slice _ n _ => n | _ => 0
/-- The order that is told: a row of its own. -/
def OrderPost (w : World) (l : List Nat) (e : Ending) (w' : World) : Prop := ∃ a c, e = .returned (.slice a l.length c) ∧ Stage (fun _ => False) w [Ob.row 0 3 1 (.slice a l.length c) l.length (cellsBy natC l)] w'
theorem order_le (W : WS) (y : Int) : (orderW W y).length ≤ W.cells.length := by rw [order_len]; exact len_le W y
theorem drop_cells (V : WS) (x : Int) : (dropW V x).cells.length = V.cells.length := by
  unfold dropW
  split
  · simp
  · rfl
section
variable {w : World} {hv cv : Value} {W : WS}
set_option maxHeartbeats 1000000 in
theorem reforder_any (y : Int) (h : NestAt w hv cv W) : Calls Try.prog 61 #[.agg #[hv, cv], .int .i64 y] w (OrderPost w (orderW W y)) := by
  obtain ⟨a9, c9, hhv, _, _⟩ := h.hform
  obtain ⟨a8, c8, hcv, b81, b82⟩ := h.cform
  have hcl := h.clen
  have hol := order_le W y
  obtain ⟨L, hL⟩ : ∃ L, L = orderW W y := ⟨_, rfl⟩
  rw [← hL] at hol ⊢
  generalize hn9 : W.heaps.length = n9 at hhv
  subst hhv
  generalize hn8 : W.cells.length = n8 at hcv b81 hcl hol
  subst hcv
  obtain ⟨V, hV, hs⟩ : ∃ V, (w.alloc (.cells #[.slice a9 n9 c9, .slice a8 n8 c8] 98)).alloc (.cells #[] 3) = V ∧ Stage (fun _ => False) w [Ob.box w.heap.size #[.slice a9 n9 c9, .slice a8 n8 c8] 98, Ob.row 0 3 1 (.slice (some ⟨w.heap.size + 1, 0, none⟩) 0 0) 0 (cellsBy natC [])] V :=
    ⟨_, rfl, ((Stage.start w).alloc _ _).emptyRow' _ _ (size_alloc _ _)⟩
  have hap : ∀ k, nestF (.slice a9 n9 c9) (.slice a8 n8 c8) k → k ≠ w.heap.size ∧ ¬ rowF (.slice (some ⟨w.heap.size + 1, 0, none⟩) 0 0) k := fun k hk => by
    have := h.lt k hk
    refine ⟨by omega, fun hr => ?_⟩
    have : w.heap.size + 1 = k := by simpa [rowF, Value.ownBlock] using hr
    omega
  have hN := h.later hs.below
  obtain ⟨i0, hi0, hzz⟩ := Option.map_eq_some_iff.1 info_order
  simp only [Prod.mk.injEq] at hzz
  obtain ⟨hz0, hz1, hz2⟩ := hzz
  go_enter Try.func61, Try.ntmps61
  go_wp2_with fail
  clear hV
  have hbl := hs.size
  generalize w.heap.size = b0 at *
  go_loopw [5] (fun v wr => ∃ (U : WS) (l : List Nat) (ha : Option Addr) (hn hc : Nat) (ca : Option Addr) (cn cc : Nat) (a : Option Addr) (c : Nat), v = .slice a l.length c ∧ U.cells.length = n8 ∧ l ++ orderW U y = L ∧ NestAt wr (.slice ha hn hc) (.slice ca cn cc) U ∧
      (∀ k, nestF (.slice ha hn hc) (.slice ca cn cc) k → k ≠ b0 ∧ ¬ rowF (.slice a l.length c) k) ∧ Stage (fun _ => False) w [Ob.box b0 #[.slice ha hn hc, .slice ca cn cc] 98, Ob.row 0 3 1 (.slice a l.length c) l.length (cellsBy natC l)] wr) (fun v _ => L.length - lenOf v)
  case atStart => exact ⟨W, [], a9, n9, c9, a8, n8, c8, _, 0, rfl, hn8, hL.symm, hN, hap, hs⟩
  case round =>
    clear hs hap hN hL
    obtain ⟨U, l, ha, hn, hc, ca, cn, cc, a, c, rfl, hUl, hU, hN, hap, hs⟩ := hrel
    have k0 := hs.cell 0 rfl (o := 0) rfl
    have k1 := hs.cell 0 rfl (o := 1) rfl
    go_wp2_with fail
    refine (refmin_any y hN).mono ?_
    rintro e w1 ⟨rfl, hb1⟩
    clear k0 k1
    have hs1 := hs.later hb1
    have hN1 := hN.later hb1
    clear hs hN hb1
    cases hm : minW U y with
    | none =>
      obtain ⟨q1, q2⟩ := minI_none hm
      rw [q1, q2]
      have hl : l = L := by rw [order_none hm, List.append_nil] at hU; exact hU
      subst hl
      go_wp2_with fail
      go_ret
      exact ⟨a, c, rfl, hs1.select [1] (by decide) rfl⟩
    | some m =>
      obtain ⟨q1, q2⟩ := minI_some hm
      rw [q1, q2]
      have ho := order_some hm
      rw [ho] at hU
      have hll : l.length < L.length := by rw [← hU]; simp
      have hs2 := hs1.later (below_alloc1 (o := .cells #[.int .i64 m] 3) (Below.refl _ _))
      have hN2 := hN1.later (below_alloc1 (o := .cells #[.int .i64 m] 3) (Below.refl _ _))
      have k0 := hs1.cell 0 rfl (o := 0) rfl
      have k1 := hs1.cell 0 rfl (o := 1) rfl
      go_wp2_with (at_builtin; refine wpList_append_any _ rfl _ _ 90 rfl 0 3 i0 (.int .i64 0) 1 8 Try.underlying90 hi0 hz0 hz1 hz2 rfl (by decide) _ l.length (cellsBy natC l) rfl (hs2.owns 1 rfl) _ 1 [.int .i64 m] rfl (reads_new w1 #[.int .i64 m] _ 1 1 _ rfl rfl) (by intro u hu; simp at hu; subst hu; rfl) (by unfold maxLen; omega) (by omega) (Nat.zero_le _) ?_)
      intro v1 w2 ho1 hg1 hl1
      clear k0 k1
      have hs3 := hs2.grown 1 rfl (m := l.length + 1) (ys := cellsBy natC (l ++ [m])) (by rw [cellsBy_append, cellsBy_one]; exact ho1) hg1 hl1
      have hN3 := hN2.keeps (grown_keeps hg1) (fun b hb => (hap b hb).2)
      have hap3 : ∀ k, nestF (.slice ha hn hc) (.slice ca cn cc) k → k ≠ b0 ∧ ¬ rowF v1 k := fun k hk => ⟨(hap k hk).1, fun hr => by
        rcases hl1 k hr with h1 | h1
        · exact (hap k hk).2 h1
        · have := hN2.lt k hk; have := size_alloc w1 (.cells #[.int .i64 m] 3); omega⟩
      obtain ⟨a1, c1, rfl, _, _⟩ := owns_form (hs3.owns 1 rfl)
      clear ho1 hg1 hl1 hs2 hN2 hs1 hN1 hap
      replace hs3 : Stage (fun _ => False) w [Ob.box b0 #[.slice ha hn hc, .slice ca cn cc] 98, Ob.row 0 3 1 (.slice a1 (l.length + 1) c1) (l.length + 1) (cellsBy natC (l ++ [m]))] w2 := hs3
      have k0 := hs3.cell 0 rfl (o := 0) rfl
      have k1 := hs3.cell 0 rfl (o := 1) rfl
      have hD := refdrop_any m hN3
      go_wp2_with fail
      refine hD.mono ?_
      rintro e w3 ⟨hv', cv', rfl, hb4, hN4, hF4⟩
      obtain ⟨ha', hc', rfl, _, _⟩ := hN4.hform
      obtain ⟨ca', cc', hcv', _, _⟩ := hN4.cform
      have hUd : (dropW U m).cells.length = n8 := by rw [drop_cells]; exact hUl
      rw [hUd] at hcv'
      subst hcv'
      generalize dropW U m = U' at *
      generalize U'.heaps.length = hn' at *
      have hb0 := hs3.lt 0 rfl
      have hs4 := hs3.later hb4
      have hr4 : ∀ k, rowF (.slice a1 (l.length + 1) c1) k → k < w2.heap.size := fun k hk => ((hs3.owns 1 rfl).lt k hk).2
      have hap4 : ∀ k, nestF (.slice ha' hn' hc') (.slice ca' n8 cc') k → k ≠ b0 ∧ ¬ rowF (.slice a1 (l.length + 1) c1) k := fun k hk => by
        rcases hF4 k hk with h1 | h1
        · exact hap3 k h1
        · exact ⟨by omega, fun hr => by have := hr4 k hr; omega⟩
      clear k0 k1 hD hs3 hF4 hap3 hr4 hN3
      have g0 := hs4.free 0 rfl 0
      have g1 := hs4.free 0 rfl 1
      have k0 := hs4.cell 0 rfl (o := 0) rfl
      have k1 := hs4.cell 0 rfl (o := 1) rfl
      have l0 := hs4.lt 0 rfl
      obtain ⟨w4, hw4, hs5, hN5⟩ : ∃ w4, (w3.setCell ⟨b0, 0, none⟩ (.slice ha' hn' hc')).setCell ⟨b0, 1, none⟩ (.slice ca' n8 cc') = w4 ∧ Stage (fun _ => False) w [Ob.box b0 #[.slice ha' hn' hc', .slice ca' n8 cc'] 98, Ob.row 0 3 1 (.slice a1 (l.length + 1) c1) (l.length + 1) (cellsBy natC (l ++ [m]))] w4 ∧ NestAt w4 (.slice ha' hn' hc') (.slice ca' n8 cc') U' :=
        ⟨_, rfl, (hs4.store 0 rfl 0 _).store 0 rfl 1 _, hN4.keeps (((Keeps.refl (· = b0) _).setCell ⟨b0, 0, none⟩ (Or.inl rfl) _).setCell ⟨b0, 1, none⟩ (Or.inl rfl) _) (fun b hb e => (hap4 b hb).1 e)⟩
      go_wp2_with fail
      go_roundw
      case rel =>
        refine ⟨U', l ++ [m], ha', hn', hc', ca', n8, cc', a1, c1, by simp, ?_, by rw [List.append_assoc]; exact hU, hN5, by rw [List.length_append]; exact hap4, by rw [List.length_append]; exact hs5⟩
        exact hUd
      case measure => simp [lenOf]; omega
end
end Go.Proofs.Ytlbbgdpdaelcdaa
