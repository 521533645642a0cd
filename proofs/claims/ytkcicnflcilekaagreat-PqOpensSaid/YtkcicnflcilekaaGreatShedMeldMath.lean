/- Merged of ShedObj, ShedUp, ShedDown, ShedHeap, ShedNest, ShedNest2, ShedNest3, ShedMeldMath. -/
import Derived.Test.YtkcicnflcilekaaGreatShedList3
import Derived.Test.YtkcicnflcilekaaGreatShedHeapMath
import Derived.Test.YtkcicnflcilekaaGreatPqHeld
import Derived.Deep.RegionHeld3
import Derived.Deep.RegionWith
namespace Go.Proofs.YtkcicnflcilekaaGreat
open Go.RowKit Go.Sort

/-- A list of slots, at q; none, if there is nothing in it. -/
def listO (p q : Nat) (xs : List Nat) : Ob := if xs = [] then Ob.none else Ob.ex fun v : Value => Ob.group [Ob.box q #[.pointer (some ⟨p, 0, none⟩), v] 362, Ob.row 0 3 1 v xs.length (cellsBy natC xs)]
def famO (p : Nat) (Ls : Nat → List Nat) (qs : Nat → Nat) : Nat → Ob := fun h => listO p (qs h) (Ls h)
def mapO (Ls : Nat → List Nat) (qs : Nat → Nat) : Int → Option Nat := fun h => if 0 ≤ h ∧ Ls h.toNat ≠ [] then some (qs h.toNat) else none
def shedParts (p c bm : Nat) (vp : Value) (W : WS) (s : Int) (pl : List Nat) (f : Int → Option Nat) (g : Nat → Ob) : List Ob :=
  [Ob.box p #[.pointer (some ⟨c, 0, none⟩), .map (some bm), vp] 210, Ob.cells c W s, Ob.row 0 3 1 vp pl.length (cellsBy natC pl), Ob.pmap Tryz.prog 3 bm f 65537, Ob.fam g]
/-- A shed at p, whose cells are at c. -/
def Ob.shed (p c : Nat) (W : WS) (s : Int) : Ob where
  holds w F := ∃ bm vp pl Ls qs, SInv W pl Ls ∧ W.Fit ∧ (0 ≤ s ∧ s ≤ 4611686018427387904) ∧ (Ob.group (shedParts p c bm vp W s pl (mapO Ls qs) (famO p Ls qs))).holds w F
  keeps := fun ⟨bm, vp, pl, Ls, qs, h1, h2, h3, h⟩ k hn => ⟨bm, vp, pl, Ls, qs, h1, h2, h3, (Ob.group _).keeps h k hn⟩
  lt := fun ⟨_, _, _, _, _, _, _, _, h⟩ => (Ob.group _).lt h
theorem upd_fam (p : Nat) (Ls : Nat → List Nat) (qs : Nat → Nat) (h q : Nat) (ys : List Nat) : updO (famO p Ls qs) h (listO p q ys) = famO p (updL Ls h ys) (updN qs h q) := by
  funext i
  unfold updO famO updL updN
  split <;> rfl
theorem upd_none (p : Nat) (Ls : Nat → List Nat) (qs : Nat → Nat) (h : Nat) (hn : Ls h = []) : updO (famO p Ls qs) h Ob.none = famO p Ls qs := by
  funext i
  unfold updO famO
  split
  · rename_i e; subst e; simp [listO, hn]
  · rfl
theorem upd_map (Ls : Nat → List Nat) (qs : Nat → Nat) (h q : Nat) (ys : List Nat) : setP (mapO Ls qs) h (if ys = [] then none else some q) = mapO (updL Ls h ys) (updN qs h q) := by
  funext i
  unfold setP mapO updL updN
  by_cases e : i = h
  · subst e
    simp only [if_true, Int.toNat_natCast, Int.natCast_nonneg, true_and]
    by_cases e2 : ys = [] <;> simp [e2]
  · rw [if_neg e]
    by_cases hi : 0 ≤ i
    · have : i.toNat ≠ h := by omega
      simp [this]
    · simp [hi]
theorem zero_ptr (w : World) : (zeroValue 356).run Tryz.prog w = .ok (.pointer none) w := by kernel_rfl
section
variable {F0 : Nat → Prop} {W0 w : World} {p c bm : Nat} {vp : Value} {W : WS} {s : Int} {pl : List Nat} {f : Int → Option Nat} {g : Nat → Ob} {q : Nat} {v : Value} {xs : List Nat}
/-- A heap's list in hand. -/
theorem take_hand {Ls : Nat → List Nat} {qs : Nat → Nat} (h : Stage F0 W0 (shedParts p c bm vp W s pl f (famO p Ls qs)) w) (k : Nat) (hn : Ls k ≠ []) :
    ∃ v, Stage F0 W0 (handL p c bm vp W s pl (qs k) v (Ls k) ++ [Ob.pmap Tryz.prog 3 bm f 65537, Ob.fam (updO (famO p Ls qs) k Ob.none)]) w := by
  have h1 := h.pull 4 rfl k
  have e : famO p Ls qs k = Ob.ex fun v : Value => Ob.group [Ob.box (qs k) #[.pointer (some ⟨p, 0, none⟩), v] 362, Ob.row 0 3 1 v (Ls k).length (cellsBy natC (Ls k))] := by
    unfold famO listO; rw [if_neg hn]
  rw [e] at h1
  obtain ⟨v, h2⟩ := h1.openEx
  exact ⟨v, h2.ungroup.select [0, 1, 2, 5, 6, 3, 4] (by decide) rfl⟩
/-- .. laid back. -/
theorem lay_hand (h : Stage F0 W0 (handL p c bm vp W s pl q v xs ++ [Ob.pmap Tryz.prog 3 bm f 65537, Ob.fam g]) w) (k : Nat) (hg : g k = Ob.none) : Stage F0 W0 (shedParts p c bm vp W s pl f (updO g k (listO p q xs))) w := by
  by_cases e : xs = []
  · have e1 : listO p q xs = Ob.none := by simp [listO, e]
    have e2 : updO g k (listO p q xs) = g := by
      rw [e1]; funext i; unfold updO; split
      · rename_i e; subst e; exact hg.symm
      · rfl
    rw [e2]
    exact h.select [0, 1, 2, 5, 6] (by decide) rfl
  · have e1 : listO p q xs = Ob.ex fun v : Value => Ob.group [Ob.box q #[.pointer (some ⟨p, 0, none⟩), v] 362, Ob.row 0 3 1 v xs.length (cellsBy natC xs)] := by simp [listO, e]
    have h1 := h.select [0, 1, 2, 5, 6, 3, 4] (by decide) rfl
    have h2 : Stage F0 W0 ([Ob.box p #[.pointer (some ⟨c, 0, none⟩), .map (some bm), vp] 210, Ob.cells c W s, Ob.row 0 3 1 vp pl.length (cellsBy natC pl), Ob.pmap Tryz.prog 3 bm f 65537, Ob.fam g] ++ [Ob.box q #[.pointer (some ⟨p, 0, none⟩), v] 362, Ob.row 0 3 1 v xs.length (cellsBy natC xs)]) w := h1
    have h3 := h2.regroup.closeEx (O := fun v : Value => Ob.group [Ob.box q #[.pointer (some ⟨p, 0, none⟩), v] 362, Ob.row 0 3 1 v xs.length (cellsBy natC xs)]) v
    rw [← e1] at h3
    exact h3.push 4 rfl k hg
/-- 'list', where there is one. -/
theorem list_st {Ls : Nat → List Nat} {qs : Nat → Nat} (hs : Stage F0 W0 (shedParts p c bm vp W s pl (mapO Ls qs) g) w) (k : Nat) (hk : k < 65537) (hn : Ls k ≠ []) :
    Calls Tryz.prog 300 #[.pointer (some ⟨p, 0, none⟩), .int .i64 k] w fun e w' => e = .returned (.pointer (some ⟨qs k, 0, none⟩)) ∧ w = w' := by
  have p1 := hs.cell 0 rfl (o := 1) rfl
  have hL := hs.lookP 3 rfl Tryz.underlying208 Tryz.underlying3 (zero_ptr w) k (by omega)
  have e : mapO Ls qs k = some (qs k) := by simp [mapO, hn]
  rw [e] at hL
  replace hL : (Instr.lookup 208 (.map (some bm)) (.int .i64 k) true).run Tryz.prog w = .ok (.tuple #[.pointer (some ⟨qs k, 0, none⟩), .bool true]) w := hL
  generalize qs k = q at *
  go_enter Tryz.func300, Tryz.ntmps300
  go_wp2_with fail
  go_ret
  exact ⟨rfl, rfl⟩
/-- .. where there is none. -/
theorem list_no {Ls : Nat → List Nat} {qs : Nat → Nat} (hs : Stage F0 W0 (shedParts p c bm vp W s pl (mapO Ls qs) g) w) (k : Nat) (hk : k < 65537) (hn : Ls k = []) :
    Calls Tryz.prog 300 #[.pointer (some ⟨p, 0, none⟩), .int .i64 k] w fun e w' => e = .returned (.pointer (some ⟨w.heap.size, 0, none⟩)) ∧ Stage F0 W0 (handL p c bm vp W s pl w.heap.size (.slice none 0 0) [] ++ [Ob.pmap Tryz.prog 3 bm (mapO Ls qs) 65537, Ob.fam g]) w' := by
  have p1 := hs.cell 0 rfl (o := 1) rfl
  have hL := hs.lookP 3 rfl Tryz.underlying208 Tryz.underlying3 (zero_ptr w) k (by omega)
  have e : mapO Ls qs k = none := by simp [mapO, hn]
  rw [e] at hL
  replace hL : (Instr.lookup 208 (.map (some bm)) (.int .i64 k) true).run Tryz.prog w = .ok (.tuple #[.pointer none, .bool false]) w := hL
  have hs2 := ((hs.alloc #[.pointer (some ⟨p, 0, none⟩), .slice none 0 0] 362).nilRow 0 3 1).select [0, 1, 2, 5, 6, 3, 4] (by decide) rfl
  go_enter Tryz.func300, Tryz.ntmps300
  go_wp2_with fail
  go_ret
  exact ⟨rfl, hs2⟩
/-- 'list', whatever there is: it is in hand. -/
theorem list_hand {Ls : Nat → List Nat} {qs : Nat → Nat} (hs : Stage F0 W0 (shedParts p c bm vp W s pl (mapO Ls qs) (famO p Ls qs)) w) (k : Nat) (hk : k < 65537) :
    Calls Tryz.prog 300 #[.pointer (some ⟨p, 0, none⟩), .int .i64 k] w fun e w' => ∃ q v, e = .returned (.pointer (some ⟨q, 0, none⟩)) ∧ Stage F0 W0 (handL p c bm vp W s pl q v (Ls k) ++ [Ob.pmap Tryz.prog 3 bm (mapO Ls qs) 65537, Ob.fam (updO (famO p Ls qs) k Ob.none)]) w' := by
  by_cases hn : Ls k = []
  · refine (list_no hs k hk hn).mono ?_
    rintro e w' ⟨rfl, h⟩
    rw [upd_none p Ls qs k hn, hn]
    exact ⟨_, _, rfl, h⟩
  · obtain ⟨v, h⟩ := take_hand hs k hn
    refine (list_st hs k hk hn).mono ?_
    rintro e w' ⟨rfl, rfl⟩
    exact ⟨_, v, rfl, h⟩
set_option maxRecDepth 100000 in
/-- 'keep'. -/
theorem keep_st (hs : Stage F0 W0 (handL p c bm vp W s pl q v xs ++ [Ob.pmap Tryz.prog 3 bm f 65537, Ob.fam g]) w) (k : Nat) (hk : k < 65537) (_hx : xs.length ≤ 65536) (hg : g k = Ob.none) :
    Calls Tryz.prog 302 #[.pointer (some ⟨p, 0, none⟩), .int .i64 k, .pointer (some ⟨q, 0, none⟩)] w fun e w' => e = .returned (.tuple #[]) ∧ Stage F0 W0 (shedParts p c bm vp W s pl (setP f k (if xs = [] then none else some q)) (updO g k (listO p q xs))) w' := by
  have hL := slen_stS hs
  have p1 := hs.cell 0 rfl (o := 1) rfl
  by_cases hn : xs = []
  · have hl0 : (xs.length : Int) = 0 := by rw [hn]; rfl
    rw [hl0] at hL
    rw [if_pos hn]
    go_enter Tryz.func302, Tryz.ntmps302
    go_wp2_with fail
    refine hL.mono ?_
    rintro e w1 ⟨rfl, rfl⟩
    go_wp2_with (at_delete; refine hs.wp_deleteP 5 rfl rfl _ _ rfl Tryz.underlying208 Tryz.underlying3 rfl k rfl (by omega) ?_)
    intro w2 hs2
    have hs3 := lay_hand hs2 k hg
    go_wp2_with fail
    exact bodyPost_ret (results_none rfl _ _ _) rfl ⟨rfl, by rw [hn]; exact hs3⟩
  · have hl0 : ((xs.length : Int) == 0) = false := by
      have := List.length_pos_iff.2 hn
      simp; omega
    rw [if_neg hn]
    generalize hm : xs.length = m at *
    go_enter Tryz.func302, Tryz.ntmps302
    go_wp2_with fail
    refine hL.mono ?_
    rintro e w1 ⟨rfl, rfl⟩
    go_wp2_with (at_mapUpdate; refine hs.wp_putP 5 rfl rfl _ _ _ rfl Tryz.underlying208 Tryz.underlying3 (by unfold maxLen; omega) rfl k q rfl rfl hk ?_)
    intro w2 hs2
    have hs3 := lay_hand hs2 k hg
    go_wp2_with fail
    go_end0
    exact ⟨rfl, hs3⟩
end
end Go.Proofs.YtkcicnflcilekaaGreat

namespace Go.Proofs.YtkcicnflcilekaaGreat
open Go.RowKit Go.Sort

abbrev ilist (q : Nat) : Value := .iface 356 (.pointer (some ⟨q, 0, none⟩))
theorem m_len (q : Nat) (w : World) : (method 470 356 (.pointer (some ⟨q, 0, none⟩)) "Len").run Tryz.prog w = .ok (304, .pointer (some ⟨q, 0, none⟩)) w := by kernel_rfl
theorem m_less (q : Nat) (w : World) : (method 470 356 (.pointer (some ⟨q, 0, none⟩)) "Less").run Tryz.prog w = .ok (309, .pointer (some ⟨q, 0, none⟩)) w := by kernel_rfl
theorem m_swap (q : Nat) (w : World) : (method 470 356 (.pointer (some ⟨q, 0, none⟩)) "Swap").run Tryz.prog w = .ok (312, .pointer (some ⟨q, 0, none⟩)) w := by kernel_rfl
theorem m_push (q : Nat) (w : World) : (method 470 356 (.pointer (some ⟨q, 0, none⟩)) "Push").run Tryz.prog w = .ok (311, .pointer (some ⟨q, 0, none⟩)) w := by kernel_rfl
theorem e_len (args : Array Value) (w : World) : (callFunc 304 args).run Tryz.prog w = .ok (.enter 304 args) w := by kernel_rfl
theorem e_less (args : Array Value) (w : World) : (callFunc 309 args).run Tryz.prog w = .ok (.enter 309 args) w := by kernel_rfl
theorem e_swap (args : Array Value) (w : World) : (callFunc 312 args).run Tryz.prog w = .ok (.enter 312 args) w := by kernel_rfl
theorem e_push (args : Array Value) (w : World) : (callFunc 311 args).run Tryz.prog w = .ok (.enter 311 args) w := by kernel_rfl
theorem aheadS_range (W : WS) {s : Int} (h : 0 ≤ s ∧ s ≤ 4611686018427387904) (a b : Int) : s ≤ aheadS W s a b ∧ aheadS W s a b ≤ s + 1 := by
  unfold aheadS addI
  repeat' split
  all_goals omega
theorem aheadS_pos {W : WS} {s : Int} (h : 0 ≤ s ∧ s ≤ 4611686018427387904) {x y : Nat} (hx : x < W.cells.length ∧ homeAt W x ≠ 0) (hy : y < W.cells.length ∧ homeAt W y ≠ 0) : 0 < aheadS W s x y := by
  have h1 : inW W x = true := by rw [inW, cell_nat W x hx.1]; exact bne_iff_ne.2 hx.2
  have h2 : inW W y = true := by rw [inW, cell_nat W y hy.1]; exact bne_iff_ne.2 hy.2
  simp only [aheadS, h1, h2, Bool.and_self, if_true, addI]
  repeat' split
  all_goals omega
theorem AllIn.perm {W : WS} {xs ys : List Nat} (A : AllIn W xs) (h : ys.Perm xs) : AllIn W ys := fun x hx => A x (h.mem_iff.1 hx)
theorem strict_placed {W : WS} {ys zs pl : List Nat} (A : AllIn W ys) (P : Placed (ys ++ zs) pl) : StrictS (ltW W) ys := by
  refine strict_of (pl := pl) A fun i j hi hj e => ?_
  refine placed_inj P (i := i) (j := j) (by simp; omega) (by simp; omega) ?_
  rw [rat_append hi, rat_append hj]; exact e
section
variable {F0 : Nat → Prop} {W0 w : World} {p c bm : Nat} {vp : Value} {W : WS} {s : Int} {pl : List Nat} {q : Nat} {v : Value} {ys zs : List Nat} {r : List Ob}
theorem hand_steps {xs : List Nat} (h : Stage F0 W0 (handL p c bm vp W s pl q v xs ++ r) w) : 0 ≤ s ∧ s ≤ 4611686018427387904 := by
  obtain ⟨F, ho⟩ := h.get (i := 1) rfl
  exact Ob.cells.steps ho
set_option maxRecDepth 100000 in
set_option maxHeartbeats 1000000 in
theorem up_st (hs : Stage F0 W0 (handL p c bm vp W s pl q v (ys ++ zs) ++ r) w) (hx : ys.length ≤ 65536) (P : Placed (ys ++ zs) pl) (A : AllIn W ys) (j : Nat) (U : UpInvS 2 (ltW W) ys j) :
    Calls Tryz.prog 306 #[ilist q, .int .i64 j] w fun e w' => e = .returned (.tuple #[]) ∧ ∃ ys' pl' s', HeapS 2 (ltW W) ys' ∧ Turned (depthIS 2 j) zs ys pl s ys' pl' s' ∧ (0 < j → 0 < s') ∧ Stage F0 W0 (handL p c bm vp W s' pl' q v (ys' ++ zs) ++ r) w' := by
  have hT := Turned.refl (s := s) P
  have hj := U.jlt
  have f1 := m_less q
  have f2 := e_less
  have f3 := m_swap q
  have f4 := e_swap
  obtain ⟨dj, hdj⟩ : ∃ dj, dj = depthIS 2 j := ⟨_, rfl⟩
  rw [← hdj]
  go_enter Tryz.func306, Tryz.ntmps306
  go_wp2_with fail
  go_loopw [1] (fun i wr => ∃ (k : Nat) (ys1 pl1 : List Nat) (s1 : Int), i = .int .i64 k ∧ k < 65536 ∧ UpInvS 2 (ltW W) ys1 k ∧ depthIS 2 k ≤ dj ∧ Turned (dj - depthIS 2 k) zs ys pl s ys1 pl1 s1 ∧ (k = j ∨ 0 < s1) ∧ Stage F0 W0 (handL p c bm vp W s1 pl1 q v (ys1 ++ zs) ++ r) wr) (fun i _ => (intOf i).toNat)
  case atStart => exact ⟨j, ys, pl, s, rfl, by omega, U, by omega, by rw [hdj, Nat.sub_self]; exact hT, Or.inl rfl, hs⟩
  case round =>
    clear hs U hT hj
    obtain ⟨k, ys1, pl1, s1, rfl, hk, U, hd, hT, hps, hs⟩ := hrel
    have hkl := U.jlt
    have P1 := hT.placed
    have S1 := strict_placed (A.perm hT.perm) P1
    by_cases hk0 : k = 0
    · subst hk0
      have hH := up_stopS U (Or.inl rfl)
      clear U S1
      go_wp2_with fail
      go_end0
      exact ⟨rfl, ys1, pl1, s1, hH, hT.mono (by omega), fun h => hps.elim (fun e => by omega) id, hs⟩
    · have hkp : 0 < k := Nat.pos_of_ne_zero hk0
      have hpk := par_ltS (d := 2) (by omega) hkp
      have hdp := depth_parS (d := 2) (by omega) hkp
      have e1 : IntKind.i64.wrap ((k : Int) - 1) = ((k - 1 : Nat) : Int) := by rw [show (k : Int) - 1 = ((k - 1 : Nat) : Int) by omega]; exact IntWalk.i64_in _ (by omega)
      have e2 : Int.tdiv ((k - 1 : Nat) : Int) 2 = (parS 2 k : Int) := (Int.ofNat_tdiv (k - 1) 2).symm
      have hU := up_stepS (by omega) S1 U hkp
      have hE := fun h => up_stopS U (Or.inr h)
      generalize hi : parS 2 k = i at *
      have hil : i < ys1.length := by omega
      have e3 : ((i : Int) == k) = false := by simp; omega
      have hr := aheadS_range W (hand_steps hs) (ratS (ys1 ++ zs) k) (ratS (ys1 ++ zs) i)
      have hL := sless_st hs k i (by simp; omega) (by simp; omega)
      have hA1 := A.perm hT.perm
      have hpos := aheadS_pos (hand_steps hs) (hA1 _ (rat_memS hkl)) (hA1 _ (rat_memS hil))
      rw [rat_append hkl, rat_append hil] at hL hr
      generalize aheadS W s1 (ratS ys1 k) (ratS ys1 i) = s2 at *
      have hT2 := hT.trans (Turned.ask P1 hr)
      cases hB : ltW W (ratS ys1 k) (ratS ys1 i)
      · rw [hB] at hL
        have hH := hE hB
        clear U S1 hU hE hB
        go_wp2_with fail
        refine hL.mono ?_
        rintro e w1 ⟨rfl, hs1⟩
        clear hL hs
        go_wp2_with fail
        go_end0
        exact ⟨rfl, ys1, pl1, s2, hH, hT2.mono (by omega), fun _ => hpos, hs1⟩
      · rw [hB] at hL
        replace hU := hU hB
        clear U S1 hE hB
        go_wp2_with fail
        refine hL.mono ?_
        rintro e w1 ⟨rfl, hs1⟩
        clear hL hs
        have hS := sswap_st hs1 P1 i k (by simp; omega) (by simp; omega) (by omega)
        rw [swap_append hil hkl] at hS
        have hT3 := hT2.trans (Turned.swap P1 hil hkl)
        rw [swap_comm hil hkl] at hS hT3
        have hkl' : (swapLS ys1 k i).length = ys1.length := swap_lenS _ _ _
        generalize swapLS ys1 k i = ys2 at *
        generalize swapP (ys1 ++ zs) pl1 i k = pl2 at *
        go_wp2_with fail
        refine hS.mono ?_
        rintro e w2 ⟨rfl, hs2⟩
        go_wp2_with fail
        go_roundw
        case rel => exact ⟨i, ys2, pl2, s2, rfl, by omega, hU, by omega, hT3.mono (by omega), Or.inr hpos, hs2⟩
        case measure => simp [intOf]; omega
end
end Go.Proofs.YtkcicnflcilekaaGreat

namespace Go.Proofs.YtkcicnflcilekaaGreat
open Go.RowKit Go.Sort

section
variable {F0 : Nat → Prop} {W0 w : World} {p c bm : Nat} {vp : Value} {W : WS} {s : Int} {pl : List Nat} {q : Nat} {v : Value} {ys zs : List Nat} {r : List Ob}
end
end Go.Proofs.YtkcicnflcilekaaGreat

namespace Go.Proofs.YtkcicnflcilekaaGreat
open Go.RowKit Go.Sort

section
variable {F0 : Nat → Prop} {W0 w : World} {p c bm : Nat} {vp : Value} {W : WS} {s : Int} {pl : List Nat} {q : Nat} {v : Value} {xs : List Nat} {r : List Ob}
set_option maxRecDepth 100000 in
set_option maxHeartbeats 2000000 in
theorem push_st (hs : Stage F0 W0 (handL p c bm vp W s pl q v xs ++ r) w) (hx : xs.length < 65536) (hpl : pl.length ≤ 65536) (P : Placed xs pl) (x : Nat) (A : AllIn W (xs ++ [x])) (hxx : x ∉ xs) (hxp : x < pl.length) (H : HeapS 2 (ltW W) xs) :
    Calls Tryz.prog 303 #[ilist q, .iface 3 (.int .i64 x)] w fun e w' => e = .returned (.tuple #[]) ∧ ∃ v' xs' pl' s', HeapS 2 (ltW W) xs' ∧ Turned (depthIS 2 xs.length) [] (xs ++ [x]) (pl.set x xs.length) s xs' pl' s' ∧ (0 < xs.length → 0 < s') ∧ Stage F0 W0 (handL p c bm vp W s' pl' q v' xs' ++ r) w' := by
  have hP := spush_st hs (by omega) hpl x hxp
  have P2 := placed_snoc P hxx hxp
  have U := heap_pushS (d := 2) (by omega) H x
  have f1 := m_push q
  have f2 := e_push
  have f3 := m_len q
  have f4 := e_len
  have hl : (xs ++ [x]).length = xs.length + 1 := by simp
  have e1 : IntKind.i64.wrap (((xs.length + 1 : Nat) : Int) - 1) = (xs.length : Int) := by rw [show ((xs.length + 1 : Nat) : Int) - 1 = (xs.length : Int) by omega]; exact IntWalk.i64_in _ (by omega)
  generalize pl.set x xs.length = pl1 at *
  generalize hn : xs.length = n at *
  generalize xs ++ [x] = ys at *
  clear hs P H
  go_enter Tryz.func303, Tryz.ntmps303
  go_wp2_with fail
  refine hP.mono ?_
  rintro e w1 ⟨rfl, v1, hs1⟩
  clear hP
  have hL := slen_stS hs1
  rw [hl] at hL
  have hs1' : Stage F0 W0 (handL p c bm vp W s pl1 q v1 (ys ++ []) ++ r) w1 := by rw [List.append_nil]; exact hs1
  have hU := up_st hs1' (by omega) (by rw [List.append_nil]; exact P2) A n U
  clear hs1'
  go_wp2_with fail
  refine hL.mono ?_
  rintro e w2 ⟨rfl, rfl⟩
  go_wp2_with fail
  refine hU.mono ?_
  rintro e w3 ⟨rfl, ys', pl', s', h1, h2, h4, h3⟩
  rw [List.append_nil] at h3
  go_wp2_with fail
  go_end0
  exact ⟨rfl, v1, ys', pl', s', h1, h2, h4, h3⟩
end
end Go.Proofs.YtkcicnflcilekaaGreat

namespace Go.Proofs.YtkcicnflcilekaaGreat
open Go.RowKit Go.Sort

section
variable {w : World} {p c : Nat} {W : WS} {s : Int} {F : Nat → Prop}
theorem shed_close {F : Nat → Prop} {w w' : World} {bm : Nat} {vp : Value} {W' : WS} {s' : Int} {pl : List Nat} {Ls : Nat → List Nat} {qs : Nat → Nat} (hs : Stage F w (shedParts p c bm vp W' s' pl (mapO Ls qs) (famO p Ls qs)) w') (hF : ∀ b, F b → b < w.heap.size) (I : SInv W' pl Ls) (hf : W'.Fit) : ∃ F', (Ob.shed p c W' s').holds w' F' ∧ Moved F F' w w' := by
  obtain ⟨F', h1, m⟩ := hs.close hF
  have h3 : 0 ≤ s' ∧ s' ≤ 4611686018427387904 := by
    obtain ⟨G, ho⟩ := hs.get (i := 1) rfl
    exact Ob.cells.steps ho
  exact ⟨F', ⟨bm, vp, pl, Ls, qs, I, hf, h3, h1⟩, m⟩
theorem parts_fit {F0 : Nat → Prop} {W0 : World} {bm : Nat} {vp : Value} {pl : List Nat} {f : Int → Option Nat} {g : Nat → Ob} (hs : Stage F0 W0 (shedParts p c bm vp W s pl f g) w) : W.Fit := by
  obtain ⟨G, ho⟩ := hs.get (i := 1) rfl
  exact Ob.cells.fit ho
set_option maxRecDepth 100000 in
theorem insert_sh (y x k q : Int) (h : (Ob.shed p c W s).holds w F) : Calls Tryz.prog 296 #[.pointer (some ⟨p, 0, none⟩), .int .i64 y, .int .i64 x, .agg #[.int .i64 k, .int .u64 q]] w fun e w' => e = .returned (.bool (putB W y x)) ∧ ∃ s', (s ≤ s' ∧ (putB W y x = false → s' = s) ∧ s' ≤ s + depthIS 2 (lenW W y) ∧ (putB W y x = true → 0 < lenW W y → 0 < s')) ∧ ∃ F', (Ob.shed p c (putW W y x k q) s').holds w' F' ∧ Moved F F' w w' := by
  have hF := (Ob.shed p c W s).lt h
  obtain ⟨bm, vp, pl, Ls, qs, I, hf, _, hg⟩ := h
  have hs := Ob.group.open hg
  clear hg
  obtain ⟨w0, hw0, hs0⟩ : ∃ w0, w.alloc (.cells #[.int .i64 k, .int .u64 q] 94) = w0 ∧ Stage F w (shedParts p c bm vp W s pl (mapO Ls qs) (famO p Ls qs) ++ [Ob.box w.heap.size #[.int .i64 k, .int .u64 q] 94]) w0 := ⟨_, rfl, hs.alloc _ _⟩
  have hC := hs0.drew.call 1 rfl (fun _ ho => put_cl y x k q ho)
  have b0 := hs0.cell 5 rfl (o := 0) rfl
  have b1 := hs0.cell 5 rfl (o := 1) rfl
  have p0 := hs0.cell 0 rfl (o := 0) rfl
  cases hB : putB W y x
  · have eW : putW W y x k q = W := by simp [putW, hB]
    rw [hB, eW] at hC
    rw [eW]
    clear hs
    go_enter Tryz.func296, Tryz.ntmps296
    go_wp2_with fail
    go_still_tail 7, (by kernel_rfl)
    change wpList _ _ _ _ _ w0.drew
    go_wp2_with fail
    refine hC.mono ?_
    rintro e w1 ⟨rfl, hs1⟩
    have hs2 : Stage F w (shedParts p c bm vp W s pl (mapO Ls qs) (famO p Ls qs)) w1 := hs1.take 5
    go_wp2_with fail
    go_ret
    exact ⟨rfl, s, ⟨Int.le_refl _, fun _ => rfl, by omega, fun e => by simp at e⟩, shed_close hs2 hF I hf⟩
  · obtain ⟨i, j, rfl, rfl, hi1, hi2, hj⟩ : ∃ i j : Nat, y = i ∧ x = j ∧ 1 ≤ i ∧ i < 65537 ∧ j < W.cells.length := by
      have hB2 := hB
      simp only [putB, Bool.and_eq_true] at hB2
      obtain ⟨i, rfl, h1, h2, _⟩ := has_nat hB2.1
      obtain ⟨j, rfl, h3⟩ := slot_nat hB2.2.1
      have := hf.len
      exact ⟨i, j, rfl, rfl, h1, by omega, h3⟩
    obtain ⟨_, h0, _, hnot, hH, hall, hfin⟩ := sinv_put (k := k) (s := q) I hB hi1
    have hlen := I.len i hi1
    have hle := I.lenLe hf i
    have hlt : (Ls i).length < 65536 := by
      have h1 := hf.cap
      have h2 := len_put (W := W) (k := k) (s := q) hi1 hj h0 i
      rw [if_pos rfl] at h2
      have h3 := len_le (⟨W.heaps, W.cells.set j ⟨i, k, q⟩⟩ : WS) i
      rw [show (⟨W.heaps, W.cells.set j ⟨i, k, q⟩⟩ : WS).cells.length = W.cells.length from List.length_set] at h3
      omega
    have hplc : pl.length ≤ 65536 := by rw [I.plen]; exact hf.cap
    have hjp : j < pl.length := by rw [I.plen]; exact hj
    have hP := I.placed i
    have hnj := hnot i
    rw [hB] at hC
    clear hs hnot
    generalize putW W i j k q = W1 at *
    go_enter Tryz.func296, Tryz.ntmps296
    go_wp2_with fail
    go_still_tail 7, (by kernel_rfl)
    change wpList _ _ _ _ _ w0.drew
    go_wp2_with fail
    refine hC.mono ?_
    rintro e w1 ⟨rfl, hs1⟩
    have hs2 : Stage F w (shedParts p c bm vp W1 s pl (mapO Ls qs) (famO p Ls qs)) w1 := hs1.take 5
    clear hs1 hC b0 b1 p0 hw0 hs0
    have hf1 := parts_fit hs2
    have hL := list_hand hs2 i hi2
    go_wp2_with fail
    refine hL.mono ?_
    rintro e w2 ⟨q2, v2, rfl, hs3⟩
    clear hL hs2
    have hPu := push_st hs3 hlt hplc hP j hall hnj hjp hH
    go_wp2_with fail
    refine hPu.mono ?_
    rintro e w3 ⟨rfl, v3, ys, pl3, s3, g1, g2, g3, hs4⟩
    clear hPu hs3
    have hyl : ys.length ≤ 65536 := by rw [g2.perm.length_eq]; simp; omega
    have hpl3 : pl3.length = pl.length := by rw [g2.plen, List.length_set]
    have I3 := hfin ys pl3 g1 g2.perm (by have := g2.placed; rwa [List.append_nil] at this) hpl3 (fun z hz => by
      rw [g2.off z hz]
      exact set_off hjp _ _ (fun e => hz (by rw [← e]; simp)))
    have hK := keep_st hs4 i hi2 hyl (upd_same _ _ _)
    have hst : s ≤ s3 ∧ (true = false → s3 = s) ∧ s3 ≤ s + depthIS 2 (lenW W i) ∧ (true = true → 0 < lenW W i → 0 < s3) := ⟨g2.lo, fun e => (by cases e), by rw [← hlen]; exact g2.hi, fun _ h => g3 (by rw [hlen]; exact h)⟩
    rw [upd_map, upd_upd, upd_fam] at hK
    clear g2 hs4 hfin
    go_wp2_with fail
    refine hK.mono ?_
    rintro e w4 ⟨rfl, hs5⟩
    go_wp2_with fail
    go_ret
    exact ⟨rfl, s3, hst, shed_close hs5 hF I3 hf1⟩
end
end Go.Proofs.YtkcicnflcilekaaGreat

namespace Go.Proofs.YtkcicnflcilekaaGreat
open Go.RowKit Go.Sort

def newShedPost (w : World) (n : Nat) (e : Ending) (w' : World) : Prop := ∃ p c, e = .returned (.tuple #[.pointer (some ⟨p, 0, none⟩), .int .i64 0]) ∧ ∃ F', (Ob.shed p c (newW n) 0).holds w' F' ∧ (∀ k, F' k → w.heap.size ≤ k) ∧ Below w.heap.size w w'
theorem madeZero (n : Nat) : (madeCells #[Value.int .i64 0] (n * 1)).toList = cellsBy natC (List.replicate n 0) := made_rows (f := natC) natC_len (by omega) 0 #[.int .i64 0] rfl n
section
theorem new_sh (n : Nat) (hn : n ≤ 65536) (w : World) : Calls Tryz.prog 72 #[.int .i64 n] w (newShedPost w n) := by
  have hmk := run_make_rows (P := Tryz.prog) 75 3 (.int .i64 0) 1 8 Tryz.underlying75 info_int n (by omega) (by omega)
  have hmm := @run_makeMap Tryz.prog
  have hC := new_cl n hn w
  go_enter Tryz.func72, Tryz.ntmps72
  go_wp2_with fail
  refine hC.mono ?_
  rintro e w1 ⟨c, rfl, F1, h1, h2, h3⟩
  have hs1 := (Stage.start w).add (O := Ob.cells c (newW n) 0) h3 h1 h2
  have hs2 := hs1.newPMap Tryz.prog 3 65537 rfl
  have hs3 := hs2.newRow' 3 1 n (madeCells #[Value.int .i64 0] (n * 1)) (by simp [madeCells]) (by unfold maxLen; omega) rfl
  have hz : (w1.alloc (.map #[] 0)).heap.size = w1.heap.size + 1 := size_alloc _ _
  have hs4 := hs3.alloc #[.pointer (some ⟨c, 0, none⟩), .map (some w1.heap.size), .slice (some ⟨w1.heap.size + 1, 0, none⟩) n n] 210
  rw [madeZero, hz] at hs4
  have hz2 : ((w1.alloc (.map #[] 0)).alloc (.cells (madeCells #[Value.int .i64 0] (n * 1)) 3)).heap.size = w1.heap.size + 1 + 1 := by rw [size_alloc, hz]
  rw [hz2] at hs4
  have hs5 : Stage (fun _ => False) w ([Ob.box (w1.heap.size + 1 + 1) #[.pointer (some ⟨c, 0, none⟩), .map (some w1.heap.size), .slice (some ⟨w1.heap.size + 1, 0, none⟩) n n] 210, Ob.cells c (newW n) 0, Ob.row 0 3 1 (.slice (some ⟨w1.heap.size + 1, 0, none⟩) n n) n (cellsBy natC (List.replicate n 0)), Ob.pmap Tryz.prog 3 w1.heap.size (fun _ => none) 65537]) _ := hs4.select [3, 0, 2, 1] (by decide) rfl
  rw [Nat.mul_one] at hs5
  clear hs1 hs2 hs3 hs4
  go_wp2_with fail
  have hs6 := hs5.add (O := Ob.fam (famO (w1.heap.size + 1 + 1) (fun _ => []) (fun _ => 0))) (F' := fun _ => False) (Below.refl _ _) ⟨fun _ h => h.elim, fun _ _ => False, fun i => by show (listO _ _ []).holds _ _; simp only [listO, if_true]; exact rfl, fun _ _ _ _ h => h.elim, fun _ _ h => h.elim⟩ (fun _ h => h.elim)
  obtain ⟨F', g1, g2, g3⟩ := hs6.closeNew
  refine bodyPost_ret (v := .tuple #[.pointer (some ⟨w1.heap.size + 1 + 1, 0, none⟩), .int .i64 0]) (by simp [results, Tryz.results72, go_sem]) rfl ⟨_, c, rfl, F', ⟨w1.heap.size, .slice (some ⟨w1.heap.size + 1, 0, none⟩) n n, List.replicate n 0, fun _ => [], fun _ => 0, sinv_new n, new_fitW hn, ⟨Int.le_refl _, by omega⟩, ?_⟩, g2, g3⟩
  unfold shedParts
  rw [List.length_replicate]
  have e : mapO (fun _ => []) (fun _ => 0) = fun _ => none := by funext h; simp [mapO]
  rw [e]
  exact g1
end
section
variable {w : World} {p c : Nat} {W : WS} {s : Int} {F : Nat → Prop}
set_option maxRecDepth 100000 in
theorem min_sh (y : Int) (hy : inInt y) (h : (Ob.shed p c W s).holds w F) : Calls Tryz.prog 298 #[.pointer (some ⟨p, 0, none⟩), .int .i64 y] w fun e w' => e = .returned (.tuple #[.int .i64 (minI W y), .bool (minB W y)]) ∧ w = w' := by
  obtain ⟨bm, vp, pl, Ls, qs, I, hf, _, hg⟩ := h
  have hs := Ob.group.open hg
  clear hg
  have hL := hs.ask 1 rfl (fun _ ho => len_cl y hy ho)
  have p0 := hs.cell 0 rfl (o := 0) rfl
  by_cases hz : lenW W y = 0
  · obtain ⟨q1, q2⟩ := minI_none (min_none_iff.2 hz)
    rw [q1, q2]
    have hz' : (lenW W y : Int) = 0 := by omega
    rw [hz'] at hL
    clear hz hz' q1 q2
    go_enter Tryz.func298, Tryz.ntmps298
    go_wp2_with fail
    refine hL.mono ?_
    rintro e w1 ⟨rfl, rfl⟩
    go_wp2_with fail
    exact bodyPost_ret (v := .tuple #[.int .i64 0, .bool false]) (by simp [results, Tryz.results298, go_sem]) rfl ⟨rfl, rfl⟩
  · have hyp : 0 < y := by
      by_cases e : 0 < y
      · exact e
      · exact absurd (by simp [lenW, e]) hz
    obtain ⟨k, rfl⟩ : ∃ k : Nat, y = k := ⟨y.toNat, by omega⟩
    have hn : Ls k ≠ [] := fun e => hz ((I.empty (by omega)).1 e)
    obtain ⟨_, hk, _⟩ := I.keyLt hf hn
    obtain ⟨q1, q2⟩ := minI_some (min_of (I.min hn))
    rw [q1, q2]
    have hl := list_st hs k hk hn
    obtain ⟨v, hh⟩ := take_hand hs k hn
    have hpos : 0 < (Ls k).length := List.length_pos_iff.2 hn
    obtain ⟨g, cp, rfl, _, _, _, hcell, _⟩ := hand_row hh hpos
    have u0 := hcell 0 hpos
    have k1 := hh.cell 3 rfl (o := 1) rfl
    have hz' : ((lenW W k : Int) == 0) = false := by simp; omega
    clear hcell hh hs I hz q1 q2
    generalize (Ls k).length = m at *
    generalize ratS (Ls k) 0 = x at *
    generalize qs k = q at *
    generalize (lenW W k : Int) = lw at *
    have hp0 : (0 : Int) < m := by omega
    go_enter Tryz.func298, Tryz.ntmps298
    go_wp2_with fail
    refine hL.mono ?_
    rintro e w1 ⟨rfl, rfl⟩
    go_wp2_with fail
    refine hl.mono ?_
    rintro e w1 ⟨rfl, rfl⟩
    go_wp2_with fail
    exact bodyPost_ret (v := .tuple #[.int .i64 x, .bool true]) (by simp [results, Tryz.results298, go_sem]) rfl ⟨rfl, rfl⟩
end
end Go.Proofs.YtkcicnflcilekaaGreat

namespace Go.Proofs.YtkcicnflcilekaaGreat
open Go.RowKit Go.Sort

section
variable {w : World} {p c : Nat} {W : WS} {s : Int} {F : Nat → Prop}
end
end Go.Proofs.YtkcicnflcilekaaGreat

namespace Go.Proofs.YtkcicnflcilekaaGreat

section
variable {W : WS} {pl : List Nat} {Ls : Nat → List Nat}
end
end Go.Proofs.YtkcicnflcilekaaGreat
