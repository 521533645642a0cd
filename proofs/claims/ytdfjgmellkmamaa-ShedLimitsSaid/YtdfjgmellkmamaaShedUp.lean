/- Merged of ShedObj, ShedUp. -/
import Derived.Test.YtdfjgmellkmamaaOwn
import Derived.Test.YtdfjgmellkmamaaShedList3
namespace Go.Proofs.Ytdfjgmellkmamaa
open Go.RowKit Go.Sort

/-- A list of slots, at q; none, if there is nothing in it. -/
def listO (p q : Nat) (xs : List Nat) : Ob := if xs = [] then Ob.none else Ob.ex fun v : Value => Ob.group [Ob.box q #[.pointer (some ⟨p, 0, none⟩), v] 103, Ob.row 0 3 1 v xs.length (cellsBy natC xs)]
def famO (p : Nat) (Ls : Nat → List Nat) (qs : Nat → Nat) : Nat → Ob := fun h => listO p (qs h) (Ls h)
def mapO (Ls : Nat → List Nat) (qs : Nat → Nat) : Int → Option Nat := fun h => if 0 ≤ h ∧ Ls h.toNat ≠ [] then some (qs h.toNat) else none
def shedParts (p c bm : Nat) (vp : Value) (W : WS) (s : Int) (pl : List Nat) (f : Int → Option Nat) (g : Nat → Ob) : List Ob :=
  [Ob.box p #[.pointer (some ⟨c, 0, none⟩), .map (some bm), vp] 32, Ob.cells c W s, Ob.row 0 3 1 vp pl.length (cellsBy natC pl), Ob.pmap Try.prog 3 bm f 65537, Ob.fam g]
/-- A shed at p, whose cells are at c. -/
def Ob.shed (p c : Nat) (W : WS) (s : Int) : Ob where
  holds w F := ∃ bm vp pl Ls qs, SInv W pl Ls ∧ W.Fit ∧ (0 ≤ s ∧ s ≤ 4611686018427387904) ∧ (Ob.group (shedParts p c bm vp W s pl (mapO Ls qs) (famO p Ls qs))).holds w F
  keeps := fun ⟨bm, vp, pl, Ls, qs, h1, h2, h3, h⟩ k hn => ⟨bm, vp, pl, Ls, qs, h1, h2, h3, (Ob.group _).keeps h k hn⟩
  lt := fun ⟨bm, vp, pl, Ls, qs, h1, h2, h3, h⟩ => (Ob.group _).lt h
theorem upd_fam (p : Nat) (Ls : Nat → List Nat) (qs : Nat → Nat) (h q : Nat) (ys : List Nat) : updO (famO p Ls qs) h (listO p q ys) = famO p (updL Ls h ys) (updN qs h q) := by
  funext i
  unfold updO famO updL updN
  split <;> rfl
theorem upd_upd (g : Nat → Ob) (h : Nat) (O P : Ob) : updO (updO g h O) h P = updO g h P := by
  funext i; unfold updO; split <;> rfl
theorem upd_same (g : Nat → Ob) (h : Nat) (O : Ob) : updO g h O h = O := by simp [updO]
theorem upd_none (p : Nat) (Ls : Nat → List Nat) (qs : Nat → Nat) (h : Nat) (hn : Ls h = []) : updO (famO p Ls qs) h Ob.none = famO p Ls qs := by
  funext i
  unfold updO famO
  split
  · rename_i e; subst e; simp [listO, hn]
  · rfl
theorem upd_map (Ls : Nat → List Nat) (qs : Nat → Nat) (h q : Nat) (ys : List Nat) : setP (mapO Ls qs) h (if ys = [] then none else some q) = mapO (updL Ls h ys) (updN qs h q) := by
  funext i
  unfold setP mapO updL updN
  by_cases e : i = h
  · subst e
    simp only [if_true, Int.toNat_natCast, Int.natCast_nonneg, true_and]
    by_cases e2 : ys = [] <;> simp [e2]
  · rw [if_neg e]
    by_cases hi : 0 ≤ i
    · have : i.toNat ≠ h := by omega
      simp [this]
    · simp [hi]
theorem zero_ptr (w : World) : (zeroValue 73).run Try.prog w = .ok (.pointer none) w := by kernel_rfl
namespace Stage
variable {F0 : Nat → Prop} {W0 w : World} {l : List Ob}
theorem openEx {α : Type} {O : α → Ob} (h : Stage F0 W0 (l ++ [Ob.ex O]) w) : ∃ a, Stage F0 W0 (l ++ [O a]) w := by
  obtain ⟨hk, F, h1, h2, h3⟩ := h
  obtain ⟨a, ha⟩ := h1 l.length (Ob.ex O) (by simp)
  refine ⟨a, hk, F, fun i P hi => ?_, h2, h3⟩
  by_cases e : i < l.length
  · rw [List.getElem?_append_left e] at hi
    exact h1 i P (by rw [List.getElem?_append_left e]; exact hi)
  · have ei : i = l.length := by
      have := Scene.idx' hi
      simp at this
      omega
    subst ei
    simp at hi
    subst hi
    exact ha
theorem closeEx {α : Type} {O : α → Ob} (a : α) (h : Stage F0 W0 (l ++ [O a]) w) : Stage F0 W0 (l ++ [Ob.ex O]) w := by
  have := h.weaken (i := l.length) (O := O a) (O' := Ob.ex O) (by simp) (fun F hF => ⟨a, hF⟩)
  simpa using this
end Stage
section
variable {F0 : Nat → Prop} {W0 w : World} {p c bm : Nat} {vp : Value} {W : WS} {s : Int} {pl : List Nat} {f : Int → Option Nat} {g : Nat → Ob} {q : Nat} {v : Value} {xs : List Nat}
/-- A heap's list in hand. -/
theorem take_hand {Ls : Nat → List Nat} {qs : Nat → Nat} (h : Stage F0 W0 (shedParts p c bm vp W s pl f (famO p Ls qs)) w) (k : Nat) (hn : Ls k ≠ []) :
    ∃ v, Stage F0 W0 (handL p c bm vp W s pl (qs k) v (Ls k) ++ [Ob.pmap Try.prog 3 bm f 65537, Ob.fam (updO (famO p Ls qs) k Ob.none)]) w := by
  have h1 := h.pull 4 rfl k
  have e : famO p Ls qs k = Ob.ex fun v : Value => Ob.group [Ob.box (qs k) #[.pointer (some ⟨p, 0, none⟩), v] 103, Ob.row 0 3 1 v (Ls k).length (cellsBy natC (Ls k))] := by
    unfold famO listO; rw [if_neg hn]
  rw [e] at h1
  obtain ⟨v, h2⟩ := h1.openEx
  exact ⟨v, h2.ungroup.select [0, 1, 2, 5, 6, 3, 4] (by decide) rfl⟩
/-- .. laid back. -/
theorem lay_hand (h : Stage F0 W0 (handL p c bm vp W s pl q v xs ++ [Ob.pmap Try.prog 3 bm f 65537, Ob.fam g]) w) (k : Nat) (hg : g k = Ob.none) : Stage F0 W0 (shedParts p c bm vp W s pl f (updO g k (listO p q xs))) w := by
  by_cases e : xs = []
  · have e1 : listO p q xs = Ob.none := by simp [listO, e]
    have e2 : updO g k (listO p q xs) = g := by
      rw [e1]; funext i; unfold updO; split
      · rename_i e; subst e; exact hg.symm
      · rfl
    rw [e2]
    exact h.select [0, 1, 2, 5, 6] (by decide) rfl
  · have e1 : listO p q xs = Ob.ex fun v : Value => Ob.group [Ob.box q #[.pointer (some ⟨p, 0, none⟩), v] 103, Ob.row 0 3 1 v xs.length (cellsBy natC xs)] := by simp [listO, e]
    have h1 := h.select [0, 1, 2, 5, 6, 3, 4] (by decide) rfl
    have h2 : Stage F0 W0 ([Ob.box p #[.pointer (some ⟨c, 0, none⟩), .map (some bm), vp] 32, Ob.cells c W s, Ob.row 0 3 1 vp pl.length (cellsBy natC pl), Ob.pmap Try.prog 3 bm f 65537, Ob.fam g] ++ [Ob.box q #[.pointer (some ⟨p, 0, none⟩), v] 103, Ob.row 0 3 1 v xs.length (cellsBy natC xs)]) w := h1
    have h3 := h2.regroup.closeEx (O := fun v : Value => Ob.group [Ob.box q #[.pointer (some ⟨p, 0, none⟩), v] 103, Ob.row 0 3 1 v xs.length (cellsBy natC xs)]) v
    rw [← e1] at h3
    exact h3.push 4 rfl k hg
/-- 'list', where there is one. -/
theorem list_st {Ls : Nat → List Nat} {qs : Nat → Nat} (hs : Stage F0 W0 (shedParts p c bm vp W s pl (mapO Ls qs) g) w) (k : Nat) (hk : k < 65537) (hn : Ls k ≠ []) :
    Calls Try.prog 30 #[.pointer (some ⟨p, 0, none⟩), .int .i64 k] w fun e w' => e = .returned (.pointer (some ⟨qs k, 0, none⟩)) ∧ w = w' := by
  have p1 := hs.cell 0 rfl (o := 1) rfl
  have hL := hs.lookP 3 rfl Try.underlying29 Try.underlying3 (zero_ptr w) k (by omega)
  have e : mapO Ls qs k = some (qs k) := by simp [mapO, hn]
  rw [e] at hL
  replace hL : (Instr.lookup 29 (.map (some bm)) (.int .i64 k) true).run Try.prog w = .ok (.tuple #[.pointer (some ⟨qs k, 0, none⟩), .bool true]) w := hL
  generalize qs k = q at *
  go_enter Try.func30, Try.ntmps30
  go_wp2_with fail
  go_ret
  exact ⟨rfl, rfl⟩
/-- .. where there is none. -/
theorem list_no {Ls : Nat → List Nat} {qs : Nat → Nat} (hs : Stage F0 W0 (shedParts p c bm vp W s pl (mapO Ls qs) g) w) (k : Nat) (hk : k < 65537) (hn : Ls k = []) :
    Calls Try.prog 30 #[.pointer (some ⟨p, 0, none⟩), .int .i64 k] w fun e w' => e = .returned (.pointer (some ⟨w.heap.size, 0, none⟩)) ∧ Stage F0 W0 (handL p c bm vp W s pl w.heap.size (.slice none 0 0) [] ++ [Ob.pmap Try.prog 3 bm (mapO Ls qs) 65537, Ob.fam g]) w' := by
  have p1 := hs.cell 0 rfl (o := 1) rfl
  have hL := hs.lookP 3 rfl Try.underlying29 Try.underlying3 (zero_ptr w) k (by omega)
  have e : mapO Ls qs k = none := by simp [mapO, hn]
  rw [e] at hL
  replace hL : (Instr.lookup 29 (.map (some bm)) (.int .i64 k) true).run Try.prog w = .ok (.tuple #[.pointer none, .bool false]) w := hL
  have hs2 := ((hs.alloc #[.pointer (some ⟨p, 0, none⟩), .slice none 0 0] 103).nilRow 0 3 1).select [0, 1, 2, 5, 6, 3, 4] (by decide) rfl
  go_enter Try.func30, Try.ntmps30
  go_wp2_with fail
  go_ret
  exact ⟨rfl, hs2⟩
/-- 'list', whatever there is: it is in hand. -/
theorem list_hand {Ls : Nat → List Nat} {qs : Nat → Nat} (hs : Stage F0 W0 (shedParts p c bm vp W s pl (mapO Ls qs) (famO p Ls qs)) w) (k : Nat) (hk : k < 65537) :
    Calls Try.prog 30 #[.pointer (some ⟨p, 0, none⟩), .int .i64 k] w fun e w' => ∃ q v, e = .returned (.pointer (some ⟨q, 0, none⟩)) ∧ Stage F0 W0 (handL p c bm vp W s pl q v (Ls k) ++ [Ob.pmap Try.prog 3 bm (mapO Ls qs) 65537, Ob.fam (updO (famO p Ls qs) k Ob.none)]) w' := by
  by_cases hn : Ls k = []
  · refine (list_no hs k hk hn).mono ?_
    rintro e w' ⟨rfl, h⟩
    rw [upd_none p Ls qs k hn, hn]
    exact ⟨_, _, rfl, h⟩
  · obtain ⟨v, h⟩ := take_hand hs k hn
    refine (list_st hs k hk hn).mono ?_
    rintro e w' ⟨rfl, rfl⟩
    exact ⟨_, v, rfl, h⟩
set_option maxRecDepth 100000 in
/-- 'keep'. -/
theorem keep_st (hs : Stage F0 W0 (handL p c bm vp W s pl q v xs ++ [Ob.pmap Try.prog 3 bm f 65537, Ob.fam g]) w) (k : Nat) (hk : k < 65537) (hx : xs.length ≤ 65536) (hg : g k = Ob.none) :
    Calls Try.prog 32 #[.pointer (some ⟨p, 0, none⟩), .int .i64 k, .pointer (some ⟨q, 0, none⟩)] w fun e w' => e = .returned (.tuple #[]) ∧ Stage F0 W0 (shedParts p c bm vp W s pl (setP f k (if xs = [] then none else some q)) (updO g k (listO p q xs))) w' := by
  have hL := slen_st hs
  have p1 := hs.cell 0 rfl (o := 1) rfl
  by_cases hn : xs = []
  · have hl0 : (xs.length : Int) = 0 := by rw [hn]; rfl
    rw [hl0] at hL
    rw [if_pos hn]
    go_enter Try.func32, Try.ntmps32
    go_wp2_with fail
    refine hL.mono ?_
    rintro e w1 ⟨rfl, rfl⟩
    go_wp2_with (at_delete; refine hs.wp_deleteP 5 rfl rfl _ _ rfl Try.underlying29 Try.underlying3 rfl k rfl (by omega) ?_)
    intro w2 hs2
    have hs3 := lay_hand hs2 k hg
    go_wp2_with fail
    exact bodyPost_ret (results_none rfl _ _ _) rfl ⟨rfl, by rw [hn]; exact hs3⟩
  · have hl0 : ((xs.length : Int) == 0) = false := by
      have := List.length_pos_iff.2 hn
      simp; omega
    rw [if_neg hn]
    generalize hm : xs.length = m at *
    go_enter Try.func32, Try.ntmps32
    go_wp2_with fail
    refine hL.mono ?_
    rintro e w1 ⟨rfl, rfl⟩
    go_wp2_with (at_mapUpdate; refine hs.wp_putP 5 rfl rfl _ _ _ rfl Try.underlying29 Try.underlying3 (by unfold maxLen; omega) rfl k q rfl rfl hk ?_)
    intro w2 hs2
    have hs3 := lay_hand hs2 k hg
    go_wp2_with fail
    go_end0
    exact ⟨rfl, hs3⟩
end
end Go.Proofs.Ytdfjgmellkmamaa

namespace Go.Proofs.Ytdfjgmellkmamaa
open Go.RowKit Go.Sort

abbrev ilist (q : Nat) : Value := .iface 73 (.pointer (some ⟨q, 0, none⟩))
theorem m_len (q : Nat) (w : World) : (method 251 73 (.pointer (some ⟨q, 0, none⟩)) "Len").run Try.prog w = .ok (50, .pointer (some ⟨q, 0, none⟩)) w := by kernel_rfl
theorem m_less (q : Nat) (w : World) : (method 251 73 (.pointer (some ⟨q, 0, none⟩)) "Less").run Try.prog w = .ok (107, .pointer (some ⟨q, 0, none⟩)) w := by kernel_rfl
theorem m_swap (q : Nat) (w : World) : (method 251 73 (.pointer (some ⟨q, 0, none⟩)) "Swap").run Try.prog w = .ok (110, .pointer (some ⟨q, 0, none⟩)) w := by kernel_rfl
theorem m_push (q : Nat) (w : World) : (method 251 73 (.pointer (some ⟨q, 0, none⟩)) "Push").run Try.prog w = .ok (109, .pointer (some ⟨q, 0, none⟩)) w := by kernel_rfl
theorem m_pop (q : Nat) (w : World) : (method 251 73 (.pointer (some ⟨q, 0, none⟩)) "Pop").run Try.prog w = .ok (108, .pointer (some ⟨q, 0, none⟩)) w := by kernel_rfl
theorem e_len (args : Array Value) (w : World) : (callFunc 50 args).run Try.prog w = .ok (.enter 50 args) w := by kernel_rfl
theorem e_less (args : Array Value) (w : World) : (callFunc 107 args).run Try.prog w = .ok (.enter 107 args) w := by kernel_rfl
theorem e_swap (args : Array Value) (w : World) : (callFunc 110 args).run Try.prog w = .ok (.enter 110 args) w := by kernel_rfl
theorem e_push (args : Array Value) (w : World) : (callFunc 109 args).run Try.prog w = .ok (.enter 109 args) w := by kernel_rfl
theorem e_pop (args : Array Value) (w : World) : (callFunc 108 args).run Try.prog w = .ok (.enter 108 args) w := by kernel_rfl
theorem aheadS_range (W : WS) {s : Int} (h : 0 ≤ s ∧ s ≤ 4611686018427387904) (a b : Int) : s ≤ aheadS W s a b ∧ aheadS W s a b ≤ s + 1 := by
  unfold aheadS addI
  repeat' split
  all_goals omega
theorem aheadS_pos {W : WS} {s : Int} (h : 0 ≤ s ∧ s ≤ 4611686018427387904) {x y : Nat} (hx : x < W.cells.length ∧ homeAt W x ≠ 0) (hy : y < W.cells.length ∧ homeAt W y ≠ 0) : 0 < aheadS W s x y := by
  have h1 : inW W x = true := by rw [inW, cell_nat W x hx.1]; exact bne_iff_ne.2 hx.2
  have h2 : inW W y = true := by rw [inW, cell_nat W y hy.1]; exact bne_iff_ne.2 hy.2
  simp only [aheadS, h1, h2, Bool.and_self, if_true, addI]
  repeat' split
  all_goals omega
theorem AllIn.perm {W : WS} {xs ys : List Nat} (A : AllIn W xs) (h : ys.Perm xs) : AllIn W ys := fun x hx => A x (h.mem_iff.1 hx)
theorem strict_placed {W : WS} {ys zs pl : List Nat} (A : AllIn W ys) (P : Placed (ys ++ zs) pl) : Strict (ltW W) ys := by
  refine strict_of (pl := pl) A fun i j hi hj e => ?_
  refine placed_inj P (i := i) (j := j) (by simp; omega) (by simp; omega) ?_
  rw [rat_append hi, rat_append hj]; exact e
section
variable {F0 : Nat → Prop} {W0 w : World} {p c bm : Nat} {vp : Value} {W : WS} {s : Int} {pl : List Nat} {q : Nat} {v : Value} {ys zs : List Nat} {r : List Ob}
theorem hand_steps {xs : List Nat} (h : Stage F0 W0 (handL p c bm vp W s pl q v xs ++ r) w) : 0 ≤ s ∧ s ≤ 4611686018427387904 := by
  obtain ⟨F, ho⟩ := h.get (i := 1) rfl
  exact Ob.cells.steps ho
set_option maxRecDepth 100000 in
set_option maxHeartbeats 1000000 in
theorem up_st (hs : Stage F0 W0 (handL p c bm vp W s pl q v (ys ++ zs) ++ r) w) (hx : ys.length ≤ 65536) (P : Placed (ys ++ zs) pl) (A : AllIn W ys) (j : Nat) (U : UpInv 2 (ltW W) ys j) :
    Calls Try.prog 49 #[ilist q, .int .i64 j] w fun e w' => e = .returned (.tuple #[]) ∧ ∃ ys' pl' s', Heap 2 (ltW W) ys' ∧ Turned (depthI 2 j) zs ys pl s ys' pl' s' ∧ (0 < j → 0 < s') ∧ Stage F0 W0 (handL p c bm vp W s' pl' q v (ys' ++ zs) ++ r) w' := by
  have hT := Turned.refl (s := s) P
  have hj := U.jlt
  have f1 := m_less q
  have f2 := e_less
  have f3 := m_swap q
  have f4 := e_swap
  obtain ⟨dj, hdj⟩ : ∃ dj, dj = depthI 2 j := ⟨_, rfl⟩
  rw [← hdj]
  go_enter Try.func49, Try.ntmps49
  go_wp2_with fail
  go_loopw [1] (fun i wr => ∃ (k : Nat) (ys1 pl1 : List Nat) (s1 : Int), i = .int .i64 k ∧ k < 65536 ∧ UpInv 2 (ltW W) ys1 k ∧ depthI 2 k ≤ dj ∧ Turned (dj - depthI 2 k) zs ys pl s ys1 pl1 s1 ∧ (k = j ∨ 0 < s1) ∧ Stage F0 W0 (handL p c bm vp W s1 pl1 q v (ys1 ++ zs) ++ r) wr) (fun i _ => (intOf i).toNat)
  case atStart => exact ⟨j, ys, pl, s, rfl, by omega, U, by omega, by rw [hdj, Nat.sub_self]; exact hT, Or.inl rfl, hs⟩
  case round =>
    clear hs U hT hj
    obtain ⟨k, ys1, pl1, s1, rfl, hk, U, hd, hT, hps, hs⟩ := hrel
    have hkl := U.jlt
    have P1 := hT.placed
    have S1 := strict_placed (A.perm hT.perm) P1
    by_cases hk0 : k = 0
    · subst hk0
      have hH := up_stop U (Or.inl rfl)
      clear U S1
      go_wp2_with fail
      go_end0
      exact ⟨rfl, ys1, pl1, s1, hH, hT.mono (by omega), fun h => hps.elim (fun e => by omega) id, hs⟩
    · have hkp : 0 < k := Nat.pos_of_ne_zero hk0
      have hpk := par_lt (d := 2) (by omega) hkp
      have hdp := depth_par (d := 2) (by omega) hkp
      have e1 : IntKind.i64.wrap ((k : Int) - 1) = ((k - 1 : Nat) : Int) := by rw [show (k : Int) - 1 = ((k - 1 : Nat) : Int) by omega]; exact IntWalk.i64_in _ (by omega)
      have e2 : Int.tdiv ((k - 1 : Nat) : Int) 2 = (par 2 k : Int) := (Int.ofNat_tdiv (k - 1) 2).symm
      have hU := up_step (by omega) S1 U hkp
      have hE := fun h => up_stop U (Or.inr h)
      generalize hi : par 2 k = i at *
      have hil : i < ys1.length := by omega
      have e3 : ((i : Int) == k) = false := by simp; omega
      have hr := aheadS_range W (hand_steps hs) (rat (ys1 ++ zs) k) (rat (ys1 ++ zs) i)
      have hL := sless_st hs k i (by simp; omega) (by simp; omega)
      have hA1 := A.perm hT.perm
      have hpos := aheadS_pos (hand_steps hs) (hA1 _ (rat_mem hkl)) (hA1 _ (rat_mem hil))
      rw [rat_append hkl, rat_append hil] at hL hr
      generalize aheadS W s1 (rat ys1 k) (rat ys1 i) = s2 at *
      have hT2 := hT.trans (Turned.ask P1 hr)
      cases hB : ltW W (rat ys1 k) (rat ys1 i)
      · rw [hB] at hL
        have hH := hE hB
        clear U S1 hU hE hB
        go_wp2_with fail
        refine hL.mono ?_
        rintro e w1 ⟨rfl, hs1⟩
        clear hL hs
        go_wp2_with fail
        go_end0
        exact ⟨rfl, ys1, pl1, s2, hH, hT2.mono (by omega), fun _ => hpos, hs1⟩
      · rw [hB] at hL
        replace hU := hU hB
        clear U S1 hE hB
        go_wp2_with fail
        refine hL.mono ?_
        rintro e w1 ⟨rfl, hs1⟩
        clear hL hs
        have hS := sswap_st hs1 P1 i k (by simp; omega) (by simp; omega) (by omega)
        rw [swap_append hil hkl] at hS
        have hT3 := hT2.trans (Turned.swap P1 hil hkl)
        rw [swap_comm hil hkl] at hS hT3
        have hkl' : (swapL ys1 k i).length = ys1.length := swap_len _ _ _
        generalize swapL ys1 k i = ys2 at *
        generalize swapP (ys1 ++ zs) pl1 i k = pl2 at *
        go_wp2_with fail
        refine hS.mono ?_
        rintro e w2 ⟨rfl, hs2⟩
        go_wp2_with fail
        go_roundw
        case rel => exact ⟨i, ys2, pl2, s2, rfl, by omega, hU, by omega, hT3.mono (by omega), Or.inr hpos, hs2⟩
        case measure => simp [intOf]; omega
end
end Go.Proofs.Ytdfjgmellkmamaa
