/- Cubes in memory: the block, the row of things, a row of children for each thing; what is returned that only looks: has, isRoot, Degree, Up, Kids, Row. -/
import Derived.Test.YtmoolbmbdnkooaaGreatBox
import Derived.Test.YtmoolbmbdnkooaaGreatInts
import Derived.Test.YtmoolbmbdnkooaaGreatPMap
import Derived.Test.YtmoolbmbdnkooaaGreatLaw
import Derived.BigRegion
import Derived.StillTailTactics
namespace Go.Proofs.YtmoolbmbdnkooaaGreat
open Go.RowKit Go.Sort

structure Cy where
  up : Int
  kv : Value
def Cy.no : Cy := ⟨-1, .slice none 0 0⟩
def cyC (t : Cy) : List Value := [.int .i64 t.up, t.kv]
theorem cyC_len : ∀ t, (cyC t).length = 2 := fun _ => rfl
def setN {α : Type} (u : Nat → α) (i : Nat) (y : α) : Nat → α := fun j => if j = i then y else u j
theorem setN_self {α : Type} (u : Nat → α) (i : Nat) : setN u i (u i) = u := by
  funext j; unfold setN; split
  · rename_i e; rw [e]
  · rfl
def cyRaw (n : Nat) (u : Nat → Int) (kv : Nat → Value) : List Cy := (List.range n).map fun i => ⟨u i, kv i⟩
section
variable {n : Nat} {u : Nat → Int} {kv : Nat → Value}
theorem cyRaw_len : (cyRaw n u kv).length = n := by simp [cyRaw]
theorem cyRaw_at {i : Nat} (hi : i < n) (d : Cy) : (cyRaw n u kv).getD i d = ⟨u i, kv i⟩ := by simp [cyRaw, List.getD_eq_getElem?_getD, hi]
theorem cyRaw_set {i : Nat} (hi : i < n) (y : Int) (z : Value) : (cyRaw n u kv).set i ⟨y, z⟩ = cyRaw n (setN u i y) (setN kv i z) := by
  apply List.ext_getElem?
  intro j
  rw [List.getElem?_set, cyRaw_len]
  by_cases e : i = j
  · subst e
    rw [if_pos rfl, if_pos hi]
    simp [cyRaw, hi, setN]
  · rw [if_neg e]
    by_cases hj : j < n
    · simp [cyRaw, hj, setN, Ne.symm e]
    · simp [cyRaw, hj]
theorem cy_set_up {i : Nat} (hi : i < n) (y : Int) : (cellsBy cyC (cyRaw n u kv)).set (i * 2) (.int .i64 y) = cellsBy cyC (cyRaw n (setN u i y) kv) := by
  have h := cellsBy_set cyC 2 cyC_len .no (cyRaw n u kv) i 0 (.int .i64 y) ⟨y, kv i⟩ (by rw [cyRaw_len]; exact hi) (by omega) (by rw [cyRaw_at hi]; rfl)
  rw [cyRaw_set hi, setN_self] at h
  exact h
theorem cy_set_kv {i : Nat} (hi : i < n) (z : Value) : (cellsBy cyC (cyRaw n u kv)).set (i * 2 + 1) z = cellsBy cyC (cyRaw n u (setN kv i z)) := by
  have h := cellsBy_set cyC 2 cyC_len .no (cyRaw n u kv) i 1 z ⟨u i, z⟩ (by rw [cyRaw_len]; exact hi) (by omega) (by rw [cyRaw_at hi]; rfl)
  rw [cyRaw_set hi, setN_self] at h
  exact h
end
def cyFam (kv : Nat → Value) (K : Int → List Int) : Nat → Ob := fun i => Ob.ints (kv i) (K i)
def cyParts (p : Nat) (v : Value) (n : Nat) (u : Nat → Int) (kv : Nat → Value) (g : Nat → Ob) : List Ob :=
  [Ob.box p #[v] 98, Ob.row 0 100 2 v n (cellsBy cyC (cyRaw n u kv)), Ob.fam g]
noncomputable def upN (K : Int → List Int) : Nat → Int := fun i => oK (upK K i)
/-- At p lie n things, whose children K tells. -/
def Ob.forest (p n : Nat) (K : Int → List Int) : Ob where
  holds w F := ∃ v kv, CInv n K ∧ n ≤ 65536 ∧ (Ob.group (cyParts p v n (upN K) kv (cyFam kv K))).holds w F
  keeps := fun ⟨v, kv, h1, h2, h⟩ k hn => ⟨v, kv, h1, h2, (Ob.group _).keeps h k hn⟩
  lt := fun ⟨_, _, _, _, h⟩ => (Ob.group _).lt h
theorem forest_close {F : Nat → Prop} {w w' : World} {p n : Nat} {v : Value} {kv : Nat → Value} {K : Int → List Int} (hs : Stage F w (cyParts p v n (upN K) kv (cyFam kv K)) w') (hF : ∀ b, F b → b < w.heap.size) (I : CInv n K) (hn : n ≤ 65536) : ∃ F', (Ob.forest p n K).holds w' F' ∧ Moved F F' w w' := by
  obtain ⟨F', h1, m⟩ := hs.close hF
  exact ⟨F', ⟨v, kv, I, hn, h1⟩, m⟩
/-- A row of integers that was just made. -/
def IntsPost (w : World) (l : List Int) (e : Ending) (w' : World) : Prop := ∃ v, e = .returned v ∧ ∃ G, (Ob.ints v l).holds w' G ∧ (∀ k, G k → w.heap.size ≤ k) ∧ Below w.heap.size w w'
theorem ints_close {v : Value} {l : List Int} {w w' : World} (h : Stage (fun _ => False) w [Ob.ints v l] w') : IntsPost w l (.returned v) w' := by
  obtain ⟨hk, G, h1, h2, h3⟩ := h
  exact ⟨v, rfl, G 0, h1 0 _ rfl, fun k hb => (h3 0 k hb).1.elim False.elim id, hk.below (Nat.le_refl _) (fun _ h => h.elim)⟩
theorem Stage.newInts {F0 : Nat → Prop} {W w : World} {l : List Ob} {P : Program} {f : FuncId} {args : Array Value} {xs : List Int} (h : Stage F0 W l w) (hc : Calls P f args w (IntsPost w xs)) :
    Calls P f args w fun e w' => ∃ v, e = .returned v ∧ Stage F0 W (l ++ [Ob.ints v xs]) w' :=
  hc.mono fun _ _ ⟨v, he, _, h1, h2, h3⟩ => ⟨v, he, h.add h3 h1 h2⟩
/-- A copy of a row. -/
theorem clone_any {w : World} {a : Option Addr} {c : Nat} {xs : List Int} (hr : RowReads w 1 (.slice a xs.length c) xs.length (cellsBy intC xs)) (hlen : xs.length ≤ 1000000) (hz : a = none → xs = []) :
    Calls Tryz.prog 118 #[.slice a xs.length c] w (IntsPost w xs) := by
  cases a with
  | none =>
    obtain rfl := hz rfl
    have hs := (Stage.start w).nilRow 0 3 1
    have hl := ints_close (l := []) hs
    have e0 : (binOp BinOp.eql 44 (.slice none 0 c) (.slice none 0 0)).run Tryz.prog w = .ok (.bool true) w := by kernel_rfl
    clear hs hr
    show Calls _ _ #[.slice none 0 c] w _
    go_enter Tryz.func118, Tryz.ntmps118
    go_wp2_with fail
    go_ret
    exact hl
  | some a =>
    have hs : Stage (fun _ => False) w [Ob.ints (.slice (some ⟨w.heap.size, 0, none⟩) 0 0) []] (w.alloc (.cells #[] 3)) := (Stage.start w).emptyRow 3 1
    have hb : Below w.heap.size w (w.alloc (.cells #[] 3)) := hs.below
    have hr2 : RowReads (w.alloc (.cells #[] 3)) 1 (.slice (some a) xs.length c) xs.length (cellsBy intC xs) := hr.keeps (Keeps.of_below_all hb (fun _ => False)) (fun _ _ _ _ x => x)
    have e0 : (binOp BinOp.eql 44 (.slice (some a) xs.length c) (.slice none 0 0)).run Tryz.prog w = .ok (.bool false) w := by kernel_rfl
    have e63 : ([] : List Int).length + xs.length ≤ maxLen := by simp only [List.length_nil]; unfold maxLen; omega
    have eby : (([] : List Int).length + xs.length) * 8 ≤ 140737488355328 := by simp only [List.length_nil]; omega
    have h1c : ∀ z ∈ cellsBy intC xs, z.oneCell' = true := fun z hz => by obtain ⟨q, rfl⟩ := intC_one z xs hz; rfl
    clear hr hb
    go_enter Tryz.func118, Tryz.ntmps118
    go_wp2_with (at_builtin; refine hs.wp_append 0 rfl rfl _ _ 44 rfl (.int .i64 0) 8 Tryz.underlying44 sinfo_int rfl (by decide) (Nat.zero_le _) rfl _ xs.length (cellsBy intC xs) rfl hr2 h1c e63 eby ?_)
    intro v' w' h1 _
    have h2 : Stage (fun _ => False) w [Ob.ints v' xs] w' := h1
    have hl := ints_close h2
    clear hs h1 h2 hr2
    go_wp2_with fail
    go_ret
    exact hl
theorem Stage.famGet {F0 : Nat → Prop} {W w : World} {l : List Ob} {g : Nat → Ob} (h : Stage F0 W l w) (i : Nat) (hi : l[i]? = some (Ob.fam g)) (k : Nat) : ∃ F, (g k).holds w F := by
  obtain ⟨_, _, G, g1, _⟩ := h.get hi
  exact ⟨G k, g1 k⟩
section
variable {F0 : Nat → Prop} {W0 w : World} {p n : Nat} {v : Value} {u : Nat → Int} {kv : Nat → Value} {g : Nat → Ob} {K : Int → List Int} {q : List Ob}
theorem cy_c0 (h : Stage F0 W0 (cyParts p v n u kv g ++ q) w) : w.cell? ⟨p, 0, none⟩ = some v := h.cell 0 rfl rfl
theorem cy_form (h : Stage F0 W0 (cyParts p v n u kv g ++ q) w) : ∃ a c, v = .slice a n c ∧ n ≤ c ∧ c ≤ 9223372036854775807 := by
  obtain ⟨a, c, h1, h2, h3⟩ := owns_form (h.owns 1 rfl)
  exact ⟨a, c, h1, h2, by unfold maxLen at h3; omega⟩
theorem cy_row (h : Stage F0 W0 (cyParts p v n u kv g ++ q) w) (hn : 0 < n) : ∃ gb c, v = .slice (some ⟨gb, 0, none⟩) n c ∧ n ≤ c ∧ c ≤ 9223372036854775807 ∧ gb ≠ p ∧ gb < w.heap.size ∧
    (∀ i, i < n → w.cell? ⟨gb, i * 2, none⟩ = some (.int .i64 (u i)) ∧ w.cell? ⟨gb, i * 2 + 1, none⟩ = some (kv i)) ∧ ∀ o, w.frozen? ⟨gb, o, none⟩ = false := by
  obtain ⟨gb, c, hv, h1, h2, _, h4, hc, hf⟩ := owns_at cyC_len .no (h.owns 1 rfl) cyRaw_len hn
  have hne := h.rowNe 1 0 rfl rfl (by decide)
  subst hv
  refine ⟨gb, c, rfl, h1, by unfold maxLen at h2; omega, fun e => hne (by rw [← e]; rfl), h4, fun i hi => ?_, hf⟩
  have e := cyRaw_at (u := u) (kv := kv) hi .no
  exact ⟨hc i 0 _ hi (by omega) (by rw [e]; rfl), hc i 1 _ hi (by omega) (by rw [e]; rfl)⟩
theorem cy_kform (h : Stage F0 W0 (cyParts p v n u kv (cyFam kv K) ++ q) w) (i : Nat) : ∃ a c, kv i = .slice a (K i).length c ∧ (K i).length ≤ c ∧ c ≤ 9223372036854775807 := by
  obtain ⟨F, h1, _⟩ := h.famGet 2 rfl i
  obtain ⟨a, c, h1, h2, h3⟩ := owns_form h1
  exact ⟨a, c, h1, h2, by unfold maxLen at h3; omega⟩
theorem cy_has (h : Stage F0 W0 (cyParts p v n u kv g ++ q) w) (x : Int) : Calls Tryz.prog 58 #[.pointer (some ⟨p, 0, none⟩), .int .i64 x] w fun e w' => e = .returned (.bool (hasK n x)) ∧ w = w' := by
  obtain ⟨a, c, rfl, hc1, hc2⟩ := cy_form h
  have c0 := cy_c0 h
  unfold hasK
  by_cases hx : 0 ≤ x
  · have hd := Lib.hid (show decide (0 ≤ x ∧ x < (n : Int)) = decide (x < (n : Int)) by congr 1; apply propext; omega)
    rw [hd.out]
    clear h hd
    go_enter Tryz.func58, Tryz.ntmps58
    go_wp2
    go_ret
    exact ⟨rfl, rfl⟩
  · rw [decide_eq_false (fun e => hx e.1)]
    clear h
    go_enter Tryz.func58, Tryz.ntmps58
    go_wp2
    go_ret
    exact ⟨rfl, rfl⟩
theorem cy_root (h : Stage F0 W0 (cyParts p v n (upN K) kv g ++ q) w) (I : CInv n K) (hn : n ≤ 65536) (x : Int) : Calls Tryz.prog 67 #[.pointer (some ⟨p, 0, none⟩), .int .i64 x] w fun e w' => e = .returned (.bool (rootB n K x)) ∧ w = w' := by
  have c0 := cy_c0 h
  have hH := cy_has h x
  by_cases hx : inN n x
  · rw [hasK_in.2 hx] at hH
    obtain ⟨i, rfl⟩ : ∃ i : Nat, x = i := ⟨x.toNat, by have := hx.1; omega⟩
    have hi : i < n := by have := hx.2; omega
    obtain ⟨gb, c, rfl, hc1, hc2, hgp, hg, hc, hf⟩ := cy_row h (by omega)
    have u0 := (hc i hi).1
    have hR : rootB n K i = (upN K i == -1) := by unfold rootB upN; rw [hasK_in.2 hx, oK_none I]; rfl
    rw [hR]
    clear h hc I hf hR
    generalize upN K i = z at *
    go_enter Tryz.func67, Tryz.ntmps67
    go_wp2_with fail
    refine hH.mono ?_
    rintro e w1 ⟨rfl, rfl⟩
    go_wp2_with fail
    go_ret
    exact ⟨rfl, rfl⟩
  · rw [hasK_no hx] at hH
    have hR : rootB n K x = false := by unfold rootB; rw [hasK_no hx]; rfl
    rw [hR]
    clear h hR
    go_enter Tryz.func67, Tryz.ntmps67
    go_wp2_with fail
    refine hH.mono ?_
    rintro e w1 ⟨rfl, rfl⟩
    go_wp2_with fail
    go_ret
    exact ⟨rfl, rfl⟩
theorem cy_deg (h : Stage F0 W0 (cyParts p v n u kv (cyFam kv K) ++ q) w) (I : CInv n K) (hn : n ≤ 65536) (x : Int) : Calls Tryz.prog 37 #[.pointer (some ⟨p, 0, none⟩), .int .i64 x] w fun e w' => e = .returned (.int .i64 ((K x).length : Int)) ∧ w = w' := by
  have c0 := cy_c0 h
  have hH := cy_has h x
  by_cases hx : inN n x
  · rw [hasK_in.2 hx] at hH
    obtain ⟨i, rfl⟩ : ∃ i : Nat, x = i := ⟨x.toNat, by have := hx.1; omega⟩
    have hi : i < n := by have := hx.2; omega
    obtain ⟨gb, c, rfl, hc1, hc2, hgp, hg, hc, hf⟩ := cy_row h (by omega)
    obtain ⟨a2, c2, hk, hk1, hk2⟩ := cy_kform h i
    have u0 := (hc i hi).2
    rw [hk] at u0
    clear h hc I hf hk
    generalize (K i).length = m at *
    go_enter Tryz.func37, Tryz.ntmps37
    go_wp2_with fail
    refine hH.mono ?_
    rintro e w1 ⟨rfl, rfl⟩
    go_wp2_with fail
    go_ret
    exact ⟨rfl, rfl⟩
  · rw [hasK_no hx] at hH
    rw [kidsK_out I hx]
    clear h
    go_enter Tryz.func37, Tryz.ntmps37
    go_wp2_with fail
    refine hH.mono ?_
    rintro e w1 ⟨rfl, rfl⟩
    go_wp2_with fail
    go_ret
    exact ⟨rfl, rfl⟩
theorem cy_up (h : Stage F0 W0 (cyParts p v n (upN K) kv g ++ q) w) (I : CInv n K) (hn : n ≤ 65536) (x : Int) : Calls Tryz.prog 114 #[.pointer (some ⟨p, 0, none⟩), .int .i64 x] w fun e w' => e = .returned (.tuple #[.int .i64 ((upK K x).getD 0), .bool (upK K x).isSome]) ∧ w = w' := by
  have c0 := cy_c0 h
  have hH := cy_has h x
  have hR := cy_root h I hn x
  by_cases hx : inN n x
  · rw [hasK_in.2 hx] at hH
    have hR2 : rootB n K x = (upK K x).isNone := by unfold rootB; rw [hasK_in.2 hx]; rfl
    rw [hR2] at hR
    obtain ⟨i, rfl⟩ : ∃ i : Nat, x = i := ⟨x.toNat, by have := hx.1; omega⟩
    have hi : i < n := by have := hx.2; omega
    obtain ⟨gb, c, rfl, hc1, hc2, hgp, hg, hc, hf⟩ := cy_row h (by omega)
    have u0 := (hc i hi).1
    unfold upN at u0
    clear h hc I hf hR2
    generalize upK K (i : Int) = o at *
    cases o with
    | none =>
      go_enter Tryz.func114, Tryz.ntmps114
      go_wp2_with fail
      refine hH.mono ?_
      rintro e w1 ⟨rfl, rfl⟩
      go_wp2_with fail
      refine hR.mono ?_
      rintro e w1 ⟨rfl, rfl⟩
      go_wp2_with fail
      go_ret2
      exact ⟨rfl, rfl⟩
    | some y =>
      replace u0 : w.cell? ⟨gb, i * 2, none⟩ = some (.int .i64 y) := u0
      go_enter Tryz.func114, Tryz.ntmps114
      go_wp2_with fail
      refine hH.mono ?_
      rintro e w1 ⟨rfl, rfl⟩
      go_wp2_with fail
      refine hR.mono ?_
      rintro e w1 ⟨rfl, rfl⟩
      go_wp2_with fail
      go_ret2
      exact ⟨rfl, rfl⟩
  · rw [hasK_no hx] at hH
    rw [upK_out I hx]
    clear h hR
    go_enter Tryz.func114, Tryz.ntmps114
    go_wp2_with fail
    refine hH.mono ?_
    rintro e w1 ⟨rfl, rfl⟩
    go_wp2_with fail
    go_ret2
    exact ⟨rfl, rfl⟩
theorem cy_kids (h : Stage F0 W0 (cyParts p v n u kv (cyFam kv K) ++ q) w) (I : CInv n K) (hn : n ≤ 65536) (x : Int) : Calls Tryz.prog 116 #[.pointer (some ⟨p, 0, none⟩), .int .i64 x] w (IntsPost w (K x)) := by
  have c0 := cy_c0 h
  have hH := cy_has h x
  by_cases hx : inN n x
  · rw [hasK_in.2 hx] at hH
    obtain ⟨i, rfl⟩ : ∃ i : Nat, x = i := ⟨x.toNat, by have := hx.1; omega⟩
    have hi : i < n := by have := hx.2; omega
    obtain ⟨gb, c, rfl, hc1, hc2, hgp, hg, hc, hf⟩ := cy_row h (by omega)
    obtain ⟨a2, c2, hk, hk1, hk2⟩ := cy_kform h i
    have u0 := (hc i hi).2
    have hd := deg_16 I hn i
    obtain ⟨F, ho, _⟩ := h.famGet 2 rfl i
    rw [hk] at u0 ho
    have hz : a2 = none → K i = [] := fun e => by
      subst e
      by_cases h0 : 0 < (K i).length
      · obtain ⟨g2, c3, e3, _⟩ := owns_at intC_len 0 ho rfl h0
        cases e3
      · exact List.length_eq_zero_iff.1 (by omega)
    have hC := clone_any (reads_own ho) (by omega) hz
    clear h hc I hf hk ho hz
    generalize K i = l at *
    go_enter Tryz.func116, Tryz.ntmps116
    go_wp2_with fail
    refine hH.mono ?_
    rintro e w1 ⟨rfl, rfl⟩
    go_wp2_with fail
    refine hC.mono ?_
    rintro e w1 ⟨v1, rfl, G, h1, h2, h3⟩
    go_wp2_with fail
    go_ret
    exact ⟨v1, rfl, G, h1, h2, h3⟩
  · rw [hasK_no hx] at hH
    rw [kidsK_out I hx]
    have hl := ints_close (l := []) ((Stage.start w).nilRow 0 3 1)
    clear h
    go_enter Tryz.func116, Tryz.ntmps116
    go_wp2_with fail
    refine hH.mono ?_
    rintro e w1 ⟨rfl, rfl⟩
    go_wp2_with fail
    go_ret
    exact hl
set_option maxHeartbeats 1000000 in
/-- Is it a row of roots? -/
theorem cy_isRow (h : Stage F0 W0 (cyParts p v n (upN K) kv (cyFam kv K) ++ q) w) (I : CInv n K) (hn : n ≤ 65536) (l : List Int) (a : Option Addr) (c : Nat) (hc : l.length ≤ c ∧ c ≤ 9223372036854775807) (hl : IntsAt w .i64 a l) :
    Calls Tryz.prog 54 #[.pointer (some ⟨p, 0, none⟩), .slice a l.length c] w fun e w' => e = .returned (.bool (isRow n K l)) ∧ w = w' := by
  obtain ⟨hc1, hc2⟩ := hc
  have hR := fun y => cy_root h I hn y
  have hD := fun y => cy_deg h I hn y
  have hstep := fun j hj => rowB_at (n := n) (K := K) l j hj
  have hz : isRow n K l = rowB n K (lastD K l 0) (l.drop 0) := rfl
  have hend : ∀ o, rowB n K o (l.drop l.length) = true := fun o => by rw [List.drop_length]; cases o <;> rfl
  obtain ⟨B, hB⟩ : ∃ B, B = isRow n K l := ⟨_, rfl⟩
  rw [← hB] at hz ⊢
  clear h I hB
  go_enter Tryz.func54, Tryz.ntmps54
  go_wp2_with fail
  go_loopw [9] (fun i wr => ∃ j : Nat, i = .int .i64 j ∧ j ≤ l.length ∧ B = rowB n K (lastD K l j) (l.drop j) ∧ w = wr) (fun i _ => l.length - (intOf i).toNat)
  case atStart => exact ⟨0, rfl, Nat.zero_le _, hz, rfl⟩
  case round =>
    clear hz
    obtain ⟨j, rfl, hj, hB, rfl⟩ := hrel
    by_cases hjn : j < l.length
    · have hji : (j : Int) < l.length := by omega
      obtain ⟨gb, o, rfl, u0⟩ := hl j hjn
      have hRj := hR (l.getD j 0)
      rw [hstep j hjn] at hB
      cases hr : rootB n K (l.getD j 0)
      · rw [hr] at hRj hB
        obtain rfl : B = false := hB
        clear hl hstep hend hR hD hr
        generalize l.getD j 0 = x at *
        generalize l.length = m at *
        go_wp2_with fail
        refine hRj.mono ?_
        rintro e w1 ⟨rfl, rfl⟩
        go_wp2_with fail
        go_ret
        exact ⟨rfl, rfl⟩
      · rw [hr] at hRj hB
        by_cases h0 : j = 0
        · subst h0
          replace hB := Lib.hid (show B = rowB n K (lastD K l 1) (l.drop 1) from by simpa using hB)
          rw [Nat.add_zero] at u0
          clear hl hstep hend hR hD hr
          generalize l.getD 0 0 = x at *
          generalize l.length = m at *
          go_wp2_with fail
          refine hRj.mono ?_
          rintro e w1 ⟨rfl, rfl⟩
          go_wp2_with fail
          go_roundw
          case rel => exact ⟨1, by go_num, by omega, hB.out, trivial⟩
          case measure => simp [intOf]; omega
        · obtain ⟨k, hk⟩ : ∃ k, j = k + 1 := ⟨j - 1, by omega⟩
          obtain ⟨gb', o', e1, u1⟩ := hl k (by omega)
          cases e1
          have e1 : IntKind.i64.wrap ((j : Int) - 1) = k := by rw [show (j : Int) - 1 = k by omega]; exact IntWalk.i64_in _ (by omega)
          have hk0 : (0 : Int) < (j : Int) := by omega
          have hD1 := hD (l.getD k 0)
          have hD2 := hD (l.getD j 0)
          have ek : j - 1 = k := by omega
          rw [ek] at hB
          have hk2 : (k : Int) < l.length := by omega
          replace hk := Lib.hid hk
          clear ek
          by_cases hlt : (K (l.getD k 0)).length < (K (l.getD j 0)).length
          · replace hB := Lib.hid (show B = rowB n K (lastD K l (j + 1)) (l.drop (j + 1)) from by rw [decide_eq_true hlt, Bool.or_true, Bool.and_true, Bool.true_and] at hB; exact hB)
            have hlt' : decide (((K (l.getD j 0)).length : Int) ≤ ((K (l.getD k 0)).length : Int)) = false := decide_eq_false (by omega)
            have hlt2 : decide ((K (l.getD j 0)).length ≤ (K (l.getD k 0)).length) = false := decide_eq_false (by omega)
            clear hl hstep hend hR hD hr hlt
            generalize (K (l.getD k 0)).length = d1 at *
            generalize (K (l.getD j 0)).length = d2 at *
            generalize l.getD j 0 = x at *
            generalize l.getD k 0 = y at *
            generalize l.length = m at *
            go_wp2_with fail
            refine hRj.mono ?_
            rintro e w1 ⟨rfl, rfl⟩
            go_wp2_with fail
            refine hD1.mono ?_
            rintro e w1 ⟨rfl, rfl⟩
            go_wp2_with fail
            refine hD2.mono ?_
            rintro e w1 ⟨rfl, rfl⟩
            go_wp2_with fail
            go_roundw
            case rel => exact ⟨j + 1, by go_num, by omega, hB.out, trivial⟩
            case measure => simp [intOf]; omega
          · obtain rfl : B = false := by rw [decide_eq_false hlt, decide_eq_false (by omega : ¬ j = 0), Bool.or_false, Bool.and_false, Bool.false_and] at hB; exact hB
            have hlt' : decide (((K (l.getD j 0)).length : Int) ≤ ((K (l.getD k 0)).length : Int)) = true := decide_eq_true (by omega)
            have hlt2 : decide ((K (l.getD j 0)).length ≤ (K (l.getD k 0)).length) = true := decide_eq_true (by omega)
            clear hl hstep hend hR hD hr hlt hB
            generalize (K (l.getD k 0)).length = d1 at *
            generalize (K (l.getD j 0)).length = d2 at *
            generalize l.getD j 0 = x at *
            generalize l.getD k 0 = y at *
            generalize l.length = m at *
            go_wp2_with fail
            refine hRj.mono ?_
            rintro e w1 ⟨rfl, rfl⟩
            go_wp2_with fail
            refine hD1.mono ?_
            rintro e w1 ⟨rfl, rfl⟩
            go_wp2_with fail
            refine hD2.mono ?_
            rintro e w1 ⟨rfl, rfl⟩
            go_wp2_with fail
            go_ret
            exact ⟨rfl, rfl⟩
    · obtain rfl : j = l.length := by omega
      rw [hend] at hB
      subst hB
      clear hl hstep hend hR hD
      generalize l.length = m at *
      go_wp2_with fail
      go_ret
      exact ⟨rfl, rfl⟩
end
end Go.Proofs.YtmoolbmbdnkooaaGreat
