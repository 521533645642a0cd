/- Merged of CarryObj, CarryCalls. -/
import Derived.Test.YtkcicnflcilekaaGreatBinLiftMath
import Derived.Test.YtkcicnflcilekaaGreatStageAppend
import Derived.Test.YtkcicnflcilekaaGreatNames
import Derived.Test.YtkcicnflcilekaaGreatShedList3
import Derived.Test.YtkcicnflcilekaaGreatPqCalls
import Derived.Test.YtkcicnflcilekaaGreatArenaMath
import Derived.BigRegion
import Derived.StillTailTactics
namespace Go.Proofs.YtkcicnflcilekaaGreat
open Go.RowKit Go.Sort

structure Cy where
  up : Int
  kv : Value
def Cy.no : Cy := ⟨-1, .slice none 0 0⟩
def cyC (t : Cy) : List Value := [.int .i64 t.up, t.kv]
theorem cyC_len : ∀ t, (cyC t).length = 2 := fun _ => rfl
def setN {α : Type} (u : Nat → α) (i : Nat) (y : α) : Nat → α := fun j => if j = i then y else u j
theorem setN_self {α : Type} (u : Nat → α) (i : Nat) : setN u i (u i) = u := by
  funext j; unfold setN; split
  · rename_i e; rw [e]
  · rfl
def cyRaw (n : Nat) (u : Nat → Int) (kv : Nat → Value) : List Cy := (List.range n).map fun i => ⟨u i, kv i⟩
section
variable {n : Nat} {u : Nat → Int} {kv : Nat → Value}
theorem cyRaw_len : (cyRaw n u kv).length = n := by simp [cyRaw]
theorem cyRaw_at {i : Nat} (hi : i < n) (d : Cy) : (cyRaw n u kv).getD i d = ⟨u i, kv i⟩ := by simp [cyRaw, List.getD_eq_getElem?_getD, hi]
theorem cyRaw_set {i : Nat} (hi : i < n) (y : Int) (z : Value) : (cyRaw n u kv).set i ⟨y, z⟩ = cyRaw n (setN u i y) (setN kv i z) := by
  apply List.ext_getElem?
  intro j
  rw [List.getElem?_set, cyRaw_len]
  by_cases e : i = j
  · subst e
    rw [if_pos rfl, if_pos hi]
    simp [cyRaw, hi, setN]
  · rw [if_neg e]
    by_cases hj : j < n
    · simp [cyRaw, hj, setN, Ne.symm e]
    · simp [cyRaw, hj]
theorem cy_set_up {i : Nat} (hi : i < n) (y : Int) : (cellsBy cyC (cyRaw n u kv)).set (i * 2) (.int .i64 y) = cellsBy cyC (cyRaw n (setN u i y) kv) := by
  have h := cellsBy_set cyC 2 cyC_len .no (cyRaw n u kv) i 0 (.int .i64 y) ⟨y, kv i⟩ (by rw [cyRaw_len]; exact hi) (by omega) (by rw [cyRaw_at hi]; rfl)
  rw [cyRaw_set hi, setN_self] at h
  exact h
theorem cy_set_kv {i : Nat} (hi : i < n) (z : Value) : (cellsBy cyC (cyRaw n u kv)).set (i * 2 + 1) z = cellsBy cyC (cyRaw n u (setN kv i z)) := by
  have h := cellsBy_set cyC 2 cyC_len .no (cyRaw n u kv) i 1 z ⟨u i, z⟩ (by rw [cyRaw_len]; exact hi) (by omega) (by rw [cyRaw_at hi]; rfl)
  rw [cyRaw_set hi, setN_self] at h
  exact h
end
def cyFam (kv : Nat → Value) (K : Int → List Int) : Nat → Ob := fun i => Ob.ints (kv i) (K i)
def cyParts (p : Nat) (v : Value) (n : Nat) (u : Nat → Int) (kv : Nat → Value) (g : Nat → Ob) : List Ob :=
  [Ob.box p #[v] 260, Ob.row 0 262 2 v n (cellsBy cyC (cyRaw n u kv)), Ob.fam g]
noncomputable def upN (K : Int → List Int) : Nat → Int := fun i => oK (upK K i)
/-- At p lie n things, whose children K tells. -/
def Ob.forest (p n : Nat) (K : Int → List Int) : Ob where
  holds w F := ∃ v kv, CInv n K ∧ n ≤ 65536 ∧ (Ob.group (cyParts p v n (upN K) kv (cyFam kv K))).holds w F
  keeps := fun ⟨v, kv, h1, h2, h⟩ k hn => ⟨v, kv, h1, h2, (Ob.group _).keeps h k hn⟩
  lt := fun ⟨_, _, _, _, h⟩ => (Ob.group _).lt h
theorem forest_close {F : Nat → Prop} {w w' : World} {p n : Nat} {v : Value} {kv : Nat → Value} {K : Int → List Int} (hs : Stage F w (cyParts p v n (upN K) kv (cyFam kv K)) w') (hF : ∀ b, F b → b < w.heap.size) (I : CInv n K) (hn : n ≤ 65536) : ∃ F', (Ob.forest p n K).holds w' F' ∧ Moved F F' w w' := by
  obtain ⟨F', h1, m⟩ := hs.close hF
  exact ⟨F', ⟨v, kv, I, hn, h1⟩, m⟩
theorem Stage.famGet {F0 : Nat → Prop} {W w : World} {l : List Ob} {g : Nat → Ob} (h : Stage F0 W l w) (i : Nat) (hi : l[i]? = some (Ob.fam g)) (k : Nat) : ∃ F, (g k).holds w F := by
  obtain ⟨_, _, G, g1, _⟩ := h.get hi
  exact ⟨G k, g1 k⟩
section
variable {F0 : Nat → Prop} {W0 w : World} {p n : Nat} {v : Value} {u : Nat → Int} {kv : Nat → Value} {g : Nat → Ob} {K : Int → List Int} {q : List Ob}
theorem cy_c0 (h : Stage F0 W0 (cyParts p v n u kv g ++ q) w) : w.cell? ⟨p, 0, none⟩ = some v := h.cell 0 rfl rfl
theorem cy_form (h : Stage F0 W0 (cyParts p v n u kv g ++ q) w) : ∃ a c, v = .slice a n c ∧ n ≤ c ∧ c ≤ 9223372036854775807 := by
  obtain ⟨a, c, h1, h2, h3⟩ := owns_form (h.owns 1 rfl)
  exact ⟨a, c, h1, h2, by unfold maxLen at h3; omega⟩
theorem cy_row (h : Stage F0 W0 (cyParts p v n u kv g ++ q) w) (hn : 0 < n) : ∃ gb c, v = .slice (some ⟨gb, 0, none⟩) n c ∧ n ≤ c ∧ c ≤ 9223372036854775807 ∧ gb ≠ p ∧ gb < w.heap.size ∧
    (∀ i, i < n → w.cell? ⟨gb, i * 2, none⟩ = some (.int .i64 (u i)) ∧ w.cell? ⟨gb, i * 2 + 1, none⟩ = some (kv i)) ∧ ∀ o, w.frozen? ⟨gb, o, none⟩ = false := by
  obtain ⟨gb, c, hv, h1, h2, _, h4, hc, hf⟩ := owns_at cyC_len .no (h.owns 1 rfl) cyRaw_len hn
  have hne := h.rowNe 1 0 rfl rfl (by decide)
  subst hv
  refine ⟨gb, c, rfl, h1, by unfold maxLen at h2; omega, fun e => hne (by rw [← e]; rfl), h4, fun i hi => ?_, hf⟩
  have e := cyRaw_at (u := u) (kv := kv) hi .no
  exact ⟨hc i 0 _ hi (by omega) (by rw [e]; rfl), hc i 1 _ hi (by omega) (by rw [e]; rfl)⟩
theorem cy_kform (h : Stage F0 W0 (cyParts p v n u kv (cyFam kv K) ++ q) w) (i : Nat) : ∃ a c, kv i = .slice a (K i).length c ∧ (K i).length ≤ c ∧ c ≤ 9223372036854775807 := by
  obtain ⟨F, h1, _⟩ := h.famGet 2 rfl i
  obtain ⟨a, c, h1, h2, h3⟩ := owns_form h1
  exact ⟨a, c, h1, h2, by unfold maxLen at h3; omega⟩
theorem cy_has (h : Stage F0 W0 (cyParts p v n u kv g ++ q) w) (x : Int) : Calls Tryz.prog 203 #[.pointer (some ⟨p, 0, none⟩), .int .i64 x] w fun e w' => e = .returned (.bool (hasK n x)) ∧ w = w' := by
  obtain ⟨a, c, rfl, hc1, hc2⟩ := cy_form h
  have c0 := cy_c0 h
  unfold hasK
  by_cases hx : 0 ≤ x
  · have hd := Lib.hid (show decide (0 ≤ x ∧ x < (n : Int)) = decide (x < (n : Int)) by congr 1; apply propext; omega)
    rw [hd.out]
    clear h hd
    go_enter Tryz.func203, Tryz.ntmps203
    go_wp2
    go_ret
    exact ⟨rfl, rfl⟩
  · rw [decide_eq_false (fun e => hx e.1)]
    clear h
    go_enter Tryz.func203, Tryz.ntmps203
    go_wp2
    go_ret
    exact ⟨rfl, rfl⟩
theorem cy_root (h : Stage F0 W0 (cyParts p v n (upN K) kv g ++ q) w) (I : CInv n K) (hn : n ≤ 65536) (x : Int) : Calls Tryz.prog 197 #[.pointer (some ⟨p, 0, none⟩), .int .i64 x] w fun e w' => e = .returned (.bool (rootB n K x)) ∧ w = w' := by
  have c0 := cy_c0 h
  have hH := cy_has h x
  by_cases hx : inC n x
  · rw [hasK_in.2 hx] at hH
    obtain ⟨i, rfl⟩ : ∃ i : Nat, x = i := ⟨x.toNat, by have := hx.1; omega⟩
    have hi : i < n := by have := hx.2; omega
    obtain ⟨gb, c, rfl, hc1, hc2, hgp, hg, hc, hf⟩ := cy_row h (by omega)
    have u0 := (hc i hi).1
    have hR : rootB n K i = (upN K i == -1) := by unfold rootB upN; rw [hasK_in.2 hx, oK_none I]; rfl
    rw [hR]
    clear h hc I hf hR
    generalize upN K i = z at *
    go_enter Tryz.func197, Tryz.ntmps197
    go_wp2_with fail
    refine hH.mono ?_
    rintro e w1 ⟨rfl, rfl⟩
    go_wp2_with fail
    go_ret
    exact ⟨rfl, rfl⟩
  · rw [hasK_no hx] at hH
    have hR : rootB n K x = false := by unfold rootB; rw [hasK_no hx]; rfl
    rw [hR]
    clear h hR
    go_enter Tryz.func197, Tryz.ntmps197
    go_wp2_with fail
    refine hH.mono ?_
    rintro e w1 ⟨rfl, rfl⟩
    go_wp2_with fail
    go_ret
    exact ⟨rfl, rfl⟩
theorem cy_deg (h : Stage F0 W0 (cyParts p v n u kv (cyFam kv K) ++ q) w) (I : CInv n K) (hn : n ≤ 65536) (x : Int) : Calls Tryz.prog 204 #[.pointer (some ⟨p, 0, none⟩), .int .i64 x] w fun e w' => e = .returned (.int .i64 ((K x).length : Int)) ∧ w = w' := by
  have c0 := cy_c0 h
  have hH := cy_has h x
  by_cases hx : inC n x
  · rw [hasK_in.2 hx] at hH
    obtain ⟨i, rfl⟩ : ∃ i : Nat, x = i := ⟨x.toNat, by have := hx.1; omega⟩
    have hi : i < n := by have := hx.2; omega
    obtain ⟨gb, c, rfl, hc1, hc2, hgp, hg, hc, hf⟩ := cy_row h (by omega)
    obtain ⟨a2, c2, hk, hk1, hk2⟩ := cy_kform h i
    have u0 := (hc i hi).2
    rw [hk] at u0
    clear h hc I hf hk
    generalize (K i).length = m at *
    go_enter Tryz.func204, Tryz.ntmps204
    go_wp2_with fail
    refine hH.mono ?_
    rintro e w1 ⟨rfl, rfl⟩
    go_wp2_with fail
    go_ret
    exact ⟨rfl, rfl⟩
  · rw [hasK_no hx] at hH
    rw [kidsK_out I hx]
    clear h
    go_enter Tryz.func204, Tryz.ntmps204
    go_wp2_with fail
    refine hH.mono ?_
    rintro e w1 ⟨rfl, rfl⟩
    go_wp2_with fail
    go_ret
    exact ⟨rfl, rfl⟩
set_option maxHeartbeats 1000000 in
/-- Is it a row of roots? -/
theorem cy_isRow (h : Stage F0 W0 (cyParts p v n (upN K) kv (cyFam kv K) ++ q) w) (I : CInv n K) (hn : n ≤ 65536) (l : List Int) (a : Option Addr) (c : Nat) (hc : l.length ≤ c ∧ c ≤ 9223372036854775807) (hl : IntsAt w .i64 a l) :
    Calls Tryz.prog 199 #[.pointer (some ⟨p, 0, none⟩), .slice a l.length c] w fun e w' => e = .returned (.bool (isRow n K l)) ∧ w = w' := by
  obtain ⟨hc1, hc2⟩ := hc
  have hR := fun y => cy_root h I hn y
  have hD := fun y => cy_deg h I hn y
  have hstep := fun j hj => rowB_at (n := n) (K := K) l j hj
  have hz : isRow n K l = rowB n K (lastD K l 0) (l.drop 0) := rfl
  have hend : ∀ o, rowB n K o (l.drop l.length) = true := fun o => by rw [List.drop_length]; cases o <;> rfl
  obtain ⟨B, hB⟩ : ∃ B, B = isRow n K l := ⟨_, rfl⟩
  rw [← hB] at hz ⊢
  clear h I hB
  go_enter Tryz.func199, Tryz.ntmps199
  go_wp2_with fail
  go_loopw [9] (fun i wr => ∃ j : Nat, i = .int .i64 j ∧ j ≤ l.length ∧ B = rowB n K (lastD K l j) (l.drop j) ∧ w = wr) (fun i _ => l.length - (intOf i).toNat)
  case atStart => exact ⟨0, rfl, Nat.zero_le _, hz, rfl⟩
  case round =>
    clear hz
    obtain ⟨j, rfl, hj, hB, rfl⟩ := hrel
    by_cases hjn : j < l.length
    · have hji : (j : Int) < l.length := by omega
      obtain ⟨gb, o, rfl, u0⟩ := hl j hjn
      have hRj := hR (l.getD j 0)
      rw [hstep j hjn] at hB
      cases hr : rootB n K (l.getD j 0)
      · rw [hr] at hRj hB
        obtain rfl : B = false := hB
        clear hl hstep hend hR hD hr
        generalize l.getD j 0 = x at *
        generalize l.length = m at *
        go_wp2_with fail
        refine hRj.mono ?_
        rintro e w1 ⟨rfl, rfl⟩
        go_wp2_with fail
        go_ret
        exact ⟨rfl, rfl⟩
      · rw [hr] at hRj hB
        by_cases h0 : j = 0
        · subst h0
          replace hB := Lib.hid (show B = rowB n K (lastD K l 1) (l.drop 1) from by simpa using hB)
          rw [Nat.add_zero] at u0
          clear hl hstep hend hR hD hr
          generalize l.getD 0 0 = x at *
          generalize l.length = m at *
          go_wp2_with fail
          refine hRj.mono ?_
          rintro e w1 ⟨rfl, rfl⟩
          go_wp2_with fail
          go_roundw
          case rel => exact ⟨1, by go_num, by omega, hB.out, trivial⟩
          case measure => simp [intOf]; omega
        · obtain ⟨k, hk⟩ : ∃ k, j = k + 1 := ⟨j - 1, by omega⟩
          obtain ⟨gb', o', e1, u1⟩ := hl k (by omega)
          cases e1
          have e1 : IntKind.i64.wrap ((j : Int) - 1) = k := by rw [show (j : Int) - 1 = k by omega]; exact IntWalk.i64_in _ (by omega)
          have hk0 : (0 : Int) < (j : Int) := by omega
          have hD1 := hD (l.getD k 0)
          have hD2 := hD (l.getD j 0)
          have ek : j - 1 = k := by omega
          rw [ek] at hB
          have hk2 : (k : Int) < l.length := by omega
          replace hk := Lib.hid hk
          clear ek
          by_cases hlt : (K (l.getD k 0)).length < (K (l.getD j 0)).length
          · replace hB := Lib.hid (show B = rowB n K (lastD K l (j + 1)) (l.drop (j + 1)) from by rw [decide_eq_true hlt, Bool.or_true, Bool.and_true, Bool.true_and] at hB; exact hB)
            have hlt' : decide (((K (l.getD j 0)).length : Int) ≤ ((K (l.getD k 0)).length : Int)) = false := decide_eq_false (by omega)
            have hlt2 : decide ((K (l.getD j 0)).length ≤ (K (l.getD k 0)).length) = false := decide_eq_false (by omega)
            clear hl hstep hend hR hD hr hlt
            generalize (K (l.getD k 0)).length = d1 at *
            generalize (K (l.getD j 0)).length = d2 at *
            generalize l.getD j 0 = x at *
            generalize l.getD k 0 = y at *
            generalize l.length = m at *
            go_wp2_with fail
            refine hRj.mono ?_
            rintro e w1 ⟨rfl, rfl⟩
            go_wp2_with fail
            refine hD1.mono ?_
            rintro e w1 ⟨rfl, rfl⟩
            go_wp2_with fail
            refine hD2.mono ?_
            rintro e w1 ⟨rfl, rfl⟩
            go_wp2_with fail
            go_roundw
            case rel => exact ⟨j + 1, by go_num, by omega, hB.out, trivial⟩
            case measure => simp [intOf]; omega
          · obtain rfl : B = false := by rw [decide_eq_false hlt, decide_eq_false (by omega : ¬ j = 0), Bool.or_false, Bool.and_false, Bool.false_and] at hB; exact hB
            have hlt' : decide (((K (l.getD j 0)).length : Int) ≤ ((K (l.getD k 0)).length : Int)) = true := decide_eq_true (by omega)
            have hlt2 : decide ((K (l.getD j 0)).length ≤ (K (l.getD k 0)).length) = true := decide_eq_true (by omega)
            clear hl hstep hend hR hD hr hlt hB
            generalize (K (l.getD k 0)).length = d1 at *
            generalize (K (l.getD j 0)).length = d2 at *
            generalize l.getD j 0 = x at *
            generalize l.getD k 0 = y at *
            generalize l.length = m at *
            go_wp2_with fail
            refine hRj.mono ?_
            rintro e w1 ⟨rfl, rfl⟩
            go_wp2_with fail
            refine hD1.mono ?_
            rintro e w1 ⟨rfl, rfl⟩
            go_wp2_with fail
            refine hD2.mono ?_
            rintro e w1 ⟨rfl, rfl⟩
            go_wp2_with fail
            go_ret
            exact ⟨rfl, rfl⟩
    · obtain rfl : j = l.length := by omega
      rw [hend] at hB
      subst hB
      clear hl hstep hend hR hD
      generalize l.length = m at *
      go_wp2_with fail
      go_ret
      exact ⟨rfl, rfl⟩
end
end Go.Proofs.YtkcicnflcilekaaGreat

namespace Go.Proofs.YtkcicnflcilekaaGreat
open Go.RowKit Go.Sort

theorem info_cyth : (Tryz.prog.info? 262).map (fun i => (i.zero, i.size, i.bytes)) = some (some (.agg #[.int .i64 0, .slice none 0 0]), 2, 32) := by kernel_rfl
theorem fam_nil {K : Int → List Int} (hK : ∀ i : Nat, K i = []) (w : World) : (Ob.fam (cyFam (fun _ => .slice none 0 0) K)).holds w (fun _ => False) := by
  refine ⟨fun b h => h.elim, fun _ => rowF (.slice none 0 0), fun i => ?_, fun i j b _ h => ?_, fun i b h => ?_⟩
  · unfold cyFam
    rw [hK i]
    exact ⟨World.ownsRow_nil _ _ _ _, rfl⟩
  · simp [rowF, Value.ownBlock] at h
  · simp [rowF, Value.ownBlock] at h
theorem upN_new : upN (fun _ => []) = fun _ => -1 := by
  funext i
  have : upK (fun _ => []) (i : Int) = none := upK_none.2 fun p h => by cases h
  unfold upN; rw [this]; rfl
theorem inv_newK (n : Nat) : CInv n (fun _ => []) := ⟨fun _ _ h => (by cases h), fun _ _ _ h => (by cases h), fun _ => List.nodup_nil, fun _ i k h => (by cases h)⟩
def newU (j : Nat) : Nat → Int := fun i => if i < j then -1 else 0
theorem newU_set (j : Nat) : setN (newU j) j (-1) = newU (j + 1) := by
  funext i; unfold setN newU
  by_cases h : i = j
  · subst h; simp
  · rw [if_neg h]
    by_cases h2 : i < j
    · rw [if_pos h2, if_pos (by omega)]
    · rw [if_neg h2, if_neg (by omega)]
theorem newU_all (n : Nat) (kv : Nat → Value) : cyRaw n (newU n) kv = cyRaw n (fun _ => -1) kv := by
  unfold cyRaw
  apply List.map_congr_left
  intro i hi
  rw [List.mem_range] at hi
  simp [newU, hi]
theorem cyRaw_rep (n : Nat) : List.replicate n (⟨0, .slice none 0 0⟩ : Cy) = cyRaw n (newU 0) (fun _ => .slice none 0 0) := by
  apply List.ext_getElem?
  intro i
  by_cases h : i < n
  · simp [cyRaw, h, newU]
  · simp [cyRaw, h]
def NewPostCy (w : World) (n : Nat) (e : Ending) (w' : World) : Prop :=
  ∃ p, e = .returned (.tuple #[.pointer (some ⟨p, 0, none⟩), .int .i64 0]) ∧ ∃ F', (Ob.forest p n (fun _ => [])).holds w' F' ∧ (∀ k, F' k → w.heap.size ≤ k) ∧ Below w.heap.size w w'
set_option maxHeartbeats 1000000 in
theorem new_cy (n : Nat) (hn : n ≤ 65536) (w : World) : Calls Tryz.prog 106 #[.int .i64 n] w (NewPostCy w n) := by
  have hmk := run_make_rows (P := Tryz.prog) 258 262 _ 2 32 Tryz.underlying258 info_cyth n (by omega) (by omega)
  have hs0 := ((Stage.start w).newRow 262 2 n (madeCells #[.int .i64 0, .slice none 0 0] (n * 2)) (size_madeCells _ _) (by unfold maxLen; omega)).alloc' #[.slice (some ⟨w.heap.size, 0, none⟩) n n] 260 (b := w.heap.size + 1) (size_alloc _ _)
  rw [made_rows cyC_len (by decide) ⟨0, .slice none 0 0⟩ #[.int .i64 0, .slice none 0 0] rfl n, cyRaw_rep] at hs0
  have hs : Stage (fun _ => False) w [Ob.box (w.heap.size + 1) #[.slice (some ⟨w.heap.size, 0, none⟩) n n] 260, Ob.row 0 262 2 (.slice (some ⟨w.heap.size, 0, none⟩) n n) n (cellsBy cyC (cyRaw n (newU 0) fun _ => .slice none 0 0))] _ := hs0.select [1, 0] (by decide) rfl
  clear hs0
  generalize hg : w.heap.size = g at *
  have k0 := hs.cell 0 rfl (o := 0) rfl
  have hn1 : ¬ (65536 : Int) < n := by omega
  go_enter Tryz.func106, Tryz.ntmps106
  go_wp2_with fail
  go_loopw [21] (fun i wr => ∃ j : Nat, i = .int .i64 j ∧ j ≤ n ∧ Stage (fun _ => False) w [Ob.box (g + 1) #[.slice (some ⟨g, 0, none⟩) n n] 260, Ob.row 0 262 2 (.slice (some ⟨g, 0, none⟩) n n) n (cellsBy cyC (cyRaw n (newU j) fun _ => .slice none 0 0))] wr) (fun i _ => n - (intOf i).toNat)
  case atStart => exact ⟨0, rfl, Nat.zero_le _, hs⟩
  case round =>
    clear hs k0
    obtain ⟨j, rfl, hj, hs⟩ := hrel
    have k0 := hs.cell 0 rfl (o := 0) rfl
    by_cases hjn : j < n
    · have hji : (j : Int) < n := by omega
      obtain ⟨g', c', hv, _, _, _, hg', hc, hf⟩ := owns_at cyC_len .no (hs.owns 1 rfl) cyRaw_len (by omega)
      cases hv
      have u0 := hc j 0 _ hjn (by omega) (by rw [cyRaw_at hjn]; rfl)
      rw [Nat.add_zero] at u0
      have f0 := hf (j * 2)
      have hp := cy_set_up (u := newU j) (kv := fun _ => .slice none 0 0) hjn (-1)
      rw [newU_set] at hp
      have hs2 := hs.storeRow 1 rfl (j * 2) (.int .i64 (-1)) hp
      clear hs hc hf hp
      go_wp2_with fail
      go_roundw
      case rel => exact ⟨j + 1, by go_num, by omega, hs2⟩
      case measure => simp [intOf]; omega
    · have hji : ¬ (j : Int) < n := by omega
      obtain rfl : j = n := by omega
      go_wp2_with fail
      rw [newU_all, ← upN_new] at hs
      have hs3 := hs.add (Below.refl _ _) (fam_nil (K := fun _ => []) (fun _ => rfl) _) (fun _ h => h.elim)
      obtain ⟨F', h1, h2, h3⟩ := hs3.closeNew
      go_ret2
      exact ⟨_, rfl, F', ⟨_, _, inv_newK _, hn, h1⟩, h2, h3⟩
theorem Stage.newForest {F0 : Nat → Prop} {W w : World} {l : List Ob} (h : Stage F0 W l w) (n : Nat) (hn : n ≤ 65536) : Calls Tryz.prog 106 #[.int .i64 n] w fun e w' => ∃ p, e = .returned (.tuple #[.pointer (some ⟨p, 0, none⟩), .int .i64 0]) ∧ Stage F0 W (l ++ [Ob.forest p n (fun _ => [])]) w' :=
  (new_cy n hn w).mono fun _ _ ⟨p, he, _, h1, h2, h3⟩ => ⟨p, he, h.add h3 h1 h2⟩

def setK (K : Int → List Int) (i : Int) (l : List Int) : Int → List Int := fun x => if x = i then l else K x
theorem fam_push (kv : Nat → Value) (K : Int → List Int) (i : Nat) (z : Value) (l : List Int) : updO (updO (cyFam kv K) i Ob.none) i (Ob.ints z l) = cyFam (setN kv i z) (setK K i l) := by
  funext j
  unfold updO cyFam setN setK
  by_cases e : j = i
  · subst e; simp
  · have e2 : ¬ (j : Int) = i := by omega
    simp [e, e2]
theorem fam_off (kv : Nat → Value) (K : Int → List Int) (i : Nat) : updO (cyFam kv K) i Ob.none i = Ob.none := by unfold updO; rw [if_pos rfl]
theorem link_set (K : Int → List Int) (a b : Int) : linkK K a b = setK K a (K a ++ [b]) := rfl
section
variable {F0 : Nat → Prop} {W0 w : World} {p n : Nat} {v : Value} {u : Nat → Int} {kv kv0 : Nat → Value} {g : Nat → Ob} {K : Int → List Int} {q : List Ob} {F : Nat → Prop} {gb c : Nat}
theorem cy_up_set (hs : Stage F0 W0 (cyParts p (.slice (some ⟨gb, 0, none⟩) n c) n u kv g ++ q) w) {i : Nat} (hi : i < n) (y : Int) :
    Stage F0 W0 (cyParts p (.slice (some ⟨gb, 0, none⟩) n c) n (setN u i y) kv g ++ q) (w.setCell ⟨gb, i * 2, none⟩ (.int .i64 y)) := hs.storeRow 1 rfl (i * 2) (.int .i64 y) (cy_set_up hi y)
theorem cy_kv_set (hs : Stage F0 W0 (cyParts p (.slice (some ⟨gb, 0, none⟩) n c) n u kv g ++ q) w) {i : Nat} (hi : i < n) (z : Value) :
    Stage F0 W0 (cyParts p (.slice (some ⟨gb, 0, none⟩) n c) n u (setN kv i z) g ++ q) (w.setCell ⟨gb, i * 2 + 1, none⟩ z) := hs.storeRow 1 rfl (i * 2 + 1) z (cy_set_kv hi z)
theorem cy_free (hs : Stage F0 W0 (cyParts p (.slice (some ⟨gb, 0, none⟩) n c) n u kv g ++ q) w) (o : Nat) : w.frozen? ⟨gb, o, none⟩ = false := (hs.owns 1 rfl).frozenAt o
theorem cy_cells (hs : Stage F0 W0 (cyParts p (.slice (some ⟨gb, 0, none⟩) n c) n u kv g ++ q) w) {i : Nat} (hi : i < n) : w.cell? ⟨gb, i * 2, none⟩ = some (.int .i64 (u i)) ∧ w.cell? ⟨gb, i * 2 + 1, none⟩ = some (kv i) := by
  obtain ⟨g', c', hv, _, _, _, _, hc, _⟩ := cy_row hs (by omega)
  cases hv
  exact hc i hi
/-- A thing's children are in hand: a row at the end. -/
theorem cy_pull (hs : Stage F0 W0 (cyParts p v n u kv (cyFam kv0 K) ++ q) w) (i : Nat) : Stage F0 W0 (cyParts p v n u kv (updO (cyFam kv0 K) i Ob.none) ++ (q ++ [Ob.ints (kv0 i) (K i)])) w := by
  have h := hs.pull 2 rfl i
  have e : (cyParts p v n u kv (cyFam kv0 K) ++ q).set 2 (Ob.fam (updO (cyFam kv0 K) i Ob.none)) = cyParts p v n u kv (updO (cyFam kv0 K) i Ob.none) ++ q := rfl
  rw [e, List.append_assoc] at h
  exact h
theorem cy_push {z : Value} {l : List Int} (hs : Stage F0 W0 (cyParts p v n u kv g ++ (q ++ [Ob.ints z l])) w) (i : Nat) (hg : g i = Ob.none) : Stage F0 W0 (cyParts p v n u kv (updO g i (Ob.ints z l)) ++ q) w := by
  rw [← List.append_assoc] at hs
  exact hs.push 2 rfl i hg
theorem ints_snoc {z : Value} {l : List Int} {y : Int} {x : List Ob} (h : Stage F0 W0 (x ++ [Ob.row 0 3 1 z (l.length + 1) (cellsBy intC l ++ [.int .i64 y])]) w) : Stage F0 W0 (x ++ [Ob.ints z (l ++ [y])]) w := by
  have e1 : (l ++ [y]).length = l.length + 1 := by simp
  have e2 : cellsBy intC (l ++ [y]) = cellsBy intC l ++ [.int .i64 y] := by rw [cellsBy_append, cellsBy_one]; rfl
  unfold Ob.ints
  rw [e1, e2]
  exact h
/-! ### over the whole thing -/
theorem deg_f (h : (Ob.forest p n K).holds w F) (x : Int) : Calls Tryz.prog 204 #[.pointer (some ⟨p, 0, none⟩), .int .i64 x] w fun e w' => e = .returned (.int .i64 ((K x).length : Int)) ∧ w = w' := by
  obtain ⟨v, kv, I, hn, hg⟩ := h
  exact cy_deg (q := []) (Ob.group.open hg) I hn x
theorem row_f (h : (Ob.forest p n K).holds w F) (l : List Int) (a : Option Addr) (c : Nat) (hc : l.length ≤ c ∧ c ≤ 9223372036854775807) (hl : IntsAt w .i64 a l) : Calls Tryz.prog 199 #[.pointer (some ⟨p, 0, none⟩), .slice a l.length c] w fun e w' => e = .returned (.bool (isRow n K l)) ∧ w = w' := by
  obtain ⟨v, kv, I, hn, hg⟩ := h
  exact cy_isRow (q := []) (Ob.group.open hg) I hn l a c hc hl
theorem Stage.forestInv {W0 : World} {F0 : Nat → Prop} {l : List Ob} (h : Stage F0 W0 l w) (i : Nat) (hi : l[i]? = some (Ob.forest p n K)) : CInv n K ∧ n ≤ 65536 := (h.get hi).elim fun _ ⟨_, _, h1, h2, _⟩ => ⟨h1, h2⟩
/-! ### a thing adopts children -/
end
end Go.Proofs.YtkcicnflcilekaaGreat
