/- Merged of Repeat, PrNest3, PrNests. -/
import Derived.Test.YtkcicnflcilekaaGreatPrNest2
import Derived.Laws.CopyOwn
import Derived.Laws.BitsLemmas
import Derived.Laws.Bits64
namespace Go.Proofs.YtkcicnflcilekaaGreat
open Go.RowKit Go.Sort

theorem run_copy_rows {P : Program} (w : World) (dT sT ty elem : TypeId) (g o dLen dCap : Nat) (a : Addr) (sLen sCap z : Nat) (cur : Array Value) (t : TypeId) (cs : List Value)
    (hu : P.underlying dT = some (.slice elem)) (hs : (P.info? elem).map (·.size) = some z) (hg : w.heap[g]? = some (.cells cur t (0, 0))) (hn : cs.length = Nat.min sLen dLen * z)
    (hsrc : ∀ j v, cs[j]? = some v → w.cell? (a.add j) = some v) (hfit : o + cs.length ≤ cur.size) (h1 : ∀ v ∈ cs, v.oneCell' = true) :
    (Builtin.copy_ #[dT, sT] ty #[.slice (some ⟨g, o, none⟩) dLen dCap, .slice (some a) sLen sCap]).run P w =
      .ok (goInt (Nat.min sLen dLen)) (w.setRow g (cur.toList.take o ++ cs ++ cur.toList.drop (o + cs.length)).toArray) := by
  have hl := run_loadCells_list (P := P) w a cs hsrc
  have hst := run_storeCells_at P g o t cs 0 cur w hg (by simpa using hfit) h1
  cases hq : P.info? elem with
  | none => simp [hq] at hs
  | some i =>
    have hi : i.size = z := by simpa [hq] using hs
    rw [hn] at hl
    simp [Builtin.copy_, run_underlying hu, Builtin.lenOf, Builtin.firstCells, sizeOf, typeInfo, hq, hi, hl, hst]
/-- So far filled. -/
def fills (n j : Nat) : List Tie := List.replicate j .no ++ List.replicate (n - j) ⟨0, 0, 0⟩
theorem fills_cells (n j : Nat) (h : j ≤ n) : (cellsBy tieC (fills n j)).length = n * 3 := by
  rw [cellsBy_length tieC 3 tieC_len]; simp [fills]; omega
/-- m more of them, taken from the beginning of the row, or from a row of one. -/
theorem fills_more {n j m : Nat} (h : j + m ≤ n) : (cellsBy tieC (fills n j)).take (j * 3) ++ cellsBy tieC (List.replicate m .no) ++ (cellsBy tieC (fills n j)).drop (j * 3 + (cellsBy tieC (List.replicate m .no)).length) = cellsBy tieC (fills n (j + m)) := by
  rw [cellsBy_length tieC 3 tieC_len, List.length_replicate, show j * 3 + m * 3 = (j + m) * 3 by omega, cellsBy_take tieC 3 tieC_len, cellsBy_drop tieC 3 tieC_len, ← cellsBy_append, ← cellsBy_append]
  congr 1
  have e1 : (fills n j).take j = List.replicate j .no := by unfold fills; rw [List.take_left' (by simp)]
  have e2 : (fills n j).drop (j + m) = List.replicate (n - (j + m)) ⟨0, 0, 0⟩ := by
    unfold fills
    rw [List.drop_append, List.length_replicate, show j + m - j = m by omega, List.drop_eq_nil_of_le (by simp), List.nil_append, List.drop_replicate]
    congr 1; omega
  rw [e1, e2]
  unfold fills
  rw [List.replicate_append_replicate]
theorem fills_all (n : Nat) : cellsBy tieC (fills n n) = cellsBy tieC (rawT n fun _ => .no) := by
  congr 1
  apply List.ext_getElem
  · simp [fills, rawT]
  · intro i h1 h2
    simp [fills, rawT]
theorem fills_none (n : Nat) : (madeCells #[.int .i64 0, .int .i64 0, .int .i64 0] (n * 3)).toList = cellsBy tieC (fills n 0) := by
  rw [made_rows (f := tieC) tieC_len (by decide) ⟨0, 0, 0⟩ #[.int .i64 0, .int .i64 0, .int .i64 0] rfl n]
  simp [fills]
theorem tie_one (m : Nat) : ∀ v ∈ cellsBy tieC (List.replicate m Tie.no), v.oneCell' = true := by
  intro v hv
  simp only [cellsBy, List.mem_flatMap, List.mem_replicate] at hv
  obtain ⟨a, ⟨_, rfl⟩, h⟩ := hv
  simp only [tieC, List.mem_cons, List.not_mem_nil, or_false] at h
  rcases h with rfl | rfl | rfl <;> rfl
theorem info_tie : (Tryz.prog.info? 237).map (fun i => (i.zero, i.size, i.bytes)) = some (some (.agg #[.int .i64 0, .int .i64 0, .int .i64 0]), 3, 24) := by kernel_rfl
section
variable {F0 : Nat → Prop} {W w : World} {l : List Ob}
/-- A block that is known whole is a row of one's own. -/
theorem Stage.asRow (h : Stage F0 W l w) (i : Nat) {b n z : Nat} {c : Array Value} {t : TypeId} (hi : l[i]? = some (Ob.box b c t)) (hc : c.size = n * z) (hm : n ≤ maxLen) : Stage F0 W (l.set i (Ob.row 0 t z (.slice (some ⟨b, 0, none⟩) n n) n c.toList)) w :=
  h.weaken hi fun F ⟨h1, h2⟩ => ⟨⟨by simp [hc], .inr ⟨b, n, c, rfl, Nat.zero_le _, h1, Nat.le_refl _, hm, hc, by rw [← hc]; exact List.take_of_length_le (by simp)⟩⟩, by subst h2; funext k; exact propext ⟨fun e => by cases e; rfl, fun e => by cases e; rfl⟩⟩
theorem Stage.setRow (h : Stage F0 W l w) (i : Nat) {b : Nat} {c : Array Value} {t : TypeId} (hi : l[i]? = some (Ob.box b c t)) (c' : Array Value) : Stage F0 W (l.set i (Ob.box b c' t)) (w.setRow b c') :=
  h.moved hi fun F ⟨h1, h2⟩ => by
    subst h2
    have h3 := setRow_heap w b c c' t (0, 0) h1
    exact ⟨(· = b), ⟨h3, rfl⟩, ⟨rfl, rfl, rfl, by simp [World.setRow], fun k _ hn => setRow_other w b k c' hn⟩, fun _ x => Or.inl x⟩
end
section
variable {F0 : Nat → Prop} {W w : World} {l : List Ob} {P : Program}
/-- m more ties are copied behind the first j. -/
theorem run_fill (hs : Stage F0 W l w) (i : Nat) {g n j m dCap sLen sCap : Nat} {t : TypeId} (hi : l[i]? = some (Ob.box g (cellsBy tieC (fills n j)).toArray t)) (hj : j ≤ n) (hm : m = Nat.min sLen (n - j)) (ad : Addr) (dT ty elem : TypeId) (hu : P.underlying dT = some (.slice elem)) (hsz : (P.info? elem).map (·.size) = some 3)
    (hsrc : ∀ u v, (cellsBy tieC (List.replicate m Tie.no))[u]? = some v → w.cell? (ad.add u) = some v) :
    ∃ w', (Builtin.copy_ #[dT, dT] ty #[.slice (some ⟨g, j * 3, none⟩) (n - j) dCap, .slice (some ad) sLen sCap]).run P w = .ok (goInt m) w' ∧ Stage F0 W (l.set i (Ob.box g (cellsBy tieC (fills n (j + m))).toArray t)) w' := by
  have hle : j + m ≤ n := by have : Nat.min sLen (n - j) ≤ n - j := Nat.min_le_right _ _; omega
  have h := run_copy_rows (P := P) w dT dT ty elem g (j * 3) (n - j) dCap ad sLen sCap 3 (cellsBy tieC (fills n j)).toArray t (cellsBy tieC (List.replicate m Tie.no)) hu hsz (hs.blk i hi) (by rw [cellsBy_length tieC 3 tieC_len, List.length_replicate, hm]) hsrc
    (by rw [cellsBy_length tieC 3 tieC_len, List.length_replicate, List.size_toArray, fills_cells n j hj]; omega) (tie_one m)
  rw [← hm, fills_more hle] at h
  exact ⟨_, h, hs.setRow i hi _⟩
/-- What was filled so far may be read. -/
theorem fills_read (hs : Stage F0 W l w) (i : Nat) {g n j m : Nat} {t : TypeId} (hi : l[i]? = some (Ob.box g (cellsBy tieC (fills n j)).toArray t)) (hm : m ≤ j) : ∀ u v, (cellsBy tieC (List.replicate m Tie.no))[u]? = some v → w.cell? ((⟨g, 0, none⟩ : Addr).add u) = some v := fun u v h => by
  rw [add_at, Nat.zero_add]
  refine hs.cell i hi ?_
  have e : cellsBy tieC (fills n j) = cellsBy tieC (List.replicate m Tie.no) ++ cellsBy tieC (List.replicate (j - m) Tie.no ++ List.replicate (n - j) ⟨0, 0, 0⟩) := by
    rw [← cellsBy_append, ← List.append_assoc, List.replicate_append_replicate, show m + (j - m) = j by omega]; rfl
  rw [e]
  have hlt : u < (cellsBy tieC (List.replicate m Tie.no)).length := (List.getElem?_eq_some_iff.1 h).1
  rw [List.getElem?_toArray, List.getElem?_append_left hlt]; exact h
end
theorem mul64_one (y : Nat) (hy : y ≤ 65536) (w : World) : Calls Tryz.prog 115 #[.int .u64 1, .int .u64 y] w fun e w' => e = .returned (.tuple #[.int .u64 0, .int .u64 y]) ∧ w = w' := by
  have hm : ∀ x : Int, 0 ≤ x → x ≤ 65536 → bits .and .u64 x 4294967295 = x := fun x h0 h1 => by
    have h := bits_mask .u64 63 (by decide) (fun n h₀ h₁ => by rw [IntKind.wrap_u64]; omega) 32 (by decide) x (by omega) (by omega)
    have e : ((2 : Int) ^ 32 - 1) = 4294967295 := by decide
    have e2 : ((2 : Int) ^ 32) = 4294967296 := by decide
    rw [e, e2] at h
    rw [h]; omega
  have h1 := hm 1 (by omega) (by omega)
  have h2 := hm y (by omega) (by omega)
  have h3 := hm 0 (by omega) (by omega)
  have h4 : (y : Int) / 4294967296 = 0 := by omega
  have h5 : IntKind.u64.wrap (y : Int) = y := by rw [IntKind.wrap_u64]; omega
  clear hm
  go_enter Tryz.func115, Tryz.ntmps115
  go_wp2_with fail
  exact bodyPost_ret (v := .tuple #[.int .u64 0, .int .u64 y]) (by simp [results, Tryz.results115, go_sem]) rfl ⟨rfl, rfl⟩
theorem mul_one_any (y : Nat) (hy : y ≤ 65536) (w : World) : Calls Tryz.prog 112 #[.int .u64 1, .int .u64 y] w fun e w' => e = .returned (.tuple #[.int .u64 0, .int .u64 y]) ∧ w = w' := by
  have hM := mul64_one y hy w
  go_enter Tryz.func112, Tryz.ntmps112
  go_wp2_with fail
  refine hM.mono ?_
  rintro e w1 ⟨rfl, rfl⟩
  go_wp2_with fail
  exact bodyPost_ret (v := .tuple #[.int .u64 0, .int .u64 y]) (by simp [results, Tryz.results112, go_sem]) rfl ⟨rfl, rfl⟩
section
variable {F0 : Nat → Prop} {W w : World} {b : Nat}
theorem set_last (O : Ob) (l : List Ob) (A B : Ob) : (O :: (l ++ [A]))[l.length + 1]? = some A ∧ (O :: (l ++ [A])).set (l.length + 1) B = O :: (l ++ [B]) := by simp
set_option maxRecDepth 100000 in
set_option maxHeartbeats 1000000 in
/-- n ties, none tied to another one: a new row. -/
theorem repeat_st {l : List Ob} (hs : Stage F0 W (Ob.box b #[.int .i64 (-1), .int .i64 (-1), .int .i64 (-1)] 237 :: l) w) (n : Nat) (hn : n ≤ 65536) :
    Calls Tryz.prog 108 #[.slice (some ⟨b, 0, none⟩) 1 1, .int .i64 n] w fun e w' => ∃ g, e = .returned (.slice (some ⟨g, 0, none⟩) n n) ∧ Stage F0 W (Ob.box b #[.int .i64 (-1), .int .i64 (-1), .int .i64 (-1)] 237 :: (l ++ [Ob.row 0 237 3 (.slice (some ⟨g, 0, none⟩) n n) n (cellsBy tieC (rawT n fun _ => .no))])) w' := by
  have hM := mul_one_any n hn w
  have hmk := run_make_rows (P := Tryz.prog) 234 237 _ 3 24 Tryz.underlying234 info_tie n (by omega) (by omega)
  have hs1 := hs.alloc (madeCells #[.int .i64 0, .int .i64 0, .int .i64 0] (n * 3)) 237
  have hn1 : ¬ (n : Int) < 0 := by omega
  have hn2 : decide ((9223372036854775807 : Int) < n) = false := by simp; omega
  have hsz : (Tryz.prog.info? 237).map (·.size) = some 3 := by kernel_rfl
  have em : (madeCells #[.int .i64 0, .int .i64 0, .int .i64 0] (n * 3)) = (cellsBy tieC (fills n 0)).toArray := by rw [← fills_none, Array.toArray_toList]
  have hs1' : Stage F0 W (Ob.box b #[.int .i64 (-1), .int .i64 (-1), .int .i64 (-1)] 237 :: (l ++ [Ob.box w.heap.size (cellsBy tieC (fills n 0)).toArray 237])) (w.alloc (.cells (madeCells #[.int .i64 0, .int .i64 0, .int .i64 0] (n * 3)) 237)) := by rw [← em]; exact hs1
  obtain ⟨g, hg⟩ : ∃ g, w.heap.size = g := ⟨_, rfl⟩
  rw [hg] at hs1'
  obtain ⟨m, hm⟩ : ∃ m, m = Nat.min 1 n := ⟨_, rfl⟩
  obtain ⟨w2, hcp, hs2⟩ := run_fill (P := Tryz.prog) hs1' (l.length + 1) (m := m) (dCap := n) (sLen := 1) (sCap := 1) (set_last _ _ _ (Ob.box g (cellsBy tieC (fills n (0 + m))).toArray 237)).1 (Nat.zero_le n) hm ⟨b, 0, none⟩ 234 3 237 Tryz.underlying234 hsz (fun u v h => by
    rw [add_at, Nat.zero_add]
    refine hs1'.cell 0 rfl ?_
    have hmm : m ≤ 1 := by rw [hm]; exact Nat.min_le_left _ _
    obtain rfl | rfl : m = 0 ∨ m = 1 := by omega
    · simp [cellsBy] at h
    · rw [show (#[.int .i64 (-1), .int .i64 (-1), .int .i64 (-1)] : Array Value) = (cellsBy tieC (List.replicate 1 Tie.no)).toArray from rfl, List.getElem?_toArray]; exact h)
  rw [Nat.zero_add, (set_last _ _ _ (Ob.box g (cellsBy tieC (fills n m)).toArray 237)).2] at hs2
  rw [Nat.zero_mul, Nat.sub_zero] at hcp
  have hmn : m ≤ n ∧ (0 < n → 0 < m) := by rw [hm]; exact ⟨Nat.min_le_right _ _, fun h => by show 0 < Nat.min 1 n; rw [show Nat.min 1 n = 1 from Nat.min_eq_left h]; omega⟩
  have hgo : (goInt m : Value) = .int .i64 m := rfl
  rw [hgo, em] at hcp
  clear hs hs1 hs1' hm
  go_enter Tryz.func108, Tryz.ntmps108
  go_wp2_with fail
  refine hM.mono ?_
  rintro e w1 ⟨rfl, rfl⟩
  clear hM
  go_wp2_with fail
  clear hcp hmk
  go_loopw [8, 34, 35, 36, 37, 38, 39, 40, 41, 42, 43, 44, 45, 46] (fun i _ _ _ _ _ _ _ _ _ _ _ _ _ wr => ∃ j : Nat, i = .int .i64 j ∧ j ≤ n ∧ (0 < n → 0 < j) ∧ Stage F0 W (Ob.box b #[.int .i64 (-1), .int .i64 (-1), .int .i64 (-1)] 237 :: (l ++ [Ob.box g (cellsBy tieC (fills n j)).toArray 237])) wr) (fun i _ _ _ _ _ _ _ _ _ _ _ _ _ _ => n - (intOf i).toNat)
  case atStart => exact ⟨m, rfl, hmn.1, hmn.2, hs2⟩
  case round =>
    clear hs2 hmn
    obtain ⟨j, rfl, hj, hj0, hs⟩ := hrel
    by_cases hlt : j < n
    · obtain ⟨k, hk⟩ : ∃ k, k = Nat.min j (n - j) := ⟨_, rfl⟩
      have hsd := hs.drew
      obtain ⟨w3, hcp, hs3⟩ := run_fill (P := Tryz.prog) hsd (l.length + 1) (m := k) (dCap := n - j) (sLen := j) (sCap := n) (set_last _ _ _ (Ob.box g (cellsBy tieC (fills n (j + k))).toArray 237)).1 hj hk ⟨g, 0, none⟩ 234 3 237 Tryz.underlying234 hsz
        (fills_read hsd (l.length + 1) (set_last _ _ _ (Ob.box g #[] 0)).1 (by rw [hk]; exact Nat.min_le_left _ _))
      rw [(set_last _ _ _ (Ob.box g (cellsBy tieC (fills n (j + k))).toArray 237)).2] at hs3
      rw [show (goInt k : Value) = .int .i64 k from rfl] at hcp
      have hk2 : 0 < k ∧ j + k ≤ n := by
        have h1 : k ≤ n - j := by rw [hk]; exact Nat.min_le_right _ _
        refine ⟨?_, by omega⟩
        rw [hk]
        have : 0 < min j (n - j) := by omega
        exact this
      have hji : (j : Int) < n := by omega
      clear hs hsd hk
      go_wp2_with fail
      go_region
      go_roundw
      case rel => exact ⟨_, _, _, _, _, _, _, _, _, _, _, _, _, _, ⟨j + k, by go_num, hk2.2, fun _ => by omega, hs3⟩, rfl⟩
      case measure => simp [intOf]; omega
    · obtain rfl : j = n := by omega
      go_wp2_with fail
      have hs4 := hs.asRow (l.length + 1) (n := j) (z := 3) (set_last _ _ _ (Ob.box g #[] 0)).1 (by rw [List.size_toArray, fills_cells j j (Nat.le_refl _)]) (by unfold maxLen; omega)
      rw [(set_last _ _ _ _).2, fills_all] at hs4
      go_ret
      exact ⟨g, rfl, hs4⟩
end
end Go.Proofs.YtkcicnflcilekaaGreat

namespace Go.Proofs.YtkcicnflcilekaaGreat
open Go.RowKit Go.Sort
section
variable {w : World} {p f c bm n : Nat} {v : Value} {W W' : WS} {s : Int} {F : Nat → Prop} {T : Int → Tie} {K : Int → List Int} {R : Nat → Option Int}
end
def newPrnPost (w : World) (n : Nat) (e : Ending) (w' : World) : Prop := ∃ p c, e = .returned (.tuple #[.pointer (some ⟨p, 0, none⟩), .int .i64 0]) ∧ ∃ F', (Ob.prn p c (newW n) 0).holds w' F' ∧ (∀ k, F' k → w.heap.size ≤ k) ∧ Below w.heap.size w w'
theorem prNewForest_st {F0 : Nat → Prop} {W0 w : World} {c n : Nat} {W : WS} {s : Int} (h : Stage F0 W0 [Ob.cells c W s] w) (hn : W.cells.length = n) (hn2 : n ≤ 65536) : Calls Tryz.prog 90 #[.pointer (some ⟨c, 0, none⟩)] w fun e w' => ∃ f v, e = .returned (.pointer (some ⟨f, 0, none⟩)) ∧ Stage F0 W0 (prF f c v n W s fun _ => .no) w' := by
  obtain ⟨w1, hw1, h1⟩ : ∃ w1, w.alloc (.cells #[.int .i64 (-1), .int .i64 (-1), .int .i64 (-1)] 237) = w1 ∧ Stage F0 W0 [Ob.box w.heap.size #[.int .i64 (-1), .int .i64 (-1), .int .i64 (-1)] 237, Ob.cells c W s] w1 := ⟨_, rfl, (h.alloc _ _).select [1, 0] (by decide) rfl⟩
  have hC := h1.ask 1 rfl (fun _ ho => capacity_cl ho)
  rw [hn] at hC
  have hN := repeat_st h1 n hn2
  go_enter Tryz.func90, Tryz.ntmps90
  go_wp2_with fail
  refine hC.mono ?_
  rintro e w2 ⟨rfl, rfl⟩
  clear hC
  go_wp2_with fail
  refine hN.mono ?_
  rintro e w2 ⟨g, rfl, hs2⟩
  clear hN h h1
  have hs3 := hs2.alloc #[ptrV c, .slice (some ⟨g, 0, none⟩) n n] 239
  have hs4 : Stage F0 W0 (prF w2.heap.size c (.slice (some ⟨g, 0, none⟩) n n) n W s fun _ => .no) _ := hs3.select [3, 1, 2] (by decide) rfl
  clear hs2 hs3
  go_wp2_with fail
  go_ret
  exact ⟨_, _, rfl, hs4⟩
theorem prmid_new (n : Nat) : PrMid (newW n) (fun _ => []) (fun _ => none) noE := by
  have hin : ∀ x, inW (newW n) x = false := fun x => by
    cases e : inW (newW n) x with
    | false => rfl
    | true =>
      have := ((homes_new n).home e).2
      cases this
  exact ⟨⟨⟨fun _ _ h => (by cases h), fun _ _ _ h => (by cases h), fun _ => List.nodup_nil, fun _ => 0, fun _ _ h => (by cases h)⟩, fun _ _ h => (by cases h)⟩, fun x h => (by rw [hin] at h; cases h), fun _ _ h => (by cases h), fun _ h => h.elim⟩
set_option maxRecDepth 100000 in
theorem new_prn (n : Nat) (hn : n ≤ 65536) (w : World) : Calls Tryz.prog 64 #[.int .i64 n] w (newPrnPost w n) := by
  have hmm := @run_makeMap Tryz.prog
  have hC := new_cl n hn w
  go_enter Tryz.func64, Tryz.ntmps64
  go_wp2_with fail
  refine hC.mono ?_
  rintro e w1 ⟨c, rfl, F1, h1, h2, h3⟩
  have hs1 : Stage (fun _ => False) w [Ob.cells c (newW n) 0] w1 := (Stage.start w).add (O := Ob.cells c (newW n) 0) h3 h1 h2
  clear hC h1 h2 h3
  have hnl : (newW n).cells.length = n := by simp [newW]
  have hN := prNewForest_st hs1 hnl hn
  go_wp2_with fail
  refine hN.mono ?_
  rintro e w2 ⟨f, v, rfl, hs2⟩
  clear hN hs1
  have hs3 := hs2.newTops (b := w2.heap.size) rfl
  have hz : (w2.alloc (.map #[] 0)).heap.size = w2.heap.size + 1 := size_alloc _ _
  have hs4 := hs3.alloc #[ptrV c, ptrV f, .map (some w2.heap.size)] 187
  rw [hz] at hs4
  have hs5 : Stage (fun _ => False) w (prN (w2.heap.size + 1) f c w2.heap.size v n (newW n) 0 (fun _ => .no) (fun _ => none)) ((w2.alloc (.map #[] 0)).alloc (.cells #[ptrV c, ptrV f, .map (some w2.heap.size)] 187)) := hs4.select [0, 1, 2, 4, 3] (by decide) rfl
  clear hs2 hs3 hs4
  go_wp2_with fail
  obtain ⟨F', g1, g2, g3⟩ := hs5.closeNew
  exact bodyPost_ret (v := .tuple #[.pointer (some ⟨w2.heap.size + 1, 0, none⟩), .int .i64 0]) (by simp [results, Tryz.results64, go_sem]) rfl ⟨_, c, rfl, F', ⟨f, w2.heap.size, v, n, _, _, _, prmid_new n, tied_new n, hnl, new_fitW hn, ⟨Int.le_refl _, by omega⟩, g1⟩, g2, g3⟩
end Go.Proofs.YtkcicnflcilekaaGreat

namespace Go.Proofs.YtkcicnflcilekaaGreat
open Go.RowKit Go.Sort

/-- The functions that such a nest's calls enter. -/
def prnF (p c : Nat) : NestFns where
  make := ⟨139, ptrV c⟩
  ins := ⟨212, ptrV p⟩
  min := ⟨214, ptrV p⟩
  steps := ⟨142, ptrV c⟩
  entry := ⟨134, ptrV c⟩
  has := ⟨135, ptrV c⟩
section
variable {w : World} {p c : Nat} {W : WS} {s : Int} {F : Nat → Prop}
theorem prn_there (h : (Ob.prn p c W s).holds w F) : prnH p c w := by
  obtain ⟨f, bm, v, n, K, T, R, _, _, _, _, _, hg⟩ := h
  exact pn_p0 (Ob.group.open hg)
theorem prn_fit (h : (Ob.prn p c W s).holds w F) : W.Fit := by
  obtain ⟨f, bm, v, n, K, T, R, _, _, _, h, _, hg⟩ := h; exact h
/-- A call on the cells alone. -/
theorem prn_cells {f : FuncId} {args : Array Value} {v : Value} {W' : WS} (h : (Ob.prn p c W s).holds w F) (hW : W'.cells = W.cells)
    (hc : ∀ G, (Ob.cells c W s).holds w G → Calls Tryz.prog f args w fun e w' => e = .returned v ∧ ∃ G', (Ob.cells c W' s).holds w' G' ∧ Moved G G' w w') :
    Calls Tryz.prog f args w fun e w' => e = .returned v ∧ ∃ s' F', (Ob.prn p c W' s').holds w' F' ∧ Moved F F' w w' := by
  have hF := (Ob.prn p c W s).lt h
  obtain ⟨f, bm, v, n, K, T, R, I, H, hn, hf, _, hg⟩ := h
  have hs := Ob.group.open hg
  refine (hs.call 1 rfl hc).mono ?_
  rintro e w' ⟨rfl, hs1⟩
  have hs2 : Stage F w (prN p f c bm v n W' s T R) w' := hs1
  exact ⟨rfl, prn_close hs2 hF (I.cells hW) H (by rw [hW]; exact hn)⟩
/-- .. that only asks. -/
theorem prn_ask {f : FuncId} {args : Array Value} {v : Value} (h : (Ob.prn p c W s).holds w F) (hc : ∀ G, (Ob.cells c W s).holds w G → Calls Tryz.prog f args w fun e w' => e = .returned v ∧ Below w.heap.size w w') :
    Calls Tryz.prog f args w fun e w' => e = .returned v ∧ Below w.heap.size w w' := by
  obtain ⟨f, bm, v, n, K, T, R, I, H, hn, hf, _, hg⟩ := h
  obtain ⟨G, ho⟩ := (Ob.group.open hg).get (i := 1) rfl
  exact hc G ho
theorem prsame_below {f : FuncId} {args : Array Value} {v : Value} (h : Calls Tryz.prog f args w fun e w' => e = .returned v ∧ w = w') : Calls Tryz.prog f args w fun e w' => e = .returned v ∧ Below w.heap.size w w' := h.mono fun _ _ ⟨h1, h2⟩ => ⟨h1, by subst h2; exact Below.refl _ _⟩
end
abbrev prtoMeter : FieldStep := { struct := 226, index := 0, deref := true }
theorem prload_cells {p c : Nat} {w : World} (h : prnH p c w) : (loadVar 166 ⟨p, 0, none⟩).run Tryz.prog w = .ok (ptrV c) w := by
  unfold prnH at h
  go_simp
/-- A method of the cells, by the nest. -/
theorem prm_prom {n : String} {f : FuncId} {p c : Nat} {w : World} (h : prnH p c w) (e : (method 470 134 (ptrV p) n).run Tryz.prog w = (do let v ← loadVar 166 ⟨p, 0, none⟩; pure (f, v) : Sem (FuncId × Value)).run Tryz.prog w) : (method 470 134 (ptrV p) n).run Tryz.prog w = .ok (f, ptrV c) w := by
  rw [e, Sem.run_bind, prload_cells h]
  rfl
set_option maxRecDepth 100000 in
theorem prm_steps {p c : Nat} {w : World} (h : prnH p c w) : (method 470 134 (ptrV p) "Steps").run Tryz.prog w = .ok (142, ptrV c) w := by
  have e : (method 470 134 (ptrV p) "Steps").run Tryz.prog w = (do let x ← follow [prtoMeter] 166 (.var ⟨p, 0, none⟩); let r ← receiverAt x.1 x.2 true none; pure (142, r) : Sem (FuncId × Value)).run Tryz.prog w := by kernel_rfl
  have e1 : (follow [prtoMeter] 166 (.var ⟨p, 0, none⟩)).run Tryz.prog w = (do let v ← loadVar 166 ⟨p, 0, none⟩; follow [prtoMeter] 166 (.val v)).run Tryz.prog w := by kernel_rfl
  have e2 : (follow [prtoMeter] 166 (.val (ptrV c))).run Tryz.prog w = .ok (224, .var ⟨c, 0, none⟩) w := by kernel_rfl
  have e3 : (follow [prtoMeter] 166 (.var ⟨p, 0, none⟩)).run Tryz.prog w = .ok (224, .var ⟨c, 0, none⟩) w := by
    rw [e1, Sem.run_bind, prload_cells h, Result.andThen_ok]
    exact e2
  have e4 : (do let r ← receiverAt 224 (.var ⟨c, 0, none⟩) true none; pure (142, r) : Sem (FuncId × Value)).run Tryz.prog w = .ok (142, ptrV c) w := by kernel_rfl
  rw [e, Sem.run_bind, e3, Result.andThen_ok]
  exact e4
theorem prn_nests (p c : Nat) : Nests (fun W s => Ob.prn p c W s) id (prnH p c) 134 (ptrV p) (prnF p c) where
  there := prn_there
  fit h := prn_fit h
  entry x h := prn_ask h fun _ ho => entry_cl x ho
  has y h := prn_ask h fun _ ho => prsame_below (has_cl y ho)
  steps h := prn_ask h fun _ ho => prsame_below (steps_cl ho)
  make {W g w F} h := (prn_cells h (W' := makeW W) (by unfold makeW; split <;> rfl) fun _ ho => make_cl ho).mono fun e w' ⟨h1, s', h2⟩ => ⟨h1, s', h2⟩
  ins {W g w F} y x k q _ _ h := (insert_prn y x k q h).mono fun e w' ⟨h1, s', h4⟩ => ⟨h1, s', h4⟩
  min {W g w F} y hy h := (min_prn y hy h).mono fun e w' ⟨h1, h2⟩ => ⟨h1, g, F, by subst h2; exact ⟨h, Moved.refl _ _⟩⟩
  mMake := ⟨fun w h => prm_prom h (by kernel_rfl), fun _ _ => by kernel_rfl⟩
  mIns := ⟨fun _ _ => by kernel_rfl, fun _ _ => by kernel_rfl⟩
  mMin := ⟨fun _ _ => by kernel_rfl, fun _ _ => by kernel_rfl⟩
  mSteps := ⟨fun w h => prm_steps h, fun _ _ => by kernel_rfl⟩
  mEntry := ⟨fun w h => prm_prom h (by kernel_rfl), fun _ _ => by kernel_rfl⟩
  mHas := ⟨fun w h => prm_prom h (by kernel_rfl), fun _ _ => by kernel_rfl⟩
end Go.Proofs.YtkcicnflcilekaaGreat
