/- Merged of CarryCalls, CarryLink. -/
import Derived.Test.YtmoolbmbdnkooaaGreatCarryObj
import Derived.Deep.RegionLaw
namespace Go.Proofs.YtmoolbmbdnkooaaGreat
open Go.RowKit Go.Sort

theorem info_cyth : (Tryz.prog.info? 100).map (fun i => (i.zero, i.size, i.bytes)) = some (some (.agg #[.int .i64 0, .slice none 0 0]), 2, 32) := by kernel_rfl
theorem fam_nil {K : Int → List Int} (hK : ∀ i : Nat, K i = []) (w : World) : (Ob.fam (cyFam (fun _ => .slice none 0 0) K)).holds w (fun _ => False) := by
  refine ⟨fun b h => h.elim, fun _ => rowF (.slice none 0 0), fun i => ?_, fun i j b _ h => ?_, fun i b h => ?_⟩
  · unfold cyFam
    rw [hK i]
    exact ⟨World.ownsRow_nil _ _ _ _, rfl⟩
  · simp [rowF, Value.ownBlock] at h
  · simp [rowF, Value.ownBlock] at h
theorem upN_new : upN (fun _ => []) = fun _ => -1 := by
  funext i
  have : upK (fun _ => []) (i : Int) = none := upK_none.2 fun p h => by cases h
  unfold upN; rw [this]; rfl
theorem inv_newK (n : Nat) : CInv n (fun _ => []) := ⟨fun _ _ h => (by cases h), fun _ _ _ h => (by cases h), fun _ => List.nodup_nil, fun _ i k h => (by cases h)⟩
def newU (j : Nat) : Nat → Int := fun i => if i < j then -1 else 0
theorem newU_set (j : Nat) : setN (newU j) j (-1) = newU (j + 1) := by
  funext i; unfold setN newU
  by_cases h : i = j
  · subst h; simp
  · rw [if_neg h]
    by_cases h2 : i < j
    · rw [if_pos h2, if_pos (by omega)]
    · rw [if_neg h2, if_neg (by omega)]
theorem newU_all (n : Nat) (kv : Nat → Value) : cyRaw n (newU n) kv = cyRaw n (fun _ => -1) kv := by
  unfold cyRaw
  apply List.map_congr_left
  intro i hi
  rw [List.mem_range] at hi
  simp [newU, hi]
theorem cyRaw_rep (n : Nat) : List.replicate n (⟨0, .slice none 0 0⟩ : Cy) = cyRaw n (newU 0) (fun _ => .slice none 0 0) := by
  apply List.ext_getElem?
  intro i
  by_cases h : i < n
  · simp [cyRaw, h, newU]
  · simp [cyRaw, h]
def NewPostCy (w : World) (n : Nat) (e : Ending) (w' : World) : Prop :=
  ∃ p, e = .returned (.tuple #[.pointer (some ⟨p, 0, none⟩), .int .i64 0]) ∧ ∃ F', (Ob.forest p n (fun _ => [])).holds w' F' ∧ (∀ k, F' k → w.heap.size ≤ k) ∧ Below w.heap.size w w'
set_option maxHeartbeats 1000000 in
theorem new_cy (n : Nat) (hn : n ≤ 65536) (w : World) : Calls Tryz.prog 23 #[.int .i64 n] w (NewPostCy w n) := by
  have hmk := run_make_rows (P := Tryz.prog) 96 100 _ 2 32 Tryz.underlying96 info_cyth n (by omega) (by omega)
  have hs0 := ((Stage.start w).newRow 100 2 n (madeCells #[.int .i64 0, .slice none 0 0] (n * 2)) (size_madeCells _ _) (by unfold maxLen; omega)).alloc' #[.slice (some ⟨w.heap.size, 0, none⟩) n n] 98 (b := w.heap.size + 1) (size_alloc _ _)
  rw [made_rows cyC_len (by decide) ⟨0, .slice none 0 0⟩ #[.int .i64 0, .slice none 0 0] rfl n, cyRaw_rep] at hs0
  have hs : Stage (fun _ => False) w [Ob.box (w.heap.size + 1) #[.slice (some ⟨w.heap.size, 0, none⟩) n n] 98, Ob.row 0 100 2 (.slice (some ⟨w.heap.size, 0, none⟩) n n) n (cellsBy cyC (cyRaw n (newU 0) fun _ => .slice none 0 0))] _ := hs0.select [1, 0] (by decide) rfl
  clear hs0
  generalize hg : w.heap.size = g at *
  have k0 := hs.cell 0 rfl (o := 0) rfl
  have hn1 : ¬ (65536 : Int) < n := by omega
  go_enter Tryz.func23, Tryz.ntmps23
  go_wp2_with fail
  go_loopw [21] (fun i wr => ∃ j : Nat, i = .int .i64 j ∧ j ≤ n ∧ Stage (fun _ => False) w [Ob.box (g + 1) #[.slice (some ⟨g, 0, none⟩) n n] 98, Ob.row 0 100 2 (.slice (some ⟨g, 0, none⟩) n n) n (cellsBy cyC (cyRaw n (newU j) fun _ => .slice none 0 0))] wr) (fun i _ => n - (intOf i).toNat)
  case atStart => exact ⟨0, rfl, Nat.zero_le _, hs⟩
  case round =>
    clear hs k0
    obtain ⟨j, rfl, hj, hs⟩ := hrel
    have k0 := hs.cell 0 rfl (o := 0) rfl
    by_cases hjn : j < n
    · have hji : (j : Int) < n := by omega
      obtain ⟨g', c', hv, _, _, _, hg', hc, hf⟩ := owns_at cyC_len .no (hs.owns 1 rfl) cyRaw_len (by omega)
      cases hv
      have u0 := hc j 0 _ hjn (by omega) (by rw [cyRaw_at hjn]; rfl)
      rw [Nat.add_zero] at u0
      have f0 := hf (j * 2)
      have hp := cy_set_up (u := newU j) (kv := fun _ => .slice none 0 0) hjn (-1)
      rw [newU_set] at hp
      have hs2 := hs.storeRow 1 rfl (j * 2) (.int .i64 (-1)) hp
      clear hs hc hf hp
      go_wp2_with fail
      go_roundw
      case rel => exact ⟨j + 1, by go_num, by omega, hs2⟩
      case measure => simp [intOf]; omega
    · have hji : ¬ (j : Int) < n := by omega
      obtain rfl : j = n := by omega
      go_wp2_with fail
      rw [newU_all, ← upN_new] at hs
      have hs3 := hs.add (Below.refl _ _) (fam_nil (K := fun _ => []) (fun _ => rfl) _) (fun _ h => h.elim)
      obtain ⟨F', h1, h2, h3⟩ := hs3.closeNew
      go_ret2
      exact ⟨_, rfl, F', ⟨_, _, inv_newK _, hn, h1⟩, h2, h3⟩
theorem new_cy_no (n : Int) (w : World) (hn : ¬ (0 ≤ n ∧ n ≤ 65536)) :
    Calls Tryz.prog 23 #[.int .i64 n] w fun e w' => e = .returned (.tuple #[.pointer none, .int .i64 31]) ∧ w = w' := by
  have hc : n < 0 ∨ (¬ n < 0 ∧ 65536 < n) := by omega
  clear hn
  rcases hc with hc | ⟨hc, hc2⟩
  all_goals
    go_enter Tryz.func23, Tryz.ntmps23
    go_wp2_with fail
    go_ret2
    exact ⟨rfl, rfl⟩
theorem Stage.newForest {F0 : Nat → Prop} {W w : World} {l : List Ob} (h : Stage F0 W l w) (n : Nat) (hn : n ≤ 65536) : Calls Tryz.prog 23 #[.int .i64 n] w fun e w' => ∃ p, e = .returned (.tuple #[.pointer (some ⟨p, 0, none⟩), .int .i64 0]) ∧ Stage F0 W (l ++ [Ob.forest p n (fun _ => [])]) w' :=
  (new_cy n hn w).mono fun _ _ ⟨p, he, _, h1, h2, h3⟩ => ⟨p, he, h.add h3 h1 h2⟩

def setK (K : Int → List Int) (i : Int) (l : List Int) : Int → List Int := fun x => if x = i then l else K x
theorem fam_push (kv : Nat → Value) (K : Int → List Int) (i : Nat) (z : Value) (l : List Int) : updO (updO (cyFam kv K) i Ob.none) i (Ob.ints z l) = cyFam (setN kv i z) (setK K i l) := by
  funext j
  unfold updO cyFam setN setK
  by_cases e : j = i
  · subst e; simp
  · have e2 : ¬ (j : Int) = i := by omega
    simp [e, e2]
theorem fam_off (kv : Nat → Value) (K : Int → List Int) (i : Nat) : updO (cyFam kv K) i Ob.none i = Ob.none := by unfold updO; rw [if_pos rfl]
theorem link_set (K : Int → List Int) (a b : Int) : linkK K a b = setK K a (K a ++ [b]) := rfl
theorem split_set (K : Int → List Int) (x : Int) : splitK K x = setK K x [] := rfl
section
variable {F0 : Nat → Prop} {W0 w : World} {p n : Nat} {v : Value} {u : Nat → Int} {kv kv0 : Nat → Value} {g : Nat → Ob} {K : Int → List Int} {q : List Ob} {F : Nat → Prop} {gb c : Nat}
theorem cy_up_set (hs : Stage F0 W0 (cyParts p (.slice (some ⟨gb, 0, none⟩) n c) n u kv g ++ q) w) {i : Nat} (hi : i < n) (y : Int) :
    Stage F0 W0 (cyParts p (.slice (some ⟨gb, 0, none⟩) n c) n (setN u i y) kv g ++ q) (w.setCell ⟨gb, i * 2, none⟩ (.int .i64 y)) := hs.storeRow 1 rfl (i * 2) (.int .i64 y) (cy_set_up hi y)
theorem cy_kv_set (hs : Stage F0 W0 (cyParts p (.slice (some ⟨gb, 0, none⟩) n c) n u kv g ++ q) w) {i : Nat} (hi : i < n) (z : Value) :
    Stage F0 W0 (cyParts p (.slice (some ⟨gb, 0, none⟩) n c) n u (setN kv i z) g ++ q) (w.setCell ⟨gb, i * 2 + 1, none⟩ z) := hs.storeRow 1 rfl (i * 2 + 1) z (cy_set_kv hi z)
theorem cy_free (hs : Stage F0 W0 (cyParts p (.slice (some ⟨gb, 0, none⟩) n c) n u kv g ++ q) w) (o : Nat) : w.frozen? ⟨gb, o, none⟩ = false := (hs.owns 1 rfl).frozenAt o
theorem cy_cells (hs : Stage F0 W0 (cyParts p (.slice (some ⟨gb, 0, none⟩) n c) n u kv g ++ q) w) {i : Nat} (hi : i < n) : w.cell? ⟨gb, i * 2, none⟩ = some (.int .i64 (u i)) ∧ w.cell? ⟨gb, i * 2 + 1, none⟩ = some (kv i) := by
  obtain ⟨g', c', hv, _, _, _, _, hc, _⟩ := cy_row hs (by omega)
  cases hv
  exact hc i hi
/-- A thing's children are in hand: a row at the end. -/
theorem cy_pull (hs : Stage F0 W0 (cyParts p v n u kv (cyFam kv0 K) ++ q) w) (i : Nat) : Stage F0 W0 (cyParts p v n u kv (updO (cyFam kv0 K) i Ob.none) ++ (q ++ [Ob.ints (kv0 i) (K i)])) w := by
  have h := hs.pull 2 rfl i
  have e : (cyParts p v n u kv (cyFam kv0 K) ++ q).set 2 (Ob.fam (updO (cyFam kv0 K) i Ob.none)) = cyParts p v n u kv (updO (cyFam kv0 K) i Ob.none) ++ q := rfl
  rw [e, List.append_assoc] at h
  exact h
theorem cy_push {z : Value} {l : List Int} (hs : Stage F0 W0 (cyParts p v n u kv g ++ (q ++ [Ob.ints z l])) w) (i : Nat) (hg : g i = Ob.none) : Stage F0 W0 (cyParts p v n u kv (updO g i (Ob.ints z l)) ++ q) w := by
  rw [← List.append_assoc] at hs
  exact hs.push 2 rfl i hg
theorem cy_nil {z : Value} {l : List Int} (hs : Stage F0 W0 (cyParts p v n u kv g ++ [Ob.ints z l]) w) (i : Nat) (hg : g i = Ob.none) : Stage F0 W0 (cyParts p v n u kv (updO g i (Ob.ints (.slice none 0 0) []))) w :=
  cy_push (q := []) ((hs.take 3).nilRow 0 3 1) i hg
theorem ints_snoc {z : Value} {l : List Int} {y : Int} {x : List Ob} (h : Stage F0 W0 (x ++ [Ob.row 0 3 1 z (l.length + 1) (cellsBy intC l ++ [.int .i64 y])]) w) : Stage F0 W0 (x ++ [Ob.ints z (l ++ [y])]) w := by
  have e1 : (l ++ [y]).length = l.length + 1 := by simp
  have e2 : cellsBy intC (l ++ [y]) = cellsBy intC l ++ [.int .i64 y] := by rw [cellsBy_append, cellsBy_one]; rfl
  unfold Ob.ints
  rw [e1, e2]
  exact h
/-! ### over the whole thing -/
theorem deg_f (h : (Ob.forest p n K).holds w F) (x : Int) : Calls Tryz.prog 37 #[.pointer (some ⟨p, 0, none⟩), .int .i64 x] w fun e w' => e = .returned (.int .i64 ((K x).length : Int)) ∧ w = w' := by
  obtain ⟨v, kv, I, hn, hg⟩ := h
  exact cy_deg (q := []) (Ob.group.open hg) I hn x
theorem up_f (h : (Ob.forest p n K).holds w F) (x : Int) : Calls Tryz.prog 114 #[.pointer (some ⟨p, 0, none⟩), .int .i64 x] w fun e w' => e = .returned (.tuple #[.int .i64 ((upK K x).getD 0), .bool (upK K x).isSome]) ∧ w = w' := by
  obtain ⟨v, kv, I, hn, hg⟩ := h
  exact cy_up (q := []) (Ob.group.open hg) I hn x
theorem kids_f (h : (Ob.forest p n K).holds w F) (x : Int) : Calls Tryz.prog 116 #[.pointer (some ⟨p, 0, none⟩), .int .i64 x] w (IntsPost w (K x)) := by
  obtain ⟨v, kv, I, hn, hg⟩ := h
  exact cy_kids (q := []) (Ob.group.open hg) I hn x
theorem row_f (h : (Ob.forest p n K).holds w F) (l : List Int) (a : Option Addr) (c : Nat) (hc : l.length ≤ c ∧ c ≤ 9223372036854775807) (hl : IntsAt w .i64 a l) : Calls Tryz.prog 54 #[.pointer (some ⟨p, 0, none⟩), .slice a l.length c] w fun e w' => e = .returned (.bool (isRow n K l)) ∧ w = w' := by
  obtain ⟨v, kv, I, hn, hg⟩ := h
  exact cy_isRow (q := []) (Ob.group.open hg) I hn l a c hc hl
theorem Stage.forestInv {W0 : World} {F0 : Nat → Prop} {l : List Ob} (h : Stage F0 W0 l w) (i : Nat) (hi : l[i]? = some (Ob.forest p n K)) : CInv n K ∧ n ≤ 65536 := (h.get hi).elim fun _ ⟨_, _, h1, h2, _⟩ => ⟨h1, h2⟩
theorem forest_open {l : List Ob} (hs : Stage F0 W0 (l ++ [Ob.forest p n K]) w) : ∃ v kv, CInv n K ∧ n ≤ 65536 ∧ Stage F0 W0 (l ++ cyParts p v n (upN K) kv (cyFam kv K)) w := by
  obtain ⟨hk, G, h1, h2, h3⟩ := hs
  obtain ⟨v, kv, I, hn, hg⟩ := h1 l.length (Ob.forest p n K) (by simp)
  refine ⟨v, kv, I, hn, Stage.ungroup ⟨hk, G, fun i O hi => ?_, h2, h3⟩⟩
  by_cases e : i < l.length
  · rw [List.getElem?_append_left e] at hi
    exact h1 i O (by rw [List.getElem?_append_left e]; exact hi)
  · have e2 : i = l.length := by have := Scene.idx' hi; simp at this; omega
    subst e2
    simp at hi
    subst hi
    exact hg
theorem forest_shut {l : List Ob} (hs : Stage F0 W0 (l ++ cyParts p v n (upN K) kv (cyFam kv K)) w) (I : CInv n K) (hn : n ≤ 65536) : Stage F0 W0 (l ++ [Ob.forest p n K]) w := by
  have h := hs.regroup.weaken (i := l.length) (O := Ob.group (cyParts p v n (upN K) kv (cyFam kv K))) (O' := Ob.forest p n K) (by simp) (fun F hF => ⟨v, kv, I, hn, hF⟩)
  simpa using h
/-! ### a thing adopts children -/
def adoptU (u : Nat → Int) (l : List Int) (y : Int) : Nat → Int := fun z => if (z : Int) ∈ l then y else u z
theorem adopt_nil (u : Nat → Int) (y : Int) : adoptU u [] y = u := by funext z; simp [adoptU]
theorem adopt_step (u : Nat → Int) (l : List Int) (y : Int) (k i : Nat) (hk : k < l.length) (hi : l.getD k 0 = i) : setN (adoptU u (l.take k) y) i y = adoptU u (l.take (k + 1)) y := by
  funext z
  unfold setN adoptU
  rw [take_snocD 0 l k hk, hi]
  by_cases e : z = i
  · subst e; simp
  · have e2 : ¬ (z : Int) = i := by omega
    simp [e, e2]
set_option maxHeartbeats 1000000 in
theorem adopt_cy (hs : Stage F0 W0 (cyParts p (.slice (some ⟨gb, 0, none⟩) n c) n u kv g ++ q) w) (hcn : n ≤ c ∧ c ≤ 9223372036854775807) (_hgp : gb ≠ p) (_hn : n ≤ 65536) (x : Nat) (hx : x < n) (j : Nat) (l : List Int) (a : Option Addr) (cl : Nat) (hj : q[j]? = some (Ob.ints (.slice a l.length cl) l)) (hl : ∀ z ∈ l, inN n z) :
    Calls Tryz.prog 117 #[.pointer (some ⟨p, 0, none⟩), .int .i64 x, .slice a l.length cl] w fun e w' => e = .returned (.tuple #[]) ∧ Stage F0 W0 (cyParts p (.slice (some ⟨gb, 0, none⟩) n c) n (adoptU u l x) (setN kv x (.slice a l.length cl)) g ++ q) w' := by
  obtain ⟨hc1, hc2⟩ := hcn
  have c0 := cy_c0 hs
  have u1 := (cy_cells hs hx).2
  have f1 := cy_free hs (x * 2 + 1)
  have hidx : ∀ u' kv', (cyParts p (.slice (some ⟨gb, 0, none⟩) n c) n u' kv' g ++ q)[j + 3]? = some (Ob.ints (.slice a l.length cl) l) := fun _ _ => hj
  obtain ⟨ia, ic, hia, hl1, hl2⟩ := hs.intsForm (j + 3) (hidx _ _)
  cases hia
  have hs2 := cy_kv_set hs hx (.slice a l.length cl)
  rw [← adopt_nil u x] at hs2
  clear hs hj
  obtain ⟨w1, hw1⟩ : ∃ w1, w.setCell ⟨gb, x * 2 + 1, none⟩ (.slice a l.length cl) = w1 := ⟨_, rfl⟩
  rw [hw1] at hs2
  go_enter Tryz.func117, Tryz.ntmps117
  go_wp2_with fail
  try rw [hw1]
  clear hw1 c0 u1 f1
  go_loopw [18] (fun i wr => ∃ k : Nat, i = .int .i64 k ∧ k ≤ l.length ∧ Stage F0 W0 (cyParts p (.slice (some ⟨gb, 0, none⟩) n c) n (adoptU u (l.take k) x) (setN kv x (.slice a l.length cl)) g ++ q) wr) (fun i _ => l.length - (intOf i).toNat)
  case atStart => exact ⟨0, rfl, Nat.zero_le _, hs2⟩
  case round =>
    clear hs2
    obtain ⟨k, rfl, hk, hs⟩ := hrel
    have c0 := cy_c0 hs
    by_cases hkl : k < l.length
    · have hki : (k : Int) < l.length := by omega
      obtain ⟨gl, cl', hv, _, _, _, hcell, _⟩ := hs.intsAt (j + 3) (hidx _ _) (by omega)
      cases hv
      have e0 := hcell k hkl
      have hin := hl _ (mem_getD' l k 0 hkl)
      obtain ⟨y, hy⟩ : ∃ y : Nat, l.getD k 0 = y := ⟨(l.getD k 0).toNat, by have := hin.1; omega⟩
      have hyn : y < n := by rw [hy] at hin; have := hin.2; omega
      have hyi : (y : Int) < n := by omega
      rw [hy] at e0
      have u0 := (cy_cells hs hyn).1
      have f0 := cy_free hs (y * 2)
      have hs3 := cy_up_set hs hyn x
      rw [adopt_step u l x k y hkl hy] at hs3
      generalize adoptU u (l.take k) (x : Int) y = z0 at *
      clear hs hcell hin hidx
      generalize l.length = m at *
      go_wp2_with fail
      go_roundw
      case rel => exact ⟨k + 1, by go_num, by omega, hs3⟩
      case measure => simp [intOf]; omega
    · obtain rfl : k = l.length := by omega
      rw [List.take_length] at hs
      clear hidx hl
      go_wp2_with fail
      go_end0
      exact ⟨rfl, hs⟩
end
end Go.Proofs.YtmoolbmbdnkooaaGreat

namespace Go.Proofs.YtmoolbmbdnkooaaGreat
open Go.RowKit Go.Sort

section
variable {w : World} {p n : Nat} {K : Int → List Int} {F : Nat → Prop}
set_option maxHeartbeats 1000000 in
set_option maxRecDepth 100000 in
theorem link_cy (a b : Int) (h : (Ob.forest p n K).holds w F) : Calls Tryz.prog 71 #[.pointer (some ⟨p, 0, none⟩), .int .i64 a, .int .i64 b] w fun e w' => e = .returned (.bool (linkB n K a b)) ∧ ∃ F', (Ob.forest p n (linkF n K a b)).holds w' F' ∧ Moved F F' w w' := by
  have hF := (Ob.forest p n K).lt h
  have hno : linkB n K a b = false → linkF n K a b = K := fun e => by simp [linkF, e]
  have hstay : ∃ F', (Ob.forest p n K).holds w F' ∧ Moved F F' w w := ⟨F, h, Moved.refl _ _⟩
  obtain ⟨v, kv, I, hn, hg⟩ := h
  have hs := Ob.group.open hg
  have hA := cy_root (q := []) hs I hn a
  have hB := cy_root (q := []) hs I hn b
  have hDa := cy_deg (q := []) hs I hn a
  have hDb := cy_deg (q := []) hs I hn b
  clear hg
  by_cases e0 : a = b
  · subst e0
    have e1 : linkB n K a a = false := by simp [linkB]
    rw [e1, hno e1]
    clear hs hA hB hDa hDb
    go_enter Tryz.func71, Tryz.ntmps71
    go_wp2_with fail
    go_ret
    exact ⟨rfl, hstay⟩
  have e0' : (a == b) = false := by simpa using e0
  cases h1 : rootB n K a
  · have e1 : linkB n K a b = false := by simp [linkB, h1]
    rw [e1, hno e1]
    rw [h1] at hA
    clear hs hB hDa hDb
    go_enter Tryz.func71, Tryz.ntmps71
    go_wp2_with fail
    refine hA.mono ?_
    rintro e w1 ⟨rfl, rfl⟩
    go_wp2_with fail
    go_ret
    exact ⟨rfl, hstay⟩
  cases h2 : rootB n K b
  · have e1 : linkB n K a b = false := by simp [linkB, h2]
    rw [e1, hno e1]
    rw [h1] at hA
    rw [h2] at hB
    clear hs hDa hDb
    go_enter Tryz.func71, Tryz.ntmps71
    go_wp2_with fail
    refine hA.mono ?_
    rintro e w1 ⟨rfl, rfl⟩
    go_wp2_with fail
    refine hB.mono ?_
    rintro e w1 ⟨rfl, rfl⟩
    go_wp2_with fail
    go_ret
    exact ⟨rfl, hstay⟩
  rw [h1] at hA
  rw [h2] at hB
  by_cases h3 : (K a).length = (K b).length
  rotate_left
  · have e1 : linkB n K a b = false := by simp [linkB, h3]
    rw [e1, hno e1]
    have h3a : (((K a).length : Int) != (K b).length) = true := by simp; omega
    have h3b : (((K a).length : Int) == (K b).length) = false := by simp; omega
    have h3c : ((K a).length == (K b).length) = false := by simp; omega
    clear hs h3
    generalize (K a).length = d1 at *
    generalize (K b).length = d2 at *
    go_enter Tryz.func71, Tryz.ntmps71
    go_wp2_with fail
    refine hA.mono ?_
    rintro e w1 ⟨rfl, rfl⟩
    go_wp2_with fail
    refine hB.mono ?_
    rintro e w1 ⟨rfl, rfl⟩
    go_wp2_with fail
    refine hDa.mono ?_
    rintro e w1 ⟨rfl, rfl⟩
    go_wp2_with fail
    refine hDb.mono ?_
    rintro e w1 ⟨rfl, rfl⟩
    go_wp2_with fail
    go_ret
    exact ⟨rfl, hstay⟩
  have hok : linkB n K a b = true := by simp [linkB, h1, h2, h3, e0]
  have hFe : linkF n K a b = linkK K a b := by simp [linkF, hok]
  rw [hok, hFe]
  obtain ⟨ra1, ra2⟩ := rootB_iff.1 h1
  obtain ⟨rb1, rb2⟩ := rootB_iff.1 h2
  obtain ⟨i, rfl⟩ : ∃ i : Nat, a = i := ⟨a.toNat, by have := ra1.1; omega⟩
  obtain ⟨j, rfl⟩ : ∃ j : Nat, b = j := ⟨b.toNat, by have := rb1.1; omega⟩
  have hi : i < n := by have := ra1.2; omega
  have hj : j < n := by have := rb1.2; omega
  have hij : i ≠ j := fun e => e0 (by rw [e])
  have I' := link_inv I ra1 rb1 ra2 rb2 e0 h3
  have hup : upN (linkK K i j) = setN (upN K) j i := by
    funext x
    unfold upN setN
    rw [up_link I ra1 rb1 ra2 rb2 e0 h3]
    by_cases e : x = j
    · subst e; simp [oK]
    · rw [if_neg e, if_neg (by omega)]
  have hd := deg_16 I hn i
  obtain ⟨gb, c, rfl, hc1, hc2, hgp, hgl, hc, hf⟩ := cy_row (q := []) hs (by omega)
  obtain ⟨ka, kc, hk, hk1, hk2⟩ := cy_kform (q := []) hs i
  have u1 := (hc i hi).2
  have c0 := cy_c0 (q := []) hs
  have hs1 := cy_pull (q := []) hs i
  rw [hk] at u1 hs1
  have f0 := hf (i * 2 + 1)
  have hDb2 : Calls Tryz.prog 37 #[.pointer (some ⟨p, 0, none⟩), .int .i64 j] w fun e w' => e = .returned (.int .i64 ((K i).length : Int)) ∧ w = w' := by rw [h3]; exact hDb
  have h3b : (((K i).length : Int) == (K i).length) = true := by simp
  have h3a : (((K i).length : Int) != (K i).length) = false := by simp
  have hs2 := hs1.drew.alloc #[.int .i64 j] 3
  replace hs2 : Stage F w [Ob.box p #[.slice (some ⟨gb, 0, none⟩) n c] 98, Ob.row 0 100 2 (.slice (some ⟨gb, 0, none⟩) n c) n (cellsBy cyC (cyRaw n (upN K) kv)), Ob.fam (updO (cyFam kv K) i Ob.none), Ob.ints (.slice ka (K i).length kc) (K i), Ob.box w.heap.size #[.int .i64 j] 3] (w.drew.alloc (.cells #[.int .i64 j] 3)) := hs2
  have hr2 := reads_box (hs2.blk 4 rfl) 1 1 rfl
  have hs3 := hs1.alloc #[.int .i64 j] 3
  have b0 := cy_c0 (q := [_, _]) hs3
  have b1 := (cy_cells (q := [_, _]) hs3 hi).2
  have b2 := cy_free (q := [_, _]) hs3 (i * 2 + 1)
  rw [hk] at b1
  clear hs3
  have hn0 : 0 < n := by omega
  have e63 : (K i).length + 1 ≤ maxLen := by unfold maxLen; omega
  have eby : ((K i).length + 1) * 8 ≤ 140737488355328 := by omega
  have hfin : ∀ w', (∃ z, Stage F w (cyParts p (.slice (some ⟨gb, 0, none⟩) n c) n (setN (upN K) j i) (setN kv i z) (updO (cyFam kv K) i Ob.none) ++ [Ob.ints z (K i ++ [(j : Int)])]) w') → ∃ F', (Ob.forest p n (linkK K i j)).holds w' F' ∧ Moved F F' w w' := by
    rintro w' ⟨z, hz⟩
    have h4 := cy_push (q := []) hz i (fam_off _ _ _)
    rw [fam_push, ← link_set, ← hup, List.append_nil] at h4
    exact forest_close h4 hF I' hn
  generalize hK : K i = l at *
  clear hs hs1 hno hDb hc hf hup I' hK hok hFe h1 h2 h3 hk ra1 ra2 rb1 rb2
  go_enter Tryz.func71, Tryz.ntmps71
  go_wp2_with fail
  refine hA.mono ?_
  rintro e w1 ⟨rfl, rfl⟩
  go_wp2_with fail
  refine hB.mono ?_
  rintro e w1 ⟨rfl, rfl⟩
  go_wp2_with fail
  refine hDa.mono ?_
  rintro e w1 ⟨rfl, rfl⟩
  go_wp2_with fail
  refine hDb2.mono ?_
  rintro e w1 ⟨rfl, rfl⟩
  clear hA hB hDa hDb2
  go_wp2_with fail
  go_region_law (refine Stage.step_append (v := .slice ka l.length kc) (l := [_, _, _, _, _]) (by exact hs2.same rfl rfl rfl rfl) 3 rfl rfl _ _ 44 rfl (.int .i64 0) 8 Tryz.underlying44 sinfo_int rfl (by decide) (Nat.zero_le _) rfl _ 1 [.int .i64 j] rfl (by exact reads_same (w := w.drew.alloc (.cells #[.int .i64 j] 3)) rfl hr2) (by intro u hu; simp at hu; subst hu; rfl) e63 eby ?_; intro v1 w6 hs6 hl6; obtain ⟨va, vc, hve, _, _⟩ := owns_form (hs6.owns 3 rfl); subst hve; have m0 := hs6.cell 0 rfl (o := 0) rfl; have f6 := cy_free (q := [_, _]) hs6 (i * 2 + 1); have q6 := (cy_cells (q := [_, _]) hs6 hi).2)
  all_goals
    have hs7 := cy_kv_set (q := [_, _]) hs6 hi (.slice va (l.length + 1) vc)
    have g0 := cy_c0 hs7
    have g1 := (cy_cells hs7 hj).1
    have g2 := cy_free hs7 (j * 2)
    have hs8 := (cy_up_set hs7 hj i).take 4
    have hl8 : Stage F w (cyParts p (.slice (some ⟨gb, 0, none⟩) n c) n (setN (upN K) j i) (setN kv i (.slice va (l.length + 1) vc)) (updO (cyFam kv K) i Ob.none) ++ [Ob.row 0 3 1 (.slice va (l.length + 1) vc) (l.length + 1) (cellsBy intC l ++ [.int .i64 j])]) _ := hs8
    have hl9 := hfin _ ⟨_, ints_snoc hl8⟩
    clear hs6 hs7 hs8 hl8 hfin m0 f6 q6
    go_wp2_with fail
    go_ret
    exact ⟨rfl, hl9⟩
end
end Go.Proofs.YtmoolbmbdnkooaaGreat
