/- The document's trees in memory, and what its functions return that only look: Has, Kid, Up, Above, Root. -/
import Derived.Test.YtkagchnhjjcgbaaSpineLists
namespace Go.Proofs.Ytkagchnhjjcgbaa
open Go.RowKit Go.Sort

def Hg.no : Hg := ⟨0, 0, false⟩
def hgC (g : Hg) : List Value := [.int .i64 g.p, .int .i64 g.x, .bool g.r]
theorem hgC_len (g : Hg) : (hgC g).length = 3 := rfl
/-- v is the list of what hangs where; nobody writes it. -/
structure DocAt (w : World) (v : Value) (L : List Hg) : Prop where
  row : w.ownsRow 0 65 3 v L.length (cellsBy hgC L)
  len : L.length ≤ 65536
theorem DocAt.keeps {G : Nat → Prop} {w w' : World} {v : Value} {L : List Hg} (h : DocAt w v L) (k : Keeps G w w') (hn : ∀ b, rowF v b → ¬ G b) : DocAt w' v L := ⟨owns_keeps h.row k hn, h.len⟩
theorem DocAt.later {w w' : World} {v : Value} {L : List Hg} (h : DocAt w v L) (hb : Below w.heap.size w w') : DocAt w' v L := h.keeps (Keeps.of_below_all hb (fun _ => False)) (fun _ _ x => x)
def Ob.doc (v : Value) (L : List Hg) : Ob where
  holds w F := DocAt w v L ∧ F = rowF v
  keeps := by rintro w w' F G ⟨h, rfl⟩ k hn; exact ⟨h.keeps k hn, rfl⟩
  lt := by rintro w F ⟨h, rfl⟩ k hk; exact (h.row.lt k hk).2
theorem kid_cons (g : Hg) (L : List Hg) (p : Int) (r : Bool) : kidL (g :: L) p r = if g.p = p ∧ g.r = r then some g.x else kidL L p r := by
  unfold kidL
  rw [List.find?_cons]
  by_cases h : g.p = p ∧ g.r = r
  · simp [h]
  · have : (g.p == p && g.r == r) = false := by
      rw [Bool.eq_false_iff]; intro h2; simp only [Bool.and_eq_true, beq_iff_eq] at h2; exact h h2
    rw [this, if_neg h]
theorem up_cons (g : Hg) (L : List Hg) (x : Int) : upL (g :: L) x = if g.x = x then some g.p else upL L x := by
  unfold upL
  rw [List.find?_cons]
  by_cases h : g.x = x
  · simp [h]
  · have : (g.x == x) = false := by simpa using h
    rw [this, if_neg h]
abbrev docT : TypeId := 35
section
variable {w : World} {v : Value} {L : List Hg}
theorem DocAt.form (h : DocAt w v L) : ∃ a c, v = .slice a L.length c ∧ L.length ≤ c ∧ c ≤ 9223372036854775807 := by
  obtain ⟨a, c, h1, h2, h3⟩ := owns_form h.row
  exact ⟨a, c, h1, h2, by unfold maxLen at h3; omega⟩
theorem DocAt.at' (h : DocAt w v L) {i : Nat} (hi : i < L.length) : ∃ g c, v = .slice (some ⟨g, 0, none⟩) L.length c ∧ g < w.heap.size ∧
    w.cell? ⟨g, i * 3, none⟩ = some (.int .i64 (L.getD i .no).p) ∧ w.cell? ⟨g, i * 3 + 1, none⟩ = some (.int .i64 (L.getD i .no).x) ∧ w.cell? ⟨g, i * 3 + 2, none⟩ = some (.bool (L.getD i .no).r) := by
  obtain ⟨g, c, hv, _, _, _, h4, hc, _⟩ := owns_at hgC_len .no h.row rfl (by omega)
  exact ⟨g, c, hv, h4, hc i 0 _ hi (by omega) rfl, hc i 1 _ hi (by omega) rfl, hc i 2 _ hi (by omega) rfl⟩
theorem rhas_any (n : Nat) (x : Int) (v : Value) (w : World) : Calls Try.prog 33 #[.agg #[.int .i64 n, v], .int .i64 x] w fun e w' => e = .returned (.bool (hasN n x)) ∧ Below w.heap.size w w' := by
  have hb : Below w.heap.size w (w.alloc (.cells #[.int .i64 n, v] docT)) := (Below.refl _ _).alloc (Nat.le_refl _) _
  unfold hasN
  by_cases hx : 0 ≤ x
  · have hd := Lib.hid (show decide (0 ≤ x ∧ x < (n : Int)) = decide (x < (n : Int)) by congr 1; apply propext; omega)
    rw [hd.out]
    clear hd
    go_enter Try.func33, Try.ntmps33
    go_wp2
    go_ret
    exact ⟨rfl, hb⟩
  · rw [decide_eq_false (fun e => hx e.1)]
    go_enter Try.func33, Try.ntmps33
    go_wp2
    go_ret
    exact ⟨rfl, hb⟩
theorem rkid_any (n : Nat) (p : Int) (r : Bool) (h : DocAt w v L) : Calls Try.prog 30 #[.agg #[.int .i64 n, v], .int .i64 p, .bool r] w fun e w' => e = .returned (.tuple #[.int .i64 ((kidL L p r).getD 0), .bool (kidL L p r).isSome]) ∧ Below w.heap.size w w' := by
  have hb : Below w.heap.size w (w.alloc (.cells #[.int .i64 n, v] docT)) := (Below.refl _ _).alloc (Nat.le_refl _) _
  have hat : ∀ wr, Below w.heap.size w wr → ∀ i, i < L.length → _ := fun wr hb i hi => (h.later hb).at' (i := i) hi
  obtain ⟨a, c, rfl, hc1, hc2⟩ := h.form
  have hz : kidL L p r = kidL (L.drop 0) p r := rfl
  obtain ⟨K, hK⟩ : ∃ K, K = kidL L p r := ⟨_, rfl⟩
  rw [← hK] at hz ⊢
  have hdrop := fun i (hi : i < L.length) => drop_consD Hg.no L i hi
  have hend : L.drop L.length = [] := List.drop_length
  clear h hK
  go_enter Try.func30, Try.ntmps30
  go_wp2_with fail
  go_loopw [13] (fun i wr => ∃ j : Nat, i = .int .i64 j ∧ j ≤ L.length ∧ K = kidL (L.drop j) p r ∧ Below w.heap.size w wr) (fun i _ => L.length - (intOf i).toNat)
  case atStart => exact ⟨0, rfl, Nat.zero_le _, hz, hb⟩
  case round =>
    clear hb hz
    obtain ⟨j, rfl, hj, hK, hb⟩ := hrel
    by_cases hjn : j < L.length
    · have hji : (j : Int) < L.length := by omega
      obtain ⟨g, c', hv, hg, u0, u1, u2⟩ := hat wr hb j hjn
      cases hv
      have hd := hdrop j hjn
      generalize L.getD j Hg.no = e at *
      rw [hd, kid_cons] at hK
      have hb2 : Below w.heap.size w (wr.alloc (.cells #[.int .i64 e.p, .int .i64 e.x, .bool e.r] 65)) := hb.alloc hb.size _
      obtain ⟨ep, ex, er⟩ := e
      simp only at u0 u1 u2 hK hb2
      clear hat hdrop hd hend
      generalize L.length = m at *
      by_cases h1 : ep = p
      · subst h1
        by_cases h2 : er = r
        · subst h2
          rw [if_pos ⟨rfl, rfl⟩] at hK
          subst hK
          go_wp2_with fail
          go_ret2
          exact ⟨rfl, hb2⟩
        · have h2' : (er == r) = false := by simpa using h2
          rw [if_neg (fun e => h2 e.2)] at hK
          replace hK := Lib.hid hK
          go_wp2_with fail
          go_roundw
          case rel => exact ⟨j + 1, by go_num, by omega, hK.out, hb2⟩
          case measure => simp [intOf]; omega
      · have h1' : (ep == p) = false := by simpa using h1
        rw [if_neg (fun e => h1 e.1)] at hK
        replace hK := Lib.hid hK
        go_wp2_with fail
        go_roundw
        case rel => exact ⟨j + 1, by go_num, by omega, hK.out, hb2⟩
        case measure => simp [intOf]; omega
    · obtain rfl : j = L.length := by omega
      rw [hend] at hK
      have : K = none := hK
      subst this
      clear hat hdrop hend hjn hj hK
      generalize L.length = m at *
      go_wp2_with fail
      go_ret2
      exact ⟨rfl, hb⟩
theorem rup_any (n : Nat) (x : Int) (h : DocAt w v L) : Calls Try.prog 31 #[.agg #[.int .i64 n, v], .int .i64 x] w fun e w' => e = .returned (.tuple #[.int .i64 ((upL L x).getD 0), .bool (upL L x).isSome]) ∧ Below w.heap.size w w' := by
  have hb : Below w.heap.size w (w.alloc (.cells #[.int .i64 n, v] docT)) := (Below.refl _ _).alloc (Nat.le_refl _) _
  have hat : ∀ wr, Below w.heap.size w wr → ∀ i, i < L.length → _ := fun wr hb i hi => (h.later hb).at' (i := i) hi
  obtain ⟨a, c, rfl, hc1, hc2⟩ := h.form
  have hz : upL L x = upL (L.drop 0) x := rfl
  obtain ⟨K, hK⟩ : ∃ K, K = upL L x := ⟨_, rfl⟩
  rw [← hK] at hz ⊢
  have hdrop := fun i (hi : i < L.length) => drop_consD Hg.no L i hi
  have hend : L.drop L.length = [] := List.drop_length
  clear h hK
  go_enter Try.func31, Try.ntmps31
  go_wp2_with fail
  go_loopw [11] (fun i wr => ∃ j : Nat, i = .int .i64 j ∧ j ≤ L.length ∧ K = upL (L.drop j) x ∧ Below w.heap.size w wr) (fun i _ => L.length - (intOf i).toNat)
  case atStart => exact ⟨0, rfl, Nat.zero_le _, hz, hb⟩
  case round =>
    clear hb hz
    obtain ⟨j, rfl, hj, hK, hb⟩ := hrel
    by_cases hjn : j < L.length
    · have hji : (j : Int) < L.length := by omega
      obtain ⟨g, c', hv, hg, u0, u1, u2⟩ := hat wr hb j hjn
      cases hv
      have hd := hdrop j hjn
      generalize L.getD j Hg.no = e at *
      rw [hd, up_cons] at hK
      have hb2 : Below w.heap.size w (wr.alloc (.cells #[.int .i64 e.p, .int .i64 e.x, .bool e.r] 65)) := hb.alloc hb.size _
      obtain ⟨ep, ex, er⟩ := e
      simp only at u0 u1 u2 hK hb2
      clear hat hdrop hd hend
      generalize L.length = m at *
      by_cases h1 : ex = x
      · subst h1
        rw [if_pos rfl] at hK
        subst hK
        go_wp2_with fail
        go_ret2
        exact ⟨rfl, hb2⟩
      · have h1' : (ex == x) = false := by simpa using h1
        rw [if_neg h1] at hK
        replace hK := Lib.hid hK
        go_wp2_with fail
        go_roundw
        case rel => exact ⟨j + 1, by go_num, by omega, hK.out, hb2⟩
        case measure => simp [intOf]; omega
    · obtain rfl : j = L.length := by omega
      rw [hend] at hK
      have : K = none := hK
      subst this
      clear hat hdrop hend hjn hj hK
      generalize L.length = m at *
      go_wp2_with fail
      go_ret2
      exact ⟨rfl, hb⟩
end
end Go.Proofs.Ytkagchnhjjcgbaa
