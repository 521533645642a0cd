/- What rings' calls return, and what then is: New, All, Same, Splice, Part. -/
import Derived.Test.YtfngooaobjafjaaRingObj
import Derived.Test.YtfngooaobjafjaaInts
import Derived.Deep.RegionHeld3
namespace Go.Proofs.Ytfngooaobjafjaa
open Go.RowKit Go.Sort

theorem info_thing : (Try.prog.info? 50).map (fun i => (i.zero, i.size, i.bytes)) = some (some (.agg #[.int .i64 0, .int .i64 0]), 2, 16) := by kernel_rfl
/-- So far tied. -/
def newF (j : Nat) : Int → Int := fun z => if z < j then z else 0
theorem newF_zero (n : Nat) : rawT n (newF 0) (newF 0) = List.replicate n .no := by
  refine tie_ext (rawT_len _ _ _) (by simp) fun i hi => ?_
  rw [rawT_at _ _ hi]
  have h : ¬ ((i : Int) < (0 : Nat)) := by omega
  unfold newF
  rw [if_neg h]
  simp [List.getD_eq_getElem?_getD, hi, Tie.no]
theorem newF_set (n j : Nat) : rawT n (setI (newF j) j j) (setI (newF j) j j) = rawT n (newF (j + 1)) (newF (j + 1)) := by
  have h : ∀ i : Nat, i < n → setI (newF j) j j i = newF (j + 1) i := fun i _ => by
    unfold setI newF
    by_cases e : i = j
    · subst e; rw [if_pos rfl, if_pos (by omega)]
    · rw [if_neg (by omega)]
      by_cases e2 : i < j
      · rw [if_pos (by omega), if_pos (by omega)]
      · rw [if_neg (by omega), if_neg (by omega)]
  exact rawT_congr h h
theorem newF_all (n : Nat) : rawT n (newF n) (newF n) = rawT n id id := by
  have h : ∀ i : Nat, i < n → newF n i = id (i : Int) := fun i hi => by
    unfold newF; rw [if_pos (by omega)]; rfl
  exact rawT_congr h h
theorem rg_same_parts {p n : Nat} {v : Value} {f g f' g' : Int → Int} (h : rawT n f g = rawT n f' g') : rgParts p v n f g = rgParts p v n f' g' := by
  unfold rgParts; rw [h]
def NewPostR (w : World) (n : Nat) (e : Ending) (w' : World) : Prop :=
  ∃ p, e = .returned (.tuple #[.pointer (some ⟨p, 0, none⟩), .int .i64 0]) ∧ ∃ F', (Ob.ring p n (newS n)).holds w' F' ∧ (∀ k, F' k → w.heap.size ≤ k) ∧ Below w.heap.size w w'
set_option maxHeartbeats 1000000 in
theorem new_rg (n : Nat) (hn : n ≤ 65536) (w : World) : Calls Try.prog 8 #[.int .i64 n] w (NewPostR w n) := by
  have hmk := run_make_rows (P := Try.prog) 45 50 _ 2 16 Try.underlying45 info_thing n (by omega) (by omega)
  have hs0 := ((Stage.start w).newRow 50 2 n (madeCells #[.int .i64 0, .int .i64 0] (n * 2)) (size_madeCells _ _) (by unfold maxLen; omega)).alloc' #[.slice (some ⟨w.heap.size, 0, none⟩) n n] 47 (b := w.heap.size + 1) (size_alloc _ _)
  rw [made_rows tiC_len (by decide) Tie.no #[.int .i64 0, .int .i64 0] rfl n, ← newF_zero n] at hs0
  have hs : Stage (fun _ => False) w (rgParts (w.heap.size + 1) (.slice (some ⟨w.heap.size, 0, none⟩) n n) n (newF 0) (newF 0)) _ := hs0.select [1, 0] (by decide) rfl
  clear hs0
  generalize hg : w.heap.size = g at *
  have k0 := hs.cell 0 rfl (o := 0) rfl
  have hn1 : ¬ (65536 : Int) < n := by omega
  go_enter Try.func8, Try.ntmps8
  go_wp2_with fail
  go_loopw [17] (fun i wr => ∃ j : Nat, i = .int .i64 j ∧ j ≤ n ∧ Stage (fun _ => False) w (rgParts (g + 1) (.slice (some ⟨g, 0, none⟩) n n) n (newF j) (newF j)) wr) (fun i _ => n - (intOf i).toNat)
  case atStart => exact ⟨0, rfl, Nat.zero_le _, hs⟩
  case round =>
    clear hs k0
    obtain ⟨j, rfl, hj, hs⟩ := hrel
    by_cases hjn : j < n
    · have hji : (j : Int) < n := by omega
      have hT := rg_tie (q := []) hs j j hjn hjn
      rw [rg_same_parts (newF_set n j)] at hT
      clear hs
      go_wp2_with fail
      refine hT.mono ?_
      rintro e w2 ⟨rfl, hs2⟩
      clear hT
      go_wp2_with fail
      go_roundw
      case rel => exact ⟨j + 1, by go_num, by omega, hs2⟩
      case measure => simp [intOf]; omega
    · have hji : ¬ (j : Int) < n := by omega
      obtain rfl : j = n := by omega
      go_wp2_with fail
      rw [rg_same_parts (newF_all j)] at hs
      obtain ⟨F', h1, h2, h3⟩ := hs.closeNew
      go_ret2
      exact ⟨_, rfl, F', ⟨_, h1⟩, h2, h3⟩
theorem new_rg_no (n : Int) (w : World) (hn : ¬ (0 ≤ n ∧ n ≤ 65536)) :
    Calls Try.prog 8 #[.int .i64 n] w fun e w' => e = .returned (.tuple #[.pointer none, .int .i64 31]) ∧ w = w' := by
  have hc : n < 0 ∨ (¬ n < 0 ∧ 65536 < n) := by omega
  clear hn
  rcases hc with hc | ⟨hc, hc2⟩
  all_goals
    go_enter Try.func8, Try.ntmps8
    go_wp2_with fail
    go_ret2
    exact ⟨rfl, rfl⟩
theorem Stage.newRing {F0 : Nat → Prop} {W w : World} {l : List Ob} (h : Stage F0 W l w) (n : Nat) (hn : n ≤ 65536) : Calls Try.prog 8 #[.int .i64 n] w fun e w' => ∃ p, e = .returned (.tuple #[.pointer (some ⟨p, 0, none⟩), .int .i64 0]) ∧ Stage F0 W (l ++ [Ob.ring p n (newS n)]) w' :=
  (new_rg n hn w).mono fun _ _ ⟨p, he, _, h1, h2, h3⟩ => ⟨p, he, h.add h3 h1 h2⟩
section
variable {w : World} {p n : Nat} {S : RSt} {F : Nat → Prop}
def lenV (v : Value) : Nat := match v with | .slice _ n _ => n | _ => 0
set_option maxHeartbeats 1000000 in
theorem rg_all (G : RGood n S) (x : Int) (h : (Ob.ring p n S).holds w F) : Calls Try.prog 12 #[.pointer (some ⟨p, 0, none⟩), .int .i64 x] w (IntsPost w (allR S.R x)) := by
  obtain ⟨v, hg⟩ := h
  have hs := Ob.group.open hg
  have c0 := rg_c0 (q := []) hs
  have hH := rg_has (q := []) hs x
  have hfew := G.few
  by_cases hx : inR n x = true
  · rw [hx] at hH
    rw [inR_iff] at hx
    obtain ⟨s, T, e1, e2, e3, e4, e5⟩ := G.walk hx
    rw [e1]
    obtain ⟨i, rfl⟩ : ∃ i : Nat, x = i := ⟨x.toNat, by omega⟩
    obtain ⟨g, c, rfl, hc1, hc2, hgp, hgl, hc, hf⟩ := rg_row (q := []) hs (by omega)
    have hnx := hc i (by omega)
    rw [← e3] at hnx
    have hcell : ∀ j, j < s.length → ∀ w', Below w.heap.size w w' → ∃ m : Nat, T j = m ∧ (m : Int) < n ∧ (T j == (i : Int)) = false ∧ w'.cell? ⟨g, m * 2, none⟩ = some (.int .i64 (T (j + 1))) := fun j hj w' hb => by
      obtain ⟨h1, h2, h3, _⟩ := e5 j hj
      obtain ⟨m, hm⟩ : ∃ m : Nat, T j = m := ⟨(T j).toNat, by omega⟩
      refine ⟨m, hm, by omega, by simpa using h1, later hb ?_⟩
      have := (hc m (by omega)).1
      rw [← hm, h3] at this
      exact this
    have hc0 : ∀ w', Below w.heap.size w w' → w'.cell? ⟨p, 0, none⟩ = some (.slice (some ⟨g, 0, none⟩) n c) ∧ w'.cell? ⟨g, i * 2, none⟩ = some (.int .i64 (T 0)) := fun w' hb => ⟨later hb c0, later hb hnx.1⟩
    have htk := fun j (hj : j < s.length) => (e5 j hj).2.2.2
    have hz := Lib.hid e4
    have hall : s.take s.length = s := List.take_length
    have hs0 : Stage (fun _ => False) w [Ob.ints (.slice (some ⟨w.heap.size, 0, none⟩) 1 1) ((i : Int) :: s.take 0)] (w.alloc (.cells #[.int .i64 i] 3)) := (Stage.start w).newRow' 3 1 1 #[.int .i64 i] rfl (by decide) rfl
    have hxi := hx.2
    obtain ⟨k0, k1⟩ := hc0 _ hs0.below
    have hend : ∀ v w', Stage (fun _ => False) w [Ob.ints v ((i : Int) :: s)] w' → IntsPost w ((i : Int) :: s) (.returned v) w' := fun v w' h => ints_close h
    generalize IntsPost w ((i : Int) :: s) = P at *
    generalize hm : s.length = m at *
    clear hs hg hc hf e1 e3 e4 e5 G hnx
    generalize hbs : w.heap.size = b at *
    go_enter Try.func12, Try.ntmps12
    go_wp2_with fail
    refine hH.mono ?_
    rintro e w1 ⟨rfl, rfl⟩
    clear hH
    go_wp2_with fail
    go_loopw [5, 6] (fun v y wr => ∃ (j : Nat) (vs : Value), j ≤ m ∧ v = vs ∧ y = .int .i64 (T j) ∧ Stage (fun _ => False) w [Ob.ints vs ((i : Int) :: s.take j)] wr) (fun v _ _ => m + 2 - lenV v)
    case atStart => exact ⟨0, _, Nat.zero_le _, rfl, rfl, hs0⟩
    case round =>
      clear hs0 k0 k1
      obtain ⟨j, vs, hj, rfl, rfl, hN⟩ := hrel
      have hb := hN.below
      obtain ⟨k0, _⟩ := hc0 _ (hbs ▸ hb)
      by_cases hjm : j < m
      · obtain ⟨x1, hx1, hx2, hx3, u0⟩ := hcell j hjm _ (hbs ▸ hb)
        have hti := htk j hjm
        have hc1' := hc0
        have u0' : ∀ w', Below b w w' → w'.cell? ⟨g, x1 * 2, none⟩ = some (.int .i64 (T (j + 1))) := fun w' hb' => by
          obtain ⟨x2, h1, _, _, h2⟩ := hcell j hjm w' hb'
          obtain rfl : x1 = x2 := by omega
          exact h2
        clear u0
        generalize hy1 : T (j + 1) = y1 at *
        rw [hx1] at hti hx3
        rw [hx1]
        generalize hu : s.take j = u at *
        generalize hu2' : s.take (j + 1) = u2 at *
        have hli : u.length = j := by rw [← hu, List.length_take]; omega
        obtain ⟨a2, c2, rfl, h21, h22⟩ := hN.intsForm 0 rfl
        rw [show ((i : Int) :: u).length = j + 1 by simp [hli]] at *
        clear hcell hc0 htk hend hu
        go_wp2_with (at_builtin; refine hN.wp_appendInt (x := x1) 0 rfl rfl rfl _ _ 30 rfl Try.underlying30 sinfo_int rfl rfl (by simp; omega) ?_)
        intro v2 w2 hN2
        replace hN2 : Stage (fun _ => False) w [Ob.ints v2 (((i : Int) :: u) ++ [(x1 : Int)])] w2 := hN2
        rw [List.cons_append, ← hti] at hN2
        obtain ⟨k1, _⟩ := hc1' w2 (hbs ▸ hN2.below)
        have u1 := u0' w2 (hbs ▸ hN2.below)
        have hl2 : ((i : Int) :: u2).length = j + 2 := by rw [hti]; simp [hli]
        have hv2 := hN2.intsForm 0 rfl
        rw [hl2] at hv2
        obtain ⟨a3, c3, rfl, h31, h32⟩ := hv2
        clear hN hc1' u0' hti hl2 hli
        go_wp2_with fail
        go_roundw
        case rel => exact ⟨j + 1, _, by omega, rfl, hy1.symm ▸ rfl, hu2' ▸ hN2⟩
        case measure => simp [lenV]; omega
      · obtain rfl : j = m := by omega
        rw [hz.out] at *
        rw [hall] at hN
        clear hcell hc0 htk
        go_wp2_with fail
  · rw [Bool.not_eq_true] at hx
    rw [hx] at hH
    rw [G.none hx]
    clear hs hg
    have hP : ∀ w', Below w.heap.size w w' → IntsPost w [] (.returned (.slice none 0 0)) w' := fun w' hb => ints_close (((Stage.start w).later hb).nilRow 0 3 1)
    generalize IntsPost w [] = P at *
    go_enter Try.func12, Try.ntmps12
    go_wp2_with fail
    refine hH.mono ?_
    rintro e w1 ⟨rfl, rfl⟩
    go_wp2_with fail
    exact Below.refl _ _
end
end Go.Proofs.Ytfngooaobjafjaa
