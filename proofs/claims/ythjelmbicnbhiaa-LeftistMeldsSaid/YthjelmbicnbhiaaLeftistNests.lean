/- Merged of LeftistNest5, LeftistNests. -/
import Derived.Test.YthjelmbicnbhiaaLeftistNest4
import Derived.Test.YthjelmbicnbhiaaNestNum
namespace Go.Proofs.Ythjelmbicnbhiaa
open Go.RowKit Go.Sort

section
variable {w : World} {p c f t bm n : Nat} {v : Value} {W W' : WS} {s s' : Int} {F F0 : Nat → Prop} {L : List Hg} {R : List Int} {Ts : Nat → Tr}
/-- Two heaps become one: what stands. -/
theorem meld_inv {i j : Nat} (I : TInv W Ts) (J : LefInv Ts L (rkL R)) (hR : R.length = n) (hn : W.cells.length = n) (hB : joinBW W i j = true) (hi : 1 ≤ i) (hj : 1 ≤ j) :
    i ≠ j ∧ (Ts j = .nil → TInv (joinW W i j) Ts) ∧ Two (joinW W i j) n L R (updT Ts j .nil i) (Ts j) ∧ ∀ {T : Tr} {L' : List Hg} {R' : List Int}, T.slots.Perm ((updT Ts j .nil i).slots ++ (Ts j).slots) → Tr.Ok (aheadW (joinW W i j)) T → Stands L' (rkL R') T → SameL ((updT Ts j .nil i).slots ++ (Ts j).slots) L L' (rkL R) (rkL R') →
      TInv (joinW W i j) (updT (updT Ts j .nil) i T) ∧ LefInv (updT (updT Ts j .nil) i T) L' (rkL R') := by
  obtain ⟨hne, hah, hin, hap, hfin⟩ := tinv_join I hB hi hj
  have ei : updT Ts j .nil i = Ts i := updT_ne _ _ hne
  rw [ei, hah]
  refine ⟨hne, fun e => ?_, ⟨hR, by rw [ljoin_len]; exact hn, J.all i, J.all j, by rw [hah]; exact I.ok i, by rw [hah]; exact I.ok j, hap, fun y hy => ?_⟩, fun {T} {L'} {R'} hp hk hT hS => ⟨hfin T hk hp, ?_⟩⟩
  · have := hfin (Ts i) (I.ok i) (by rw [e]; simp [Tr.slots])
    have e2 : updT (updT Ts j .nil) i (Ts i) = Ts := by
      funext g; unfold updT
      by_cases h1 : g = i
      · rw [if_pos h1, h1]
      · rw [if_neg h1]
        by_cases h2 : g = j
        · rw [if_pos h2, h2, e]
        · rw [if_neg h2]
    rwa [e2] at this
  · rw [hin]
    rcases List.mem_append.1 hy with h | h
    · exact (I.in' h).2.2.1
    · exact (I.in' h).2.2.1
  · have eT : ∀ g, updT (updT Ts j .nil) i T g = if g = i then T else if g = j then .nil else Ts g := fun g => rfl
    refine J.change hS (fun g => ?_) (fun x hx => Or.inl ⟨i, by rw [eT, if_pos rfl]; exact hp.mem_iff.2 hx⟩) (fun g x hg hx => ⟨g, ?_⟩)
    · by_cases h1 : g = i
      · left; rw [eT, if_pos h1]; exact hT
      · by_cases h2 : g = j
        · left; rw [eT, if_neg h1, if_pos h2]; exact Stands.nil _ _
        · right
          rw [eT, if_neg h1, if_neg h2]
          refine ⟨rfl, fun x hx hm => ?_⟩
          rcases List.mem_append.1 hm with h | h
          · exact h1 (I.one hx h)
          · exact h2 (I.one hx h)
    · rw [eT, if_neg (fun e => hx (List.mem_append_left _ (by rw [← e]; exact hg))), if_neg (fun e => hx (List.mem_append_right _ (by rw [← e]; exact hg)))]
      exact hg
set_option maxRecDepth 100000 in
set_option maxHeartbeats 1000000 in
theorem meld_le (a b : Int) (h : (Ob.leftist p c W s Ts).holds w F) : Calls Try.prog 113 #[.pointer (some ⟨p, 0, none⟩), .int .i64 a, .int .i64 b] w fun e w' => e = .returned (.bool (joinBW W a b)) ∧ ∃ (s' : Int) (Ts' : Nat → Tr), (s ≤ s' ∧ s' ≤ s + (Lib.bitLen (lenW W a) + Lib.bitLen (lenW W b) : Nat)) ∧ ∃ F', (Ob.leftist p c (joinW W a b) s' Ts').holds w' F' ∧ Moved F F' w w' := by
  have hF := (Ob.leftist p c W s Ts).lt h
  obtain ⟨f, t, bm, v, n, L, R, I, J, hR, hn, hf, _, hg⟩ := h
  have hs := Ob.group.open hg
  clear hg
  have hJ := hs.call 1 rfl (fun _ ho => join_cl a b ho)
  have p0 := le_p0 hs
  cases hB : joinBW W a b
  · have eW : joinW W a b = W := by simp [joinW, hB]
    rw [hB, eW] at hJ
    rw [eW]
    go_enter Try.func113, Try.ntmps113
    go_wp2_with fail
    refine hJ.mono ?_
    rintro e w1 ⟨rfl, hs1⟩
    have hs2 : Stage F w (leftParts p f c t bm v n W s L R Ts) w1 := hs1
    go_wp2_with fail
    go_ret
    exact ⟨rfl, s, _, ⟨Int.le_refl _, by omega⟩, left_close hs2 hF I J hR hn⟩
  · obtain ⟨i, j, rfl, rfl, hi1, hi2, hj1, hj2⟩ : ∃ i j : Nat, a = i ∧ b = j ∧ 1 ≤ i ∧ i < 65537 ∧ 1 ≤ j ∧ j < 65537 := by
      have hB2 := hB
      simp only [joinBW, Bool.and_eq_true, decide_eq_true_eq] at hB2
      obtain ⟨i, rfl, h1, h2, _⟩ := has_nat hB2.1
      obtain ⟨j, rfl, h3, h4, _⟩ := has_nat hB2.2.1
      have := hf.len
      exact ⟨i, j, rfl, rfl, h1, by omega, h3, by omega⟩
    obtain ⟨hij, hnil, H2, hfin⟩ := meld_inv I J hR hn hB hi1 hj1
    have hbi := lef_bits (J.all i).lef (Nat.le_of_eq (I.size i hi1)) (Nat.le_trans (len_le W i) hf.cap)
    have hbj := lef_bits (J.all j).lef (Nat.le_of_eq (I.size j hj1)) (Nat.le_trans (len_le W j) hf.cap)
    have hn1 : (joinW W i j).cells.length = n := by rw [ljoin_len]; exact hn
    have ei : updT Ts j .nil i = Ts i := updT_ne _ _ hij
    rw [hB] at hJ
    clear hs hB
    generalize joinW W i j = W1 at *
    go_enter Try.func113, Try.ntmps113
    go_wp2_with fail
    refine hJ.mono ?_
    rintro e w1 ⟨rfl, hs1⟩
    have hs2 : Stage F w (leftParts p f c t bm v n W1 s L R Ts) w1 := hs1
    clear hs1 hJ p0
    have p2 := le_p2 hs2
    have hl := le_look hs2 j ⟨by omega, by omega⟩
    rw [topsT_nat] at hl
    cases ht : (Ts j).top with
    | none =>
      have hnl : Ts j = .nil := by cases e : Ts j with
        | nil => rfl
        | node a b d => rw [e] at ht; cases ht
      rw [ht] at hl
      replace hl : (Instr.lookup 30 (.map (some bm)) (.int .i64 j) true).run Try.prog w1 = .ok (.tuple #[.int .i64 0, .bool false]) w1 := hl
      have I3 := hnil hnl
      clear hnl ht hnil H2 hfin ei
      go_wp2_with fail
      go_ret
      exact ⟨rfl, s, _, ⟨Int.le_refl _, by omega⟩, left_close hs2 hF I3 J hR hn1⟩
    | some x =>
      rw [ht] at hl
      replace hl : (Instr.lookup 30 (.map (some bm)) (.int .i64 j) true).run Try.prog w1 = .ok (.tuple #[.int .i64 x, .bool true]) w1 := hl
      have hn2 := Lib.hid (cntT_del Ts hj2)
      have hf2 := Lib.hid (show setZ (topsT Ts) j none = topsT (updT Ts j .nil) by rw [topsT_upd]; rfl)
      clear hnil
      go_wp2_with (at_delete; refine Stage.wp_deleteZL (cntT (updT Ts j .nil)) (topsT (updT Ts j .nil)) hs2 5 rfl rfl _ _ rfl Try.underlying30 Try.underlying3 rfl j rfl ⟨by omega, by omega⟩ hn2 hf2 ?_)
      intro w2 hs3
      replace hs3 : Stage F w (leftParts p f c t bm v n W1 s L R (updT Ts j .nil)) w2 := hs3
      have hA := add_le (h := i) (tb := Ts j) (x := x) hs3 hi2 ht H2
      clear hs2 hs3 hl p2 hn2 hf2 H2 ht
      go_wp2_with fail
      refine hA.mono ?_
      rintro e w3 ⟨T, L', R', s', rfl, a1, a2, a3, a4, a5, ⟨a6, a7, _, _⟩, _, _, hs4⟩
      obtain ⟨I3, J3⟩ := hfin a2 a3 a4 a5
      rw [ei] at a7
      have hst : s ≤ s' ∧ s' ≤ s + (Lib.bitLen (lenW W i) + Lib.bitLen (lenW W j) : Nat) := by omega
      clear hA hfin a2 a3 a4 a5 a7 hbi hbj ei
      go_wp2_with fail
      go_ret
      exact ⟨rfl, s', _, hst, left_close hs4 hF I3 J3 a1 hn1⟩
/-- How long the way to the right is, of a slot. -/
theorem rank_le (x : Int) (h : (Ob.leftist p c W s Ts).holds w F) : ∃ r : Int → Int, (∀ k, Tr.Ranked r (Ts k)) ∧ Calls Try.prog 26 #[.pointer (some ⟨p, 0, none⟩), .int .i64 x] w fun e w' => e = .returned (.int .i64 (if inW W x then r x else 0)) ∧ ∃ F', (Ob.leftist p c W s Ts).holds w' F' ∧ Moved F F' w w' := by
  have hF := (Ob.leftist p c W s Ts).lt h
  obtain ⟨f, t, bm, v, n, L, R, I, J, hR, hn, hf, _, hg⟩ := h
  refine ⟨rkL R, fun k => (J.all k).rank, ?_⟩
  have hs := Ob.group.open hg
  clear hg
  have hH := hs.call 1 rfl (fun _ ho => home_cl x ho)
  have p0 := le_p0 hs
  have hin : inW W x = true → inN n x := fun e => by
    obtain ⟨i, rfl, hi⟩ := in_n hn e
    exact ⟨by omega, by omega⟩
  generalize ((cellW W x).home : Int) = hh at *
  cases hB : inW W x
  · rw [hB] at hH
    go_enter Try.func26, Try.ntmps26
    go_wp2_with fail
    refine hH.mono ?_
    rintro e w1 ⟨rfl, hs1⟩
    have hs2 : Stage F w (leftParts p f c t bm v n W s L R Ts) w1 := hs1
    have p1 := le_p1 hs2
    have hRk := rank_st (q := [_, _]) hs2 hR x false (fun e => by cases e)
    clear hs1 hH p0 hs
    go_wp2_with fail
    refine hRk.mono ?_
    rintro e w2 ⟨rfl, rfl⟩
    go_wp2_with fail
    go_ret
    exact ⟨rfl, left_close hs2 hF I J hR hn⟩
  · rw [hB] at hH
    have hin2 := hin hB
    go_enter Try.func26, Try.ntmps26
    go_wp2_with fail
    refine hH.mono ?_
    rintro e w1 ⟨rfl, hs1⟩
    have hs2 : Stage F w (leftParts p f c t bm v n W s L R Ts) w1 := hs1
    have p1 := le_p1 hs2
    have hRk := rank_st (q := [_, _]) hs2 hR x true (fun _ => hin2)
    clear hs1 hH p0 hs
    go_wp2_with fail
    refine hRk.mono ?_
    rintro e w2 ⟨rfl, rfl⟩
    go_wp2_with fail
    go_ret
    exact ⟨rfl, left_close hs2 hF I J hR hn⟩
/-- The way to the right. -/
theorem spine_le (y : Int) (hy : inInt y) (h : (Ob.leftist p c W s Ts).holds w F) : Calls Try.prog 22 #[.pointer (some ⟨p, 0, none⟩), .int .i64 y] w (ListPost w (if 0 ≤ y then (Ts y.toNat).side else [])) := by
  obtain ⟨f, t, bm, v, n, L, R, I, J, hR, hn, hf, _, hg⟩ := h
  have hs := Ob.group.open hg
  clear hg
  have p1 := le_p1 hs
  have p2 := le_p2 hs
  have f1 : w.cell? ⟨f, 1, none⟩ = some (ptrV t) := hs.cell 0 rfl rfl
  have hl := le_look hs y hy
  cases ht : topsT Ts y with
  | none =>
    have e : (if 0 ≤ y then (Ts y.toNat).side else []) = [] := by
      unfold topsT at ht
      by_cases h0 : 0 ≤ y
      · rw [if_pos h0] at ht ⊢
        cases e : Ts y.toNat with
        | nil => rfl
        | node a b d => rw [e] at ht; cases ht
      · rw [if_neg h0]
    rw [e]
    rw [ht] at hl
    replace hl : (Instr.lookup 30 (.map (some bm)) (.int .i64 y) true).run Try.prog w = .ok (.tuple #[.int .i64 0, .bool false]) w := hl
    have hL : ListPost w [] (.returned (.slice none 0 0)) w := list_close ((Stage.start w).nilRow 0 3 1)
    clear ht e
    go_enter Try.func22, Try.ntmps22
    go_wp2_with fail
    go_ret
    exact hL
  | some x =>
    obtain ⟨h0, hx⟩ : 0 ≤ y ∧ (Ts y.toNat).top = some x := by
      unfold topsT at ht
      by_cases h0 : 0 ≤ y
      · rw [if_pos h0] at ht; exact ⟨h0, ht⟩
      · rw [if_neg h0] at ht; cases ht
    rw [if_pos h0]
    rw [ht] at hl
    replace hl : (Instr.lookup 30 (.map (some bm)) (.int .i64 y) true).run Try.prog w = .ok (.tuple #[.int .i64 x, .bool true]) w := hl
    obtain ⟨G, ho⟩ := hs.get (i := 2) rfl
    have hSp := spine_sp x ho
    have hxn : inN n x := by
      obtain ⟨i, rfl, hi⟩ := in_n hn (I.in' (Tr.top_in hx)).2.2.1
      exact ⟨by omega, by omega⟩
    have hside : sideI n L x = (Ts y.toNat).side := by
      unfold sideI
      rw [if_pos (has_in.2 hxn)]
      have := rep_side (fo_inv (q := [_, _]) hs).1 ((J.all y.toNat).rep' hx) (fun z hz => by cases hz; exact hxn)
      exact this
    rw [hside] at hSp
    clear hside hxn ht hx
    go_enter Try.func22, Try.ntmps22
    go_wp2_with fail
    refine hSp.mono ?_
    rintro e w1 ⟨v1, rfl, hL⟩
    go_wp2_with fail
    go_ret
    exact ⟨v1, rfl, hL⟩
end
def newLeftPost (w : World) (n : Nat) (e : Ending) (w' : World) : Prop := ∃ p c, e = .returned (.tuple #[.pointer (some ⟨p, 0, none⟩), .int .i64 0]) ∧ ∃ F', (Ob.leftist p c (newW n) 0 (fun _ => .nil)).holds w' F' ∧ (∀ k, F' k → w.heap.size ≤ k) ∧ Below w.heap.size w w'
theorem newForest_st {F0 : Nat → Prop} {W0 w : World} {c n : Nat} {W : WS} {s : Int} (h : Stage F0 W0 [Ob.cells c W s] w) (hn : W.cells.length = n) (hn2 : n ≤ 65536) : Calls Try.prog 32 #[.pointer (some ⟨c, 0, none⟩)] w fun e w' => ∃ f t v, e = .returned (.tuple #[.pointer (some ⟨f, 0, none⟩), .int .i64 0]) ∧ Stage F0 W0 (forestParts f c t v n W s [] (List.replicate n 0)) w' := by
  have hmk := run_make_rows (P := Try.prog) 67 3 (.int .i64 0) 1 8 Try.underlying67 sinfo_int n (by omega) (by omega)
  have hC := h.ask 0 rfl (fun _ ho => capacity_cl ho)
  rw [hn] at hC
  have hN := h.newSpine n hn2
  go_enter Try.func32, Try.ntmps32
  go_wp2_with fail
  refine hC.mono ?_
  rintro e w1 ⟨rfl, rfl⟩
  clear hC
  go_wp2_with fail
  refine hN.mono ?_
  rintro e w1 ⟨t, rfl, hs1⟩
  clear hN h
  have hC := hs1.ask 0 rfl (fun _ ho => capacity_cl ho)
  rw [hn] at hC
  go_wp2_with fail
  refine hC.mono ?_
  rintro e w2 ⟨rfl, rfl⟩
  clear hC
  have hs2 := (hs1.newRow 3 1 n (madeCells #[.int .i64 0] (n * 1)) (size_madeCells _ _) (by unfold maxLen; omega)).alloc' #[ptrV c, ptrV t, .slice (some ⟨w1.heap.size, 0, none⟩) n n] 98 (b := w1.heap.size + 1) (size_alloc _ _)
  rw [made_rows intC_len (by decide) 0 #[.int .i64 0] rfl n, Nat.mul_one] at hs2
  have hs3 : Stage F0 W0 (forestParts (w1.heap.size + 1) c t (.slice (some ⟨w1.heap.size, 0, none⟩) n n) n W s [] (List.replicate n 0)) _ := hs2.select [3, 0, 1, 2] (by decide) rfl
  clear hs1 hs2
  go_wp2_with fail
  exact bodyPost_ret (v := .tuple #[.pointer (some ⟨w1.heap.size + 1, 0, none⟩), .int .i64 0]) (by simp [results, Try.results32, go_sem]) rfl ⟨_, t, _, rfl, hs3⟩
set_option maxRecDepth 100000 in
theorem new_le (n : Nat) (hn : n ≤ 65536) (w : World) : Calls Try.prog 10 #[.int .i64 n] w (newLeftPost w n) := by
  have hmm := @run_makeMap Try.prog
  have hC := new_cl n hn w
  go_enter Try.func10, Try.ntmps10
  go_wp2_with fail
  refine hC.mono ?_
  rintro e w1 ⟨c, rfl, F1, h1, h2, h3⟩
  have hs1 : Stage (fun _ => False) w [Ob.cells c (newW n) 0] w1 := (Stage.start w).add (O := Ob.cells c (newW n) 0) h3 h1 h2
  clear hC h1 h2 h3
  have hnl : (newW n).cells.length = n := by simp [newW]
  have hN := newForest_st hs1 hnl hn
  go_wp2_with fail
  refine hN.mono ?_
  rintro e w2 ⟨f, t, v, rfl, hs2⟩
  clear hN hs1
  have hs3 := hs2.newZMap Try.prog 3 3 rfl
  have hz : (w2.alloc (.map #[] 0)).heap.size = w2.heap.size + 1 := size_alloc _ _
  have hs4 := hs3.alloc #[ptrV c, ptrV f, .map (some w2.heap.size)] 32
  rw [hz] at hs4
  have e1 : topsT (fun _ => Tr.nil) = fun _ => none := by funext h; unfold topsT; split <;> rfl
  have e2 : cntT (fun _ => Tr.nil) = 0 := by
    unfold cntT
    rw [List.countP_eq_zero]
    intro a _
    simp [Tr.top]
  have hs5 : Stage (fun _ => False) w (leftParts (w2.heap.size + 1) f c t w2.heap.size v n (newW n) 0 [] (List.replicate n 0) (fun _ => .nil)) ((w2.alloc (.map #[] 0)).alloc (.cells #[ptrV c, ptrV f, .map (some w2.heap.size)] 32)) := by
    unfold leftParts
    rw [e1, e2]
    exact hs4.select [0, 1, 2, 3, 5, 4] (by decide) rfl
  clear hs2 hs3 hs4
  go_wp2_with fail
  obtain ⟨F', g1, g2, g3⟩ := hs5.closeNew
  exact bodyPost_ret (v := .tuple #[.pointer (some ⟨w2.heap.size + 1, 0, none⟩), .int .i64 0]) (by simp [results, Try.results10, go_sem]) rfl ⟨_, c, rfl, F', ⟨f, t, w2.heap.size, v, n, [], List.replicate n 0, tinv_new n, lefinv_new _, by simp, hnl, new_fitW hn, ⟨Int.le_refl _, by omega⟩, g1⟩, g2, g3⟩
theorem new_le_no (n : Int) (w : World) (hn : ¬ (0 ≤ n ∧ n ≤ 65536)) : Calls Try.prog 10 #[.int .i64 n] w fun e w' => e = .returned (.tuple #[.pointer none, .int .i64 31]) ∧ w = w' := by
  go_enter Try.func10, Try.ntmps10
  go_wp2_with fail
  refine (new_no n w hn).mono ?_
  rintro e w1 ⟨rfl, rfl⟩
  go_wp2_with fail
  exact bodyPost_ret (v := .tuple #[.pointer none, .int .i64 31]) (by simp [results, Try.results10, go_sem]) rfl ⟨rfl, rfl⟩
end Go.Proofs.Ythjelmbicnbhiaa

namespace Go.Proofs.Ythjelmbicnbhiaa
open Go.RowKit Go.Sort

/-- How a call turns the steps. -/
def leftR (W : WS) (k y x : Int) (g g' : Int × (Nat → Tr)) : Prop := g.1 ≤ g'.1 ∧
  (k = 0 ∨ k = 2 → g'.1 = g.1) ∧ (k = 1 → g'.1 ≤ g.1 + (Lib.bitLen (lenW W y) + 1 : Nat)) ∧ (k = 3 → g'.1 ≤ g.1 + (2 * Lib.bitLen (lenW W y) : Nat)) ∧
  (k = 4 ∨ k = 5 → (inW W x = false → g'.1 = g.1) ∧ g'.1 ≤ g.1 + (2 * Lib.bitLen (lenW W (cellW W x).home) + 1 : Nat)) ∧ (k = 6 → g'.1 ≤ g.1 + (Lib.bitLen (lenW W y) + Lib.bitLen (lenW W x) : Nat)) ∧ (¬ (0 ≤ k ∧ k ≤ 6) → g'.1 = g.1)
/-- The functions that such a nest's calls enter. -/
def leftF (p c : Nat) : NestFns where
  cap := ⟨11, ptrV c⟩
  make := ⟨29, ptrV c⟩
  ins := ⟨30, ptrV p⟩
  min := ⟨114, ptrV p⟩
  ext := ⟨112, ptrV p⟩
  dec := ⟨109, ptrV p⟩
  del := ⟨110, ptrV p⟩
  meld := ⟨113, ptrV p⟩
  steps := ⟨12, ptrV c⟩
  entry := ⟨111, ptrV c⟩
  home := ⟨45, ptrV c⟩
  has := ⟨13, ptrV c⟩
  len := ⟨14, ptrV c⟩
section
variable {w : World} {p c : Nat} {W : WS} {s : Int} {F : Nat → Prop} {Ts : Nat → Tr}
theorem left_there (h : (Ob.leftist p c W s Ts).holds w F) : leftH p c w := by
  obtain ⟨f, t, bm, v, n, L, R, _, _, _, _, _, _, hg⟩ := h
  exact le_p0 (Ob.group.open hg)
theorem left_fit (h : (Ob.leftist p c W s Ts).holds w F) : W.Fit := by
  obtain ⟨f, t, bm, v, n, L, R, _, _, _, _, h, _, hg⟩ := h; exact h
theorem left_range (h : (Ob.leftist p c W s Ts).holds w F) : 0 ≤ s ∧ s ≤ 4611686018427387904 := by
  obtain ⟨f, t, bm, v, n, L, R, _, _, _, _, _, h, hg⟩ := h; exact h
theorem left_inv (h : (Ob.leftist p c W s Ts).holds w F) : TInv W Ts ∧ ∀ k, Tr.Lef (Ts k) := by
  obtain ⟨f, t, bm, v, n, L, R, I, J, _, _, _, _, hg⟩ := h; exact ⟨I, fun k => (J.all k).lef⟩
/-- A call on the cells alone. -/
theorem left_cells {f : FuncId} {args : Array Value} {v : Value} {W' : WS} (h : (Ob.leftist p c W s Ts).holds w F) (hW : ∀ Ts, TInv W Ts → TInv W' Ts) (hl : W'.cells.length = W.cells.length)
    (hc : ∀ G, (Ob.cells c W s).holds w G → Calls Try.prog f args w fun e w' => e = .returned v ∧ ∃ G', (Ob.cells c W' s).holds w' G' ∧ Moved G G' w w') :
    Calls Try.prog f args w fun e w' => e = .returned v ∧ ∃ F', (Ob.leftist p c W' s Ts).holds w' F' ∧ Moved F F' w w' := by
  have hF := (Ob.leftist p c W s Ts).lt h
  obtain ⟨f, t, bm, v, n, L, R, I, J, hR, hn, hf, _, hg⟩ := h
  have hs := Ob.group.open hg
  refine (hs.call 1 rfl hc).mono ?_
  rintro e w' ⟨rfl, hs1⟩
  have hs2 : Stage F w (leftParts p f c t bm v n W' s L R Ts) w' := hs1
  exact ⟨rfl, left_close hs2 hF (hW Ts I) J hR (by rw [hl]; exact hn)⟩
/-- .. that only asks. -/
theorem left_ask {f : FuncId} {args : Array Value} {v : Value} (h : (Ob.leftist p c W s Ts).holds w F) (hc : ∀ G, (Ob.cells c W s).holds w G → Calls Try.prog f args w fun e w' => e = .returned v ∧ Below w.heap.size w w') :
    Calls Try.prog f args w fun e w' => e = .returned v ∧ Below w.heap.size w w' := by
  obtain ⟨f, t, bm, v, n, L, R, I, J, hR, hn, hf, _, hg⟩ := h
  obtain ⟨G, ho⟩ := (Ob.group.open hg).get (i := 1) rfl
  exact hc G ho
theorem lsame_below {f : FuncId} {args : Array Value} {v : Value} (h : Calls Try.prog f args w fun e w' => e = .returned v ∧ w = w') : Calls Try.prog f args w fun e w' => e = .returned v ∧ Below w.heap.size w w' := h.mono fun _ _ ⟨h1, h2⟩ => ⟨h1, by subst h2; exact Below.refl _ _⟩
end
abbrev ltoMeter : FieldStep := { struct := 38, index := 0, deref := true }
theorem lload_cells {p c : Nat} {w : World} (h : leftH p c w) : (loadVar 28 ⟨p, 0, none⟩).run Try.prog w = .ok (ptrV c) w := by
  unfold leftH at h
  go_simp
/-- A method of the cells, by the nest. -/
theorem lm_prom {n : String} {f : FuncId} {p c : Nat} {w : World} (h : leftH p c w) (e : (method 256 23 (ptrV p) n).run Try.prog w = (do let v ← loadVar 28 ⟨p, 0, none⟩; pure (f, v) : Sem (FuncId × Value)).run Try.prog w) : (method 256 23 (ptrV p) n).run Try.prog w = .ok (f, ptrV c) w := by
  rw [e, Sem.run_bind, lload_cells h]
  rfl
set_option maxRecDepth 100000 in
theorem lm_steps {p c : Nat} {w : World} (h : leftH p c w) : (method 256 23 (ptrV p) "Steps").run Try.prog w = .ok (12, ptrV c) w := by
  have e : (method 256 23 (ptrV p) "Steps").run Try.prog w = (do let x ← follow [ltoMeter] 28 (.var ⟨p, 0, none⟩); let r ← receiverAt x.1 x.2 true none; pure (12, r) : Sem (FuncId × Value)).run Try.prog w := by kernel_rfl
  have e1 : (follow [ltoMeter] 28 (.var ⟨p, 0, none⟩)).run Try.prog w = (do let v ← loadVar 28 ⟨p, 0, none⟩; follow [ltoMeter] 28 (.val v)).run Try.prog w := by kernel_rfl
  have e2 : (follow [ltoMeter] 28 (.val (ptrV c))).run Try.prog w = .ok (34, .var ⟨c, 0, none⟩) w := by kernel_rfl
  have e3 : (follow [ltoMeter] 28 (.var ⟨p, 0, none⟩)).run Try.prog w = .ok (34, .var ⟨c, 0, none⟩) w := by
    rw [e1, Sem.run_bind, lload_cells h, Result.andThen_ok]
    exact e2
  have e4 : (do let r ← receiverAt 34 (.var ⟨c, 0, none⟩) true none; pure (12, r) : Sem (FuncId × Value)).run Try.prog w = .ok (12, ptrV c) w := by kernel_rfl
  rw [e, Sem.run_bind, e3, Result.andThen_ok]
  exact e4
theorem left_nests (p c : Nat) : Nests (fun W (g : Int × (Nat → Tr)) => Ob.leftist p c W g.1 g.2) Prod.fst leftR (leftH p c) 23 (ptrV p) (leftF p c) where
  there := left_there
  fit h := left_fit h
  still W k y x g h := ⟨Int.le_refl _, fun _ => rfl, fun e => by omega, fun e => by omega, fun e => by omega, fun e => by omega, fun _ => rfl⟩
  entry x h := left_ask h fun _ ho => entry_cl x ho
  home {W g w F} x h := left_cells h (fun _ I => I) rfl fun _ ho => home_cl x ho
  has y h := left_ask h fun _ ho => lsame_below (has_cl y ho)
  len y hy h := left_ask h fun _ ho => lsame_below (len_cl y hy ho)
  cap h := left_ask h fun _ ho => lsame_below (capacity_cl ho)
  steps h := left_ask h fun _ ho => lsame_below (steps_cl ho)
  make {W g w F} h := (left_cells h (W' := makeW W) (fun _ I => I.congr (by unfold makeW; split <;> rfl)) (by unfold makeW; split <;> rfl) fun _ ho => make_cl ho).mono fun e w' ⟨h1, h2⟩ => ⟨h1, g, fun _ _ => ⟨Int.le_refl _, fun _ => rfl, fun e => by omega, fun e => by omega, fun e => by omega, fun e => by omega, fun _ => rfl⟩, h2⟩
  ins y x k q _ _ h := (insert_le y x k q h).mono fun e w' ⟨h1, s', Ts', ⟨h2, _, h3, _⟩, h4⟩ => ⟨h1, (s', Ts'), ⟨h2, fun e => by omega, fun _ => h3, fun e => by omega, fun e => by omega, fun e => by omega, fun e => by omega⟩, h4⟩
  min {W g w F} y hy h := (min_le y hy h).mono fun e w' ⟨h1, h2⟩ => ⟨h1, g, fun _ => ⟨Int.le_refl _, fun _ => rfl, fun e => by omega, fun e => by omega, fun e => by omega, fun e => by omega, fun _ => rfl⟩, F, by subst h2; exact ⟨h, Moved.refl _ _⟩⟩
  ext y hy h := (extract_le y hy h).mono fun e w' ⟨h1, s', Ts', ⟨h2, h3⟩, h4⟩ => ⟨h1, (s', Ts'), fun _ => ⟨h2, fun e => by omega, fun e => by omega, fun _ => h3, fun e => by omega, fun e => by omega, fun e => by omega⟩, h4⟩
  dec {W g w F} x k q _ h := (decrease_le x k q h).mono fun e w' ⟨h1, s', Ts', ⟨h2, h5, h3⟩, h4⟩ => ⟨h1, (s', Ts'), fun _ => ⟨h2, fun e => by omega, fun e => by omega, fun e => by omega, fun _ => ⟨fun e => h5 (by simp [lowerB, e]), h3⟩, fun e => by omega, fun e => by omega⟩, h4⟩
  del {W g w F} x _ h := (delete_le x h).mono fun e w' ⟨h1, s', Ts', ⟨h2, h5, h3⟩, h4⟩ => ⟨h1, (s', Ts'), fun _ => ⟨h2, fun e => by omega, fun e => by omega, fun e => by omega, fun _ => ⟨h5, by
    show s' ≤ g.1 + (2 * Lib.bitLen (lenW W (cellW W x).home) + 1 : Nat)
    omega⟩, fun e => by omega, fun e => by omega⟩, h4⟩
  meld a b _ _ h := (meld_le a b h).mono fun e w' ⟨h1, s', Ts', ⟨h2, h3⟩, h4⟩ => ⟨h1, (s', Ts'), ⟨h2, fun e => by omega, fun e => by omega, fun e => by omega, fun e => by omega, fun _ => h3, fun e => by omega⟩, h4⟩
  mCap := ⟨fun w h => lm_prom h (by kernel_rfl), fun _ _ => by kernel_rfl⟩
  mMake := ⟨fun w h => lm_prom h (by kernel_rfl), fun _ _ => by kernel_rfl⟩
  mIns := ⟨fun _ _ => by kernel_rfl, fun _ _ => by kernel_rfl⟩
  mMin := ⟨fun _ _ => by kernel_rfl, fun _ _ => by kernel_rfl⟩
  mExt := ⟨fun _ _ => by kernel_rfl, fun _ _ => by kernel_rfl⟩
  mDec := ⟨fun _ _ => by kernel_rfl, fun _ _ => by kernel_rfl⟩
  mDel := ⟨fun _ _ => by kernel_rfl, fun _ _ => by kernel_rfl⟩
  mMeld := ⟨fun _ _ => by kernel_rfl, fun _ _ => by kernel_rfl⟩
  mSteps := ⟨fun w h => lm_steps h, fun _ _ => by kernel_rfl⟩
  mEntry := ⟨fun w h => lm_prom h (by kernel_rfl), fun _ _ => by kernel_rfl⟩
  mHome := ⟨fun w h => lm_prom h (by kernel_rfl), fun _ _ => by kernel_rfl⟩
  mHas := ⟨fun w h => lm_prom h (by kernel_rfl), fun _ _ => by kernel_rfl⟩
  mLen := ⟨fun w h => lm_prom h (by kernel_rfl), fun _ _ => by kernel_rfl⟩
/-- The steps of a call, against how many there may be. -/
theorem left_most (n m : Nat) (h : n ≤ m) (hm : m ≤ 131072) : ((2 * Lib.bitLen n + 8 : Nat) : Int) ≤ limitI 6 0 ((m : Int) + 1) := by
  have hc : callI 6 0 = 4 := rfl
  have hn : nearI ((m : Int) + 1) = ((m + 1 : Nat) : Int) := by unfold nearI; rw [if_neg (by omega), if_neg (by omega)]; omega
  have hb := bitLen_mono (a := n) (b := m + 1) (by omega) (by omega)
  unfold limitI bitsI
  rw [hc, hn, Int.toNat_natCast]
  omega
theorem left_limit {W : WS} {k y x : Int} {g g' : Int × (Nat → Tr)} (hf : W.Fit) (h : leftR W k y x g g') : g.1 ≤ g'.1 ∧ g'.1 ≤ g.1 + mostW 6 0 false W k y x := by
  obtain ⟨h0, h1, h2, h3, h4, h5, h6⟩ := h
  have hl : ∀ z, lenW W z ≤ 65536 := fun z => Nat.le_trans (len_le W z) hf.cap
  refine ⟨h0, ?_⟩
  have eM : mostW 6 0 false W k y x = limitI 6 0 (sizeA W k y x + sizeB W k x + 1) := by unfold mostW; rw [if_neg (fun h => by cases h.2)]
  rw [eM]
  by_cases e6 : k = 6
  · have hb := h5 e6
    have eA : sizeA W k y x = lenW W y := by simp [sizeA, e6]
    have eB : sizeB W k x = lenW W x := by simp [sizeB, e6]
    rw [eA, eB, ← Int.natCast_add]
    have a1 := left_most (lenW W y) (lenW W y + lenW W x) (by omega) (by have := hl y; have := hl x; omega)
    have a2 := left_most (lenW W x) (lenW W y + lenW W x) (by omega) (by have := hl y; have := hl x; omega)
    omega
  · have eB : sizeB W k x = 0 := by simp [sizeB, e6]
    have eA : sizeA W k y x = lenW W (heapOf W k y x) := by simp [sizeA, e6]
    rw [eA, eB, Int.add_zero]
    obtain ⟨l0, _⟩ := limit_range 6 0 ((lenW W (heapOf W k y x) : Int) + 1)
    by_cases e45 : k = 4 ∨ k = 5
    · obtain ⟨g1, g2⟩ := h4 e45
      cases hin : inW W x
      · rw [g1 hin]; omega
      · have eH : heapOf W k y x = (cellW W x).home := by simp [heapOf, e45, hin]
        rw [eH] at l0 ⊢
        have := left_most (lenW W (cellW W x).home) (lenW W (cellW W x).home) (Nat.le_refl _) (by have := hl (cellW W x).home; omega)
        omega
    · have eH : heapOf W k y x = y := by simp [heapOf, e45]
      rw [eH] at l0 ⊢
      have := left_most (lenW W y) (lenW W y) (Nat.le_refl _) (by have := hl y; omega)
      by_cases e1 : k = 1
      · have := h2 e1; omega
      · by_cases e3 : k = 3
        · have := h3 e3; omega
        · by_cases e0 : k = 0 ∨ k = 2
          · rw [h1 e0]; omega
          · rw [h6 (by omega)]; omega
end Go.Proofs.Ythjelmbicnbhiaa
