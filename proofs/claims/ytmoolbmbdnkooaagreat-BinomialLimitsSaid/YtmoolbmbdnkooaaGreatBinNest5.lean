/- What the calls of a nest of binomial heaps return, and what then is: Decrease, Meld, New. -/
import Derived.Test.YtmoolbmbdnkooaaGreatBinNest4
namespace Go.Proofs.YtmoolbmbdnkooaaGreat
open Go.RowKit Go.Sort

section
variable {F0 F : Nat → Prop} {W0 w : World} {p f c t bm n k : Nat} {W : WS} {s : Int} {K : Int → List Int} {R : Nat → List Int} {vs : Nat → Value} {q : List Ob} {l A0 : List Int} {h gb cv m : Nat} {x : Int}
theorem Stage.braise (hn : n ≤ 65536) (hm : l.length = m) (J0 : LiftJ W n R h x A0 K l A0) (low : ∀ y ∈ K x, aheadW W y x = false) (hx : (cellW W x).home = h) (hs : Stage F0 W0 ((binF f c t n W s K ++ [Ob.ints (.slice (some ⟨gb, 0, none⟩) m cv) l]) ++ q) w) :
    Calls Tryz.prog 101 #[.pointer (some ⟨f, 0, none⟩), .slice (some ⟨gb, 0, none⟩) m cv, .int .i64 x] w fun e w' => e = .returned (.tuple #[]) ∧ ∃ K' l' s', BinAll W n K' (updI R h l') ∧ (s ≤ s' ∧ s' ≤ s + A0.length) ∧ l'.length = m ∧ Stage F0 W0 ((binF f c t n W s' K' ++ [Ob.ints (.slice (some ⟨gb, 0, none⟩) m cv) l']) ++ q) w' :=
  (hs.frameEx (α := (Int → List Int) × List Int × Int)
    (Post := fun x' e => e = .returned (.tuple #[]) ∧ BinAll W n x'.1 (updI R h x'.2.1) ∧ (s ≤ x'.2.2 ∧ x'.2.2 ≤ s + A0.length) ∧ x'.2.1.length = m)
    (l' := fun x' => binF f c t n W x'.2.2 x'.1 ++ [Ob.ints (.slice (some ⟨gb, 0, none⟩) m cv) x'.2.1])
    fun _ _ h => (raise_one hn hm J0 low hx h).mono fun _ _ ⟨he, K', l', s', h1, h2, h3, h4⟩ => ⟨(K', l', s'), ⟨he, h1, h2, h3⟩, h4⟩).mono
  fun _ _ ⟨x', ⟨he, h1, h2, h3⟩, h4⟩ => ⟨he, x'.1, x'.2.1, x'.2.2, h1, h2, h3, h4⟩
/-- A row that was turned where it lies, laid back. -/
theorem bback_turned {v : Value} {r : List Int} (hR : R k ≠ []) (hr : r ≠ []) (hv : v = vs k) (h : Stage F0 W0 (binParts p f c t bm n W s K (rowsM R vs) (updO (rowsF R vs) k Ob.none) ++ [Ob.ints v r]) w) : Stage F0 W0 (binParts p f c t bm n W s K (rowsM (updI R k r) vs) (rowsF (updI R k r) vs)) w := by
  have h1 := h.push 5 rfl k (upd_same _ _ _)
  have e1 : rowsM (updI R k r) vs = rowsM R vs := by
    funext i
    unfold rowsM updI
    by_cases e : 0 ≤ i ∧ i.toNat = k
    · simp [e.1, e.2, hR, hr]
    · by_cases e2 : 0 ≤ i
      · have : i.toNat ≠ k := fun e3 => e ⟨e2, e3⟩
        simp [this]
      · simp [e2]
  have e2 : updO (updO (rowsF R vs) k Ob.none) k (Ob.ints v r) = rowsF (updI R k r) vs := by
    rw [upd_upd]
    funext i
    unfold updO rowsF updI
    by_cases e : i = k
    · subst e
      simp [rowG, hr, hv]
    · simp [e]
  rw [e1, ← e2]
  exact h1
/-- A second heap's row in hand. -/
theorem btakeG {g : Nat → Ob} (h : Stage F0 W0 (binParts p f c t bm n W s K (rowsM R vs) g ++ q) w) (k : Nat) (hg : g k = rowsF R vs k) :
    ∃ a cv, (rowsM R vs k).getD (.slice none 0 0) = .slice a (R k).length cv ∧ Stage F0 W0 ((binParts p f c t bm n W s K (rowsM R vs) (updO g k Ob.none) ++ q) ++ [Ob.ints (.slice a (R k).length cv) (R k)]) w := by
  by_cases e : R k = []
  · have e1 : rowsM R vs k = none := by simp [rowsM, e]
    have e2 : updO g k Ob.none = g := by
      funext i
      unfold updO
      split
      · rename_i e3; subst e3; rw [hg]; simp [rowsF, rowG, e]
      · rfl
    refine ⟨none, 0, by rw [e1, e]; rfl, ?_⟩
    rw [e2, e]
    exact h.nilRow 0 3 1
  · have e1 : rowsM R vs k = some (vs k) := by simp [rowsM, e]
    have h1 := h.pull 5 rfl k
    have e2 : g k = Ob.ints (vs k) (R k) := by rw [hg]; simp [rowsF, rowG, e]
    rw [e2] at h1
    have hi : ((binParts p f c t bm n W s K (rowsM R vs) (updO g k Ob.none) ++ q) ++ [Ob.ints (vs k) (R k)])[(binParts p f c t bm n W s K (rowsM R vs) (updO g k Ob.none) ++ q).length]? = some (Ob.ints (vs k) (R k)) := by
      rw [List.getElem?_append_right (Nat.le_refl _), Nat.sub_self]; rfl
    obtain ⟨a, cv, ev, _, _⟩ := Stage.intsForm (l := (binParts p f c t bm n W s K (rowsM R vs) (updO g k Ob.none) ++ q) ++ [Ob.ints (vs k) (R k)]) h1 _ hi
    refine ⟨a, cv, by rw [e1, ← ev]; rfl, ?_⟩
    rw [← ev]
    exact h1
end
section
variable {w : World} {p c : Nat} {W : WS} {s : Int} {F : Nat → Prop}
set_option maxRecDepth 100000 in
set_option maxHeartbeats 2000000 in
theorem decrease_bn (x k q : Int) (h : (Ob.binom p c W s).holds w F) : Calls Tryz.prog 92 #[.pointer (some ⟨p, 0, none⟩), .int .i64 x, .agg #[.int .i64 k, .int .u64 q]] w fun e w' => e = .returned (.bool (lowerB W x k q)) ∧ ∃ s', (s ≤ s' ∧ (inW W x = false → s' = s) ∧ s' ≤ s + (Lib.bitLen (lenW W (cellW W x).home) : Nat)) ∧ ∃ F', (Ob.binom p c (lowerW W x k q) s').holds w' F' ∧ Moved F F' w w' := by
  have hF := (Ob.binom p c W s).lt h
  obtain ⟨f, t, bm, n, K, R, vs, A, hf, _, hg⟩ := h
  have hs := Ob.group.open hg
  clear hg
  obtain ⟨w0, hw0, hs0⟩ : ∃ w0, w.alloc (.cells #[.int .i64 k, .int .u64 q] 42) = w0 ∧ Stage F w (binParts p f c t bm n W s K (rowsM R vs) (rowsF R vs) ++ [Ob.box w.heap.size #[.int .i64 k, .int .u64 q] 42]) w0 := ⟨_, rfl, hs.alloc _ _⟩
  have hH := hs0.call 1 rfl (fun _ ho => home_cl x ho)
  have p0 := bn_p0 hs0
  have hn : n ≤ 65536 := (Stage.forestInv hs 0 rfl).2
  clear hs
  cases hB : inW W x
  · have eB : lowerB W x k q = false := by simp [lowerB, hB]
    have eW : lowerW W x k q = W := by simp [lowerW, eB]
    rw [hB] at hH
    rw [eB, eW]
    generalize ((cellW W x).home : Int) = hh at *
    clear eB eW
    go_enter Tryz.func92, Tryz.ntmps92
    go_wp2_with fail
    refine hH.mono ?_
    rintro e w1 ⟨rfl, hs1⟩
    have hs2 : Stage F w (binParts p f c t bm n W s K (rowsM R vs) (rowsF R vs)) w1 := hs1.take 6
    clear hH p0 hw0 hs0 hs1
    go_wp2_with fail
    go_quiet (fail)
    go_wp2_with fail
    go_ret
    exact ⟨rfl, s, ⟨Int.le_refl _, fun _ => rfl, by omega⟩, binom_close (hs2.drewN _) hF A⟩
  · rw [hB] at hH
    have hL := fun (w1 : World) (hs1 : Stage F w (binParts p f c t bm n W s K (rowsM R vs) (rowsF R vs) ++ [Ob.box w.heap.size #[.int .i64 k, .int .u64 q] 42]) w1) => hs1.drew.call 1 rfl (fun _ ho => lower_cl x k q ho)
    cases hlb : lowerB W x k q
    · have eW : lowerW W x k q = W := by simp [lowerW, hlb]
      rw [hlb, eW] at hL
      rw [eW]
      generalize ((cellW W x).home : Int) = hh at *
      clear eW
      go_enter Tryz.func92, Tryz.ntmps92
      go_wp2_with fail
      refine hH.mono ?_
      rintro e w1 ⟨rfl, hs1⟩
      clear hH p0 hw0 hs0
      replace hs1 : Stage F w (binParts p f c t bm n W s K (rowsM R vs) (rowsF R vs) ++ [Ob.box w.heap.size #[.int .i64 k, .int .u64 q] 42]) w1 := hs1
      replace hL := hL w1 hs1
      have b0 := hs1.cell 6 rfl (o := 0) rfl
      have b1 := hs1.cell 6 rfl (o := 1) rfl
      have p0 : w1.cell? ⟨p, 0, none⟩ = some (.pointer (some ⟨c, 0, none⟩)) := bn_p0 hs1
      go_wp2_with fail
      go_region_held3 (fun w' => w'.cell? ⟨w.heap.size, 0, none⟩ = some (.int .i64 k) ∧ w'.cell? ⟨w.heap.size, 1, none⟩ = some (.int .u64 q) ∧ w'.cell? ⟨p, 0, none⟩ = some (.pointer (some ⟨c, 0, none⟩))) (first | exact ⟨b0, b1, p0⟩ | exact ⟨b0p, b1p, p0p⟩ | simp [*])
        ((with_reducible refine hL.mono ?_; rintro e w2 ⟨rfl, hs2⟩; have b0p := hs2.cell 6 rfl (o := 0) rfl; have b1p := hs2.cell 6 rfl (o := 1) rfl; have p0p : w2.cell? ⟨p, 0, none⟩ = some (.pointer (some ⟨c, 0, none⟩)) := hs2.cell 3 rfl (o := 0) rfl))
      have hs3 : Stage F w (binParts p f c t bm n W s K (rowsM R vs) (rowsF R vs)) w2 := hs2.take 6
      go_wp2_with fail
      go_ret
      exact ⟨rfl, s, ⟨Int.le_refl _, fun _ => rfl, by omega⟩, binom_close hs3 hF A⟩
    · obtain ⟨i, hi⟩ : ∃ i, (cellW W x).home = i := ⟨_, rfl⟩
      obtain ⟨A0, hA0⟩ := anc_ex A.inv x
      obtain ⟨W1, hW1⟩ : ∃ W1, lowerW W x k q = W1 := ⟨_, rfl⟩
      obtain ⟨hin1, hi', hi1, J0, low, hR⟩ := A.lower hlb hW1 hi hA0
      obtain ⟨_, hi2⟩ := A.home.keyLt A.inv hf hR
      have hfew := anc_few A.inv A.home A.rows hB hA0 (len_bits hf _)
      obtain ⟨m, hm⟩ : ∃ m, (R i).length = m := ⟨_, rfl⟩
      have hm0 : 0 < m := by rw [← hm]; exact List.length_pos_iff.2 hR
      rw [hi] at hH hfew ⊢
      rw [hlb, hW1] at hL
      rw [hW1]
      clear hlb hW1
      go_enter Tryz.func92, Tryz.ntmps92
      go_wp2_with fail
      refine hH.mono ?_
      rintro e w1 ⟨rfl, hs1⟩
      clear hH p0 hw0 hs0
      replace hs1 : Stage F w (binParts p f c t bm n W s K (rowsM R vs) (rowsF R vs) ++ [Ob.box w.heap.size #[.int .i64 k, .int .u64 q] 42]) w1 := hs1
      replace hL := hL w1 hs1
      have b0 := hs1.cell 6 rfl (o := 0) rfl
      have b1 := hs1.cell 6 rfl (o := 1) rfl
      have p0 : w1.cell? ⟨p, 0, none⟩ = some (.pointer (some ⟨c, 0, none⟩)) := bn_p0 hs1
      go_wp2_with fail
      go_region_held3 (fun w' => w'.cell? ⟨w.heap.size, 0, none⟩ = some (.int .i64 k) ∧ w'.cell? ⟨w.heap.size, 1, none⟩ = some (.int .u64 q) ∧ w'.cell? ⟨p, 0, none⟩ = some (.pointer (some ⟨c, 0, none⟩))) (first | exact ⟨b0, b1, p0⟩ | exact ⟨b0p, b1p, p0p⟩ | simp [*])
        ((with_reducible refine hL.mono ?_; rintro e w2 ⟨rfl, hs2⟩; have b0p := hs2.cell 6 rfl (o := 0) rfl; have b1p := hs2.cell 6 rfl (o := 1) rfl; have p0p : w2.cell? ⟨p, 0, none⟩ = some (.pointer (some ⟨c, 0, none⟩)) := hs2.cell 3 rfl (o := 0) rfl))
      have hs3 : Stage F w (binParts p f c t bm n W1 s K (rowsM R vs) (rowsF R vs)) w2 := hs2.take 6
      clear hL hs1 hs2 b0 b1 p0 b0p b1p p0p
      have p1 := bn_p1 (q := []) hs3
      have p2 := bn_p2 (q := []) hs3
      have hlk := bn_look (q := []) hs3.drew (i : Int) ⟨by omega, by omega⟩
      obtain ⟨a, cv, ha1, ha2, hs4⟩ := btake hs3.drew i
      rw [ha1] at hlk
      obtain ⟨gb, cv', e9, _⟩ := hs4.intsAt 6 rfl (by omega)
      cases e9
      have hv := ha2 hR
      rw [hm] at hlk hs4 hv
      replace hv := Lib.hid hv
      have hRa := Stage.braise (q := [Ob.box p #[ptrV c, ptrV f, .map (some bm)] 38, Ob.vmap Tryz.prog 3 bm (rowsM R vs) 65537, Ob.fam (updO (rowsF R vs) i Ob.none)]) hn hm J0 low hi' (hs4.select [0, 1, 2, 6, 3, 4, 5] (by decide) rfl)
      clear hs3 hs4 ha1 ha2 J0 low A hA0
      go_wp2_with fail
      go_region_held3 (fun w' => w'.cell? ⟨p, 1, none⟩ = some (.pointer (some ⟨f, 0, none⟩)) ∧ w'.cell? ⟨p, 2, none⟩ = some (.map (some bm))) (first | exact ⟨p1, p2⟩ | exact pk | simp [*])
        (((with_reducible refine hRa.mono ?_); rintro e w3 ⟨rfl, K', l', s', hA2, hs12, hl', h7⟩; have pk : w3.cell? ⟨p, 1, none⟩ = some (.pointer (some ⟨f, 0, none⟩)) ∧ w3.cell? ⟨p, 2, none⟩ = some (.map (some bm)) := ⟨h7.cell 4 rfl rfl, h7.cell 4 rfl rfl⟩))
      have h8 := bback_turned hR (List.length_pos_iff.1 (by omega)) hv.out (h7.select [0, 1, 2, 4, 5, 6, 3] (by decide) rfl)
      clear h7 pk hRa hv
      go_wp2_with fail
      go_ret
      exact ⟨rfl, s', ⟨hs12.1, fun e => (by cases e), by omega⟩, binom_close h8 hF hA2⟩
theorem meld_fam {R : Nat → List Int} {vs : Nat → Value} {i j : Nat} (hne : i ≠ j) (r : List Int) (v u : Value) : updO (updO (updO (updO (rowsF R vs) i Ob.none) j Ob.none) i (rowG v r)) j (rowG u []) = rowsF (updI (updI R i r) j []) (updV (updV vs i v) j u) := by
  funext x
  unfold updO rowsF updI updV
  by_cases e1 : x = j
  · simp [e1]
  · by_cases e2 : x = i
    · simp [e2, hne]
    · simp [e1, e2]
set_option maxRecDepth 100000 in
set_option maxHeartbeats 2000000 in
theorem meld_bn (a b : Int) (h : (Ob.binom p c W s).holds w F) : Calls Tryz.prog 95 #[.pointer (some ⟨p, 0, none⟩), .int .i64 a, .int .i64 b] w fun e w' => e = .returned (.bool (joinBW W a b)) ∧ ∃ s', (s ≤ s' ∧ s' ≤ s + 2 * (Lib.bitLen (lenW W a + lenW W b) : Nat)) ∧ ∃ F', (Ob.binom p c (joinW W a b) s').holds w' F' ∧ Moved F F' w w' := by
  have hF := (Ob.binom p c W s).lt h
  obtain ⟨f, t, bm, n, K, R, vs, A, hf, _, hg⟩ := h
  have hs := Ob.group.open hg
  clear hg
  have hJ := hs.call 1 rfl (fun _ ho => join_cl a b ho)
  have p0 := bn_p0 (q := []) hs
  cases hB : joinBW W a b
  · have eW : joinW W a b = W := by simp [joinW, hB]
    rw [hB, eW] at hJ
    rw [eW]
    clear eW
    go_enter Tryz.func95, Tryz.ntmps95
    go_wp2_with fail
    refine hJ.mono ?_
    rintro e w1 ⟨rfl, hs1⟩
    have hs2 : Stage F w (binParts p f c t bm n W s K (rowsM R vs) (rowsF R vs)) w1 := hs1
    go_wp2_with fail
    go_ret
    exact ⟨rfl, s, ⟨Int.le_refl _, by omega⟩, binom_close hs2 hF A⟩
  · have hB2 := hB
    simp only [joinBW, Bool.and_eq_true, decide_eq_true_eq] at hB2
    obtain ⟨i, rfl, hi1, hi2, _⟩ := has_nat hB2.1
    obtain ⟨j, rfl, hj1, hj2, _⟩ := has_nat hB2.2.1
    have hfl := hf.len
    obtain ⟨W1, hW1⟩ : ∃ W1, joinW W i j = W1 := ⟨_, rfl⟩
    obtain ⟨hne, hap, hinL, hfin⟩ := A.meld hB hi1 hj1 hW1
    have hRi := A.rows i
    have hRj := A.rows j
    have hbits : lenW W i + lenW W j < 2 ^ Lib.bitLen (lenW W i + lenW W j) := below_bits _ (by have := len_le W i; have := len_le W j; have := hf.cap; omega)
    have hli := (A.home.rows A.inv hi1 hRi (Nat.lt_of_le_of_lt (Nat.le_add_right _ _) hbits)).1
    have hlj := (A.home.rows A.inv hj1 hRj (Nat.lt_of_le_of_lt (Nat.le_add_left _ _) hbits)).1
    rw [hB, hW1] at hJ
    rw [hW1]
    clear hs hW1 hB2
    go_enter Tryz.func95, Tryz.ntmps95
    go_wp2_with fail
    refine hJ.mono ?_
    rintro e w1 ⟨rfl, hs1⟩
    have hs2 : Stage F w (binParts p f c t bm n W1 s K (rowsM R vs) (rowsF R vs)) w1 := hs1
    clear hs1 hJ p0
    have p1 := bn_p1 (q := []) hs2
    have p2 := bn_p2 (q := []) hs2
    have hlk := bn_look (q := []) hs2.drew (i : Int) ⟨by omega, by omega⟩
    have hlk2 := bn_look (q := []) hs2.drew (j : Int) ⟨by omega, by omega⟩
    obtain ⟨a1, c1, ha1, hs3⟩ := btakeG (q := []) hs2.drew i rfl
    obtain ⟨a2, c2, ha2, hs4⟩ := btakeG (q := [Ob.ints (.slice a1 (R i).length c1) (R i)]) hs3 j (by unfold updO; rw [if_neg (fun e => hne e.symm)])
    rw [ha1] at hlk
    rw [ha2] at hlk2
    have hM := Stage.bmerge (q := [Ob.box p #[ptrV c, ptrV f, .map (some bm)] 38, Ob.vmap Tryz.prog 3 bm (rowsM R vs) 65537, Ob.fam (updO (updO (rowsF R vs) i Ob.none) j Ob.none)]) (hs4.select [0, 1, 2, 6, 7, 3, 4, 5] (by decide) rfl) hRi hRj hap hinL
    have hK := fun (w2 : World) (s' : Int) (K' : Int → List Int) (z : Option Addr) (mz cz : Nat) (r : List Int) (h2 : Stage F w ((binF f c t n W1 s' K' ++ [Ob.ints (.slice z mz cz) r]) ++ [Ob.box p #[ptrV c, ptrV f, .map (some bm)] 38, Ob.vmap Tryz.prog 3 bm (rowsM R vs) 65537, Ob.fam (updO (updO (rowsF R vs) i Ob.none) j Ob.none)]) w2) => keep_st (h2.select [0, 1, 2, 4, 5, 6, 3] (by decide) rfl) (k := i) (by omega) (by unfold updO; rw [if_neg hne, if_pos rfl])
    clear hs2 hs3 hs4 ha1 ha2 hRi hRj hap hinL A hbits
    generalize hlr1 : (R i).length = ln1 at *
    generalize hlr2 : (R j).length = ln2 at *
    replace hlr1 := Lib.hid hlr1
    replace hlr2 := Lib.hid hlr2
    go_wp2_with fail
    go_region_held3 (fun w' => w'.cell? ⟨p, 1, none⟩ = some (.pointer (some ⟨f, 0, none⟩)) ∧ w'.cell? ⟨p, 2, none⟩ = some (.map (some bm))) (first | exact ⟨p1, p2⟩ | exact pk | exact pk3 | simp [*])
      (first
      | (((with_reducible refine hM.mono ?_); rintro e w2 ⟨z, mz, cz, K', s', r, rfl, ⟨k', ⟨r', hl1, hl2⟩, hr3, hs1, hs2, hps⟩, h7⟩; have hKK := hK w2 s' K' z mz cz r h7; have pk : w2.cell? ⟨p, 1, none⟩ = some (.pointer (some ⟨f, 0, none⟩)) ∧ w2.cell? ⟨p, 2, none⟩ = some (.map (some bm)) := ⟨h7.cell 4 rfl rfl, h7.cell 4 rfl rfl⟩))
      | (((with_reducible refine hKK.mono ?_); rintro e w3 ⟨rfl, h8⟩; have pk3 : w3.cell? ⟨p, 1, none⟩ = some (.pointer (some ⟨f, 0, none⟩)) ∧ w3.cell? ⟨p, 2, none⟩ = some (.map (some bm)) := ⟨h8.cell 3 rfl rfl, h8.cell 3 rfl rfl⟩)))
    all_goals
      obtain ⟨hA2, hk2⟩ := hfin hl1 hl2 hr3
      have hst : s ≤ s' ∧ s' ≤ s + 2 * (Lib.bitLen (lenW W i + lenW W j) : Nat) := ⟨hs1, by omega⟩
      have hK2 := keep_st (v := .slice none 0 0) (r := []) (k := j) (h8.nilRow 0 3 1) (by omega) (by
        unfold updO
        rw [if_neg (fun e => hne e.symm), if_pos rfl])
      rw [rows_map, rows_map, meld_fam hne] at hK2
      clear hl1 hl2 hr3 hps hs1 hs2 hM hK hKK hfin hk2 h7 h8 pk pk3
      go_wp2_with fail
      refine hK2.mono ?_
      rintro e w4 ⟨rfl, h9⟩
      go_wp2_with fail
      go_ret
      exact ⟨rfl, s', hst, binom_close h9 hF hA2⟩
end
def newBinPost (w : World) (n : Nat) (e : Ending) (w' : World) : Prop := ∃ p c, e = .returned (.tuple #[.pointer (some ⟨p, 0, none⟩), .int .i64 0]) ∧ ∃ F', (Ob.binom p c (newW n) 0).holds w' F' ∧ (∀ k, F' k → w.heap.size ≤ k) ∧ Below w.heap.size w w'
theorem bnewForest_st {F0 : Nat → Prop} {W0 w : World} {c n : Nat} {W : WS} {s : Int} (h : Stage F0 W0 [Ob.cells c W s] w) (hn : W.cells.length = n) (hn2 : n ≤ 65536) : Calls Tryz.prog 14 #[.pointer (some ⟨c, 0, none⟩)] w fun e w' => ∃ f t, e = .returned (.tuple #[.pointer (some ⟨f, 0, none⟩), .int .i64 0]) ∧ Stage F0 W0 (binF f c t n W s (fun _ => [])) w' := by
  have hC := h.ask 0 rfl (fun _ ho => capacity_cl ho)
  rw [hn] at hC
  have hN := h.newForest n hn2
  go_enter Tryz.func14, Tryz.ntmps14
  go_wp2_with fail
  refine hC.mono ?_
  rintro e w1 ⟨rfl, rfl⟩
  clear hC
  go_wp2_with fail
  refine hN.mono ?_
  rintro e w1 ⟨t, rfl, hs1⟩
  clear hN h
  have hs2 := hs1.alloc #[ptrV c, ptrV t] 73
  have hs3 : Stage F0 W0 (binF w1.heap.size c t n W s (fun _ => [])) _ := hs2.select [1, 0, 2] (by decide) rfl
  clear hs1 hs2
  go_wp2_with fail
  exact bodyPost_ret (v := .tuple #[.pointer (some ⟨w1.heap.size, 0, none⟩), .int .i64 0]) (by simp [results, Tryz.results14, go_sem]) rfl ⟨_, t, rfl, hs3⟩
set_option maxRecDepth 100000 in
theorem new_bn (n : Nat) (hn : n ≤ 65536) (w : World) : Calls Tryz.prog 5 #[.int .i64 n] w (newBinPost w n) := by
  have hmm := @run_makeMap Tryz.prog
  have hC := new_cl n hn w
  go_enter Tryz.func5, Tryz.ntmps5
  go_wp2_with fail
  refine hC.mono ?_
  rintro e w1 ⟨c, rfl, F1, h1, h2, h3⟩
  have hs1 : Stage (fun _ => False) w [Ob.cells c (newW n) 0] w1 := (Stage.start w).add (O := Ob.cells c (newW n) 0) h3 h1 h2
  clear hC h1 h2 h3
  have hnl : (newW n).cells.length = n := by simp [newW]
  have hN := bnewForest_st hs1 hnl hn
  go_wp2_with fail
  refine hN.mono ?_
  rintro e w2 ⟨f, t, rfl, hs2⟩
  clear hN hs1
  have hs3 := hs2.newVMap Tryz.prog 3 65537 rfl
  have hz : (w2.alloc (.map #[] 0)).heap.size = w2.heap.size + 1 := size_alloc _ _
  have hs4 := hs3.alloc #[ptrV c, ptrV f, .map (some w2.heap.size)] 38
  rw [hz] at hs4
  have e1 : rowsM (fun _ => []) (fun _ => .slice none 0 0) = fun _ => none := by funext h; simp [rowsM]
  have hfam : (Ob.fam (rowsF (fun _ => []) (fun _ => .slice none 0 0))).holds ((w2.alloc (.map #[] 0)).alloc (.cells #[ptrV c, ptrV f, .map (some w2.heap.size)] 38)) (fun _ => False) :=
    ⟨fun b h => h.elim, fun _ _ => False, fun i => by (show (rowG _ []).holds _ _); unfold rowG; rw [if_pos rfl]; exact rfl, fun _ _ _ _ h => h.elim, fun _ _ h => h.elim⟩
  have hs5 : Stage (fun _ => False) w (binParts (w2.heap.size + 1) f c t w2.heap.size n (newW n) 0 (fun _ => []) (rowsM (fun _ => []) (fun _ => .slice none 0 0)) (rowsF (fun _ => []) (fun _ => .slice none 0 0))) ((w2.alloc (.map #[] 0)).alloc (.cells #[ptrV c, ptrV f, .map (some w2.heap.size)] 38)) := by
    have h6 := hs4.add (Below.refl _ _) hfam (fun _ h => h.elim)
    rw [e1]
    exact h6.select [0, 1, 2, 4, 3, 5] (by decide) rfl
  clear hs2 hs3 hs4 hfam
  go_wp2_with fail
  obtain ⟨F', g1, g2, g3⟩ := hs5.closeNew
  exact bodyPost_ret (v := .tuple #[.pointer (some ⟨w2.heap.size + 1, 0, none⟩), .int .i64 0]) (by simp [results, Tryz.results5, go_sem]) rfl ⟨_, c, rfl, F', ⟨f, t, w2.heap.size, n, _, _, _, binAll_new n, new_fitW hn, ⟨Int.le_refl _, by omega⟩, g1⟩, g2, g3⟩
theorem new_bn_no (n : Int) (w : World) (hn : ¬ (0 ≤ n ∧ n ≤ 65536)) : Calls Tryz.prog 5 #[.int .i64 n] w fun e w' => e = .returned (.tuple #[.pointer none, .int .i64 31]) ∧ w = w' := by
  go_enter Tryz.func5, Tryz.ntmps5
  go_wp2_with fail
  refine (new_no n w hn).mono ?_
  rintro e w1 ⟨rfl, rfl⟩
  go_wp2_with fail
  exact bodyPost_ret (v := .tuple #[.pointer none, .int .i64 31]) (by simp [results, Tryz.results5, go_sem]) rfl ⟨rfl, rfl⟩
end Go.Proofs.YtmoolbmbdnkooaaGreat
