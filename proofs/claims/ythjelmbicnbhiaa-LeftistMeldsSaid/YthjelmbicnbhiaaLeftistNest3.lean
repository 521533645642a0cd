/- Merged of LeftistNest2, LeftistNest3. -/
import Derived.Test.YthjelmbicnbhiaaLeftistNest
import Derived.Test.YthjelmbicnbhiaaNestNum
namespace Go.Proofs.Ythjelmbicnbhiaa
open Go.RowKit Go.Sort

theorem lput_len (W : WS) (y x k q : Int) : (putW W y x k q).cells.length = W.cells.length := by
  unfold putW; split
  · simp
  · rfl
theorem ldrop_len (W : WS) (x : Int) : (dropW W x).cells.length = W.cells.length := by
  unfold dropW; split
  · simp
  · rfl
theorem llower_len (W : WS) (x k q : Int) : (lowerW W x k q).cells.length = W.cells.length := by
  unfold lowerW; split
  · simp
  · rfl
theorem ljoin_len (W : WS) (a b : Int) : (joinW W a b).cells.length = W.cells.length := by
  unfold joinW; split
  · simp
  · rfl
/-- The way to the right is no longer than the heap has binary digits. -/
theorem lef_bits {t : Tr} (h : Tr.Lef t) {m : Nat} (hm : Tr.size t ≤ m) (hm2 : m ≤ 65536) : Tr.spine t ≤ Lib.bitLen m :=
  Tr.lef_spine h (Nat.lt_of_le_of_lt hm (lt_bits m (by omega)))
section
variable {w : World} {p c f t bm n : Nat} {v : Value} {W W' : WS} {s s' : Int} {F F0 : Nat → Prop} {L : List Hg} {R : List Int} {Ts : Nat → Tr}
theorem left_close {w' : World} (hs : Stage F w (leftParts p f c t bm v n W' s' L R Ts) w') (hF : ∀ b, F b → b < w.heap.size) (I : TInv W' Ts) (J : LefInv Ts L (rkL R)) (hR : R.length = n) (hn : W'.cells.length = n) : ∃ F', (Ob.leftist p c W' s' Ts).holds w' F' ∧ Moved F F' w w' := by
  obtain ⟨F', h1, m⟩ := hs.close hF
  have h2 := fo_fit (q := [_, _]) hs
  exact ⟨F', ⟨f, t, bm, v, n, L, R, I, J, hR, hn, h2.1, h2.2, h1⟩, m⟩
theorem stands_one {r : Int → Int} {x : Int} (h : upL L x = none ∧ ∀ sd, kidL L x sd = none) (hr : r x = 1) : Stands L r (.node x .nil .nil) :=
  ⟨⟨rfl, h.2 false, h.2 true⟩, ⟨by rw [hr]; rfl, trivial, trivial⟩, ⟨Nat.le_refl _, trivial, trivial⟩, fun y hy => by cases hy; exact h.1, by simp [Tr.slots]⟩
/-- A slot comes into a heap: what then stands. -/
theorem insert_inv {xi : Nat} {i : Nat} {k q : Int} (I : TInv W Ts) (J : LefInv Ts L (rkL R)) (hR : R.length = n) (hn : W.cells.length = n) (hB : putB W i xi = true) (hi : 1 ≤ i) :
    xi < n ∧ Two (putW W i xi k q) n L (R.set xi 1) (Ts i) (.node xi .nil .nil) ∧ ∀ {T : Tr} {L' : List Hg} {R' : List Int}, T.slots.Perm ((Ts i).slots ++ (Tr.node (xi : Int) .nil .nil).slots) → Tr.Ok (aheadW (putW W i xi k q)) T → Stands L' (rkL R') T → SameL ((Ts i).slots ++ (Tr.node (xi : Int) .nil .nil).slots) L L' (rkL (R.set xi 1)) (rkL R') →
      TInv (putW W i xi k q) (updT Ts i T) ∧ LefInv (updT Ts i T) L' (rkL R') := by
  obtain ⟨hnot, hok, hin, hinx, hfin⟩ := tinv_put (k := k) (s := q) I hB hi
  have hxn : xi < n := by
    have hB2 := hB
    simp only [putB, Bool.and_eq_true] at hB2
    obtain ⟨j, e, hj⟩ := slot_nat hB2.2.1
    omega
  have hal := J.alone xi hnot
  have hS : SameL [(xi : Int)] L L (rkL R) (rkL (R.set xi 1)) := ⟨fun _ _ _ => rfl, fun _ _ => rfl, fun z hz => by rw [rk_set hR hxn, if_neg (fun e => hz (by simp [e]))]⟩
  have hx1 : (Tr.node (xi : Int) .nil .nil).slots = [(xi : Int)] := rfl
  refine ⟨hxn, ⟨by rw [List.length_set]; exact hR, by rw [lput_len]; exact hn, (J.all i).same hS (fun z hz hm => hnot i (by simp only [List.mem_singleton] at hm; rw [← hm]; exact hz)), stands_one hal (by rw [rk_set hR hxn, if_pos rfl]), hok, ⟨fun _ h => (by cases h), fun _ h => (by cases h), trivial, trivial⟩, fun z hz hm => hnot i (by rw [hx1, List.mem_singleton] at hm; rw [← hm]; exact hz), fun z hz => ?_⟩, fun {T} {L'} {R'} hp hk hT hS2 => ⟨hfin T hk (by rw [hx1] at hp; exact hp), ?_⟩⟩
  · rcases List.mem_append.1 hz with h | h
    · exact hin z h
    · rw [hx1, List.mem_singleton] at h; rw [h]; exact hinx
  · refine J.upd i ((hS.mono fun z hz => ?_).trans hS2) hT (fun g hg z hz hm => ?_) (fun z hz => Or.inl (hp.mem_iff.2 hz)) (fun z hz => List.mem_append_left _ hz)
    · exact List.mem_append_right _ hz
    · rcases List.mem_append.1 hm with h | h
      · exact hg (I.one hz h)
      · rw [hx1, List.mem_singleton] at h; exact hnot g (by rw [← h]; exact hz)
set_option maxRecDepth 100000 in
theorem insert_le (y x k q : Int) (h : (Ob.leftist p c W s Ts).holds w F) : Calls Try.prog 30 #[.pointer (some ⟨p, 0, none⟩), .int .i64 y, .int .i64 x, .agg #[.int .i64 k, .int .u64 q]] w fun e w' => e = .returned (.bool (putB W y x)) ∧ ∃ (s' : Int) (Ts' : Nat → Tr), (s ≤ s' ∧ (putB W y x = false → s' = s) ∧ s' ≤ s + (Lib.bitLen (lenW W y) + 1 : Nat) ∧ (putB W y x = true → 0 < lenW W y → 0 < s') ∧ (putB W y x = true → ∃ T, Ts' = updT Ts y.toNat T ∧ (Ts y.toNat = .nil → T = .node x .nil .nil) ∧ Exact (putW W y x k q) (Ts y.toNat) (.node x .nil .nil) T)) ∧ ∃ F', (Ob.leftist p c (putW W y x k q) s' Ts').holds w' F' ∧ Moved F F' w w' := by
  have hF := (Ob.leftist p c W s Ts).lt h
  obtain ⟨f, t, bm, v, n, L, R, I, J, hR, hn, hf, _, hg⟩ := h
  have hs := Ob.group.open hg
  clear hg
  obtain ⟨w0, hw0, hs0⟩ : ∃ w0, w.alloc (.cells #[.int .i64 k, .int .u64 q] 62) = w0 ∧ Stage F w (leftParts p f c t bm v n W s L R Ts ++ [Ob.box w.heap.size #[.int .i64 k, .int .u64 q] 62]) w0 := ⟨_, rfl, hs.alloc _ _⟩
  have hC := hs0.drew.call 1 rfl (fun _ ho => put_cl y x k q ho)
  have b0 := hs0.cell 6 rfl (o := 0) rfl
  have b1 := hs0.cell 6 rfl (o := 1) rfl
  have p0 := hs0.cell 4 rfl (o := 0) rfl
  cases hB : putB W y x
  · have eW : putW W y x k q = W := by simp [putW, hB]
    rw [hB, eW] at hC
    rw [eW]
    clear hs
    go_enter Try.func30, Try.ntmps30
    go_wp2_with fail
    go_still_tail 7, (by kernel_rfl)
    change wpList _ _ _ _ _ w0.drew
    go_wp2_with fail
    refine hC.mono ?_
    rintro e w1 ⟨rfl, hs1⟩
    have hs2 : Stage F w (leftParts p f c t bm v n W s L R Ts) w1 := hs1.take 6
    go_wp2_with fail
    go_ret
    exact ⟨rfl, s, _, ⟨Int.le_refl _, fun _ => rfl, by omega, fun e => by simp at e, fun e => by simp at e⟩, left_close hs2 hF I J hR hn⟩
  · obtain ⟨i, rfl, hi1, hi2⟩ : ∃ i : Nat, y = i ∧ 1 ≤ i ∧ i < 65537 := by
      have hB2 := hB
      simp only [putB, Bool.and_eq_true] at hB2
      obtain ⟨i, rfl, h1, h2, _⟩ := has_nat hB2.1
      have := hf.len
      exact ⟨i, rfl, h1, by omega⟩
    obtain ⟨xi, rfl⟩ : ∃ xi : Nat, x = xi := by
      have hB2 := hB
      simp only [putB, Bool.and_eq_true] at hB2
      obtain ⟨j, e, _⟩ := slot_nat hB2.2.1
      exact ⟨j, e⟩
    obtain ⟨hxn, H2, hfin⟩ := insert_inv (k := k) (q := q) I J hR hn hB hi1
    have hsz := I.size i hi1
    have hle := Nat.le_trans (len_le W i) hf.cap
    have hbits := lef_bits (J.all i).lef (Nat.le_of_eq hsz) hle
    have hnil := I.empty hi1
    have hnW : (putW W i xi k q).cells.length = n := by rw [lput_len]; exact hn
    rw [hB] at hC
    clear hs
    generalize hW1 : putW W i xi k q = W1 at *
    clear hW1
    go_enter Try.func30, Try.ntmps30
    go_wp2_with fail
    go_still_tail 7, (by kernel_rfl)
    change wpList _ _ _ _ _ w0.drew
    go_wp2_with fail
    refine hC.mono ?_
    rintro e w1 ⟨rfl, hs1⟩
    have hs2 : Stage F w (leftParts p f c t bm v n W1 s L R Ts) w1 := hs1.take 6
    clear hs1 hC b0 b1 p0 hw0 hs0
    have p1 := le_p1 hs2
    have hP := plant_st (q := [_, _]) hs2 hR xi hxn
    go_wp2_with fail
    refine hP.mono ?_
    rintro e w2 ⟨rfl, hs3⟩
    replace hs3 : Stage F w (leftParts p f c t bm v n W1 s L (R.set xi 1) Ts) w2 := hs3
    clear hP hs2 p1
    have hA := add_le hs3 hi2 rfl H2
    go_wp2_with fail
    refine hA.mono ?_
    rintro e w3 ⟨T, L', R', s', rfl, m1, m2, m3, m4, m5, ⟨m6, m7, m8, m9⟩, m10, m11, hs4⟩
    clear hA hs3 H2
    obtain ⟨I3, J3⟩ := hfin m2 m3 m4 m5
    have hst : s ≤ s' ∧ (true = false → s' = s) ∧ s' ≤ s + (Lib.bitLen (lenW W i) + 1 : Nat) ∧ (true = true → 0 < lenW W i → 0 < s') := ⟨m6, fun e => (by cases e), by
      have : Tr.spine (Tr.node (xi : Int) .nil .nil) = 1 := rfl
      rw [this] at m7
      omega, fun _ h => m9 fun e => by have := hnil.1 e; omega⟩
    replace hst := Lib.hid hst
    clear m2 m3 m4 m5 m6 m7 m8 m9 hfin hnil hbits hsz
    go_wp2_with fail
    go_ret
    exact ⟨rfl, s', _, ⟨hst.out.1, hst.out.2.1, hst.out.2.2.1, hst.out.2.2.2, fun _ => ⟨T, rfl, m10, m11⟩⟩, left_close hs4 hF I3 J3 m1 hnW⟩
theorem min_le (y : Int) (hy : inInt y) (h : (Ob.leftist p c W s Ts).holds w F) : Calls Try.prog 114 #[.pointer (some ⟨p, 0, none⟩), .int .i64 y] w fun e w' => e = .returned (.tuple #[.int .i64 (minI W y), .bool (minB W y)]) ∧ w = w' := by
  obtain ⟨f, t, bm, v, n, L, R, I, J, hR, hn, hf, _, hg⟩ := h
  have hs := Ob.group.open hg
  have hL := le_look hs y hy
  have p2 := le_p2 hs
  have e : topsT Ts y = if minB W y then some (minI W y) else none := by
    unfold topsT
    by_cases hp : 1 ≤ y
    · obtain ⟨k, rfl⟩ : ∃ k : Nat, y = k := ⟨y.toNat, by omega⟩
      rw [if_pos (by omega), Int.toNat_natCast]
      cases ht : (Ts k).top with
      | none =>
        have hnil : Ts k = .nil := by cases e : Ts k with
          | nil => rfl
          | node a b d => rw [e] at ht; cases ht
        obtain ⟨q1, q2⟩ := minI_none (min_none_iff.2 ((I.empty (by omega)).1 hnil))
        rw [q2]; rfl
      | some x =>
        obtain ⟨m, hm1, hm2⟩ := I.min ht
        obtain ⟨q1, q2⟩ := minI_some (min_of hm2)
        rw [q1, q2, hm1]; rfl
    · have hz : lenW W y = 0 := by simp [lenW, show ¬ 0 < y by omega]
      obtain ⟨q1, q2⟩ := minI_none (min_none_iff.2 hz)
      rw [q2]
      by_cases h0 : y = 0
      · subst h0; simp [I.zero, Tr.top]
      · rw [if_neg (by omega)]; rfl
  have e2 : (topsT Ts y).getD 0 = minI W y ∧ (topsT Ts y).isSome = minB W y := by
    rw [e]
    cases hb : minB W y
    · have : minI W y = 0 := by
        cases hm : minW W y with
        | none => exact (minI_none hm).1
        | some m => rw [(minI_some hm).2] at hb; cases hb
      rw [this]; exact ⟨rfl, rfl⟩
    · exact ⟨rfl, rfl⟩
  rw [e2.1, e2.2] at hL
  clear e e2 hs hg I J
  generalize minI W y = a at *
  generalize minB W y = b at *
  go_enter Try.func114, Try.ntmps114
  go_wp2_with fail
  exact bodyPost_ret (v := .tuple #[.int .i64 a, .bool b]) (by simp [results, Try.results114, go_sem]) rfl ⟨rfl, rfl⟩
end
end Go.Proofs.Ythjelmbicnbhiaa

namespace Go.Proofs.Ythjelmbicnbhiaa
open Go.RowKit Go.Sort

section
variable {w : World} {p c f t bm n : Nat} {v : Value} {W W' : WS} {s s' : Int} {F F0 : Nat → Prop} {L : List Hg} {R : List Int} {Ts : Nat → Tr}
/-- A slot comes out of its heap: what then stands. -/
theorem delete_inv {h : Nat} {z : List Fr} {x : Int} {l r M : Tr} {L' : List Hg} {R' : List Int} (I : TInv W Ts) (J : LefInv Ts L (rkL R)) (hT : Ts h = Tr.fillZ z (.node x l r)) (hp : M.slots.Perm (l.slots ++ r.slots)) (hk : Tr.Ok (aheadW W) M) (hS : Stands L' (rkL R') (Tr.lfillZ z M))
    (hx : upL L' x = none ∧ ∀ sd, kidL L' x sd = none) (hs : SameL (Tr.fillZ z (.node x l r)).slots L L' (rkL R) (rkL R')) : TInv (dropW W x) (updT Ts h (Tr.lfillZ z M)) ∧ LefInv (updT Ts h (Tr.lfillZ z M)) L' (rkL R') := by
  have hp1 := Tr.fillZ_perm z (.node x l r)
  have hp2 := Tr.lfillZ_perm z M
  have hperm : (x :: (Tr.lfillZ z M).slots).Perm (Ts h).slots := by
    rw [hT]
    rw [List.perm_iff_count] at *
    intro y
    have h1 := hp1 y
    have h2 := hp2 y
    have h3 := hp y
    simp only [Tr.slots, List.count_append, List.count_cons] at h1 h2 h3 ⊢
    omega
  have hxm : x ∈ (Ts h).slots := hperm.mem_iff.1 (by simp)
  have hok : Tr.Ok (aheadW W) (Tr.lfillZ z M) := by
    have h1 := I.ok h
    rw [hT] at h1
    exact Tr.lfillZ_ok h1 (fun y hy => by rw [Tr.slots]; exact List.mem_cons_of_mem _ (hp.mem_iff.1 hy)) hk
  refine ⟨tinv_drop I hxm _ hok hperm, J.upd h hs hS (fun g hg y hy hm => hg ?_) (fun y hy => ?_) (fun y hy => by rw [hT] at hy; exact hy)⟩
  · rw [← hT] at hm; exact I.one hy hm
  · rw [← hT] at hy
    rcases List.mem_cons.1 (hperm.mem_iff.2 hy) with e | e
    · right; rw [e]; exact hx
    · exact Or.inl e
set_option maxRecDepth 100000 in
set_option maxHeartbeats 2000000 in
theorem delete_le (x : Int) (h : (Ob.leftist p c W s Ts).holds w F) : Calls Try.prog 110 #[.pointer (some ⟨p, 0, none⟩), .int .i64 x] w fun e w' => e = .returned (.bool (inW W x)) ∧ ∃ (s' : Int) (Ts' : Nat → Tr), (s ≤ s' ∧ (inW W x = false → s' = s) ∧ s' ≤ s + (2 * Lib.bitLen (lenW W (cellW W x).home) : Nat)) ∧ ∃ F', (Ob.leftist p c (dropW W x) s' Ts').holds w' F' ∧ Moved F F' w w' := by
  have hF := (Ob.leftist p c W s Ts).lt h
  obtain ⟨f, t, bm, v, n, L, R, I, J, hR, hn, hf, _, hg⟩ := h
  have hs := Ob.group.open hg
  clear hg
  have hH := hs.call 1 rfl (fun _ ho => home_cl x ho)
  have p0 := le_p0 hs
  cases hB : inW W x
  · have eW : dropW W x = W := by simp [dropW, hB]
    rw [hB] at hH
    rw [eW]
    generalize ((cellW W x).home : Int) = hh at *
    go_enter Try.func110, Try.ntmps110
    go_wp2_with fail
    refine hH.mono ?_
    rintro e w1 ⟨rfl, hs1⟩
    have hs2 : Stage F w (leftParts p f c t bm v n W s L R Ts) w1 := hs1
    go_wp2_with fail
    go_ret
    exact ⟨rfl, s, _, ⟨Int.le_refl _, fun _ => rfl, by omega⟩, left_close hs2 hF I J hR hn⟩
  · obtain ⟨k, hk⟩ : ∃ k, k = (cellW W x).home := ⟨_, rfl⟩
    obtain ⟨hk1, hm⟩ := I.home hB
    rw [← hk] at hk1 hm
    have hnn : Ts k ≠ .nil := fun e => by rw [e] at hm; simp [Tr.slots] at hm
    obtain ⟨_, hk2⟩ := I.keyLt hf hnn
    rw [← hk] at hH ⊢
    obtain ⟨z, l, r, hT⟩ := Tr.zip_ex hm
    have hSt := J.all k
    have hokT := I.ok k
    have hinT : ∀ y ∈ (Tr.fillZ z (.node x l r)).slots, inW W y = true := fun y hy => by rw [← hT] at hy; exact (I.in' hy).2.2.1
    rw [hT] at hSt hokT
    have hle := Nat.le_trans (len_le W k) hf.cap
    have hsz := I.size k hk1
    have hnd := hSt.nodup
    have hszl : Tr.size l + Tr.size r + 1 ≤ lenW W k := by
      have h1 := (Tr.fillZ_perm z (.node x l r)).length_eq
      rw [List.length_append, Tr.size_slots, Tr.size_slots, ← hT, hsz] at h1
      have h2 : Tr.size (.node x l r) = Tr.size l + Tr.size r + 1 := rfl
      omega
    have hlef : Tr.Lef (.node x l r) := Tr.lefZ hSt.lef
    have hb1 := lef_bits hlef.2.1 (m := lenW W k) (by omega) hle
    have hb2 := lef_bits hlef.2.2 (m := lenW W k) (by omega) hle
    have hdinv := fun {M L' R'} => delete_inv (h := k) (z := z) (x := x) (l := l) (r := r) (M := M) (L' := L') (R' := R') I J hT
    have hnD : (dropW W x).cells.length = n := by rw [ldrop_len]; exact hn
    have hx64 := in_int64 hf hB
    rw [hB] at hH
    clear hs hk hsz hszl
    have htop : ∀ wx L' R' s', Stage F w (leftParts p f c t bm v n W s' L' R' Ts) wx → (Instr.lookup 30 (.map (some bm)) (.int .i64 k) false).run Try.prog wx = .ok (.int .i64 (((Ts k).top).getD 0)) wx := fun wx L' R' s' h' => by
      have := le_look1 h' k ⟨by omega, by omega⟩
      rw [topsT_nat] at this; exact this
    go_enter Try.func110, Try.ntmps110
    go_wp2_with fail
    refine hH.mono ?_
    rintro e w1 ⟨rfl, hs1⟩
    have hs2 : Stage F w (leftParts p f c t bm v n W s L R Ts) w1 := hs1
    clear hs1 hH p0
    have p1 := le_p1 hs2
    have hRm := remove_st (q := [_, _]) hs2 hR hn hSt hokT hinT
    go_wp2_with fail
    refine hRm.mono ?_
    rintro e w2 ⟨M, L', R', s', rfl, m1, m2, m3, m4, m5, m6, m7, hs3⟩
    replace hs3 : Stage F w (leftParts p f c t bm v n W s' L' R' Ts) w2 := hs3
    clear hRm hs2 p1
    obtain ⟨I3, J3⟩ := hdinv m2 m3 m4 m5 m6
    have p2 := le_p2 hs3
    have hlk := htop _ _ _ _ hs3
    have hst := Lib.hid (show s ≤ s' ∧ (true = false → s' = s) ∧ s' ≤ s + (2 * Lib.bitLen (lenW W k) : Nat) from ⟨m7.1, fun e => (by cases e), by omega⟩)
    clear htop m2 m3 m4 m5 m6 m7 hdinv hb1 hb2
    have hD := fun (w4 : World) (Ts' : Nat → Tr) (h4 : Stage F w (leftParts p f c t bm v n W s' L' R' Ts') w4) => h4.call 1 rfl (fun _ ho => drop_cl x ho)
    rw [hB] at hD
    cases z with
    | nil =>
      have et : (Ts k).top = some x := by rw [hT]; rfl
      rw [et] at hlk
      replace hlk : (Instr.lookup 30 (.map (some bm)) (.int .i64 k) false).run Try.prog w2 = .ok (.int .i64 x) w2 := hlk
      have hn1 := Lib.hid (cntT_del Ts hk2)
      have hf1 := Lib.hid (show setZ (topsT Ts) k none = topsT (updT Ts k .nil) by rw [topsT_upd]; rfl)
      generalize hmv : M.top.getD 0 = mv
      generalize hmb : M.top.isSome = mb
      replace hmv := Lib.hid hmv
      replace hmb := Lib.hid hmb
      clear et hSt hokT hinT hnd hlef
      go_wp2_with (at_delete; refine Stage.wp_deleteZL (cntT (updT Ts k .nil)) (topsT (updT Ts k .nil)) hs3 5 rfl rfl _ _ rfl Try.underlying30 Try.underlying3 rfl k rfl ⟨by omega, by omega⟩ hn1 hf1 ?_)
      intro w3 hs4
      replace hs4 : Stage F w (leftParts p f c t bm v n W s' L' R' (updT Ts k .nil)) w3 := hs4
      clear hs3 hlk p2
      cases mb
      · obtain rfl : M = .nil := by cases M with
          | nil => rfl
          | node a b d => have := hmb.out; cases this
        replace hD := hD _ _ hs4
        have p0 := le_p0 hs4
        go_wp2_with fail
        refine hD.mono ?_
        rintro e w4 ⟨rfl, hs5⟩
        have hs6 : Stage F w (leftParts p f c t bm v n (dropW W x) s' L' R' (updT Ts k .nil)) w4 := hs5
        go_wp2_with fail
        go_ret
        exact ⟨rfl, s', _, hst.out, left_close hs6 hF I3 J3 m1 hnD⟩
      · have hmt : M.top = some mv := by
          cases e : M.top with
          | none => have := hmb.out; rw [e] at this; cases this
          | some a => have := hmv.out; rw [e] at this; exact congrArg some this
        have hMin : inW W mv = true := by
          have h1 := (I3.in' (h := k) (x := mv) (by rw [updT_at]; exact Tr.top_in hmt)).2.2.1
          unfold inW at h1 ⊢
          by_cases e : mv = x
          · rw [e]; exact hB
          · obtain ⟨x', e1, hx1, _⟩ := in_nat hB
            have e2 : dropW W x = ⟨W.heaps, W.cells.set x' .off⟩ := by rw [dropW, if_pos hB, e1]; rfl
            rw [e2, dcell_set W hx1, if_neg (by omega)] at h1
            exact h1
        have hm64 := in_int64 hf hMin
        have hcnt : cntT (updT Ts k .nil) < maxLen := by have := cntT_le (updT Ts k .nil); unfold maxLen; omega
        have euu : updT (updT Ts k .nil) k M = updT Ts k M := by
          funext i; unfold updT; split <;> rfl
        have hn2 := Lib.hid (cntT_put (updT Ts k .nil) hk2 (T := M) (by rw [hmt]; rfl))
        have hf2 := Lib.hid (show setZ (topsT (updT Ts k .nil)) k (some mv) = topsT (updT (updT Ts k .nil) k M) by rw [topsT_upd (updT Ts k .nil) k M, hmt])
        rw [euu] at hn2 hf2
        have p2 := le_p2 hs4
        clear hmt hMin euu hmb hmv
        go_wp2_with (at_mapUpdate; refine Stage.wp_putZL (cntT (updT Ts k M)) (topsT (updT Ts k M)) hs4 5 rfl rfl _ _ _ rfl Try.underlying30 Try.underlying3 Try.underlying3 hcnt rfl k mv rfl rfl ⟨by omega, by omega⟩ hm64 hn2 hf2 ?_)
        intro w4 hs5
        replace hs5 : Stage F w (leftParts p f c t bm v n W s' L' R' (updT Ts k M)) w4 := hs5
        replace hD := hD _ _ hs5
        have p0 := le_p0 hs5
        clear hs4 p2
        go_wp2_with fail
        refine hD.mono ?_
        rintro e w5 ⟨rfl, hs6⟩
        have hs7 : Stage F w (leftParts p f c t bm v n (dropW W x) s' L' R' (updT Ts k M)) w5 := hs6
        go_wp2_with fail
        go_ret
        exact ⟨rfl, s', _, hst.out, left_close hs7 hF I3 J3 m1 hnD⟩
    | cons g z =>
      obtain ⟨y, hy1, hy2⟩ := Tr.zip_top_in z g (.node x l r)
      have hyx : (y == x) = false := by
        obtain ⟨_, _, _, hap⟩ := frame_out hnd
        rw [beq_eq_false_iff_ne]
        intro e
        exact hap x (by simp [Tr.slots]) (by rw [← e]; exact hy1)
      have et : (Ts k).top = some y := by rw [hT]; exact hy2
      rw [et] at hlk
      replace hlk : (Instr.lookup 30 (.map (some bm)) (.int .i64 k) false).run Try.prog w2 = .ok (.int .i64 y) w2 := hlk
      have hsame := tops_same Ts (h := k) (T := Tr.lfillZ (g :: z) M) (by rw [hT]; exact Tr.lfillZ_top z g M _)
      have hs4 : Stage F w (leftParts p f c t bm v n W s' L' R' (updT Ts k (Tr.lfillZ (g :: z) M))) w2 := by
        unfold leftParts
        rw [hsame.1, hsame.2]
        exact hs3
      replace hD := hD _ _ hs4
      have p0 := le_p0 hs4
      generalize hmv : M.top.getD 0 = mv
      generalize hmb : M.top.isSome = mb
      clear hmv hmb et hSt hokT hinT hnd hlef hs3 hs4 hsame hT hy2
      go_wp2_with fail
      refine hD.mono ?_
      rintro e w4 ⟨rfl, hs5⟩
      have hs6 : Stage F w (leftParts p f c t bm v n (dropW W x) s' L' R' (updT Ts k (Tr.lfillZ (g :: z) M))) w4 := hs5
      go_wp2_with fail
      go_ret
      exact ⟨rfl, s', _, hst.out, left_close hs6 hF I3 J3 m1 hnD⟩
end
end Go.Proofs.Ythjelmbicnbhiaa
