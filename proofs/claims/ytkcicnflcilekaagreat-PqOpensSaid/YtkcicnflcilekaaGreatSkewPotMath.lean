/- Merged of LeftistNest2, LeftistNest3, LeftistNest4, LeftistNest5, LeftistNests, SkewMath, SkewPotMath. -/
import Derived.Test.YtkcicnflcilekaaGreatSpineRowMath
import Derived.Test.YtkcicnflcilekaaGreatLeftistNest
import Derived.Test.YtkcicnflcilekaaGreatPqHeld
import Derived.Test.YtkcicnflcilekaaGreatSiftRunsMath
import Derived.Deep.RegionHeld3
namespace Go.Proofs.YtkcicnflcilekaaGreat
open Go.RowKit Go.Sort

/-- The way to the right is no longer than the heap has binary digits. -/
theorem lef_bits {t : Tr} (h : Tr.Lef t) {m : Nat} (hm : Tr.size t ≤ m) (hm2 : m ≤ 65536) : Tr.spine t ≤ Lib.bitLen m :=
  Tr.lef_spine h (Nat.lt_of_le_of_lt hm (lt_bits m (by omega)))
section
variable {w : World} {p c f t bm n : Nat} {v : Value} {W W' : WS} {s s' : Int} {F F0 : Nat → Prop} {L : List Hg} {R : List Int} {Ts : Nat → Tr}
theorem left_close {w' : World} (hs : Stage F w (leftParts p f c t bm v n W' s' L R Ts) w') (hF : ∀ b, F b → b < w.heap.size) (I : TInv W' Ts) (J : LefInv Ts L (rkL R)) (hR : R.length = n) (hn : W'.cells.length = n) : ∃ F', (Ob.leftist p c W' s' Ts).holds w' F' ∧ Moved F F' w w' := by
  obtain ⟨F', h1, m⟩ := hs.close hF
  have h2 := fo_fit (q := [_, _]) hs
  exact ⟨F', ⟨f, t, bm, v, n, L, R, I, J, hR, hn, h2.1, h2.2, h1⟩, m⟩
theorem stands_one {r : Int → Int} {x : Int} (h : upL L x = none ∧ ∀ sd, kidL L x sd = none) (hr : r x = 1) : Stands L r (.node x .nil .nil) :=
  ⟨⟨rfl, h.2 false, h.2 true⟩, ⟨by rw [hr]; rfl, trivial, trivial⟩, ⟨Nat.le_refl _, trivial, trivial⟩, fun y hy => by cases hy; exact h.1, by simp [Tr.slots]⟩
/-- A slot comes into a heap: what then stands. -/
theorem insert_inv {xi : Nat} {i : Nat} {k q : Int} (I : TInv W Ts) (J : LefInv Ts L (rkL R)) (hR : R.length = n) (hn : W.cells.length = n) (hB : putB W i xi = true) (hi : 1 ≤ i) :
    xi < n ∧ Two (putW W i xi k q) n L (R.set xi 1) (Ts i) (.node xi .nil .nil) ∧ ∀ {T : Tr} {L' : List Hg} {R' : List Int}, T.slots.Perm ((Ts i).slots ++ (Tr.node (xi : Int) .nil .nil).slots) → Tr.Ok (aheadW (putW W i xi k q)) T → Stands L' (rkL R') T → SameL ((Ts i).slots ++ (Tr.node (xi : Int) .nil .nil).slots) L L' (rkL (R.set xi 1)) (rkL R') →
      TInv (putW W i xi k q) (updT Ts i T) ∧ LefInv (updT Ts i T) L' (rkL R') := by
  obtain ⟨hnot, hok, hin, hinx, hfin⟩ := tinv_put (k := k) (s := q) I hB hi
  have hxn : xi < n := by
    have hB2 := hB
    simp only [putB, Bool.and_eq_true] at hB2
    obtain ⟨j, e, hj⟩ := slot_nat hB2.2.1
    omega
  have hal := J.alone xi hnot
  have hS : SameL [(xi : Int)] L L (rkL R) (rkL (R.set xi 1)) := ⟨fun _ _ _ => rfl, fun _ _ => rfl, fun z hz => by rw [rk_set hR hxn, if_neg (fun e => hz (by simp [e]))]⟩
  have hx1 : (Tr.node (xi : Int) .nil .nil).slots = [(xi : Int)] := rfl
  refine ⟨hxn, ⟨by rw [List.length_set]; exact hR, by rw [lput_len]; exact hn, (J.all i).same hS (fun z hz hm => hnot i (by simp only [List.mem_singleton] at hm; rw [← hm]; exact hz)), stands_one hal (by rw [rk_set hR hxn, if_pos rfl]), hok, ⟨fun _ h => (by cases h), fun _ h => (by cases h), trivial, trivial⟩, fun z hz hm => hnot i (by rw [hx1, List.mem_singleton] at hm; rw [← hm]; exact hz), fun z hz => ?_⟩, fun {T} {L'} {R'} hp hk hT hS2 => ⟨hfin T hk (by rw [hx1] at hp; exact hp), ?_⟩⟩
  · rcases List.mem_append.1 hz with h | h
    · exact hin z h
    · rw [hx1, List.mem_singleton] at h; rw [h]; exact hinx
  · refine J.upd i ((hS.mono fun z hz => ?_).trans hS2) hT (fun g hg z hz hm => ?_) (fun z hz => Or.inl (hp.mem_iff.2 hz)) (fun z hz => List.mem_append_left _ hz)
    · exact List.mem_append_right _ hz
    · rcases List.mem_append.1 hm with h | h
      · exact hg (I.one hz h)
      · rw [hx1, List.mem_singleton] at h; exact hnot g (by rw [← h]; exact hz)
set_option maxRecDepth 100000 in
theorem insert_le (y x k q : Int) (h : (Ob.leftist p c W s Ts).holds w F) : Calls Tryz.prog 256 #[.pointer (some ⟨p, 0, none⟩), .int .i64 y, .int .i64 x, .agg #[.int .i64 k, .int .u64 q]] w fun e w' => e = .returned (.bool (putB W y x)) ∧ ∃ (s' : Int) (Ts' : Nat → Tr), (s ≤ s' ∧ (putB W y x = false → s' = s) ∧ s' ≤ s + (Lib.bitLen (lenW W y) + 1 : Nat) ∧ (putB W y x = true → 0 < lenW W y → 0 < s') ∧ (putB W y x = true → ∃ T, Ts' = updT Ts y.toNat T ∧ (Ts y.toNat = .nil → T = .node x .nil .nil) ∧ Exact (putW W y x k q) (Ts y.toNat) (.node x .nil .nil) T)) ∧ ∃ F', (Ob.leftist p c (putW W y x k q) s' Ts').holds w' F' ∧ Moved F F' w w' := by
  have hF := (Ob.leftist p c W s Ts).lt h
  obtain ⟨f, t, bm, v, n, L, R, I, J, hR, hn, hf, _, hg⟩ := h
  have hs := Ob.group.open hg
  clear hg
  obtain ⟨w0, hw0, hs0⟩ : ∃ w0, w.alloc (.cells #[.int .i64 k, .int .u64 q] 94) = w0 ∧ Stage F w (leftParts p f c t bm v n W s L R Ts ++ [Ob.box w.heap.size #[.int .i64 k, .int .u64 q] 94]) w0 := ⟨_, rfl, hs.alloc _ _⟩
  have hC := hs0.drew.call 1 rfl (fun _ ho => put_cl y x k q ho)
  have b0 := hs0.cell 6 rfl (o := 0) rfl
  have b1 := hs0.cell 6 rfl (o := 1) rfl
  have p0 := hs0.cell 4 rfl (o := 0) rfl
  cases hB : putB W y x
  · have eW : putW W y x k q = W := by simp [putW, hB]
    rw [hB, eW] at hC
    rw [eW]
    clear hs
    go_enter Tryz.func256, Tryz.ntmps256
    go_wp2_with fail
    go_still_tail 7, (by kernel_rfl)
    change wpList _ _ _ _ _ w0.drew
    go_wp2_with fail
    refine hC.mono ?_
    rintro e w1 ⟨rfl, hs1⟩
    have hs2 : Stage F w (leftParts p f c t bm v n W s L R Ts) w1 := hs1.take 6
    go_wp2_with fail
    go_ret
    exact ⟨rfl, s, _, ⟨Int.le_refl _, fun _ => rfl, by omega, fun e => by simp at e, fun e => by simp at e⟩, left_close hs2 hF I J hR hn⟩
  · obtain ⟨i, rfl, hi1, hi2⟩ : ∃ i : Nat, y = i ∧ 1 ≤ i ∧ i < 65537 := by
      have hB2 := hB
      simp only [putB, Bool.and_eq_true] at hB2
      obtain ⟨i, rfl, h1, h2, _⟩ := has_nat hB2.1
      have := hf.len
      exact ⟨i, rfl, h1, by omega⟩
    obtain ⟨xi, rfl⟩ : ∃ xi : Nat, x = xi := by
      have hB2 := hB
      simp only [putB, Bool.and_eq_true] at hB2
      obtain ⟨j, e, _⟩ := slot_nat hB2.2.1
      exact ⟨j, e⟩
    obtain ⟨hxn, H2, hfin⟩ := insert_inv (k := k) (q := q) I J hR hn hB hi1
    have hsz := I.size i hi1
    have hle := Nat.le_trans (len_le W i) hf.cap
    have hbits := lef_bits (J.all i).lef (Nat.le_of_eq hsz) hle
    have hnil := I.empty hi1
    have hnW : (putW W i xi k q).cells.length = n := by rw [lput_len]; exact hn
    rw [hB] at hC
    clear hs
    generalize hW1 : putW W i xi k q = W1 at *
    clear hW1
    go_enter Tryz.func256, Tryz.ntmps256
    go_wp2_with fail
    go_still_tail 7, (by kernel_rfl)
    change wpList _ _ _ _ _ w0.drew
    go_wp2_with fail
    refine hC.mono ?_
    rintro e w1 ⟨rfl, hs1⟩
    have hs2 : Stage F w (leftParts p f c t bm v n W1 s L R Ts) w1 := hs1.take 6
    clear hs1 hC b0 b1 p0 hw0 hs0
    have p1 := le_p1 hs2
    have hP := plant_st (q := [_, _]) hs2 hR xi hxn
    go_wp2_with fail
    refine hP.mono ?_
    rintro e w2 ⟨rfl, hs3⟩
    replace hs3 : Stage F w (leftParts p f c t bm v n W1 s L (R.set xi 1) Ts) w2 := hs3
    clear hP hs2 p1
    have hA := add_le hs3 hi2 rfl H2
    go_wp2_with fail
    refine hA.mono ?_
    rintro e w3 ⟨T, L', R', s', rfl, m1, m2, m3, m4, m5, ⟨m6, m7, m8, m9⟩, m10, m11, hs4⟩
    clear hA hs3 H2
    obtain ⟨I3, J3⟩ := hfin m2 m3 m4 m5
    have hst : s ≤ s' ∧ (true = false → s' = s) ∧ s' ≤ s + (Lib.bitLen (lenW W i) + 1 : Nat) ∧ (true = true → 0 < lenW W i → 0 < s') := ⟨m6, fun e => (by cases e), by
      have : Tr.spine (Tr.node (xi : Int) .nil .nil) = 1 := rfl
      rw [this] at m7
      omega, fun _ h => m9 fun e => by have := hnil.1 e; omega⟩
    replace hst := Lib.hid hst
    clear m2 m3 m4 m5 m6 m7 m8 m9 hfin hnil hbits hsz
    go_wp2_with fail
    go_ret
    exact ⟨rfl, s', _, ⟨hst.out.1, hst.out.2.1, hst.out.2.2.1, hst.out.2.2.2, fun _ => ⟨T, rfl, m10, m11⟩⟩, left_close hs4 hF I3 J3 m1 hnW⟩
theorem min_le (y : Int) (hy : inInt y) (h : (Ob.leftist p c W s Ts).holds w F) : Calls Tryz.prog 258 #[.pointer (some ⟨p, 0, none⟩), .int .i64 y] w fun e w' => e = .returned (.tuple #[.int .i64 (minI W y), .bool (minB W y)]) ∧ w = w' := by
  obtain ⟨f, t, bm, v, n, L, R, I, J, hR, hn, hf, _, hg⟩ := h
  have hs := Ob.group.open hg
  have hL := le_look hs y hy
  have p2 := le_p2 hs
  have e : topsT Ts y = if minB W y then some (minI W y) else none := by
    unfold topsT
    by_cases hp : 1 ≤ y
    · obtain ⟨k, rfl⟩ : ∃ k : Nat, y = k := ⟨y.toNat, by omega⟩
      rw [if_pos (by omega), Int.toNat_natCast]
      cases ht : (Ts k).top with
      | none =>
        have hnil : Ts k = .nil := by cases e : Ts k with
          | nil => rfl
          | node a b d => rw [e] at ht; cases ht
        obtain ⟨q1, q2⟩ := minI_none (min_none_iff.2 ((I.empty (by omega)).1 hnil))
        rw [q2]; rfl
      | some x =>
        obtain ⟨m, hm1, hm2⟩ := I.min ht
        obtain ⟨q1, q2⟩ := minI_some (min_of hm2)
        rw [q1, q2, hm1]; rfl
    · have hz : lenW W y = 0 := by simp [lenW, show ¬ 0 < y by omega]
      obtain ⟨q1, q2⟩ := minI_none (min_none_iff.2 hz)
      rw [q2]
      by_cases h0 : y = 0
      · subst h0; simp [I.zero, Tr.top]
      · rw [if_neg (by omega)]; rfl
  have e2 : (topsT Ts y).getD 0 = minI W y ∧ (topsT Ts y).isSome = minB W y := by
    rw [e]
    cases hb : minB W y
    · have : minI W y = 0 := by
        cases hm : minW W y with
        | none => exact (minI_none hm).1
        | some m => rw [(minI_some hm).2] at hb; cases hb
      rw [this]; exact ⟨rfl, rfl⟩
    · exact ⟨rfl, rfl⟩
  rw [e2.1, e2.2] at hL
  clear e e2 hs hg I J
  generalize minI W y = a at *
  generalize minB W y = b at *
  go_enter Tryz.func258, Tryz.ntmps258
  go_wp2_with fail
  exact bodyPost_ret (v := .tuple #[.int .i64 a, .bool b]) (by simp [results, Tryz.results258, go_sem]) rfl ⟨rfl, rfl⟩
end
end Go.Proofs.YtkcicnflcilekaaGreat

namespace Go.Proofs.YtkcicnflcilekaaGreat
open Go.RowKit Go.Sort

section
variable {w : World} {p c f t bm n : Nat} {v : Value} {W W' : WS} {s s' : Int} {F F0 : Nat → Prop} {L : List Hg} {R : List Int} {Ts : Nat → Tr}
end
end Go.Proofs.YtkcicnflcilekaaGreat

namespace Go.Proofs.YtkcicnflcilekaaGreat
open Go.RowKit Go.Sort

section
variable {w : World} {p c f t bm n : Nat} {v : Value} {W W' : WS} {s s' : Int} {F F0 : Nat → Prop} {L : List Hg} {R : List Int} {Ts : Nat → Tr}
end
end Go.Proofs.YtkcicnflcilekaaGreat

namespace Go.Proofs.YtkcicnflcilekaaGreat
open Go.RowKit Go.Sort

section
variable {w : World} {p c f t bm n : Nat} {v : Value} {W W' : WS} {s s' : Int} {F F0 : Nat → Prop} {L : List Hg} {R : List Int} {Ts : Nat → Tr}
end
def newLeftPost (w : World) (n : Nat) (e : Ending) (w' : World) : Prop := ∃ p c, e = .returned (.tuple #[.pointer (some ⟨p, 0, none⟩), .int .i64 0]) ∧ ∃ F', (Ob.leftist p c (newW n) 0 (fun _ => .nil)).holds w' F' ∧ (∀ k, F' k → w.heap.size ≤ k) ∧ Below w.heap.size w w'
theorem newForest_st {F0 : Nat → Prop} {W0 w : World} {c n : Nat} {W : WS} {s : Int} (h : Stage F0 W0 [Ob.cells c W s] w) (hn : W.cells.length = n) (hn2 : n ≤ 65536) : Calls Tryz.prog 92 #[.pointer (some ⟨c, 0, none⟩)] w fun e w' => ∃ f t v, e = .returned (.tuple #[.pointer (some ⟨f, 0, none⟩), .int .i64 0]) ∧ Stage F0 W0 (forestParts f c t v n W s [] (List.replicate n 0)) w' := by
  have hmk := run_make_rows (P := Tryz.prog) 75 3 (.int .i64 0) 1 8 Tryz.underlying75 sinfo_int n (by omega) (by omega)
  have hC := h.ask 0 rfl (fun _ ho => capacity_cl ho)
  rw [hn] at hC
  have hN := h.newSpine n hn2
  go_enter Tryz.func92, Tryz.ntmps92
  go_wp2_with fail
  refine hC.mono ?_
  rintro e w1 ⟨rfl, rfl⟩
  clear hC
  go_wp2_with fail
  refine hN.mono ?_
  rintro e w1 ⟨t, rfl, hs1⟩
  clear hN h
  have hC := hs1.ask 0 rfl (fun _ ho => capacity_cl ho)
  rw [hn] at hC
  go_wp2_with fail
  refine hC.mono ?_
  rintro e w2 ⟨rfl, rfl⟩
  clear hC
  have hs2 := (hs1.newRow 3 1 n (madeCells #[.int .i64 0] (n * 1)) (size_madeCells _ _) (by unfold maxLen; omega)).alloc' #[ptrV c, ptrV t, .slice (some ⟨w1.heap.size, 0, none⟩) n n] 253 (b := w1.heap.size + 1) (size_alloc _ _)
  rw [made_rows intC_len (by decide) 0 #[.int .i64 0] rfl n, Nat.mul_one] at hs2
  have hs3 : Stage F0 W0 (forestParts (w1.heap.size + 1) c t (.slice (some ⟨w1.heap.size, 0, none⟩) n n) n W s [] (List.replicate n 0)) _ := hs2.select [3, 0, 1, 2] (by decide) rfl
  clear hs1 hs2
  go_wp2_with fail
  exact bodyPost_ret (v := .tuple #[.pointer (some ⟨w1.heap.size + 1, 0, none⟩), .int .i64 0]) (by simp [results, Tryz.results92, go_sem]) rfl ⟨_, t, _, rfl, hs3⟩
set_option maxRecDepth 100000 in
theorem new_le (n : Nat) (hn : n ≤ 65536) (w : World) : Calls Tryz.prog 68 #[.int .i64 n] w (newLeftPost w n) := by
  have hmm := @run_makeMap Tryz.prog
  have hC := new_cl n hn w
  go_enter Tryz.func68, Tryz.ntmps68
  go_wp2_with fail
  refine hC.mono ?_
  rintro e w1 ⟨c, rfl, F1, h1, h2, h3⟩
  have hs1 : Stage (fun _ => False) w [Ob.cells c (newW n) 0] w1 := (Stage.start w).add (O := Ob.cells c (newW n) 0) h3 h1 h2
  clear hC h1 h2 h3
  have hnl : (newW n).cells.length = n := by simp [newW]
  have hN := newForest_st hs1 hnl hn
  go_wp2_with fail
  refine hN.mono ?_
  rintro e w2 ⟨f, t, v, rfl, hs2⟩
  clear hN hs1
  have hs3 := hs2.newZMap Tryz.prog 3 3 rfl
  have hz : (w2.alloc (.map #[] 0)).heap.size = w2.heap.size + 1 := size_alloc _ _
  have hs4 := hs3.alloc #[ptrV c, ptrV f, .map (some w2.heap.size)] 200
  rw [hz] at hs4
  have e1 : topsT (fun _ => Tr.nil) = fun _ => none := by funext h; unfold topsT; split <;> rfl
  have e2 : cntT (fun _ => Tr.nil) = 0 := by
    unfold cntT
    rw [List.countP_eq_zero]
    intro a _
    simp [Tr.top]
  have hs5 : Stage (fun _ => False) w (leftParts (w2.heap.size + 1) f c t w2.heap.size v n (newW n) 0 [] (List.replicate n 0) (fun _ => .nil)) ((w2.alloc (.map #[] 0)).alloc (.cells #[ptrV c, ptrV f, .map (some w2.heap.size)] 200)) := by
    unfold leftParts
    rw [e1, e2]
    exact hs4.select [0, 1, 2, 3, 5, 4] (by decide) rfl
  clear hs2 hs3 hs4
  go_wp2_with fail
  obtain ⟨F', g1, g2, g3⟩ := hs5.closeNew
  exact bodyPost_ret (v := .tuple #[.pointer (some ⟨w2.heap.size + 1, 0, none⟩), .int .i64 0]) (by simp [results, Tryz.results68, go_sem]) rfl ⟨_, c, rfl, F', ⟨f, t, w2.heap.size, v, n, [], List.replicate n 0, tinv_new n, lefinv_new _, by simp, hnl, new_fitW hn, ⟨Int.le_refl _, by omega⟩, g1⟩, g2, g3⟩
end Go.Proofs.YtkcicnflcilekaaGreat

namespace Go.Proofs.YtkcicnflcilekaaGreat
open Go.RowKit Go.Sort

/-- The functions that such a nest's calls enter. -/
def leftF (p c : Nat) : NestFns where
  make := ⟨139, ptrV c⟩
  ins := ⟨256, ptrV p⟩
  min := ⟨258, ptrV p⟩
  steps := ⟨142, ptrV c⟩
  entry := ⟨134, ptrV c⟩
  has := ⟨135, ptrV c⟩
section
variable {w : World} {p c : Nat} {W : WS} {s : Int} {F : Nat → Prop} {Ts : Nat → Tr}
theorem left_there (h : (Ob.leftist p c W s Ts).holds w F) : leftH p c w := by
  obtain ⟨f, t, bm, v, n, L, R, _, _, _, _, _, _, hg⟩ := h
  exact le_p0 (Ob.group.open hg)
theorem left_fit (h : (Ob.leftist p c W s Ts).holds w F) : W.Fit := by
  obtain ⟨f, t, bm, v, n, L, R, _, _, _, _, h, _, hg⟩ := h; exact h
/-- A call on the cells alone. -/
theorem left_cells {f : FuncId} {args : Array Value} {v : Value} {W' : WS} (h : (Ob.leftist p c W s Ts).holds w F) (hW : ∀ Ts, TInv W Ts → TInv W' Ts) (hl : W'.cells.length = W.cells.length)
    (hc : ∀ G, (Ob.cells c W s).holds w G → Calls Tryz.prog f args w fun e w' => e = .returned v ∧ ∃ G', (Ob.cells c W' s).holds w' G' ∧ Moved G G' w w') :
    Calls Tryz.prog f args w fun e w' => e = .returned v ∧ ∃ F', (Ob.leftist p c W' s Ts).holds w' F' ∧ Moved F F' w w' := by
  have hF := (Ob.leftist p c W s Ts).lt h
  obtain ⟨f, t, bm, v, n, L, R, I, J, hR, hn, hf, _, hg⟩ := h
  have hs := Ob.group.open hg
  refine (hs.call 1 rfl hc).mono ?_
  rintro e w' ⟨rfl, hs1⟩
  have hs2 : Stage F w (leftParts p f c t bm v n W' s L R Ts) w' := hs1
  exact ⟨rfl, left_close hs2 hF (hW Ts I) J hR (by rw [hl]; exact hn)⟩
/-- .. that only asks. -/
theorem left_ask {f : FuncId} {args : Array Value} {v : Value} (h : (Ob.leftist p c W s Ts).holds w F) (hc : ∀ G, (Ob.cells c W s).holds w G → Calls Tryz.prog f args w fun e w' => e = .returned v ∧ Below w.heap.size w w') :
    Calls Tryz.prog f args w fun e w' => e = .returned v ∧ Below w.heap.size w w' := by
  obtain ⟨f, t, bm, v, n, L, R, I, J, hR, hn, hf, _, hg⟩ := h
  obtain ⟨G, ho⟩ := (Ob.group.open hg).get (i := 1) rfl
  exact hc G ho
theorem lsame_below {f : FuncId} {args : Array Value} {v : Value} (h : Calls Tryz.prog f args w fun e w' => e = .returned v ∧ w = w') : Calls Tryz.prog f args w fun e w' => e = .returned v ∧ Below w.heap.size w w' := h.mono fun _ _ ⟨h1, h2⟩ => ⟨h1, by subst h2; exact Below.refl _ _⟩
end
abbrev ltoMeter : FieldStep := { struct := 226, index := 0, deref := true }
theorem lload_cells {p c : Nat} {w : World} (h : leftH p c w) : (loadVar 166 ⟨p, 0, none⟩).run Tryz.prog w = .ok (ptrV c) w := by
  unfold leftH at h
  go_simp
/-- A method of the cells, by the nest. -/
theorem lm_prom {n : String} {f : FuncId} {p c : Nat} {w : World} (h : leftH p c w) (e : (method 470 140 (ptrV p) n).run Tryz.prog w = (do let v ← loadVar 166 ⟨p, 0, none⟩; pure (f, v) : Sem (FuncId × Value)).run Tryz.prog w) : (method 470 140 (ptrV p) n).run Tryz.prog w = .ok (f, ptrV c) w := by
  rw [e, Sem.run_bind, lload_cells h]
  rfl
set_option maxRecDepth 100000 in
theorem lm_steps {p c : Nat} {w : World} (h : leftH p c w) : (method 470 140 (ptrV p) "Steps").run Tryz.prog w = .ok (142, ptrV c) w := by
  have e : (method 470 140 (ptrV p) "Steps").run Tryz.prog w = (do let x ← follow [ltoMeter] 166 (.var ⟨p, 0, none⟩); let r ← receiverAt x.1 x.2 true none; pure (142, r) : Sem (FuncId × Value)).run Tryz.prog w := by kernel_rfl
  have e1 : (follow [ltoMeter] 166 (.var ⟨p, 0, none⟩)).run Tryz.prog w = (do let v ← loadVar 166 ⟨p, 0, none⟩; follow [ltoMeter] 166 (.val v)).run Tryz.prog w := by kernel_rfl
  have e2 : (follow [ltoMeter] 166 (.val (ptrV c))).run Tryz.prog w = .ok (224, .var ⟨c, 0, none⟩) w := by kernel_rfl
  have e3 : (follow [ltoMeter] 166 (.var ⟨p, 0, none⟩)).run Tryz.prog w = .ok (224, .var ⟨c, 0, none⟩) w := by
    rw [e1, Sem.run_bind, lload_cells h, Result.andThen_ok]
    exact e2
  have e4 : (do let r ← receiverAt 224 (.var ⟨c, 0, none⟩) true none; pure (142, r) : Sem (FuncId × Value)).run Tryz.prog w = .ok (142, ptrV c) w := by kernel_rfl
  rw [e, Sem.run_bind, e3, Result.andThen_ok]
  exact e4
theorem left_nests (p c : Nat) : Nests (fun W (g : Int × (Nat → Tr)) => Ob.leftist p c W g.1 g.2) Prod.fst (leftH p c) 140 (ptrV p) (leftF p c) where
  there := left_there
  fit h := left_fit h
  entry x h := left_ask h fun _ ho => entry_cl x ho
  has y h := left_ask h fun _ ho => lsame_below (has_cl y ho)
  steps h := left_ask h fun _ ho => lsame_below (steps_cl ho)
  make {W g w F} h := (left_cells h (W' := makeW W) (fun _ I => I.congr (by unfold makeW; split <;> rfl)) (by unfold makeW; split <;> rfl) fun _ ho => make_cl ho).mono fun e w' ⟨h1, h2⟩ => ⟨h1, g, h2⟩
  ins y x k q _ _ h := (insert_le y x k q h).mono fun e w' ⟨h1, s', Ts', _, h4⟩ => ⟨h1, (s', Ts'), h4⟩
  min {W g w F} y hy h := (min_le y hy h).mono fun e w' ⟨h1, h2⟩ => ⟨h1, g, F, by subst h2; exact ⟨h, Moved.refl _ _⟩⟩
  mMake := ⟨fun w h => lm_prom h (by kernel_rfl), fun _ _ => by kernel_rfl⟩
  mIns := ⟨fun _ _ => by kernel_rfl, fun _ _ => by kernel_rfl⟩
  mMin := ⟨fun _ _ => by kernel_rfl, fun _ _ => by kernel_rfl⟩
  mSteps := ⟨fun w h => lm_steps h, fun _ _ => by kernel_rfl⟩
  mEntry := ⟨fun w h => lm_prom h (by kernel_rfl), fun _ _ => by kernel_rfl⟩
  mHas := ⟨fun w h => lm_prom h (by kernel_rfl), fun _ _ => by kernel_rfl⟩
end Go.Proofs.YtkcicnflcilekaaGreat

namespace Go.Proofs.YtkcicnflcilekaaGreat
namespace Tr
/-- Merged: the children of each one that is met change sides. The fuel: both ways to the right together. -/
def melt (lt : Int → Int → Bool) : Nat → Tr → Tr → Tr × Nat
  | 0, a, _ => (a, 0)
  | _ + 1, nil, b => (b, 0)
  | _ + 1, a, nil => (a, 0)
  | f + 1, node x l r, node y l' r' =>
    if lt x y then (node x (melt lt f r (node y l' r')).1 l, (melt lt f r (node y l' r')).2 + 1)
    else (node y (melt lt f r' (node x l r)).1 l', (melt lt f r' (node x l r)).2 + 1)
def merge (lt : Int → Int → Bool) (a b : Tr) : Tr := (melt lt (spine a + spine b + 1) a b).1
def asked (lt : Int → Int → Bool) (a b : Tr) : Nat := (melt lt (spine a + spine b + 1) a b).2
theorem melt_perm (lt : Int → Int → Bool) : ∀ (f : Nat) (a b : Tr), spine a + spine b < f → (melt lt f a b).1.slots.Perm (a.slots ++ b.slots)
  | 0, _, _, h => by omega
  | f + 1, nil, b, _ => by simp [melt, slots]
  | f + 1, node x l r, nil, _ => by simp [melt, slots]
  | f + 1, node x l r, node y l' r', h => by
    simp only [spine] at h
    have h1 := melt_perm lt f r (node y l' r') (by simp only [spine]; omega)
    have h2 := melt_perm lt f r' (node x l r) (by simp only [spine]; omega)
    rw [List.perm_iff_count] at *
    intro z
    have h1 := h1 z
    have h2 := h2 z
    unfold melt
    simp only [slots, List.count_append, List.count_cons] at h1 h2 ⊢
    split
    · simp only [slots, List.count_append, List.count_cons]; omega
    · simp only [slots, List.count_append, List.count_cons]; omega
theorem merge_perm (lt : Int → Int → Bool) (a b : Tr) : (merge lt a b).slots.Perm (a.slots ++ b.slots) := melt_perm lt _ a b (by omega)


theorem melt_ok {lt : Int → Int → Bool} (P : Int → Prop) (irr : ∀ x, P x → lt x x = false) (asy : ∀ x y, P x → P y → lt x y = true → lt y x = false)
    (trans : ∀ x y z, P x → P y → P z → lt x y = false → lt y z = false → lt x z = false) :
    ∀ (f : Nat) (a b : Tr), spine a + spine b < f → (∀ z ∈ a.slots, P z) → (∀ z ∈ b.slots, P z) → Ok lt a → Ok lt b → Ok lt (melt lt f a b).1
  | 0, _, _, h, _, _, _, _ => by omega
  | f + 1, nil, b, _, _, _, _, hb => by simpa [melt] using hb
  | f + 1, node x l r, nil, _, _, _, ha, _ => by simpa [melt] using ha
  | f + 1, node x l r, node y l' r', h, pa, pb, ha, hb => by
    simp only [spine] at h
    obtain ⟨a1, a2, a3, a4⟩ := ha
    obtain ⟨b1, b2, b3, b4⟩ := hb
    have px : P x := pa x (by simp [slots])
    have py : P y := pb y (by simp [slots])
    have pl : ∀ z ∈ l.slots, P z := fun z hz => pa z (by simp [slots, hz])
    have pr : ∀ z ∈ r.slots, P z := fun z hz => pa z (by simp [slots, hz])
    have pl' : ∀ z ∈ l'.slots, P z := fun z hz => pb z (by simp [slots, hz])
    have pr' : ∀ z ∈ r'.slots, P z := fun z hz => pb z (by simp [slots, hz])
    unfold melt
    split
    · rename_i hxy
      have h1 := melt_ok P irr asy trans f r (node y l' r') (by simp only [spine]; omega) pr pb a4 ⟨b1, b2, b3, b4⟩
      refine ⟨fun z hz => ?_, a1, h1, a3⟩
      have := (melt_perm lt f r (node y l' r') (by simp only [spine]; omega)).mem_iff.1 hz
      have hyx := asy x y px py hxy
      simp only [slots, List.mem_append, List.mem_cons] at this
      rcases this with h | h | h | h
      · exact a2 z h
      · subst h; exact hyx
      · exact trans z y x (pl' z h) py px (b1 z h) hyx
      · exact trans z y x (pr' z h) py px (b2 z h) hyx
    · rename_i hxy
      have hxy : lt x y = false := by simpa using hxy
      have h1 := melt_ok P irr asy trans f r' (node x l r) (by simp only [spine]; omega) pr' pa b4 ⟨a1, a2, a3, a4⟩
      refine ⟨fun z hz => ?_, b1, h1, b3⟩
      have := (melt_perm lt f r' (node x l r) (by simp only [spine]; omega)).mem_iff.1 hz
      simp only [slots, List.mem_append, List.mem_cons] at this
      rcases this with h | h | h | h
      · exact b2 z h
      · subst h; exact hxy
      · exact trans z x y (pl z h) px py (a1 z h) hxy
      · exact trans z x y (pr z h) px py (a2 z h) hxy
end Tr
end Go.Proofs.YtkcicnflcilekaaGreat

namespace Go.Proofs.YtkcicnflcilekaaGreat
namespace Tr
end Tr
/-! ### all heaps of a nest together -/
end Go.Proofs.YtkcicnflcilekaaGreat
