/- Merged of FiNest2, FiNest3. -/
import Derived.Test.YtcjjglaimfhofaaFiNest
namespace Go.Proofs.Ytcjjglaimfhofaa
open Go.RowKit Go.Sort

/-- What a call takes, against what is loose. -/
def FiPaid (W W' : WS) (g g' : FiG) : Prop := (∀ b, (allW W).length < 2 ^ b → g'.s + (potN W' g'.K (lostOf g'.T) : Nat) ≤ g.s + (potN W g.K (lostOf g.T) : Nat) + ((4 + 4 * b : Nat) : Int)) ∧ (allW W').length ≤ (allW W).length + 1
theorem fipaid_none (W : WS) (g : FiG) : FiPaid W W g g := ⟨fun b _ => by omega, by omega⟩
section
variable {F0 : Nat → Prop} {W0 w : World} {p f c rp bm n : Nat} {v : Value} {W W' : WS} {s : Int} {K : Int → List Int} {R : Nat → List Int} {T : Int → Node} {S : RSt} {z : Nat → Int} {N : Nat → Nat} {F : Nat → Prop} {g : FiG}
theorem fib_close {w' : World} (hs : Stage F w (fbN p f c rp bm v n W' s T S z N) w') (hF : ∀ b, F b → b < w.heap.size) (I : FiOk n W' K R T S z) (hN : N = lenR R) : ∃ F', (Ob.fibn p c W' ⟨s, K, R, T⟩).holds w' F' ∧ Moved F F' w w' := by
  subst hN
  obtain ⟨F', h1, m⟩ := hs.close hF
  have h2 := nf_fit (q := fbQ p f c bm z (lenR R)) hs
  exact ⟨F', ⟨f, rp, bm, v, n, S, z, I, h2.1, h2.2, h1⟩, m⟩
theorem FiOk.zero (I : FiOk n W K R T S z) : R 0 = [] := by
  cases e : R 0 with
  | nil => rfl
  | cons x l => have := (I.mid.is 0 x (by rw [e]; simp)).1; omega
theorem FiOk.few (I : FiOk n W K R T S z) (hf : W.Fit) {h : Nat} (h0 : R h ≠ []) : h < 65537 := by
  obtain ⟨h1, h2, h3, _⟩ := I.mid.is h (z h) (I.best h h0).1
  exact ((homes_all W).keyLt hf (List.ne_nil_of_mem (((homes_all W).mem h _ h1).2 h3))).2
theorem FiOk.none' (I : FiOk n W K R T S z) {h : Nat} (hp : 1 ≤ h) (h0 : R h = []) : lenW W h = 0 := by
  rw [← (homes_all W).empty hp]
  cases e : slotsW W h with
  | nil => rfl
  | cons y l =>
    obtain ⟨h4, h5⟩ := mem_slotsW (show y ∈ slotsW W h by rw [e]; simp)
    exact absurd h5 (I.mid.none h0 h4)
theorem FiOk.isMin (I : FiOk n W K R T S z) {h : Nat} (h0 : R h ≠ []) : ∃ k : Nat, z h = k ∧ IsMin W h k := by
  obtain ⟨h1, h2, h3, _⟩ := I.mid.is h (z h) (I.best h h0).1
  exact (homes_all W).min (((homes_all W).mem h _ h1).2 h3) fun y hy => by
    obtain ⟨h4, h5⟩ := mem_slotsW hy
    exact I.min h0 y h4 h5
/-- What is looked up is the heap's first slot. -/
theorem FiOk.first (I : FiOk n W K R T S z) (y : Int) : ∃ k : Int, (trF z (lenR R) y).getD (trV 0 0) = trV (minI W y) k ∧ (trF z (lenR R) y).isSome = minB W y := by
  by_cases hp : 1 ≤ y
  · obtain ⟨k, rfl⟩ : ∃ k : Nat, y = k := ⟨y.toNat, by omega⟩
    obtain ⟨e1, e2⟩ := trF_at z (lenR R) k
    rw [e1, e2]
    by_cases h0 : R k = []
    · obtain ⟨q1, q2⟩ := minI_none (min_none_iff.2 (I.none' (by omega) h0))
      have : lenR R k = 0 := by unfold lenR; rw [h0]; rfl
      rw [q1, q2, this]
      exact ⟨_, rfl, rfl⟩
    · obtain ⟨m, hm1, hm2⟩ := I.isMin h0
      obtain ⟨q1, q2⟩ := minI_some (min_of hm2)
      have : lenR R k ≠ 0 := fun e => h0 (List.eq_nil_of_length_eq_zero e)
      rw [q1, q2, if_neg this, hm1]
      exact ⟨_, rfl, by simpa using this⟩
  · have hz : lenW W y = 0 := by simp [lenW, show ¬ 0 < y by omega]
    obtain ⟨q1, q2⟩ := minI_none (min_none_iff.2 hz)
    have : trF z (lenR R) y = none := by
      unfold trF
      by_cases h0 : y = 0
      · subst h0
        rw [if_neg (fun e => e.2 (by unfold lenR; rw [show (0 : Int).toNat = 0 from rfl, I.zero]; rfl))]
      · rw [if_neg (fun e => by omega)]
    rw [q1, q2, this]
    exact ⟨_, rfl, rfl⟩
theorem min_st (I : FiOk n W K R T S z) (hs : Stage F0 W0 (fbN p f c rp bm v n W s T S z (lenR R)) w) (y : Int) (hy : inInt y) : Calls Try.prog 51 #[.pointer (some ⟨p, 0, none⟩), .int .i64 y] w fun e w' => e = .returned (.tuple #[.int .i64 (minI W y), .bool (minB W y)]) ∧ Below w.heap.size w w' := by
  have hL := fn_lookOk hs y hy
  obtain ⟨k, e1, e2⟩ := I.first y
  rw [e1, e2] at hL
  have p2 := fn_p2 hs
  clear e1 e2 I hs
  generalize minI W y = a at *
  generalize minB W y = b at *
  unfold trV at hL
  have hb := ((Stage.start w).alloc #[.int .i64 a, .int .i64 k] 88).below
  go_enter Try.func51, Try.ntmps51
  go_wp2_with fail
  exact bodyPost_ret (v := .tuple #[.int .i64 a, .bool b]) (by simp [results, Try.results51, go_sem]) rfl ⟨rfl, hb⟩
set_option maxRecDepth 100000 in
/-- How many trees a heap has. -/
theorem roots_st (_I : FiOk n W K R T S z) (hs : Stage F0 W0 (fbN p f c rp bm v n W s T S z (lenR R)) w) (y : Int) (hy : inInt y) : Calls Try.prog 23 #[.pointer (some ⟨p, 0, none⟩), .int .i64 y] w fun e w' => e = .returned (.int .i64 (if 0 ≤ y then (R y.toNat).length else 0 : Nat)) ∧ Below w.heap.size w w' := by
  have hL := fn_look hs y hy
  have hk : ∃ a : Int, (trF z (lenR R) y).getD (trV 0 0) = trV a ((if 0 ≤ y then (R y.toNat).length else 0 : Nat) : Int) := by
    by_cases h0 : 0 ≤ y
    · obtain ⟨k, rfl⟩ : ∃ k : Nat, y = k := ⟨y.toNat, by omega⟩
      rw [(trF_at z (lenR R) k).1, if_pos h0]
      exact ⟨_, rfl⟩
    · rw [if_neg h0]
      unfold trF
      rw [if_neg (fun e => h0 e.1)]
      exact ⟨0, rfl⟩
  obtain ⟨a, e1⟩ := hk
  rw [e1] at hL
  have p2 := fn_p2 hs
  clear e1 hs
  generalize (if 0 ≤ y then (R y.toNat).length else 0 : Nat) = k at *
  unfold trV at hL
  have hb : Below w.heap.size w w := Below.refl _ _
  have hfl : (Instr.field 88 (.agg #[.int .i64 a, .int .i64 (k : Int)]) 1).run Try.prog w = .ok (.int .i64 k) w := by kernel_rfl
  go_enter Try.func23, Try.ntmps23
  go_wp2_with fail
  go_ret
  exact ⟨rfl, hb⟩
theorem degree_st (I : FiOk n W K R T S z) (hs : Stage F0 W0 (fbN p f c rp bm v n W s T S z (lenR R)) w) (x : Int) : Calls Try.prog 28 #[.pointer (some ⟨p, 0, none⟩), .int .i64 x] w fun e w' => e = .returned (.int .i64 (K x).length) ∧ Below w.heap.size w w' := by
  have hv : ∃ a k, v = .slice a n k := by
    obtain ⟨a, k, e, _, _⟩ := owns_form (hs.owns 2 rfl)
    exact ⟨a, k, e⟩
  have hFb := I.mid.f.fb
  rw [I.len] at hFb
  have hD := degree_fb (q := fbQ p f c bm z (lenR R)) hs I.tied (fun x hx => by
    cases e : K x with
    | nil => rfl
    | cons y l => exact absurd (hFb.rng x y (by rw [e]; simp)).1 hx) hv x
  have p1 := fn_p1 hs
  have hb : Below w.heap.size w w := Below.refl _ _
  clear I hs
  go_enter Try.func28, Try.ntmps28
  go_wp2_with fail
  refine hD.mono ?_
  rintro e w1 ⟨rfl, rfl⟩
  go_wp2_with fail
  go_ret
  exact ⟨rfl, hb⟩
/-- The one that comes in, and the trees of its heap. -/
theorem ins_join (I : FiOk n W K R T S z) {W' : WS} {h : Nat} {x : Int} (hc : (R h).length < 65536) (hs : Stage F0 W0 (fbN p f c rp bm v n W' s T S z (lenR R)) w) :
    ∃ (a : Int) (s' : Int) (S' : RSt), ((R h = [] ∧ S' = S ∧ a = x) ∨ (R h ≠ [] ∧ S' = spliceS n S (z h) x ∧ a = lkC W' (z h) x)) ∧ (s ≤ s' ∧ s' ≤ s + 1) ∧
      Calls Try.prog 50 #[.pointer (some ⟨f, 0, none⟩), (trF z (lenR R) h).getD (trV 0 0), trV x 1] w fun e w' => e = .returned (trV a ((R h).length + 1)) ∧ Stage F0 W0 (fbN p f c rp bm v n W' s' T S' z (lenR R)) w' := by
  rw [(trF_at z (lenR R) h).1]
  by_cases h0 : R h = []
  · have e0 : lenR R h = 0 := by unfold lenR; rw [h0]; rfl
    rw [e0, if_pos rfl]
    refine ⟨x, s, S, Or.inl ⟨h0, rfl, rfl⟩, ⟨Int.le_refl _, by omega⟩, ?_⟩
    have e1 : (R h).length = 0 := by rw [h0]; rfl
    rw [e1]
    exact join_b hs 0 x 1
  · have e0 : lenR R h ≠ 0 := fun e => h0 (List.eq_nil_of_length_eq_zero e)
    rw [if_neg e0]
    have hst := (nf_fit (q := fbQ p f c bm z (lenR R)) hs).2
    refine ⟨_, aheadS W' s x (z h), _, Or.inr ⟨h0, rfl, rfl⟩, ?_, ?_⟩
    · unfold aheadS addI
      repeat' split
      all_goals omega
    · exact join_ab hs I.tied.good.back (z h) x (R h).length 1 (List.length_pos_iff.2 h0) (by omega) (by omega)
set_option maxRecDepth 100000 in
theorem insert_fib (y x k q : Int) (h : (Ob.fibn p c W g).holds w F) : Calls Try.prog 30 #[.pointer (some ⟨p, 0, none⟩), .int .i64 y, .int .i64 x, .agg #[.int .i64 k, .int .u64 q]] w fun e w' => e = .returned (.bool (putB W y x)) ∧ ∃ g' F', FiPaid W (putW W y x k q) g g' ∧ (putB W y x = true → g'.K = g.K ∧ g'.R = updR g.R y.toNat (g.R y.toNat ++ [x])) ∧ (Ob.fibn p c (putW W y x k q) g').holds w' F' ∧ Moved F F' w w' := by
  have hF := (Ob.fibn p c W g).lt h
  obtain ⟨f, rp, bm, v, n, S, z, I, hf, _, hg⟩ := h
  obtain ⟨s, K, R, T⟩ := g
  dsimp only at I hg ⊢
  have hs := Ob.group.open hg
  clear hg
  obtain ⟨w0, hw0, hs0⟩ : ∃ w0, w.alloc (.cells #[.int .i64 k, .int .u64 q] 63) = w0 ∧ Stage F w (fbN p f c rp bm v n W s T S z (lenR R) ++ [Ob.box w.heap.size #[.int .i64 k, .int .u64 q] 63]) w0 := ⟨_, rfl, hs.alloc _ _⟩
  have hC := hs0.drew.call 1 rfl (fun _ ho => put_cl y x k q ho)
  have b0 := hs0.cell 6 rfl (o := 0) rfl
  have b1 := hs0.cell 6 rfl (o := 1) rfl
  have p0 := hs0.cell 4 rfl (o := 0) rfl
  cases hB : putB W y x
  · have eW : putW W y x k q = W := by simp [putW, hB]
    rw [hB, eW] at hC
    rw [eW]
    clear hs eW
    go_enter Try.func30, Try.ntmps30
    go_wp2_with fail
    go_still_tail 7, (by kernel_rfl)
    change wpList _ _ _ _ _ w0.drew
    go_wp2_with fail
    refine hC.mono ?_
    rintro e w1 ⟨rfl, hs1⟩
    have hs2 : Stage F w (fbN p f c rp bm v n W s T S z (lenR R)) w1 := hs1.take 6
    obtain ⟨F', hc⟩ := fib_close hs2 hF I rfl
    go_wp2_with fail
    go_ret
    exact ⟨rfl, _, F', fipaid_none W _, (fun e => by cases e), hc⟩
  · obtain ⟨i, rfl, hi1, hi2⟩ : ∃ i : Nat, y = i ∧ 1 ≤ i ∧ i < 65537 := by
      have hB2 := hB
      simp only [putB, Bool.and_eq_true] at hB2
      obtain ⟨i, rfl, h1, h2, _⟩ := has_nat hB2.1
      have := hf.len
      exact ⟨i, rfl, h1, by omega⟩
    have hPut := fun (T' : Int → Node) (S' : RSt) (a : Int) hTS => I.put (k := k) (s := q) hB hi1 (_T' := T') (S' := S') (a := a) hTS
    rw [hB] at hC
    have hfew : (R i).length < 65536 := by
      have h1 := (homes_put (k := k) (s := q) (homes_all W) hB hi1).2.1
      have h2 := (homes_put (k := k) (s := q) (homes_all W) hB hi1).2.2.1
      have h3 := prin_slot h2
      have e3 : (putW W i x k q).cells.length = n := by rw [← I.len]; unfold putW; split <;> simp
      rw [e3] at h3
      have h4 := sub_len (m := x :: R i) (l := (List.range n).map fun i : Nat => (i : Int)) (List.nodup_cons.2 ⟨fun k => (by have := (I.mid.is i x k).2.1; rw [h1] at this; cases this), I.mid.nd i⟩) (fun y hy => by
        rw [mem_ints]
        rcases List.mem_cons.1 hy with rfl | hy
        · exact h3
        · have := prin_slot (I.mid.is i y hy).2.1
          rwa [I.len] at this)
      have := I.tied.good.few
      simp at h4
      omega
    clear hs
    generalize hW1 : putW W i x k q = W1 at *
    clear hW1
    go_enter Try.func30, Try.ntmps30
    go_wp2_with fail
    go_still_tail 7, (by kernel_rfl)
    change wpList _ _ _ _ _ w0.drew
    go_wp2_with fail
    refine hC.mono ?_
    rintro e w1 ⟨rfl, hs1⟩
    have hs2 : Stage F w (fbN p f c rp bm v n W1 s T S z (lenR R)) w1 := hs1.take 6
    clear hs1 hC b0 b1 p0 hw0 hs0
    have p1 := fn_p1 hs2
    have p2 := fn_p2 hs2
    have hlk := fn_look hs2.drew (i : Int) ⟨by omega, by omega⟩
    obtain ⟨a, s', S', hTS, hs', hJ⟩ := ins_join (x := x) I hfew hs2.drew
    obtain ⟨I2, hp1, hp2⟩ := hPut T S' a hTS
    have hK : ∀ (w2 : World), Stage F w (fbN p f c rp bm v n W1 s' T S' z (lenR R)) w2 → Calls Try.prog 49 #[.pointer (some ⟨p, 0, none⟩), .int .i64 i, trV a (((R i).length : Int) + 1)] w2 fun e w' => e = .returned (.tuple #[]) ∧ Stage F w (fbN p f c rp bm v n W1 s' T S' (updZ z i a) (updN (lenR R) i ((R i).length + 1))) w' := fun w2 h2 => keep_fb h2 hi2 a ((R i).length + 1)
    have hN : updN (lenR R) i ((R i).length + 1) = lenR (updR R i (R i ++ [x])) := by rw [lenR_upd]; simp
    clear hs2 hPut hTS
    generalize (trF z (lenR R) i).getD (trV 0 0) = tv at *
    go_wp2_with fail
    go_region_held3 (fun w' => w'.cell? ⟨p, 1, none⟩ = some (.pointer (some ⟨f, 0, none⟩)) ∧ w'.cell? ⟨p, 2, none⟩ = some (.map (some bm))) (first | exact ⟨p1, p2⟩ | exact pk | exact pk3 | simp [*])
      (first
      | (((with_reducible refine hJ.mono ?_); rintro e w2 ⟨rfl, h7⟩; have hKK := hK w2 h7; have pk : w2.cell? ⟨p, 1, none⟩ = some (.pointer (some ⟨f, 0, none⟩)) ∧ w2.cell? ⟨p, 2, none⟩ = some (.map (some bm)) := ⟨fn_p1 h7, fn_p2 h7⟩))
      | (((with_reducible refine hKK.mono ?_); rintro e w3 ⟨rfl, h8⟩; have pk3 : w3.cell? ⟨p, 1, none⟩ = some (.pointer (some ⟨f, 0, none⟩)) ∧ w3.cell? ⟨p, 2, none⟩ = some (.map (some bm)) := ⟨fn_p1 h8, fn_p2 h8⟩)))
    rw [hN] at h8
    obtain ⟨F', hc⟩ := fib_close h8 hF I2 rfl
    clear hJ hK hKK h7 pk pk3 h8 hN
    go_wp2_with fail
    go_ret
    exact ⟨rfl, _, F', ⟨fun b _ => by show s' + ((potN W1 K (lostOf T) : Nat) : Int) ≤ s + ((potN W K (lostOf T) : Nat) : Int) + _; omega, hp2⟩, (fun _ => ⟨rfl, rfl⟩), hc⟩
end
end Go.Proofs.Ytcjjglaimfhofaa

namespace Go.Proofs.Ytcjjglaimfhofaa
open Go.RowKit Go.Sort

section
variable {F0 : Nat → Prop} {W0 w : World} {p f c rp bm n : Nat} {v : Value} {W W' : WS} {s : Int} {K : Int → List Int} {R : Nat → List Int} {T : Int → Node} {S : RSt} {z : Nat → Int} {N : Nat → Nat} {F : Nat → Prop} {g : FiG}
theorem fn_trees (_I : FiOk n W K R T S z) {i : Nat} (h0 : R i ≠ []) : (trF z (lenR R) i).getD (trV 0 0) = trV (z i) (R i).length := by
  rw [(trF_at z (lenR R) i).1, if_neg (fun e : lenR R i = 0 => h0 (List.eq_nil_of_length_eq_zero e))]
  rfl
/-- No two of a heap's trees have topmost slots of the same degree. -/
def Unlike (g : FiG) (i : Nat) : Prop := ((g.R i).map fun y => (g.K y).length).Nodup
set_option maxRecDepth 100000 in
set_option maxHeartbeats 1000000 in
theorem delete_fib (x : Int) (h : (Ob.fibn p c W g).holds w F) : Calls Try.prog 52 #[.pointer (some ⟨p, 0, none⟩), .int .i64 x] w fun e w' => e = .returned (.bool (inW W x)) ∧ ∃ g' F', FiPaid W (dropW W x) g g' ∧ (∀ (i m : Nat), x = m → IsMin W i m → Unlike g' i ∧ (fbTop g.K x → powR g'.K (g'.R i) = powR g.K ((g.R i ++ g.K x).erase x))) ∧ (Ob.fibn p c (dropW W x) g').holds w' F' ∧ Moved F F' w w' := by
  have hF := (Ob.fibn p c W g).lt h
  obtain ⟨f, rp, bm, v, n, S, z, I, hf, _, hg⟩ := h
  obtain ⟨s, K, R, T⟩ := g
  dsimp only at I hg ⊢
  have hs := Ob.group.open hg
  clear hg
  have hH := hs.call 1 rfl (fun _ ho => home_cl x ho)
  have p0 := fn_p0 hs
  cases hB : inW W x
  · have eW : dropW W x = W := by simp [dropW, hB]
    have hno : ∀ (i m : Nat), x = m → ¬ IsMin W i m := fun i m e hm => by
      have := (isMin_in hm).1
      rw [← e, hB] at this; cases this
    rw [hB] at hH
    rw [eW]
    generalize ((cellW W x).home : Int) = hh at *
    clear eW
    go_enter Try.func52, Try.ntmps52
    go_wp2_with fail
    refine hH.mono ?_
    rintro e w1 ⟨rfl, hs1⟩
    have hs2 : Stage F w (fbN p f c rp bm v n W s T S z (lenR R)) w1 := hs1
    obtain ⟨F', hc⟩ := fib_close hs2 hF I rfl
    go_wp2_with fail
    go_ret
    exact ⟨rfl, _, F', fipaid_none W _, fun i m e hm => absurd hm (hno i m e), hc⟩
  · obtain ⟨i, hk⟩ : ∃ i, (cellW W x).home = i := ⟨_, rfl⟩
    have h0 := I.at' hB
    rw [hk] at h0
    have hi2 := I.few hf h0
    have J := I.free hB hk
    have hxi := prin_slot hB
    rw [I.len] at hxi
    obtain ⟨xi, rfl⟩ : ∃ j : Nat, x = j := ⟨x.toNat, by have := hxi.1; omega⟩
    have hD0 := fun (K' : Int → List Int) (R' : Nat → List Int) (T' : Int → Node) (S' : RSt) (b s' : Int) (E : RemEnd n W i (z i) xi R K (potN W K (lostOf T)) s s' K' R' T' S' b) => I.drop rfl hk hB E
    have hzm : ∀ (i' m : Nat), (xi : Int) = m → IsMin W i' m → i' = i ∧ (xi : Int) = z i := fun i' m e hm => by
      have hmem := ((homes_all W).home hB).2
      rw [hk] at hmem
      obtain ⟨_, _, _, k, e1, _, e3⟩ := (homes_all W).in' hmem
      have e4 : k = m := by omega
      subst e4
      have h1 := hm.home
      rw [e3] at h1
      have h2 : i' = i := by omega
      subst h2
      obtain ⟨k, k1, k2⟩ := I.isMin h0
      exact ⟨rfl, by rw [e, k1, isMin_uniq hm k2]⟩
    rw [hB, hk] at hH
    go_enter Try.func52, Try.ntmps52
    go_wp2_with fail
    refine hH.mono ?_
    rintro e w1 ⟨rfl, hs1⟩
    have hs2 : Stage F w (fbN p f c rp bm v n W s T S z (lenR R)) w1 := hs1
    clear hs1 hH p0
    have p1 := fn_p1 hs2
    have p2 := fn_p2 hs2
    have hlk := fn_look hs2.drew (i : Int) ⟨by omega, by omega⟩
    rw [fn_trees I h0] at hlk
    have hRm := remove_fb hs2.drew J
    have hK : ∀ (w2 : World) (K' : Int → List Int) (R' : Nat → List Int) (T' : Int → Node) (S' : RSt) (b s' : Int), RemEnd n W i (z i) xi R K (potN W K (lostOf T)) s s' K' R' T' S' b → Stage F w (fbF f c rp v n W s' T' S' ++ fbQ p f c bm z (lenR R)) w2 → Calls Try.prog 49 #[.pointer (some ⟨p, 0, none⟩), .int .i64 i, trV b (R' i).length] w2 fun e w' => e = .returned (.tuple #[]) ∧ Stage F w (fbN p f c rp bm v n W s' T' S' (updZ z i b) (lenR R')) w' := fun w2 K' R' T' S' b s' E h2 => by
      have h3 := keep_fb h2 hi2 b (R' i).length
      rw [← lenR_off E.off] at h3
      exact h3
    clear hs hs2 J
    go_wp2_with fail
    go_region_held3 (fun w' => w'.cell? ⟨p, 1, none⟩ = some (.pointer (some ⟨f, 0, none⟩)) ∧ w'.cell? ⟨p, 2, none⟩ = some (.map (some bm))) (first | exact ⟨p1, p2⟩ | exact pk | exact pk3 | simp [*])
      (first
      | (((with_reducible refine hRm.mono ?_); rintro e w2 ⟨b, K', R', T', S', s', rfl, hE, h7⟩; have hKK := hK w2 K' R' T' S' b s' hE h7; have pk : w2.cell? ⟨p, 1, none⟩ = some (.pointer (some ⟨f, 0, none⟩)) ∧ w2.cell? ⟨p, 2, none⟩ = some (.map (some bm)) := ⟨h7.cell 4 rfl rfl, h7.cell 4 rfl rfl⟩))
      | (((with_reducible refine hKK.mono ?_); rintro e w3 ⟨rfl, h8⟩; have pk3 : w3.cell? ⟨p, 1, none⟩ = some (.pointer (some ⟨f, 0, none⟩)) ∧ w3.cell? ⟨p, 2, none⟩ = some (.map (some bm)) := ⟨fn_p1 h8, fn_p2 h8⟩)))
    obtain ⟨I2, hq1, hq2⟩ := hD0 K' R' T' S' b s' hE
    have hpd := hE.paid
    have hun := hE.unlike
    have hpw := hE.pows
    have hD := h8.call 1 rfl (fun _ ho => drop_cl xi ho)
    rw [hB] at hD
    have p0 := fn_p0 h8
    clear hRm hK hKK h7 pk pk3 h8 hE hD0
    go_wp2_with fail
    refine hD.mono ?_
    rintro e w4 ⟨rfl, hs5⟩
    have hs6 : Stage F w (fbN p f c rp bm v n (dropW W xi) s' T' S' (updZ z i b) (lenR R')) w4 := hs5
    obtain ⟨F', hc⟩ := fib_close hs6 hF I2 rfl
    go_wp2_with fail
    go_ret
    refine ⟨rfl, _, F', ⟨fun b9 h9 => ?_, by omega⟩, fun i' m e hm => ?_, hc⟩
    · show s' + ((potN (dropW W xi) K' (lostOf T') : Nat) : Int) ≤ s + ((potN W K (lostOf T) : Nat) : Int) + _
      have := hpd b9 (Nat.lt_of_le_of_lt (slots_all W i) h9)
      omega
    · obtain ⟨rfl, e2⟩ := hzm i' m e hm
      exact ⟨hun e2, hpw e2⟩
theorem extract_fib (y : Int) (hy : inInt y) (h : (Ob.fibn p c W g).holds w F) : Calls Try.prog 31 #[.pointer (some ⟨p, 0, none⟩), .int .i64 y] w fun e w' => e = .returned (.tuple #[.int .i64 (minI W y), .bool (minB W y)]) ∧ ∃ g' F', FiPaid W (exW W y) g g' ∧ (minB W y = true → Unlike g' y.toNat ∧ (fbTop g.K (minI W y) → powR g'.K (g'.R y.toNat) = powR g.K ((g.R y.toNat ++ g.K (minI W y)).erase (minI W y)))) ∧ (Ob.fibn p c (exW W y) g').holds w' F' ∧ Moved F F' w w' := by
  have hM := Classical.byContradiction fun hn => hn ((show ∃ f rp bm v n S z, FiOk n W g.K g.R g.T S z ∧ Stage F w (fbN p f c rp bm v n W g.s g.T S z (lenR g.R)) w from by
    obtain ⟨f, rp, bm, v, n, S, z, I, hf, _, hg⟩ := h
    exact ⟨f, rp, bm, v, n, S, z, I, Ob.group.open hg⟩).elim fun f ⟨rp, bm, v, n, S, z, I, hs⟩ => min_st I hs y hy)
  cases hm : minW W y with
  | none =>
    obtain ⟨q1, q2⟩ := minI_none hm
    have q3 : exW W y = W := by simp [exW, hm]
    rw [q1, q2] at hM ⊢
    rw [q3]
    clear q1 q2 q3
    go_enter Try.func31, Try.ntmps31
    go_wp2_with fail
    refine hM.mono ?_
    rintro e w1 ⟨rfl, hb⟩
    have hh := (Ob.fibn p c W g).keeps h (Keeps.of_below_all hb (fun _ => False)) (fun _ _ k => k)
    have hmv : Moved F F w w1 := ⟨Keeps.of_below_all hb F, fun _ k => Or.inl k⟩
    go_wp2_with fail
    exact bodyPost_ret (v := .tuple #[.int .i64 0, .bool false]) (by simp [results, Try.results31, go_sem]) rfl ⟨rfl, g, F, fipaid_none W g, (fun e => by cases e), hh, hmv⟩
  | some m =>
    obtain ⟨q1, q2⟩ := minI_some hm
    have q3 : exW W y = dropW W m := by simp [exW, hm]
    have hmin := min_is hm
    rw [q1, q2] at hM ⊢
    rw [q3]
    have hy2 : ∃ j : Nat, y = j := ⟨y.toNat, by have := hmin.pos; omega⟩
    obtain ⟨j, rfl⟩ := hy2
    have hD := fun (w1 : World) (hh : (Ob.fibn p c W g).holds w1 F) => delete_fib (m : Int) hh
    rw [(isMin_in hmin).1] at hD
    clear q1 q2 q3 hm
    go_enter Try.func31, Try.ntmps31
    go_wp2_with fail
    refine hM.mono ?_
    rintro e w1 ⟨rfl, hb⟩
    have hh := (Ob.fibn p c W g).keeps h (Keeps.of_below_all hb (fun _ => False)) (fun _ _ k => k)
    have hmv : Moved F F w w1 := ⟨Keeps.of_below_all hb F, fun _ k => Or.inl k⟩
    replace hD := hD w1 hh
    clear hh
    go_wp2_with fail
    refine hD.mono ?_
    rintro e w2 ⟨rfl, g', F', hp, hu, h2, hmv2⟩
    go_wp2_with fail
    exact bodyPost_ret (v := .tuple #[.int .i64 m, .bool true]) (by simp [results, Try.results31, go_sem]) rfl ⟨rfl, g', F', hp, (fun _ => hu j m rfl hmin), h2, hmv.trans hmv2⟩
end
end Go.Proofs.Ytcjjglaimfhofaa
