/- Merged of FiNest, FiNest2, FiNest3, FiNest4, RepeatN. -/
import Derived.Test.YtkcicnflcilekaaGreatTMap
import Derived.Test.YtkcicnflcilekaaGreatPqHeld
import Derived.Test.YtkcicnflcilekaaGreatPrNests
import Derived.Test.YtkcicnflcilekaaGreatFiObj
import Derived.Laws.CopyOwn
import Derived.Laws.BitsLemmas
import Derived.Laws.Bits64
namespace Go.Proofs.YtkcicnflcilekaaGreat
open Go.RowKit Go.Sort

/-- What the map holds: of each heap with something in it, what is first and how many trees it has. -/
def trF (z : Nat → Int) (N : Nat → Nat) : Int → Option Value := fun h => if 0 ≤ h ∧ N h.toNat ≠ 0 then some (trV (z h.toNat) (N h.toNat)) else none
def updNF (N : Nat → Nat) (h k : Nat) : Nat → Nat := fun g => if g = h then k else N g
def lenR (R : Nat → List Int) : Nat → Nat := fun h => (R h).length
theorem lenR_upd (R : Nat → List Int) (h : Nat) (l : List Int) : lenR (updRF R h l) = updNF (lenR R) h l.length := by
  funext g; unfold lenR updRF updNF; split <;> rfl
theorem trF_put (z : Nat → Int) (N : Nat → Nat) (h : Nat) (a : Int) {k : Nat} (hk : k ≠ 0) : setV (trF z N) h (some (trV a k)) = trF (updZ z h a) (updNF N h k) := by
  funext i
  unfold setV trF
  by_cases e : i = h
  · subst e
    have e2 : ((h : Int)).toNat = h := by simp
    rw [if_pos rfl, e2, updZ_at, show updNF N h k h = k from if_pos rfl, if_pos ⟨by omega, hk⟩]
  · rw [if_neg e]
    by_cases h0 : 0 ≤ i
    · have e2 : i.toNat ≠ h := by omega
      rw [updZ_off _ _ e2, show updNF N h k i.toNat = N i.toNat from if_neg e2]
    · rw [if_neg (fun e3 => h0 e3.1), if_neg (fun e3 => h0 e3.1)]
theorem trF_del (z : Nat → Int) (N : Nat → Nat) (h : Nat) (a : Int) : setV (trF z N) h none = trF (updZ z h a) (updNF N h 0) := by
  funext i
  unfold setV trF
  by_cases e : i = h
  · subst e
    have e2 : ((h : Int)).toNat = h := by simp
    rw [if_pos rfl, e2, show updNF N h 0 h = 0 from if_pos rfl, if_neg (fun e3 => e3.2 rfl)]
  · rw [if_neg e]
    by_cases h0 : 0 ≤ i
    · have e2 : i.toNat ≠ h := by omega
      rw [updZ_off _ _ e2, show updNF N h 0 i.toNat = N i.toNat from if_neg e2]
    · rw [if_neg (fun e3 => h0 e3.1), if_neg (fun e3 => h0 e3.1)]
theorem trF_at (z : Nat → Int) (N : Nat → Nat) (h : Nat) : (trF z N h).getD (trV 0 0) = trV (if N h = 0 then 0 else z h) (N h) ∧ (trF z N h).isSome = decide (N h ≠ 0) := by
  unfold trF
  have e2 : ((h : Int)).toNat = h := by simp
  rw [e2]
  by_cases e : N h = 0
  · rw [if_neg (fun e3 => e3.2 e), if_pos e, e]
    exact ⟨rfl, by simp⟩
  · rw [if_pos ⟨by omega, e⟩, if_neg e]
    exact ⟨rfl, by simp [e]⟩
abbrev Ob.trees (bm : Nat) (z : Nat → Int) (N : Nat → Nat) : Ob := Ob.tmap Tryz.prog 3 bm (trF z N) 65537
theorem tzero_trees (w : World) : (zeroValue 343).run Tryz.prog w = .ok (trV 0 0) w := by kernel_rfl
abbrev fbQ (p f c bm : Nat) (z : Nat → Int) (N : Nat → Nat) : List Ob := [Ob.box p #[ptrV c, ptrV f, .map (some bm)] 194, Ob.trees bm z N]
def fbN (p f c rp bm : Nat) (v : Value) (n : Nat) (W : WS) (s : Int) (T : Int → Node) (S : RSt) (z : Nat → Int) (N : Nat → Nat) : List Ob := fbF f c rp v n W s T S ++ fbQ p f c bm z N
/-- What there is to tell of such a nest: its steps, what hangs below what, each heap's roots, the nodes. -/
structure FiG where
  s : Int
  K : Int → List Int
  R : Nat → List Int
  T : Int → Node
/-- A nest of Fibonacci's trees at p, whose cells are at c. -/
def Ob.fibn (p c : Nat) (W : WS) (g : FiG) : Ob where
  holds w F := ∃ f rp bm v n S z, FiOk n W g.K g.R g.T S z ∧ W.Fit ∧ (0 ≤ g.s ∧ g.s ≤ 4611686018427387904) ∧ (Ob.group (fbN p f c rp bm v n W g.s g.T S z (lenR g.R))).holds w F
  keeps := fun ⟨f, rp, bm, v, n, S, z, h1, h2, h3, h⟩ k hn => ⟨f, rp, bm, v, n, S, z, h1, h2, h3, (Ob.group _).keeps h k hn⟩
  lt := fun ⟨_, _, _, _, _, _, _, _, _, _, h⟩ => (Ob.group _).lt h
def fibH (p c : Nat) (w : World) : Prop := w.cell? ⟨p, 0, none⟩ = some (ptrV c)
section
variable {F0 : Nat → Prop} {W0 w : World} {p f c rp bm n : Nat} {v : Value} {W : WS} {s : Int} {T : Int → Node} {S : RSt} {z : Nat → Int} {N : Nat → Nat}
theorem fn_p0 (h : Stage F0 W0 (fbN p f c rp bm v n W s T S z N) w) : w.cell? ⟨p, 0, none⟩ = some (ptrV c) := h.cell 4 rfl rfl
theorem fn_p1 (h : Stage F0 W0 (fbN p f c rp bm v n W s T S z N) w) : w.cell? ⟨p, 1, none⟩ = some (ptrV f) := h.cell 4 rfl rfl
theorem fn_p2 (h : Stage F0 W0 (fbN p f c rp bm v n W s T S z N) w) : w.cell? ⟨p, 2, none⟩ = some (.map (some bm)) := h.cell 4 rfl rfl
theorem fn_look (h : Stage F0 W0 (fbN p f c rp bm v n W s T S z N) w) (y : Int) (hy : inInt y) : (Instr.lookup 192 (.map (some bm)) (.int .i64 y) false).run Tryz.prog w = .ok ((trF z N y).getD (trV 0 0)) w :=
  h.lookT 5 rfl Tryz.underlying192 Tryz.underlying3 (tzero_trees w) y hy
theorem fn_lookOk (h : Stage F0 W0 (fbN p f c rp bm v n W s T S z N) w) (y : Int) (hy : inInt y) : (Instr.lookup 192 (.map (some bm)) (.int .i64 y) true).run Tryz.prog w = .ok (.tuple #[(trF z N y).getD (trV 0 0), .bool (trF z N y).isSome]) w :=
  h.lookOkT 5 rfl Tryz.underlying192 Tryz.underlying3 (tzero_trees w) y hy
theorem keep0_fb (h : Stage F0 W0 (fbN p f c rp bm v n W s T S z N) w) {i : Nat} (hi : i < 65537) (a : Int) : Calls Tryz.prog 234 #[.pointer (some ⟨p, 0, none⟩), .int .i64 i, trV a 0] w fun e w' =>
    e = .returned (.tuple #[]) ∧ Stage F0 W0 (fbN p f c rp bm v n W s T S (updZ z i a) (updNF N i 0)) w' := by
  obtain ⟨w1, hw1, h1⟩ : ∃ w1, w.alloc (.cells #[.int .i64 a, .int .i64 0] 343) = w1 ∧ Stage F0 W0 (fbN p f c rp bm v n W s T S z N ++ [Ob.box w.heap.size #[.int .i64 a, .int .i64 0] 343]) w1 := ⟨_, rfl, h.alloc _ _⟩
  have t0 := h1.cell 6 rfl (o := 0) rfl
  have t1 := h1.cell 6 rfl (o := 1) rfl
  have p2 : w1.cell? ⟨p, 2, none⟩ = some (.map (some bm)) := h1.cell 4 rfl rfl
  unfold trV
  clear h
  go_enter Tryz.func234, Tryz.ntmps234
  go_wp2_with (at_delete; refine Stage.wp_deleteT h1 5 rfl rfl _ _ rfl Tryz.underlying192 Tryz.underlying3 rfl i rfl ⟨by omega, by omega⟩ ?_)
  intro w2 h2
  have h3 : Stage F0 W0 (fbN p f c rp bm v n W s T S (updZ z i a) (updNF N i 0)) w2 := by
    have h4 := h2.take 6
    rw [trF_del z N i a] at h4
    exact h4
  go_wp2_with fail
  refine bodyPost_ret (results_none rfl _ _ _) rfl ?_
  exact ⟨rfl, h3⟩
set_option maxRecDepth 100000 in
/-- Those are a heap's trees. -/
theorem keep_fb (h : Stage F0 W0 (fbN p f c rp bm v n W s T S z N) w) {i : Nat} (hi : i < 65537) (a : Int) (k : Nat) : Calls Tryz.prog 234 #[.pointer (some ⟨p, 0, none⟩), .int .i64 i, trV a k] w fun e w' =>
    e = .returned (.tuple #[]) ∧ Stage F0 W0 (fbN p f c rp bm v n W s T S (updZ z i a) (updNF N i k)) w' := by
  by_cases hk : k = 0
  · subst hk
    exact keep0_fb h hi a
  have hk1 : ((k : Int) == 0) = false := by rw [beq_eq_false_iff_ne]; omega
  obtain ⟨w1, hw1, h1⟩ : ∃ w1, w.alloc (.cells #[.int .i64 a, .int .i64 k] 343) = w1 ∧ Stage F0 W0 (fbN p f c rp bm v n W s T S z N ++ [Ob.box w.heap.size #[.int .i64 a, .int .i64 k] 343]) w1 := ⟨_, rfl, h.alloc _ _⟩
  have t0 := h1.cell 6 rfl (o := 0) rfl
  have t1 := h1.cell 6 rfl (o := 1) rfl
  have p2 : w1.cell? ⟨p, 2, none⟩ = some (.map (some bm)) := h1.cell 4 rfl rfl
  unfold trV
  clear h
  go_enter Tryz.func234, Tryz.ntmps234
  go_wp2_with fail
  go_still_tail 6, (by kernel_rfl)
  change wpList _ _ _ _ _ w1.drew
  go_wp2_with (at_mapUpdate; refine Stage.wp_putT h1.drew 5 rfl rfl _ _ _ rfl Tryz.underlying192 Tryz.underlying3 (by unfold maxLen; omega) rfl i (trV a k) rfl rfl hi ?_)
  intro w2 h2
  have h3 : Stage F0 W0 (fbN p f c rp bm v n W s T S (updZ z i a) (updNF N i k)) w2 := by
    have h4 := h2.take 6
    rw [trF_put z N i a hk] at h4
    exact h4
  go_wp2_with fail
  go_end0
  exact ⟨rfl, h3⟩
end
end Go.Proofs.YtkcicnflcilekaaGreat

namespace Go.Proofs.YtkcicnflcilekaaGreat
open Go.RowKit Go.Sort

/-- What a call takes, against what is loose. -/
def FiPaid (W W' : WS) (g g' : FiG) : Prop := (∀ b, (allW W).length < 2 ^ b → g'.s + (potN W' g'.K (lostOf g'.T) : Nat) ≤ g.s + (potN W g.K (lostOf g.T) : Nat) + ((4 + 4 * b : Nat) : Int)) ∧ (allW W').length ≤ (allW W).length + 1
theorem fipaid_none (W : WS) (g : FiG) : FiPaid W W g g := ⟨fun b _ => by omega, by omega⟩
section
variable {F0 : Nat → Prop} {W0 w : World} {p f c rp bm n : Nat} {v : Value} {W W' : WS} {s : Int} {K : Int → List Int} {R : Nat → List Int} {T : Int → Node} {S : RSt} {z : Nat → Int} {N : Nat → Nat} {F : Nat → Prop} {g : FiG}
theorem fib_close {w' : World} (hs : Stage F w (fbN p f c rp bm v n W' s T S z N) w') (hF : ∀ b, F b → b < w.heap.size) (I : FiOk n W' K R T S z) (hN : N = lenR R) : ∃ F', (Ob.fibn p c W' ⟨s, K, R, T⟩).holds w' F' ∧ Moved F F' w w' := by
  subst hN
  obtain ⟨F', h1, m⟩ := hs.close hF
  have h2 := nf_fit (q := fbQ p f c bm z (lenR R)) hs
  exact ⟨F', ⟨f, rp, bm, v, n, S, z, I, h2.1, h2.2, h1⟩, m⟩
theorem FiOk.zero (I : FiOk n W K R T S z) : R 0 = [] := by
  cases e : R 0 with
  | nil => rfl
  | cons x l => have := (I.mid.is 0 x (by rw [e]; simp)).1; omega
theorem FiOk.none' (I : FiOk n W K R T S z) {h : Nat} (hp : 1 ≤ h) (h0 : R h = []) : lenW W h = 0 := by
  rw [← (homes_all W).empty hp]
  cases e : slotsW W h with
  | nil => rfl
  | cons y l =>
    obtain ⟨h4, h5⟩ := mem_slotsW (show y ∈ slotsW W h by rw [e]; simp)
    exact absurd h5 (I.mid.none h0 h4)
theorem FiOk.isMin (I : FiOk n W K R T S z) {h : Nat} (h0 : R h ≠ []) : ∃ k : Nat, z h = k ∧ IsMin W h k := by
  obtain ⟨h1, h2, h3, _⟩ := I.mid.is h (z h) (I.best h h0).1
  exact (homes_all W).min (((homes_all W).mem h _ h1).2 h3) fun y hy => by
    obtain ⟨h4, h5⟩ := mem_slotsW hy
    exact I.min h0 y h4 h5
/-- What is looked up is the heap's first slot. -/
theorem FiOk.first (I : FiOk n W K R T S z) (y : Int) : ∃ k : Int, (trF z (lenR R) y).getD (trV 0 0) = trV (minI W y) k ∧ (trF z (lenR R) y).isSome = minB W y := by
  by_cases hp : 1 ≤ y
  · obtain ⟨k, rfl⟩ : ∃ k : Nat, y = k := ⟨y.toNat, by omega⟩
    obtain ⟨e1, e2⟩ := trF_at z (lenR R) k
    rw [e1, e2]
    by_cases h0 : R k = []
    · obtain ⟨q1, q2⟩ := minI_none (min_none_iff.2 (I.none' (by omega) h0))
      have : lenR R k = 0 := by unfold lenR; rw [h0]; rfl
      rw [q1, q2, this]
      exact ⟨_, rfl, rfl⟩
    · obtain ⟨m, hm1, hm2⟩ := I.isMin h0
      obtain ⟨q1, q2⟩ := minI_some (min_of hm2)
      have : lenR R k ≠ 0 := fun e => h0 (List.eq_nil_of_length_eq_zero e)
      rw [q1, q2, if_neg this, hm1]
      exact ⟨_, rfl, by simpa using this⟩
  · have hz : lenW W y = 0 := by simp [lenW, show ¬ 0 < y by omega]
    obtain ⟨q1, q2⟩ := minI_none (min_none_iff.2 hz)
    have : trF z (lenR R) y = none := by
      unfold trF
      by_cases h0 : y = 0
      · subst h0
        rw [if_neg (fun e => e.2 (by unfold lenR; rw [show (0 : Int).toNat = 0 from rfl, I.zero]; rfl))]
      · rw [if_neg (fun e => by omega)]
    rw [q1, q2, this]
    exact ⟨_, rfl, rfl⟩
theorem min_stF (I : FiOk n W K R T S z) (hs : Stage F0 W0 (fbN p f c rp bm v n W s T S z (lenR R)) w) (y : Int) (hy : inInt y) : Calls Tryz.prog 233 #[.pointer (some ⟨p, 0, none⟩), .int .i64 y] w fun e w' => e = .returned (.tuple #[.int .i64 (minI W y), .bool (minB W y)]) ∧ Below w.heap.size w w' := by
  have hL := fn_lookOk hs y hy
  obtain ⟨k, e1, e2⟩ := I.first y
  rw [e1, e2] at hL
  have p2 := fn_p2 hs
  clear e1 e2 I hs
  generalize minI W y = a at *
  generalize minB W y = b at *
  unfold trV at hL
  have hb := ((Stage.start w).alloc #[.int .i64 a, .int .i64 k] 343).below
  go_enter Tryz.func233, Tryz.ntmps233
  go_wp2_with fail
  exact bodyPost_ret (v := .tuple #[.int .i64 a, .bool b]) (by simp [results, Tryz.results233, go_sem]) rfl ⟨rfl, hb⟩
/-- The one that comes in, and the trees of its heap. -/
theorem ins_join (I : FiOk n W K R T S z) {W' : WS} {h : Nat} {x : Int} (hc : (R h).length < 65536) (hs : Stage F0 W0 (fbN p f c rp bm v n W' s T S z (lenR R)) w) :
    ∃ (a : Int) (s' : Int) (S' : RSt), ((R h = [] ∧ S' = S ∧ a = x) ∨ (R h ≠ [] ∧ S' = spliceS n S (z h) x ∧ a = lkC W' (z h) x)) ∧ (s ≤ s' ∧ s' ≤ s + 1) ∧
      Calls Tryz.prog 237 #[.pointer (some ⟨f, 0, none⟩), (trF z (lenR R) h).getD (trV 0 0), trV x 1] w fun e w' => e = .returned (trV a ((R h).length + 1)) ∧ Stage F0 W0 (fbN p f c rp bm v n W' s' T S' z (lenR R)) w' := by
  rw [(trF_at z (lenR R) h).1]
  by_cases h0 : R h = []
  · have e0 : lenR R h = 0 := by unfold lenR; rw [h0]; rfl
    rw [e0, if_pos rfl]
    refine ⟨x, s, S, Or.inl ⟨h0, rfl, rfl⟩, ⟨Int.le_refl _, by omega⟩, ?_⟩
    have e1 : (R h).length = 0 := by rw [h0]; rfl
    rw [e1]
    exact join_b hs 0 x 1
  · have e0 : lenR R h ≠ 0 := fun e => h0 (List.eq_nil_of_length_eq_zero e)
    rw [if_neg e0]
    have hst := (nf_fit (q := fbQ p f c bm z (lenR R)) hs).2
    refine ⟨_, aheadS W' s x (z h), _, Or.inr ⟨h0, rfl, rfl⟩, ?_, ?_⟩
    · unfold aheadS addI
      repeat' split
      all_goals omega
    · exact join_ab hs I.tied.good.back (z h) x (R h).length 1 (List.length_pos_iff.2 h0) (by omega) (by omega)
set_option maxRecDepth 100000 in
theorem insert_fib (y x k q : Int) (h : (Ob.fibn p c W g).holds w F) : Calls Tryz.prog 231 #[.pointer (some ⟨p, 0, none⟩), .int .i64 y, .int .i64 x, .agg #[.int .i64 k, .int .u64 q]] w fun e w' => e = .returned (.bool (putB W y x)) ∧ ∃ g' F', FiPaid W (putW W y x k q) g g' ∧ (putB W y x = true → g'.K = g.K ∧ g'.R = updRF g.R y.toNat (g.R y.toNat ++ [x])) ∧ (Ob.fibn p c (putW W y x k q) g').holds w' F' ∧ Moved F F' w w' := by
  have hF := (Ob.fibn p c W g).lt h
  obtain ⟨f, rp, bm, v, n, S, z, I, hf, _, hg⟩ := h
  obtain ⟨s, K, R, T⟩ := g
  dsimp only at I hg ⊢
  have hs := Ob.group.open hg
  clear hg
  obtain ⟨w0, hw0, hs0⟩ : ∃ w0, w.alloc (.cells #[.int .i64 k, .int .u64 q] 94) = w0 ∧ Stage F w (fbN p f c rp bm v n W s T S z (lenR R) ++ [Ob.box w.heap.size #[.int .i64 k, .int .u64 q] 94]) w0 := ⟨_, rfl, hs.alloc _ _⟩
  have hC := hs0.drew.call 1 rfl (fun _ ho => put_cl y x k q ho)
  have b0 := hs0.cell 6 rfl (o := 0) rfl
  have b1 := hs0.cell 6 rfl (o := 1) rfl
  have p0 := hs0.cell 4 rfl (o := 0) rfl
  cases hB : putB W y x
  · have eW : putW W y x k q = W := by simp [putW, hB]
    rw [hB, eW] at hC
    rw [eW]
    clear hs eW
    go_enter Tryz.func231, Tryz.ntmps231
    go_wp2_with fail
    go_still_tail 7, (by kernel_rfl)
    change wpList _ _ _ _ _ w0.drew
    go_wp2_with fail
    refine hC.mono ?_
    rintro e w1 ⟨rfl, hs1⟩
    have hs2 : Stage F w (fbN p f c rp bm v n W s T S z (lenR R)) w1 := hs1.take 6
    obtain ⟨F', hc⟩ := fib_close hs2 hF I rfl
    go_wp2_with fail
    go_ret
    exact ⟨rfl, _, F', fipaid_none W _, (fun e => by cases e), hc⟩
  · obtain ⟨i, rfl, hi1, hi2⟩ : ∃ i : Nat, y = i ∧ 1 ≤ i ∧ i < 65537 := by
      have hB2 := hB
      simp only [putB, Bool.and_eq_true] at hB2
      obtain ⟨i, rfl, h1, h2, _⟩ := has_nat hB2.1
      have := hf.len
      exact ⟨i, rfl, h1, by omega⟩
    have hPut := fun (T' : Int → Node) (S' : RSt) (a : Int) hTS => I.put (k := k) (s := q) hB hi1 (_T' := T') (S' := S') (a := a) hTS
    rw [hB] at hC
    have hfew : (R i).length < 65536 := by
      have h1 := (homes_put (k := k) (s := q) (homes_all W) hB hi1).2.1
      have h2 := (homes_put (k := k) (s := q) (homes_all W) hB hi1).2.2.1
      have h3 := prin_slot h2
      have e3 : (putW W i x k q).cells.length = n := by rw [← I.len]; unfold putW; split <;> simp
      rw [e3] at h3
      have h4 := sub_len (m := x :: R i) (l := (List.range n).map fun i : Nat => (i : Int)) (List.nodup_cons.2 ⟨fun k => (by have := (I.mid.is i x k).2.1; rw [h1] at this; cases this), I.mid.nd i⟩) (fun y hy => by
        rw [mem_ints]
        rcases List.mem_cons.1 hy with rfl | hy
        · exact h3
        · have := prin_slot (I.mid.is i y hy).2.1
          rwa [I.len] at this)
      have := I.tied.good.few
      simp at h4
      omega
    clear hs
    generalize hW1 : putW W i x k q = W1 at *
    clear hW1
    go_enter Tryz.func231, Tryz.ntmps231
    go_wp2_with fail
    go_still_tail 7, (by kernel_rfl)
    change wpList _ _ _ _ _ w0.drew
    go_wp2_with fail
    refine hC.mono ?_
    rintro e w1 ⟨rfl, hs1⟩
    have hs2 : Stage F w (fbN p f c rp bm v n W1 s T S z (lenR R)) w1 := hs1.take 6
    clear hs1 hC b0 b1 p0 hw0 hs0
    have p1 := fn_p1 hs2
    have p2 := fn_p2 hs2
    have hlk := fn_look hs2.drew (i : Int) ⟨by omega, by omega⟩
    obtain ⟨a, s', S', hTS, hs', hJ⟩ := ins_join (x := x) I hfew hs2.drew
    obtain ⟨I2, hp1, hp2⟩ := hPut T S' a hTS
    have hK : ∀ (w2 : World), Stage F w (fbN p f c rp bm v n W1 s' T S' z (lenR R)) w2 → Calls Tryz.prog 234 #[.pointer (some ⟨p, 0, none⟩), .int .i64 i, trV a (((R i).length : Int) + 1)] w2 fun e w' => e = .returned (.tuple #[]) ∧ Stage F w (fbN p f c rp bm v n W1 s' T S' (updZ z i a) (updNF (lenR R) i ((R i).length + 1))) w' := fun w2 h2 => keep_fb h2 hi2 a ((R i).length + 1)
    have hN : updNF (lenR R) i ((R i).length + 1) = lenR (updRF R i (R i ++ [x])) := by rw [lenR_upd]; simp
    clear hs2 hPut hTS
    generalize (trF z (lenR R) i).getD (trV 0 0) = tv at *
    go_wp2_with fail
    go_region_held3 (fun w' => w'.cell? ⟨p, 1, none⟩ = some (.pointer (some ⟨f, 0, none⟩)) ∧ w'.cell? ⟨p, 2, none⟩ = some (.map (some bm))) (first | exact ⟨p1, p2⟩ | exact pk | exact pk3 | simp [*])
      (first
      | (((with_reducible refine hJ.mono ?_); rintro e w2 ⟨rfl, h7⟩; have hKK := hK w2 h7; have pk : w2.cell? ⟨p, 1, none⟩ = some (.pointer (some ⟨f, 0, none⟩)) ∧ w2.cell? ⟨p, 2, none⟩ = some (.map (some bm)) := ⟨fn_p1 h7, fn_p2 h7⟩))
      | (((with_reducible refine hKK.mono ?_); rintro e w3 ⟨rfl, h8⟩; have pk3 : w3.cell? ⟨p, 1, none⟩ = some (.pointer (some ⟨f, 0, none⟩)) ∧ w3.cell? ⟨p, 2, none⟩ = some (.map (some bm)) := ⟨fn_p1 h8, fn_p2 h8⟩)))
    rw [hN] at h8
    obtain ⟨F', hc⟩ := fib_close h8 hF I2 rfl
    clear hJ hK hKK h7 pk pk3 h8 hN
    go_wp2_with fail
    go_ret
    exact ⟨rfl, _, F', ⟨fun b _ => by show s' + ((potN W1 K (lostOf T) : Nat) : Int) ≤ s + ((potN W K (lostOf T) : Nat) : Int) + _; omega, hp2⟩, (fun _ => ⟨rfl, rfl⟩), hc⟩
end
end Go.Proofs.YtkcicnflcilekaaGreat

namespace Go.Proofs.YtkcicnflcilekaaGreat
open Go.RowKit Go.Sort

section
variable {F0 : Nat → Prop} {W0 w : World} {p f c rp bm n : Nat} {v : Value} {W W' : WS} {s : Int} {K : Int → List Int} {R : Nat → List Int} {T : Int → Node} {S : RSt} {z : Nat → Int} {N : Nat → Nat} {F : Nat → Prop} {g : FiG}
end
end Go.Proofs.YtkcicnflcilekaaGreat

namespace Go.Proofs.YtkcicnflcilekaaGreat
open Go.RowKit Go.Sort

section
variable {F0 : Nat → Prop} {W0 w : World} {p f c rp bm n : Nat} {v : Value} {W W' : WS} {s : Int} {K : Int → List Int} {R : Nat → List Int} {T : Int → Node} {S : RSt} {z : Nat → Int} {N : Nat → Nat} {F : Nat → Prop} {g : FiG}
end
end Go.Proofs.YtkcicnflcilekaaGreat

namespace Go.Proofs.YtkcicnflcilekaaGreat
open Go.RowKit Go.Sort

/-- So far filled. -/
def fillsN (n j : Nat) : List Node := List.replicate j .no ++ List.replicate (n - j) ⟨0, 0, 0, false⟩
theorem fills_cells_nd (n j : Nat) (h : j ≤ n) : (cellsBy ndC (fillsN n j)).length = n * 4 := by
  rw [cellsBy_length ndC 4 ndC_len]; simp [fillsN]; omega
/-- m more of them, taken from the beginning of the row, or from a row of one. -/
theorem fills_more_nd {n j m : Nat} (_h : j + m ≤ n) : (cellsBy ndC (fillsN n j)).take (j * 4) ++ cellsBy ndC (List.replicate m .no) ++ (cellsBy ndC (fillsN n j)).drop (j * 4 + (cellsBy ndC (List.replicate m .no)).length) = cellsBy ndC (fillsN n (j + m)) := by
  rw [cellsBy_length ndC 4 ndC_len, List.length_replicate, show j * 4 + m * 4 = (j + m) * 4 by omega, cellsBy_take ndC 4 ndC_len, cellsBy_drop ndC 4 ndC_len, ← cellsBy_append, ← cellsBy_append]
  congr 1
  have e1 : (fillsN n j).take j = List.replicate j .no := by unfold fillsN; rw [List.take_left' (by simp)]
  have e2 : (fillsN n j).drop (j + m) = List.replicate (n - (j + m)) ⟨0, 0, 0, false⟩ := by
    unfold fillsN
    rw [List.drop_append, List.length_replicate, show j + m - j = m by omega, List.drop_eq_nil_of_le (by simp), List.nil_append, List.drop_replicate]
    congr 1; omega
  rw [e1, e2]
  unfold fillsN
  rw [List.replicate_append_replicate]
theorem fills_all_nd (n : Nat) : cellsBy ndC (fillsN n n) = cellsBy ndC (rawN n fun _ => .no) := by
  congr 1
  apply List.ext_getElem
  · simp [fillsN, rawN]
  · intro i h1 h2
    simp [fillsN, rawN]
theorem fills_none_nd (n : Nat) : (madeCells #[.int .i64 0, .int .i64 0, .int .i64 0, .bool false] (n * 4)).toList = cellsBy ndC (fillsN n 0) := by
  rw [made_rows (f := ndC) ndC_len (by decide) ⟨0, 0, 0, false⟩ #[.int .i64 0, .int .i64 0, .int .i64 0, .bool false] rfl n]
  simp [fillsN]
theorem nd_one (m : Nat) : ∀ v ∈ cellsBy ndC (List.replicate m Node.no), v.oneCell' = true := by
  intro v hv
  simp only [cellsBy, List.mem_flatMap, List.mem_replicate] at hv
  obtain ⟨a, ⟨_, rfl⟩, h⟩ := hv
  simp only [ndC, List.mem_cons, List.not_mem_nil, or_false] at h
  rcases h with rfl | rfl | rfl | rfl <;> rfl
theorem info_nd : (Tryz.prog.info? 246).map (fun i => (i.zero, i.size, i.bytes)) = some (some (.agg #[.int .i64 0, .int .i64 0, .int .i64 0, .bool false]), 4, 32) := by kernel_rfl
section
variable {F0 : Nat → Prop} {W w : World} {l : List Ob}
end
section
variable {F0 : Nat → Prop} {W w : World} {l : List Ob} {P : Program}
/-- m more ties are copied behind the first j. -/
theorem run_fill_nd (hs : Stage F0 W l w) (i : Nat) {g n j m dCap sLen sCap : Nat} {t : TypeId} (hi : l[i]? = some (Ob.box g (cellsBy ndC (fillsN n j)).toArray t)) (hj : j ≤ n) (hm : m = Nat.min sLen (n - j)) (ad : Addr) (dT ty elem : TypeId) (hu : P.underlying dT = some (.slice elem)) (hsz : (P.info? elem).map (·.size) = some 4)
    (hsrc : ∀ u v, (cellsBy ndC (List.replicate m Node.no))[u]? = some v → w.cell? (ad.add u) = some v) :
    ∃ w', (Builtin.copy_ #[dT, dT] ty #[.slice (some ⟨g, j * 4, none⟩) (n - j) dCap, .slice (some ad) sLen sCap]).run P w = .ok (goInt m) w' ∧ Stage F0 W (l.set i (Ob.box g (cellsBy ndC (fillsN n (j + m))).toArray t)) w' := by
  have hle : j + m ≤ n := by have : Nat.min sLen (n - j) ≤ n - j := Nat.min_le_right _ _; omega
  have h := run_copy_rows (P := P) w dT dT ty elem g (j * 4) (n - j) dCap ad sLen sCap 4 (cellsBy ndC (fillsN n j)).toArray t (cellsBy ndC (List.replicate m Node.no)) hu hsz (hs.blk i hi) (by rw [cellsBy_length ndC 4 ndC_len, List.length_replicate, hm]) hsrc
    (by rw [cellsBy_length ndC 4 ndC_len, List.length_replicate, List.size_toArray, fills_cells_nd n j hj]; omega) (nd_one m)
  rw [← hm, fills_more_nd hle] at h
  exact ⟨_, h, hs.setRow i hi _⟩
/-- What was filled so far may be read. -/
theorem fills_read_nd (hs : Stage F0 W l w) (i : Nat) {g n j m : Nat} {t : TypeId} (hi : l[i]? = some (Ob.box g (cellsBy ndC (fillsN n j)).toArray t)) (hm : m ≤ j) : ∀ u v, (cellsBy ndC (List.replicate m Node.no))[u]? = some v → w.cell? ((⟨g, 0, none⟩ : Addr).add u) = some v := fun u v h => by
  rw [add_at, Nat.zero_add]
  refine hs.cell i hi ?_
  have e : cellsBy ndC (fillsN n j) = cellsBy ndC (List.replicate m Node.no) ++ cellsBy ndC (List.replicate (j - m) Node.no ++ List.replicate (n - j) ⟨0, 0, 0, false⟩) := by
    rw [← cellsBy_append, ← List.append_assoc, List.replicate_append_replicate, show m + (j - m) = j by omega]; rfl
  rw [e]
  have hlt : u < (cellsBy ndC (List.replicate m Node.no)).length := (List.getElem?_eq_some_iff.1 h).1
  rw [List.getElem?_toArray, List.getElem?_append_left hlt]; exact h
end
section
variable {F0 : Nat → Prop} {W w : World} {b : Nat}
set_option maxRecDepth 100000 in
set_option maxHeartbeats 1000000 in
/-- n nodes: a new row. -/
theorem repeat_st_nd {l : List Ob} (hs : Stage F0 W (Ob.box b #[.int .i64 (-1), .int .i64 (-1), .int .i64 0, .bool false] 246 :: l) w) (n : Nat) (hn : n ≤ 65536) :
    Calls Tryz.prog 110 #[.slice (some ⟨b, 0, none⟩) 1 1, .int .i64 n] w fun e w' => ∃ g, e = .returned (.slice (some ⟨g, 0, none⟩) n n) ∧ Stage F0 W (Ob.box b #[.int .i64 (-1), .int .i64 (-1), .int .i64 0, .bool false] 246 :: (l ++ [Ob.row 0 246 4 (.slice (some ⟨g, 0, none⟩) n n) n (cellsBy ndC (rawN n fun _ => .no))])) w' := by
  have hM := mul_one_any n hn w
  have hmk := run_make_rows (P := Tryz.prog) 243 246 _ 4 32 Tryz.underlying243 info_nd n (by omega) (by omega)
  have hs1 := hs.alloc (madeCells #[.int .i64 0, .int .i64 0, .int .i64 0, .bool false] (n * 4)) 246
  have hn1 : ¬ (n : Int) < 0 := by omega
  have hn2 : decide ((9223372036854775807 : Int) < n) = false := by simp; omega
  have hsz : (Tryz.prog.info? 246).map (·.size) = some 4 := by kernel_rfl
  have em : (madeCells #[.int .i64 0, .int .i64 0, .int .i64 0, .bool false] (n * 4)) = (cellsBy ndC (fillsN n 0)).toArray := by rw [← fills_none_nd, Array.toArray_toList]
  have hs1' : Stage F0 W (Ob.box b #[.int .i64 (-1), .int .i64 (-1), .int .i64 0, .bool false] 246 :: (l ++ [Ob.box w.heap.size (cellsBy ndC (fillsN n 0)).toArray 246])) (w.alloc (.cells (madeCells #[.int .i64 0, .int .i64 0, .int .i64 0, .bool false] (n * 4)) 246)) := by rw [← em]; exact hs1
  obtain ⟨g, hg⟩ : ∃ g, w.heap.size = g := ⟨_, rfl⟩
  rw [hg] at hs1'
  obtain ⟨m, hm⟩ : ∃ m, m = Nat.min 1 n := ⟨_, rfl⟩
  obtain ⟨w2, hcp, hs2⟩ := run_fill_nd (P := Tryz.prog) hs1' (l.length + 1) (m := m) (dCap := n) (sLen := 1) (sCap := 1) (set_last _ _ _ (Ob.box g (cellsBy ndC (fillsN n (0 + m))).toArray 246)).1 (Nat.zero_le n) hm ⟨b, 0, none⟩ 243 3 246 Tryz.underlying243 hsz (fun u v h => by
    rw [add_at, Nat.zero_add]
    refine hs1'.cell 0 rfl ?_
    have hmm : m ≤ 1 := by rw [hm]; exact Nat.min_le_left _ _
    obtain rfl | rfl : m = 0 ∨ m = 1 := by omega
    · simp [cellsBy] at h
    · rw [show (#[.int .i64 (-1), .int .i64 (-1), .int .i64 0, .bool false] : Array Value) = (cellsBy ndC (List.replicate 1 Node.no)).toArray from rfl, List.getElem?_toArray]; exact h)
  rw [Nat.zero_add, (set_last _ _ _ (Ob.box g (cellsBy ndC (fillsN n m)).toArray 246)).2] at hs2
  rw [Nat.zero_mul, Nat.sub_zero] at hcp
  have hmn : m ≤ n ∧ (0 < n → 0 < m) := by rw [hm]; exact ⟨Nat.min_le_right _ _, fun h => by show 0 < Nat.min 1 n; rw [show Nat.min 1 n = 1 from Nat.min_eq_left h]; omega⟩
  have hgo : (goInt m : Value) = .int .i64 m := rfl
  rw [hgo, em] at hcp
  clear hs hs1 hs1' hm
  go_enter Tryz.func110, Tryz.ntmps110
  go_wp2_with fail
  refine hM.mono ?_
  rintro e w1 ⟨rfl, rfl⟩
  clear hM
  go_wp2_with fail
  clear hcp hmk
  go_loopw [8, 34, 35, 36, 37, 38, 39, 40, 41, 42, 43, 44, 45, 46] (fun i _ _ _ _ _ _ _ _ _ _ _ _ _ wr => ∃ j : Nat, i = .int .i64 j ∧ j ≤ n ∧ (0 < n → 0 < j) ∧ Stage F0 W (Ob.box b #[.int .i64 (-1), .int .i64 (-1), .int .i64 0, .bool false] 246 :: (l ++ [Ob.box g (cellsBy ndC (fillsN n j)).toArray 246])) wr) (fun i _ _ _ _ _ _ _ _ _ _ _ _ _ _ => n - (intOf i).toNat)
  case atStart => exact ⟨m, rfl, hmn.1, hmn.2, hs2⟩
  case round =>
    clear hs2 hmn
    obtain ⟨j, rfl, hj, hj0, hs⟩ := hrel
    by_cases hlt : j < n
    · obtain ⟨k, hk⟩ : ∃ k, k = Nat.min j (n - j) := ⟨_, rfl⟩
      have hsd := hs.drew
      obtain ⟨w3, hcp, hs3⟩ := run_fill_nd (P := Tryz.prog) hsd (l.length + 1) (m := k) (dCap := n - j) (sLen := j) (sCap := n) (set_last _ _ _ (Ob.box g (cellsBy ndC (fillsN n (j + k))).toArray 246)).1 hj hk ⟨g, 0, none⟩ 243 3 246 Tryz.underlying243 hsz
        (fills_read_nd hsd (l.length + 1) (set_last _ _ _ (Ob.box g #[] 0)).1 (by rw [hk]; exact Nat.min_le_left _ _))
      rw [(set_last _ _ _ (Ob.box g (cellsBy ndC (fillsN n (j + k))).toArray 246)).2] at hs3
      rw [show (goInt k : Value) = .int .i64 k from rfl] at hcp
      have hk2 : 0 < k ∧ j + k ≤ n := by
        have h1 : k ≤ n - j := by rw [hk]; exact Nat.min_le_right _ _
        refine ⟨?_, by omega⟩
        rw [hk]
        have : 0 < min j (n - j) := by omega
        exact this
      have hji : (j : Int) < n := by omega
      clear hs hsd hk
      go_wp2_with fail
      go_region
      go_roundw
      case rel => exact ⟨_, _, _, _, _, _, _, _, _, _, _, _, _, _, ⟨j + k, by go_num, hk2.2, fun _ => by omega, hs3⟩, rfl⟩
      case measure => simp [intOf]; omega
    · obtain rfl : j = n := by omega
      go_wp2_with fail
      have hs4 := hs.asRow (l.length + 1) (n := j) (z := 4) (set_last _ _ _ (Ob.box g #[] 0)).1 (by rw [List.size_toArray, fills_cells_nd j j (Nat.le_refl _)]) (by unfold maxLen; omega)
      rw [(set_last _ _ _ _).2, fills_all_nd] at hs4
      go_ret
      exact ⟨g, rfl, hs4⟩
end
end Go.Proofs.YtkcicnflcilekaaGreat
