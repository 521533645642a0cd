/- Merged of FiNest4, RepeatN. -/
import Derived.Test.YtcjjglaimfhofaaFiNest3
import Derived.Test.YtcjjglaimfhofaaFiFreeMath
import Derived.Laws.CopyOwn
import Derived.Laws.BitsLemmas
import Derived.Laws.Bits64
namespace Go.Proofs.Ytcjjglaimfhofaa
open Go.RowKit Go.Sort

section
variable {F0 : Nat → Prop} {W0 w : World} {p f c rp bm n : Nat} {v : Value} {W W' : WS} {s : Int} {K : Int → List Int} {R : Nat → List Int} {T : Int → Node} {S : RSt} {z : Nat → Int} {N : Nat → Nat} {F : Nat → Prop} {g : FiG}
theorem Raised.off {WL : WS} {i : Nat} {a x b : Int} {P0 : Nat} {K' : Int → List Int} {R' : Nat → List Int} {T' : Int → Node} {S' : RSt} (E : Raised n W WL i a x P0 K R T S K' R' T' S' b) : ∀ g, g ≠ i → R' g = R g := fun g hg => by
  rcases E with ⟨_, rfl, _⟩ | ⟨F, _⟩
  · rfl
  · exact F.off g hg
set_option maxRecDepth 100000 in
set_option maxHeartbeats 1000000 in
theorem decrease_fib (x k q : Int) (h : (Ob.fibn p c W g).holds w F) : Calls Try.prog 122 #[.pointer (some ⟨p, 0, none⟩), .int .i64 x, .agg #[.int .i64 k, .int .u64 q]] w fun e w' => e = .returned (.bool (lowerB W x k q)) ∧ ∃ g' F', FiPaid W (lowerW W x k q) g g' ∧ (∀ i, (g.R i).length ≤ (g'.R i).length) ∧ (Ob.fibn p c (lowerW W x k q) g').holds w' F' ∧ Moved F F' w w' := by
  have hF := (Ob.fibn p c W g).lt h
  obtain ⟨f, rp, bm, v, n, S, z, I, hf, _, hg⟩ := h
  obtain ⟨s, K, R, T⟩ := g
  dsimp only at I hg ⊢
  have hs := Ob.group.open hg
  clear hg
  obtain ⟨w0, hw0, hs0⟩ : ∃ w0, w.alloc (.cells #[.int .i64 k, .int .u64 q] 63) = w0 ∧ Stage F w (fbN p f c rp bm v n W s T S z (lenR R) ++ [Ob.box w.heap.size #[.int .i64 k, .int .u64 q] 63]) w0 := ⟨_, rfl, hs.alloc _ _⟩
  have hH := hs0.call 1 rfl (fun _ ho => home_cl x ho)
  have p0 := hs0.cell 4 rfl (o := 0) rfl
  clear hs
  cases hB : inW W x
  · have eB : lowerB W x k q = false := by simp [lowerB, hB]
    have eW : lowerW W x k q = W := by simp [lowerW, eB]
    rw [hB] at hH
    rw [eB, eW]
    generalize ((cellW W x).home : Int) = hh at *
    clear eB eW
    go_enter Try.func122, Try.ntmps122
    go_wp2_with fail
    refine hH.mono ?_
    rintro e w1 ⟨rfl, hs1⟩
    have hs2 : Stage F w (fbN p f c rp bm v n W s T S z (lenR R)) w1 := hs1.take 6
    clear hH p0 hw0 hs0 hs1
    go_wp2_with fail
    go_quiet (fail)
    go_wp2_with fail
    go_ret
    obtain ⟨F', hc⟩ := fib_close (hs2.drewN _) hF I rfl
    exact ⟨rfl, _, F', fipaid_none W _, fun _ => Nat.le_refl _, hc⟩
  · obtain ⟨i, hk⟩ : ∃ i, (cellW W x).home = i := ⟨_, rfl⟩
    have h0 := I.at' hB
    rw [hk] at h0
    have hi2 := I.few hf h0
    have J := I.free hB hk
    have hxi := prin_slot hB
    rw [I.len] at hxi
    obtain ⟨xi, rfl⟩ : ∃ j : Nat, x = j := ⟨x.toNat, by have := hxi.1; omega⟩
    rw [hB, hk] at hH
    have hL := fun (w1 : World) (hs1 : Stage F w (fbN p f c rp bm v n W s T S z (lenR R) ++ [Ob.box w.heap.size #[.int .i64 k, .int .u64 q] 63]) w1) => hs1.drew.call 1 rfl (fun _ ho => lower_cl xi k q ho)
    have hLow := fun (hb : lowerB W xi k q = true) (K' : Int → List Int) (R' : Nat → List Int) (T' : Int → Node) (S' : RSt) (b : Int) (E : Raised n (lowerW W xi k q) W i (z i) xi (potN W K (lostOf T)) K R T S K' R' T' S' b) => I.lower hb hk E
    have hno : lowerB W xi k q = false → lowerW W xi k q = W := fun hlb => by simp [lowerW, hlb]
    generalize hW1 : lowerW W xi k q = W1 at *
    generalize hlb : lowerB W xi k q = B at *
    clear hlb hW1
    go_enter Try.func122, Try.ntmps122
    go_wp2_with fail
    refine hH.mono ?_
    rintro e w1 ⟨rfl, hs1⟩
    clear hH p0 hw0 hs0
    replace hs1 : Stage F w (fbN p f c rp bm v n W s T S z (lenR R) ++ [Ob.box w.heap.size #[.int .i64 k, .int .u64 q] 63]) w1 := hs1
    replace hL := hL w1 hs1
    have b0 := hs1.cell 6 rfl (o := 0) rfl
    have b1 := hs1.cell 6 rfl (o := 1) rfl
    have p0 : w1.cell? ⟨p, 0, none⟩ = some (.pointer (some ⟨c, 0, none⟩)) := hs1.cell 4 rfl (o := 0) rfl
    go_wp2_with fail
    go_region_held3 (fun w' => w'.cell? ⟨w.heap.size, 0, none⟩ = some (.int .i64 k) ∧ w'.cell? ⟨w.heap.size, 1, none⟩ = some (.int .u64 q) ∧ w'.cell? ⟨p, 0, none⟩ = some (.pointer (some ⟨c, 0, none⟩))) (first | exact ⟨b0, b1, p0⟩ | exact ⟨b0p, b1p, p0p⟩ | simp [*])
      ((with_reducible refine hL.mono ?_; rintro e w2 ⟨rfl, hs2⟩; have b0p := hs2.cell 6 rfl (o := 0) rfl; have b1p := hs2.cell 6 rfl (o := 1) rfl; have p0p : w2.cell? ⟨p, 0, none⟩ = some (.pointer (some ⟨c, 0, none⟩)) := hs2.cell 4 rfl (o := 0) rfl))
    have hs3 : Stage F w (fbN p f c rp bm v n W1 s T S z (lenR R)) w2 := hs2.take 6
    clear hL hs1 hs2 b0 b1 p0 b0p b1p p0p
    cases B with
    | false =>
      obtain rfl := hno rfl
      obtain ⟨F', hc⟩ := fib_close hs3 hF I rfl
      clear hLow hno J
      go_wp2_with fail
      go_ret
      exact ⟨rfl, _, F', fipaid_none W1 _, fun _ => Nat.le_refl _, hc⟩
    | true =>
      have p1 := fn_p1 hs3
      have p2 := fn_p2 hs3
      have hlk := fn_look hs3.drew (i : Int) ⟨by omega, by omega⟩
      rw [fn_trees I h0] at hlk
      have hRm := raise_fb hs3.drew J
      have hK : ∀ (w2 : World) (K' : Int → List Int) (R' : Nat → List Int) (T' : Int → Node) (S' : RSt) (b s' : Int), Raised n W1 W i (z i) xi (potN W K (lostOf T)) K R T S K' R' T' S' b → Stage F w (fbF f c rp v n W1 s' T' S' ++ fbQ p f c bm z (lenR R)) w2 → Calls Try.prog 49 #[.pointer (some ⟨p, 0, none⟩), .int .i64 i, trV b (R' i).length] w2 fun e w' => e = .returned (.tuple #[]) ∧ Stage F w (fbN p f c rp bm v n W1 s' T' S' (updZ z i b) (lenR R')) w' := fun w2 K' R' T' S' b s' E h2 => by
        have h3 := keep_fb h2 hi2 b (R' i).length
        rw [← lenR_off E.off] at h3
        exact h3
      replace hLow := hLow rfl
      clear hno hs3 J
      go_wp2_with fail
      go_region_held3 (fun w' => w'.cell? ⟨p, 1, none⟩ = some (.pointer (some ⟨f, 0, none⟩)) ∧ w'.cell? ⟨p, 2, none⟩ = some (.map (some bm))) (first | exact ⟨p1, p2⟩ | exact pk | exact pk3 | simp [*])
        (first
        | (((with_reducible refine hRm.mono ?_); rintro e w3 ⟨K', R', T', S', b, s', rfl, hE, hs', h7⟩; have hKK := hK w3 K' R' T' S' b s' hE h7; have pk : w3.cell? ⟨p, 1, none⟩ = some (.pointer (some ⟨f, 0, none⟩)) ∧ w3.cell? ⟨p, 2, none⟩ = some (.map (some bm)) := ⟨h7.cell 4 rfl rfl, h7.cell 4 rfl rfl⟩))
        | (((with_reducible refine hKK.mono ?_); rintro e w4 ⟨rfl, h8⟩; have pk3 : w4.cell? ⟨p, 1, none⟩ = some (.pointer (some ⟨f, 0, none⟩)) ∧ w4.cell? ⟨p, 2, none⟩ = some (.map (some bm)) := ⟨fn_p1 h8, fn_p2 h8⟩)))
      obtain ⟨I2, hq1, hq2, hq3⟩ := hLow K' R' T' S' b hE
      obtain ⟨F', hc⟩ := fib_close h8 hF I2 rfl
      clear hRm hK hKK h7 pk pk3 h8 hE hLow
      go_wp2_with fail
      go_ret
      refine ⟨rfl, _, F', ⟨fun b9 _ => ?_, by omega⟩, hq3, hc⟩
      show s' + ((potN W1 K' (lostOf T') : Nat) : Int) ≤ s + ((potN W K (lostOf T) : Nat) : Int) + _
      omega
/-- The trees of two heaps. -/
theorem meld_join (I : FiOk n W K R T S z) {W' : WS} {i j : Nat} (hij : i ≠ j) (hs : Stage F0 W0 (fbN p f c rp bm v n W' s T S z (lenR R)) w) :
    ∃ (a : Int) (s' : Int) (S' : RSt), ((R i = [] ∧ S' = S ∧ a = z j) ∨ (R i ≠ [] ∧ R j = [] ∧ S' = S ∧ a = z i) ∨ (R i ≠ [] ∧ R j ≠ [] ∧ S' = spliceS n S (z i) (z j) ∧ a = lkC W' (z i) (z j))) ∧ (s ≤ s' ∧ s' ≤ s + 1) ∧
      Calls Try.prog 50 #[.pointer (some ⟨f, 0, none⟩), (trF z (lenR R) i).getD (trV 0 0), (trF z (lenR R) j).getD (trV 0 0)] w fun e w' => (∃ b, e = .returned (trV b ((R i).length + (R j).length)) ∧ ((R i ++ R j) ≠ [] → b = a)) ∧ Stage F0 W0 (fbN p f c rp bm v n W' s' T S' z (lenR R)) w' := by
  by_cases hi : R i = []
  · have e0 : lenR R i = 0 := by unfold lenR; rw [hi]; rfl
    refine ⟨z j, s, S, Or.inl ⟨hi, rfl, rfl⟩, ⟨Int.le_refl _, by omega⟩, ?_⟩
    rw [(trF_at z (lenR R) i).1, e0, if_pos rfl, (trF_at z (lenR R) j).1]
    refine (join_b hs 0 _ (lenR R j)).mono fun e w' ⟨h1, h2⟩ => ⟨⟨if lenR R j = 0 then 0 else z j, by rw [h1, hi]; show _ = Ending.returned (trV _ (((0 : Nat) : Int) + _)); rw [Int.natCast_zero, Int.zero_add]; rfl, fun hne => ?_⟩, h2⟩
    rw [hi, List.nil_append] at hne
    exact if_neg (fun e : lenR R j = 0 => hne (List.eq_nil_of_length_eq_zero e))
  · rw [fn_trees I hi]
    by_cases hj : R j = []
    · have e0 : lenR R j = 0 := by unfold lenR; rw [hj]; rfl
      refine ⟨z i, s, S, Or.inr (Or.inl ⟨hi, hj, rfl, rfl⟩), ⟨Int.le_refl _, by omega⟩, ?_⟩
      rw [(trF_at z (lenR R) j).1, e0, if_pos rfl]
      exact (join_a hs (z i) 0 (R i).length (List.length_pos_iff.2 hi)).mono fun e w' ⟨h1, h2⟩ => ⟨⟨z i, by rw [h1, hj]; show _ = Ending.returned (trV _ (_ + ((0 : Nat) : Int))); rw [Int.natCast_zero, Int.add_zero], fun _ => rfl⟩, h2⟩
    · rw [fn_trees I hj]
      have hst := (nf_fit (q := fbQ p f c bm z (lenR R)) hs).2
      have hfew : (R i).length + (R j).length ≤ 65536 := by
        have h4 := sub_len (m := R i ++ R j) (l := (List.range n).map fun i : Nat => (i : Int)) (List.nodup_append.2 ⟨I.mid.nd i, I.mid.nd j, fun a ha b hb e => hij (I.mid.roots.one i j a ha (e ▸ hb))⟩) (fun y hy => by
          rw [mem_ints]
          have hro := I.mid.roots
          rw [I.len] at hro
          rcases List.mem_append.1 hy with hy | hy
          · exact (hro.is i y hy).1
          · exact (hro.is j y hy).1)
        have := I.tied.good.few
        simp at h4
        omega
      refine ⟨_, aheadS W' s (z j) (z i), _, Or.inr (Or.inr ⟨hi, hj, rfl, rfl⟩), ?_, (join_ab hs I.tied.good.back (z i) (z j) (R i).length (R j).length (List.length_pos_iff.2 hi) (List.length_pos_iff.2 hj) hfew).mono fun e w' ⟨h1, h2⟩ => ⟨⟨_, h1, fun _ => rfl⟩, h2⟩⟩
      unfold aheadS addI
      repeat' split
      all_goals omega
theorem FiOk.reZ {z' : Nat → Int} (I : FiOk n W K R T S z) (h : ∀ g, R g ≠ [] → z' g = z g) : FiOk n W K R T S z' := ⟨I.len, I.mid, I.tied, I.deg, fun g hg => by rw [h g hg]; exact I.best g hg⟩
set_option maxRecDepth 100000 in
set_option maxHeartbeats 1000000 in
theorem meld_fib (a b : Int) (h : (Ob.fibn p c W g).holds w F) : Calls Try.prog 124 #[.pointer (some ⟨p, 0, none⟩), .int .i64 a, .int .i64 b] w fun e w' => e = .returned (.bool (joinBW W a b)) ∧ ∃ g' F', FiPaid W (joinW W a b) g g' ∧ (joinBW W a b = true → (g'.R a.toNat).length = (g.R a.toNat).length + (g.R b.toNat).length) ∧ (Ob.fibn p c (joinW W a b) g').holds w' F' ∧ Moved F F' w w' := by
  have hF := (Ob.fibn p c W g).lt h
  obtain ⟨f, rp, bm, v, n, S, z, I, hf, _, hg⟩ := h
  obtain ⟨s, K, R, T⟩ := g
  dsimp only at I hg ⊢
  have hs := Ob.group.open hg
  clear hg
  have hJ := hs.call 1 rfl (fun _ ho => join_cl a b ho)
  have p0 := fn_p0 hs
  cases hB : joinBW W a b
  · have eW : joinW W a b = W := by simp [joinW, hB]
    rw [hB, eW] at hJ
    rw [eW]
    clear eW
    go_enter Try.func124, Try.ntmps124
    go_wp2_with fail
    refine hJ.mono ?_
    rintro e w1 ⟨rfl, hs1⟩
    have hs2 : Stage F w (fbN p f c rp bm v n W s T S z (lenR R)) w1 := hs1
    obtain ⟨F', hc⟩ := fib_close hs2 hF I rfl
    go_wp2_with fail
    go_ret
    exact ⟨rfl, _, F', fipaid_none W _, (fun e => by cases e), hc⟩
  · obtain ⟨i, j, rfl, rfl, hi1, hi2, hj1, hj2⟩ : ∃ i j : Nat, a = i ∧ b = j ∧ 1 ≤ i ∧ i < 65537 ∧ 1 ≤ j ∧ j < 65537 := by
      have hB2 := hB
      simp only [joinBW, Bool.and_eq_true, decide_eq_true_eq] at hB2
      obtain ⟨i, rfl, h1, h2, _⟩ := has_nat hB2.1
      obtain ⟨j, rfl, h3, h4, _⟩ := has_nat hB2.2.1
      have := hf.len
      exact ⟨i, j, rfl, rfl, h1, by omega, h3, by omega⟩
    have hne := (homes_join (homes_all W) hB hi1 hj1).1
    have hJn := fun (S' : RSt) (a : Int) hTS => I.join hB hi1 hj1 (S' := S') (a := a) hTS
    rw [hB] at hJ
    clear hs
    generalize hW1 : joinW W i j = W1 at *
    clear hW1
    go_enter Try.func124, Try.ntmps124
    go_wp2_with fail
    refine hJ.mono ?_
    rintro e w1 ⟨rfl, hs1⟩
    have hs2 : Stage F w (fbN p f c rp bm v n W1 s T S z (lenR R)) w1 := hs1
    clear hs1 hJ p0
    have p1 := fn_p1 hs2
    have p2 := fn_p2 hs2
    have hlk := fn_look hs2.drew (i : Int) ⟨by omega, by omega⟩
    have hlk2 := fn_look hs2.drew (j : Int) ⟨by omega, by omega⟩
    obtain ⟨a, s', S', hTS, hs', hM⟩ := meld_join I hne hs2.drew
    obtain ⟨I2, hq1, hq2⟩ := hJn S' a hTS
    have hK : ∀ (w2 : World) (b : Int), Stage F w (fbN p f c rp bm v n W1 s' T S' z (lenR R)) w2 → Calls Try.prog 49 #[.pointer (some ⟨p, 0, none⟩), .int .i64 i, trV b (((R i).length : Int) + (R j).length)] w2 fun e w' => e = .returned (.tuple #[]) ∧ Stage F w (fbN p f c rp bm v n W1 s' T S' (updZ z i b) (updN (lenR R) i ((R i).length + (R j).length))) w' := fun w2 b h2 => keep_fb h2 hi2 b ((R i).length + (R j).length)
    have hlen : updN (updN (lenR R) i ((R i).length + (R j).length)) j 0 = lenR (updR (updR R j []) i (R i ++ R j)) := by
      rw [lenR_upd, lenR_upd]
      funext g
      unfold updN
      by_cases e1 : g = j
      · rw [if_pos e1, if_neg (fun e => hne (e.symm.trans e1)), if_pos e1]; rfl
      · rw [if_neg e1, if_neg e1, List.length_append]
    clear hs2 hJn hTS
    generalize (trF z (lenR R) i).getD (trV 0 0) = tv at *
    generalize (trF z (lenR R) j).getD (trV 0 0) = tv2 at *
    go_wp2_with fail
    go_region_held3 (fun w' => w'.cell? ⟨p, 1, none⟩ = some (.pointer (some ⟨f, 0, none⟩)) ∧ w'.cell? ⟨p, 2, none⟩ = some (.map (some bm))) (first | exact ⟨p1, p2⟩ | exact pk | exact pk3 | simp [*])
      (first
      | (((with_reducible refine hM.mono ?_); rintro e w2 ⟨⟨b, rfl, hba⟩, h7⟩; have hKK := hK w2 b h7; have pk : w2.cell? ⟨p, 1, none⟩ = some (.pointer (some ⟨f, 0, none⟩)) ∧ w2.cell? ⟨p, 2, none⟩ = some (.map (some bm)) := ⟨fn_p1 h7, fn_p2 h7⟩))
      | (((with_reducible refine hKK.mono ?_); rintro e w3 ⟨rfl, h8⟩; have pk3 : w3.cell? ⟨p, 1, none⟩ = some (.pointer (some ⟨f, 0, none⟩)) ∧ w3.cell? ⟨p, 2, none⟩ = some (.map (some bm)) := ⟨fn_p1 h8, fn_p2 h8⟩)))
    all_goals
      have I3 : FiOk n W1 K (updR (updR R j []) i (R i ++ R j)) T S' (updZ (updZ z i b) j 0) := I2.reZ fun g hg => by
        unfold updZ
        by_cases e1 : g = j
        · rw [if_pos e1, if_pos e1]
        · rw [if_neg e1, if_neg e1]
          by_cases e2 : g = i
          · rw [if_pos e2, if_pos e2]
            rw [e2, updR_at] at hg
            exact hba hg
          · rw [if_neg e2, if_neg e2]
      have hK2 := keep0_fb h8 hj2 0
      rw [hlen] at hK2
      clear hM hK hKK h7 pk pk3 h8 hlen hba I2
      go_wp2_with fail
      refine hK2.mono ?_
      rintro e w4 ⟨rfl, h9⟩
      obtain ⟨F', hc⟩ := fib_close h9 hF I3 rfl
      clear hK2 h9
      go_wp2_with fail
      go_ret
      refine ⟨rfl, _, F', ⟨fun b9 _ => ?_, by omega⟩, fun _ => ?_, hc⟩
      · show s' + ((potN W1 K (lostOf T) : Nat) : Int) ≤ s + ((potN W K (lostOf T) : Nat) : Int) + _
        omega
      · show (updR (updR R j []) i (R i ++ R j) (i : Int).toNat).length = (R (i : Int).toNat).length + (R (j : Int).toNat).length
        rw [show (i : Int).toNat = i by simp, show (j : Int).toNat = j by simp, updR_at, List.length_append]
end
end Go.Proofs.Ytcjjglaimfhofaa

namespace Go.Proofs.Ytcjjglaimfhofaa
open Go.RowKit Go.Sort

theorem run_copy_rows {P : Program} (w : World) (dT sT ty elem : TypeId) (g o dLen dCap : Nat) (a : Addr) (sLen sCap z : Nat) (cur : Array Value) (t : TypeId) (cs : List Value)
    (hu : P.underlying dT = some (.slice elem)) (hs : (P.info? elem).map (·.size) = some z) (hg : w.heap[g]? = some (.cells cur t (0, 0))) (hn : cs.length = Nat.min sLen dLen * z)
    (hsrc : ∀ j v, cs[j]? = some v → w.cell? (a.add j) = some v) (hfit : o + cs.length ≤ cur.size) (h1 : ∀ v ∈ cs, v.oneCell' = true) :
    (Builtin.copy_ #[dT, sT] ty #[.slice (some ⟨g, o, none⟩) dLen dCap, .slice (some a) sLen sCap]).run P w =
      .ok (goInt (Nat.min sLen dLen)) (w.setRow g (cur.toList.take o ++ cs ++ cur.toList.drop (o + cs.length)).toArray) := by
  have hl := run_loadCells_list (P := P) w a cs hsrc
  have hst := run_storeCells_at P g o t cs 0 cur w hg (by simpa using hfit) h1
  cases hq : P.info? elem with
  | none => simp [hq] at hs
  | some i =>
    have hi : i.size = z := by simpa [hq] using hs
    rw [hn] at hl
    simp [Builtin.copy_, run_underlying hu, Builtin.lenOf, Builtin.firstCells, sizeOf, typeInfo, hq, hi, hl, hst]
/-- So far filled. -/
def fillsN (n j : Nat) : List Node := List.replicate j .no ++ List.replicate (n - j) ⟨0, 0, 0, false⟩
theorem fills_cells_nd (n j : Nat) (h : j ≤ n) : (cellsBy ndC (fillsN n j)).length = n * 4 := by
  rw [cellsBy_length ndC 4 ndC_len]; simp [fillsN]; omega
/-- m more of them, taken from the beginning of the row, or from a row of one. -/
theorem fills_more_nd {n j m : Nat} (_h : j + m ≤ n) : (cellsBy ndC (fillsN n j)).take (j * 4) ++ cellsBy ndC (List.replicate m .no) ++ (cellsBy ndC (fillsN n j)).drop (j * 4 + (cellsBy ndC (List.replicate m .no)).length) = cellsBy ndC (fillsN n (j + m)) := by
  rw [cellsBy_length ndC 4 ndC_len, List.length_replicate, show j * 4 + m * 4 = (j + m) * 4 by omega, cellsBy_take ndC 4 ndC_len, cellsBy_drop ndC 4 ndC_len, ← cellsBy_append, ← cellsBy_append]
  congr 1
  have e1 : (fillsN n j).take j = List.replicate j .no := by unfold fillsN; rw [List.take_left' (by simp)]
  have e2 : (fillsN n j).drop (j + m) = List.replicate (n - (j + m)) ⟨0, 0, 0, false⟩ := by
    unfold fillsN
    rw [List.drop_append, List.length_replicate, show j + m - j = m by omega, List.drop_eq_nil_of_le (by simp), List.nil_append, List.drop_replicate]
    congr 1; omega
  rw [e1, e2]
  unfold fillsN
  rw [List.replicate_append_replicate]
theorem fills_all_nd (n : Nat) : cellsBy ndC (fillsN n n) = cellsBy ndC (rawN n fun _ => .no) := by
  congr 1
  apply List.ext_getElem
  · simp [fillsN, rawN]
  · intro i h1 h2
    simp [fillsN, rawN]
theorem fills_none_nd (n : Nat) : (madeCells #[.int .i64 0, .int .i64 0, .int .i64 0, .bool false] (n * 4)).toList = cellsBy ndC (fillsN n 0) := by
  rw [made_rows (f := ndC) ndC_len (by decide) ⟨0, 0, 0, false⟩ #[.int .i64 0, .int .i64 0, .int .i64 0, .bool false] rfl n]
  simp [fillsN]
theorem nd_one (m : Nat) : ∀ v ∈ cellsBy ndC (List.replicate m Node.no), v.oneCell' = true := by
  intro v hv
  simp only [cellsBy, List.mem_flatMap, List.mem_replicate] at hv
  obtain ⟨a, ⟨_, rfl⟩, h⟩ := hv
  simp only [ndC, List.mem_cons, List.not_mem_nil, or_false] at h
  rcases h with rfl | rfl | rfl | rfl <;> rfl
theorem info_nd : (Try.prog.info? 109).map (fun i => (i.zero, i.size, i.bytes)) = some (some (.agg #[.int .i64 0, .int .i64 0, .int .i64 0, .bool false]), 4, 32) := by kernel_rfl
section
variable {F0 : Nat → Prop} {W w : World} {l : List Ob}
/-- A block that is known whole is a row of one's own. -/
theorem Stage.asRow (h : Stage F0 W l w) (i : Nat) {b n z : Nat} {c : Array Value} {t : TypeId} (hi : l[i]? = some (Ob.box b c t)) (hc : c.size = n * z) (hm : n ≤ maxLen) : Stage F0 W (l.set i (Ob.row 0 t z (.slice (some ⟨b, 0, none⟩) n n) n c.toList)) w :=
  h.weaken hi fun F ⟨h1, h2⟩ => ⟨⟨by simp [hc], .inr ⟨b, n, c, rfl, Nat.zero_le _, h1, Nat.le_refl _, hm, hc, by rw [← hc]; exact List.take_of_length_le (by simp)⟩⟩, by subst h2; funext k; exact propext ⟨fun e => by cases e; rfl, fun e => by cases e; rfl⟩⟩
theorem Stage.setRow (h : Stage F0 W l w) (i : Nat) {b : Nat} {c : Array Value} {t : TypeId} (hi : l[i]? = some (Ob.box b c t)) (c' : Array Value) : Stage F0 W (l.set i (Ob.box b c' t)) (w.setRow b c') :=
  h.moved hi fun F ⟨h1, h2⟩ => by
    subst h2
    have h3 := setRow_heap w b c c' t (0, 0) h1
    exact ⟨(· = b), ⟨h3, rfl⟩, ⟨rfl, rfl, rfl, by simp [World.setRow], fun k _ hn => setRow_other w b k c' hn⟩, fun _ x => Or.inl x⟩
end
section
variable {F0 : Nat → Prop} {W w : World} {l : List Ob} {P : Program}
/-- m more ties are copied behind the first j. -/
theorem run_fill_nd (hs : Stage F0 W l w) (i : Nat) {g n j m dCap sLen sCap : Nat} {t : TypeId} (hi : l[i]? = some (Ob.box g (cellsBy ndC (fillsN n j)).toArray t)) (hj : j ≤ n) (hm : m = Nat.min sLen (n - j)) (ad : Addr) (dT ty elem : TypeId) (hu : P.underlying dT = some (.slice elem)) (hsz : (P.info? elem).map (·.size) = some 4)
    (hsrc : ∀ u v, (cellsBy ndC (List.replicate m Node.no))[u]? = some v → w.cell? (ad.add u) = some v) :
    ∃ w', (Builtin.copy_ #[dT, dT] ty #[.slice (some ⟨g, j * 4, none⟩) (n - j) dCap, .slice (some ad) sLen sCap]).run P w = .ok (goInt m) w' ∧ Stage F0 W (l.set i (Ob.box g (cellsBy ndC (fillsN n (j + m))).toArray t)) w' := by
  have hle : j + m ≤ n := by have : Nat.min sLen (n - j) ≤ n - j := Nat.min_le_right _ _; omega
  have h := run_copy_rows (P := P) w dT dT ty elem g (j * 4) (n - j) dCap ad sLen sCap 4 (cellsBy ndC (fillsN n j)).toArray t (cellsBy ndC (List.replicate m Node.no)) hu hsz (hs.blk i hi) (by rw [cellsBy_length ndC 4 ndC_len, List.length_replicate, hm]) hsrc
    (by rw [cellsBy_length ndC 4 ndC_len, List.length_replicate, List.size_toArray, fills_cells_nd n j hj]; omega) (nd_one m)
  rw [← hm, fills_more_nd hle] at h
  exact ⟨_, h, hs.setRow i hi _⟩
/-- What was filled so far may be read. -/
theorem fills_read_nd (hs : Stage F0 W l w) (i : Nat) {g n j m : Nat} {t : TypeId} (hi : l[i]? = some (Ob.box g (cellsBy ndC (fillsN n j)).toArray t)) (hm : m ≤ j) : ∀ u v, (cellsBy ndC (List.replicate m Node.no))[u]? = some v → w.cell? ((⟨g, 0, none⟩ : Addr).add u) = some v := fun u v h => by
  rw [add_at, Nat.zero_add]
  refine hs.cell i hi ?_
  have e : cellsBy ndC (fillsN n j) = cellsBy ndC (List.replicate m Node.no) ++ cellsBy ndC (List.replicate (j - m) Node.no ++ List.replicate (n - j) ⟨0, 0, 0, false⟩) := by
    rw [← cellsBy_append, ← List.append_assoc, List.replicate_append_replicate, show m + (j - m) = j by omega]; rfl
  rw [e]
  have hlt : u < (cellsBy ndC (List.replicate m Node.no)).length := (List.getElem?_eq_some_iff.1 h).1
  rw [List.getElem?_toArray, List.getElem?_append_left hlt]; exact h
end
theorem mul64_one (y : Nat) (hy : y ≤ 65536) (w : World) : Calls Try.prog 90 #[.int .u64 1, .int .u64 y] w fun e w' => e = .returned (.tuple #[.int .u64 0, .int .u64 y]) ∧ w = w' := by
  have hm : ∀ x : Int, 0 ≤ x → x ≤ 65536 → bits .and .u64 x 4294967295 = x := fun x h0 h1 => by
    have h := bits_mask .u64 63 (by decide) (fun n h₀ h₁ => by rw [IntKind.wrap_u64]; omega) 32 (by decide) x (by omega) (by omega)
    have e : ((2 : Int) ^ 32 - 1) = 4294967295 := by decide
    have e2 : ((2 : Int) ^ 32) = 4294967296 := by decide
    rw [e, e2] at h
    rw [h]; omega
  have h1 := hm 1 (by omega) (by omega)
  have h2 := hm y (by omega) (by omega)
  have h3 := hm 0 (by omega) (by omega)
  have h4 : (y : Int) / 4294967296 = 0 := by omega
  have h5 : IntKind.u64.wrap (y : Int) = y := by rw [IntKind.wrap_u64]; omega
  clear hm
  go_enter Try.func90, Try.ntmps90
  go_wp2_with fail
  exact bodyPost_ret (v := .tuple #[.int .u64 0, .int .u64 y]) (by simp [results, Try.results90, go_sem]) rfl ⟨rfl, rfl⟩
theorem mul_one_any (y : Nat) (hy : y ≤ 65536) (w : World) : Calls Try.prog 75 #[.int .u64 1, .int .u64 y] w fun e w' => e = .returned (.tuple #[.int .u64 0, .int .u64 y]) ∧ w = w' := by
  have hM := mul64_one y hy w
  go_enter Try.func75, Try.ntmps75
  go_wp2_with fail
  refine hM.mono ?_
  rintro e w1 ⟨rfl, rfl⟩
  go_wp2_with fail
  exact bodyPost_ret (v := .tuple #[.int .u64 0, .int .u64 y]) (by simp [results, Try.results75, go_sem]) rfl ⟨rfl, rfl⟩
section
variable {F0 : Nat → Prop} {W w : World} {b : Nat}
theorem set_last (O : Ob) (l : List Ob) (A B : Ob) : (O :: (l ++ [A]))[l.length + 1]? = some A ∧ (O :: (l ++ [A])).set (l.length + 1) B = O :: (l ++ [B]) := by simp
set_option maxRecDepth 100000 in
set_option maxHeartbeats 1000000 in
/-- n nodes: a new row. -/
theorem repeat_st_nd {l : List Ob} (hs : Stage F0 W (Ob.box b #[.int .i64 (-1), .int .i64 (-1), .int .i64 0, .bool false] 109 :: l) w) (n : Nat) (hn : n ≤ 65536) :
    Calls Try.prog 55 #[.slice (some ⟨b, 0, none⟩) 1 1, .int .i64 n] w fun e w' => ∃ g, e = .returned (.slice (some ⟨g, 0, none⟩) n n) ∧ Stage F0 W (Ob.box b #[.int .i64 (-1), .int .i64 (-1), .int .i64 0, .bool false] 109 :: (l ++ [Ob.row 0 109 4 (.slice (some ⟨g, 0, none⟩) n n) n (cellsBy ndC (rawN n fun _ => .no))])) w' := by
  have hM := mul_one_any n hn w
  have hmk := run_make_rows (P := Try.prog) 106 109 _ 4 32 Try.underlying106 info_nd n (by omega) (by omega)
  have hs1 := hs.alloc (madeCells #[.int .i64 0, .int .i64 0, .int .i64 0, .bool false] (n * 4)) 109
  have hn1 : ¬ (n : Int) < 0 := by omega
  have hn2 : decide ((9223372036854775807 : Int) < n) = false := by simp; omega
  have hsz : (Try.prog.info? 109).map (·.size) = some 4 := by kernel_rfl
  have em : (madeCells #[.int .i64 0, .int .i64 0, .int .i64 0, .bool false] (n * 4)) = (cellsBy ndC (fillsN n 0)).toArray := by rw [← fills_none_nd, Array.toArray_toList]
  have hs1' : Stage F0 W (Ob.box b #[.int .i64 (-1), .int .i64 (-1), .int .i64 0, .bool false] 109 :: (l ++ [Ob.box w.heap.size (cellsBy ndC (fillsN n 0)).toArray 109])) (w.alloc (.cells (madeCells #[.int .i64 0, .int .i64 0, .int .i64 0, .bool false] (n * 4)) 109)) := by rw [← em]; exact hs1
  obtain ⟨g, hg⟩ : ∃ g, w.heap.size = g := ⟨_, rfl⟩
  rw [hg] at hs1'
  obtain ⟨m, hm⟩ : ∃ m, m = Nat.min 1 n := ⟨_, rfl⟩
  obtain ⟨w2, hcp, hs2⟩ := run_fill_nd (P := Try.prog) hs1' (l.length + 1) (m := m) (dCap := n) (sLen := 1) (sCap := 1) (set_last _ _ _ (Ob.box g (cellsBy ndC (fillsN n (0 + m))).toArray 109)).1 (Nat.zero_le n) hm ⟨b, 0, none⟩ 106 3 109 Try.underlying106 hsz (fun u v h => by
    rw [add_at, Nat.zero_add]
    refine hs1'.cell 0 rfl ?_
    have hmm : m ≤ 1 := by rw [hm]; exact Nat.min_le_left _ _
    obtain rfl | rfl : m = 0 ∨ m = 1 := by omega
    · simp [cellsBy] at h
    · rw [show (#[.int .i64 (-1), .int .i64 (-1), .int .i64 0, .bool false] : Array Value) = (cellsBy ndC (List.replicate 1 Node.no)).toArray from rfl, List.getElem?_toArray]; exact h)
  rw [Nat.zero_add, (set_last _ _ _ (Ob.box g (cellsBy ndC (fillsN n m)).toArray 109)).2] at hs2
  rw [Nat.zero_mul, Nat.sub_zero] at hcp
  have hmn : m ≤ n ∧ (0 < n → 0 < m) := by rw [hm]; exact ⟨Nat.min_le_right _ _, fun h => by show 0 < Nat.min 1 n; rw [show Nat.min 1 n = 1 from Nat.min_eq_left h]; omega⟩
  have hgo : (goInt m : Value) = .int .i64 m := rfl
  rw [hgo, em] at hcp
  clear hs hs1 hs1' hm
  go_enter Try.func55, Try.ntmps55
  go_wp2_with fail
  refine hM.mono ?_
  rintro e w1 ⟨rfl, rfl⟩
  clear hM
  go_wp2_with fail
  clear hcp hmk
  go_loopw [8, 34, 35, 36, 37, 38, 39, 40, 41, 42, 43, 44, 45, 46] (fun i _ _ _ _ _ _ _ _ _ _ _ _ _ wr => ∃ j : Nat, i = .int .i64 j ∧ j ≤ n ∧ (0 < n → 0 < j) ∧ Stage F0 W (Ob.box b #[.int .i64 (-1), .int .i64 (-1), .int .i64 0, .bool false] 109 :: (l ++ [Ob.box g (cellsBy ndC (fillsN n j)).toArray 109])) wr) (fun i _ _ _ _ _ _ _ _ _ _ _ _ _ _ => n - (intOf i).toNat)
  case atStart => exact ⟨m, rfl, hmn.1, hmn.2, hs2⟩
  case round =>
    clear hs2 hmn
    obtain ⟨j, rfl, hj, hj0, hs⟩ := hrel
    by_cases hlt : j < n
    · obtain ⟨k, hk⟩ : ∃ k, k = Nat.min j (n - j) := ⟨_, rfl⟩
      have hsd := hs.drew
      obtain ⟨w3, hcp, hs3⟩ := run_fill_nd (P := Try.prog) hsd (l.length + 1) (m := k) (dCap := n - j) (sLen := j) (sCap := n) (set_last _ _ _ (Ob.box g (cellsBy ndC (fillsN n (j + k))).toArray 109)).1 hj hk ⟨g, 0, none⟩ 106 3 109 Try.underlying106 hsz
        (fills_read_nd hsd (l.length + 1) (set_last _ _ _ (Ob.box g #[] 0)).1 (by rw [hk]; exact Nat.min_le_left _ _))
      rw [(set_last _ _ _ (Ob.box g (cellsBy ndC (fillsN n (j + k))).toArray 109)).2] at hs3
      rw [show (goInt k : Value) = .int .i64 k from rfl] at hcp
      have hk2 : 0 < k ∧ j + k ≤ n := by
        have h1 : k ≤ n - j := by rw [hk]; exact Nat.min_le_right _ _
        refine ⟨?_, by omega⟩
        rw [hk]
        have : 0 < min j (n - j) := by omega
        exact this
      have hji : (j : Int) < n := by omega
      clear hs hsd hk
      go_wp2_with fail
      go_region
      go_roundw
      case rel => exact ⟨_, _, _, _, _, _, _, _, _, _, _, _, _, _, ⟨j + k, by go_num, hk2.2, fun _ => by omega, hs3⟩, rfl⟩
      case measure => simp [intOf]; omega
    · obtain rfl : j = n := by omega
      go_wp2_with fail
      have hs4 := hs.asRow (l.length + 1) (n := j) (z := 4) (set_last _ _ _ (Ob.box g #[] 0)).1 (by rw [List.size_toArray, fills_cells_nd j j (Nat.le_refl _)]) (by unfold maxLen; omega)
      rw [(set_last _ _ _ _).2, fills_all_nd] at hs4
      go_ret
      exact ⟨g, rfl, hs4⟩
end
end Go.Proofs.Ytcjjglaimfhofaa
