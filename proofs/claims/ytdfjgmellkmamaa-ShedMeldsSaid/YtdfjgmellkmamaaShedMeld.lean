/- What a shed's Meld returns, and what then is. -/
import Derived.Test.YtdfjgmellkmamaaShedNest3
import Derived.Test.YtdfjgmellkmamaaShedMeldMath
import Derived.Deep.CutBlock
import Derived.Deep.DeepCutAuto
namespace Go.Proofs.Ytdfjgmellkmamaa
open Go.RowKit Go.Sort

abbrev boxL (p q : Nat) (v : Value) : Ob := Ob.box q #[.pointer (some ⟨p, 0, none⟩), v] 103
abbrev rowL (v : Value) (xs : List Nat) : Ob := Ob.row 0 3 1 v xs.length (cellsBy natC xs)
section
variable {F0 : Nat → Prop} {W0 w : World} {p c bm : Nat} {vp : Value} {W : WS} {s : Int} {pl : List Nat} {q : Nat} {v : Value} {xs : List Nat} {Ls : Nat → List Nat} {qs : Nat → Nat}
theorem list_some {l : List Ob} {f : Int → Option Nat} (hs : Stage F0 W0 l w) (h0 : l[0]? = some (Ob.box p #[.pointer (some ⟨c, 0, none⟩), .map (some bm), vp] 32)) (m : Nat) (hm : l[m]? = some (Ob.pmap Try.prog 3 bm f 65537)) (k : Nat) (hk : k < 65537) (hf : f k = some q) :
    Calls Try.prog 30 #[.pointer (some ⟨p, 0, none⟩), .int .i64 k] w fun e w' => e = .returned (.pointer (some ⟨q, 0, none⟩)) ∧ w = w' := by
  have p1 := hs.cell 0 h0 (o := 1) rfl
  have hL := hs.lookP m hm Try.underlying29 Try.underlying3 (zero_ptr w) k (by omega)
  rw [hf] at hL
  replace hL : (Instr.lookup 29 (.map (some bm)) (.int .i64 k) true).run Try.prog w = .ok (.tuple #[.pointer (some ⟨q, 0, none⟩), .bool true]) w := hL
  go_enter Try.func30, Try.ntmps30
  go_wp2_with fail
  go_ret
  exact ⟨rfl, rfl⟩
theorem list_none {l : List Ob} {f : Int → Option Nat} (hs : Stage F0 W0 l w) (h0 : l[0]? = some (Ob.box p #[.pointer (some ⟨c, 0, none⟩), .map (some bm), vp] 32)) (m : Nat) (hm : l[m]? = some (Ob.pmap Try.prog 3 bm f 65537)) (k : Nat) (hk : k < 65537) (hf : f k = none) :
    Calls Try.prog 30 #[.pointer (some ⟨p, 0, none⟩), .int .i64 k] w fun e w' => e = .returned (.pointer (some ⟨w.heap.size, 0, none⟩)) ∧ Stage F0 W0 (l ++ [boxL p w.heap.size (.slice none 0 0)] ++ [rowL (.slice none 0 0) []]) w' := by
  have p1 := hs.cell 0 h0 (o := 1) rfl
  have hL := hs.lookP m hm Try.underlying29 Try.underlying3 (zero_ptr w) k (by omega)
  rw [hf] at hL
  replace hL : (Instr.lookup 29 (.map (some bm)) (.int .i64 k) true).run Try.prog w = .ok (.tuple #[.pointer none, .bool false]) w := hL
  have hs2 := (hs.alloc #[.pointer (some ⟨p, 0, none⟩), .slice none 0 0] 103).nilRow 0 3 1
  go_enter Try.func30, Try.ntmps30
  go_wp2_with fail
  go_ret
  exact ⟨rfl, hs2⟩
/-- A second list in hand. -/
theorem list_two {a b : Nat} (hab : a ≠ b) (hb : b < 65537) (hs : Stage F0 W0 (handL p c bm vp W s pl q v xs ++ [Ob.pmap Try.prog 3 bm (mapO Ls qs) 65537, Ob.fam (updO (famO p Ls qs) a Ob.none)]) w) :
    Calls Try.prog 30 #[.pointer (some ⟨p, 0, none⟩), .int .i64 b] w fun e w' => ∃ q2 v2, e = .returned (.pointer (some ⟨q2, 0, none⟩)) ∧ Stage F0 W0 (handL p c bm vp W s pl q v xs ++ [boxL p q2 v2, rowL v2 (Ls b), Ob.pmap Try.prog 3 bm (mapO Ls qs) 65537, Ob.fam (updO (updO (famO p Ls qs) a Ob.none) b Ob.none)]) w' := by
  by_cases hn : Ls b = []
  · have e : mapO Ls qs b = none := by simp [mapO, hn]
    have e2 : updO (updO (famO p Ls qs) a Ob.none) b Ob.none = updO (famO p Ls qs) a Ob.none := by
      funext i
      unfold updO
      by_cases h1 : i = b
      · subst h1; simp [famO, listO, hn]
      · simp [h1]
    refine (list_none hs rfl 5 rfl b hb e).mono ?_
    rintro e w' ⟨rfl, h⟩
    rw [e2, hn]
    exact ⟨_, _, rfl, h.select [0, 1, 2, 3, 4, 7, 8, 5, 6] (by decide) rfl⟩
  · have e : mapO Ls qs b = some (qs b) := by simp [mapO, hn]
    refine (list_some hs rfl 5 rfl b hb e).mono ?_
    rintro e w' ⟨rfl, rfl⟩
    have h1 := hs.pull 6 rfl b
    have e3 : updO (famO p Ls qs) a Ob.none b = Ob.ex fun v : Value => Ob.group [boxL p (qs b) v, rowL v (Ls b)] := by
      unfold updO famO listO
      rw [if_neg (fun h => hab h.symm), if_neg hn]
    rw [e3] at h1
    obtain ⟨v2, h2⟩ := h1.openEx
    exact ⟨_, v2, rfl, h2.ungroup.select [0, 1, 2, 3, 4, 7, 8, 5, 6] (by decide) rfl⟩
end
section
variable {w : World} {p c : Nat} {W : WS} {s : Int} {F : Nat → Prop}
theorem perm_two {x1 x2 xa xb : List Nat} (h : (x1 = xa ∧ x2 = xb) ∨ (x1 = xb ∧ x2 = xa)) : (x1 ++ x2).Perm (xa ++ xb) := by
  rcases h with ⟨rfl, rfl⟩ | ⟨rfl, rfl⟩
  · exact List.Perm.refl _
  · exact List.perm_append_comm
set_option maxRecDepth 100000 in
set_option maxHeartbeats 4000000 in
theorem meld_sh (a b : Int) (h : (Ob.shed p c W s).holds w F) : Calls Try.prog 99 #[.pointer (some ⟨p, 0, none⟩), .int .i64 a, .int .i64 b] w fun e w' => e = .returned (.bool (joinBW W a b)) ∧ ∃ s', (s ≤ s' ∧ s' ≤ s + (min (lenW W a) (lenW W b) * depthI 2 (lenW W a + lenW W b) : Nat)) ∧ ∃ F', (Ob.shed p c (joinW W a b) s').holds w' F' ∧ Moved F F' w w' := by
  have hF := (Ob.shed p c W s).lt h
  obtain ⟨bm, vp, pl, Ls, qs, I, hf, _, hg⟩ := h
  have hs := Ob.group.open hg
  clear hg
  have hJ := hs.call 1 rfl (fun _ ho => join_cl a b ho)
  have p0 := hs.cell 0 rfl (o := 0) rfl
  cases hB : joinBW W a b
  · have eW : joinW W a b = W := by simp [joinW, hB]
    rw [hB, eW] at hJ
    rw [eW]
    go_enter Try.func99, Try.ntmps99
    go_wp2_with fail
    refine hJ.mono ?_
    rintro e w1 ⟨rfl, hs1⟩
    have hs2 : Stage F w (shedParts p c bm vp W s pl (mapO Ls qs) (famO p Ls qs)) w1 := hs1
    go_wp2_with fail
    go_ret
    exact ⟨rfl, s, ⟨Int.le_refl _, by omega⟩, shed_close hs2 hF I hf⟩
  · obtain ⟨i, j, rfl, rfl, hij, hi1, hi2, hj1, hj2⟩ : ∃ i j : Nat, a = i ∧ b = j ∧ i ≠ j ∧ 1 ≤ i ∧ i < 65537 ∧ 1 ≤ j ∧ j < 65537 := by
      have hB2 := hB
      simp only [joinBW, Bool.and_eq_true, decide_eq_true_eq] at hB2
      obtain ⟨i, rfl, h1, h2, _⟩ := has_nat hB2.1
      obtain ⟨j, rfl, h3, h4, _⟩ := has_nat hB2.2.1
      have := hf.len
      exact ⟨i, j, rfl, rfl, by omega, h1, by omega, h3, by omega⟩
    obtain ⟨hheap, hall, hdis, hfin⟩ := sinv_join I hB hi1 hj1 hij
    have hla := I.len i hi1
    have hlb := I.len j hj1
    have hPa := I.placed i
    have hPb := I.placed j
    have hHa := hheap (Ls i) (I.heap i) (fun x hx => Or.inl hx)
    have hHb := hheap (Ls j) (I.heap j) (fun x hx => Or.inr hx)
    have hplc : pl.length ≤ 65536 := by rw [I.plen]; exact hf.cap
    have hpl := I.plen
    have hsum : (Ls i).length + (Ls j).length ≤ 65536 := by
      have h1 := len_join (W := W) hi1 hj1 hij (W.heaps.set j false) i
      rw [if_pos rfl] at h1
      have h2 := len_le (⟨W.heaps.set j false, W.cells.map fun c => if c.home = j then ⟨i, c.key, c.seq⟩ else c⟩ : WS) i
      simp only [List.length_map] at h2
      have := hf.cap
      omega
    rw [hB] at hJ
    rw [← hla, ← hlb]
    have hall' : ∀ x, x ∈ Ls i ++ Ls j → x < pl.length ∧ x < W.cells.length ∧ homeAt (joinW W i j) x ≠ 0 := fun x hx => by
      have := hall x (List.mem_append.1 hx)
      rw [hpl]
      exact ⟨this.1, this⟩
    have hcl : (joinW W i j).cells.length = W.cells.length := by unfold joinW; split <;> simp
    generalize joinW W i j = W1 at *
    clear hs hB hheap hall hla hlb hpl
    go_enter Try.func99, Try.ntmps99
    go_wp2_with fail
    refine hJ.mono ?_
    rintro e w1 ⟨rfl, hs1⟩
    have hs2 : Stage F w (shedParts p c bm vp W1 s pl (mapO Ls qs) (famO p Ls qs)) w1 := hs1
    clear hs1 hJ p0
    have hf1 := parts_fit hs2
    have hL := list_hand hs2 i hi2
    go_wp2_with fail
    refine hL.mono ?_
    rintro e w2 ⟨qa, va, rfl, hs3⟩
    clear hL hs2
    have hL := list_two hij hj2 hs3
    go_wp2_with fail
    refine hL.mono ?_
    rintro e w3 ⟨qb, vb, rfl, hs4⟩
    clear hL hs3
    have hLa := slen_st hs4
    have hs4' : Stage F w (handL p c bm vp W1 s pl qb vb (Ls j) ++ [boxL p qa va, rowL va (Ls i), Ob.pmap Try.prog 3 bm (mapO Ls qs) 65537, Ob.fam (updO (updO (famO p Ls qs) i Ob.none) j Ob.none)]) w3 := hs4.select [0, 1, 2, 5, 6, 3, 4, 7, 8] (by decide) rfl
    have hLb := slen_st hs4'
    have hx0 : ∀ (x1 x2 : List Nat), (x1 = Ls i ∧ x2 = Ls j) ∨ (x1 = Ls j ∧ x2 = Ls i) → x2.length ≤ x1.length → x1.length + x2.length ≤ 65536 ∧ Heap 2 (ltW W1) x1 ∧ Placed x1 pl ∧ Placed x2 pl ∧ (∀ x, x ∈ x1 → x ∉ x2) ∧ x2.length = min (Ls i).length (Ls j).length ∧ x1.length + x2.length = (Ls i).length + (Ls j).length ∧ (x1 ++ x2).Perm (Ls i ++ Ls j) := by
      rintro x1 x2 hor hle
      have hp := perm_two hor
      rcases hor with ⟨rfl, rfl⟩ | ⟨rfl, rfl⟩
      · exact ⟨by omega, hHa, hPa, hPb, hdis, by omega, rfl, hp⟩
      · exact ⟨by omega, hHb, hPb, hPa, fun x h1 h2 => hdis x h2 h1, by omega, by omega, hp⟩
    clear hHa hHb hPa hPb hdis
    generalize hna : (Ls i).length = na at *
    generalize hnb : (Ls j).length = nb at *
    go_upto_region 4 with fail
    go_cut [29] (fun s29 wx => s29 = .bool (decide (na < nb)) ∧ w3 = wx)
    case first =>
      go_wp2_with fail
      refine hLa.mono ?_
      rintro e w4 ⟨rfl, rfl⟩
      go_wp2_with fail
      refine hLb.mono ?_
      rintro e w5 ⟨rfl, rfl⟩
      go_wp2_with fail
      go_meet
      exact ⟨by simp, rfl⟩
    case rest =>
      obtain ⟨rfl, rfl⟩ := hcut
      clear hLa hLb
      generalize hlt : decide (na < nb) = B
      go_upto_if 29 with fail
      go_cut [7, 8] (fun s7 s8 wx => ∃ q1 v1 x1 q2 v2 x2, s7 = .pointer (some ⟨q1, 0, none⟩) ∧ s8 = .pointer (some ⟨q2, 0, none⟩) ∧ ((x1 = Ls i ∧ x2 = Ls j) ∨ (x1 = Ls j ∧ x2 = Ls i)) ∧ x2.length ≤ x1.length ∧ Stage F w (handL p c bm vp W1 s pl q1 v1 x1 ++ [boxL p q2 v2, rowL v2 x2, Ob.pmap Try.prog 3 bm (mapO Ls qs) 65537, Ob.fam (updO (updO (famO p Ls qs) i Ob.none) j Ob.none)]) wx)
      case first =>
        cases B
        · have h9 := of_decide_eq_false hlt
          clear hlt
          go_wp2_with fail
          go_meet
          exact ⟨qa, va, Ls i, qb, vb, Ls j, rfl, rfl, Or.inl ⟨rfl, rfl⟩, by omega, hs4⟩
        · have h9 := of_decide_eq_true hlt
          clear hlt
          go_wp2_with fail
          go_meet
          exact ⟨qb, vb, Ls j, qa, va, Ls i, rfl, rfl, Or.inr ⟨rfl, rfl⟩, by omega, hs4'⟩
      case rest =>
        obtain ⟨q1, v1, x1, q2, v2, x2, rfl, rfl, hor, hle, hs⟩ := hcut
        clear hs4 hs4' hlt
        obtain ⟨hsm, hH1, hP1, hP2, hd, hmin, htot, hperm⟩ := hx0 x1 x2 hor hle
        clear hx0 hor hle
        obtain ⟨a2, c2, hv2, _, _⟩ := owns_form (hs.owns 6 rfl)
        subst hv2
        have k1 := hs.cell 5 rfl (o := 1) rfl
        have hnd := placed_nodup hP2
        obtain ⟨D, hD⟩ : ∃ D, D = depthI 2 (na + nb) := ⟨_, rfl⟩
        have hDm : ∀ m, m ≤ na + nb → depthI 2 m ≤ D := fun m hm => by rw [hD]; exact depth_mono (by omega) _ _ hm
        generalize hn2 : x2.length = n2 at *
        replace hmin := Lib.hid hmin
        replace htot := Lib.hid htot
        replace hD := Lib.hid hD
        go_wp2_with fail
        clear k1
        go_loopw [37] (fun x wr => ∃ (n : Nat) (ys pl1 : List Nat) (v : Value) (s1 : Int), x = .int .i64 n ∧ n ≤ n2 ∧ Heap 2 (ltW W1) ys ∧ ys.Perm (x1 ++ x2.take n) ∧ Placed ys pl1 ∧ pl1.length = pl.length ∧ (∀ z, z ∉ x1 ++ x2 → rat pl1 z = rat pl z) ∧ (s ≤ s1 ∧ s1 ≤ s + (n * D : Nat)) ∧ Stage F w (handL p c bm vp W1 s1 pl1 q1 v ys ++ [boxL p q2 (.slice a2 n2 c2), Ob.row 0 3 1 (.slice a2 n2 c2) n2 (cellsBy natC x2), Ob.pmap Try.prog 3 bm (mapO Ls qs) 65537, Ob.fam (updO (updO (famO p Ls qs) i Ob.none) j Ob.none)]) wr) (fun x _ => n2 - (intOf x).toNat)
        case atStart => exact ⟨0, x1, pl, v1, s, rfl, Nat.zero_le _, hH1, by simp, hP1, rfl, fun _ _ => rfl, ⟨Int.le_refl _, by omega⟩, by have := hs; rw [← hn2]; rw [← hn2] at this; exact this⟩
        case round =>
          clear hs hH1 hP1
          obtain ⟨n, ys, pl1, v, s1, rfl, hn, hH, hpm, hP, hpl1, hoff, hst, hs⟩ := hrel
          by_cases hlt : n < n2
          · have hni : (n : Int) < n2 := by omega
            obtain ⟨g, cg, hcg, _, _, _, _, hu, _⟩ := owns_at natC_len 0 (hs.owns 6 rfl) hn2 (by omega)
            cases hcg
            have u0 := hu n 0 _ hlt (by omega) rfl
            rw [Nat.mul_one, Nat.add_zero] at u0
            replace u0 : wr.cell? ⟨g, n, none⟩ = some (.int .i64 (rat x2 n)) := u0
            clear hu
            have hxm : rat x2 n ∈ x2 := rat_mem (by omega)
            have htk : x2.take (n + 1) = x2.take n ++ [rat x2 n] := take_snocD 0 x2 n (by omega)
            have hxin := hall' _ (hperm.mem_iff.1 (List.mem_append_right x1 hxm))
            have hxy : rat x2 n ∉ ys := fun hm => by
              rcases List.mem_append.1 (hpm.mem_iff.1 hm) with h1 | h1
              · exact hd _ h1 hxm
              · obtain ⟨m, hm1, hm2⟩ := mem_rat h1
                simp only [List.length_take] at hm1
                have : rat (x2.take n) m = rat x2 m := by simp [rat, List.getD_eq_getElem?_getD, List.getElem?_take, show m < n by omega]
                rw [this] at hm2
                have := placed_inj hP2 (by omega) (by omega) hm2
                omega
            have hyl : ys.length = x1.length + n := by rw [hpm.length_eq, List.length_append, List.length_take]; omega
            have hA : AllIn W1 (ys ++ [rat x2 n]) := fun y hy => by
              have h1 : y ∈ x1 ++ x2 := by
                rcases List.mem_append.1 hy with h1 | h1
                · rcases List.mem_append.1 (hpm.mem_iff.1 h1) with h2 | h2
                  · exact List.mem_append_left _ h2
                  · exact List.mem_append_right _ (List.mem_of_mem_take h2)
                · rw [List.mem_singleton] at h1; rw [h1]; exact List.mem_append_right _ hxm
              have h2 := hall' y (hperm.mem_iff.1 h1)
              exact ⟨by rw [hcl]; exact h2.2.1, h2.2.2⟩
            have hPu := push_st hs (by omega) (by omega) hP (rat x2 n) hA hxy (by rw [hpl1]; exact hxin.1) hH
            have hnext : ∀ (ys' pl' : List Nat) (s' : Int), Turned (depthI 2 ys.length) [] (ys ++ [rat x2 n]) (pl1.set (rat x2 n) ys.length) s1 ys' pl' s' → ys'.Perm (x1 ++ x2.take (n + 1)) ∧ Placed ys' pl' ∧ pl'.length = pl.length ∧ (∀ z, z ∉ x1 ++ x2 → rat pl' z = rat pl z) ∧ (s ≤ s' ∧ s' ≤ s + ((n + 1) * D : Nat)) := fun ys' pl' s' T => by
              refine ⟨?_, by have := T.placed; rwa [List.append_nil] at this, by rw [T.plen, List.length_set]; exact hpl1, fun z hz => ?_, Int.le_trans hst.1 T.lo, ?_⟩
              · rw [htk, ← List.append_assoc]
                exact T.perm.trans (hpm.append_right _)
              · rw [T.off z (fun hm => hz (by
                  rcases List.mem_append.1 hm with h1 | h1
                  · rcases List.mem_append.1 (hpm.mem_iff.1 h1) with h2 | h2
                    · exact List.mem_append_left _ h2
                    · exact List.mem_append_right _ (List.mem_of_mem_take h2)
                  · rw [List.mem_singleton] at h1; rw [h1]; exact List.mem_append_right _ hxm)), set_off (by rw [hpl1]; exact hxin.1) _ _ (fun e => hz (by rw [← e]; exact List.mem_append_right _ hxm))]
                exact hoff z hz
              · have h1 := T.hi
                have h2 := hDm ys.length (by have := htot.out; omega)
                have h3 : (n + 1) * D = n * D + D := by rw [Nat.add_mul, Nat.one_mul]
                omega
            generalize rat x2 n = x at *
            clear hxin hxm hxy hA hP hpm hoff htk
            go_wp2_with fail
            refine hPu.mono ?_
            rintro e w4 ⟨rfl, v', ys', pl', s', g1, g2, _, hs5⟩
            obtain ⟨k1, k2, k3, k4, k5⟩ := hnext ys' pl' s' g2
            clear hPu hnext g2 hs
            go_wp2_with fail
            go_roundw
            case rel => exact ⟨n + 1, ys', pl', v', s', by go_num, by omega, g1, k1, k2, k3, k4, k5, hs5⟩
            case measure => simp [intOf]; omega
          · have hni : ¬ (n : Int) < n2 := by omega
            obtain rfl : n = n2 := by omega
            rw [List.take_of_length_le (by omega)] at hpm
            have hs5 : Stage F w (handL p c bm vp W1 s1 pl1 q1 v ys ++ [Ob.pmap Try.prog 3 bm (mapO Ls qs) 65537, Ob.fam (updO (updO (famO p Ls qs) i Ob.none) j Ob.none)]) wr := hs.select [0, 1, 2, 3, 4, 7, 8] (by decide) rfl
            have hyl : ys.length ≤ 65536 := by rw [hpm.length_eq, List.length_append]; omega
            have hK := keep_st hs5 i hi2 hyl (by unfold updO; rw [if_neg hij, if_pos rfl])
            have I3 := hfin ys pl1 hH (hpm.trans hperm) hP hpl1 (fun z hz => hoff z (fun hm => hz (hperm.mem_iff.1 hm)))
            have efam : updO (updO (updO (famO p Ls qs) i Ob.none) j Ob.none) i (listO p q1 ys) = famO p (updL (updL Ls i ys) j []) (updN (updN qs i q1) j 0) := by
              rw [← upd_fam, ← upd_fam]
              funext z
              unfold updO
              by_cases h1 : z = i
              · subst h1; simp [hij]
              · by_cases h2 : z = j
                · subst h2; simp [h1, listO]
                · simp [h1, h2]
            rw [upd_map, efam] at hK
            have emap : setP (mapO (updL Ls i ys) (updN qs i q1)) (j : Int) none = mapO (updL (updL Ls i ys) j []) (updN (updN qs i q1) j 0) := by
              have := upd_map (updL Ls i ys) (updN qs i q1) j 0 []
              rw [if_pos rfl] at this
              exact this
            have hst2 : s ≤ s1 ∧ s1 ≤ s + (min na nb * depthI 2 (na + nb) : Nat) := by rw [← hmin.out, ← hD.out]; exact hst
            clear hs hs5 hH hpm hP hoff hst hfin hDm hmin
            go_wp2_with fail
            refine hK.mono ?_
            rintro e w4 ⟨rfl, hs6⟩
            clear hK
            have p1 := hs6.cell 0 rfl (o := 1) rfl
            go_wp2_with (at_delete; refine hs6.wp_deleteP 3 rfl rfl _ _ rfl Try.underlying29 Try.underlying3 rfl j rfl (by omega) ?_)
            intro w5 hs7
            try rw [emap] at hs7
            have hs8 : Stage F w (shedParts p c bm vp W1 s1 pl1 (mapO (updL (updL Ls i ys) j []) (updN (updN qs i q1) j 0)) (famO p (updL (updL Ls i ys) j []) (updN (updN qs i q1) j 0))) w5 := hs7
            go_wp2_with fail
            go_ret
            rw [← hna, ← hnb] at hst2
            exact ⟨rfl, s1, hst2, shed_close hs8 hF I3 hf1⟩
end
end Go.Proofs.Ytdfjgmellkmamaa
