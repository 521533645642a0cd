/- What the calls of a nest of skew trees return, and what then is: Decrease, Meld, New. -/
import Derived.Test.YtehoejoeoaimjaaSkewNest2
import Derived.Deep.RegionHeld3
namespace Go.Proofs.Ytehoejoeoaimjaa
open Go.RowKit Go.Sort

section
variable {w : World} {p c f t bm n : Nat} {W W' : WS} {s s' : Int} {F F0 : Nat → Prop} {L : List Hg} {Ts : Nat → Tr}
set_option maxRecDepth 100000 in
set_option maxHeartbeats 2000000 in
theorem decrease_sk (x k q : Int) (h : (Ob.skew p c W s Ts).holds w F) : Calls Try.prog 112 #[.pointer (some ⟨p, 0, none⟩), .int .i64 x, .agg #[.int .i64 k, .int .u64 q]] w fun e w' => e = .returned (.bool (lowerB W x k q)) ∧ ∃ F', (Ob.skew p c (lowerW W x k q) (skDec W x k q (s, Ts)).1 (skDec W x k q (s, Ts)).2).holds w' F' ∧ Moved F F' w w' := by
  have hF := (Ob.skew p c W s Ts).lt h
  obtain ⟨f, t, bm, n, L, I, J, hn, hf, hst, hg⟩ := h
  have hs := Ob.group.open hg
  clear hg
  obtain ⟨w0, hw0, hs0⟩ : ∃ w0, w.alloc (.cells #[.int .i64 k, .int .u64 q] 62) = w0 ∧ Stage F w (skParts p f c t bm n W s L Ts ++ [Ob.box w.heap.size #[.int .i64 k, .int .u64 q] 62]) w0 := ⟨_, rfl, hs.alloc _ _⟩
  have hH := hs0.call 1 rfl (fun _ ho => home_cl x ho)
  have p0 := hs0.cell 3 rfl (o := 0) rfl
  clear hs
  cases hB : inW W x
  · have eB : lowerB W x k q = false := by simp [lowerB, hB]
    have eW : lowerW W x k q = W := by simp [lowerW, eB]
    have eI : skDec W x k q (s, Ts) = (s, Ts) := by unfold skDec; rw [eB]; rfl
    rw [hB] at hH
    rw [eI, eB, eW]
    generalize ((cellW W x).home : Int) = hh at *
    clear eI eB eW
    go_enter Try.func112, Try.ntmps112
    go_wp2_with fail
    refine hH.mono ?_
    rintro e w1 ⟨rfl, hs1⟩
    have hs2 : Stage F w (skParts p f c t bm n W s L Ts) w1 := hs1.take 5
    clear hH p0 hw0 hs0 hs1
    go_wp2_with fail
    go_quiet (fail)
    go_wp2_with fail
    go_ret
    exact ⟨rfl, skew_close (hs2.drewN _) hF I J hn⟩
  · rw [hB] at hH
    have hL := fun (w1 : World) (hs1 : Stage F w (skParts p f c t bm n W s L Ts ++ [Ob.box w.heap.size #[.int .i64 k, .int .u64 q] 62]) w1) => hs1.drew.call 1 rfl (fun _ ho => lower_cl x k q ho)
    cases hlb : lowerB W x k q
    · have eW : lowerW W x k q = W := by simp [lowerW, hlb]
      have eI : skDec W x k q (s, Ts) = (s, Ts) := by unfold skDec; rw [hlb]; rfl
      rw [hlb, eW] at hL
      rw [eI, eW]
      generalize ((cellW W x).home : Int) = hh at *
      clear eI eW
      go_enter Try.func112, Try.ntmps112
      go_wp2_with fail
      refine hH.mono ?_
      rintro e w1 ⟨rfl, hs1⟩
      clear hH p0 hw0 hs0
      replace hs1 : Stage F w (skParts p f c t bm n W s L Ts ++ [Ob.box w.heap.size #[.int .i64 k, .int .u64 q] 62]) w1 := hs1
      replace hL := hL w1 hs1
      have b0 := hs1.cell 5 rfl (o := 0) rfl
      have b1 := hs1.cell 5 rfl (o := 1) rfl
      have p0 : w1.cell? ⟨p, 0, none⟩ = some (.pointer (some ⟨c, 0, none⟩)) := hs1.cell 3 rfl (o := 0) rfl
      go_wp2_with fail
      go_region_held3 (fun w' => w'.cell? ⟨w.heap.size, 0, none⟩ = some (.int .i64 k) ∧ w'.cell? ⟨w.heap.size, 1, none⟩ = some (.int .u64 q) ∧ w'.cell? ⟨p, 0, none⟩ = some (.pointer (some ⟨c, 0, none⟩))) (first | exact ⟨b0, b1, p0⟩ | exact ⟨b0p, b1p, p0p⟩ | simp [*])
        ((with_reducible refine hL.mono ?_; rintro e w2 ⟨rfl, hs2⟩; have b0p := hs2.cell 5 rfl (o := 0) rfl; have b1p := hs2.cell 5 rfl (o := 1) rfl; have p0p : w2.cell? ⟨p, 0, none⟩ = some (.pointer (some ⟨c, 0, none⟩)) := hs2.cell 3 rfl (o := 0) rfl))
      have hs3 : Stage F w (skParts p f c t bm n W s L Ts) w2 := hs2.take 5
      go_wp2_with fail
      go_ret
      exact ⟨rfl, skew_close hs3 hF I J hn⟩
    · obtain ⟨kk, z, l, r, hk1, hcut, hT, hhome, hin, hA, hBk, hC⟩ := klower_inv (k := k) (q := q) I J hn hlb
      have hnn : Ts kk ≠ .nil := fun e => by
        have := (I.mem kk x hk1).2 hhome
        rw [e] at this; simp [Tr.slots] at this
      obtain ⟨_, hk2⟩ := I.keyLt hf hnn
      have hSt := J.all kk
      rw [hT] at hSt
      have hn1 : (lowerW W x k q).cells.length = n := by rw [llower_len]; exact hn
      have eI : skDec W x k q (s, Ts) = skDecAt (lowerW W x k q) kk x (s, Ts) (z, l, r) := by unfold skDec; rw [if_pos hlb, hhome]; show skDecAt _ _ _ _ (Tr.cutAt (Ts kk) x) = _; rw [hcut]
      rw [hhome] at hH
      rw [hlb] at hL
      rw [eI]
      clear hhome hlb hnn eI hcut
      generalize lowerW W x k q = W1 at *
      have hinx : ∀ y ∈ (Tr.fillZ z (.node x l r)).slots, inW W1 y = true := fun y hy => by rw [← hT] at hy; exact hin y hy
      go_enter Try.func112, Try.ntmps112
      go_wp2_with fail
      refine hH.mono ?_
      rintro e w1 ⟨rfl, hs1⟩
      clear hH p0 hw0 hs0
      replace hs1 : Stage F w (skParts p f c t bm n W s L Ts ++ [Ob.box w.heap.size #[.int .i64 k, .int .u64 q] 62]) w1 := hs1
      replace hL := hL w1 hs1
      have b0 := hs1.cell 5 rfl (o := 0) rfl
      have b1 := hs1.cell 5 rfl (o := 1) rfl
      have p0 : w1.cell? ⟨p, 0, none⟩ = some (.pointer (some ⟨c, 0, none⟩)) := hs1.cell 3 rfl (o := 0) rfl
      go_wp2_with fail
      go_region_held3 (fun w' => w'.cell? ⟨w.heap.size, 0, none⟩ = some (.int .i64 k) ∧ w'.cell? ⟨w.heap.size, 1, none⟩ = some (.int .u64 q) ∧ w'.cell? ⟨p, 0, none⟩ = some (.pointer (some ⟨c, 0, none⟩))) (first | exact ⟨b0, b1, p0⟩ | exact ⟨b0p, b1p, p0p⟩ | simp [*])
        ((with_reducible refine hL.mono ?_; rintro e w2 ⟨rfl, hs2⟩; have b0p := hs2.cell 5 rfl (o := 0) rfl; have b1p := hs2.cell 5 rfl (o := 1) rfl; have p0p : w2.cell? ⟨p, 0, none⟩ = some (.pointer (some ⟨c, 0, none⟩)) := hs2.cell 3 rfl (o := 0) rfl))
      have hs3 : Stage F w (skParts p f c t bm n W1 s L Ts) w2 := hs2.take 5
      clear hL hs1 hs2 b0 b1 p0 b0p b1p p0p
      have p1 := sk_p1 hs3
      cases z with
      | nil =>
        have hu : upL L x = none := hSt.root x rfl
        have hR' := krises_no (q := [_, _]) hs3 x hu
        have I3 := hA rfl
        clear hA hBk hC hSt hu
        go_wp2_with fail
        refine hR'.mono ?_
        rintro e w3 ⟨rfl, rfl⟩
        go_wp2_with fail
        go_ret
        exact ⟨rfl, skew_close hs3 hF I3 J hn1⟩
      | cons g z =>
        obtain ⟨I0, _⟩ := kf_inv (q := [_, _]) hs3
        obtain ⟨u1, _, u3, u4, u5⟩ := ks_cut I0 hSt rfl
        have hgin : g.x ∈ (Tr.fillZ (g :: z) (.node x l r)).slots := (Tr.fillZ_perm _ _).mem_iff.2 (List.mem_append_right _ (by simp [Tr.zs]))
        have hxin : x ∈ (Tr.fillZ (g :: z) (.node x l r)).slots := (Tr.fillZ_perm _ _).mem_iff.2 (List.mem_append_left _ (by simp [Tr.slots]))
        have hR' := krises_yes (q := [_, _]) hs3 x g.x u1
        have hs1 := ahead_step (hinx x hxin) (hinx g.x hgin) hst 0
        rw [stp_zero hst.2] at hs1
        rw [hs1] at hR'
        have hBk' := hBk g z rfl
        have hC' := hC g z rfl u3 u4 (u5.mono fun y hy => by
          simp only [List.mem_cons, List.not_mem_nil, or_false] at hy
          rcases hy with e | e
          · rw [e]; exact hgin
          · rw [e]; exact hxin)
        have hst1 := stp_range hst 1
        clear hA hBk hC u1 u5 hs1 I0 hinx hin
        cases hah : aheadW W1 x g.x
        · rw [hah] at hR'
          have eI : skDecAt W1 kk x (s, Ts) (g :: z, l, r) = (stp s 1, Ts) := by show (if aheadW W1 x g.x = true then _ else _) = _; rw [hah]; rfl
          have I3 := hBk' hah
          clear hBk' hC' hah hSt
          generalize stp s 1 = s1 at *
          replace eI := Lib.hid eI
          go_wp2_with fail
          refine hR'.mono ?_
          rintro e w3 ⟨rfl, hs4⟩
          have hs5 : Stage F w (skParts p f c t bm n W1 s1 L Ts) w3 := hs4
          go_wp2_with fail
          go_ret
          exact ⟨rfl, by rw [eI.out]; exact skew_close hs5 hF I3 J hn1⟩
        · rw [hah] at hR'
          have eI : skDecAt W1 kk x (s, Ts) (g :: z, l, r) = (stp (stp s 1) (Tr.asked (aheadW W1) (Tr.fillZ (g :: z) .nil) (.node x l r)), updT Ts kk (Tr.merge (aheadW W1) (Tr.fillZ (g :: z) .nil) (.node x l r))) := by show (if aheadW W1 x g.x = true then _ else _) = _; rw [if_pos hah, stp_add hst]
          clear hBk' hah
          obtain ⟨H2, hfin⟩ := hC'
          have hsame := tops_same Ts (h := kk) (T := Tr.fillZ (g :: z) .nil) (by rw [hT]; exact Tr.zip_top z g _ _)
          have hCt := fun (w3 : World) (s1 : Int) (h3 : Stage F w (skParts p f c t bm n W1 s1 L Ts) w3) => kcut_st (q := [_, _]) h3 x
          clear hT hSt u3 u4
          generalize stp s 1 = s1 at *
          replace eI := Lib.hid eI
          go_wp2_with fail
          refine hR'.mono ?_
          rintro e w3 ⟨rfl, hs4⟩
          clear hR' hs3 p1
          have hs5 : Stage F w (skParts p f c t bm n W1 s1 L Ts) w3 := hs4
          have p1 := sk_p1 hs5
          replace hCt := hCt w3 s1 hs5
          go_wp2_with fail
          refine hCt.mono ?_
          rintro e w4 ⟨rfl, hs6⟩
          clear hCt hs4 hs5 p1
          have hs7 : Stage F w (skParts p f c t bm n W1 s1 (cutL L x) (updT Ts kk (Tr.fillZ (g :: z) .nil))) w4 := by
            unfold skParts
            rw [hsame.1, hsame.2]
            exact hs6
          have hAd := add_sk (h := kk) (tb := .node x l r) (x := x) hs7 hk2 rfl (by rw [updT_at]; exact H2)
          unfold KAddPost at hAd
          rw [updT_at, updT_twice] at hAd
          clear hs6 hsame H2 hs7
          go_wp2_with fail
          refine hAd.mono ?_
          rintro e w5 ⟨L2, rfl, a1, a2, hs8⟩
          obtain ⟨I3, J3⟩ := hfin a1 a2
          clear hAd hfin a1 a2
          go_wp2_with fail
          go_ret
          exact ⟨rfl, by rw [eI.out]; exact skew_close hs8 hF I3 J3 hn1⟩
set_option maxRecDepth 100000 in
set_option maxHeartbeats 1000000 in
theorem meld_sk (a b : Int) (h : (Ob.skew p c W s Ts).holds w F) : Calls Try.prog 114 #[.pointer (some ⟨p, 0, none⟩), .int .i64 a, .int .i64 b] w fun e w' => e = .returned (.bool (joinBW W a b)) ∧ ∃ F', (Ob.skew p c (joinW W a b) (skMeld W a b (s, Ts)).1 (skMeld W a b (s, Ts)).2).holds w' F' ∧ Moved F F' w w' := by
  have hF := (Ob.skew p c W s Ts).lt h
  obtain ⟨f, t, bm, n, L, I, J, hn, hf, hst, hg⟩ := h
  have hs := Ob.group.open hg
  clear hg
  have hJ := hs.call 1 rfl (fun _ ho => join_cl a b ho)
  have p0 := sk_p0 hs
  cases hB : joinBW W a b
  · have eW : joinW W a b = W := by simp [joinW, hB]
    have eI : skMeld W a b (s, Ts) = (s, Ts) := by unfold skMeld; rw [hB]; rfl
    rw [hB, eW] at hJ
    rw [eW, eI]
    clear eW eI
    go_enter Try.func114, Try.ntmps114
    go_wp2_with fail
    refine hJ.mono ?_
    rintro e w1 ⟨rfl, hs1⟩
    have hs2 : Stage F w (skParts p f c t bm n W s L Ts) w1 := hs1
    go_wp2_with fail
    go_ret
    exact ⟨rfl, skew_close hs2 hF I J hn⟩
  · obtain ⟨i, j, rfl, rfl, hi1, hi2, hj1, hj2⟩ : ∃ i j : Nat, a = i ∧ b = j ∧ 1 ≤ i ∧ i < 65537 ∧ 1 ≤ j ∧ j < 65537 := by
      have hB2 := hB
      simp only [joinBW, Bool.and_eq_true, decide_eq_true_eq] at hB2
      obtain ⟨i, rfl, h1, h2, _⟩ := has_nat hB2.1
      obtain ⟨j, rfl, h3, h4, _⟩ := has_nat hB2.2.1
      have := hf.len
      exact ⟨i, j, rfl, rfl, h1, by omega, h3, by omega⟩
    obtain ⟨hij, hnil, H2, hfin⟩ := kmeld_inv I J hn hB hi1 hj1
    have hn1 : (joinW W i j).cells.length = n := by rw [ljoin_len]; exact hn
    have ei : updT Ts j .nil i = Ts i := updT_ne _ _ hij
    have ebare := skMeld_bare (Ts := Ts) (i := i) (j := j) hst.2 hB hij
    have eI : skMeld W i j (s, Ts) = (stp s (Tr.asked (aheadW (joinW W i j)) (updT Ts j .nil i) (Ts j)), updT (updT Ts j .nil) i (Tr.merge (aheadW (joinW W i j)) (updT Ts j .nil i) (Ts j))) := by
      rw [ei]; unfold skMeld; rw [if_pos hB]; rfl
    rw [hB] at hJ
    generalize hgg : skMeld W i j (s, Ts) = gg at *
    clear hs hB ei hgg
    generalize joinW W i j = W1 at *
    go_enter Try.func114, Try.ntmps114
    go_wp2_with fail
    refine hJ.mono ?_
    rintro e w1 ⟨rfl, hs1⟩
    have hs2 : Stage F w (skParts p f c t bm n W1 s L Ts) w1 := hs1
    clear hs1 hJ p0
    have p2 := sk_p2 hs2
    have hl := sk_look hs2 j ⟨by omega, by omega⟩
    rw [topsT_nat] at hl
    cases ht : (Ts j).top with
    | none =>
      have hnl : Ts j = .nil := top_none ht
      rw [ht] at hl
      replace hl : (Instr.lookup 30 (.map (some bm)) (.int .i64 j) true).run Try.prog w1 = .ok (.tuple #[.int .i64 0, .bool false]) w1 := hl
      have I3 := hnil hnl
      have e9 := ebare hnl
      clear eI
      subst e9
      clear hnl ht hnil H2 hfin ebare
      go_wp2_with fail
      go_ret
      exact ⟨rfl, skew_close hs2 hF I3 J hn1⟩
    | some x =>
      rw [ht] at hl
      replace hl : (Instr.lookup 30 (.map (some bm)) (.int .i64 j) true).run Try.prog w1 = .ok (.tuple #[.int .i64 x, .bool true]) w1 := hl
      have hn2 := Lib.hid (cntT_del Ts hj2)
      have hf2 := Lib.hid (show setZ (topsT Ts) j none = topsT (updT Ts j .nil) by rw [topsT_upd]; rfl)
      subst eI
      clear hnil ebare
      go_wp2_with (at_delete; refine Stage.wp_deleteZL (cntT (updT Ts j .nil)) (topsT (updT Ts j .nil)) hs2 4 rfl rfl _ _ rfl Try.underlying30 Try.underlying3 rfl j rfl ⟨by omega, by omega⟩ hn2 hf2 ?_)
      intro w2 hs3
      replace hs3 : Stage F w (skParts p f c t bm n W1 s L (updT Ts j .nil)) w2 := hs3
      have hA := add_sk (h := i) (tb := Ts j) (x := x) hs3 hi2 ht H2
      unfold KAddPost at hA
      clear hs2 hs3 hl p2 hn2 hf2 H2 ht
      go_wp2_with fail
      refine hA.mono ?_
      rintro e w3 ⟨L', rfl, a1, a2, hs4⟩
      obtain ⟨I3, J3⟩ := hfin a1 a2
      clear hA hfin a1 a2
      go_wp2_with fail
      go_ret
      exact ⟨rfl, skew_close hs4 hF I3 J3 hn1⟩
end
def newSkewPost (w : World) (n : Nat) (e : Ending) (w' : World) : Prop := ∃ p c, e = .returned (.tuple #[.pointer (some ⟨p, 0, none⟩), .int .i64 0]) ∧ ∃ F', (Ob.skew p c (newW n) 0 (fun _ => .nil)).holds w' F' ∧ (∀ k, F' k → w.heap.size ≤ k) ∧ Below w.heap.size w w'
theorem knewForest_st {F0 : Nat → Prop} {W0 w : World} {c n : Nat} {W : WS} {s : Int} (h : Stage F0 W0 [Ob.cells c W s] w) (hn : W.cells.length = n) (hn2 : n ≤ 65536) : Calls Try.prog 26 #[.pointer (some ⟨c, 0, none⟩)] w fun e w' => ∃ f t, e = .returned (.tuple #[.pointer (some ⟨f, 0, none⟩), .int .i64 0]) ∧ Stage F0 W0 (skForest f c t n W s []) w' := by
  have hC := h.ask 0 rfl (fun _ ho => capacity_cl ho)
  rw [hn] at hC
  have hN := h.newSpine n hn2
  go_enter Try.func26, Try.ntmps26
  go_wp2_with fail
  refine hC.mono ?_
  rintro e w1 ⟨rfl, rfl⟩
  clear hC
  go_wp2_with fail
  refine hN.mono ?_
  rintro e w1 ⟨t, rfl, hs1⟩
  clear hN h
  have hs2 := hs1.alloc #[ptrV c, ptrV t] 99
  have hs3 : Stage F0 W0 (skForest w1.heap.size c t n W s []) _ := hs2.select [2, 0, 1] (by decide) rfl
  clear hs1 hs2
  go_wp2_with fail
  exact bodyPost_ret (v := .tuple #[.pointer (some ⟨w1.heap.size, 0, none⟩), .int .i64 0]) (by simp [results, Try.results26, go_sem]) rfl ⟨_, t, rfl, hs3⟩
set_option maxRecDepth 100000 in
theorem new_sk (n : Nat) (hn : n ≤ 65536) (w : World) : Calls Try.prog 10 #[.int .i64 n] w (newSkewPost w n) := by
  have hmm := @run_makeMap Try.prog
  have hC := new_cl n hn w
  go_enter Try.func10, Try.ntmps10
  go_wp2_with fail
  refine hC.mono ?_
  rintro e w1 ⟨c, rfl, F1, h1, h2, h3⟩
  have hs1 : Stage (fun _ => False) w [Ob.cells c (newW n) 0] w1 := (Stage.start w).add (O := Ob.cells c (newW n) 0) h3 h1 h2
  clear hC h1 h2 h3
  have hnl : (newW n).cells.length = n := by simp [newW]
  have hN := knewForest_st hs1 hnl hn
  go_wp2_with fail
  refine hN.mono ?_
  rintro e w2 ⟨f, t, rfl, hs2⟩
  clear hN hs1
  have hs3 := hs2.newZMap Try.prog 3 3 rfl
  have hz : (w2.alloc (.map #[] 0)).heap.size = w2.heap.size + 1 := size_alloc _ _
  have hs4 := hs3.alloc #[ptrV c, ptrV f, .map (some w2.heap.size)] 32
  rw [hz] at hs4
  have e1 : topsT (fun _ => Tr.nil) = fun _ => none := by funext h; unfold topsT; split <;> rfl
  have e2 : cntT (fun _ => Tr.nil) = 0 := by
    unfold cntT
    rw [List.countP_eq_zero]
    intro a _
    simp [Tr.top]
  have hs5 : Stage (fun _ => False) w (skParts (w2.heap.size + 1) f c t w2.heap.size n (newW n) 0 [] (fun _ => .nil)) ((w2.alloc (.map #[] 0)).alloc (.cells #[ptrV c, ptrV f, .map (some w2.heap.size)] 32)) := by
    unfold skParts
    rw [e1, e2]
    exact hs4.select [0, 1, 2, 4, 3] (by decide) rfl
  clear hs2 hs3 hs4
  go_wp2_with fail
  obtain ⟨F', g1, g2, g3⟩ := hs5.closeNew
  exact bodyPost_ret (v := .tuple #[.pointer (some ⟨w2.heap.size + 1, 0, none⟩), .int .i64 0]) (by simp [results, Try.results10, go_sem]) rfl ⟨_, c, rfl, F', ⟨f, t, w2.heap.size, n, [], tinv_new n, kinv_new, hnl, new_fitW hn, ⟨Int.le_refl _, by omega⟩, g1⟩, g2, g3⟩
theorem new_sk_no (n : Int) (w : World) (hn : ¬ (0 ≤ n ∧ n ≤ 65536)) : Calls Try.prog 10 #[.int .i64 n] w fun e w' => e = .returned (.tuple #[.pointer none, .int .i64 31]) ∧ w = w' := by
  go_enter Try.func10, Try.ntmps10
  go_wp2_with fail
  refine (new_no n w hn).mono ?_
  rintro e w1 ⟨rfl, rfl⟩
  go_wp2_with fail
  exact bodyPost_ret (v := .tuple #[.pointer none, .int .i64 31]) (by simp [results, Try.results10, go_sem]) rfl ⟨rfl, rfl⟩
end Go.Proofs.Ytehoejoeoaimjaa
