/- What the calls of a nest of leftist trees return, and what then is: Extract, Decrease. -/
import Derived.Test.YthjelmbicnbhiaaLeftistNest3
import Derived.Deep.RegionHeld3
namespace Go.Proofs.Ythjelmbicnbhiaa
open Go.RowKit Go.Sort

theorem updT_same (Ts : Nat → Tr) (h : Nat) : updT Ts h (Ts h) = Ts := by
  funext i; unfold updT; split
  · rename_i e; rw [e]
  · rfl
theorem updT_twice (Ts : Nat → Tr) (h : Nat) (a b : Tr) : updT (updT Ts h a) h b = updT Ts h b := by
  funext i; unfold updT; split <;> rfl
section
variable {w : World} {p c f t bm n : Nat} {v : Value} {W W' : WS} {s s' : Int} {F F0 : Nat → Prop} {L : List Hg} {R : List Int} {Ts : Nat → Tr}
theorem extract_le (y : Int) (hy : inInt y) (h : (Ob.leftist p c W s Ts).holds w F) : Calls Try.prog 112 #[.pointer (some ⟨p, 0, none⟩), .int .i64 y] w fun e w' => e = .returned (.tuple #[.int .i64 (minI W y), .bool (minB W y)]) ∧ ∃ (s' : Int) (Ts' : Nat → Tr), (s ≤ s' ∧ s' ≤ s + (2 * Lib.bitLen (lenW W y) : Nat)) ∧ ∃ F', (Ob.leftist p c (exW W y) s' Ts').holds w' F' ∧ Moved F F' w w' := by
  have hM := min_le y hy h
  cases hm : minW W y with
  | none =>
    obtain ⟨q1, q2⟩ := minI_none hm
    have q3 : exW W y = W := by simp [exW, hm]
    rw [q1, q2] at hM ⊢
    rw [q3]
    go_enter Try.func112, Try.ntmps112
    go_wp2_with fail
    refine hM.mono ?_
    rintro e w1 ⟨rfl, rfl⟩
    go_wp2_with fail
    exact bodyPost_ret (v := .tuple #[.int .i64 0, .bool false]) (by simp [results, Try.results112, go_sem]) rfl ⟨rfl, s, Ts, ⟨Int.le_refl _, by omega⟩, F, h, Moved.refl _ _⟩
  | some m =>
    obtain ⟨q1, q2⟩ := minI_some hm
    have q3 : exW W y = dropW W m := by simp [exW, hm]
    have hmin := min_is hm
    rw [q1, q2] at hM ⊢
    rw [q3]
    have hD := delete_le m h
    have e1 : ((cellW W m).home : Int) = y := by rw [cell_nat W m hmin.lt]; exact hmin.home
    rw [e1, (isMin_in hmin).1] at hD
    go_enter Try.func112, Try.ntmps112
    go_wp2_with fail
    refine hM.mono ?_
    rintro e w1 ⟨rfl, rfl⟩
    go_wp2_with fail
    refine hD.mono ?_
    rintro e w2 ⟨rfl, s', Ts', ⟨h1, _, h2⟩, F', h3, h4⟩
    go_wp2_with fail
    exact bodyPost_ret (v := .tuple #[.int .i64 m, .bool true]) (by simp [results, Try.results112, go_sem]) rfl ⟨rfl, s', Ts', ⟨h1, h2⟩, F', h3, h4⟩
/-- A slot's entry becomes another one: what stands, where the slot stays; where it comes off. -/
theorem lower_inv {x k q : Int} (I : TInv W Ts) (J : LefInv Ts L (rkL R)) (hn : W.cells.length = n) (hb : lowerB W x k q = true) : ∃ (h : Nat) (z : List Fr) (l r : Tr), 1 ≤ h ∧ Ts h = Tr.fillZ z (.node x l r) ∧ (cellW W x).home = h ∧ (∀ y ∈ (Ts h).slots, inW (lowerW W x k q) y = true) ∧
    (z = [] → TInv (lowerW W x k q) Ts) ∧ (∀ g z', z = g :: z' → aheadW (lowerW W x k q) x g.x = false → TInv (lowerW W x k q) Ts) ∧
    ∀ g z', z = g :: z' → ∀ {L' : List Hg} {R' : List Int}, R'.length = n → Stands L' (rkL R') (Tr.lfillZ (g :: z') .nil) → Stands L' (rkL R') (.node x l r) → SameL (Tr.fillZ (g :: z') (.node x l r)).slots L L' (rkL R) (rkL R') →
      Two (lowerW W x k q) n L' R' (Tr.lfillZ (g :: z') .nil) (.node x l r) ∧ ∀ {T : Tr} {L2 : List Hg} {R2 : List Int}, T.slots.Perm ((Tr.lfillZ (g :: z') .nil).slots ++ (Tr.node x l r).slots) → Tr.Ok (aheadW (lowerW W x k q)) T → Stands L2 (rkL R2) T → SameL ((Tr.lfillZ (g :: z') .nil).slots ++ (Tr.node x l r).slots) L' L2 (rkL R') (rkL R2) →
        TInv (lowerW W x k q) (updT Ts h T) ∧ LefInv (updT Ts h T) L2 (rkL R2) := by
  obtain ⟨h, h1, hxm, hhome, hinS, hsm, hrel, hfin⟩ := tinv_lower (k := k) (s := q) I hb
  obtain ⟨z, l, r, hT⟩ := Tr.zip_ex hxm
  have hok := I.ok h
  have hnd := I.nodup h
  rw [hT] at hok hnd
  have hnd2 := (Tr.fillZ_perm z _).nodup_iff.1 hnd
  have hnode := hnd2
  rw [List.nodup_append] at hnode
  have hnx := hnode.1
  rw [Tr.slots, List.nodup_cons, List.mem_append] at hnx
  have hokn : Tr.Ok (aheadW W) (.node x l r) := Tr.okZ hok
  have hmemT : ∀ y, y ∈ (Ts h).slots ↔ y ∈ (Tr.node x l r).slots ∨ y ∈ Tr.zs z := fun y => by rw [hT, (Tr.fillZ_perm _ _).mem_iff, List.mem_append]
  have hin : ∀ y ∈ (Ts h).slots, inW (lowerW W x k q) y = true := fun y hy => by rw [hinS]; exact (I.in' hy).2.2.1
  have hnl : ∀ y ∈ l.slots, y ≠ x := fun y hy e => hnx.1 (Or.inl (by rw [← e]; exact hy))
  have hnr : ∀ y ∈ r.slots, y ≠ x := fun y hy e => hnx.1 (Or.inr (by rw [← e]; exact hy))
  have hokn' : Tr.Ok (aheadW (lowerW W x k q)) (.node x l r) := ⟨fun y hy => hrel y ((hmemT y).2 (Or.inl (by simp [Tr.slots, hy]))) (hnl y hy) (hokn.1 y hy), fun y hy => hrel y ((hmemT y).2 (Or.inl (by simp [Tr.slots, hy]))) (hnr y hy) (hokn.2.1 y hy),
    Tr.ok_congr (fun a ha b hb => hsm a b (hnl a ha) (hnl b hb)) hokn.2.2.1, Tr.ok_congr (fun a ha b hb => hsm a b (hnr a ha) (hnr b hb)) hokn.2.2.2⟩
  have hkeep : Tr.Ok (aheadW (lowerW W x k q)) (Ts h) → TInv (lowerW W x k q) Ts := fun hk => by
    have := hfin (Ts h) hk (List.Perm.refl _)
    rwa [updT_same] at this
  have hxz : x ∉ Tr.zs z := fun hx => hnode.2.2 x (by simp [Tr.slots]) x hx rfl
  refine ⟨h, z, l, r, h1, hT, hhome, hin, fun e => hkeep ?_, fun g z' e hlt => hkeep ?_, fun g z' e => ?_⟩
  · rw [hT, e]; exact hokn'
  · subst e
    rw [hT] at hin ⊢
    exact Tr.ok_lower (lt := aheadW W) (lt' := aheadW (lowerW W x k q)) (z := z') (f := g) (t := .node x l r) (fun y => inW (lowerW W x k q) y = true) (fun a b c ha hb hc => ahead_neg ha hb hc) hsm hok (by simp [Tr.slots]) hxz hin hokn' hlt
  · subst e
    intro L' R' hR' s1 s2 s3
    have hlz : ∀ y, y ∈ (Tr.lfillZ (g :: z') .nil).slots ↔ y ∈ Tr.zs (g :: z') := fun y => by rw [(Tr.lfillZ_perm _ _).mem_iff]; simp [Tr.slots]
    have hok1 : Tr.Ok (aheadW W) (Tr.lfillZ (g :: z') .nil) := Tr.lfillZ_ok hok (fun y hy => by cases hy) trivial
    have hokl : Tr.Ok (aheadW (lowerW W x k q)) (Tr.lfillZ (g :: z') .nil) := Tr.ok_congr (fun a ha b hb => hsm a b (fun e => hxz (by rw [← e]; exact (hlz a).1 ha)) (fun e => hxz (by rw [← e]; exact (hlz b).1 hb))) hok1
    have hpm : ((Tr.lfillZ (g :: z') .nil).slots ++ (Tr.node x l r).slots).Perm (Ts h).slots := by
      rw [hT]
      refine (List.Perm.trans ?_ (Tr.fillZ_perm _ _).symm)
      refine (List.perm_append_comm).trans (List.Perm.append_left _ ?_)
      have := Tr.lfillZ_perm (g :: z') .nil
      simpa [Tr.slots] using this
    refine ⟨⟨hR', by rw [llower_len]; exact hn, s1, s2, hokl, hokn', fun y hy hm => hnode.2.2 y hm y ((hlz y).1 hy) rfl, fun y hy => hin y (hpm.mem_iff.1 hy)⟩, fun {T} {L2} {R2} p1 p2 p3 p4 => ⟨hfin T p2 (p1.trans hpm), ?_⟩⟩
    refine J.upd h ((s3.mono fun y hy => ?_).trans p4) p3 (fun g' hg y hy hm => hg (I.one hy (hpm.mem_iff.1 hm))) (fun y hy => Or.inl (p1.mem_iff.2 hy)) (fun y hy => hpm.mem_iff.2 hy)
    rw [← hT] at hy
    exact hpm.mem_iff.2 hy
set_option maxRecDepth 100000 in
set_option maxHeartbeats 2000000 in
theorem decrease_le (x k q : Int) (h : (Ob.leftist p c W s Ts).holds w F) : Calls Try.prog 109 #[.pointer (some ⟨p, 0, none⟩), .int .i64 x, .agg #[.int .i64 k, .int .u64 q]] w fun e w' => e = .returned (.bool (lowerB W x k q)) ∧ ∃ (s' : Int) (Ts' : Nat → Tr), (s ≤ s' ∧ (lowerB W x k q = false → s' = s) ∧ s' ≤ s + (2 * Lib.bitLen (lenW W (cellW W x).home) + 1 : Nat)) ∧ ∃ F', (Ob.leftist p c (lowerW W x k q) s' Ts').holds w' F' ∧ Moved F F' w w' := by
  have hF := (Ob.leftist p c W s Ts).lt h
  obtain ⟨f, t, bm, v, n, L, R, I, J, hR, hn, hf, _, hg⟩ := h
  have hs := Ob.group.open hg
  clear hg
  obtain ⟨w0, hw0, hs0⟩ : ∃ w0, w.alloc (.cells #[.int .i64 k, .int .u64 q] 62) = w0 ∧ Stage F w (leftParts p f c t bm v n W s L R Ts ++ [Ob.box w.heap.size #[.int .i64 k, .int .u64 q] 62]) w0 := ⟨_, rfl, hs.alloc _ _⟩
  have hH := hs0.call 1 rfl (fun _ ho => home_cl x ho)
  have p0 := hs0.cell 4 rfl (o := 0) rfl
  clear hs
  cases hB : inW W x
  · have eB : lowerB W x k q = false := by simp [lowerB, hB]
    have eW : lowerW W x k q = W := by simp [lowerW, eB]
    rw [hB] at hH
    rw [eB, eW]
    generalize ((cellW W x).home : Int) = hh at *
    go_enter Try.func109, Try.ntmps109
    go_wp2_with fail
    refine hH.mono ?_
    rintro e w1 ⟨rfl, hs1⟩
    have hs2 : Stage F w (leftParts p f c t bm v n W s L R Ts) w1 := hs1.take 6
    clear hH p0 hw0 hs0 hs1
    go_wp2_with fail
    go_quiet (fail)
    go_wp2_with fail
    go_ret
    exact ⟨rfl, s, _, ⟨Int.le_refl _, fun _ => rfl, by omega⟩, left_close (hs2.drewN _) hF I J hR hn⟩
  · rw [hB] at hH
    have hL := fun (w1 : World) (hs1 : Stage F w (leftParts p f c t bm v n W s L R Ts ++ [Ob.box w.heap.size #[.int .i64 k, .int .u64 q] 62]) w1) => hs1.drew.call 1 rfl (fun _ ho => lower_cl x k q ho)
    cases hlb : lowerB W x k q
    · have eW : lowerW W x k q = W := by simp [lowerW, hlb]
      rw [hlb, eW] at hL
      rw [eW]
      generalize ((cellW W x).home : Int) = hh at *
      go_enter Try.func109, Try.ntmps109
      go_wp2_with fail
      refine hH.mono ?_
      rintro e w1 ⟨rfl, hs1⟩
      clear hH p0 hw0 hs0
      replace hs1 : Stage F w (leftParts p f c t bm v n W s L R Ts ++ [Ob.box w.heap.size #[.int .i64 k, .int .u64 q] 62]) w1 := hs1
      replace hL := hL w1 hs1
      have b0 := hs1.cell 6 rfl (o := 0) rfl
      have b1 := hs1.cell 6 rfl (o := 1) rfl
      have p0 : w1.cell? ⟨p, 0, none⟩ = some (.pointer (some ⟨c, 0, none⟩)) := hs1.cell 4 rfl (o := 0) rfl
      go_wp2_with fail
      go_region_held3 (fun w' => w'.cell? ⟨w.heap.size, 0, none⟩ = some (.int .i64 k) ∧ w'.cell? ⟨w.heap.size, 1, none⟩ = some (.int .u64 q) ∧ w'.cell? ⟨p, 0, none⟩ = some (.pointer (some ⟨c, 0, none⟩))) (first | exact ⟨b0, b1, p0⟩ | exact ⟨b0p, b1p, p0p⟩ | simp [*])
        ((with_reducible refine hL.mono ?_; rintro e w2 ⟨rfl, hs2⟩; have b0p := hs2.cell 6 rfl (o := 0) rfl; have b1p := hs2.cell 6 rfl (o := 1) rfl; have p0p : w2.cell? ⟨p, 0, none⟩ = some (.pointer (some ⟨c, 0, none⟩)) := hs2.cell 4 rfl (o := 0) rfl))
      have hs3 : Stage F w (leftParts p f c t bm v n W s L R Ts) w2 := hs2.take 6
      go_wp2_with fail
      go_ret
      exact ⟨rfl, s, _, ⟨Int.le_refl _, fun _ => rfl, by omega⟩, left_close hs3 hF I J hR hn⟩
    · obtain ⟨kk, z, l, r, hk1, hT, hhome, hin, hA, hBk, hC⟩ := lower_inv (k := k) (q := q) I J hn hlb
      have hnn : Ts kk ≠ .nil := fun e => by
        have := (I.mem kk x hk1).2 hhome
        rw [e] at this; simp [Tr.slots] at this
      obtain ⟨_, hk2⟩ := I.keyLt hf hnn
      have hSt := J.all kk
      rw [hT] at hSt
      have hsz := I.size kk hk1
      have hle := Nat.le_trans (len_le W kk) hf.cap
      have hn1 : (lowerW W x k q).cells.length = n := by rw [llower_len]; exact hn
      rw [hhome] at hH ⊢
      rw [hlb] at hL
      clear hhome hlb hnn
      generalize lowerW W x k q = W1 at *
      go_enter Try.func109, Try.ntmps109
      go_wp2_with fail
      refine hH.mono ?_
      rintro e w1 ⟨rfl, hs1⟩
      clear hH p0 hw0 hs0
      replace hs1 : Stage F w (leftParts p f c t bm v n W s L R Ts ++ [Ob.box w.heap.size #[.int .i64 k, .int .u64 q] 62]) w1 := hs1
      replace hL := hL w1 hs1
      have b0 := hs1.cell 6 rfl (o := 0) rfl
      have b1 := hs1.cell 6 rfl (o := 1) rfl
      have p0 : w1.cell? ⟨p, 0, none⟩ = some (.pointer (some ⟨c, 0, none⟩)) := hs1.cell 4 rfl (o := 0) rfl
      go_wp2_with fail
      go_region_held3 (fun w' => w'.cell? ⟨w.heap.size, 0, none⟩ = some (.int .i64 k) ∧ w'.cell? ⟨w.heap.size, 1, none⟩ = some (.int .u64 q) ∧ w'.cell? ⟨p, 0, none⟩ = some (.pointer (some ⟨c, 0, none⟩))) (first | exact ⟨b0, b1, p0⟩ | exact ⟨b0p, b1p, p0p⟩ | simp [*])
        ((with_reducible refine hL.mono ?_; rintro e w2 ⟨rfl, hs2⟩; have b0p := hs2.cell 6 rfl (o := 0) rfl; have b1p := hs2.cell 6 rfl (o := 1) rfl; have p0p : w2.cell? ⟨p, 0, none⟩ = some (.pointer (some ⟨c, 0, none⟩)) := hs2.cell 4 rfl (o := 0) rfl))
      have hs3 : Stage F w (leftParts p f c t bm v n W1 s L R Ts) w2 := hs2.take 6
      clear hL hs1 hs2 b0 b1 p0 b0p b1p p0p
      have p1 := le_p1 hs3
      cases z with
      | nil =>
        have hu : upL L x = none := hSt.root x rfl
        have hR' := rises_no (q := [_, _]) hs3 x hu
        have I3 := hA rfl
        clear hA hBk hC hSt hu
        go_wp2_with fail
        refine hR'.mono ?_
        rintro e w3 ⟨rfl, rfl⟩
        go_wp2_with fail
        go_ret
        exact ⟨rfl, s, _, ⟨Int.le_refl _, fun _ => rfl, by omega⟩, left_close hs3 hF I3 J hR hn1⟩
      | cons g z =>
        have hrep := rep_fill.1 hSt.rep
        have hu : upL L x = some g.x := up_frame (fo_inv (q := [_, _]) hs3).1 hrep.2
        have hR' := rises_yes (q := [_, _]) hs3 x g.x hu
        have hst1 := (fo_fit (q := [_, _]) hs3).2
        have hs1 : s ≤ aheadS W1 s x g.x ∧ aheadS W1 s x g.x ≤ s + 1 := by
          unfold aheadS addI
          repeat' split
          all_goals omega
        have hBk' := hBk g z rfl
        have hC' := fun {L' R'} => hC g z rfl (L' := L') (R' := R')
        clear hA hBk hC hrep hu hst1
        have hinN : ∀ y ∈ (Tr.fillZ (g :: z) (.node x l r)).slots, inN n y := fun y hy => by
          rw [← hT] at hy
          obtain ⟨i, rfl, hi⟩ := in_n hn1 (hin y hy)
          exact ⟨by omega, by omega⟩
        generalize aheadS W1 s x g.x = s1 at *
        cases hah : aheadW W1 x g.x
        · rw [hah] at hR'
          have I3 := hBk' hah
          clear hBk' hC' hah hSt hinN
          go_wp2_with fail
          refine hR'.mono ?_
          rintro e w3 ⟨rfl, hs4⟩
          have hs5 : Stage F w (leftParts p f c t bm v n W1 s1 L R Ts) w3 := hs4
          go_wp2_with fail
          go_ret
          exact ⟨rfl, s1, _, ⟨hs1.1, fun e => by simp at e, by omega⟩, left_close hs5 hF I3 J hR hn1⟩
        · rw [hah] at hR'
          clear hBk' hah
          go_wp2_with fail
          refine hR'.mono ?_
          rintro e w3 ⟨rfl, hs4⟩
          clear hR' hs3 p1
          have hs5 : Stage F w (leftParts p f c t bm v n W1 s1 L R Ts) w3 := hs4
          have p1 := le_p1 hs5
          have hCt := cut_st (q := [_, _]) hs5 hR hSt rfl hinN
          go_wp2_with fail
          refine hCt.mono ?_
          rintro e w4 ⟨rfl, L', R', m1, m2, m3, m4, hs6⟩
          clear hCt hs4 hs5 p1
          obtain ⟨H2, hfin⟩ := hC' m1 m2 m3 m4
          have hsame := tops_same Ts (h := kk) (T := Tr.lfillZ (g :: z) .nil) (by rw [hT]; exact Tr.lfillZ_top z g _ _)
          have hs7 : Stage F w (leftParts p f c t bm v n W1 s1 L' R' (updT Ts kk (Tr.lfillZ (g :: z) .nil))) w4 := by
            unfold leftParts
            rw [hsame.1, hsame.2]
            exact hs6
          have hb : Tr.spine (Tr.lfillZ (g :: z) .nil) ≤ Lib.bitLen (lenW W kk) ∧ Tr.spine (.node x l r) ≤ Lib.bitLen (lenW W kk) := by
            have e1 := (Tr.fillZ_perm (g :: z) (.node x l r)).length_eq
            have e2 := (Tr.lfillZ_perm (g :: z) .nil).length_eq
            rw [List.length_append, ← hT, Tr.size_slots, Tr.size_slots, hsz] at e1
            rw [List.length_append, Tr.size_slots, Tr.size_slots] at e2
            have e3 : Tr.size .nil = 0 := rfl
            exact ⟨lef_bits m2.lef (by omega) hle, lef_bits m3.lef (by omega) hle⟩
          have hAd := add_le (h := kk) (tb := .node x l r) (x := x) hs7 hk2 rfl (by rw [updT_at]; exact H2)
          clear hs6 hsame hC' H2 hSt hinN m2 m3 m4 hs7
          go_wp2_with fail
          refine hAd.mono ?_
          rintro e w5 ⟨T, L2, R2, s2, rfl, a1, a2, a3, a4, a5, ⟨a6, a7, _, _⟩, _, _, hs8⟩
          rw [updT_at] at a2 a5 a7
          rw [updT_twice] at hs8
          obtain ⟨I3, J3⟩ := hfin a2 a3 a4 a5
          clear hAd hfin a2 a3 a4 a5
          have hst : s ≤ s2 ∧ s2 ≤ s + (2 * Lib.bitLen (lenW W kk) + 1 : Nat) := by omega
          clear a7 hb
          go_wp2_with fail
          go_ret
          exact ⟨rfl, s2, _, ⟨hst.1, fun e => by simp at e, hst.2⟩, left_close hs8 hF I3 J3 a1 hn1⟩
end
end Go.Proofs.Ythjelmbicnbhiaa
