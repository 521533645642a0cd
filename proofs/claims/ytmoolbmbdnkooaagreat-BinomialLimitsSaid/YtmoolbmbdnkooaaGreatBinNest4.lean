/- What the calls of a nest of binomial heaps return, and what then is: Min, Delete, Extract. -/
import Derived.Test.YtmoolbmbdnkooaaGreatBinNest3
namespace Go.Proofs.YtmoolbmbdnkooaaGreat
open Go.RowKit Go.Sort

section
variable {F0 F : Nat → Prop} {W0 w : World} {p f c t bm n k : Nat} {W : WS} {s : Int} {K : Int → List Int} {R : Nat → List Int} {vs : Nat → Value} {q : List Ob} {l A0 : List Int} {h gb cv m : Nat} {x : Int}
theorem Stage.bremove {kk : Nat} (hn : n ≤ 65536) (hm : l.length = m + 1) (J0 : LiftJ W n R h x A0 K l A0) (hx : (cellW W x).home = h) (hin : inW W x = true) (hh : 1 ≤ h) (hA0 : A0.length < kk) (hkk : lenW W h < 2 ^ kk) (hs : Stage F0 W0 ((binF f c t n W s K ++ [Ob.ints (.slice (some ⟨gb, 0, none⟩) (m + 1) cv) l]) ++ q) w) :
    Calls Tryz.prog 102 #[.pointer (some ⟨f, 0, none⟩), .slice (some ⟨gb, 0, none⟩) (m + 1) cv, .int .i64 x] w fun e w' => ∃ z mz cz K' r s', e = .returned (.slice z mz cz) ∧ BinAll (dropW W x) n K' (updI R h r) ∧ (s ≤ s' ∧ s' ≤ s + 3 * kk) ∧ Stage F0 W0 ((binF f c t n W s' K' ++ [Ob.ints (.slice z mz cz) r]) ++ q) w' :=
  (hs.frameEx (α := Option Addr × Nat × Nat × (Int → List Int) × List Int × Int)
    (Post := fun x' e => e = .returned (.slice x'.1 x'.2.1 x'.2.2.1) ∧ BinAll (dropW W x) n x'.2.2.2.1 (updI R h x'.2.2.2.2.1) ∧ (s ≤ x'.2.2.2.2.2 ∧ x'.2.2.2.2.2 ≤ s + 3 * kk))
    (l' := fun x' => binF f c t n W x'.2.2.2.2.2 x'.2.2.2.1 ++ [Ob.ints (.slice x'.1 x'.2.1 x'.2.2.1) x'.2.2.2.2.1])
    fun _ _ h => (remove_one hn hm J0 hx hin hh hA0 hkk h).mono fun _ _ ⟨z, mz, cz, K', r, s', he, h1, h2, h3⟩ => ⟨(z, mz, cz, K', r, s'), ⟨he, h1, h2⟩, h3⟩).mono
  fun _ _ ⟨x', ⟨he, h1, h2⟩, h3⟩ => ⟨x'.1, x'.2.1, x'.2.2.1, x'.2.2.2.1, x'.2.2.2.2.1, x'.2.2.2.2.2, he, h1, h2, h3⟩
end
section
variable {w : World} {p c : Nat} {W : WS} {s : Int} {F : Nat → Prop}
theorem min_bn (y : Int) (hy : inInt y) (h : (Ob.binom p c W s).holds w F) : Calls Tryz.prog 96 #[.pointer (some ⟨p, 0, none⟩), .int .i64 y] w fun e w' => e = .returned (.tuple #[.int .i64 (minI W y), .bool (minB W y)]) ∧ ∃ s', (s ≤ s' ∧ s' ≤ s + (Lib.bitLen (lenW W y) : Nat)) ∧ ∃ F', (Ob.binom p c W s').holds w' F' ∧ Moved F F' w w' := by
  have hF := (Ob.binom p c W s).lt h
  obtain ⟨f, t, bm, n, K, R, vs, A, hf, _, hg⟩ := h
  exact (min_st y hy A hf (Ob.group.open hg)).mono fun e w' ⟨he, s', h1, h2⟩ => ⟨he, s', h1, binom_close h2 hF A⟩
set_option maxRecDepth 100000 in
set_option maxHeartbeats 2000000 in
theorem delete_bn (x : Int) (h : (Ob.binom p c W s).holds w F) : Calls Tryz.prog 93 #[.pointer (some ⟨p, 0, none⟩), .int .i64 x] w fun e w' => e = .returned (.bool (inW W x)) ∧ ∃ s', (s ≤ s' ∧ (inW W x = false → s' = s) ∧ s' ≤ s + 3 * (Lib.bitLen (lenW W (cellW W x).home) : Nat)) ∧ ∃ F', (Ob.binom p c (dropW W x) s').holds w' F' ∧ Moved F F' w w' := by
  have hF := (Ob.binom p c W s).lt h
  obtain ⟨f, t, bm, n, K, R, vs, A, hf, _, hg⟩ := h
  have hs := Ob.group.open hg
  clear hg
  have hH := hs.call 1 rfl (fun _ ho => home_cl x ho)
  have p0 := bn_p0 (q := []) hs
  cases hB : inW W x
  · have eW : dropW W x = W := by simp [dropW, hB]
    rw [hB] at hH
    rw [eW]
    generalize ((cellW W x).home : Int) = hh at *
    clear eW
    go_enter Tryz.func93, Tryz.ntmps93
    go_wp2_with fail
    refine hH.mono ?_
    rintro e w1 ⟨rfl, hs1⟩
    have hs2 : Stage F w (binParts p f c t bm n W s K (rowsM R vs) (rowsF R vs)) w1 := hs1
    go_wp2_with fail
    go_ret
    exact ⟨rfl, s, ⟨Int.le_refl _, fun _ => rfl, by omega⟩, binom_close hs2 hF A⟩
  · obtain ⟨i, hi⟩ : ∃ i, (cellW W x).home = i := ⟨_, rfl⟩
    obtain ⟨A0, hA0⟩ := anc_ex A.inv x
    obtain ⟨hi1, J0, hR⟩ := A.delete hB hi hA0
    obtain ⟨_, hi2⟩ := A.home.keyLt A.inv hf hR
    have hfew := anc_few A.inv A.home A.rows hB hA0 (len_bits hf _)
    have hn : n ≤ 65536 := (Stage.forestInv hs 0 rfl).2
    obtain ⟨m, hm⟩ : ∃ m, (R i).length = m + 1 := by
      cases e : R i with
      | nil => exact absurd e hR
      | cons a r => exact ⟨r.length, rfl⟩
    rw [hB, hi] at hH
    rw [hi] at hfew ⊢
    have hbits := len_bits hf (i : Int)
    clear hs
    go_enter Tryz.func93, Tryz.ntmps93
    go_wp2_with fail
    refine hH.mono ?_
    rintro e w1 ⟨rfl, hs1⟩
    have hs2 : Stage F w (binParts p f c t bm n W s K (rowsM R vs) (rowsF R vs)) w1 := hs1
    clear hs1 hH p0
    have p1 := bn_p1 (q := []) hs2
    have p2 := bn_p2 (q := []) hs2
    have hlk := bn_look (q := []) hs2.drew (i : Int) ⟨by omega, by omega⟩
    obtain ⟨a, cv, ha1, ha2, hs3⟩ := btake hs2.drew i
    rw [ha1] at hlk
    obtain ⟨gb, cv', e9, _⟩ := hs3.intsAt 6 rfl (by omega)
    cases e9
    rw [hm] at hlk hs3
    have hRm := Stage.bremove (q := [Ob.box p #[ptrV c, ptrV f, .map (some bm)] 38, Ob.vmap Tryz.prog 3 bm (rowsM R vs) 65537, Ob.fam (updO (rowsF R vs) i Ob.none)]) hn hm J0 hi hB hi1 hfew hbits (hs3.select [0, 1, 2, 6, 3, 4, 5] (by decide) rfl)
    have hK := fun (w2 : World) (s' : Int) (K' : Int → List Int) (z : Option Addr) (mz cz : Nat) (r : List Int) (h2 : Stage F w ((binF f c t n W s' K' ++ [Ob.ints (.slice z mz cz) r]) ++ [Ob.box p #[ptrV c, ptrV f, .map (some bm)] 38, Ob.vmap Tryz.prog 3 bm (rowsM R vs) 65537, Ob.fam (updO (rowsF R vs) i Ob.none)]) w2) => keep_st (h2.select [0, 1, 2, 4, 5, 6, 3] (by decide) rfl) hi2 (upd_same _ _ _)
    clear hs2 hs3 ha1 ha2 hm J0 hR hfew hbits A
    go_wp2_with fail
    go_region_held3 (fun w' => w'.cell? ⟨p, 1, none⟩ = some (.pointer (some ⟨f, 0, none⟩)) ∧ w'.cell? ⟨p, 2, none⟩ = some (.map (some bm))) (first | exact ⟨p1, p2⟩ | exact pk | exact pk3 | simp [*])
      (first
      | (((with_reducible refine hRm.mono ?_); rintro e w2 ⟨z, mz, cz, K', r, s', rfl, hA2, hs12, h7⟩; have hKK := hK w2 s' K' z mz cz r h7; have pk : w2.cell? ⟨p, 1, none⟩ = some (.pointer (some ⟨f, 0, none⟩)) ∧ w2.cell? ⟨p, 2, none⟩ = some (.map (some bm)) := ⟨h7.cell 4 rfl rfl, h7.cell 4 rfl rfl⟩))
      | (((with_reducible refine hKK.mono ?_); rintro e w3 ⟨rfl, h8⟩; have pk3 : w3.cell? ⟨p, 1, none⟩ = some (.pointer (some ⟨f, 0, none⟩)) ∧ w3.cell? ⟨p, 2, none⟩ = some (.map (some bm)) := ⟨h8.cell 3 rfl rfl, h8.cell 3 rfl rfl⟩)))
    rw [rows_map, rows_fam] at h8
    have hD := h8.call 1 rfl (fun _ ho => drop_cl x ho)
    rw [hB] at hD
    have p0 := bn_p0 (q := []) h8
    clear hRm hK hKK h7 pk pk3 h8
    go_wp2_with fail
    refine hD.mono ?_
    rintro e w4 ⟨rfl, hs5⟩
    have hs6 : Stage F w (binParts p f c t bm n (dropW W x) s' K' (rowsM (updI R i r) (updV vs i (.slice z mz cz))) (rowsF (updI R i r) (updV vs i (.slice z mz cz)))) w4 := hs5
    go_wp2_with fail
    go_ret
    exact ⟨rfl, s', ⟨hs12.1, fun e => (by cases e), hs12.2⟩, binom_close hs6 hF hA2⟩
theorem extract_bn (y : Int) (hy : inInt y) (h : (Ob.binom p c W s).holds w F) : Calls Tryz.prog 94 #[.pointer (some ⟨p, 0, none⟩), .int .i64 y] w fun e w' => e = .returned (.tuple #[.int .i64 (minI W y), .bool (minB W y)]) ∧ ∃ s', (s ≤ s' ∧ s' ≤ s + 4 * (Lib.bitLen (lenW W y) : Nat)) ∧ ∃ F', (Ob.binom p c (exW W y) s').holds w' F' ∧ Moved F F' w w' := by
  have hM := min_bn y hy h
  cases hm : minW W y with
  | none =>
    obtain ⟨q1, q2⟩ := minI_none hm
    have q3 : exW W y = W := by simp [exW, hm]
    rw [q1, q2] at hM ⊢
    rw [q3]
    clear q1 q2 q3
    go_enter Tryz.func94, Tryz.ntmps94
    go_wp2_with fail
    refine hM.mono ?_
    rintro e w1 ⟨rfl, s1, h1, h2⟩
    go_wp2_with fail
    exact bodyPost_ret (v := .tuple #[.int .i64 0, .bool false]) (by simp [results, Tryz.results94, go_sem]) rfl ⟨rfl, s1, ⟨h1.1, by omega⟩, h2⟩
  | some m =>
    obtain ⟨q1, q2⟩ := minI_some hm
    have q3 : exW W y = dropW W m := by simp [exW, hm]
    have hmin := min_is hm
    have hhome : ((cellW W m).home : Int) = y := by
      have h1 := hmin.home
      rw [cell_nat W m hmin.lt]
      exact h1
    rw [q1, q2] at hM ⊢
    rw [q3]
    have hD := fun (w1 : World) (s1 : Int) (F1 : Nat → Prop) (h1 : (Ob.binom p c W s1).holds w1 F1) => delete_bn (m : Int) h1
    rw [(isMin_in hmin).1, hhome] at hD
    clear q1 q2 q3 hmin hm hhome h
    go_enter Tryz.func94, Tryz.ntmps94
    go_wp2_with fail
    refine hM.mono ?_
    rintro e w1 ⟨rfl, s1, h1, F1, h2, hmv⟩
    replace hD := hD w1 s1 F1 h2
    go_wp2_with fail
    refine hD.mono ?_
    rintro e w2 ⟨rfl, s2, h3, F2, h4, hmv2⟩
    go_wp2_with fail
    exact bodyPost_ret (v := .tuple #[.int .i64 m, .bool true]) (by simp [results, Tryz.results94, go_sem]) rfl ⟨rfl, s2, ⟨by omega, by omega⟩, F2, h4, hmv.trans hmv2⟩
end
end Go.Proofs.YtmoolbmbdnkooaaGreat
