/- Merged of SpineCalls2, SpineLists, TrHang, LeftistMath, LeftistInv. -/
import Derived.Test.YtkcicnflcilekaaGreatSpineCalls
import Derived.Test.YtkcicnflcilekaaGreatShedList3
import Derived.Test.YtkcicnflcilekaaGreatSpineRowMath
namespace Go.Proofs.YtkcicnflcilekaaGreat
open Go.RowKit Go.Sort

/-- Of the sides so far gone through, what is x is taken off. -/
def cutTo (t : Th) (x : Int) (j : Nat) : Th := ⟨t.up, if 0 < j ∧ t.l = x then -1 else t.l, if 1 < j ∧ t.r = x then -1 else t.r⟩
theorem cutTo_zero (t : Th) (x : Int) : cutTo t x 0 = t := by cases t; simp [cutTo]
theorem cutTo_yes {t : Th} {x : Int} {s : Bool} (h : (if s then t.r else t.l) = x) : (cutTo t x s.toNat).kid s (-1) = cutTo t x (s.toNat + 1) := by
  cases s <;> simp_all [cutTo, Th.kid]
theorem cutTo_no {t : Th} {x : Int} {s : Bool} (h : (if s then t.r else t.l) ≠ x) : cutTo t x (s.toNat + 1) = cutTo t x s.toNat := by
  cases s <;> simp_all [cutTo]
section
variable {w : World} {p n : Nat} {L : List Hg} {F : Nat → Prop}
theorem th_set_kid2 {n pi : Nat} {L : List Hg} {t : Th} (hp : pi < n) (s : Bool) (x : Int) : (cellsBy thC ((rawOf n L).set pi t)).set (pi * 3 + (1 + s.toNat)) (.int .i64 x) = cellsBy thC ((rawOf n L).set pi (t.kid s x)) := by
  have := th_set_kid ((rawOf n L).set pi t) pi (by rw [List.length_set, raw_len]; exact hp) s x
  rw [getD_set' _ _ _ _ _ (by rw [raw_len]; exact hp), if_pos rfl, List.set_set] at this
  exact this
set_option maxHeartbeats 1000000 in
theorem cut_sp (x : Int) (h : (Ob.spine p n L).holds w F) : Calls Tryz.prog 265 #[.pointer (some ⟨p, 0, none⟩), .int .i64 x] w fun e w' => e = .returned (.tuple #[.int .i64 ((upL L x).getD 0), .bool (upL L x).isSome]) ∧ ∃ F', (Ob.spine p n (cutL L x)).holds w' F' ∧ Moved F F' w w' := by
  have hF := (Ob.spine p n L).lt h
  have hstay : ∃ F', (Ob.spine p n L).holds w F' ∧ Moved F F' w w := ⟨F, h, Moved.refl _ _⟩
  obtain ⟨v, I, hn, hg⟩ := h
  have hs := Ob.group.open hg
  have hU := sp_up (q := []) hs I hn x
  clear hg
  cases hu : upL L x with
  | none =>
    rw [cut_same I hu]
    rw [hu] at hU
    clear hs
    go_enter Tryz.func265, Tryz.ntmps265
    go_wp2_with fail
    refine hU.mono ?_
    rintro e w1 ⟨rfl, rfl⟩
    go_wp2_with fail
    go_ret2
    exact ⟨rfl, hstay⟩
  | some a =>
    rw [hu] at hU
    obtain ⟨hx, ha⟩ := up_in I hu
    obtain ⟨i, rfl⟩ : ∃ i : Nat, a = i := ⟨a.toNat, by have := ha.1; omega⟩
    obtain ⟨j, rfl⟩ : ∃ j : Nat, x = j := ⟨x.toNat, by have := hx.1; omega⟩
    have hi : i < n := by have := ha.2; omega
    have hj : j < n := by have := hx.2; omega
    have hij : i ≠ j := by
      rintro rfl
      obtain ⟨d, D⟩ := I.dep
      have := D.up hu
      omega
    obtain ⟨g, c, rfl, hc1, hc2, hgp, hgl, hc, hf⟩ := sp_row (q := []) hs (by omega)
    have u1 := (hc i hi).2 false
    have u2 := (hc i hi).2 true
    simp only [Bool.toNat_false, Bool.toNat_true, Nat.add_zero] at u1 u2
    have c0 := sp_c0 (q := []) hs
    have hend : ((rawOf n L).set i (cutTo (thOf L i) j 2)).set j ⟨-1, (((rawOf n L).set i (cutTo (thOf L i) j 2)).getD j .no).l, (((rawOf n L).set i (cutTo (thOf L i) j 2)).getD j .no).r⟩ = rawOf n (cutL L j) := by
      rw [getD_set' _ _ _ _ _ (by rw [raw_len]; exact hi), if_neg hij, raw_at _ hj, ← raw_cut I hi hj hij hu]
      have e1 := fun r => propext (oI_some (o := kidL L i r) hx)
      simp only [cutTo, thOf, e1]
      simp
    have I' := inv_cut I j
    have hst : Stage F w (spineParts p (.slice (some ⟨g, 0, none⟩) n c) n L) w := hs
    have hs : Stage F w [Ob.box p #[.slice (some ⟨g, 0, none⟩) n c] 272, Ob.row 0 275 3 (.slice (some ⟨g, 0, none⟩) n c) n (cellsBy thC ((rawOf n L).set i (cutTo (thOf L i) j 0)))] w := by
      have e : (rawOf n L).set i (cutTo (thOf L i) j 0) = rawOf n L := by
        rw [cutTo_zero]
        refine th_ext (by simp [raw_len]) (raw_len _ _) (fun k hk => ?_)
        rw [getD_set' _ _ _ _ _ (by rw [raw_len]; exact hi), raw_at _ hk]
        split
        · rename_i e; rw [e]
        · rfl
      rw [e]; exact hst
    obtain ⟨A, hA⟩ : ∃ A, A = oI (kidL L i false) := ⟨_, rfl⟩
    obtain ⟨B, hB⟩ : ∃ B, B = oI (kidL L i true) := ⟨_, rfl⟩
    rw [← hA] at u1
    rw [← hB] at u2
    have hAB : ∀ s : Bool, (if s then (thOf L i).r else (thOf L i).l) = if s then B else A := fun s => by cases s <;> simp [thOf, hA, hB]
    replace hA := Lib.hid hA
    replace hB := Lib.hid hB
    have hyes : ∀ s : Bool, (if s then B else A) = j → (cutTo (thOf L i) j s.toNat).kid s (-1) = cutTo (thOf L i) j (s.toNat + 1) := fun s h => cutTo_yes (by rw [hAB, h])
    have hnoo : ∀ s : Bool, (if s then B else A) ≠ j → cutTo (thOf L i) j (s.toNat + 1) = cutTo (thOf L i) j s.toNat := fun s h => cutTo_no (by rw [hAB]; exact h)
    have hput : ∀ (t : Th) (s : Bool), (cellsBy thC ((rawOf n L).set i t)).set (i * 3 + (1 + s.toNat)) (.int .i64 (-1)) = cellsBy thC ((rawOf n L).set i (t.kid s (-1))) := fun t s => th_set_kid2 hi s (-1)
    have hlast := th_set_up ((rawOf n L).set i (cutTo (thOf L i) j 2)) j (by rw [List.length_set, raw_len]; exact hj) (-1)
    rw [hend] at hlast
    have hcl := fun w' (h : Stage F w (spineParts p (.slice (some ⟨g, 0, none⟩) n c) n (cutL L j)) w') => spine_close h hF I' hn
    unfold spineParts at hcl
    generalize hL' : rawOf n (cutL L j) = Lc at *
    clear hst hc hf hend hAB hstay I I' hu hL'
    have hRn : (rawOf n L).length = n := raw_len n L
    generalize thOf L i = t at *
    generalize rawOf n L = R at *
    go_enter Tryz.func265, Tryz.ntmps265
    go_wp2_with fail
    refine hU.mono ?_
    rintro e w1 ⟨rfl, rfl⟩
    clear hU
    have i0 : ∀ a b : Int, ∀ w, (Instr.index 273 (.agg #[.int .i64 a, .int .i64 b]) (.int .i64 0)).run Tryz.prog w = .ok (.int .i64 a) w := fun _ _ _ => by kernel_rfl
    have i1 : ∀ a b : Int, ∀ w, (Instr.index 273 (.agg #[.int .i64 a, .int .i64 b]) (.int .i64 1)).run Tryz.prog w = .ok (.int .i64 b) w := fun _ _ _ => by kernel_rfl
    go_wp2_with fail
    go_loopw [26] (fun z wr => ∃ (k : Nat) (y : Int), z = .int .i64 y ∧ y = k ∧ k ≤ 2 ∧ Stage F w [Ob.box p #[.slice (some ⟨g, 0, none⟩) n c] 272, Ob.row 0 275 3 (.slice (some ⟨g, 0, none⟩) n c) n (cellsBy thC (R.set i (cutTo t j k)))] wr) (fun z _ => 2 - (intOf z).toNat)
    case atStart => exact ⟨0, 0, rfl, rfl, by omega, hs⟩
    case round =>
      clear hs c0 u1 u2
      obtain ⟨k, y, rfl, hy, hk, hs⟩ := hrel
      have c0 := hs.cell 0 rfl (o := 0) rfl
      obtain ⟨g', c', hv, _, _, _, _, hcc, fz⟩ := owns_at thC_len .no (hs.owns 1 rfl) (by rw [List.length_set]; exact hRn) (by omega)
      cases hv
      have v0 := hcc j 0 _ hj (by omega) rfl
      have v1 := hcc i 1 _ hi (by omega) rfl
      have v2 := hcc i 2 _ hi (by omega) rfl
      rw [Nat.add_zero] at v0
      replace v2 : wr.cell? ⟨g, i * 3 + 1 + 1, none⟩ = _ := v2
      clear hcc
      generalize ((R.set i (cutTo t j k)).getD j .no).up = z0 at *
      generalize ((R.set i (cutTo t j k)).getD i .no).l = z1 at *
      generalize ((R.set i (cutTo t j k)).getD i .no).r = z2 at *
      have hk3 : k = 0 ∨ k = 1 ∨ k = 2 := by omega
      rcases hk3 with rfl | rfl | rfl
      · obtain rfl : y = 0 := by omega
        clear hy
        by_cases e : A = j
        · subst e
          have hs2 := hs.storeRow 1 rfl (i * 3 + (1 + false.toNat)) (.int .i64 (-1)) (hput _ false)
          have e2 := hyes false rfl
          simp only [Bool.toNat_false, Nat.add_zero, Nat.zero_add] at e2 hs2
          rw [e2] at hs2
          have f0 := fz (i * 3 + 1)
          clear hyes hnoo hput hlast hcl hs
          go_wp2_with fail
          go_roundw
          case rel => exact ⟨1, 1, rfl, rfl, by omega, hs2⟩
          case measure => simp [intOf]
        · have e' : (A == (j : Int)) = false := by simpa using e
          have e2 := hnoo false e
          simp only [Bool.toNat_false, Nat.zero_add] at e2
          rw [← e2] at hs
          clear hyes hnoo hput hlast hcl
          go_wp2_with fail
          go_roundw
          case rel => exact ⟨1, 1, rfl, rfl, by omega, hs⟩
          case measure => simp [intOf]
      · obtain rfl : y = 1 := by omega
        clear hy
        by_cases e : B = j
        · subst e
          have hs2 := hs.storeRow 1 rfl (i * 3 + (1 + true.toNat)) (.int .i64 (-1)) (hput _ true)
          have e2 := hyes true rfl
          simp only [Bool.toNat_true] at e2 hs2
          rw [e2] at hs2
          have f0 := fz (i * 3 + 1 + 1)
          clear hyes hnoo hput hlast hcl hs
          go_wp2_with fail
          go_roundw
          case rel => exact ⟨2, 2, rfl, rfl, by omega, hs2⟩
          case measure => simp [intOf]
        · have e' : (B == (j : Int)) = false := by simpa using e
          have e2 := hnoo true e
          simp only [Bool.toNat_true] at e2
          rw [← e2] at hs
          clear hyes hnoo hput hlast hcl
          go_wp2_with fail
          go_roundw
          case rel => exact ⟨2, 2, rfl, rfl, by omega, hs⟩
          case measure => simp [intOf]
      · obtain rfl : y = 2 := by omega
        clear hy
        have hs2 := hs.storeRow 1 rfl (j * 3) (.int .i64 (-1)) hlast
        have f0 := fz (j * 3)
        clear hyes hnoo hput hlast hs
        go_wp2_with fail
        go_ret2
        exact ⟨rfl, hcl _ hs2⟩
set_option maxHeartbeats 1000000 in
theorem turn_sp (x : Int) (h : (Ob.spine p n L).holds w F) : Calls Tryz.prog 276 #[.pointer (some ⟨p, 0, none⟩), .int .i64 x] w fun e w' => e = .returned (.bool (hasN n x)) ∧ ∃ F', (Ob.spine p n (turnL L x)).holds w' F' ∧ Moved F F' w w' := by
  have hF := (Ob.spine p n L).lt h
  have hstay : ∃ F', (Ob.spine p n L).holds w F' ∧ Moved F F' w w := ⟨F, h, Moved.refl _ _⟩
  obtain ⟨v, I, hn, hg⟩ := h
  have hs := Ob.group.open hg
  have hH := sp_has (q := []) hs x
  have c0 := sp_c0 (q := []) hs
  clear hg
  cases hx : hasN n x
  · rw [turn_same I (fun e => by rw [has_in.2 e] at hx; cases hx)]
    rw [hx] at hH
    clear hs c0
    go_enter Tryz.func276, Tryz.ntmps276
    go_wp2_with fail
    refine hH.mono ?_
    rintro e w1 ⟨rfl, rfl⟩
    go_wp2_with fail
    go_ret
    exact ⟨rfl, hstay⟩
  · rw [hx] at hH
    obtain ⟨i, rfl⟩ : ∃ i : Nat, x = i := ⟨x.toNat, by have := (has_in.1 hx).1; omega⟩
    have hi : i < n := by have := (has_in.1 hx).2; omega
    obtain ⟨g, c, rfl, hc1, hc2, hgp, hgl, hc, hf⟩ := sp_row (q := []) hs (by omega)
    have u1 := (hc i hi).2 false
    have u2 := (hc i hi).2 true
    simp only [Bool.toNat_false, Bool.toNat_true, Nat.add_zero] at u1 u2
    have f1 := hf (i * 3 + 1)
    have f2 := hf (i * 3 + 1 + 1)
    have I' := inv_turn I (i : Int)
    have hcl := fun w' (h : Stage F w (spineParts p (.slice (some ⟨g, 0, none⟩) n c) n (turnL L i)) w') => spine_close h hF I' hn
    have hr1 := th_set_kid (rawOf n L) i (by rw [raw_len]; exact hi) false (oI (kidL L i true))
    rw [raw_at _ hi] at hr1
    have hr2 := th_set_kid2 (L := L) (t := (thOf L i).kid false (oI (kidL L i true))) hi true (oI (kidL L i false))
    rw [show ((thOf L i).kid false (oI (kidL L i true))).kid true (oI (kidL L i false)) = ⟨oI (upL L i), oI (kidL L i true), oI (kidL L i false)⟩ from rfl, raw_turn L hi] at hr2
    have hs2 : Stage F w (spineParts p (.slice (some ⟨g, 0, none⟩) n c) n (turnL L i)) ((w.setCell ⟨g, i * 3 + 1, none⟩ (.int .i64 (oI (kidL L i true)))).setCell ⟨g, i * 3 + 1 + 1, none⟩ (.int .i64 (oI (kidL L i false)))) :=
      (hs.storeRow 1 rfl (i * 3 + (1 + false.toNat)) (.int .i64 (oI (kidL L i true))) hr1).storeRow 1 rfl (i * 3 + (1 + true.toNat)) (.int .i64 (oI (kidL L i false))) hr2
    clear hs hc hf hstay I I' hr1 hr2 hx
    generalize oI (kidL L i true) = B at *
    generalize oI (kidL L i false) = A at *
    generalize turnL L i = L' at *
    go_enter Tryz.func276, Tryz.ntmps276
    go_wp2_with fail
    refine hH.mono ?_
    rintro e w1 ⟨rfl, rfl⟩
    clear hH
    go_wp2_with fail
    go_region
    all_goals
      go_wp2_with fail
      go_ret
      exact ⟨rfl, hcl _ hs2.drew⟩
end
end Go.Proofs.YtkcicnflcilekaaGreat

namespace Go.Proofs.YtkcicnflcilekaaGreat
open Go.RowKit Go.Sort

section
variable {w : World} {p n : Nat} {L : List Hg} {F : Nat → Prop}
theorem nodup_int (n : Nat) (l : List Int) (hd : l.Nodup) (h : ∀ x ∈ l, inN n x) : l.length ≤ n := by
  have := nodup_bound n (l.map Int.toNat) (by
    rw [List.nodup_iff_pairwise_ne, List.pairwise_map]
    refine hd.imp_of_mem ?_
    intro a b ha hb hne e
    have h1 := h a ha
    have h2 := h b hb
    unfold inN at h1 h2
    omega) (fun y hy => by
      obtain ⟨k, hk, rfl⟩ := List.mem_map.1 hy
      have := h k hk
      unfold inN at this
      omega)
  simpa using this
end
end Go.Proofs.YtkcicnflcilekaaGreat

namespace Go.Proofs.YtkcicnflcilekaaGreat

section
variable {n : Nat} {L : List Hg}
theorem hang_kids {a m : Int} {s : Bool} (h : kidL L a s = none) (q : Int) (r : Bool) : kidL (L ++ [⟨a, m, s⟩]) q r = if q = a ∧ r = s then some m else kidL L q r := by
  rw [kid_append]
  show (kidL L q r).or (if a = q ∧ s = r then some m else none) = _
  by_cases e : q = a ∧ r = s
  · obtain ⟨rfl, rfl⟩ := e
    rw [h, if_pos ⟨rfl, rfl⟩]; rfl
  · rw [if_neg e, if_neg (fun h => e ⟨h.1.symm, h.2.symm⟩), Option.or_none]
theorem hang_ups {a m : Int} {s : Bool} (h : upL L m = none) (y : Int) : upL (L ++ [⟨a, m, s⟩]) y = if y = m then some a else upL L y := by
  rw [up_append]
  show (upL L y).or (if m = y then some a else none) = _
  by_cases e : y = m
  · subst e; rw [h, if_pos rfl]; rfl
  · rw [if_neg e, if_neg (fun h => e h.symm), Option.or_none]
/-- The topmost of a tree by itself hangs below nothing; others hang below their frame's. -/
theorem up_frame (I : GInv n L) {f : Fr} {z : List Fr} {x : Int} {root : Option Int} (h : RepZ (kidL L) root (f :: z) (some x)) : upL L x = some f.x := I.up_kid.2 ⟨f.s, h.1⟩
theorem cut_frame {root : Option Int} {z : List Fr} {f : Fr} {x : Int} (I : GInv n L) (hz : RepZ (kidL L) root (f :: z) (some x)) (nf : f.x ∉ f.o.slots ∧ f.x ∉ Tr.zs z) :
    kidL (cutL L x) f.x f.s = none ∧ RepT (kidL (cutL L x)) (kidL (cutL L x) f.x (!f.s)) f.o ∧ RepZ (kidL (cutL L x)) root z (some f.x) ∧ upL (cutL L x) x = none ∧ (∀ y, y ≠ x → upL (cutL L x) y = upL L y) ∧ ∀ y, y ≠ f.x → ∀ s, kidL (cutL L x) y s = kidL L y s := by
  have hc := cut_kids I hz.1
  have hk : ∀ y, y ≠ f.x → ∀ s, kidL (cutL L x) y s = kidL L y s := fun y hy s => by rw [hc, if_neg (fun h => hy h.1)]
  refine ⟨by rw [hc, if_pos ⟨rfl, rfl⟩], ?_, repZ_congr (fun y hy s => hk y (fun e => nf.2 (by rw [← e]; exact hy)) s) hz.2.2, by rw [up_cut, if_pos rfl], fun y hy => by rw [up_cut, if_neg hy], hk⟩
  have e : kidL (cutL L x) f.x (!f.s) = kidL L f.x (!f.s) := by rw [hc, if_neg (by cases f.s <;> simp)]
  rw [e]
  exact rep_congr (fun y hy s => hk y (fun e => nf.1 (by rw [← e]; exact hy)) s) hz.2.1
theorem frame_out {g : Fr} {z : List Fr} {tx : Tr} (h : (Tr.fillZ (g :: z) tx).slots.Nodup) : (g.x ∉ g.o.slots ∧ g.x ∉ Tr.zs z) ∧ g.x ∉ tx.slots ∧ (Tr.zs (g :: z)).Nodup ∧ ∀ y ∈ tx.slots, y ∉ Tr.zs (g :: z) := by
  have h1 := (Tr.fillZ_perm (g :: z) tx).nodup_iff.1 h
  rw [List.nodup_append] at h1
  obtain ⟨_, h2, h3⟩ := h1
  have h2' := h2
  rw [Tr.zs, List.nodup_cons, List.mem_append] at h2
  exact ⟨⟨fun h => h2.1 (Or.inl h), fun h => h2.1 (Or.inr h)⟩, fun h => h3 _ h g.x (by simp [Tr.zs]) rfl, h2', fun y hy hz => h3 y hy y hz rfl⟩
end
end Go.Proofs.YtkcicnflcilekaaGreat

namespace Go.Proofs.YtkcicnflcilekaaGreat
namespace Tr
/-- No right child is longer than the left one. -/
def Lef : Tr → Prop
  | nil => True
  | node _ l r => spine r ≤ spine l ∧ Lef l ∧ Lef r
/-- The longer one to the left. -/
def mk (x : Int) (a b : Tr) : Tr := if spine a < spine b then node x b a else node x a b
theorem mk_perm (x : Int) (a b : Tr) : (mk x a b).slots.Perm (x :: (a.slots ++ b.slots)) := by
  unfold mk; split
  · exact List.perm_append_comm.cons x
  · exact List.Perm.refl _
theorem mk_top (x : Int) (a b : Tr) : (mk x a b).top = some x := by unfold mk; split <;> rfl
theorem mk_lef {x : Int} {a b : Tr} (ha : Lef a) (hb : Lef b) : Lef (mk x a b) := by
  unfold mk; split
  · exact ⟨by omega, hb, ha⟩
  · exact ⟨by omega, ha, hb⟩
theorem mk_ok {lt : Int → Int → Bool} {x : Int} {a b : Tr} (ua : Under lt x a) (ub : Under lt x b) (ha : Ok lt a) (hb : Ok lt b) : Ok lt (mk x a b) := by
  unfold mk; split
  · exact ⟨ub, ua, hb, ha⟩
  · exact ⟨ua, ub, ha, hb⟩
theorem mk_spine (x : Int) (a b : Tr) : spine (mk x a b) = min (spine a) (spine b) + 1 := by unfold mk; split <;> simp only [spine] <;> omega
theorem mk_same {x : Int} {a b : Tr} (h : spine b ≤ spine a) : mk x a b = node x a b := by unfold mk; rw [if_neg (by omega)]
/-- A tree as long as this has that many slots. -/
theorem lef_size : ∀ {t : Tr}, Lef t → 2 ^ spine t ≤ size t + 1
  | nil, _ => by simp [spine, size]
  | node x l r, h => by
    have h1 := lef_size h.2.1
    have h2 := lef_size h.2.2
    have h3 : 2 ^ spine r ≤ 2 ^ spine l := Nat.pow_le_pow_right (by omega) h.1
    simp only [spine, size, Nat.pow_succ]
    omega
theorem lef_spine {t : Tr} {b : Nat} (h : Lef t) (hs : size t < 2 ^ b) : spine t ≤ b := by
  have h1 := lef_size h
  apply Nat.le_of_not_lt
  intro h2
  have h3 : 2 ^ (b + 1) ≤ 2 ^ spine t := Nat.pow_le_pow_right (by omega) h2
  rw [Nat.pow_succ] at h3
  have : 0 < 2 ^ b := Nat.pow_pos (by omega)
  omega
theorem spine_size : ∀ t : Tr, spine t ≤ size t
  | nil => Nat.le_refl _
  | node x l r => by have := spine_size r; simp only [spine, size]; omega
/-! ### put in a place: all above are made anew -/
/-! ### ranks -/
/-- Each slot's rank is how long the way to the right is. -/
def Ranked (r : Int → Int) : Tr → Prop
  | nil => True
  | node x a b => r x = spine b + 1 ∧ Ranked r a ∧ Ranked r b
theorem ranked_congr {r r' : Int → Int} : ∀ {t : Tr}, (∀ x ∈ t.slots, r' x = r x) → Ranked r t → Ranked r' t
  | nil, _, _ => trivial
  | node x a b, h, hr => ⟨by rw [h x (by simp [slots])]; exact hr.1, ranked_congr (fun y hy => h y (by simp [slots, hy])) hr.2.1, ranked_congr (fun y hy => h y (by simp [slots, hy])) hr.2.2⟩
theorem ranked_mk {r : Int → Int} {x : Int} {a b : Tr} (h : r x = spine (mk x a b)) (ha : Ranked r a) (hb : Ranked r b) : Ranked r (mk x a b) := by
  unfold mk at *
  split
  · rename_i e; rw [if_pos e] at h; exact ⟨h, hb, ha⟩
  · rename_i e; rw [if_neg e] at h; exact ⟨h, ha, hb⟩
end Tr
end Go.Proofs.YtkcicnflcilekaaGreat

namespace Go.Proofs.YtkcicnflcilekaaGreat

/-- What a row of ranks says of a slot. -/
def rkL (R : List Int) (x : Int) : Int := if 0 ≤ x then R.getD x.toNat 0 else 0
theorem rk_set {R : List Int} {n : Nat} (hR : R.length = n) {x : Nat} (hx : x < n) (v y : Int) : rkL (R.set x v) y = if y = x then v else rkL R y := by
  unfold rkL
  by_cases h : 0 ≤ y
  · obtain ⟨j, rfl⟩ : ∃ j : Nat, y = j := ⟨y.toNat, by omega⟩
    simp only [h, if_true, Int.toNat_natCast, List.getD_eq_getElem?_getD, List.getElem?_set]
    by_cases e : x = j
    · subst e; simp [hR, hx]
    · rw [if_neg e, if_neg (by omega)]
  · rw [if_neg h, if_neg h, if_neg (by omega)]
/-- The tree t stands by itself. -/
structure Stands (L : List Hg) (r : Int → Int) (t : Tr) : Prop where
  rep : RepT (kidL L) t.top t
  rank : Tr.Ranked r t
  lef : Tr.Lef t
  root : ∀ x, t.top = some x → upL L x = none
  nodup : t.slots.Nodup
/-- All but the slots S are as they were. -/
structure SameL (S : List Int) (L L' : List Hg) (r r' : Int → Int) : Prop where
  kid : ∀ z, z ∉ S → ∀ s, kidL L' z s = kidL L z s
  up : ∀ z, z ∉ S → upL L' z = upL L z
  rk : ∀ z, z ∉ S → r' z = r z
section
variable {S S' : List Int} {L L' L'' : List Hg} {r r' r'' : Int → Int} {t : Tr}
theorem SameL.refl (S : List Int) (L : List Hg) (r : Int → Int) : SameL S L L r r := ⟨fun _ _ _ => rfl, fun _ _ => rfl, fun _ _ => rfl⟩
theorem SameL.trans (h : SameL S L L' r r') (h2 : SameL S L' L'' r' r'') : SameL S L L'' r r'' :=
  ⟨fun z hz s => (h2.kid z hz s).trans (h.kid z hz s), fun z hz => (h2.up z hz).trans (h.up z hz), fun z hz => (h2.rk z hz).trans (h.rk z hz)⟩
theorem SameL.mono (h : SameL S L L' r r') (hs : ∀ z ∈ S, z ∈ S') : SameL S' L L' r r' :=
  ⟨fun z hz => h.kid z fun h => hz (hs z h), fun z hz => h.up z fun h => hz (hs z h), fun z hz => h.rk z fun h => hz (hs z h)⟩
theorem Stands.nil (L : List Hg) (r : Int → Int) : Stands L r .nil := ⟨rfl, trivial, trivial, fun x h => (by cases h), List.nodup_nil⟩
theorem Stands.same (h : Stands L r t) (hs : SameL S L L' r r') (hd : ∀ x ∈ t.slots, x ∉ S) : Stands L' r' t :=
  ⟨rep_congr (fun x hx s => hs.kid x (hd x hx) s) h.rep, Tr.ranked_congr (fun x hx => hs.rk x (hd x hx)) h.rank, h.lef, fun x hx => by rw [hs.up x (hd x (Tr.top_in hx))]; exact h.root x hx, h.nodup⟩
theorem Stands.rep' (h : Stands L r t) {x : Int} (hx : t.top = some x) : RepT (kidL L) (some x) t := by rw [← hx]; exact h.rep
/-- All trees stand; what is in none hangs nowhere. -/
structure LefInv (Ts : Nat → Tr) (L : List Hg) (r : Int → Int) : Prop where
  all : ∀ h, Stands L r (Ts h)
  alone : ∀ x, (∀ h, x ∉ (Ts h).slots) → upL L x = none ∧ ∀ s, kidL L x s = none
theorem lefinv_new (r : Int → Int) : LefInv (fun _ => .nil) [] r := ⟨fun _ => Stands.nil _ _, fun _ _ => ⟨rfl, fun _ => rfl⟩⟩
theorem LefInv.change {Ts Ts' : Nat → Tr} (I : LefInv Ts L r) (hs : SameL S L L' r r') (h1 : ∀ g, Stands L' r' (Ts' g) ∨ (Ts' g = Ts g ∧ ∀ x ∈ (Ts g).slots, x ∉ S))
    (h2 : ∀ x ∈ S, (∃ g, x ∈ (Ts' g).slots) ∨ (upL L' x = none ∧ ∀ s, kidL L' x s = none)) (h3 : ∀ g x, x ∈ (Ts g).slots → x ∉ S → ∃ g', x ∈ (Ts' g').slots) : LefInv Ts' L' r' := by
  refine ⟨fun g => ?_, fun x hx => ?_⟩
  · rcases h1 g with h | ⟨h, hd⟩
    · exact h
    · rw [h]; exact (I.all g).same hs hd
  · by_cases hS : x ∈ S
    · rcases h2 x hS with ⟨g, hg⟩ | h
      · exact absurd hg (hx g)
      · exact h
    · have h4 := I.alone x fun g hg => by
        obtain ⟨g', hg'⟩ := h3 g x hg hS
        exact hx g' hg'
      exact ⟨by rw [hs.up x hS]; exact h4.1, fun s => by rw [hs.kid x hS s]; exact h4.2 s⟩
/-- One heap's tree becomes another one. -/
theorem LefInv.upd {Ts : Nat → Tr} (I : LefInv Ts L r) (h : Nat) {T : Tr} (hs : SameL S L L' r r') (hT : Stands L' r' T) (hd : ∀ g, g ≠ h → ∀ x ∈ (Ts g).slots, x ∉ S)
    (h2 : ∀ x ∈ S, x ∈ T.slots ∨ (upL L' x = none ∧ ∀ s, kidL L' x s = none)) (h3 : ∀ x ∈ (Ts h).slots, x ∈ S) : LefInv (updT Ts h T) L' r' := by
  refine I.change hs (fun g => ?_) (fun x hx => ?_) (fun g x hg hx => ?_)
  · by_cases e : g = h
    · left; rw [e, updT_at]; exact hT
    · right; rw [updT_ne _ _ e]; exact ⟨rfl, hd g e⟩
  · rcases h2 x hx with h4 | h4
    · exact Or.inl ⟨h, by rw [updT_at]; exact h4⟩
    · exact Or.inr h4
  · by_cases e : g = h
    · rw [e] at hg; exact absurd (h3 x hg) hx
    · exact ⟨g, by rw [updT_ne _ _ e]; exact hg⟩
end
section
variable {n : Nat} {L : List Hg}
end
end Go.Proofs.YtkcicnflcilekaaGreat
