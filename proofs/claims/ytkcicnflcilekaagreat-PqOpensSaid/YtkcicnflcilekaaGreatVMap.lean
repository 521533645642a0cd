/- Merged of CarrySplit, CarryLiftCall, BinObj, BinLift, BinTakeMath, BinForest, BinDelete, BinRemove, VMap. -/
import Derived.Test.YtkcicnflcilekaaGreatCarryCalls
import Derived.Deep.RegionLaw
import Derived.Test.YtkcicnflcilekaaGreatBinLiftMath
import Derived.Test.YtkcicnflcilekaaGreatCarryWhole
import Derived.Test.YtkcicnflcilekaaGreatStageAppend
import Derived.Deep.RegionHeld3
import Derived.Lib.SliceRun
import Derived.Test.YtkcicnflcilekaaGreatPqCalls
namespace Go.Proofs.YtkcicnflcilekaaGreat
open Go.RowKit Go.Sort

section
variable {F0 : Nat → Prop} {W0 w : World} {p n : Nat} {K : Int → List Int} {q : List Ob} {F : Nat → Prop}
end
end Go.Proofs.YtkcicnflcilekaaGreat

namespace Go.Proofs.YtkcicnflcilekaaGreat
open Go.RowKit Go.Sort

section
variable {F0 : Nat → Prop} {W0 w : World} {p n : Nat} {v : Value} {u : Nat → Int} {kv : Nat → Value} {g : Nat → Ob} {K : Int → List Int} {q : List Ob} {F : Nat → Prop}
end
end Go.Proofs.YtkcicnflcilekaaGreat

namespace Go.Proofs.YtkcicnflcilekaaGreat
open Go.RowKit Go.Sort

/-- One question which of two slots is ahead. -/
def bR (s s' : Int) : Prop := s ≤ s' ∧ s' ≤ s + 1 ∧ 0 < s'
theorem turns_bR {n : Nat} {s s' : Int} (h : Turns bR n s s') : s ≤ s' ∧ s' ≤ s + n ∧ (0 < n → 0 < s') := by
  induction h with
  | none => exact ⟨Int.le_refl _, by omega, by omega⟩
  | more _ r ih => obtain ⟨r1, r2, r3⟩ := r; exact ⟨by omega, by omega, fun _ => r3⟩
/-- The cells, and two rows that are looked at. -/
def Ob.binAsk (c : Nat) (W : WS) (va vb : Value) (la lb : List Int) (s : Int) : Ob := Ob.group [Ob.cells c W s, Ob.ints va la, Ob.ints vb lb]
theorem bin_asks (c : Nat) (W : WS) (va vb : Value) (la lb : List Int) : Asks (Ob.binAsk c W va vb la lb) bR (fun x => inW W x = true) (aheadW W) (fun _ => True) 166 (ptrV c) ⟨174, ptrV c⟩ where
  there _ := trivial
  meth := ⟨fun w _ => by kernel_rfl, fun args w => by kernel_rfl⟩
  ask := by
    intro s w F a b ha hb h
    have hlt := (Ob.binAsk c W va vb la lb s).lt h
    have hs := Ob.group.open h
    have hr : 0 ≤ s ∧ s ≤ 4611686018427387904 := (hs.get (i := 0) rfl).elim fun _ ho => Ob.cells.steps ho
    refine (hs.call 0 rfl (fun _ ho => ahead_cl a b ho)).mono ?_
    rintro e w' ⟨rfl, h2⟩
    refine ⟨rfl, _, ?_, h2.close hlt⟩
    have e2 : aheadS W s a b = addI s 1 := by simp [aheadS, ha, hb]
    rw [e2]
    unfold bR addI
    repeat' split
    all_goals omega
/-- The forest of cubes, the cells, the block that names both. -/
def binF (f c t n : Nat) (W : WS) (s : Int) (K : Int → List Int) : List Ob := [Ob.forest t n K, Ob.cells c W s, Ob.box f #[ptrV c, ptrV t] 233]
section
variable {F0 F : Nat → Prop} {W0 w : World} {f c t n : Nat} {W : WS} {s : Int} {K : Int → List Int} {q : List Ob} {a b : Option Addr} {ca cb : Nat} {la lb : List Int} {R : Nat → List Int} {h : Nat}
/-- What merge makes. -/
def BinMerged (n : Nat) (W : WS) (K : Int → List Int) (L : List Int) (s : Int) (K' : Int → List Int) (r : List Int) (s' : Int) : Prop :=
  ∃ k, (∃ r', Links n (fun x y => aheadW W x y = true) K L k K' r' ∧ r'.Perm r) ∧ RowK n K' r ∧ s ≤ s' ∧ s' ≤ s + (k : Int) ∧ (0 < k → 0 < s')
set_option maxRecDepth 100000 in
set_option maxHeartbeats 1000000 in
theorem bmerge_one (hs : Stage F w (binF f c t n W s K ++ [Ob.ints (.slice a la.length ca) la, Ob.ints (.slice b lb.length cb) lb]) w) (hRA : RowK n K la) (hRB : RowK n K lb) (hd : ¬ ∃ x ∈ la, x ∈ lb) (hin : ∀ x ∈ la ++ lb, inW W x = true) :
    Calls Tryz.prog 184 #[.pointer (some ⟨f, 0, none⟩), .slice a la.length ca, .slice b lb.length cb] w fun e w' => ∃ z m cz K' s' r, e = .returned (.slice z m cz) ∧ BinMerged n W K (la ++ lb) s K' r s' ∧ Stage F w (binF f c t n W s' K' ++ [Ob.ints (.slice z m cz) r]) w' := by
  have f0 : w.cell? ⟨f, 0, none⟩ = some (.pointer (some ⟨c, 0, none⟩)) := hs.cell 2 rfl rfl
  have f1 : w.cell? ⟨f, 1, none⟩ = some (.pointer (some ⟨t, 0, none⟩)) := hs.cell 2 rfl rfl
  obtain ⟨_, _, ea, hca, hca2⟩ := hs.intsForm 3 rfl
  obtain ⟨_, _, eb, hcb, hcb2⟩ := hs.intsForm 4 rfl
  cases ea
  cases eb
  have hlt : ∀ x y, aheadW W x y = true → aheadW W y x = false := fun x y h => hm_asym h
  have h1 : Stage F w ([Ob.forest t n K, Ob.binAsk c W (.slice a la.length ca) (.slice b lb.length cb) la lb s] ++ [Ob.box f #[ptrV c, ptrV t] 233]) w.drew := by
    have h0 : Stage F w ([Ob.forest t n K, Ob.box f #[ptrV c, ptrV t] 233] ++ [Ob.cells c W s, Ob.ints (.slice a la.length ca) la, Ob.ints (.slice b lb.length cb) lb]) w.drew := hs.drew.select [0, 2, 1, 3, 4] (by decide) rfl
    exact h0.regroup.select [0, 2, 1] (by decide) rfl
  have hC := Stage.carryYes (q := [Ob.box f #[ptrV c, ptrV t] 233]) (bin_asks c W (.slice a la.length ca) (.slice b lb.length cb) la lb) hlt hin ⟨fun ho => ⟨(Ob.group.open ho).intsAtI 1 rfl, (Ob.group.open ho).intsAtI 2 rfl⟩, ⟨hca, hca2⟩, ⟨hcb, hcb2⟩⟩ h1 hRA hRB hd
  clear hs h1 hRA hRB hd hin hlt hca hca2 hcb hcb2
  unfold ptrV at hC
  obtain ⟨L, hL⟩ : ∃ L, L = la ++ lb := ⟨_, rfl⟩
  rw [← hL] at hC ⊢
  replace hL := Lib.hid hL
  generalize la.length = na at *
  generalize lb.length = nb at *
  go_enter Tryz.func184, Tryz.ntmps184
  go_wp2_with fail
  go_region_held3 (fun w' => w'.cell? ⟨f, 0, none⟩ = some (.pointer (some ⟨c, 0, none⟩)) ∧ w'.cell? ⟨f, 1, none⟩ = some (.pointer (some ⟨t, 0, none⟩))) (first | exact ⟨f0, f1⟩ | exact ⟨f0p, f1p⟩ | simp [*])
    (((with_reducible refine hC.mono ?_); rintro e w2 ⟨z, m, cz, K', s', k, r, rfl, h2, h3, h4, h5⟩; have f0p : w2.cell? ⟨f, 0, none⟩ = some (.pointer (some ⟨c, 0, none⟩)) := h5.cell 3 rfl rfl; have f1p : w2.cell? ⟨f, 1, none⟩ = some (.pointer (some ⟨t, 0, none⟩)) := h5.cell 3 rfl rfl))
  have h6 : Stage F w (binF f c t n W s' K' ++ [Ob.ints (.slice z m cz) r]) w2 := by
    have g1 : Stage F w ([Ob.forest t n K', Ob.ints (.slice z m cz) r, Ob.box f #[ptrV c, ptrV t] 233] ++ [Ob.binAsk c W (.slice a na ca) (.slice b nb cb) la lb s']) w2 := h5.select [0, 2, 3, 1] (by decide) rfl
    exact g1.ungroup.select [0, 3, 2, 1] (by decide) rfl
  have h7 := turns_bR h4
  clear hC h5
  go_wp2_with fail
  go_ret
  exact ⟨_, _, _, K', s', r, rfl, ⟨k, h2, h3, h7⟩, h6⟩
end
end Go.Proofs.YtkcicnflcilekaaGreat

namespace Go.Proofs.YtkcicnflcilekaaGreat
open Go.RowKit Go.Sort

section
variable {F0 : Nat → Prop} {W0 w : World} {f c t n : Nat} {W : WS} {s : Int} {q : List Ob} {R : Nat → List Int} {h : Nat}
end
end Go.Proofs.YtkcicnflcilekaaGreat

namespace Go.Proofs.YtkcicnflcilekaaGreat

/-- All that is told of a nest's heaps: K what hangs where, R h each heap's row of roots. -/
structure BinAll (W : WS) (n : Nat) (K : Int → List Int) (R : Nat → List Int) : Prop where
  inv : CInv n K
  home : BHome W n K R
  ord : BOrd W K
  rows : ∀ g, RowK n K (R g)
section
variable {W : WS} {n : Nat} {K K' : Int → List Int} {R : Nat → List Int} {h k : Nat} {x : Int} {A0 l L r r' : List Int}
theorem binAll_new (n : Nat) : BinAll (newW n) n (fun _ => []) (fun _ => []) :=
  ⟨⟨fun _ _ h => (by cases h), fun _ _ _ h => (by cases h), fun _ => List.nodup_nil, fun _ i k h => (by simp at h)⟩, bhome_new n, fun _ _ h => (by cases h), fun _ => ⟨fun _ h => (by cases h), fun _ h => (by cases h), List.Pairwise.nil⟩⟩
theorem BinAll.congr {W' : WS} (A : BinAll W n K R) (h : W'.cells = W.cells) : BinAll W' n K R :=
  ⟨A.inv, A.home.congr h, fun p x hx => by rw [dahead_same (dcells_eq h _) (dcells_eq h _)]; exact A.ord p x hx, A.rows⟩
/-- A slot comes in. -/
theorem BinAll.put {W1 : WS} {s q : Int} (A : BinAll W n K R) (hp : putB W h x = true) (h1 : 1 ≤ h) (hW : putW W h x s q = W1) :
    RowK n K [x] ∧ (¬ ∃ y ∈ R h, y ∈ [x]) ∧ (∀ y ∈ R h ++ [x], inW W1 y = true) ∧ ∀ {k K' r' r}, Links n (fun x y => aheadW W1 x y = true) K (R h ++ [x]) k K' r' → r'.Perm r → RowK n K' r → BinAll W1 n K' (updI R h r) ∧ (R h).length + 1 = r.length + k := by
  obtain ⟨_, _, _, hnr, hrow, hin1, hoth, B1, O1⟩ := bin_put (k := s) (s := q) A.inv A.home A.ord hp h1
  rw [hW] at hin1 hoth B1 O1
  refine ⟨hrow, fun ⟨y, h2, h3⟩ => hnr h (by rw [← List.mem_singleton.1 h3]; exact h2), fun y hy => ?_, fun {k K' r' r} hl hpm hr => ?_⟩
  · rcases List.mem_append.1 hy with hy | hy
    · have h2 := (A.home.rootIn A.inv hy).2.2.1
      have h3 : y ≠ x := fun e => hnr h (e ▸ hy)
      unfold inW at h2 ⊢
      rw [hoth y h3]; exact h2
    · rw [List.mem_singleton.1 hy]; exact hin1
  · have hL : (R h ++ [x]).Perm (updI R h (x :: R h) h) := by rw [updI_at]; exact List.perm_append_comm
    obtain ⟨I3, B3, O3, hlen, hrw⟩ := bin_links A.inv B1 O1 hL hl hpm
    have e2 : updI (updI R h (x :: R h)) h r = updI R h r := by
      funext g; unfold updI; split <;> rfl
    rw [e2] at B3
    refine ⟨⟨I3, B3, O3, fun g => ?_⟩, by simpa using hlen⟩
    by_cases e : g = h
    · rw [e, updI_at]; exact hr
    · have h8 := hrw g e (by rw [updI_ne _ _ e]; exact A.rows g)
      rw [updI_ne _ _ e] at h8 ⊢
      exact h8
end
end Go.Proofs.YtkcicnflcilekaaGreat

namespace Go.Proofs.YtkcicnflcilekaaGreat
open Go.RowKit Go.Sort

theorem ahead_range {W : WS} {a b s : Int} (h : 0 ≤ s ∧ s ≤ 4611686018427387904) : s ≤ aheadS W s a b ∧ aheadS W s a b ≤ s + 1 := by
  unfold aheadS addI
  repeat' split
  all_goals omega
section
variable {F0 F : Nat → Prop} {W0 w : World} {f c t n : Nat} {W : WS} {s : Int} {K : Int → List Int} {q : List Ob} {a : Option Addr} {ca : Nat} {l : List Int}
/-- None is there. -/
theorem first_none (cv : Nat) : Calls Tryz.prog 185 #[.pointer (some ⟨f, 0, none⟩), .slice a 0 cv] w fun e w' => e = .returned (.tuple #[.int .i64 0, .bool false]) ∧ w = w' := by
  go_enter Tryz.func185, Tryz.ntmps185
  go_wp2_with fail
  exact bodyPost_ret (v := .tuple #[.int .i64 0, .bool false]) (by simp [results, Tryz.results185, go_sem]) rfl ⟨rfl, rfl⟩
set_option maxRecDepth 100000 in
set_option maxHeartbeats 1000000 in
/-- The root that is ahead of all. -/
theorem first_one (hl : l ≠ []) (hin : ∀ y ∈ l, inW W y = true) (hs : Stage F0 W0 (binF f c t n W s K ++ [Ob.ints (.slice a l.length ca) l]) w) :
    Calls Tryz.prog 185 #[.pointer (some ⟨f, 0, none⟩), .slice a l.length ca] w fun e w' => ∃ x s', e = .returned (.tuple #[.int .i64 x, .bool true]) ∧ BestOf W l x ∧ (s ≤ s' ∧ s' ≤ s + (l.length : Int) - 1) ∧ Stage F0 W0 (binF f c t n W s' K ++ [Ob.ints (.slice a l.length ca) l]) w' := by
  obtain ⟨m, hm⟩ : ∃ m, l.length = m + 1 := by
    cases l with
    | nil => exact absurd rfl hl
    | cons x r => exact ⟨r.length, rfl⟩
  obtain ⟨gb, cv, e9, hc1, hc2, _, hc9, _⟩ := hs.intsAt 3 rfl (by omega)
  cases e9
  have u0 := hc9 0 (by omega)
  have hb0 : BestOf W (l.take 1) (l.getD 0 0) := by
    cases l with
    | nil => exact absurd rfl hl
    | cons x r => exact best_one W x
  rw [hm] at hc1 hs ⊢
  clear hc9 hl
  by_cases hca : ca = 1
  · subst hca
    obtain rfl : m = 0 := by omega
    have hb1 : BestOf W l (l.getD 0 0) := by
      have h1 : l.take 1 = l := List.take_of_length_le (by omega)
      rwa [h1] at hb0
    clear hb0 hm
    go_enter Tryz.func185, Tryz.ntmps185
    generalize hy0 : l.getD 0 0 = y0 at *
    replace hy0 := Lib.hid hy0
    go_wp2_with fail
    go_loopw [6, 18] (fun b i wr => b = .int .i64 y0 ∧ i = .int .i64 0 ∧ Stage F0 W0 (binF f c t n W s K ++ [Ob.ints (.slice (some ⟨gb, 0, none⟩) 1 1) l]) wr) (fun _ i _ => 0)
    case atStart => exact ⟨rfl, rfl, hs⟩
    case round =>
      clear hs u0 hy0
      obtain ⟨rfl, rfl, hs⟩ := hrel
      go_wp2_with fail
      exact bodyPost_ret (v := .tuple #[.int .i64 y0, .bool true]) (by simp [results, Tryz.results185, go_sem]) rfl ⟨y0, s, rfl, hb1, ⟨Int.le_refl _, by omega⟩, hs⟩
  have hne : ((m : Int) + 1 == 0) = false := by rw [beq_eq_false_iff_ne]; omega
  go_enter Tryz.func185, Tryz.ntmps185
  generalize hy0 : l.getD 0 0 = y0 at *
  replace hy0 := Lib.hid hy0
  go_wp2_with fail
  go_loopw [6, 18] (fun b i wr => ∃ (j : Nat) (x s' : Int), b = .int .i64 x ∧ i = .int .i64 j ∧ j ≤ m ∧ BestOf W (l.take (j + 1)) x ∧ (s ≤ s' ∧ s' ≤ s + j) ∧ Stage F0 W0 (binF f c t n W s' K ++ [Ob.ints (.slice (some ⟨gb, 0, none⟩) (m + 1) ca) l]) wr) (fun _ i _ => m - (intOf i).toNat)
  case atStart => exact ⟨0, y0, s, rfl, rfl, Nat.zero_le _, hb0, ⟨Int.le_refl _, by omega⟩, hs⟩
  case round =>
    clear hs hb0 u0 hy0
    obtain ⟨j, x, s', rfl, rfl, hj, hb, hr, hs⟩ := hrel
    by_cases hjm : j < m
    · have hji : (j : Int) < m := by omega
      have f0 : wr.cell? ⟨f, 0, none⟩ = some (.pointer (some ⟨c, 0, none⟩)) := hs.cell 2 rfl rfl
      have hs' := hs
      rw [← hm] at hs'
      obtain ⟨g8, c8, e8, _, _, _, hc8, _⟩ := hs'.intsAt 3 rfl (by omega)
      cases e8
      have uj := hc8 (j + 1) (by omega)
      have hA := hs.call 1 rfl (fun _ ho => ahead_cl (l.getD (j + 1) 0) x ho)
      have hrg := ahead_range (W := W) (a := l.getD (j + 1) 0) (b := x) ((hs.get (i := 1) rfl).elim fun _ ho => Ob.cells.steps ho)
      have hyl : l.getD (j + 1) 0 ∈ l := mem_getD' l (j + 1) 0 (by omega)
      have htk : l.take (j + 1 + 1) = l.take (j + 1) ++ [l.getD (j + 1) 0] := by
        rw [List.take_succ_eq_append_getElem (by omega)]
        simp [List.getD_eq_getElem?_getD, show j + 1 < l.length by omega]
      have hnx := best_more (x := l.getD (j + 1) 0) (fun y hy => hin y (List.mem_of_mem_take hy)) (hin _ hyl) hb
      rw [← htk] at hnx
      clear hs hs' hc8 hyl htk hb
      rw [Nat.add_comm j 1] at uj
      generalize hyy : l.getD (j + 1) 0 = y at *
      rw [Nat.add_comm j 1] at hyy
      rw [hyy] at uj
      clear hyy
      generalize aheadS W s' y x = s2 at *
      cases hB : aheadW W y x
      · rw [hB] at hA hnx
        replace hnx : BestOf W (l.take (j + 1 + 1)) x := hnx
        clear hB
        go_wp2_with fail
        refine hA.mono ?_
        rintro e w2 ⟨rfl, h2⟩
        go_wp2_with fail
        go_roundw
        case rel => exact ⟨j + 1, x, s2, rfl, by go_num, by omega, hnx, ⟨by omega, by omega⟩, h2⟩
        case measure => simp [intOf]; omega
      · rw [hB] at hA hnx
        replace hnx : BestOf W (l.take (j + 1 + 1)) y := hnx
        clear hB
        go_wp2_with fail
        refine hA.mono ?_
        rintro e w2 ⟨rfl, h2⟩
        go_wp2_with fail
        go_roundw
        case rel => exact ⟨j + 1, y, s2, rfl, by go_num, by omega, hnx, ⟨by omega, by omega⟩, h2⟩
        case measure => simp [intOf]; omega
    · obtain rfl : j = m := by omega
      rw [← hm, List.take_length] at hb
      go_wp2_with fail
      exact bodyPost_ret (v := .tuple #[.int .i64 x, .bool true]) (by simp [results, Tryz.results185, go_sem]) rfl ⟨x, s', rfl, hb, ⟨hr.1, by omega⟩, hs⟩
end
end Go.Proofs.YtkcicnflcilekaaGreat

namespace Go.Proofs.YtkcicnflcilekaaGreat
open Go.RowKit Go.Sort

section
variable {l : List Int} {j0 k m : Nat}
end
section
variable {F0 : Nat → Prop} {W0 w : World} {q : List Ob} {gb cv m b : Nat} {l : List Int} {x : Int}
end
end Go.Proofs.YtkcicnflcilekaaGreat

namespace Go.Proofs.YtkcicnflcilekaaGreat
open Go.RowKit Go.Sort

section
variable {F0 F : Nat → Prop} {W0 w : World} {f c t n : Nat} {W : WS} {s : Int} {K : Int → List Int} {R : Nat → List Int} {h gb cv m b b' : Nat} {l A0 : List Int} {v : Value} {x : Int}
theorem Stage.bmerge {q : List Ob} {a b : Option Addr} {ca cb : Nat} {la lb : List Int} (hs : Stage F0 W0 ((binF f c t n W s K ++ [Ob.ints (.slice a la.length ca) la, Ob.ints (.slice b lb.length cb) lb]) ++ q) w) (hRA : RowK n K la) (hRB : RowK n K lb) (hd : ¬ ∃ x ∈ la, x ∈ lb) (hin : ∀ x ∈ la ++ lb, inW W x = true) :
    Calls Tryz.prog 184 #[.pointer (some ⟨f, 0, none⟩), .slice a la.length ca, .slice b lb.length cb] w fun e w' => ∃ z m cz K' s' r, e = .returned (.slice z m cz) ∧ BinMerged n W K (la ++ lb) s K' r s' ∧ Stage F0 W0 ((binF f c t n W s' K' ++ [Ob.ints (.slice z m cz) r]) ++ q) w' :=
  (hs.frameEx (α := Option Addr × Nat × Nat × (Int → List Int) × Int × List Int)
    (Post := fun x e => e = .returned (.slice x.1 x.2.1 x.2.2.1) ∧ BinMerged n W K (la ++ lb) s x.2.2.2.1 x.2.2.2.2.2 x.2.2.2.2.1)
    (l' := fun x => binF f c t n W x.2.2.2.2.1 x.2.2.2.1 ++ [Ob.ints (.slice x.1 x.2.1 x.2.2.1) x.2.2.2.2.2])
    fun _ _ h => (bmerge_one h hRA hRB hd hin).mono fun _ _ ⟨z, m, cz, K', s', r, he, h1, h2⟩ => ⟨(z, m, cz, K', s', r), ⟨he, h1⟩, h2⟩).mono
  fun _ _ ⟨x, ⟨he, h1⟩, h2⟩ => ⟨x.1, x.2.1, x.2.2.1, x.2.2.2.1, x.2.2.2.2.1, x.2.2.2.2.2, he, h1, h2⟩
end
end Go.Proofs.YtkcicnflcilekaaGreat

namespace Go.Proofs.YtkcicnflcilekaaGreat
open Go.RowKit Go.Sort

/-- How a value reads: as itself. -/
def anyElem (v : Value) : Option (DataW Value × List MemPlace) := some (.held v, [])
theorem anyElem_inv {v u : Value} {ps : List MemPlace} (h : anyElem v = some (.held u, ps)) : v = u := by
  unfold anyElem at h
  injection h with h
  injection h with h _
  injection h
/-- What a map holds at a key; each key is from 0 to below M. -/
structure VMapIs (D : DataW Value) (f : Int → Option Value) (M : Nat) : Prop where
  at' : ∀ (h : Int) (z : Value), D.atKey (.int .i64 h) (.held z) = .held ((f h).getD z)
  keys : ∃ es, D = .map es ∧ es.Pairwise (fun p q => p.1 ≠ q.1) ∧ ∀ p ∈ es, ∃ n : Nat, p.1 = .int .i64 n ∧ n < M
theorem VMapIs.size {D : DataW Value} {f : Int → Option Value} {M : Nat} (h : VMapIs D f M) : Maps.size D ≤ M := by
  obtain ⟨es, rfl, h1, h2⟩ := h.keys
  exact len_le_of_keys es h1 M h2
def setV (f : Int → Option Value) (k : Int) (o : Option Value) : Int → Option Value := fun h => if h = k then o else f h
theorem VMapIs.empty (M : Nat) : VMapIs (.map []) (fun _ => none) M := ⟨fun _ _ => rfl, [], rfl, List.Pairwise.nil, by simp⟩
theorem VMapIs.put {D : DataW Value} {f : Int → Option Value} {M : Nat} (h : VMapIs D f M) (k : Nat) (hk : k < M) (v : Value) : VMapIs (D.put (.int .i64 k) (.held v)) (setV f k (some v)) M := by
  obtain ⟨h1, es, rfl, h2, h3⟩ := h
  refine ⟨fun x z => ?_, ?_⟩
  · by_cases hx : x = k
    · subst hx
      rw [Maps.atKey_put_same ⟨_, rfl⟩ (show WideAt.IsKeyLit (.int .i64 (k : Int)) from trivial)]
      simp [setV]
    · rw [Maps.atKey_put_other (by simpa using hx), h1]
      simp [setV, hx]
  · obtain ⟨es', he, hp⟩ := Maps.Tidy.put (D := DataW.map es) ⟨es, rfl, h2⟩ (k := .int .i64 k) trivial (.held v)
    refine ⟨es', he, hp, fun p hp => ?_⟩
    have e : DataW.insert (.int .i64 (k : Int), .held v) (es.filter fun p => !p.1.sameKey (.int .i64 (k : Int))) = es' := by
      have : DataW.map (DataW.insert (.int .i64 (k : Int), .held v) (es.filter fun p => !p.1.sameKey (.int .i64 (k : Int)))) = DataW.map es' := he
      injection this
    rw [← e] at hp
    rcases Go.ChangeMaps.mem_insert_iff.1 hp with rfl | hp
    · exact ⟨k, rfl, hk⟩
    · exact h3 p (List.mem_filter.1 hp).1
theorem VMapIs.del {D : DataW Value} {f : Int → Option Value} {M : Nat} (h : VMapIs D f M) (k : Int) : VMapIs (D.del (.int .i64 k)) (setV f k none) M := by
  obtain ⟨h1, es, rfl, h2, h3⟩ := h
  refine ⟨fun x z => ?_, es.filter fun p => !p.1.sameKey (.int .i64 k), rfl, h2.filter _, fun p hp => h3 p (List.mem_filter.1 hp).1⟩
  by_cases hx : x = k
  · subst hx
    rw [Maps.atKey_del_same]
    simp [setV]
  · rw [Maps.atKey_del_other (by simpa using hx), h1]
    simp [setV, hx]
/-- At block b lies a map from integers to values that holds f. -/
def Ob.vmap (P : Program) (k : TypeId) (b : Nat) (f : Int → Option Value) (M : Nat) : Ob where
  holds w F := (∃ D, w.ownsMap (H := Value) P k anyElem b M D ∧ VMapIs D f M) ∧ F = (· = b)
  keeps := by
    rintro w w' F G ⟨⟨D, h, hm⟩, rfl⟩ kp hg
    refine ⟨⟨D, ?_, hm⟩, rfl⟩
    have hlt := h.lt
    obtain ⟨es, clock, hb, r⟩ := h
    exact ⟨es, clock, by rw [kp.block b hlt (hg b rfl)]; exact hb, r⟩
  lt := by rintro w F ⟨⟨D, h, _⟩, rfl⟩ k rfl; exact h.lt
theorem owns_tightV {P : Program} {k : TypeId} {w : World} {b n M : Nat} {D : DataW Value} (h : w.ownsMap P k anyElem b n D) (hM : Maps.size D ≤ M) : w.ownsMap P k anyElem b M D := by
  obtain ⟨es, clock, hb, F, _, rfl⟩ := h
  refine ⟨es, clock, hb, F, ?_, rfl⟩
  simpa [Maps.size, length_sorted] using hM

namespace Stage
variable {F0 : Nat → Prop} {W w w' : World} {l : List Ob} {P : Program} {t k e : TypeId} {b M : Nat} {f : Int → Option Value}
theorem newVMap (h : Stage F0 W l w) (P : Program) (k : TypeId) (M : Nat) {b : Nat} (hb : w.heap.size = b) : Stage F0 W (l ++ [Ob.vmap P k b (fun _ => Option.none) M]) (w.alloc (.map #[] 0)) := by
  subst hb
  exact h.add ((Below.refl _ _).alloc (Nat.le_refl _) _) ⟨⟨_, (World.ownsMap_made w P k _).mono (Nat.zero_le _), VMapIs.empty M⟩, rfl⟩ (fun _ hk => Nat.le_of_eq hk.symm)
/-- 'm[k]': an equation that the walk takes. -/
theorem lookV (h : Stage F0 W l w) (i : Nat) (hi : l[i]? = some (Ob.vmap P k b f M)) (ht : P.underlying t = some (.map k e)) (hk : P.underlying k = some (.int .i64)) {z : Value} (hz : (zeroValue e).run P w = .ok z w)
    (x : Int) (hx : -9223372036854775808 ≤ x ∧ x ≤ 9223372036854775807) : (Instr.lookup t (.map (some b)) (.int .i64 x) false).run P w = .ok ((f x).getD z) w := by
  obtain ⟨_, ⟨D, hown, hm⟩, _⟩ := h.get hi
  obtain ⟨v, ps, hrun, hv⟩ := hown.lookup (Maps.int_keyed hk) ht hz (zd := .held z) (zp := []) rfl (Maps.keyOf_int_mk hk (wf_i64' hx))
  rw [hm.at' x z] at hv
  rw [hrun, anyElem_inv hv]
/-- 'm[k] = v' at the operation. -/
theorem wp_putV {ops : Array Oper} {rest : List Oper} {o : Oper} {a : Act} {Q : Exit → Act → World → Prop} (h : Stage F0 W l w) (i : Nat) (hi : l[i]? = some (Ob.vmap P k b f M)) (hg : o.guard = Option.none) (m x v : Operand) (hop : o.op = Op.mapUpdate t m x v)
    (ht : P.underlying t = some (.map k e)) (hk : P.underlying k = some (.int .i64)) (hM : M < maxLen)
    (hm : a.eval m = .map (some b)) (key : Nat) (u : Value) (hx : a.eval x = .int .i64 key) (hv : a.eval v = u) (hkey : key < M)
    (hK : ∀ w', Stage F0 W (l.set i (Ob.vmap P k b (setV f key (some u)) M)) w' → wpList P ops Q rest (a.put o.dst undef) w') : wpList P ops Q (o :: rest) a w := by
  obtain ⟨_, ⟨D, hown, hmi⟩, _⟩ := h.get hi
  unfold maxLen at hM
  refine wpList_mapUpdate_own w hg m x v t hop k e (Maps.int_keyed hk) ht _ b M D hm hown (by unfold maxLen; omega) _ _ _ hx hv (Maps.keyOf_int_mk hk (wf_i64' (by omega))) (.held u) [] rfl fun w' h1 h2 => hK w' ?_
  have h3 := hmi.put key hkey u
  exact h.moved hi fun F hF => ⟨(· = b), ⟨⟨_, owns_tightV h1 h3.size, h3⟩, rfl⟩, by
    have e2 : F = (· = b) := hF.2
    subst e2
    exact ⟨keeps_of_grown h2, fun k hk => Or.inl hk⟩⟩
/-- 'delete(m, k)' at the operation. -/
theorem wp_deleteV {ops : Array Oper} {rest : List Oper} {o : Oper} {a : Act} {Q : Exit → Act → World → Prop} (h : Stage F0 W l w) (i : Nat) (hi : l[i]? = some (Ob.vmap P k b f M)) (hg : o.guard = Option.none) (m x : Operand) (hop : o.op = Op.call { callee := Callee.builtin Builtin.delete, args := #[m, x], argTypes := #[t, k] })
    (ht : P.underlying t = some (.map k e)) (hk : P.underlying k = some (.int .i64))
    (hm : a.eval m = .map (some b)) (key : Int) (hx : a.eval x = .int .i64 key) (hkey : -9223372036854775808 ≤ key ∧ key ≤ 9223372036854775807)
    (hK : ∀ w', Stage F0 W (l.set i (Ob.vmap P k b (setV f key Option.none) M)) w' → wpList P ops Q rest (a.put o.dst (.tuple #[])) w') : wpList P ops Q (o :: rest) a w := by
  obtain ⟨_, ⟨D, hown, hmi⟩, _⟩ := h.get hi
  refine wpList_delete_own w hg m x t k hop e (Maps.int_keyed hk) ht _ b M D hm hown _ _ hx (Maps.keyOf_int_mk hk (wf_i64' hkey)) fun w' h1 h2 => hK w' ?_
  have h3 := hmi.del key
  exact h.moved hi fun F hF => ⟨(· = b), ⟨⟨_, owns_tightV h1 h3.size, h3⟩, rfl⟩, by
    have e2 : F = (· = b) := hF.2
    subst e2
    exact ⟨keeps_of_grown h2.grown, fun k hk => Or.inl hk⟩⟩
end Stage
end Go.Proofs.YtkcicnflcilekaaGreat
