/- Merged of BinTakeMath, BinForest. -/
import Derived.Test.YtmoolbmbdnkooaaGreatBox
import Derived.Test.YtmoolbmbdnkooaaGreatBinLift
import Derived.Lib.SliceRun
namespace Go.Proofs.YtmoolbmbdnkooaaGreat

/-- All that is told of a nest's heaps: K what hangs where, R h each heap's row of roots. -/
structure BinAll (W : WS) (n : Nat) (K : Int → List Int) (R : Nat → List Int) : Prop where
  inv : CInv n K
  home : BHome W n K R
  ord : BOrd W K
  rows : ∀ g, RowK n K (R g)
section
variable {W : WS} {n : Nat} {K K' : Int → List Int} {R : Nat → List Int} {h k : Nat} {x : Int} {A0 l L r r' : List Int}
theorem binAll_new (n : Nat) : BinAll (newW n) n (fun _ => []) (fun _ => []) :=
  ⟨⟨fun _ _ h => (by cases h), fun _ _ _ h => (by cases h), fun _ => List.nodup_nil, fun _ i k h => (by simp at h)⟩, bhome_new n, fun _ _ h => (by cases h), fun _ => ⟨fun _ h => (by cases h), fun _ h => (by cases h), List.Pairwise.nil⟩⟩
theorem BinAll.congr {W' : WS} (A : BinAll W n K R) (h : W'.cells = W.cells) : BinAll W' n K R :=
  ⟨A.inv, A.home.congr h, fun p x hx => by rw [dahead_same (dcells_eq h _) (dcells_eq h _)]; exact A.ord p x hx, A.rows⟩
/-- One root more, that is never linked. -/
theorem links_cons {ahead : Int → Int → Prop} (h : Links n ahead K L k K' r) (x : Int) : ∃ m, Links n ahead K (x :: L) k K' m ∧ m.Perm (x :: r) := by
  induction h with
  | start p => exact ⟨_, Links.start (p.cons x), List.Perm.refl _⟩
  | @link k K' m a b r h p hd ha ih =>
    obtain ⟨m', h1, h2⟩ := ih
    have h3 : m'.Perm (a :: b :: (x :: r)) := (h2.trans (p.cons x)).trans ((List.Perm.swap a x (b :: r)).trans ((List.Perm.swap b x r).cons a))
    exact ⟨_, Links.link h1 h3 hd ha, List.Perm.swap x a r⟩
/-- x is at the top: what comes off it, and what else is in its heap's row. -/
theorem LiftJ.top (J : LiftJ W n R h x A0 K l []) (hin : inW W x = true) (hx : (cellW W x).home = h) :
    x ∈ l ∧ rootB n K x = true ∧ RowK n (splitK K x) (l.erase x) ∧ RowK n (splitK K x) (K x) ∧ (¬ ∃ y ∈ l.erase x, y ∈ K x) ∧ (∀ y ∈ l.erase x ++ K x, inW W y = true) := by
  have ht : topK K x := J.anc
  have hxl : x ∈ l := by
    have := J.home.isRoot J.inv hin ht
    rwa [hx, updI_at] at this
  have hxR : x ∈ updI R h l h := by rw [updI_at]; exact hxl
  obtain ⟨_, _, _, _, _, h6, h7, h8⟩ := bin_split J.inv J.home hxR
  rw [updI_at] at h6 h8
  have hr := J.rows h
  rw [updI_at] at hr
  refine ⟨hxl, rootB_iff.2 ⟨J.home.inn hin, ht⟩, h6 hr, h7, fun ⟨y, h1, h2⟩ => h8 y h1 h2, fun y hy => ?_⟩
  rcases List.mem_append.1 hy with hy | hy
  · have := J.home.rootIn J.inv (h := h) (x := y) (by rw [updI_at]; exact List.mem_of_mem_erase hy)
    exact this.2.2.1
  · exact (J.home.hung hy).2
/-- .. linked again: x is out. -/
theorem LiftJ.out (J : LiftJ W n R h x A0 K l []) (hin : inW W x = true) (hx : (cellW W x).home = h) (hl : Links n (fun x y => aheadW W x y = true) (splitK K x) (l.erase x ++ K x) k K' r') (hp : r'.Perm r) (hr : RowK n K' r) :
    BinAll (dropW W x) n K' (updI R h r) ∧ (l.erase x ++ K x).length = r.length + k := by
  obtain ⟨hxl, _, _, _, _, _⟩ := J.top hin hx
  have ht : topK K x := J.anc
  have hxR : x ∈ updI R h l h := by rw [updI_at]; exact hxl
  obtain ⟨I2, B2, _, h4, h5, _, _, _⟩ := bin_split J.inv J.home hxR
  have O2 : BOrd W (splitK K x) := hole_split J.hole ht
  have e1 : updI (updI R h l) h (x :: ((updI R h l h).erase x ++ K x)) = updI R h (x :: (l.erase x ++ K x)) := by
    rw [updI_at]
    funext g; unfold updI; split <;> rfl
  rw [e1] at B2
  obtain ⟨m, hm1, hm2⟩ := links_cons hl x
  have hL : (x :: (l.erase x ++ K x)).Perm (updI R h (x :: (l.erase x ++ K x)) h) := by rw [updI_at]
  obtain ⟨I3, B3, O3, hlen, hrow⟩ := bin_links I2 B2 O2 hL hm1 (hm2.trans (hp.cons x))
  have e2 : updI (updI R h (x :: (l.erase x ++ K x))) h (x :: r) = updI R h (x :: r) := by
    funext g; unfold updI; split <;> rfl
  rw [e2] at B3
  have hnl : x ∉ l.erase x ++ K x := by
    have hnd := (J.rows h).roots.nodup
    rw [updI_at] at hnd
    intro hm
    rcases List.mem_append.1 hm with hm | hm
    · exact ((List.Nodup.mem_erase_iff hnd).1 hm).1 rfl
    · exact ht x hm
  have hrts : Roots n (splitK K x) (l.erase x ++ K x) := by
    have := B2.roots h
    rw [updI_at] at this
    exact ⟨fun y hy => this.inn y (List.mem_cons_of_mem _ hy), fun y hy => this.top y (List.mem_cons_of_mem _ hy), (List.nodup_cons.1 this.nodup).2⟩
  obtain ⟨_, _, _, _, _, _, hoff, _⟩ := Links.all I2 hrts hl
  have hKx : K' x = [] := by rw [hoff x hnl, h4]
  have hxr : x ∈ updI R h (x :: r) h := by rw [updI_at]; simp
  obtain ⟨B4, O4, _⟩ := bin_drop I3 B3 O3 hxr hKx
  have e3 : updI (updI R h (x :: r)) h ((updI R h (x :: r) h).erase x) = updI R h r := by
    rw [updI_at, List.erase_cons_head]
    funext g; unfold updI; split <;> rfl
  rw [e3] at B4
  refine ⟨⟨I3, B4, O4, fun g => ?_⟩, by simp only [List.length_cons] at hlen; omega⟩
  by_cases e : g = h
  · rw [e, updI_at]; exact hr
  · rw [updI_ne _ _ e]
    have h7 := h5 g e (by rw [updI_ne _ _ e]; have := J.rows g; rwa [updI_ne _ _ e] at this)
    have h8 := hrow g e (by rw [updI_ne _ _ e]; rwa [updI_ne _ _ e] at h7)
    rwa [updI_ne _ _ e] at h8
/-- A slot was lowered, and is as far up as it should be. -/
theorem LiftJ.done {A : List Int} (J : LiftJ W n R h x A0 K l A) (low : ∀ y ∈ K x, aheadW W y x = false) (hu : ∀ p s, A = p :: s → aheadW W x p = false) : BinAll W n K (updI R h l) :=
  ⟨J.inv, J.home, hole_end J.hole low fun p hp => by
    have ha := J.anc
    cases A with
    | nil => exact absurd hp (ha p)
    | cons q s => rw [J.inv.one p q x hp ha.1]; exact hu q s rfl, J.rows⟩
/-- A slot comes in. -/
theorem BinAll.put {W1 : WS} {s q : Int} (A : BinAll W n K R) (hp : putB W h x = true) (h1 : 1 ≤ h) (hW : putW W h x s q = W1) :
    RowK n K [x] ∧ (¬ ∃ y ∈ R h, y ∈ [x]) ∧ (∀ y ∈ R h ++ [x], inW W1 y = true) ∧ ∀ {k K' r' r}, Links n (fun x y => aheadW W1 x y = true) K (R h ++ [x]) k K' r' → r'.Perm r → RowK n K' r → BinAll W1 n K' (updI R h r) ∧ (R h).length + 1 = r.length + k := by
  obtain ⟨_, _, _, hnr, hrow, hin1, hoth, B1, O1⟩ := bin_put (k := s) (s := q) A.inv A.home A.ord hp h1
  rw [hW] at hin1 hoth B1 O1
  refine ⟨hrow, fun ⟨y, h2, h3⟩ => hnr h (by rw [← List.mem_singleton.1 h3]; exact h2), fun y hy => ?_, fun {k K' r' r} hl hpm hr => ?_⟩
  · rcases List.mem_append.1 hy with hy | hy
    · have h2 := (A.home.rootIn A.inv hy).2.2.1
      have h3 : y ≠ x := fun e => hnr h (e ▸ hy)
      unfold inW at h2 ⊢
      rw [hoth y h3]; exact h2
    · rw [List.mem_singleton.1 hy]; exact hin1
  · have hL : (R h ++ [x]).Perm (updI R h (x :: R h) h) := by rw [updI_at]; exact List.perm_append_comm
    obtain ⟨I3, B3, O3, hlen, hrw⟩ := bin_links A.inv B1 O1 hL hl hpm
    have e2 : updI (updI R h (x :: R h)) h r = updI R h r := by
      funext g; unfold updI; split <;> rfl
    rw [e2] at B3
    refine ⟨⟨I3, B3, O3, fun g => ?_⟩, by simpa using hlen⟩
    by_cases e : g = h
    · rw [e, updI_at]; exact hr
    · have h8 := hrw g e (by rw [updI_ne _ _ e]; exact A.rows g)
      rw [updI_ne _ _ e] at h8 ⊢
      exact h8
/-- Two heaps become one. -/
theorem BinAll.meld {W1 : WS} {a b : Nat} (A : BinAll W n K R) (hb : joinBW W a b = true) (ha1 : 1 ≤ a) (hb1 : 1 ≤ b) (hW : joinW W a b = W1) :
    a ≠ b ∧ (¬ ∃ y ∈ R a, y ∈ R b) ∧ (∀ y ∈ R a ++ R b, inW W1 y = true) ∧ ∀ {k K' r' r}, Links n (fun x y => aheadW W1 x y = true) K (R a ++ R b) k K' r' → r'.Perm r → RowK n K' r → BinAll W1 n K' (updI (updI R a r) b []) ∧ (R a).length + (R b).length = r.length + k := by
  obtain ⟨hne, hap, _, hin, B1, O1⟩ := bin_join A.inv A.home A.ord hb ha1 hb1
  rw [hW] at hin B1 O1
  refine ⟨hne, fun ⟨y, h2, h3⟩ => hap y h2 h3, fun y hy => ?_, fun {k K' r' r} hl hpm hr => ?_⟩
  · rw [hin]
    rcases List.mem_append.1 hy with hy | hy
    · exact (A.home.rootIn A.inv hy).2.2.1
    · exact (A.home.rootIn A.inv hy).2.2.1
  · have hL : (R a ++ R b).Perm (updI (updI R b []) a (R a ++ R b) a) := by rw [updI_at]
    obtain ⟨I3, B3, O3, hlen, hrw⟩ := bin_links A.inv B1 O1 hL hl hpm
    have e2 : updI (updI (updI R b []) a (R a ++ R b)) a r = updI (updI R a r) b [] := by
      funext g; unfold updI
      by_cases e1 : g = a
      · rw [if_pos e1, if_neg (fun e => hne (e1.symm.trans e)), if_pos e1]
      · rw [if_neg e1, if_neg e1]
        by_cases e2 : g = b
        · rw [if_pos e2, if_pos e2]
        · rw [if_neg e2, if_neg e2, if_neg e1]
    rw [e2] at B3
    refine ⟨⟨I3, B3, O3, fun g => ?_⟩, by simpa using hlen⟩
    by_cases e : g = b
    · rw [e, updI_at]; exact ⟨fun _ h => (by cases h), fun _ h => (by cases h), List.Pairwise.nil⟩
    · rw [updI_ne _ _ e]
      by_cases e1 : g = a
      · rw [e1, updI_at]; exact hr
      · rw [updI_ne _ _ e1]
        have h8 := hrw g e1 (by rw [updI_ne _ _ e1, updI_ne _ _ e]; exact A.rows g)
        rw [updI_ne _ _ e1, updI_ne _ _ e] at h8
        exact h8
/-- A slot's entry becomes another one: its way up may begin. -/
theorem BinAll.lower {W1 : WS} {s q : Int} (A : BinAll W n K R) (hb : lowerB W x s q = true) (hW : lowerW W x s q = W1) (hx : (cellW W x).home = h) (ha : Anc K x A0) :
    inW W1 x = true ∧ (cellW W1 x).home = h ∧ 1 ≤ h ∧ LiftJ W1 n R h x A0 K (R h) A0 ∧ (∀ y ∈ K x, aheadW W1 y x = false) ∧ R h ≠ [] := by
  obtain ⟨h1, h2, h3, B1, H1, low⟩ := bin_lower A.inv A.home A.ord hb
  rw [hW] at h2 h3 B1 H1 low
  refine ⟨by rw [h2]; exact h1, by rw [h3]; exact hx, by rw [← hx]; exact (A.home.up h1).1, LiftJ.start A.inv B1 H1 A.rows ha, low, fun e => ?_⟩
  obtain ⟨_, c, hc, _⟩ := A.home.up h1
  rw [hx, e] at hc; cases hc
/-- A slot is to come out: its way up may begin. -/
theorem BinAll.delete (A : BinAll W n K R) (hin : inW W x = true) (hx : (cellW W x).home = h) (ha : Anc K x A0) : 1 ≤ h ∧ LiftJ W n R h x A0 K (R h) A0 ∧ R h ≠ [] := by
  refine ⟨by rw [← hx]; exact (A.home.up hin).1, LiftJ.start A.inv A.home (hole_of A.home A.ord) A.rows ha, fun e => ?_⟩
  obtain ⟨_, c, hc, _⟩ := A.home.up hin
  rw [hx, e] at hc; cases hc
end
end Go.Proofs.YtmoolbmbdnkooaaGreat

namespace Go.Proofs.YtmoolbmbdnkooaaGreat
open Go.RowKit Go.Sort

theorem ahead_range {W : WS} {a b s : Int} (h : 0 ≤ s ∧ s ≤ 4611686018427387904) : s ≤ aheadS W s a b ∧ aheadS W s a b ≤ s + 1 := by
  unfold aheadS addI
  repeat' split
  all_goals omega
section
variable {F0 F : Nat → Prop} {W0 w : World} {f c t n : Nat} {W : WS} {s : Int} {K : Int → List Int} {q : List Ob} {a : Option Addr} {ca : Nat} {l : List Int}
/-- The degrees of a row's roots. -/
def degsK (K : Int → List Int) (l : List Int) : List Int := l.map fun x => ((K x).length : Int)
theorem degs_set (K : Int → List Int) (l : List Int) (j : Nat) (hj : j < l.length) : ((degsK K l).take j ++ List.replicate (l.length - j) 0).set j ((K (l.getD j 0)).length : Int) = (degsK K l).take (j + 1) ++ List.replicate (l.length - (j + 1)) 0 := by
  apply List.ext_getElem
  · simp [degsK]; omega
  · intro i h1 h2
    have hl : ((degsK K l).take j).length = j := by simp [degsK]; omega
    have hl2 : ((degsK K l).take (j + 1)).length = j + 1 := by simp [degsK]; omega
    rw [List.getElem_set]
    by_cases e : j = i
    · subst e
      rw [if_pos rfl, List.getElem_append_left (by omega), List.getElem_take]
      simp [degsK, List.getD_eq_getElem?_getD, hj]
    · rw [if_neg e]
      by_cases e2 : i < j
      · rw [List.getElem_append_left (by omega), List.getElem_append_left (by omega), List.getElem_take, List.getElem_take]
      · rw [List.getElem_append_right (by omega), List.getElem_append_right (by omega)]
        simp
set_option maxRecDepth 100000 in
theorem degrees_one (hlen : l.length ≤ 65536) (hs : Stage F0 W0 (binF f c t n W s K ++ [Ob.ints (.slice a l.length ca) l]) w) :
    Calls Tryz.prog 21 #[.pointer (some ⟨f, 0, none⟩), .slice a l.length ca] w fun e w' => ∃ v, e = .returned v ∧ Stage F0 W0 (binF f c t n W s K ++ [Ob.ints (.slice a l.length ca) l, Ob.ints v (degsK K l)]) w' := by
  have hcv : l.length ≤ ca ∧ ca ≤ 9223372036854775807 := by
    obtain ⟨_, cv', ev, hcv1, hcv2⟩ := hs.intsForm 3 rfl
    injection ev with _ _ ev
    rw [ev]; exact ⟨hcv1, hcv2⟩
  have hmk := run_make_rows (P := Tryz.prog) 44 3 (.int .i64 0) 1 8 Tryz.underlying44 sinfo_int l.length (by omega) (by omega) w
  have hs1 : Stage F0 W0 (binF f c t n W s K ++ [Ob.ints (.slice a l.length ca) l, Ob.ints (.slice (some ⟨w.heap.size, 0, none⟩) l.length l.length) ((degsK K l).take 0 ++ List.replicate (l.length - 0) 0)]) (w.alloc (.cells (madeCells (Value.int .i64 0).cells (l.length * 1)) 3)) := by
    have h1 := hs.newRow 3 1 l.length (madeCells (Value.int .i64 0).cells (l.length * 1)) (by simp [madeCells]) (by unfold maxLen; omega)
    have e1 := made_rows intC_len (by omega) 0 (Value.int .i64 0).cells rfl l.length
    rw [e1] at h1
    have e2 : ((degsK K l).take 0 ++ List.replicate (l.length - 0) 0).length = l.length := by simp
    unfold Ob.ints
    rw [e2]
    exact h1
  have hgb : w.heap.size = w.heap.size := rfl
  generalize w.alloc (.cells (madeCells (Value.int .i64 0).cells (l.length * 1)) 3) = w1 at *
  generalize hgg : w.heap.size = gb at *
  clear hs hgb
  have hll : ∃ m, l.length = m := ⟨_, rfl⟩
  obtain ⟨m, hm⟩ := hll
  replace hm := Lib.hid hm
  go_enter Tryz.func21, Tryz.ntmps21
  go_wp2_with fail
  go_loopw [13] (fun i wr => ∃ j : Nat, i = .int .i64 j ∧ j ≤ l.length ∧ Stage F0 W0 (binF f c t n W s K ++ [Ob.ints (.slice a l.length ca) l, Ob.ints (.slice (some ⟨gb, 0, none⟩) l.length l.length) ((degsK K l).take j ++ List.replicate (l.length - j) 0)]) wr) (fun i _ => l.length - (intOf i).toNat)
  case atStart => exact ⟨0, rfl, Nat.zero_le _, hs1⟩
  case round =>
    clear hs1 hmk
    obtain ⟨j, rfl, hj, hs⟩ := hrel
    by_cases hjn : j < l.length
    · have hji : (j : Int) < l.length := by omega
      have f1 : wr.cell? ⟨f, 1, none⟩ = some (.pointer (some ⟨t, 0, none⟩)) := hs.cell 2 rfl rfl
      have hD := hs.ask 0 rfl (fun _ ho => deg_f ho (l.getD j 0))
      obtain ⟨g9, c9, e9, _, _, _, hc9, _⟩ := hs.intsAt 3 rfl (by omega)
      have hcj := hc9 j hjn
      cases e9
      have hL : ((degsK K l).take j ++ List.replicate (l.length - j) 0).length = l.length := by simp [degsK]; omega
      have hs2 : Stage F0 W0 (binF f c t n W s K ++ [Ob.ints (.slice (some ⟨g9, 0, none⟩) l.length ca) l, Ob.row 0 3 1 (.slice (some ⟨gb, 0, none⟩) l.length l.length) l.length (cellsBy intC ((degsK K l).take j ++ List.replicate (l.length - j) 0))]) wr := by
        have h1 := hs
        unfold Ob.ints at h1
        rw [hL] at h1
        exact h1
      have hst := hs2.storeRow 4 rfl j (.int .i64 ((K (l.getD j 0)).length : Int)) (intC_set _ j _)
      rw [degs_set K l j hjn] at hst
      have hfr := (hs2.owns 4 rfl).frozenAt j
      have hcd : ∃ u, wr.cell? ⟨gb, j, none⟩ = some u := by
        have h1 := hs
        rw [show Ob.ints (.slice (some ⟨gb, 0, none⟩) l.length l.length) ((degsK K l).take j ++ List.replicate (l.length - j) 0) = Ob.ints (.slice (some ⟨gb, 0, none⟩) ((degsK K l).take j ++ List.replicate (l.length - j) 0).length l.length) ((degsK K l).take j ++ List.replicate (l.length - j) 0) by rw [hL]] at h1
        obtain ⟨g8, c8, e8, _, _, _, hc8, _⟩ := h1.intsAt 4 rfl (by rw [hL]; omega)
        cases e8
        exact ⟨_, hc8 j (by rw [hL]; exact hjn)⟩
      obtain ⟨u, hcd⟩ := hcd
      have hfin : Stage F0 W0 (binF f c t n W s K ++ [Ob.ints (.slice (some ⟨g9, 0, none⟩) l.length ca) l, Ob.ints (.slice (some ⟨gb, 0, none⟩) l.length l.length) ((degsK K l).take (j + 1) ++ List.replicate (l.length - (j + 1)) 0)]) (wr.setCell ⟨gb, j, none⟩ (.int .i64 ((K (l.getD j 0)).length : Int))) := by
        have hL1 : ((degsK K l).take (j + 1) ++ List.replicate (l.length - (j + 1)) 0).length = l.length := by simp [degsK]; omega
        unfold Ob.ints
        rw [hL1]
        exact hst
      clear hs hs2 hst hc9 hL
      generalize hdg : ((K (l.getD j 0)).length : Int) = dg at *
      clear hdg
      generalize hy : l.getD j 0 = y at *
      clear hy
      go_wp2_with fail
      refine hD.mono ?_
      rintro e w2 ⟨rfl, rfl⟩
      clear hD
      go_wp2_with fail
      go_roundw
      case rel => exact ⟨j + 1, by go_num, by omega, hfin⟩
      case measure => simp [intOf]; omega
    · obtain rfl : j = l.length := by omega
      have hfin : Stage F0 W0 (binF f c t n W s K ++ [Ob.ints (.slice a l.length ca) l, Ob.ints (.slice (some ⟨gb, 0, none⟩) l.length l.length) (degsK K l)]) wr := by
        have h1 := hs
        rw [Nat.sub_self, List.replicate_zero, List.append_nil, List.take_of_length_le (by simp [degsK])] at h1
        exact h1
      clear hs
      go_wp2_with fail
      go_ret
      exact ⟨_, rfl, hfin⟩
/-- None is there. -/
theorem first_none (cv : Nat) : Calls Tryz.prog 105 #[.pointer (some ⟨f, 0, none⟩), .slice a 0 cv] w fun e w' => e = .returned (.tuple #[.int .i64 0, .bool false]) ∧ w = w' := by
  go_enter Tryz.func105, Tryz.ntmps105
  go_wp2_with fail
  exact bodyPost_ret (v := .tuple #[.int .i64 0, .bool false]) (by simp [results, Tryz.results105, go_sem]) rfl ⟨rfl, rfl⟩
set_option maxRecDepth 100000 in
set_option maxHeartbeats 1000000 in
/-- The root that is ahead of all. -/
theorem first_one (hl : l ≠ []) (hin : ∀ y ∈ l, inW W y = true) (hs : Stage F0 W0 (binF f c t n W s K ++ [Ob.ints (.slice a l.length ca) l]) w) :
    Calls Tryz.prog 105 #[.pointer (some ⟨f, 0, none⟩), .slice a l.length ca] w fun e w' => ∃ x s', e = .returned (.tuple #[.int .i64 x, .bool true]) ∧ BestOf W l x ∧ (s ≤ s' ∧ s' ≤ s + (l.length : Int) - 1) ∧ Stage F0 W0 (binF f c t n W s' K ++ [Ob.ints (.slice a l.length ca) l]) w' := by
  obtain ⟨m, hm⟩ : ∃ m, l.length = m + 1 := by
    cases l with
    | nil => exact absurd rfl hl
    | cons x r => exact ⟨r.length, rfl⟩
  obtain ⟨gb, cv, e9, hc1, hc2, _, hc9, _⟩ := hs.intsAt 3 rfl (by omega)
  cases e9
  have u0 := hc9 0 (by omega)
  have hb0 : BestOf W (l.take 1) (l.getD 0 0) := by
    cases l with
    | nil => exact absurd rfl hl
    | cons x r => exact best_one W x
  rw [hm] at hc1 hs ⊢
  clear hc9 hl
  by_cases hca : ca = 1
  · subst hca
    obtain rfl : m = 0 := by omega
    have hb1 : BestOf W l (l.getD 0 0) := by
      have h1 : l.take 1 = l := List.take_of_length_le (by omega)
      rwa [h1] at hb0
    clear hb0 hm
    go_enter Tryz.func105, Tryz.ntmps105
    generalize hy0 : l.getD 0 0 = y0 at *
    replace hy0 := Lib.hid hy0
    go_wp2_with fail
    go_loopw [6, 18] (fun b i wr => b = .int .i64 y0 ∧ i = .int .i64 0 ∧ Stage F0 W0 (binF f c t n W s K ++ [Ob.ints (.slice (some ⟨gb, 0, none⟩) 1 1) l]) wr) (fun _ i _ => 0)
    case atStart => exact ⟨rfl, rfl, hs⟩
    case round =>
      clear hs u0 hy0
      obtain ⟨rfl, rfl, hs⟩ := hrel
      go_wp2_with fail
      exact bodyPost_ret (v := .tuple #[.int .i64 y0, .bool true]) (by simp [results, Tryz.results105, go_sem]) rfl ⟨y0, s, rfl, hb1, ⟨Int.le_refl _, by omega⟩, hs⟩
  have hne : ((m : Int) + 1 == 0) = false := by rw [beq_eq_false_iff_ne]; omega
  go_enter Tryz.func105, Tryz.ntmps105
  generalize hy0 : l.getD 0 0 = y0 at *
  replace hy0 := Lib.hid hy0
  go_wp2_with fail
  go_loopw [6, 18] (fun b i wr => ∃ (j : Nat) (x s' : Int), b = .int .i64 x ∧ i = .int .i64 j ∧ j ≤ m ∧ BestOf W (l.take (j + 1)) x ∧ (s ≤ s' ∧ s' ≤ s + j) ∧ Stage F0 W0 (binF f c t n W s' K ++ [Ob.ints (.slice (some ⟨gb, 0, none⟩) (m + 1) ca) l]) wr) (fun _ i _ => m - (intOf i).toNat)
  case atStart => exact ⟨0, y0, s, rfl, rfl, Nat.zero_le _, hb0, ⟨Int.le_refl _, by omega⟩, hs⟩
  case round =>
    clear hs hb0 u0 hy0
    obtain ⟨j, x, s', rfl, rfl, hj, hb, hr, hs⟩ := hrel
    by_cases hjm : j < m
    · have hji : (j : Int) < m := by omega
      have f0 : wr.cell? ⟨f, 0, none⟩ = some (.pointer (some ⟨c, 0, none⟩)) := hs.cell 2 rfl rfl
      have hs' := hs
      rw [← hm] at hs'
      obtain ⟨g8, c8, e8, _, _, _, hc8, _⟩ := hs'.intsAt 3 rfl (by omega)
      cases e8
      have uj := hc8 (j + 1) (by omega)
      have hA := hs.call 1 rfl (fun _ ho => ahead_cl (l.getD (j + 1) 0) x ho)
      have hrg := ahead_range (W := W) (a := l.getD (j + 1) 0) (b := x) ((hs.get (i := 1) rfl).elim fun _ ho => Ob.cells.steps ho)
      have hyl : l.getD (j + 1) 0 ∈ l := mem_getD' l (j + 1) 0 (by omega)
      have htk : l.take (j + 1 + 1) = l.take (j + 1) ++ [l.getD (j + 1) 0] := by
        rw [List.take_succ_eq_append_getElem (by omega)]
        simp [List.getD_eq_getElem?_getD, show j + 1 < l.length by omega]
      have hnx := best_more (x := l.getD (j + 1) 0) (fun y hy => hin y (List.mem_of_mem_take hy)) (hin _ hyl) hb
      rw [← htk] at hnx
      clear hs hs' hc8 hyl htk hb
      rw [Nat.add_comm j 1] at uj
      generalize hyy : l.getD (j + 1) 0 = y at *
      rw [Nat.add_comm j 1] at hyy
      rw [hyy] at uj
      clear hyy
      generalize aheadS W s' y x = s2 at *
      cases hB : aheadW W y x
      · rw [hB] at hA hnx
        replace hnx : BestOf W (l.take (j + 1 + 1)) x := hnx
        clear hB
        go_wp2_with fail
        refine hA.mono ?_
        rintro e w2 ⟨rfl, h2⟩
        go_wp2_with fail
        go_roundw
        case rel => exact ⟨j + 1, x, s2, rfl, by go_num, by omega, hnx, ⟨by omega, by omega⟩, h2⟩
        case measure => simp [intOf]; omega
      · rw [hB] at hA hnx
        replace hnx : BestOf W (l.take (j + 1 + 1)) y := hnx
        clear hB
        go_wp2_with fail
        refine hA.mono ?_
        rintro e w2 ⟨rfl, h2⟩
        go_wp2_with fail
        go_roundw
        case rel => exact ⟨j + 1, y, s2, rfl, by go_num, by omega, hnx, ⟨by omega, by omega⟩, h2⟩
        case measure => simp [intOf]; omega
    · obtain rfl : j = m := by omega
      rw [← hm, List.take_length] at hb
      go_wp2_with fail
      exact bodyPost_ret (v := .tuple #[.int .i64 x, .bool true]) (by simp [results, Tryz.results105, go_sem]) rfl ⟨x, s', rfl, hb, ⟨hr.1, by omega⟩, hs⟩
end
end Go.Proofs.YtmoolbmbdnkooaaGreat
