/- Merged of SiftCalls3, DaryObj, DaryRow, DaryNest, DaryNest2, DaryNest3, DaryMeld. -/
import Derived.Test.YtkcicnflcilekaaGreatSiftCalls2
import Derived.Test.YtkcicnflcilekaaGreatAsks
import Derived.Test.YtkcicnflcilekaaGreatPqCalls
import Derived.Test.YtkcicnflcilekaaGreatStageAppend
import Derived.Test.YtkcicnflcilekaaGreatPqHeld
import Derived.Deep.RegionHeld3
import Derived.Deep.RegionWith
import Derived.Deep.CutBlock
import Derived.Deep.DeepCutAuto
namespace Go.Proofs.YtkcicnflcilekaaGreat
open Go.RowKit Go.Sort

section
variable {γ : Type} {O : γ → Ob} {R : γ → γ → Prop} {ok : Int → Prop} {lt : Int → Int → Bool} {H : World → Prop} {T : TypeId} {u : Value} {fn : Fn}
variable {F0 : Nat → Prop} {W0 w : World} {r bm : Nat} {v : Value} {d : Nat} {l : List Int} {g : γ} {q : List Ob}
set_option maxRecDepth 100000 in
set_option maxHeartbeats 1000000 in
theorem add_st (A : Asks O R ok lt H T u fn) (hd : 2 ≤ d ∧ d ≤ 16) (hs : Stage F0 W0 (rowO r bm v d l ++ O g :: q) w) (x : Int) (I : RowIn ok (l ++ [x])) (S : StrictM lt (· ∈ l ++ [x])) (HH : Heap d lt l) :
    Calls Tryz.prog 154 #[.pointer (some ⟨r, 0, none⟩), .iface T u, .int .i64 x] w (RunPost O R lt F0 W0 r bm d (l ++ [x]) (depthI d l.length) (fun l' g' => (lt (rat (l ++ [x]) l.length) (rat (l ++ [x]) (par d l.length)) = false → l' = l ++ [x]) ∧ (0 < l.length → askedR R g g')) g q) := by
  have hx : inInt x := I.int x (by simp)
  have hxl : x ∉ l := fun h => by
    have := (List.nodup_append.1 I.nodup).2.2 x h x (by simp)
    exact this rfl
  have hlen := I.len
  simp only [List.length_append, List.length_cons, List.length_nil] at hlen
  have k1 := hs.cell 0 rfl (o := 1) rfl
  have k2 := hs.cell 0 rfl (o := 2) rfl
  have hL := hs.lookOkZ 2 rfl Tryz.underlying185 Tryz.underlying3 Tryz.underlying3 (szero_int w) x hx
  rw [place_none hxl] at hL
  replace hL : (Instr.lookup 185 (.map (some bm)) (.int .i64 x) true).run Tryz.prog w = .ok (.tuple #[.int .i64 0, .bool false]) w := hL
  have hup := heap_push (by omega) HH x
  have hadd := place_add I.nodup
  have hC : ∀ (w2 : World) (v' : Value), Stage F0 W0 (rowO r bm v' d (l ++ [x]) ++ O g :: q) w2 → _ := fun w2 v' h => climb_st A hd h I S l.length (by simp)
  have hE : ∀ (v' : Value) (l' : List Int) (g' : γ) (wx : World), l'.Perm (l ++ [x]) → (lt (rat (l ++ [x]) l.length) (rat (l ++ [x]) (par d l.length)) = false → l' = l ++ [x]) ∧ (0 < l.length → askedR R g g') → Within R (depthI d l.length) g g' → Heap d lt l' → Stage F0 W0 (rowO r bm v' d l' ++ O g' :: q) wx → RunPost O R lt F0 W0 r bm d (l ++ [x]) (depthI d l.length) (fun l' g' => (lt (rat (l ++ [x]) l.length) (rat (l ++ [x]) (par d l.length)) = false → l' = l ++ [x]) ∧ (0 < l.length → askedR R g g')) g q (.returned (.bool true)) wx :=
    fun v' l' g' wx h1 h0 h2 h3 h4 => ⟨v', l', g', rfl, h1, h0, h2, h3, h4⟩
  obtain ⟨a, cp, rfl, _, _⟩ := rowP_form hs
  have hA := hs.later (below_alloc1 (o := .cells #[.int .i64 x] 3) (Below.refl _ _))
  have e1 : cellsBy intC l ++ [.int .i64 (x : Int)] = cellsBy intC (l ++ [x]) := by rw [cellsBy_append, cellsBy_one]; rfl
  have hl1 : (l ++ [x]).length = l.length + 1 := by simp
  have hpl : (placeL l x).isSome = false := by rw [place_none hxl]; rfl
  generalize hm : l ++ [x] = m at *
  replace hadd := Lib.hid hadd
  generalize hn : l.length = n at *
  clear hs
  go_enter Tryz.func154, Tryz.ntmps154
  go_wp2_with (at_builtin; refine hA.wp_append 1 (by rw [← hn]; rfl) rfl _ _ 75 rfl (.int .i64 0) 8 Tryz.underlying75 sinfo_int rfl (by decide) (Nat.zero_le _) rfl _ 1 [.int .i64 x] rfl (reads_new w #[.int .i64 x] _ 1 1 _ rfl rfl) (by intro u hu; simp at hu; subst hu; rfl) (by unfold maxLen; omega) (by omega) ?_)
  intro v' w2 hs2 _
  clear e1
  obtain ⟨a', cp', hv', _, _⟩ := owns_form (hs2.owns 1 rfl)
  subst hv'
  have k2b := hs2.cell 0 rfl (o := 2) rfl
  have k1b := hs2.cell 0 rfl (o := 1) rfl
  have f1 := hs2.free 0 rfl 1
  have l1 := hs2.lt 0 rfl
  have hs3 := hs2.store 0 rfl 1 (.slice a' (n + 1) cp')
  have k2c := hs3.cell 0 rfl (o := 2) rfl
  clear hA hs2 k1 k2
  go_wp2_with (at_mapUpdate; refine hs3.wp_putZ 2 (by rw [← hn]; rfl) rfl _ _ _ rfl Tryz.underlying185 Tryz.underlying3 Tryz.underlying3 (by unfold maxLen; omega) rfl x n rfl rfl hx (by omega) ?_)
  intro w4 hs4
  have hs5 : Stage F0 W0 (rowO r bm (.slice a' (n + 1) cp') d m ++ O g :: q) w4 := by
    unfold rowO rowP
    rw [← hadd.out, hl1]
    exact hs4
  clear hs3 hs4 k2b k1b k2c f1 l1 hL
  have hCl := hC w4 _ hs5
  clear hC hs5
  go_wp2_with fail
  refine hCl.mono ?_
  rintro e w5 ⟨b, l', g', rfl, hp, hw, hask, hb0, hb1, hH, hs6⟩
  have hE2 := hE _ l' g' w5 hp ⟨(fun h => by cases b; exact (hb0 rfl).1; rw [(hb1 rfl).2] at h; cases h), hask⟩ hw (hH hup) hs6
  clear hE hCl hH hs6 hw hb0 hb1 hask
  go_wp2_with fail
  go_ret
  exact hE2
end
end Go.Proofs.YtkcicnflcilekaaGreat

namespace Go.Proofs.YtkcicnflcilekaaGreat
open Go.RowKit Go.Sort

/-- Whoever is asked: the nest's own block, and its cells. -/
def Ob.dcells (p c d bm : Nat) (W : WS) (s : Int) : Ob := Ob.group [Ob.box p #[ptrV c, .int .i64 d, .map (some bm)] 174, Ob.cells c W s]
/-- A row of slots, at q; none, if there is nothing in it. -/
def drowO (d q : Nat) (l : List Int) : Ob := if l = [] then Ob.none else Ob.ex fun x : Nat × Value => Ob.group (rowO q x.1 x.2 d l)
def dfamO (d : Nat) (Ls : Nat → List Int) (qs : Nat → Nat) : Nat → Ob := fun h => drowO d (qs h) (Ls h)
def dmapO (Ls : Nat → List Int) (qs : Nat → Nat) : Int → Option Nat := fun h => if 0 ≤ h ∧ Ls h.toNat ≠ [] then some (qs h.toNat) else none
def daryParts (p c d bm : Nat) (W : WS) (s : Int) (f : Int → Option Nat) (g : Nat → Ob) : List Ob :=
  [Ob.dcells p c d bm W s, Ob.pmap Tryz.prog 3 bm f 65537, Ob.fam g]
/-- A nest of rows at p, whose cells are at c. -/
def Ob.dary (p c d : Nat) (W : WS) (s : Int) : Ob where
  holds w F := ∃ bm Ls qs, DInv W d Ls ∧ W.Fit ∧ (0 ≤ s ∧ s ≤ 4611686018427387904) ∧ (Ob.group (daryParts p c d bm W s (dmapO Ls qs) (dfamO d Ls qs))).holds w F
  keeps := fun ⟨bm, Ls, qs, h1, h2, h3, h⟩ k hn => ⟨bm, Ls, qs, h1, h2, h3, (Ob.group _).keeps h k hn⟩
  lt := fun ⟨_, _, _, _, _, _, h⟩ => (Ob.group _).lt h
def updQ (qs : Nat → Nat) (h q : Nat) : Nat → Nat := fun i => if i = h then q else qs i
theorem dupd_fam (d : Nat) (Ls : Nat → List Int) (qs : Nat → Nat) (h q : Nat) (ys : List Int) : updO (dfamO d Ls qs) h (drowO d q ys) = dfamO d (updI Ls h ys) (updQ qs h q) := by
  funext i
  unfold updO dfamO updI updQ
  split <;> rfl
theorem dupd_none (d : Nat) (Ls : Nat → List Int) (qs : Nat → Nat) (h : Nat) (hn : Ls h = []) : updO (dfamO d Ls qs) h Ob.none = dfamO d Ls qs := by
  funext i
  unfold updO dfamO
  split
  · rename_i e; subst e; simp [drowO, hn]
  · rfl
theorem dupd_map (Ls : Nat → List Int) (qs : Nat → Nat) (h q : Nat) (ys : List Int) : setP (dmapO Ls qs) h (if ys = [] then none else some q) = dmapO (updI Ls h ys) (updQ qs h q) := by
  funext i
  unfold setP dmapO updI updQ
  by_cases e : i = h
  · subst e
    simp only [if_true, Int.toNat_natCast, Int.natCast_nonneg, true_and]
    by_cases e2 : ys = [] <;> simp [e2]
  · rw [if_neg e]
    by_cases hi : 0 ≤ i
    · have : i.toNat ≠ h := by omega
      simp [this]
    · simp [hi]
theorem dzero_ptr (w : World) : (zeroValue 169).run Tryz.prog w = .ok (.pointer none) w := by kernel_rfl
/-- At p lies a pointer to the cells at c. -/
def daryH (p c : Nat) (w : World) : Prop := w.cell? ⟨p, 0, none⟩ = some (ptrV c)
/-- One question which slot is ahead. -/
def dR (s s' : Int) : Prop := s ≤ s' ∧ s' ≤ s + 1 ∧ 0 < s'
section
variable {w : World} {p c d bm : Nat} {W : WS} {s : Int} {F : Nat → Prop}
theorem dcells_cell (h : (Ob.dcells p c d bm W s).holds w F) : w.cell? ⟨p, 0, none⟩ = some (ptrV c) ∧ w.cell? ⟨p, 1, none⟩ = some (.int .i64 d) ∧ w.cell? ⟨p, 2, none⟩ = some (.map (some bm)) :=
  ⟨(Ob.group.open h).cell 0 rfl (o := 0) rfl, (Ob.group.open h).cell 0 rfl (o := 1) rfl, (Ob.group.open h).cell 0 rfl (o := 2) rfl⟩
theorem dcells_fit (h : (Ob.dcells p c d bm W s).holds w F) : W.Fit := by
  obtain ⟨G, ho⟩ := (Ob.group.open h).get (i := 1) rfl
  exact Ob.cells.fit ho
theorem dcells_steps (h : (Ob.dcells p c d bm W s).holds w F) : 0 ≤ s ∧ s ≤ 4611686018427387904 := by
  obtain ⟨G, ho⟩ := (Ob.group.open h).get (i := 1) rfl
  exact Ob.cells.steps ho
/-- A call on the cells. -/
theorem dcells_call {f : FuncId} {args : Array Value} {v : Value} {W' : WS} {s' : Int} (h : (Ob.dcells p c d bm W s).holds w F)
    (hc : ∀ G, (Ob.cells c W s).holds w G → Calls Tryz.prog f args w fun e w' => e = .returned v ∧ ∃ G', (Ob.cells c W' s').holds w' G' ∧ Moved G G' w w') :
    Calls Tryz.prog f args w fun e w' => e = .returned v ∧ ∃ F', (Ob.dcells p c d bm W' s').holds w' F' ∧ Moved F F' w w' :=
  ((Ob.group.open h).call 1 rfl hc).mono fun _ _ ⟨h1, h2⟩ => ⟨h1, h2.close ((Ob.dcells p c d bm W s).lt h)⟩
end
theorem dload_cells {p c : Nat} {w : World} (h : daryH p c w) : (loadVar 166 ⟨p, 0, none⟩).run Tryz.prog w = .ok (ptrV c) w := by
  unfold daryH at h
  go_simp
/-- A method of the cells, by the nest. -/
theorem dm_prom {n : String} {f : FuncId} {p c : Nat} {w : World} (h : daryH p c w) (e : (method 470 125 (ptrV p) n).run Tryz.prog w = (do let v ← loadVar 166 ⟨p, 0, none⟩; pure (f, v) : Sem (FuncId × Value)).run Tryz.prog w) : (method 470 125 (ptrV p) n).run Tryz.prog w = .ok (f, ptrV c) w := by
  rw [e, Sem.run_bind, dload_cells h]
  rfl
/-- The nest as the order of its rows. -/
theorem dary_asks (p c d bm : Nat) (W : WS) : Asks (Ob.dcells p c d bm W) dR (fun x => inW W x = true) (aheadW W) (daryH p c) 125 (ptrV p) ⟨174, ptrV c⟩ where
  there h := (dcells_cell h).1
  meth := ⟨fun w h => dm_prom h (by kernel_rfl), fun _ _ => by kernel_rfl⟩
  ask := by
    intro s w F a b ha hb h
    have hs := dcells_steps h
    refine (dcells_call h (fun G ho => ahead_cl a b ho)).mono ?_
    rintro e w' ⟨rfl, h2⟩
    refine ⟨rfl, _, ?_, h2⟩
    have e2 : aheadS W s a b = addI s 1 := by simp [aheadS, ha, hb]
    rw [e2]
    unfold dR addI
    repeat' split
    all_goals omega
theorem strictM_ahead (W : WS) (P : Int → Prop) (h : ∀ x, P x → inW W x = true) : StrictM (aheadW W) P :=
  ⟨fun x _ => dahead_irr W x, fun _ _ _ _ _ _ a b => dahead_trans a b, fun x y hx hy hne e => dahead_total (h x hx) (h y hy) hne e⟩
theorem within_dR {n : Nat} {s s' : Int} (h : Within dR n s s') : s ≤ s' ∧ s' ≤ s + n := by
  obtain ⟨m, hm, h⟩ := h
  have : s ≤ s' ∧ s' ≤ s + m := by
    clear hm
    induction h with
    | none => exact ⟨Int.le_refl _, by omega⟩
    | more _ r ih => obtain ⟨r1, r2, _⟩ := r; omega
  omega
theorem asked_dR {s s' : Int} (h : askedR dR s s') : 0 < s' := by
  obtain ⟨t, r, m, h⟩ := h
  have h2 := (within_dR ⟨m, Nat.le_refl _, h⟩).1
  have := r.2.2
  omega
end Go.Proofs.YtkcicnflcilekaaGreat

namespace Go.Proofs.YtkcicnflcilekaaGreat
open Go.RowKit Go.Sort

/-- A row in hand, and the rest of the nest. -/
abbrev dhand (p c d bm : Nat) (W : WS) (s : Int) (f : Int → Option Nat) (g : Nat → Ob) (q b : Nat) (v : Value) (xs : List Int) : List Ob :=
  rowO q b v d xs ++ Ob.dcells p c d bm W s :: [Ob.pmap Tryz.prog 3 bm f 65537, Ob.fam g]
section
variable {F0 : Nat → Prop} {W0 w : World} {p c d bm : Nat} {W : WS} {s : Int} {f : Int → Option Nat} {g : Nat → Ob} {q b : Nat} {v : Value} {xs : List Int} {Ls : Nat → List Int} {qs : Nat → Nat}
/-- A heap's row in hand. -/
theorem dtake_hand (h : Stage F0 W0 (daryParts p c d bm W s f (dfamO d Ls qs)) w) (k : Nat) (hn : Ls k ≠ []) :
    ∃ b v, Stage F0 W0 (dhand p c d bm W s f (updO (dfamO d Ls qs) k Ob.none) (qs k) b v (Ls k)) w := by
  have h1 := h.pull 2 rfl k
  have e : dfamO d Ls qs k = Ob.ex fun x : Nat × Value => Ob.group (rowO (qs k) x.1 x.2 d (Ls k)) := by
    unfold dfamO drowO; rw [if_neg hn]
  rw [e] at h1
  obtain ⟨⟨b, v⟩, h2⟩ := h1.openEx
  exact ⟨b, v, h2.ungroup.select [3, 4, 5, 0, 1, 2] (by decide) rfl⟩
/-- .. laid back. -/
theorem dlay_hand (h : Stage F0 W0 (dhand p c d bm W s f g q b v xs) w) (k : Nat) (hg : g k = Ob.none) : Stage F0 W0 (daryParts p c d bm W s f (updO g k (drowO d q xs))) w := by
  by_cases e : xs = []
  · have e1 : drowO d q xs = Ob.none := by simp [drowO, e]
    have e2 : updO g k (drowO d q xs) = g := by
      rw [e1]; funext i; unfold updO; split
      · rename_i e; subst e; exact hg.symm
      · rfl
    rw [e2]
    exact h.select [3, 4, 5] (by decide) rfl
  · have e1 : drowO d q xs = Ob.ex fun x : Nat × Value => Ob.group (rowO q x.1 x.2 d xs) := by simp [drowO, e]
    have h1 := h.select [3, 4, 5, 0, 1, 2] (by decide) rfl
    have h2 : Stage F0 W0 ([Ob.dcells p c d bm W s, Ob.pmap Tryz.prog 3 bm f 65537, Ob.fam g] ++ rowO q b v d xs) w := h1
    have h3 := h2.regroup.closeEx (O := fun x : Nat × Value => Ob.group (rowO q x.1 x.2 d xs)) (b, v)
    rw [← e1] at h3
    exact h3.push 2 rfl k hg
/-- 'row', where there is one. -/
theorem drow_st (hs : Stage F0 W0 (daryParts p c d bm W s (dmapO Ls qs) g) w) (k : Nat) (hk : k < 65537) (hn : Ls k ≠ []) :
    Calls Tryz.prog 144 #[.pointer (some ⟨p, 0, none⟩), .int .i64 k] w fun e w' => e = .returned (.pointer (some ⟨qs k, 0, none⟩)) ∧ w = w' := by
  have p2 := (hs.get (i := 0) rfl).elim fun _ h => (dcells_cell h).2.2
  have hL := hs.lookP 1 rfl Tryz.underlying172 Tryz.underlying3 (dzero_ptr w) k (by omega)
  have e : dmapO Ls qs k = some (qs k) := by simp [dmapO, hn]
  rw [e] at hL
  replace hL : (Instr.lookup 172 (.map (some bm)) (.int .i64 k) true).run Tryz.prog w = .ok (.tuple #[.pointer (some ⟨qs k, 0, none⟩), .bool true]) w := hL
  generalize qs k = q at *
  go_enter Tryz.func144, Tryz.ntmps144
  go_wp2_with fail
  go_ret
  exact ⟨rfl, rfl⟩
/-- .. where there is none, whatever else is there. -/
theorem drow_none {l : List Ob} (hs : Stage F0 W0 l w) (i : Nat) (hi : l[i]? = some (Ob.dcells p c d bm W s)) (m : Nat) (hm : l[m]? = some (Ob.pmap Tryz.prog 3 bm f 65537)) (hd : 2 ≤ d ∧ d ≤ 16) (k : Nat) (hk : k < 65537) (hf : f k = none) :
    Calls Tryz.prog 144 #[.pointer (some ⟨p, 0, none⟩), .int .i64 k] w fun e w' => ∃ q b, e = .returned (.pointer (some ⟨q, 0, none⟩)) ∧ Stage F0 W0 (l ++ rowO q b (.slice none 0 0) d []) w' := by
  obtain ⟨_, p1, p2⟩ := (hs.get hi).elim fun _ h => dcells_cell h
  have hL := hs.lookP m hm Tryz.underlying172 Tryz.underlying3 (dzero_ptr w) k (by omega)
  rw [hf] at hL
  replace hL : (Instr.lookup 172 (.map (some bm)) (.int .i64 k) true).run Tryz.prog w = .ok (.tuple #[.pointer none, .bool false]) w := hL
  have hN := snew_st hs d hd
  go_enter Tryz.func144, Tryz.ntmps144
  go_wp2_with fail
  refine hN.mono ?_
  rintro e w1 ⟨rfl, hs2⟩
  go_wp2_with fail
  go_ret
  exact ⟨_, _, rfl, hs2⟩
/-- 'row', whatever there is: it is in hand. -/
theorem drow_hand (hs : Stage F0 W0 (daryParts p c d bm W s (dmapO Ls qs) (dfamO d Ls qs)) w) (hd : 2 ≤ d ∧ d ≤ 16) (k : Nat) (hk : k < 65537) :
    Calls Tryz.prog 144 #[.pointer (some ⟨p, 0, none⟩), .int .i64 k] w fun e w' => ∃ q b v, e = .returned (.pointer (some ⟨q, 0, none⟩)) ∧ Stage F0 W0 (dhand p c d bm W s (dmapO Ls qs) (updO (dfamO d Ls qs) k Ob.none) q b v (Ls k)) w' := by
  by_cases hn : Ls k = []
  · have e : dmapO Ls qs k = none := by simp [dmapO, hn]
    refine (drow_none hs 0 rfl 1 rfl hd k hk e).mono ?_
    rintro e w' ⟨q, b, rfl, h⟩
    rw [dupd_none d Ls qs k hn, hn]
    exact ⟨_, _, _, rfl, h.select [3, 4, 5, 0, 1, 2] (by decide) rfl⟩
  · obtain ⟨b, v, h⟩ := dtake_hand hs k hn
    refine (drow_st hs k hk hn).mono ?_
    rintro e w' ⟨rfl, rfl⟩
    exact ⟨_, b, v, rfl, h⟩
set_option maxRecDepth 100000 in
/-- 'keep'. -/
theorem dkeep_st (hs : Stage F0 W0 (dhand p c d bm W s f g q b v xs) w) (k : Nat) (hk : k < 65537) (hg : g k = Ob.none) :
    Calls Tryz.prog 147 #[.pointer (some ⟨p, 0, none⟩), .int .i64 k, .pointer (some ⟨q, 0, none⟩)] w fun e w' => e = .returned (.tuple #[]) ∧ Stage F0 W0 (daryParts p c d bm W s (setP f k (if xs = [] then none else some q)) (updO g k (drowO d q xs))) w' := by
  have hL := slen_st hs
  have p2 := (hs.get (i := 3) rfl).elim fun _ h => (dcells_cell h).2.2
  by_cases hn : xs = []
  · have hl0 : (xs.length : Int) = 0 := by rw [hn]; rfl
    rw [hl0] at hL
    rw [if_pos hn]
    go_enter Tryz.func147, Tryz.ntmps147
    go_wp2_with fail
    refine hL.mono ?_
    rintro e w1 ⟨rfl, rfl⟩
    go_wp2_with (at_delete; refine hs.wp_deleteP 4 rfl rfl _ _ rfl Tryz.underlying172 Tryz.underlying3 rfl k rfl (by omega) ?_)
    intro w2 hs2
    have hs3 := dlay_hand hs2 k hg
    go_wp2_with fail
    exact bodyPost_ret (results_none rfl _ _ _) rfl ⟨rfl, by rw [hn]; exact hs3⟩
  · have hl0 : ((xs.length : Int) == 0) = false := by
      have := List.length_pos_iff.2 hn
      simp; omega
    rw [if_neg hn]
    generalize hm : (xs.length : Int) = m at hL hl0
    go_enter Tryz.func147, Tryz.ntmps147
    go_wp2_with fail
    refine hL.mono ?_
    rintro e w1 ⟨rfl, rfl⟩
    go_wp2_with (at_mapUpdate; refine hs.wp_putP 4 rfl rfl _ _ _ rfl Tryz.underlying172 Tryz.underlying3 (by unfold maxLen; omega) rfl k q rfl rfl hk ?_)
    intro w2 hs2
    have hs3 := dlay_hand hs2 k hg
    go_wp2_with fail
    go_end0
    exact ⟨rfl, hs3⟩
end
end Go.Proofs.YtkcicnflcilekaaGreat

namespace Go.Proofs.YtkcicnflcilekaaGreat
open Go.RowKit Go.Sort

theorem in_int {W : WS} (hf : W.Fit) {x : Int} (h : inW W x = true) : inInt x := by
  obtain ⟨i, rfl, hi, _⟩ := in_nat h
  have := hf.cap
  exact ⟨by omega, by omega⟩
theorem row_in {W : WS} (hf : W.Fit) {l : List Int} (hn : l.Nodup) (hi : ∀ y ∈ l, inW W y = true) (hl : l.length ≤ 1048576) : RowIn (fun x => inW W x = true) l :=
  ⟨hn, hi, fun x hx => in_int hf (hi x hx), hl⟩
section
variable {w : World} {p c d : Nat} {W : WS} {s : Int} {F : Nat → Prop}
theorem dary_close {F : Nat → Prop} {w w' : World} {bm : Nat} {W' : WS} {s' : Int} {Ls : Nat → List Int} {qs : Nat → Nat} (hs : Stage F w (daryParts p c d bm W' s' (dmapO Ls qs) (dfamO d Ls qs)) w') (hF : ∀ b, F b → b < w.heap.size) (I : DInv W' d Ls) : ∃ F', (Ob.dary p c d W' s').holds w' F' ∧ Moved F F' w w' := by
  obtain ⟨F', h1, m⟩ := hs.close hF
  obtain ⟨G, ho⟩ := hs.get (i := 0) rfl
  exact ⟨F', ⟨bm, Ls, qs, I, dcells_fit ho, dcells_steps ho, h1⟩, m⟩
theorem dparts_fit {F0 : Nat → Prop} {W0 : World} {bm : Nat} {f : Int → Option Nat} {g : Nat → Ob} (hs : Stage F0 W0 (daryParts p c d bm W s f g) w) : W.Fit := by
  obtain ⟨G, ho⟩ := hs.get (i := 0) rfl
  exact dcells_fit ho
set_option maxRecDepth 100000 in
theorem insert_da (hd : 2 ≤ d ∧ d ≤ 16) (y x k q : Int) (h : (Ob.dary p c d W s).holds w F) : Calls Tryz.prog 137 #[.pointer (some ⟨p, 0, none⟩), .int .i64 y, .int .i64 x, .agg #[.int .i64 k, .int .u64 q]] w fun e w' => e = .returned (.bool (putB W y x)) ∧ ∃ s', (s ≤ s' ∧ (putB W y x = false → s' = s) ∧ s' ≤ s + depthI d (lenW W y) ∧ (putB W y x = true → 0 < lenW W y → 0 < s')) ∧ ∃ F', (Ob.dary p c d (putW W y x k q) s').holds w' F' ∧ Moved F F' w w' := by
  have hF := (Ob.dary p c d W s).lt h
  obtain ⟨bm, Ls, qs, I, hf, _, hg⟩ := h
  have hs := Ob.group.open hg
  clear hg
  obtain ⟨w0, hw0, hs0⟩ : ∃ w0, w.alloc (.cells #[.int .i64 k, .int .u64 q] 94) = w0 ∧ Stage F w (daryParts p c d bm W s (dmapO Ls qs) (dfamO d Ls qs) ++ [Ob.box w.heap.size #[.int .i64 k, .int .u64 q] 94]) w0 := ⟨_, rfl, hs.alloc _ _⟩
  have hC := hs0.drew.call 0 rfl (fun _ ho => dcells_call ho fun _ h => put_cl y x k q h)
  have b0 := hs0.cell 3 rfl (o := 0) rfl
  have b1 := hs0.cell 3 rfl (o := 1) rfl
  have p0 := (hs0.get (i := 0) rfl).elim fun _ h => (dcells_cell h).1
  cases hB : putB W y x
  · have eW : putW W y x k q = W := by simp [putW, hB]
    rw [hB, eW] at hC
    rw [eW]
    clear hs
    go_enter Tryz.func137, Tryz.ntmps137
    go_wp2_with fail
    go_still_tail 7, (by kernel_rfl)
    change wpList _ _ _ _ _ w0.drew
    go_wp2_with fail
    refine hC.mono ?_
    rintro e w1 ⟨rfl, hs1⟩
    have hs2 : Stage F w (daryParts p c d bm W s (dmapO Ls qs) (dfamO d Ls qs)) w1 := hs1.take 3
    go_wp2_with fail
    go_ret
    exact ⟨rfl, s, ⟨Int.le_refl _, fun _ => rfl, by omega, fun e => by simp at e⟩, dary_close hs2 hF I⟩
  · obtain ⟨i, rfl, hi1, hi2⟩ : ∃ i : Nat, y = i ∧ 1 ≤ i ∧ i < 65537 := by
      have hB2 := hB
      simp only [putB, Bool.and_eq_true] at hB2
      obtain ⟨i, rfl, h1, h2, _⟩ := has_nat hB2.1
      have := hf.len
      exact ⟨i, rfl, h1, by omega⟩
    obtain ⟨_, _, hH, hin, hnd, hfin⟩ := dinv_put (k := k) (s := q) I (by omega) hB hi1
    have hlen := I.len i hi1
    have hle := I.lenLe hf i
    have hl1 : (Ls i ++ [x]).length ≤ 1048576 := by rw [List.length_append]; simp; omega
    rw [hB] at hC
    clear hs
    generalize putW W i x k q = W1 at *
    go_enter Tryz.func137, Tryz.ntmps137
    go_wp2_with fail
    go_still_tail 7, (by kernel_rfl)
    change wpList _ _ _ _ _ w0.drew
    go_wp2_with fail
    refine hC.mono ?_
    rintro e w1 ⟨rfl, hs1⟩
    have hs2 : Stage F w (daryParts p c d bm W1 s (dmapO Ls qs) (dfamO d Ls qs)) w1 := hs1.take 3
    clear hs1 hC b0 b1 p0 hw0 hs0
    have hf1 := dparts_fit hs2
    have hL := drow_hand hs2 hd i hi2
    go_wp2_with fail
    refine hL.mono ?_
    rintro e w2 ⟨q2, b2, v2, rfl, hs3⟩
    clear hL hs2
    have hA := add_st (dary_asks p c d bm W1) hd hs3 x (row_in hf1 hnd hin hl1) (strictM_ahead W1 _ hin) hH
    go_wp2_with fail
    refine hA.mono ?_
    rintro e w3 ⟨v3, ys, s3, rfl, hp, ⟨_, hask⟩, hw, hh, hs4⟩
    clear hA hs3
    have I3 := hfin ys hh hp
    have hK := dkeep_st hs4 i hi2 (upd_same _ _ _)
    have hw' := within_dR hw
    have hst : s ≤ s3 ∧ (true = false → s3 = s) ∧ s3 ≤ s + depthI d (lenW W i) ∧ (true = true → 0 < lenW W i → 0 < s3) := ⟨hw'.1, fun e => (by cases e), by rw [← hlen]; exact hw'.2, fun _ h => asked_dR (hask (by rw [hlen]; exact h))⟩
    rw [dupd_map, upd_upd, dupd_fam] at hK
    clear hs4 hfin hask hw hp hh
    go_wp2_with fail
    refine hK.mono ?_
    rintro e w4 ⟨rfl, hs5⟩
    go_wp2_with fail
    go_ret
    exact ⟨rfl, s3, hst, dary_close hs5 hF I3⟩
end
end Go.Proofs.YtkcicnflcilekaaGreat

namespace Go.Proofs.YtkcicnflcilekaaGreat
open Go.RowKit Go.Sort

def newDaryPost (w : World) (n d : Nat) (e : Ending) (w' : World) : Prop := ∃ p c, e = .returned (.tuple #[.pointer (some ⟨p, 0, none⟩), .int .i64 0]) ∧ ∃ F', (Ob.dary p c d (newW n) 0).holds w' F' ∧ (∀ k, F' k → w.heap.size ≤ k) ∧ Below w.heap.size w w'
theorem dfam_none (d : Nat) (w : World) : (Ob.fam (dfamO d (fun _ => []) (fun _ => 0))).holds w (fun _ => False) :=
  ⟨fun _ h => h.elim, fun _ _ => False, fun i => by show (drowO d _ []).holds _ _; simp only [drowO, if_true]; exact rfl, fun _ _ _ _ h => h.elim, fun _ _ h => h.elim⟩
set_option maxRecDepth 100000 in
theorem new_da (n d : Nat) (hn : n ≤ 65536) (hd : 2 ≤ d ∧ d ≤ 16) (w : World) : Calls Tryz.prog 58 #[.int .i64 n, .int .i64 d] w (newDaryPost w n d) := by
  have hmm := @run_makeMap Tryz.prog
  have hC := new_cl n hn w
  go_enter Tryz.func58, Tryz.ntmps58
  go_wp2_with fail
  refine hC.mono ?_
  rintro e w1 ⟨c, rfl, F1, h1, h2, h3⟩
  have hs1 := (Stage.start w).add (O := Ob.cells c (newW n) 0) h3 h1 h2
  clear hC h1 h2 h3
  have hN := snew_st hs1 d hd
  go_wp2_with fail
  refine hN.mono ?_
  rintro e w2 ⟨rfl, hs2⟩
  clear hN
  have hs2 := hs2.take 1
  replace hs2 : Stage (fun _ => False) w [Ob.cells c (newW n) 0] w2 := hs2
  have hs3 := hs2.newPMap Tryz.prog 3 65537 rfl
  have hz : (w2.alloc (.map #[] 0)).heap.size = w2.heap.size + 1 := size_alloc _ _
  have hs4 := hs3.alloc #[ptrV c, .int .i64 d, .map (some w2.heap.size)] 174
  rw [hz] at hs4
  have hs5 : Stage (fun _ => False) w ([Ob.pmap Tryz.prog 3 w2.heap.size (fun _ => none) 65537] ++ [Ob.box (w2.heap.size + 1) #[ptrV c, .int .i64 d, .map (some w2.heap.size)] 174, Ob.cells c (newW n) 0]) _ := hs4.select [1, 2, 0] (by decide) rfl
  have hs6 := hs5.regroup.select [1, 0] (by decide) rfl
  clear hs1 hs2 hs3 hs4 hs5
  have hs7 := hs6.add (O := Ob.fam (dfamO d (fun _ => []) (fun _ => 0))) (F' := fun _ => False) (Below.refl _ _) (dfam_none d _) (fun _ h => h.elim)
  clear hs6
  go_wp2_with fail
  obtain ⟨F', g1, g2, g3⟩ := hs7.closeNew
  refine bodyPost_ret (v := .tuple #[.pointer (some ⟨w2.heap.size + 1, 0, none⟩), .int .i64 0]) (by simp [results, Tryz.results58, go_sem]) rfl ⟨_, c, rfl, F', ⟨w2.heap.size, fun _ => [], fun _ => 0, dinv_new n d, new_fitW hn, ⟨Int.le_refl _, by omega⟩, ?_⟩, g2, g3⟩
  have e : dmapO (fun _ => []) (fun _ => 0) = fun _ => none := by funext h; simp [dmapO]
  rw [e]
  exact g1
section
variable {w : World} {p c d : Nat} {W : WS} {s : Int} {F : Nat → Prop}
theorem DInv.keyLt {W : WS} {d : Nat} {Ls : Nat → List Int} (I : DInv W d Ls) (hf : W.Fit) {h : Nat} (hn : Ls h ≠ []) : 1 ≤ h ∧ h < 65537 := by
  obtain ⟨x, hx⟩ := List.exists_mem_of_ne_nil _ hn
  obtain ⟨h1, _, h3, k, h4, h5, h6⟩ := I.in' hx
  have h7 := hf.home k h5
  have e : (W.cells.getD k .off).home = h := h6
  rw [e] at h7
  rcases h7 with h7 | h7
  · omega
  · obtain ⟨i, hi, _, hl, _⟩ := has_nat h7
    have := hf.len
    exact ⟨h1, by omega⟩
set_option maxRecDepth 100000 in
theorem min_da (hd : 2 ≤ d ∧ d ≤ 16) (y : Int) (hy : inInt y) (h : (Ob.dary p c d W s).holds w F) : Calls Tryz.prog 141 #[.pointer (some ⟨p, 0, none⟩), .int .i64 y] w fun e w' => e = .returned (.tuple #[.int .i64 (minI W y), .bool (minB W y)]) ∧ w = w' := by
  obtain ⟨bm, Ls, qs, I, hf, _, hg⟩ := h
  have hs := Ob.group.open hg
  clear hg
  have p2 := (hs.get (i := 0) rfl).elim fun _ h => (dcells_cell h).2.2
  have hL := hs.lookP 1 rfl Tryz.underlying172 Tryz.underlying3 (dzero_ptr w) y hy
  by_cases hz : lenW W y = 0
  · obtain ⟨q1, q2⟩ := minI_none (min_none_iff.2 hz)
    rw [q1, q2]
    have e : dmapO Ls qs y = none := by
      unfold dmapO
      rw [if_neg]
      rintro ⟨h0, hn⟩
      obtain ⟨k, rfl⟩ : ∃ k : Nat, y = k := ⟨y.toNat, by omega⟩
      rw [Int.toNat_natCast] at hn
      exact hn ((I.empty (I.keyLt hf hn).1).2 hz)
    rw [e] at hL
    replace hL : (Instr.lookup 172 (.map (some bm)) (.int .i64 y) true).run Tryz.prog w = .ok (.tuple #[.pointer none, .bool false]) w := hL
    clear hs I hz q1 q2 e
    go_enter Tryz.func141, Tryz.ntmps141
    go_wp2_with fail
    exact bodyPost_ret (v := .tuple #[.int .i64 0, .bool false]) (by simp [results, Tryz.results141, go_sem]) rfl ⟨rfl, rfl⟩
  · have hyp : 0 < y := by
      by_cases e : 0 < y
      · exact e
      · exact absurd (by simp [lenW, e]) hz
    obtain ⟨k, rfl⟩ : ∃ k : Nat, y = k := ⟨y.toNat, by omega⟩
    have hn : Ls k ≠ [] := fun e => hz ((I.empty (by omega)).1 e)
    obtain ⟨m, hm1, hm2⟩ := I.min (by omega) hn
    obtain ⟨q1, q2⟩ := minI_some (min_of hm2)
    rw [q1, q2]
    have e : dmapO Ls qs k = some (qs k) := by simp [dmapO, hn]
    rw [e] at hL
    replace hL : (Instr.lookup 172 (.map (some bm)) (.int .i64 k) true).run Tryz.prog w = .ok (.tuple #[.pointer (some ⟨qs k, 0, none⟩), .bool true]) w := hL
    obtain ⟨b, v, hh⟩ := dtake_hand hs k hn
    have hA := sat_st hh 0
    have hpos : 0 < (Ls k).length := List.length_pos_iff.2 hn
    rw [show (0 : Int) = ((0 : Nat) : Int) from rfl, atD_nat hpos, hm1] at hA
    replace hA : Calls Tryz.prog 159 #[.pointer (some ⟨qs k, 0, none⟩), .int .i64 0] w fun e w' => e = .returned (.tuple #[.int .i64 m, .bool true]) ∧ w = w' := hA
    clear hs I hz q1 q2 e hh hm1 hm2 hpos hn
    generalize qs k = q at *
    go_enter Tryz.func141, Tryz.ntmps141
    go_wp2_with fail
    refine hA.mono ?_
    rintro e w1 ⟨rfl, rfl⟩
    go_wp2_with fail
    exact bodyPost_ret (v := .tuple #[.int .i64 m, .bool true]) (by simp [results, Tryz.results141, go_sem]) rfl ⟨rfl, rfl⟩
end
end Go.Proofs.YtkcicnflcilekaaGreat

namespace Go.Proofs.YtkcicnflcilekaaGreat
open Go.RowKit Go.Sort

section
variable {w : World} {p c d : Nat} {W : WS} {s : Int} {F : Nat → Prop}
end
end Go.Proofs.YtkcicnflcilekaaGreat

namespace Go.Proofs.YtkcicnflcilekaaGreat
open Go.RowKit Go.Sort

section
variable {F0 : Nat → Prop} {W0 w : World} {p c d bm : Nat} {W : WS} {s : Int} {q b : Nat} {v : Value} {xs : List Int} {Ls : Nat → List Int} {qs : Nat → Nat}
end
section
variable {w : World} {p c d : Nat} {W : WS} {s : Int} {F : Nat → Prop}
end
end Go.Proofs.YtkcicnflcilekaaGreat
