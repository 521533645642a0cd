/- Merged of BinNest, BinNest2, BinNest3, BinNest4, BinNest5. -/
import Derived.Test.YtkcicnflcilekaaGreatVMap
import Derived.Test.YtkcicnflcilekaaGreatPqHeld
import Derived.Test.YtkcicnflcilekaaGreatSiftRunsMath
import Derived.Deep.RegionHeld3
namespace Go.Proofs.YtkcicnflcilekaaGreat
open Go.RowKit Go.Sort

/-- A heap's row; nothing, where nothing is in it. -/
def rowG (v : Value) (l : List Int) : Ob := if l = [] then Ob.none else Ob.ints v l
def rowsF (R : Nat → List Int) (vs : Nat → Value) : Nat → Ob := fun h => rowG (vs h) (R h)
def rowsM (R : Nat → List Int) (vs : Nat → Value) : Int → Option Value := fun h => if 0 ≤ h ∧ R h.toNat ≠ [] then some (vs h.toNat) else none
def updV (vs : Nat → Value) (h : Nat) (v : Value) : Nat → Value := fun i => if i = h then v else vs i
def binParts (p f c t bm n : Nat) (W : WS) (s : Int) (K : Int → List Int) (m : Int → Option Value) (g : Nat → Ob) : List Ob :=
  binF f c t n W s K ++ [Ob.box p #[ptrV c, ptrV f, .map (some bm)] 181, Ob.vmap Tryz.prog 3 bm m 65537, Ob.fam g]
/-- A nest of binomial heaps at p, whose cells are at c. -/
def Ob.binom (p c : Nat) (W : WS) (s : Int) : Ob where
  holds w F := ∃ f t bm n K R vs, BinAll W n K R ∧ W.Fit ∧ (0 ≤ s ∧ s ≤ 4611686018427387904) ∧ (Ob.group (binParts p f c t bm n W s K (rowsM R vs) (rowsF R vs))).holds w F
  keeps := fun ⟨f, t, bm, n, K, R, vs, h1, h2, h3, h⟩ k hn => ⟨f, t, bm, n, K, R, vs, h1, h2, h3, (Ob.group _).keeps h k hn⟩
  lt := fun ⟨_, _, _, _, _, _, _, _, _, _, h⟩ => (Ob.group _).lt h
/-- At p lies a pointer to the cells at c. -/
def binH (p c : Nat) (w : World) : Prop := w.cell? ⟨p, 0, none⟩ = some (ptrV c)
theorem zero_ints (w : World) : (zeroValue 75).run Tryz.prog w = .ok (.slice none 0 0) w := by kernel_rfl
theorem rows_none {R : Nat → List Int} (vs : Nat → Value) {k : Nat} (h : R k = []) : updO (rowsF R vs) k Ob.none = rowsF R vs := by
  funext i
  unfold updO rowsF rowG
  split
  · rename_i e; subst e; simp [h]
  · rfl
theorem rows_map (R : Nat → List Int) (vs : Nat → Value) (k : Nat) (r : List Int) (v : Value) : setV (rowsM R vs) k (if r = [] then none else some v) = rowsM (updI R k r) (updV vs k v) := by
  funext i
  unfold setV rowsM updI updV
  by_cases e : i = k
  · subst e
    simp only [if_true, Int.toNat_natCast, Int.natCast_nonneg, true_and]
    by_cases e2 : r = [] <;> simp [e2]
  · rw [if_neg e]
    by_cases hi : 0 ≤ i
    · have : i.toNat ≠ k := by omega
      simp [this]
    · simp [hi]
theorem rows_fam (R : Nat → List Int) (vs : Nat → Value) (k : Nat) (r : List Int) (v : Value) (O : Ob) : updO (updO (rowsF R vs) k O) k (rowG v r) = rowsF (updI R k r) (updV vs k v) := by
  rw [upd_upd]
  funext i
  unfold updO rowsF updI updV
  split <;> rfl
section
variable {F0 F : Nat → Prop} {W0 w : World} {p f c t bm n k : Nat} {W : WS} {s : Int} {K : Int → List Int} {R : Nat → List Int} {vs : Nat → Value} {m : Int → Option Value} {g : Nat → Ob} {q : List Ob} {v : Value} {r : List Int}
theorem bn_p0 (h : Stage F0 W0 (binParts p f c t bm n W s K m g ++ q) w) : w.cell? ⟨p, 0, none⟩ = some (.pointer (some ⟨c, 0, none⟩)) := h.cell 3 rfl rfl
theorem bn_p1 (h : Stage F0 W0 (binParts p f c t bm n W s K m g ++ q) w) : w.cell? ⟨p, 1, none⟩ = some (.pointer (some ⟨f, 0, none⟩)) := h.cell 3 rfl rfl
theorem bn_p2 (h : Stage F0 W0 (binParts p f c t bm n W s K m g ++ q) w) : w.cell? ⟨p, 2, none⟩ = some (.map (some bm)) := h.cell 3 rfl rfl
theorem bn_look (h : Stage F0 W0 (binParts p f c t bm n W s K m g ++ q) w) (y : Int) (hy : inInt y) : (Instr.lookup 179 (.map (some bm)) (.int .i64 y) false).run Tryz.prog w = .ok ((m y).getD (.slice none 0 0)) w :=
  h.lookV 4 rfl Tryz.underlying179 Tryz.underlying3 (zero_ints w) y hy
/-- A heap's row in hand. -/
theorem btake (h : Stage F0 W0 (binParts p f c t bm n W s K (rowsM R vs) (rowsF R vs)) w) (k : Nat) :
    ∃ a cv, (rowsM R vs k).getD (.slice none 0 0) = .slice a (R k).length cv ∧ (R k ≠ [] → .slice a (R k).length cv = vs k) ∧ Stage F0 W0 (binParts p f c t bm n W s K (rowsM R vs) (updO (rowsF R vs) k Ob.none) ++ [Ob.ints (.slice a (R k).length cv) (R k)]) w := by
  by_cases e : R k = []
  · have e1 : rowsM R vs k = none := by simp [rowsM, e]
    refine ⟨none, 0, by rw [e1, e]; rfl, fun h => absurd e h, ?_⟩
    rw [rows_none vs e, e]
    exact h.nilRow 0 3 1
  · have e1 : rowsM R vs k = some (vs k) := by simp [rowsM, e]
    have h1 := h.pull 5 rfl k
    have e2 : rowsF R vs k = Ob.ints (vs k) (R k) := by simp [rowsF, rowG, e]
    rw [e2] at h1
    obtain ⟨a, cv, ev, _, _⟩ := h1.intsForm 6 rfl
    refine ⟨a, cv, by rw [e1, ← ev]; rfl, fun _ => ev.symm, ?_⟩
    rw [← ev]
    exact h1
/-- .. laid back. -/
theorem bback {L : List Ob} (i : Nat) (hi : L[i]? = some (Ob.fam (updO (rowsF R vs) k Ob.none))) (hv : R k ≠ [] → v = vs k) (h : Stage F0 W0 (L ++ [Ob.ints v (R k)]) w) : Stage F0 W0 (L.set i (Ob.fam (rowsF R vs))) w := by
  by_cases e : R k = []
  · rw [rows_none vs e] at hi
    have h1 := h.take L.length
    rw [List.take_left] at h1
    have h2 : L.set i (Ob.fam (rowsF R vs)) = L := by
      obtain ⟨hl, h3⟩ := List.getElem?_eq_some_iff.1 hi
      rw [← h3, List.set_getElem_self]
    rw [h2]
    exact h1
  · have h1 := h.push i hi k (upd_same _ _ _)
    have e2 : updO (updO (rowsF R vs) k Ob.none) k (Ob.ints v (R k)) = rowsF R vs := by
      rw [upd_upd, hv e]
      funext j
      unfold updO
      split
      · rename_i e3; subst e3; simp [rowsF, rowG, e]
      · rfl
    rw [e2] at h1
    exact h1
set_option maxRecDepth 100000 in
/-- 'keep'. -/
theorem keepB_st (hs : Stage F0 W0 (binParts p f c t bm n W s K m g ++ [Ob.ints v r]) w) (hk : k < 65537) (hg : g k = Ob.none) :
    Calls Tryz.prog 182 #[.pointer (some ⟨p, 0, none⟩), .int .i64 k, v] w fun e w' => e = .returned (.tuple #[]) ∧ Stage F0 W0 (binParts p f c t bm n W s K (setV m k (if r = [] then none else some v)) (updO g k (rowG v r))) w' := by
  have p2 := bn_p2 hs
  obtain ⟨a, cv, rfl, hc1, hc2⟩ := hs.intsForm 6 rfl
  by_cases hn : r = []
  · subst hn
    rw [if_pos rfl]
    have eG : updO g k (rowG (.slice a (List.length ([] : List Int)) cv) []) = g := by
      funext i; unfold updO rowG; split
      · rename_i e; subst e; simp [hg]
      · rfl
    rw [eG]
    show Calls _ _ #[_, _, .slice a 0 cv] _ _
    go_enter Tryz.func182, Tryz.ntmps182
    go_wp2_with (at_delete; refine hs.wp_deleteV 4 rfl rfl _ _ rfl Tryz.underlying179 Tryz.underlying3 rfl k rfl (by omega) ?_)
    intro w2 hs2
    have hs3 : Stage F0 W0 (binParts p f c t bm n W s K (setV m k none) g) w2 := hs2.take 6
    go_wp2_with fail
    exact bodyPost_ret (results_none rfl _ _ _) rfl ⟨rfl, hs3⟩
  · have hl0 : ((r.length : Int) == 0) = false := by
      have := List.length_pos_iff.2 hn
      simp; omega
    rw [if_neg hn]
    have hG : rowG (.slice a r.length cv) r = Ob.ints (.slice a r.length cv) r := by unfold rowG; rw [if_neg hn]
    rw [hG]
    generalize hm : r.length = mm at *
    replace hm := Lib.hid hm
    go_enter Tryz.func182, Tryz.ntmps182
    go_wp2_with (at_mapUpdate; refine hs.wp_putV 4 rfl rfl _ _ _ rfl Tryz.underlying179 Tryz.underlying3 (by unfold maxLen; omega) rfl k _ rfl rfl hk ?_)
    intro w2 hs2
    have hs3 : Stage F0 W0 (binParts p f c t bm n W s K (setV m k (some (.slice a mm cv))) (updO g k (Ob.ints (.slice a mm cv) r))) w2 := hs2.push (l := [_, _, _, _, _, _]) 5 rfl k hg
    go_wp2_with fail
    go_end0
    exact ⟨rfl, hs3⟩
theorem binom_close {w' : World} (hs : Stage F w (binParts p f c t bm n W s K (rowsM R vs) (rowsF R vs)) w') (hF : ∀ b, F b → b < w.heap.size) (A : BinAll W n K R) : ∃ F', (Ob.binom p c W s).holds w' F' ∧ Moved F F' w w' := by
  obtain ⟨F', h1, m⟩ := hs.close hF
  obtain ⟨G, ho⟩ := hs.get (i := 1) rfl
  exact ⟨F', ⟨f, t, bm, n, K, R, vs, A, Ob.cells.fit ho, Ob.cells.steps ho, h1⟩, m⟩
end
end Go.Proofs.YtkcicnflcilekaaGreat

namespace Go.Proofs.YtkcicnflcilekaaGreat
open Go.RowKit Go.Sort

theorem below_bits : ∀ m : Nat, m ≤ 9223372036854775807 → m < 2 ^ Lib.bitLen m := by
  intro m
  induction m using Nat.strongRecOn with
  | ind m ih =>
    intro hm
    by_cases h0 : m = 0
    · subst h0; exact Nat.pos_of_ne_zero (by simp)
    · have h1 := bits_half m (by omega) hm
      have h2 := ih (m / 2) (by omega) (by omega)
      rw [h1, Nat.add_comm, Nat.pow_succ]
      omega
theorem len_bits {W : WS} (hf : W.Fit) (y : Int) : lenW W y < 2 ^ Lib.bitLen (lenW W y) := below_bits _ (by have := len_le W y; have := hf.cap; omega)
section
variable {F0 F : Nat → Prop} {W0 w : World} {p f c t bm n k : Nat} {W : WS} {s : Int} {K : Int → List Int} {R : Nat → List Int} {vs : Nat → Value} {m : Int → Option Value} {g : Nat → Ob} {q : List Ob} {v : Value} {r l : List Int} {a : Option Addr} {ca : Nat}
theorem Stage.bfirst (hl : l ≠ []) (hin : ∀ y ∈ l, inW W y = true) (hs : Stage F0 W0 ((binF f c t n W s K ++ [Ob.ints (.slice a l.length ca) l]) ++ q) w) :
    Calls Tryz.prog 185 #[.pointer (some ⟨f, 0, none⟩), .slice a l.length ca] w fun e w' => ∃ x s', e = .returned (.tuple #[.int .i64 x, .bool true]) ∧ BestOf W l x ∧ (s ≤ s' ∧ s' ≤ s + (l.length : Int) - 1) ∧ Stage F0 W0 ((binF f c t n W s' K ++ [Ob.ints (.slice a l.length ca) l]) ++ q) w' :=
  (hs.frameEx (α := Int × Int) (Post := fun x e => e = .returned (.tuple #[.int .i64 x.1, .bool true]) ∧ BestOf W l x.1 ∧ (s ≤ x.2 ∧ x.2 ≤ s + (l.length : Int) - 1)) (l' := fun x => binF f c t n W x.2 K ++ [Ob.ints (.slice a l.length ca) l])
    fun _ _ h => (first_one hl hin h).mono fun _ _ ⟨x, s', he, h1, h2, h3⟩ => ⟨(x, s'), ⟨he, h1, h2⟩, h3⟩).mono
  fun _ _ ⟨x, ⟨he, h1, h2⟩, h3⟩ => ⟨x.1, x.2, he, h1, h2, h3⟩
/-- A heap's row; none, where there can't be such a heap. -/
def rowAt (R : Nat → List Int) (y : Int) : List Int := if 0 ≤ y then R y.toNat else []
theorem row_empty (A : BinAll W n K R) (y : Int) : rowAt R y = [] ↔ lenW W y = 0 := by
  unfold rowAt
  by_cases hp : 1 ≤ y
  · obtain ⟨k, rfl⟩ : ∃ k : Nat, y = k := ⟨y.toNat, by omega⟩
    rw [if_pos (by omega), Int.toNat_natCast]
    exact A.home.empty A.inv (by omega)
  · have hz : lenW W y = 0 := by simp [lenW, show ¬ 0 < y by omega]
    refine ⟨fun _ => hz, fun _ => ?_⟩
    by_cases h0 : y = 0
    · subst h0; exact A.home.zero A.inv
    · rw [if_neg (by omega)]
/-- Where nothing is in a heap. -/
theorem look_empty {y : Int} (e : rowAt R y = []) : (rowsM R vs y).getD (.slice none 0 0) = .slice none 0 0 := by
  unfold rowAt at e
  unfold rowsM
  by_cases h0 : 0 ≤ y
  · rw [if_pos h0] at e
    rw [if_neg (fun h => h.2 e)]; rfl
  · rw [if_neg (fun h => h0 h.1)]; rfl
set_option maxRecDepth 100000 in
set_option maxHeartbeats 1000000 in
theorem min_st (y : Int) (hy : inInt y) (A : BinAll W n K R) (hf : W.Fit) (hs : Stage F0 W0 (binParts p f c t bm n W s K (rowsM R vs) (rowsF R vs)) w) : Calls Tryz.prog 179 #[.pointer (some ⟨p, 0, none⟩), .int .i64 y] w fun e w' => e = .returned (.tuple #[.int .i64 (minI W y), .bool (minB W y)]) ∧ ∃ s', (s ≤ s' ∧ s' ≤ s + (Lib.bitLen (lenW W y) : Nat)) ∧ Stage F0 W0 (binParts p f c t bm n W s' K (rowsM R vs) (rowsF R vs)) w' := by
  have p1 := bn_p1 (q := []) hs
  have p2 := bn_p2 (q := []) hs
  have hlk := bn_look (q := []) hs.drew y hy
  by_cases e : rowAt R y = []
  · obtain ⟨q1, q2⟩ := minI_none (min_none_iff.2 ((row_empty A y).1 e))
    rw [q1, q2]
    rw [look_empty e] at hlk
    have hN := first_none (w := w.drew) (a := none) (f := f) 0
    have hfin : ∃ s', (s ≤ s' ∧ s' ≤ s + (Lib.bitLen (lenW W y) : Nat)) ∧ Stage F0 W0 (binParts p f c t bm n W s' K (rowsM R vs) (rowsF R vs)) w.drew := ⟨s, ⟨Int.le_refl _, by omega⟩, hs.drew⟩
    clear hs q1 q2 A
    go_enter Tryz.func179, Tryz.ntmps179
    go_wp2_with fail
    go_region_held3 (fun w' => w'.cell? ⟨p, 1, none⟩ = some (.pointer (some ⟨f, 0, none⟩)) ∧ w'.cell? ⟨p, 2, none⟩ = some (.map (some bm))) (first | exact ⟨p1, p2⟩ | simp [*])
      (((with_reducible refine hN.mono ?_); rintro e w2 ⟨rfl, rfl⟩))
    go_wp2_with fail
    exact bodyPost_ret (v := .tuple #[.int .i64 0, .bool false]) (by simp [results, Tryz.results179, go_sem]) rfl ⟨rfl, hfin⟩
  · obtain ⟨k, rfl⟩ : ∃ k : Nat, y = k := ⟨y.toNat, by
      by_cases h0 : 0 ≤ y
      · omega
      · exact absurd (if_neg h0) e⟩
    have hR : R k ≠ [] := e
    obtain ⟨hk1, _⟩ := A.home.keyLt A.inv hf hR
    obtain ⟨a, cv, ha1, ha2, hs1⟩ := btake hs k
    rw [ha1] at hlk
    have hfst := Stage.bfirst (q := [Ob.box p #[ptrV c, ptrV f, .map (some bm)] 181, Ob.vmap Tryz.prog 3 bm (rowsM R vs) 65537, Ob.fam (updO (rowsF R vs) k Ob.none)]) hR (fun y hy => (A.home.rootIn A.inv hy).2.2.1) (hs1.drew.select [0, 1, 2, 6, 3, 4, 5] (by decide) rfl)
    have hrow := (A.home.rows A.inv hk1 (A.rows k) (len_bits hf k)).1
    have hfin : ∀ w2 x s', BestOf W (R k) x → s ≤ s' ∧ s' ≤ s + ((R k).length : Int) - 1 → Stage F0 W0 ((binF f c t n W s' K ++ [Ob.ints (.slice a (R k).length cv) (R k)]) ++ [Ob.box p #[ptrV c, ptrV f, .map (some bm)] 181, Ob.vmap Tryz.prog 3 bm (rowsM R vs) 65537, Ob.fam (updO (rowsF R vs) k Ob.none)]) w2 →
        minI W k = x ∧ minB W k = true ∧ ∃ s', (s ≤ s' ∧ s' ≤ s + (Lib.bitLen (lenW W k) : Nat)) ∧ Stage F0 W0 (binParts p f c t bm n W s' K (rowsM R vs) (rowsF R vs)) w2 := fun w2 x s' hb hr h2 => by
      obtain ⟨m, hm1, hm2⟩ := A.home.min A.inv A.ord hb.1 hb.2
      obtain ⟨q1, q2⟩ := minI_some (min_of hm2)
      have h3 : Stage F0 W0 (binParts p f c t bm n W s' K (rowsM R vs) (updO (rowsF R vs) k Ob.none) ++ [Ob.ints (.slice a (R k).length cv) (R k)]) w2 := h2.select [0, 1, 2, 4, 5, 6, 3] (by decide) rfl
      exact ⟨by rw [q1, hm1], q2, s', ⟨hr.1, by omega⟩, bback 5 rfl ha2 h3⟩
    clear hs hs1 ha1 ha2 hrow A e
    generalize minI W k = mi at *
    generalize minB W k = mb at *
    generalize hln : (R k).length = ln at *
    replace hln := Lib.hid hln
    go_enter Tryz.func179, Tryz.ntmps179
    go_wp2_with fail
    go_region_held3 (fun w' => w'.cell? ⟨p, 1, none⟩ = some (.pointer (some ⟨f, 0, none⟩)) ∧ w'.cell? ⟨p, 2, none⟩ = some (.map (some bm))) (first | exact ⟨p1, p2⟩ | exact ⟨p1p, p2p⟩ | simp [*])
      (((with_reducible refine hfst.mono ?_); rintro e w2 ⟨x, s', rfl, hb, hr, h2⟩; have p1p : w2.cell? ⟨p, 1, none⟩ = some (.pointer (some ⟨f, 0, none⟩)) := h2.cell 4 rfl rfl; have p2p : w2.cell? ⟨p, 2, none⟩ = some (.map (some bm)) := h2.cell 4 rfl rfl))
    obtain ⟨rfl, rfl, h3⟩ := hfin w2 x s' hb hr h2
    go_wp2_with fail
    exact bodyPost_ret (v := .tuple #[.int .i64 mi, .bool true]) (by simp [results, Tryz.results179, go_sem]) rfl ⟨rfl, h3⟩
end
end Go.Proofs.YtkcicnflcilekaaGreat

namespace Go.Proofs.YtkcicnflcilekaaGreat
open Go.RowKit Go.Sort

section
variable {F0 F : Nat → Prop} {W0 w : World} {p f c t bm n k : Nat} {W : WS} {s : Int} {K : Int → List Int} {R : Nat → List Int} {vs : Nat → Value} {m : Int → Option Value} {g : Nat → Ob} {q : List Ob} {v : Value} {r l : List Int} {a : Option Addr} {ca : Nat}
end
section
variable {w : World} {p c : Nat} {W : WS} {s : Int} {F : Nat → Prop}
theorem len_put_one {W : WS} {i : Nat} {x k q : Int} (hB : putB W i x = true) (hi : 1 ≤ i) (e : lenW W i = 1) : lenW (putW W i x k q) i = 2 := by
  have hB2 := hB
  simp only [putB, Bool.and_eq_true, Bool.not_eq_true'] at hB
  obtain ⟨j, rfl, hj⟩ := slot_nat hB.2.1
  have h0 : (W.cells.getD j .off).home = 0 := by
    have h3 := hB.2.2
    unfold inW at h3
    rw [cell_nat W j hj] at h3
    simpa using h3
  have h1 := len_put (k := k) (s := q) hi hj h0 (i : Int)
  rw [if_pos rfl, e] at h1
  have e1 : putW W i j k q = ⟨W.heaps, W.cells.set j ⟨i, k, q⟩⟩ := by simp [putW, hB2]
  rw [e1]
  omega
theorem row_one {n : Nat} {K : Int → List Int} {R : Nat → List Int} {i : Nat} (A : BinAll W n K R) (hi : 1 ≤ i) (e : lenW W i = 1) : (R i).length = 1 := by
  have h := (A.home.rows A.inv hi (A.rows i) (k := 1) (by rw [e]; decide)).2.2
  have h2 := congrArg List.length h
  rw [List.length_map, e] at h2
  rw [h2]; decide
theorem row_two {n : Nat} {K : Int → List Int} {R : Nat → List Int} {i : Nat} (A : BinAll W n K R) (hi : 1 ≤ i) (e : lenW W i = 2) : (R i).length = 1 := by
  have h := (A.home.rows A.inv hi (A.rows i) (k := 2) (by rw [e]; decide)).2.2
  have h2 := congrArg List.length h
  rw [List.length_map, e] at h2
  rw [h2]; decide
set_option maxRecDepth 100000 in
set_option maxHeartbeats 2000000 in
theorem insert_bn (y x k q : Int) (h : (Ob.binom p c W s).holds w F) : Calls Tryz.prog 177 #[.pointer (some ⟨p, 0, none⟩), .int .i64 y, .int .i64 x, .agg #[.int .i64 k, .int .u64 q]] w fun e w' => e = .returned (.bool (putB W y x)) ∧ ∃ s', (s ≤ s' ∧ s' ≤ s + (Lib.bitLen (lenW W y) : Nat) + 1 ∧ (putB W y x = true → lenW W y = 1 → 0 < s')) ∧ ∃ F', (Ob.binom p c (putW W y x k q) s').holds w' F' ∧ Moved F F' w w' := by
  have hF := (Ob.binom p c W s).lt h
  obtain ⟨f, t, bm, n, K, R, vs, A, hf, _, hg⟩ := h
  have hs := Ob.group.open hg
  clear hg
  obtain ⟨w0, hw0, hs0⟩ : ∃ w0, w.alloc (.cells #[.int .i64 k, .int .u64 q] 94) = w0 ∧ Stage F w (binParts p f c t bm n W s K (rowsM R vs) (rowsF R vs) ++ [Ob.box w.heap.size #[.int .i64 k, .int .u64 q] 94]) w0 := ⟨_, rfl, hs.alloc _ _⟩
  have hC := hs0.drew.call 1 rfl (fun _ ho => put_cl y x k q ho)
  have b0 := hs0.cell 6 rfl (o := 0) rfl
  have b1 := hs0.cell 6 rfl (o := 1) rfl
  have p0 := bn_p0 hs0
  cases hB : putB W y x
  · have eW : putW W y x k q = W := by simp [putW, hB]
    rw [hB, eW] at hC
    rw [eW]
    clear hs eW
    go_enter Tryz.func177, Tryz.ntmps177
    go_wp2_with fail
    go_still_tail 7, (by kernel_rfl)
    change wpList _ _ _ _ _ w0.drew
    go_wp2_with fail
    refine hC.mono ?_
    rintro e w1 ⟨rfl, hs1⟩
    have hs2 : Stage F w (binParts p f c t bm n W s K (rowsM R vs) (rowsF R vs)) w1 := hs1.take 6
    go_wp2_with fail
    go_ret
    exact ⟨rfl, s, ⟨Int.le_refl _, by omega, fun e => by cases e⟩, binom_close hs2 hF A⟩
  · obtain ⟨i, rfl, hi1, hi2⟩ : ∃ i : Nat, y = i ∧ 1 ≤ i ∧ i < 65537 := by
      have hB2 := hB
      simp only [putB, Bool.and_eq_true] at hB2
      obtain ⟨i, rfl, h1, h2, _⟩ := has_nat hB2.1
      have := hf.len
      exact ⟨i, rfl, h1, by omega⟩
    have hrow := (A.home.rows A.inv hi1 (A.rows i) (len_bits hf i))
    obtain ⟨W1, hW1⟩ : ∃ W1, putW W i x k q = W1 := ⟨_, rfl⟩
    have hlen2 : lenW W i = 1 → lenW W1 i = 2 := fun e => by
      rw [← hW1]; exact len_put_one hB hi1 e
    obtain ⟨hx1, hx2, hx3, hx4⟩ := A.put (s := k) (q := q) hB hi1 hW1
    have hRk := A.rows i
    rw [hB, hW1] at hC
    rw [hW1]
    clear hs hW1
    go_enter Tryz.func177, Tryz.ntmps177
    go_wp2_with fail
    go_still_tail 7, (by kernel_rfl)
    change wpList _ _ _ _ _ w0.drew
    go_wp2_with fail
    refine hC.mono ?_
    rintro e w1 ⟨rfl, hs1⟩
    have hs2 : Stage F w (binParts p f c t bm n W1 s K (rowsM R vs) (rowsF R vs)) w1 := hs1.take 6
    clear hs1 hC b0 b1 p0 hw0 hs0
    have p1 := bn_p1 (q := []) hs2
    have p2 := bn_p2 (q := []) hs2
    have hlk := bn_look (q := []) hs2.drew (i : Int) ⟨by omega, by omega⟩
    obtain ⟨a, cv, ha1, ha2, hs3⟩ := btake hs2 i
    rw [ha1] at hlk
    have hs4 := (hs3.newRow 3 1 1 #[.int .i64 x] rfl (by decide)).drew
    have p1b := bn_p1 hs4
    have p2b := bn_p2 hs4
    have hlkb := bn_look hs4 (i : Int) ⟨by omega, by omega⟩
    rw [ha1] at hlkb
    have hM : Calls Tryz.prog 184 #[.pointer (some ⟨f, 0, none⟩), .slice a (R i).length cv, .slice (some ⟨w1.heap.size, 0, none⟩) 1 1] (w1.alloc (.cells #[.int .i64 x] 3)).drew _ := Stage.bmerge (q := [Ob.box p #[ptrV c, ptrV f, .map (some bm)] 181, Ob.vmap Tryz.prog 3 bm (rowsM R vs) 65537, Ob.fam (updO (rowsF R vs) i Ob.none)]) (lb := [x]) (hs4.select [0, 1, 2, 6, 7, 3, 4, 5] (by decide) rfl) hRk hx1 hx2 hx3
    have hK := fun (w2 : World) (s' : Int) (K' : Int → List Int) (z : Option Addr) (mz cz : Nat) (r : List Int) (h2 : Stage F w ((binF f c t n W1 s' K' ++ [Ob.ints (.slice z mz cz) r]) ++ [Ob.box p #[ptrV c, ptrV f, .map (some bm)] 181, Ob.vmap Tryz.prog 3 bm (rowsM R vs) 65537, Ob.fam (updO (rowsF R vs) i Ob.none)]) w2) => keepB_st (h2.select [0, 1, 2, 4, 5, 6, 3] (by decide) rfl) hi2 (upd_same _ _ _)
    have hA1 := fun {k' K' r' r} (h1 : Links n (fun x y => aheadW W1 x y = true) K (R i ++ [x]) k' K' r') h2 h3 => hx4 (k := k') (K' := K') (r' := r') (r := r) h1 h2 h3
    have hpos : ∀ {K' : Int → List Int} {r : List Int}, BinAll W1 n K' (updI R i r) → lenW W i = 1 → (R i).length = 1 ∧ r.length = 1 := fun A' e => by
      refine ⟨row_one A hi1 e, ?_⟩
      have := row_two A' hi1 (hlen2 e)
      rwa [updI_at] at this
    have hlook2 : ∀ (w2 : World) (s' : Int) (K' : Int → List Int) (v : Value) (r : List Int), Stage F w ((binF f c t n W1 s' K' ++ [Ob.ints v r]) ++ [Ob.box p #[ptrV c, ptrV f, .map (some bm)] 181, Ob.vmap Tryz.prog 3 bm (rowsM R vs) 65537, Ob.fam (updO (rowsF R vs) i Ob.none)]) w2 →
        w2.cell? ⟨p, 1, none⟩ = some (.pointer (some ⟨f, 0, none⟩)) ∧ w2.cell? ⟨p, 2, none⟩ = some (.map (some bm)) := fun w2 s' K' v r h => ⟨h.cell 4 rfl rfl, h.cell 4 rfl rfl⟩
    have hlook3 : ∀ (w3 : World) (s' : Int) (K' : Int → List Int) (m : Int → Option Value) (g : Nat → Ob), Stage F w (binParts p f c t bm n W1 s' K' m g) w3 → w3.cell? ⟨p, 1, none⟩ = some (.pointer (some ⟨f, 0, none⟩)) ∧ w3.cell? ⟨p, 2, none⟩ = some (.map (some bm)) := fun w3 s' K' m g h => ⟨bn_p1 (q := []) h, bn_p2 (q := []) h⟩
    clear hs2 hs3 hs4 ha1 ha2 hx1 hx2 hx3 hx4 hRk hlen2 A
    generalize (R i).length = ln at *
    go_wp2_with fail
    go_region_held3 (fun w' => w'.cell? ⟨p, 1, none⟩ = some (.pointer (some ⟨f, 0, none⟩)) ∧ w'.cell? ⟨p, 2, none⟩ = some (.map (some bm))) (first | exact ⟨p1, p2⟩ | exact ⟨p1b, p2b⟩ | exact pk | exact pk3 | simp [*])
      (first
      | (((with_reducible refine hM.mono ?_); rintro e w2 ⟨z, mz, cz, K', s', r, rfl, ⟨k', ⟨r', hl1, hl2⟩, hr3, hs1, hs2, hps⟩, h7⟩; have hKK := hK w2 s' K' z mz cz r h7; have pk := hlook2 w2 s' K' _ r h7))
      | (((with_reducible refine hKK.mono ?_); rintro e w3 ⟨rfl, h8⟩; have pk3 := hlook3 w3 _ _ _ _ h8)))
    all_goals
      obtain ⟨hA2, hk2⟩ := hA1 hl1 hl2 hr3
      rw [rows_map, rows_fam] at h8
      have hst : s ≤ s' ∧ s' ≤ s + (Lib.bitLen (lenW W i) : Nat) + 1 ∧ (lenW W i = 1 → 0 < s') := by
        refine ⟨hs1, by omega, fun e => ?_⟩
        obtain ⟨e1, e2⟩ := hpos hA2 e
        exact hps (by omega)
      clear hl1 hl2 hr3 hps hs1 hs2 hM hK hKK hpos hA1 hk2 h7
      go_wp2_with fail
      go_ret
      exact ⟨rfl, s', ⟨hst.1, hst.2.1, fun _ => hst.2.2⟩, binom_close h8 hF hA2⟩
end
end Go.Proofs.YtkcicnflcilekaaGreat

namespace Go.Proofs.YtkcicnflcilekaaGreat
open Go.RowKit Go.Sort

section
variable {F0 F : Nat → Prop} {W0 w : World} {p f c t bm n k : Nat} {W : WS} {s : Int} {K : Int → List Int} {R : Nat → List Int} {vs : Nat → Value} {q : List Ob} {l A0 : List Int} {h gb cv m : Nat} {x : Int}
end
section
variable {w : World} {p c : Nat} {W : WS} {s : Int} {F : Nat → Prop}
theorem min_bn (y : Int) (hy : inInt y) (h : (Ob.binom p c W s).holds w F) : Calls Tryz.prog 179 #[.pointer (some ⟨p, 0, none⟩), .int .i64 y] w fun e w' => e = .returned (.tuple #[.int .i64 (minI W y), .bool (minB W y)]) ∧ ∃ s', (s ≤ s' ∧ s' ≤ s + (Lib.bitLen (lenW W y) : Nat)) ∧ ∃ F', (Ob.binom p c W s').holds w' F' ∧ Moved F F' w w' := by
  have hF := (Ob.binom p c W s).lt h
  obtain ⟨f, t, bm, n, K, R, vs, A, hf, _, hg⟩ := h
  exact (min_st y hy A hf (Ob.group.open hg)).mono fun e w' ⟨he, s', h1, h2⟩ => ⟨he, s', h1, binom_close h2 hF A⟩
end
end Go.Proofs.YtkcicnflcilekaaGreat

namespace Go.Proofs.YtkcicnflcilekaaGreat
open Go.RowKit Go.Sort

section
variable {F0 F : Nat → Prop} {W0 w : World} {p f c t bm n k : Nat} {W : WS} {s : Int} {K : Int → List Int} {R : Nat → List Int} {vs : Nat → Value} {q : List Ob} {l A0 : List Int} {h gb cv m : Nat} {x : Int}
end
section
variable {w : World} {p c : Nat} {W : WS} {s : Int} {F : Nat → Prop}
end
def newBinPost (w : World) (n : Nat) (e : Ending) (w' : World) : Prop := ∃ p c, e = .returned (.tuple #[.pointer (some ⟨p, 0, none⟩), .int .i64 0]) ∧ ∃ F', (Ob.binom p c (newW n) 0).holds w' F' ∧ (∀ k, F' k → w.heap.size ≤ k) ∧ Below w.heap.size w w'
theorem bnewForest_st {F0 : Nat → Prop} {W0 w : World} {c n : Nat} {W : WS} {s : Int} (h : Stage F0 W0 [Ob.cells c W s] w) (hn : W.cells.length = n) (hn2 : n ≤ 65536) : Calls Tryz.prog 89 #[.pointer (some ⟨c, 0, none⟩)] w fun e w' => ∃ f t, e = .returned (.tuple #[.pointer (some ⟨f, 0, none⟩), .int .i64 0]) ∧ Stage F0 W0 (binF f c t n W s (fun _ => [])) w' := by
  have hC := h.ask 0 rfl (fun _ ho => capacity_cl ho)
  rw [hn] at hC
  have hN := h.newForest n hn2
  go_enter Tryz.func89, Tryz.ntmps89
  go_wp2_with fail
  refine hC.mono ?_
  rintro e w1 ⟨rfl, rfl⟩
  clear hC
  go_wp2_with fail
  refine hN.mono ?_
  rintro e w1 ⟨t, rfl, hs1⟩
  clear hN h
  have hs2 := hs1.alloc #[ptrV c, ptrV t] 233
  have hs3 : Stage F0 W0 (binF w1.heap.size c t n W s (fun _ => [])) _ := hs2.select [1, 0, 2] (by decide) rfl
  clear hs1 hs2
  go_wp2_with fail
  exact bodyPost_ret (v := .tuple #[.pointer (some ⟨w1.heap.size, 0, none⟩), .int .i64 0]) (by simp [results, Tryz.results89, go_sem]) rfl ⟨_, t, rfl, hs3⟩
set_option maxRecDepth 100000 in
theorem new_bn (n : Nat) (hn : n ≤ 65536) (w : World) : Calls Tryz.prog 62 #[.int .i64 n] w (newBinPost w n) := by
  have hmm := @run_makeMap Tryz.prog
  have hC := new_cl n hn w
  go_enter Tryz.func62, Tryz.ntmps62
  go_wp2_with fail
  refine hC.mono ?_
  rintro e w1 ⟨c, rfl, F1, h1, h2, h3⟩
  have hs1 : Stage (fun _ => False) w [Ob.cells c (newW n) 0] w1 := (Stage.start w).add (O := Ob.cells c (newW n) 0) h3 h1 h2
  clear hC h1 h2 h3
  have hnl : (newW n).cells.length = n := by simp [newW]
  have hN := bnewForest_st hs1 hnl hn
  go_wp2_with fail
  refine hN.mono ?_
  rintro e w2 ⟨f, t, rfl, hs2⟩
  clear hN hs1
  have hs3 := hs2.newVMap Tryz.prog 3 65537 rfl
  have hz : (w2.alloc (.map #[] 0)).heap.size = w2.heap.size + 1 := size_alloc _ _
  have hs4 := hs3.alloc #[ptrV c, ptrV f, .map (some w2.heap.size)] 181
  rw [hz] at hs4
  have e1 : rowsM (fun _ => []) (fun _ => .slice none 0 0) = fun _ => none := by funext h; simp [rowsM]
  have hfam : (Ob.fam (rowsF (fun _ => []) (fun _ => .slice none 0 0))).holds ((w2.alloc (.map #[] 0)).alloc (.cells #[ptrV c, ptrV f, .map (some w2.heap.size)] 181)) (fun _ => False) :=
    ⟨fun b h => h.elim, fun _ _ => False, fun i => by (show (rowG _ []).holds _ _); unfold rowG; rw [if_pos rfl]; exact rfl, fun _ _ _ _ h => h.elim, fun _ _ h => h.elim⟩
  have hs5 : Stage (fun _ => False) w (binParts (w2.heap.size + 1) f c t w2.heap.size n (newW n) 0 (fun _ => []) (rowsM (fun _ => []) (fun _ => .slice none 0 0)) (rowsF (fun _ => []) (fun _ => .slice none 0 0))) ((w2.alloc (.map #[] 0)).alloc (.cells #[ptrV c, ptrV f, .map (some w2.heap.size)] 181)) := by
    have h6 := hs4.add (Below.refl _ _) hfam (fun _ h => h.elim)
    rw [e1]
    exact h6.select [0, 1, 2, 4, 3, 5] (by decide) rfl
  clear hs2 hs3 hs4 hfam
  go_wp2_with fail
  obtain ⟨F', g1, g2, g3⟩ := hs5.closeNew
  exact bodyPost_ret (v := .tuple #[.pointer (some ⟨w2.heap.size + 1, 0, none⟩), .int .i64 0]) (by simp [results, Tryz.results62, go_sem]) rfl ⟨_, c, rfl, F', ⟨f, t, w2.heap.size, n, _, _, _, binAll_new n, new_fitW hn, ⟨Int.le_refl _, by omega⟩, g1⟩, g2, g3⟩
end Go.Proofs.YtkcicnflcilekaaGreat
