/- Merged of Open2, Open3, LeftistSideMath. -/
import Derived.Test.YthjelmbicnbhiaaOpen
namespace Go.Proofs.Ythjelmbicnbhiaa
open Go.RowKit Go.WideShapes Go.ChangeShapes Go.Deep

section
variable {H : Type} {enc : TypeId × Value → H} {P : Program} {w : World} {base : Nat} {spare : Nat → Bool} {held : Bool} {r : Reach} {b0 : Nat}
theorem open_fives' {t e : TypeId} {f0 f1 f2 f3 g0 g1 : Field} {k0 k1 k2 k3 k4 : IntKind} {v : Value} {d : DataW H} {p : List MemPlace} (ht : P.underlying t = some (.slice e)) (he : P.underlying e = some (.struct #[f0, f1, f2, f3])) (hc : P.cellsOf e = 5)
    (h0 : P.underlying f0.type = some (.int k0)) (p0 : f0.offset = 0 ∧ P.cellsOf f0.type = 1) (h1 : P.underlying f1.type = some (.int k1)) (p1 : f1.offset = 1 ∧ P.cellsOf f1.type = 1) (h2 : P.underlying f2.type = some (.int k2)) (p2 : f2.offset = 2 ∧ P.cellsOf f2.type = 1)
    (h3 : P.underlying f3.type = some (.struct #[g0, g1])) (p3 : f3.offset = 3 ∧ P.cellsOf f3.type = 2)
    (u0 : P.underlying g0.type = some (.int k3)) (q0 : g0.offset = 0 ∧ P.cellsOf g0.type = 1) (u1 : P.underlying g1.type = some (.int k4)) (q1 : g1.offset = 1 ∧ P.cellsOf g1.type = 1)
    (hv : Value.okWide P w r b0 t v) (h : DataW.Trod enc P w base (fun _ => true) held t v d p) :
    ∃ (a : Option Addr) (cap n : Nat), v = .slice a n cap ∧ n ≤ cap ∧ cap ≤ 9223372036854775807 ∧ ∀ k, k < n → ∃ b off x y z i j, a = some ⟨b, off, none⟩ ∧ w.cell? ⟨b, off + k * 5, none⟩ = some (.int k0 x) ∧ w.cell? ⟨b, off + k * 5 + 1, none⟩ = some (.int k1 y) ∧ w.cell? ⟨b, off + k * 5 + 2, none⟩ = some (.int k2 z) ∧
      w.cell? ⟨b, off + k * 5 + 3, none⟩ = some (.int k3 i) ∧ w.cell? ⟨b, off + k * 5 + 4, none⟩ = some (.int k4 j) ∧ (k0.min ≤ x ∧ x ≤ k0.max) ∧ (k1.min ≤ y ∧ y ≤ k1.max) ∧ (k2.min ≤ z ∧ z ≤ k2.max) ∧ (k3.min ≤ i ∧ i ≤ k3.max) ∧ (k4.min ≤ j ∧ j ≤ k4.max) := by
  obtain ⟨a0, n0, c0, rfl⟩ := okWide_slice ht hv
  obtain ⟨fuel, hf⟩ := h
  rcases open_slice ht hf with ⟨hcs, _⟩ | ⟨a, len, cap, m, n, D, Pl, hcs, _, hl, hm, hmm, _, hi⟩
  · simp [Value.cells] at hcs
    obtain ⟨rfl, rfl, rfl⟩ := hcs
    exact ⟨none, 0, 0, rfl, Nat.le_refl _, by omega, fun i hi => by omega⟩
  · simp [Value.cells] at hcs
    obtain ⟨rfl, rfl, rfl⟩ := hcs
    simp only [if_true] at hmm
    subst hmm
    refine ⟨some a, m, n0, rfl, hl, by unfold maxLen at hm; omega, fun k hk => ?_⟩
    obtain ⟨cs', hcc, ht'⟩ := hi k (by omega)
    rw [hc] at hcc
    obtain ⟨_, hlen, hat⟩ := World.cells?_some hcc
    obtain ⟨ys, n', _, _, _, hyl, hff⟩ := DataW.trod_struct he ht'
    match cs', hlen with
    | [v0, v1, v2, v3, v4], _ =>
      have e0 := hff 0 f0 rfl
      have e1 := hff 1 f1 rfl
      have e2 := hff 2 f2 rfl
      have e3 := hff 3 f3 rfl
      rw [p0.1, p0.2] at e0
      rw [p1.1, p1.2] at e1
      rw [p2.1, p2.2] at e2
      rw [p3.1, p3.2] at e3
      match ys, hyl with
      | [y0, y1, y2, y3], _ =>
        simp only [List.drop_zero, List.take_succ_cons, List.take_zero, List.drop_succ_cons, List.getElem?_cons_zero, List.getElem?_cons_succ] at e0 e1 e2 e3
        obtain ⟨x, ex, _, wx⟩ := DataW.trod_int h0 e0
        obtain ⟨y, ey, _, wy⟩ := DataW.trod_int h1 e1
        obtain ⟨z, ez, _, wz⟩ := DataW.trod_int h2 e2
        obtain ⟨zs, n'', _, _, _, hzl, hgg⟩ := DataW.trod_struct h3 e3
        have z0 := hgg 0 g0 rfl
        have z1 := hgg 1 g1 rfl
        rw [q0.1, q0.2] at z0
        rw [q1.1, q1.2] at z1
        match zs, hzl with
        | [c0', c1'], _ =>
          simp only [List.drop_zero, List.take_succ_cons, List.take_zero, List.drop_succ_cons, List.getElem?_cons_zero, List.getElem?_cons_succ] at z0 z1
          obtain ⟨i, ei, _, wi⟩ := DataW.trod_int u0 z0
          obtain ⟨j, ej, _, wj⟩ := DataW.trod_int u1 z1
          simp only [List.cons.injEq, and_true] at ex ey ez ei ej
          subst ex ey ez ei ej
          simp [Lit.wf] at wx wy wz wi wj
          have a0 := hat 0 (by omega)
          have a1 := hat 1 (by omega)
          have a2 := hat 2 (by omega)
          have a3 := hat 3 (by omega)
          have a4 := hat 4 (by omega)
          obtain ⟨b, off, spot⟩ := a
          have hspot : spot = none := by
            obtain ⟨cs0, hc0, _⟩ := hi 0 (by omega)
            rw [hc] at hc0
            obtain ⟨_, hl0, hat0⟩ := World.cells?_some hc0
            match cs0, hl0 with
            | [w0, _, _, _, _], _ =>
              have h9 : w.cell? (((⟨b, off, spot⟩ : Addr).add (0 * 5)).add 0) = some w0 := hat0 0 (by omega)
              have := World.cell?_spot h9
              simpa [Addr.add] using this
          subst hspot
          rw [add_plain, add_plain] at a0 a1 a2 a3 a4
          exact ⟨b, off, x, y, z, i, j, rfl, a0, a1, a2, a3, a4, wx, wy, wz, wi, wj⟩
end
end Go.Proofs.Ythjelmbicnbhiaa

namespace Go.Proofs.Ythjelmbicnbhiaa
open Go.RowKit Go.WideShapes Go.ChangeShapes Go.Deep

section
variable {H : Type} {enc : TypeId × Value → H} {P : Program} {w : World} {base : Nat} {held : Bool} {r : Reach} {b0 : Nat}
theorem open_bag' {t e : TypeId} {f0 f1 f2 : Field} {k1 k2 : IntKind} {v : Value} {d : DataW H} {p : List MemPlace} (hs : P.underlying t = some (.struct #[f0, f1, f2]))
    (h0 : P.underlying f0.type = some (.slice e)) (p0 : f0.offset = 0 ∧ P.cellsOf f0.type = 1) (he : P.underlying e = some .bool) (hc : P.cellsOf e = 1)
    (h1 : P.underlying f1.type = some (.int k1)) (p1 : f1.offset = 1 ∧ P.cellsOf f1.type = 1) (h2 : P.underlying f2.type = some (.int k2)) (p2 : f2.offset = 2 ∧ P.cellsOf f2.type = 1) (hC : P.cellsOf t = 3)
    (hv : Value.okWide P w r b0 t v) (h : DataW.Trod enc P w base (fun _ => true) held t v d p) :
    ∃ (a : Option Addr) (cap : Nat) (l : List Bool) (m n : Int), v = .agg #[.slice a l.length cap, .int k1 m, .int k2 n] ∧ l.length ≤ cap ∧ cap ≤ 9223372036854775807 ∧ (k1.min ≤ m ∧ m ≤ k1.max) ∧ (k2.min ≤ n ∧ n ≤ k2.max) ∧
      ∀ k, k < l.length → ∃ b off, a = some ⟨b, off, none⟩ ∧ w.cell? ⟨b, off + k, none⟩ = some (.bool (l.getD k false)) := by
  obtain ⟨cs, rfl, hsz⟩ := okWide_struct hs hv
  rw [hC] at hsz
  obtain ⟨fuel, hf⟩ := h
  rcases cs with ⟨l⟩
  match l, hsz with
  | [v0, v1, v2], _ =>
    obtain ⟨ys, n', _, _, _, hyl, hff⟩ := DataW.trod_struct hs hf
    have e0 := hff 0 f0 rfl
    have e1 := hff 1 f1 rfl
    have e2 := hff 2 f2 rfl
    rw [p0.1, p0.2] at e0
    rw [p1.1, p1.2] at e1
    rw [p2.1, p2.2] at e2
    match ys, hyl with
    | [y0, y1, y2], _ =>
      simp only [Value.cells, List.drop_zero, List.take_succ_cons, List.take_zero, List.drop_succ_cons, List.getElem?_cons_zero, List.getElem?_cons_succ] at e0 e1 e2
      obtain ⟨m, em, _, wm⟩ := DataW.trod_int h1 e1
      obtain ⟨n, en, _, wn⟩ := DataW.trod_int h2 e2
      simp only [List.cons.injEq, and_true] at em en
      subst em en
      simp [Lit.wf] at wm wn
      rcases open_bools h0 he hc e0 with ⟨hcs, _⟩ | ⟨a, len, cap, B, hcs, _, hl, hm, _, hcell⟩
      · simp only [List.cons.injEq, and_true] at hcs
        subst hcs
        exact ⟨none, 0, [], m, n, rfl, Nat.le_refl _, by omega, wm, wn, fun i hi => by simp at hi⟩
      · simp only [List.cons.injEq, and_true] at hcs
        subst hcs
        have hlen : ((List.range len).map B).length = len := by simp
        refine ⟨some a, cap, (List.range len).map B, m, n, by rw [hlen], by rw [hlen]; exact hl, by unfold maxLen at hm; omega, wm, wn, fun i hi => ?_⟩
        rw [hlen] at hi
        have h := hcell i (by omega)
        obtain ⟨b, off, spot⟩ := a
        have hspot : spot = none := by simpa [Addr.add] using World.cell?_spot (hcell 0 (by omega))
        subst hspot
        refine ⟨b, off, rfl, ?_⟩
        rw [add_plain] at h
        rw [h]
        simp [List.getD, hi]
end
end Go.Proofs.Ythjelmbicnbhiaa

namespace Go.Proofs.Ythjelmbicnbhiaa
open Go.RowKit Go.Sort

/-- The way to the right, of whatever heap. -/
def sideY (Ts : Nat → Tr) (y : Int) : List Int := if 0 ≤ y then (Ts y.toNat).side else []
theorem ranked_pos {r : Int → Int} : ∀ {t : Tr}, Tr.Ranked r t → ∀ x ∈ t.slots, 1 ≤ r x
  | .nil, _, x, h => by simp [Tr.slots] at h
  | .node y a b, hr, x, h => by
    simp only [Tr.slots, List.mem_cons, List.mem_append] at h
    rcases h with h | h | h
    · subst h; have := hr.1; omega
    · exact ranked_pos hr.2.1 x h
    · exact ranked_pos hr.2.2 x h
/-- A slot's rank in a tree, as its way to the right tells it. -/
def rankT : Tr → Int → Int
  | .nil, _ => 0
  | .node y a b, x => if x = y then Tr.spine b + 1 else if rankT a x ≠ 0 then rankT a x else rankT b x
theorem rankT_eq {r : Int → Int} : ∀ {t : Tr}, Tr.Ranked r t → ∀ x, (x ∈ t.slots → rankT t x = r x) ∧ (x ∉ t.slots → rankT t x = 0)
  | .nil, _, x => ⟨fun h => by simp [Tr.slots] at h, fun _ => rfl⟩
  | .node y a b, hr, x => by
    have h1 := rankT_eq hr.2.1 x
    have h2 := rankT_eq hr.2.2 x
    have hp := ranked_pos hr.2.1 x
    simp only [Tr.slots, List.mem_cons, List.mem_append, rankT]
    by_cases e : x = y
    · subst e; rw [if_pos rfl]; exact ⟨fun _ => hr.1.symm, fun h => absurd (Or.inl rfl) h⟩
    · rw [if_neg e]
      by_cases ha : x ∈ a.slots
      · have h3 := h1.1 ha
        have h4 := hp ha
        rw [if_pos (by omega)]
        exact ⟨fun _ => h3, fun h => absurd (Or.inr (Or.inl ha)) h⟩
      · rw [if_neg (by rw [h1.2 ha]; simp)]
        refine ⟨fun h => ?_, fun h => h2.2 fun hb => h (Or.inr (Or.inr hb))⟩
        rcases h with h | h | h
        · exact absurd h e
        · exact absurd h ha
        · exact h2.1 h
/-- .. and 0 of a slot that is in no heap. -/
def rankV (W : WS) (Ts : Nat → Tr) (x : Int) : Int := if inW W x then rankT (Ts (cellW W x).home) x else 0
section
variable {W : WS} {Ts : Nat → Tr} {y : Int}
theorem sideY_some (I : TInv W Ts) {y : Int} (h : sideY Ts y ≠ []) : ∃ k : Nat, y = k ∧ 1 ≤ k ∧ sideY Ts y = (Ts k).side ∧ ∃ x l r, Ts k = .node x l r := by
  unfold sideY at h ⊢
  by_cases h0 : 0 ≤ y
  · rw [if_pos h0] at h ⊢
    obtain ⟨k, rfl⟩ : ∃ k : Nat, y = k := ⟨y.toNat, by omega⟩
    rw [Int.toNat_natCast] at h ⊢
    refine ⟨k, rfl, ?_, rfl, ?_⟩
    · rcases Nat.eq_zero_or_pos k with e | e
      · subst e; rw [I.zero] at h; exact absurd rfl h
      · exact e
    · cases e : Ts k with
      | nil => rw [e] at h; exact absurd rfl h
      | node x l r => exact ⟨x, l, r, rfl⟩
  · rw [if_neg h0] at h; exact absurd rfl h
theorem sideY_min (I : TInv W Ts) (y : Int) : (sideY Ts y = [] ∧ minB W y = false) ∨ (minB W y = true ∧ 0 < (sideY Ts y).length ∧ (sideY Ts y).getD 0 0 = minI W y) := by
  by_cases h : sideY Ts y = []
  · left
    refine ⟨h, ?_⟩
    cases hm : minW W y with
    | none => exact (minI_none hm).2
    | some m =>
      have hi := min_is hm
      have hp := hi.pos
      obtain ⟨k, rfl⟩ : ∃ k : Nat, y = k := ⟨y.toNat, by omega⟩
      have hne : Ts k ≠ .nil := fun e => by
        have h1 := (I.empty (by omega)).1 e
        rw [min_none_iff.2 h1] at hm; cases hm
      unfold sideY at h
      rw [if_pos (by omega), Int.toNat_natCast] at h
      cases e : Ts k with
      | nil => exact absurd e hne
      | node x l r => rw [e] at h; cases h
  · right
    obtain ⟨k, rfl, hk, e, x, l, r, hT⟩ := sideY_some I h
    have ht : (Ts k).top = some x := by rw [hT]; rfl
    obtain ⟨m, hm1, hm2⟩ := I.min ht
    obtain ⟨q1, q2⟩ := minI_some (min_of hm2)
    rw [e, hT]
    exact ⟨q2, by simp [Tr.side], by rw [q1, ← hm1]; rfl⟩
theorem sideY_len (I : TInv W Ts) (hf : W.Fit) (hL : ∀ k, Tr.Lef (Ts k)) (y : Int) : ((sideY Ts y).length : Int) ≤ bitsI (lenW W y) := by
  by_cases h : sideY Ts y = []
  · rw [h]; unfold bitsI; simp only [List.length_nil]; omega
  · obtain ⟨k, rfl, hk, e, x, l, r, hT⟩ := sideY_some I h
    have := lef_bits (hL k) (Nat.le_of_eq (I.size k hk)) (Nat.le_trans (len_le W k) hf.cap)
    rw [e, Tr.side_len]
    unfold bitsI
    rw [Int.toNat_natCast]
    omega
theorem sideY_small (I : TInv W Ts) (hf : W.Fit) (y : Int) : (sideY Ts y).length ≤ 65536 := by
  by_cases h : sideY Ts y = []
  · rw [h]; simp
  · obtain ⟨k, rfl, hk, e, x, l, r, hT⟩ := sideY_some I h
    have h1 := Tr.spine_size (Ts k)
    rw [I.size k hk] at h1
    rw [e, Tr.side_len]
    have := Nat.le_trans (len_le W k) hf.cap
    omega
theorem sideY_in (I : TInv W Ts) (y : Int) {i : Nat} (h : i < (sideY Ts y).length) : inW W ((sideY Ts y).getD i 0) = true ∧ ∃ k, (sideY Ts y).getD i 0 ∈ (Ts k).slots := by
  obtain ⟨k, rfl, hk, e, _⟩ := sideY_some I (y := y) (fun e => by rw [e] at h; simp at h)
  have hm : (sideY Ts k).getD i 0 ∈ (Ts k).slots := by
    rw [List.getD_eq_getElem?_getD, List.getElem?_eq_getElem h, Option.getD_some]
    exact Tr.side_sub _ _ (by rw [← e]; exact List.getElem_mem h)
  exact ⟨(I.in' hm).2.2.1, k, hm⟩
theorem sideY_rank (I : TInv W Ts) {r : Int → Int} (hr : ∀ k, Tr.Ranked r (Ts k)) (y : Int) {i : Nat} (h : i < (sideY Ts y).length) : r ((sideY Ts y).getD i 0) = (sideY Ts y).length - i := by
  obtain ⟨k, rfl, hk, e, _⟩ := sideY_some I (y := y) (fun e => by rw [e] at h; simp at h)
  rw [e] at h ⊢
  have := Tr.side_ranked (hr k) i h
  rw [List.getD_eq_getElem?_getD, List.getElem?_eq_getElem h, Option.getD_some]
  exact this
theorem sideY_ahead (I : TInv W Ts) (y : Int) {i : Nat} (h : i + 1 < (sideY Ts y).length) : aheadW W ((sideY Ts y).getD i 0) ((sideY Ts y).getD (i + 1) 0) = true := by
  obtain ⟨h1, _⟩ := sideY_in I y (i := i) (by omega)
  obtain ⟨h2, _⟩ := sideY_in I y h
  obtain ⟨k, rfl, hk, e, _⟩ := sideY_some I (y := y) (fun e => by rw [e] at h; simp at h)
  rw [e] at h h1 h2 ⊢
  have ha := Tr.side_ahead (I.ok k) i h
  have hd := Tr.side_nodup (Ts k) (I.nodup k)
  have e1 : (Ts k).side.getD i 0 = (Ts k).side[i]'(by omega) := by rw [List.getD_eq_getElem?_getD, List.getElem?_eq_getElem, Option.getD_some]
  have e2 : (Ts k).side.getD (i + 1) 0 = (Ts k).side[i + 1]'h := by rw [List.getD_eq_getElem?_getD, List.getElem?_eq_getElem h, Option.getD_some]
  rw [e1] at h1 ⊢
  rw [e2] at h2 ⊢
  refine dahead_total h2 h1 (fun e3 => ?_) ha
  have := (List.getElem_inj hd).1 e3
  omega
end
section
variable {w : World} {p c : Nat} {W : WS} {s : Int} {F : Nat → Prop} {Ts : Nat → Tr}
/-- A slot's rank. -/
theorem rank_det (x : Int) (h : (Ob.leftist p c W s Ts).holds w F) : decide (0 < rankV W Ts x) = inW W x ∧ Calls Try.prog 26 #[.pointer (some ⟨p, 0, none⟩), .int .i64 x] w fun e w' => e = .returned (.int .i64 (rankV W Ts x)) ∧ ∃ F', (Ob.leftist p c W s Ts).holds w' F' ∧ Moved F F' w w' := by
  obtain ⟨I, _⟩ := left_inv h
  obtain ⟨r, hr, hc⟩ := rank_le x h
  have e : rankV W Ts x = if inW W x then r x else 0 := by
    unfold rankV
    cases hx : inW W x
    · rfl
    · exact (rankT_eq (hr _) x).1 (I.home hx).2
  rw [e]
  refine ⟨?_, hc⟩
  cases hx : inW W x
  · rfl
  · have := ranked_pos (hr _) x (I.home hx).2
    simp; omega
/-- .. of a slot on the way to the right. -/
theorem rank_side (y : Int) {i : Nat} (hi : i < (sideY Ts y).length) (h : (Ob.leftist p c W s Ts).holds w F) : Calls Try.prog 26 #[.pointer (some ⟨p, 0, none⟩), .int .i64 ((sideY Ts y).getD i 0)] w fun e w' => e = .returned (.int .i64 ((sideY Ts y).length - i)) ∧ ∃ F', (Ob.leftist p c W s Ts).holds w' F' ∧ Moved F F' w w' := by
  obtain ⟨I, _⟩ := left_inv h
  obtain ⟨r, hr, hc⟩ := rank_le ((sideY Ts y).getD i 0) h
  rw [(sideY_in I y hi).1, if_pos rfl, sideY_rank I hr y hi] at hc
  exact hc
end
end Go.Proofs.Ythjelmbicnbhiaa
