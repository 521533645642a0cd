/- Merged of FiRemMath, FiNestMath. -/
import Derived.Test.YtcjjglaimfhofaaFiGathMath
namespace Go.Proofs.Ytcjjglaimfhofaa

theorem updR_two (R : Nat → List Int) (h : Nat) (a b : List Int) : updR (updR R h a) h b = updR R h b := by
  funext g; unfold updR; split <;> rfl
/-- Some that are aside come to their heap's roots. -/
theorem FiMid.addL {W : WS} {K : Int → List Int} {E : Int → Prop} {h : Nat} : ∀ {l : List Int} {R : Nat → List Int}, FiMid W K R (fun y => y ∈ l ∨ E y) → l.Nodup → (∀ y ∈ l, ¬ E y ∧ (cellW W y).home = h) → FiMid W K (updR R h (R h ++ l)) E
  | [], R, I, _, _ => by
    have e : updR R h (R h ++ []) = R := by funext g; unfold updR; split <;> simp_all
    rw [e]; exact I.same fun y => by simp
  | t :: l, R, I, hn, hE => by
    obtain ⟨h1, h2⟩ := List.nodup_cons.1 hn
    have I1 : FiMid W K R fun y => y = t ∨ (y ∈ l ∨ E y) := I.same fun y => by simp [or_assoc]
    have I2 := I1.add (h := h) (l := R h ++ [t]) (fun k => k.elim h1 (hE t (by simp)).1) (hE t (by simp)).2 (List.perm_append_comm)
    have I3 := FiMid.addL I2 h2 fun y hy => hE y (by simp [hy])
    rw [updR_two, updR_at, List.append_assoc] at I3
    exact I3
section
variable {n : Nat} {W : WS} {i : Nat} {a x : Int} {R0 : Nat → List Int} {K0 : Int → List Int} {P0 : Nat} {K K' : Int → List Int} {R : Nat → List Int} {T T' : Int → Node} {S S' : RSt}
/-- All below a slot are in its heap. -/
theorem PrF.des (I : PrF W K) {x y : Int} (hx : inW W x = true) (h : Des K x y) : inW W y = true ∧ (cellW W y).home = (cellW W x).home := by
  induction h with
  | refl => exact ⟨hx, rfl⟩
  | step _ hy ih =>
    obtain ⟨h1, h2, _⟩ := I.kin _ _ hy
    exact ⟨h1, h2.trans ih.2⟩
theorem FiDeg.home {had : Int → Nat} {mk : Int → Bool} (D : FiDeg K had mk noE) (I : PrF W K) {x : Int} (hx : inW W x = true) (hh : (cellW W x).home = i) {b : Nat} (hb : (slotsW W i).length < 2 ^ b) : (K x).length ≤ 2 * b :=
  D.deg I.fb (prin_slot hx) (fun y hy => by
    obtain ⟨h1, h2⟩ := I.des hx hy
    have h3 := in_home.1 h1
    rw [h2, hh] at h3
    exact ((homes_all W).mem i y h3).2 (h2.trans hh)) hb
/-- Behind the split, and the slot's parting. -/
structure RemMid (n : Nat) (W : WS) (i : Nat) (x : Int) (R0 : Nat → List Int) (P : Nat) (K : Int → List Int) (R : Nat → List Int) (T : Int → Node) (S : RSt) : Prop where
  len : W.cells.length = n
  mid : FiMid W K R fun y => y = x ∨ noE y
  tied : FTied n K R T S
  deg : ∃ had, FiDeg K had (lostOf T) noE
  off : ∀ g, g ≠ i → R g = R0 g
  bare : K x = []
  pot : potN W K (lostOf T) ≤ P
theorem FreeEnd.split (J : FreeEnd n W i a x R0 K0 P0 K R T S) (H : FTied n (fbHang K x []) (updR R i (R i ++ K x)) T' S') (hL : ∀ y, (T' y).lost = if y = x then false else (T y).lost) :
    RemMid n W i x R0 (P0 + 2 + (K x).length) (fbHang K x []) (updR R i ((R i ++ K x).erase x)) T' (partS n S' x) ∧ (x ≠ a → a ∈ (R i ++ K x).erase x) ∧ ((R i ++ K x).erase x).length + 1 = (R i).length + (K x).length ∧
      ((R i ++ K x).erase x ≠ [] → nextI n S' x ∈ (R i ++ K x).erase x) ∧ (fbTop K0 x → powR (fbHang K x []) ((R i ++ K x).erase x) = powR K0 ((R0 i ++ K0 x).erase x)) := by
  obtain ⟨x1, x2, x3, x4, _⟩ := J.mid.is i x J.at0
  have I := J.mid.f.fb
  have hkin := fun y (hy : y ∈ K x) => J.mid.f.kin x y hy
  have M1 := J.mid.split x4
  have M2 := FiMid.addL (h := i) M1 (I.nodup x) fun y hy => ⟨fun h => h, (hkin y hy).2.1.trans x3⟩
  have hxm : x ∈ updR R i (R i ++ K x) i := by rw [updR_at]; exact List.mem_append.2 (Or.inl J.at0)
  have hpe : (updR R i (R i ++ K x) i).Perm (x :: (R i ++ K x).erase x) := by rw [updR_at]; exact List.perm_cons_erase (List.mem_append.2 (Or.inl J.at0))
  have M3 := M2.del (h := i) (t := x) (l := (R i ++ K x).erase x) hpe
  have hro := M2.roots
  have hI2 := M2.f.fb
  rw [J.len] at hro hI2
  have H3 := H.del hI2 hro hxm hpe
  rw [updR_two] at M3 H3
  have hxn : inB n x := J.len ▸ prin_slot x2
  have hring : (allR S'.R x).Perm (R i ++ K x) := by
    have := H.rr i x hxm
    rwa [updR_at] at this
  obtain ⟨had, D⟩ := J.deg
  refine ⟨⟨J.len, M3, H3, ⟨had, (D.split x4).marks fun p y hy => ?_⟩, fun g hg => by rw [updR_off _ _ hg]; exact J.off g hg, if_pos rfl, ?_⟩, fun hne => ?_, ?_, fun hne => ?_, fun ht => ?_⟩
  · have hyx : y ≠ x := fun e => by
      have : y ∈ K p := by
        unfold fbHang at hy
        split at hy
        · cases hy
        · exact hy
      exact x4 p (e ▸ this)
    show (T' y).lost = (T y).lost
    rw [hL, if_neg hyx]
  · have h1 := pot_step (W := W) (W' := W) (K := K) (K' := fbHang K x []) (mk := lostOf T) (mk' := lostOf T') (K x) [] List.nodup_nil (fun y hy => by
      by_cases hk : y ∈ K x
      · exact Or.inr hk
      · refine Or.inl ⟨hy.1, ?_⟩
        rcases hy.2 with k | k
        · exact Or.inl fun p hp => k p (by
            unfold fbHang
            rw [if_neg (fun e : p = x => hk (e ▸ hp))]
            exact hp)
        · have k2 : (T' y).lost = true := k
          rw [hL] at k2
          split at k2
          · cases k2
          · exact Or.inr k2) (fun y hy => by cases hy)
    have := J.pot
    simp only [List.length_nil] at h1
    omega
  · exact (List.mem_erase_of_ne (fun e => hne e.symm)).2 (List.mem_append.2 (Or.inl J.first))
  · rw [List.length_erase_of_mem (List.mem_append.2 (Or.inl J.at0)), List.length_append]
    have := List.length_pos_of_mem J.at0
    omega
  · rcases ring_next H.good (inB_R hxn) with ⟨_, e2⟩ | ⟨_, e2⟩
    · rw [e2] at hring
      have h1 := hring.erase x
      rw [List.erase_cons_head] at h1
      exact absurd (List.nil_perm.1 h1) hne
    · exact (hring.erase x).mem_iff.1 e2
  · obtain ⟨e1, e2⟩ := J.idle ht
    rw [← e1, ← e2]
    have hnd := M2.nd i
    rw [updR_at] at hnd
    exact powR_same fun y hy => if_neg fun e => by
      rw [e] at hy
      exact ((hnd.mem_erase_iff).1 hy).1 rfl
/-- What a removal makes. -/
structure RemEnd (n : Nat) (W : WS) (i : Nat) (a x : Int) (R0 : Nat → List Int) (K0 : Int → List Int) (P0 : Nat) (s s' : Int) (K : Int → List Int) (R : Nat → List Int) (T : Int → Node) (S : RSt) (z : Int) : Prop where
  len : W.cells.length = n
  mid : FiMid W K R fun y => y = x ∨ noE y
  tied : FTied n K R T S
  deg : ∃ had, FiDeg K had (lostOf T) noE
  off : ∀ g, g ≠ i → R g = R0 g
  bare : K x = []
  rest : x ≠ a → z = a ∧ a ∈ R i
  best : x = a → R i ≠ [] → z ∈ R i ∧ ∀ y ∈ R i, aheadW W y z = false
  unlike : x = a → ((R i).map fun y => (K y).length).Nodup
  st : s ≤ s'
  pows : x = a → fbTop K0 x → powR K (R i) = powR K0 ((R0 i ++ K0 x).erase x)
  paid : ∀ b, (slotsW W i).length < 2 ^ b → s' + (potN W K (lostOf T) : Nat) ≤ s + ((P0 + 2 + 4 * b : Nat) : Int)
theorem RemMid.rest (M : RemMid n W i x R0 (P0 + 2 + (K x).length) K' R T S) (hne : x ≠ a) (ha : a ∈ R i) (s : Int) (hb : ∀ b, (slotsW W i).length < 2 ^ b → (K x).length ≤ 2 * b) (_hpw : fbTop K0 x → powR K' (R i) = powR K0 ((R0 i ++ K0 x).erase x)) : RemEnd n W i a x R0 K0 P0 s s K' R T S a :=
  ⟨M.len, M.mid, M.tied, M.deg, M.off, M.bare, fun _ => ⟨rfl, ha⟩, fun e => absurd e hne, fun e => absurd e hne, Int.le_refl _, fun e => absurd e hne, fun b h => by
    have := M.pot
    have := hb b h
    omega⟩
theorem RemMid.none (M : RemMid n W i x R0 (P0 + 2 + (K x).length) K' R T S) (he : x = a) (h0 : R i = []) (s z : Int) (hb : ∀ b, (slotsW W i).length < 2 ^ b → (K x).length ≤ 2 * b) (hpw : fbTop K0 x → powR K' (R i) = powR K0 ((R0 i ++ K0 x).erase x)) : RemEnd n W i a x R0 K0 P0 s s K' R T S z :=
  ⟨M.len, M.mid, M.tied, M.deg, M.off, M.bare, fun e => absurd he e, fun _ h => absurd h0 h, fun _ => by rw [h0]; exact List.nodup_nil, Int.le_refl _, fun _ => hpw, fun b h => by
    have := M.pot
    have := hb b h
    omega⟩
theorem RemMid.gath (M : RemMid n W i x R0 (P0 + 2 + (K x).length) K' R T S) (h0 : R i ≠ []) : GathJ n W i (fun y => y = x ∨ noE y) R (powR K' (R i)) K' R T S [] (R i) :=
  ⟨M.len, M.mid, M.tied, M.deg, fun _ _ => rfl, List.Perm.refl _, fun j hj => absurd hj (Nat.not_lt_zero _), fun y hy => by rcases hy with rfl | h; exact M.bare; exact h.elim, h0, rfl⟩
theorem RemMid.all (M : RemMid n W i x R0 (P0 + 2 + (K x).length) K' R T S) (he : x = a) {Bl : List Int} {K2 : Int → List Int} {R2 : Nat → List Int} {T2 : Int → Node} {S2 : RSt} {z s s' : Int} (J : GathJ n W i (fun y => y = x ∨ noE y) R (powR K' (R i)) K2 R2 T2 S2 Bl [])
    (hB : z ∈ R2 i ∧ ∀ y ∈ R2 i, aheadW W y z = false) (hs : s ≤ s' ∧ s' + (potN W K2 (lostOf T2) : Nat) + 1 ≤ s + (potN W K' (lostOf T) : Nat) + ((R2 i).length : Nat)) (hb : ∀ b, (slotsW W i).length < 2 ^ b → (K x).length ≤ 2 * b) (hpw : fbTop K0 x → powR K' (R i) = powR K0 ((R0 i ++ K0 x).erase x)) : RemEnd n W i a x R0 K0 P0 s s' K2 R2 T2 S2 z :=
  ⟨J.len, J.mid, J.tied, J.deg, fun g hg => (J.off g hg).trans (M.off g hg), J.bare x (Or.inl rfl), fun e => absurd he e, fun _ _ => hB, fun _ => J.done.1, hs.1, fun _ ht => J.pows.trans (hpw ht), fun b h => by
    have h1 := M.pot
    have h2 := hb b h
    obtain ⟨had, D⟩ := J.deg
    have h3 := degs_few (f := fun y => (K2 y).length) (m := 2 * b) J.done.1 fun y hy => by
      obtain ⟨_, a2, a3, _⟩ := J.mid.is i y hy
      exact D.home J.mid.f a2 a3 h
    omega⟩
end
end Go.Proofs.Ytcjjglaimfhofaa

namespace Go.Proofs.Ytcjjglaimfhofaa

def BestFi (W : WS) (l : List Int) (b : Int) : Prop := b ∈ l ∧ ∀ y ∈ l, aheadW W y b = false
theorem bestfi_one (W : WS) (x : Int) : BestFi W [x] x := ⟨by simp, fun y hy => by rw [List.mem_singleton.1 hy]; exact dahead_irr W x⟩
theorem bestfi_more {W : WS} {l : List Int} {b x : Int} (hl : ∀ y ∈ l, inW W y = true) (h : BestFi W l b) : BestFi W (l ++ [x]) (lkC W b x) := by
  have hb := hl b h.1
  unfold lkC
  split
  · rename_i e
    refine ⟨by simp, fun y hy => ?_⟩
    rcases List.mem_append.1 hy with h2 | h2
    · exact hm_neg (hl y h2) hb (h.2 y h2) (hm_asym e)
    · rw [List.mem_singleton.1 h2]; exact dahead_irr W x
  · rename_i e
    refine ⟨List.mem_append.2 (Or.inl h.1), fun y hy => ?_⟩
    rcases List.mem_append.1 hy with h2 | h2
    · exact h.2 y h2
    · rw [List.mem_singleton.1 h2]; simpa using e
theorem BestFi.perm {W : WS} {l m : List Int} {b : Int} (h : BestFi W l b) (hp : m.Perm l) : BestFi W m b := ⟨hp.mem_iff.2 h.1, fun y hy => h.2 y (hp.mem_iff.1 hy)⟩
theorem BestFi.same {W W' : WS} {l : List Int} {b : Int} (h : BestFi W l b) (hs : ∀ y ∈ l, cellW W' y = cellW W y) : BestFi W' l b := ⟨h.1, fun y hy => by rw [dahead_same (hs y hy) (hs b h.1)]; exact h.2 y hy⟩
theorem bestfi_two {W : WS} {l m : List Int} {a b : Int} (hl : ∀ y ∈ l, inW W y = true) (hm : ∀ y ∈ m, inW W y = true) (ha : BestFi W l a) (hb : BestFi W m b) : BestFi W (l ++ m) (lkC W a b) := by
  have ia := hl a ha.1
  have ib := hm b hb.1
  unfold lkC
  split
  · rename_i e
    refine ⟨List.mem_append.2 (Or.inr hb.1), fun y hy => ?_⟩
    rcases List.mem_append.1 hy with h2 | h2
    · exact hm_neg (hl y h2) ia (ha.2 y h2) (hm_asym e)
    · exact hb.2 y h2
  · rename_i e
    have e2 : aheadW W b a = false := by simpa using e
    refine ⟨List.mem_append.2 (Or.inl ha.1), fun y hy => ?_⟩
    rcases List.mem_append.1 hy with h2 | h2
    · exact ha.2 y h2
    · exact hm_neg (hm y h2) ib (hb.2 y h2) e2
theorem pot_le {W W' : WS} {K : Int → List Int} {mk : Int → Bool} (h : ∀ y, inW W' y = true → inW W y = true) : potN W' K mk ≤ potN W K mk := by
  have := pot_step (W := W) (W' := W') (K := K) (K' := K) (mk := mk) (mk' := mk) [] [] List.nodup_nil (fun y hy => Or.inl ⟨h y hy.1, hy.2⟩) (fun y hy => by cases hy)
  simpa using this
def updZ (z : Nat → Int) (h : Nat) (a : Int) : Nat → Int := fun g => if g = h then a else z g
theorem updZ_at (z : Nat → Int) (h : Nat) (a : Int) : updZ z h a h = a := if_pos rfl
theorem updZ_off (z : Nat → Int) {h g : Nat} (a : Int) (e : g ≠ h) : updZ z h a g = z g := if_neg e
structure FiOk (n : Nat) (W : WS) (K : Int → List Int) (R : Nat → List Int) (T : Int → Node) (S : RSt) (z : Nat → Int) : Prop where
  len : W.cells.length = n
  mid : FiMid W K R noE
  tied : FTied n K R T S
  deg : ∃ had, FiDeg K had (lostOf T) noE
  best : ∀ h, R h ≠ [] → BestFi W (R h) (z h)
/-- All slots that are in heaps. -/
def allW (W : WS) : List Int := ((List.range W.cells.length).map fun i : Nat => (i : Int)).filter fun y => inW W y
theorem mem_allW {W : WS} {y : Int} : y ∈ allW W ↔ inW W y = true := by
  unfold allW
  rw [List.mem_filter, mem_ints]
  exact ⟨fun h => h.2, fun h => ⟨prin_slot h, h⟩⟩
theorem allW_nd (W : WS) : (allW W).Nodup := (ints_nodup _).filter _
theorem mem_slotsW {W : WS} {i : Nat} {y : Int} (h : y ∈ slotsW W i) : inW W y = true ∧ (cellW W y).home = i := by
  by_cases h0 : i = 0
  · subst h0; unfold slotsW at h; rw [if_pos rfl] at h; cases h
  · have := ((homes_all W).mem i y (by omega)).1 h
    exact ⟨in_home.2 (by omega), this⟩
theorem slots_all (W : WS) (i : Nat) : (slotsW W i).length ≤ (allW W).length := sub_len ((homes_all W).nodup i) fun _y hy => mem_allW.2 (mem_slotsW hy).1
/-- No more slots than before, but for one. -/
theorem allW_more {W W' : WS} (c : List Int) (h : ∀ y, inW W' y = true → inW W y = true ∨ y ∈ c) : (allW W').length ≤ (allW W).length + c.length := by
  have := sub_len (m := allW W') (l := allW W ++ c) (allW_nd _) fun y hy => List.mem_append.2 ((h y (mem_allW.1 hy)).imp mem_allW.2 id)
  rwa [List.length_append] at this
/-- What a raise makes: nothing, or what comes off. -/
def Raised (n : Nat) (W WL : WS) (i : Nat) (a x : Int) (P0 : Nat) (K : Int → List Int) (R : Nat → List Int) (T : Int → Node) (S : RSt) (K' : Int → List Int) (R' : Nat → List Int) (T' : Int → Node) (S' : RSt) (z : Int) : Prop :=
  (K' = K ∧ R' = R ∧ T' = T ∧ S' = S ∧ z = a ∧ (x = a ∨ ∃ p, x ∈ K p ∧ aheadW W x p = false)) ∨ (FreeEnd n WL i a x R K P0 K' R' T' S' ∧ z = lkC W a x)
section
variable {n : Nat} {W : WS} {K : Int → List Int} {R : Nat → List Int} {T : Int → Node} {S : RSt} {z : Nat → Int}
theorem FiOk.at' (I : FiOk n W K R T S z) {x : Int} (hB : inW W x = true) : R (cellW W x).home ≠ [] := fun e => I.mid.none e hB rfl
theorem FiOk.free (I : FiOk n W K R T S z) {x : Int} (hB : inW W x = true) {i : Nat} (hi : (cellW W x).home = i) : FreeJ n W i (z i) x R K (potN W K (lostOf T)) K R T S x := by
  obtain ⟨had, D⟩ := I.deg
  have h0 := I.at' hB
  rw [hi] at h0
  exact ⟨I.len, I.mid, I.tied, ⟨had, D.free fun _ h => h.elim⟩, hB, hi, (I.best i h0).1, fun _ _ => rfl, fun _ h => h, Or.inl ⟨Nat.le_refl _, rfl⟩, Or.inl rfl, fun _ => ⟨rfl, rfl, rfl⟩⟩
/-- The first root is ahead of all of its heap. -/
theorem FiOk.min (I : FiOk n W K R T S z) {i : Nat} (h0 : R i ≠ []) : ∀ y, inW W y = true → (cellW W y).home = i → aheadW W y (z i) = false := I.mid.min (I.best i h0).1 (I.best i h0).2
/-- .. none, where there is none. -/
theorem FiOk.cells (I : FiOk n W K R T S z) {W' : WS} (h : W'.cells = W.cells) : FiOk n W' K R T S z ∧ potN W' K (lostOf T) ≤ potN W K (lostOf T) := by
  have e1 : ∀ y, cellW W' y = cellW W y := fun y => dcells_eq h y
  refine ⟨⟨by rw [h]; exact I.len, I.mid.cells h, I.tied, I.deg, fun g hg => (I.best g hg).same fun y _ => e1 y⟩, ?_⟩
  have e2 : ∀ y, inW W' y = inW W y := fun y => by unfold inW; rw [e1]
  exact pot_le fun y hy => by rw [← e2]; exact hy
/-- A slot comes in. -/
theorem FiOk.put (I : FiOk n W K R T S z) {x k s : Int} {h : Nat} (hp : putB W h x = true) (h1 : 1 ≤ h) {_T' : Int → Node} {S' : RSt} {a : Int}
    (hTS : (R h = [] ∧ S' = S ∧ a = x) ∨ (R h ≠ [] ∧ S' = spliceS n S (z h) x ∧ a = lkC (putW W h x k s) (z h) x)) :
    FiOk n (putW W h x k s) K (updR R h (R h ++ [x])) T S' (updZ z h a) ∧ potN (putW W h x k s) K (lostOf T) ≤ potN W K (lostOf T) + 1 ∧ (allW (putW W h x k s)).length ≤ (allW W).length + 1 := by
  obtain ⟨q1, q2, q3, q4, _⟩ := homes_put (k := k) (s := s) (homes_all W) hp h1
  obtain ⟨M1, hK, hh⟩ := I.mid.put (k := k) (s := s) hp h1
  have hl : (putW W h x k s).cells.length = n := by rw [← I.len]; unfold putW; split <;> simp
  have hxn : ∀ g, x ∉ R g := fun g k => by have := (I.mid.is g x k).2.1; rw [q2] at this; cases this
  have hxi : inB n x := by have := prin_slot q3; rwa [hl] at this
  have hxt := (I.mid.f.out q2).1
  have hin : ∀ y, y ≠ x → inW (putW W h x k s) y = inW W y := fun y hy => by unfold inW; rw [q4 y hy]
  have hFb := I.mid.f.fb
  have hro := I.mid.roots
  rw [I.len] at hFb hro
  have M2 := (M1.same (E' := fun y => y = x ∨ noE y) fun y => by simp).add (h := h) (l := R h ++ [x]) (fun e => e) hh List.perm_append_comm
  have hne : ∀ g, ∀ y ∈ R g, y ≠ x := fun g y hy e => hxn g (e ▸ hy)
  refine ⟨⟨hl, M2, ?_, I.deg, fun g hg => ?_⟩, ?_, ?_⟩
  · rcases hTS with ⟨e0, rfl, _⟩ | ⟨e0, rfl, _⟩
    · rw [e0]; exact I.tied.put0 e0 hxi hxt hxn
    · exact I.tied.put hFb hro (I.best h e0).1 hxi hxt hxn List.perm_append_comm
  · by_cases e : g = h
    · subst e
      rw [updR_at, updZ_at]
      rcases hTS with ⟨e0, _, rfl⟩ | ⟨e0, _, rfl⟩
      · rw [e0]; exact bestfi_one _ _
      · exact bestfi_more (fun y hy => by rw [hin y (hne g y hy)]; exact (I.mid.is g y hy).2.1) ((I.best g e0).same fun y hy => q4 y (hne g y hy))
    · rw [updR_off _ _ e] at hg ⊢
      rw [updZ_off _ _ e]
      exact (I.best g hg).same fun y hy => q4 y (hne g y hy)
  · have := pot_step (W := W) (W' := putW W h x k s) (K := K) (K' := K) (mk := lostOf T) (mk' := lostOf T) [x] [] List.nodup_nil (fun y hy => by
      by_cases e : y = x
      · exact Or.inr (by simp [e])
      · exact Or.inl ⟨by rw [← hin y e]; exact hy.1, hy.2⟩) (fun y hy => by cases hy)
    simpa using this
  · exact allW_more [x] fun y hy => by
      by_cases e : y = x
      · exact Or.inr (by simp [e])
      · exact Or.inl (by rw [← hin y e]; exact hy)
/-- A slot goes out. -/
theorem FiOk.drop (I : FiOk n W K R T S z) {i : Nat} {a x : Int} {P0 : Nat} {s s' : Int} {K' : Int → List Int} {R' : Nat → List Int} {T' : Int → Node} {S' : RSt} {b : Int} (ha : a = z i) (hi : (cellW W x).home = i) (hx : inW W x = true) (E : RemEnd n W i a x R K P0 s s' K' R' T' S' b) :
    FiOk n (dropW W x) K' R' T' S' (updZ z i b) ∧ potN (dropW W x) K' (lostOf T') ≤ potN W K' (lostOf T') ∧ (allW (dropW W x)).length ≤ (allW W).length := by
  obtain ⟨q1, q2, _⟩ := homes_drop (homes_all W) ((homes_all W).home hx).2
  have hl : (dropW W x).cells.length = n := by rw [← I.len]; unfold dropW; split <;> simp
  have hin : ∀ y, inW (dropW W x) y = true → inW W y = true := fun y hy => by
    have e : y ≠ x := fun e => by rw [e, q1] at hy; cases hy
    unfold inW at hy ⊢; rwa [q2 y e] at hy
  have hne : ∀ g, ∀ y ∈ R' g, y ≠ x := fun g y hy e => (E.mid.is g y hy).2.2.2.2 (Or.inl e)
  have h0 := I.at' hx
  rw [hi] at h0
  refine ⟨⟨hl, E.mid.drop (fun e => e) E.bare, E.tied, E.deg, fun g hg => ?_⟩, ?_, ?_⟩
  · by_cases e : g = i
    · subst e
      rw [updZ_at]
      refine BestFi.same (W := W) ?_ fun y hy => q2 y (hne g y hy)
      by_cases e2 : x = a
      · exact E.best e2 hg
      · obtain ⟨rfl, h3⟩ := E.rest e2
        refine ⟨h3, fun y hy => ?_⟩
        obtain ⟨_, y2, y3, _⟩ := E.mid.is g y hy
        rw [ha]; exact I.min h0 y y2 y3
    · rw [updZ_off _ _ e]
      have hR := E.off g e
      rw [hR] at hg
      have := I.best g hg
      rw [← hR] at this
      exact this.same fun y hy => q2 y (hne g y hy)
  · have := pot_step (W := W) (W' := dropW W x) (K := K') (K' := K') (mk := lostOf T') (mk' := lostOf T') [] [] List.nodup_nil (fun y hy => Or.inl ⟨hin y hy.1, hy.2⟩) (fun y hy => by cases hy)
    simpa using this
  · exact allW_more [] fun y hy => Or.inl (hin y hy)
/-- Two heaps become one. -/
theorem FiOk.join (I : FiOk n W K R T S z) {i j : Nat} (hb : joinBW W i j = true) (hi : 1 ≤ i) (hj : 1 ≤ j) {S' : RSt} {a : Int}
    (hTS : (R i = [] ∧ S' = S ∧ a = z j) ∨ (R i ≠ [] ∧ R j = [] ∧ S' = S ∧ a = z i) ∨ (R i ≠ [] ∧ R j ≠ [] ∧ S' = spliceS n S (z i) (z j) ∧ a = lkC (joinW W i j) (z i) (z j))) :
    FiOk n (joinW W i j) K (updR (updR R j []) i (R i ++ R j)) T S' (updZ (updZ z i a) j 0) ∧ potN (joinW W i j) K (lostOf T) ≤ potN W K (lostOf T) ∧ (allW (joinW W i j)).length ≤ (allW W).length := by
  obtain ⟨hne, q2, q3, _⟩ := homes_join (homes_all W) hb hi hj
  have hl : (joinW W i j).cells.length = n := by rw [← I.len]; unfold joinW; split <;> simp
  have hFb := I.mid.f.fb
  have hro := I.mid.roots
  rw [I.len] at hFb hro
  have hinR : ∀ g, ∀ y ∈ R g, inW (joinW W i j) y = true := fun g y hy => by rw [q3]; exact (I.mid.is g y hy).2.1
  have hB : ∀ {l : List Int} {b : Int}, BestFi W l b → BestFi (joinW W i j) l b := fun h => ⟨h.1, fun y hy => by rw [q2]; exact h.2 y hy⟩
  refine ⟨⟨hl, I.mid.join hb hi hj (List.Perm.refl _), ?_, I.deg, fun g hg => ?_⟩, ?_, ?_⟩
  · rcases hTS with ⟨e0, rfl, _⟩ | ⟨_, e0, rfl, _⟩ | ⟨e0, e1, rfl, _⟩
    · exact I.tied.move (Or.inl e0) hne (List.Perm.refl _)
    · exact I.tied.move (Or.inr e0) hne (List.Perm.refl _)
    · exact I.tied.meld hFb hro (I.best i e0).1 (I.best j e1).1 hne (List.Perm.refl _)
  · by_cases e : g = i
    · subst e
      rw [updR_at] at hg ⊢
      rw [updZ_off _ _ hne, updZ_at]
      rcases hTS with ⟨e0, _, rfl⟩ | ⟨e0, e1, _, rfl⟩ | ⟨e0, e1, _, rfl⟩
      · rw [e0, List.nil_append] at hg ⊢; exact hB (I.best j hg)
      · rw [e1, List.append_nil]; exact hB (I.best g e0)
      · exact bestfi_two (hinR g) (hinR j) (hB (I.best g e0)) (hB (I.best j e1))
    · rw [updR_off _ _ e] at hg ⊢
      by_cases e3 : g = j
      · subst e3; rw [updR_at] at hg; exact absurd rfl hg
      · rw [updR_off _ _ e3] at hg ⊢
        rw [updZ_off _ _ e3, updZ_off _ _ e]
        exact hB (I.best g hg)
  · exact pot_le fun y hy => by rw [← q3]; exact hy
  · exact allW_more [] fun y hy => Or.inl (by rw [← q3]; exact hy)
/-- A slot's entry is less. -/
theorem FiOk.lower (I : FiOk n W K R T S z) {x k s : Int} {i : Nat} (hb : lowerB W x k s = true) (hi : (cellW W x).home = i) {K' : Int → List Int} {R' : Nat → List Int} {T' : Int → Node} {S' : RSt} {b : Int} (E : Raised n (lowerW W x k s) W i (z i) x (potN W K (lostOf T)) K R T S K' R' T' S' b) :
    FiOk n (lowerW W x k s) K' R' T' S' (updZ z i b) ∧ potN (lowerW W x k s) K' (lostOf T') ≤ potN W K (lostOf T) + 2 ∧ (allW (lowerW W x k s)).length ≤ (allW W).length ∧ ∀ h, (R h).length ≤ (R' h).length := by
  obtain ⟨hx, q2, q3, q4, q5, _⟩ := homes_lower (homes_all W) hb
  have hl : (lowerW W x k s).cells.length = n := by rw [← I.len]; unfold lowerW; split <;> simp
  have h0 := I.at' hx
  rw [hi] at h0
  have hmin := I.min h0
  obtain ⟨z1, z2, z3, z4, _⟩ := I.mid.is i (z i) (I.best i h0).1
  have hin : ∀ y, inW (lowerW W x k s) y = true → inW W y = true := fun y hy => by rw [← q2]; exact hy
  have hall : (allW (lowerW W x k s)).length ≤ (allW W).length := allW_more [] fun y hy => Or.inl (hin y hy)
  -- nothing is ahead of the one that was first, but perhaps what is lowered
  have hfirst : ∀ y, inW W y = true → (cellW W y).home = i → (y ≠ x ∨ z i = x) → aheadW (lowerW W x k s) y (z i) = false := fun y hy hh ho => by
    by_cases e : z i = x
    · by_cases e2 : y = x
      · rw [e, e2]; exact dahead_irr _ _
      · rw [e]; exact q5 y hy e2 (by rw [← e]; exact hmin y hy hh)
    · have e2 : y ≠ x := ho.elim id fun h => absurd h e
      rw [q4 y (z i) e2 e]; exact hmin y hy hh
  have hoth : ∀ g, g ≠ i → R g ≠ [] → BestFi (lowerW W x k s) (R g) (z g) := fun g hg hn => by
    have hB := I.best g hn
    have hne : ∀ y ∈ R g, y ≠ x := fun y hy e => hg (by rw [← hi, ← e]; exact (I.mid.is g y hy).2.2.1.symm)
    exact ⟨hB.1, fun y hy => by rw [q4 y (z g) (hne y hy) (hne _ hB.1)]; exact hB.2 y hy⟩
  rcases E with ⟨rfl, rfl, rfl, rfl, rfl, hq⟩ | ⟨F, rfl⟩
  · have hp : ∀ p, x ∈ K' p → aheadW (lowerW W x k s) x p = false := fun p hp => by
      rcases hq with e | ⟨p', hp', ha⟩
      · rw [e] at hp; exact absurd hp (z4 p)
      · rw [I.mid.f.fb.one p p' x hp hp']; exact ha
    refine ⟨⟨hl, I.mid.lower hb hp, I.tied, I.deg, fun g hg => ?_⟩, ?_, hall, fun h => Nat.le_refl _⟩
    · by_cases e : g = i
      · subst e
        rw [updZ_at]
        refine ⟨(I.best g hg).1, fun y hy => ?_⟩
        obtain ⟨_, y2, y3, y4, _⟩ := I.mid.is g y hy
        refine hfirst y y2 y3 ?_
        rcases hq with e | ⟨p', hp', _⟩
        · exact Or.inr e.symm
        · exact Or.inl fun e => y4 p' (e ▸ hp')
      · rw [updZ_off _ _ e]; exact hoth g e hg
    · have := pot_le (K := K') (mk := lostOf T') hin
      omega
  · refine ⟨⟨hl, F.mid.lower hb fun p hp => absurd hp ((F.mid.is i x F.at0).2.2.2.1 p), F.tied, F.deg, fun g hg => ?_⟩, ?_, hall, fun h => ?_⟩
    · by_cases e : g = i
      · subst e
        rw [updZ_at]
        have hR := fun y (hy : y ∈ R' g) => F.mid.is g y hy
        have hxi : inW (lowerW W x k s) x = true := by rw [q2]; exact hx
        have hzi : inW (lowerW W x k s) (z g) = true := by rw [q2]; exact z2
        unfold lkC
        split
        · rename_i e1
          refine ⟨F.at0, fun y hy => ?_⟩
          by_cases e2 : y = x
          · rw [e2]; exact dahead_irr _ _
          · exact hm_neg (by rw [q2]; exact (hR y hy).2.1) hzi (hfirst y (hR y hy).2.1 (hR y hy).2.2.1 (Or.inl e2)) (hm_asym e1)
        · rename_i e1
          refine ⟨F.first, fun y hy => ?_⟩
          by_cases e2 : y = x
          · rw [e2]; simpa using e1
          · exact hfirst y (hR y hy).2.1 (hR y hy).2.2.1 (Or.inl e2)
      · rw [updZ_off _ _ e]
        have hRR := F.off g e
        rw [hRR] at hg ⊢
        exact hoth g e hg
    · have := pot_le (K := K') (mk := lostOf T') hin
      have := F.pot
      omega
    · by_cases e : h = i
      · subst e; exact sub_len (I.mid.nd h) F.sub
      · rw [F.off h e]; exact Nat.le_refl _
end
end Go.Proofs.Ytcjjglaimfhofaa
