/- A row of things: how a thing goes up. -/
import Derived.Test.YtlbbgdpdaelcdaaSiftSwap
namespace Go.Proofs.Ytlbbgdpdaelcdaa
open Go.RowKit Go.Sort

/-- The order is strict among some. -/
structure StrictM (lt : Int → Int → Bool) (P : Int → Prop) : Prop where
  irr : ∀ x, P x → lt x x = false
  trans : ∀ x y z, P x → P y → P z → lt x y = true → lt y z = true → lt x z = true
  total : ∀ x y, P x → P y → x ≠ y → lt x y = false → lt y x = true
theorem StrictM.strict {lt : Int → Int → Bool} {P : Int → Prop} (s : StrictM lt P) {l : List Int} (hn : l.Nodup) (h : ∀ x ∈ l, P x) : Strict lt l :=
  ⟨fun _ hi => s.irr _ (h _ (rat_mem hi)), fun _ _ _ hi hj hk a b => s.trans _ _ _ (h _ (rat_mem hi)) (h _ (rat_mem hj)) (h _ (rat_mem hk)) a b,
   fun _ _ hi hj hij a => s.total _ _ (h _ (rat_mem hi)) (h _ (rat_mem hj)) (fun e => hij (rat_inj hn hi hj e)) a⟩
theorem strictM_keys (ks : Int → Int) (P : Int → Prop) : StrictM (ltK ks) P :=
  ⟨fun x _ => ltK_irr ks x, fun x y z _ _ _ a b => by rw [ltK_iff] at *; omega, fun x y _ _ h e => ltK_total h e⟩
/-- Each once, and such as may be asked for. -/
structure RowIn (ok : Int → Prop) (l : List Int) : Prop where
  nodup : l.Nodup
  ok : ∀ x ∈ l, ok x
  int : ∀ x ∈ l, inInt x
  len : l.length ≤ 1048576
theorem RowIn.perm {ok : Int → Prop} {l l' : List Int} (I : RowIn ok l) (h : l'.Perm l) : RowIn ok l' :=
  ⟨h.nodup_iff.2 I.nodup, fun x hx => I.ok x (h.mem_iff.1 hx), fun x hx => I.int x (h.mem_iff.1 hx), by rw [h.length_eq]; exact I.len⟩
theorem swap_place {l : List Int} (hn : l.Nodup) {i j : Nat} (hi : i < l.length) (hj : j < l.length) : swapF l (placeL l) i j = placeL (swapL l i j) := by
  have hp := swap_perm hi hj
  refine place_ext (hp.nodup_iff.2 hn) (fun k hk => ?_) (fun x hx => ?_)
  · rw [swap_len] at hk
    rw [rat_swap hi hj]
    unfold swapF
    by_cases h1 : k = j
    · subst h1
      rw [if_pos rfl]
      by_cases h2 : rat l i = rat l k
      · rw [h2, setZ_same, rat_inj hn hi hj h2]
      · rw [setZ_other _ _ h2, setZ_same]
    · rw [if_neg h1]
      by_cases h2 : k = i
      · subst h2
        rw [if_pos rfl, setZ_same]
      · rw [if_neg h2, setZ_other _ _ (fun e => h1 (rat_inj hn hk hj e)), setZ_other _ _ (fun e => h2 (rat_inj hn hk hi e)), place_rat hn hk]
  · have hx' : x ∉ l := fun h => hx (hp.mem_iff.2 h)
    unfold swapF
    rw [setZ_other _ _ (fun e : x = rat l j => hx' (by rw [e]; exact rat_mem hj)), setZ_other _ _ (fun e : x = rat l i => hx' (by rw [e]; exact rat_mem hi)), place_none hx']
theorem place_there {l : List Int} {i : Nat} (hi : i < l.length) : (placeL l (rat l i)).isSome = true := by
  rw [place_isSome, hasL_iff]; exact rat_mem hi
/-- A row at r of the things l. -/
abbrev rowO (r bm : Nat) (v : Value) (d : Nat) (l : List Int) : List Ob := rowP r bm v d l (placeL l) l.length
section
variable {γ : Type} {O : γ → Ob} {R : γ → γ → Prop} {ok : Int → Prop} {lt : Int → Int → Bool} {H : World → Prop} {T : TypeId} {u : Value} {fn : Fn}
variable {F0 : Nat → Prop} {W0 w : World} {r bm : Nat} {v : Value} {d : Nat} {l : List Int} {g : γ} {q : List Ob}
theorem rswap_st (h : Stage F0 W0 (rowO r bm v d l ++ q) w) (I : RowIn ok l) (i j : Nat) (hi : i < l.length) (hj : j < l.length) :
    Calls Try.prog 74 #[.pointer (some ⟨r, 0, none⟩), .int .i64 i, .int .i64 j] w fun e w' => e = .returned (.tuple #[]) ∧ Stage F0 W0 (rowO r bm v d (swapL l i j) ++ q) w' := by
  have hm : l.length < maxLen := by have := I.len; unfold maxLen; omega
  have := swap_st h i j hi hj hm (I.int _ (rat_mem hi)) (I.int _ (rat_mem hj)) (place_there hi) (place_there hj)
  rw [swap_place I.nodup hi hj] at this
  unfold rowO
  rw [swap_len]
  exact this
theorem rahead_st (A : Asks O R ok lt H T u fn) (hs : Stage F0 W0 (rowO r bm v d l ++ O g :: q) w) (I : RowIn ok l) (i j : Nat) (hi : i < l.length) (hj : j < l.length) :
    Calls Try.prog 95 #[.pointer (some ⟨r, 0, none⟩), .iface T u, .int .i64 i, .int .i64 j] w fun e w' => e = .returned (.bool (lt (rat l i) (rat l j))) ∧ ∃ g', R g g' ∧ Stage F0 W0 (rowO r bm v d l ++ O g' :: q) w' :=
  ahead_st A hs i j hi hj (I.ok _ (rat_mem hi)) (I.ok _ (rat_mem hj))
/-- Asked once at least. -/
def askedR {γ : Type} (R : γ → γ → Prop) (g g' : γ) : Prop := ∃ h, R g h ∧ ∃ m, Turns R m h g'
theorem askedR.one {γ : Type} {R : γ → γ → Prop} {g h : γ} (r : R g h) : askedR R g h := ⟨h, r, 0, Turns.none h⟩
theorem askedR.more {γ : Type} {R : γ → γ → Prop} {g h k : γ} (a : askedR R g h) (r : R h k) : askedR R g k := by
  obtain ⟨j, r1, m, t⟩ := a
  exact ⟨j, r1, m + 1, t.more r⟩
/-- Behind 'climb': whether it went; where it goes up as it may, all is in order. -/
def ClimbPost (O : γ → Ob) (R : γ → γ → Prop) (lt : Int → Int → Bool) (F0 : Nat → Prop) (W0 : World) (r bm : Nat) (v : Value) (d : Nat) (l : List Int) (g : γ) (q : List Ob) (i : Nat) (e : Ending) (w' : World) : Prop :=
  ∃ (b : Bool) (l' : List Int) (g' : γ), e = .returned (.bool b) ∧ l'.Perm l ∧ Within R (depthI d i) g g' ∧ (0 < i → askedR R g g') ∧ (b = false → l' = l ∧ (0 < i → lt (rat l i) (rat l (par d i)) = false)) ∧ (b = true → 0 < i ∧ lt (rat l i) (rat l (par d i)) = true) ∧
    (UpInv d lt l i → Heap d lt l') ∧ Stage F0 W0 (rowO r bm v d l' ++ O g' :: q) w'
set_option maxRecDepth 100000 in
set_option maxHeartbeats 1000000 in
theorem climb_st (A : Asks O R ok lt H T u fn) (hd : 2 ≤ d ∧ d ≤ 16) (hs : Stage F0 W0 (rowO r bm v d l ++ O g :: q) w) (I : RowIn ok l) (S : StrictM lt (· ∈ l)) (i : Nat) (hi : i < l.length) :
    Calls Try.prog 71 #[.pointer (some ⟨r, 0, none⟩), .iface T u, .int .i64 i] w (ClimbPost O R lt F0 W0 r bm v d l g q i) := by
  have hP := fun (k : Nat) (hk : k ≤ 1048576) w => parent_c d k w (by omega)
  have hlen := I.len
  have hPi := hP i (by omega) w
  have k0 := hs.cell 0 rfl (o := 0) rfl
  obtain ⟨di, hdi⟩ : ∃ di, di = depthI d i := ⟨_, rfl⟩
  have hpost : ∀ (b : Bool) (l' : List Int) (g' : γ) (wx : World), l'.Perm l → Within R di g g' → (0 < i → askedR R g g') → (b = false → l' = l ∧ (0 < i → lt (rat l i) (rat l (par d i)) = false)) → (b = true → 0 < i ∧ lt (rat l i) (rat l (par d i)) = true) → (UpInv d lt l i → Heap d lt l') → Stage F0 W0 (rowO r bm v d l' ++ O g' :: q) wx → ClimbPost O R lt F0 W0 r bm v d l g q i (.returned (.bool b)) wx :=
    fun b l' g' wx h1 h2 h0 h3 h4 h5 h6 => ⟨b, l', g', rfl, h1, by rw [← hdi]; exact h2, h0, h3, h4, h5, h6⟩
  go_enter Try.func71, Try.ntmps71
  go_wp2_with fail
  refine hPi.mono ?_
  rintro e w1 ⟨rfl, rfl⟩
  clear hPi k0
  go_wp2_with fail
  go_loopw [2, 8, 9] (fun x y z wr => ∃ (k : Nat) (l1 : List Int) (g1 : γ), x = .int .i64 k ∧ y = .int .i64 (parD d k).1 ∧ z = .bool (parD d k).2 ∧ k ≤ i ∧ l1.Perm l ∧ depthI d k ≤ di ∧ Within R (di - depthI d k) g g1 ∧
      ((k = i ∧ l1 = l ∧ g1 = g) ∨ (k < i ∧ lt (rat l i) (rat l (par d i)) = true ∧ askedR R g g1)) ∧ (UpInv d lt l i → UpInv d lt l1 k) ∧ Stage F0 W0 (rowO r bm v d l1 ++ O g1 :: q) wr) (fun x _ _ _ => (intOf x).toNat)
  case atStart => exact ⟨i, l, g, rfl, rfl, rfl, Nat.le_refl _, List.Perm.refl _, by omega, Within.refl _ _ _, Or.inl ⟨rfl, rfl, rfl⟩, id, hs⟩
  case round =>
    clear hs
    obtain ⟨k, l1, g1, rfl, rfl, rfl, hk, hp, hdk, hw, hcase, hU, hs⟩ := hrel
    have I1 := I.perm hp
    have S1 : Strict lt l1 := S.strict I1.nodup (fun x hx => hp.mem_iff.1 hx)
    have hl1 := hp.length_eq
    have hend : ∀ (g2 : γ) (wx : World), (k = 0 ∨ lt (rat l1 k) (rat l1 (par d k)) = false) → Within R di g g2 → (0 < i → askedR R g g2) → Stage F0 W0 (rowO r bm v d l1 ++ O g2 :: q) wx → ClimbPost O R lt F0 W0 r bm v d l g q i (.returned (.bool (!decide (k = i)))) wx := by
      intro g2 wx h1 h2 h0 h3
      refine hpost _ l1 g2 wx hp h2 h0 (fun hb => ?_) (fun hb => ?_) (fun U => up_stop (hU U) h1) h3
      · have hki : k = i := by simpa using hb
        rcases hcase with ⟨_, e, _⟩ | ⟨h, _⟩
        · subst hki; subst e
          exact ⟨rfl, fun h => by rcases h1 with h1 | h1; omega; exact h1⟩
        · omega
      · have hki : ¬ k = i := by simpa using hb
        rcases hcase with ⟨h, _⟩ | ⟨h, e, _⟩
        · exact absurd h hki
        · exact ⟨by omega, e⟩
    have hne : ((k : Int) == (i : Int)) = decide (k = i) := by rw [Bool.eq_iff_iff]; simp; omega
    by_cases h0 : 0 < k
    · have hpl := par_lt (d := d) (by omega) h0
      have hdp := depth_par (d := d) (by omega) h0
      rw [parD_nat hd.1 hd.2 h0]
      have hA := rahead_st A hs I1 k (par d k) (by omega) (by omega)
      have hPk := hP (par d k) (by omega)
      have hU' := fun h => (fun U => up_step (by omega) S1 (hU U) h0 h : UpInv d lt l i → UpInv d lt (swapL l1 k (par d k)) (par d k))
      have hsp := swap_perm (l := l1) (i := k) (j := par d k) (by omega) (by omega)
      have hcase' : lt (rat l1 k) (rat l1 (par d k)) = true → lt (rat l i) (rat l (par d i)) = true := by
        rcases hcase with ⟨h, e, _⟩ | ⟨_, e, _⟩
        · subst h; subst e; exact id
        · exact fun _ => e
      have hask : ∀ g2, R g1 g2 → askedR R g g2 := fun g2 r => by
        rcases hcase with ⟨_, _, e⟩ | ⟨_, _, e⟩
        · rw [← e]; exact askedR.one r
        · exact e.more r
      clear hP hcase hpost
      cases hB : lt (rat l1 k) (rat l1 (par d k))
      · rw [hB] at hA
        have hE := fun g2 wx => hend g2 wx (Or.inr hB)
        clear hend hU hU' hcase' hsp
        generalize par d k = p at *
        go_wp2_with fail
        refine hA.mono ?_
        rintro e w1 ⟨rfl, g2, hr, hs1⟩
        have hE2 := hE g2 w1 ((hw.more hr).mono (by omega)) (fun _ => hask g2 hr) hs1
        have hne2 : ((k : Int) != (i : Int)) = !decide (k = i) := by rw [bne, hne]
        clear hA hs hE hne
        generalize (!decide (k = i)) = B at *
        go_wp2_with fail
        go_ret
        exact hE2
      · rw [hB] at hA
        replace hcase' := hcase' hB
        replace hU' := hU' hB
        clear hend hU hB
        have hkl : k < l1.length := by omega
        generalize hpe : par d k = p at *
        go_wp2_with fail
        refine hA.mono ?_
        rintro e w1 ⟨rfl, g2, hr, hs1⟩
        have hw2 := hw.more hr
        clear hA hs hne hw
        have hSw := rswap_st hs1 I1 k p (by omega) (by omega)
        have hl2 : (swapL l1 k p).length = l1.length := swap_len _ _ _
        have hp2 := hsp.trans hp
        clear hsp
        generalize swapL l1 k p = l2 at *
        go_wp2_with fail
        refine hSw.mono ?_
        rintro e w2 ⟨rfl, hs2⟩
        clear hs1 hSw
        have k0 := hs2.cell 0 rfl (o := 0) rfl
        have hPk2 := hPk w2
        clear hPk
        go_wp2_with fail
        refine hPk2.mono ?_
        rintro e w3 ⟨rfl, rfl⟩
        go_wp2_with fail
        go_roundw
        case rel => exact ⟨p, l2, g2, rfl, rfl, rfl, by omega, hp2, by omega, hw2.mono (by omega), Or.inr ⟨by omega, hcase', hask g2 hr⟩, hU', hs2⟩
        case measure => simp [intOf]; omega
    · have h00 : k = 0 := by omega
      have e4 : parD (d : Int) (k : Int) = (0, false) := by unfold parD; rw [if_neg (by omega)]
      have hask0 : 0 < i → askedR R g g1 := fun h1 => by
        rcases hcase with ⟨e, _⟩ | ⟨_, _, e⟩
        · omega
        · exact e
      have hE2 := hend g1 wr (Or.inl h00) (hw.mono (by omega)) hask0 hs
      have hne2 : ((k : Int) != (i : Int)) = !decide (k = i) := by rw [bne, hne]
      rw [e4]
      clear hend hP hpost hne hcase hU hs e4 h00 h0 hask0
      generalize (!decide (k = i)) = B at *
      go_wp2_with fail
      go_ret
      exact hE2
end
end Go.Proofs.Ytlbbgdpdaelcdaa
