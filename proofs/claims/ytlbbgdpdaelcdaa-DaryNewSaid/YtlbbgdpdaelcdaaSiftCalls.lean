/- Merged of SiftDown, SiftCalls. -/
import Derived.Test.YtlbbgdpdaelcdaaSiftUp
namespace Go.Proofs.Ytlbbgdpdaelcdaa
open Go.RowKit Go.Sort

/-- Of a place and those of its children that come ahead of k: it is ahead of the others. -/
def First (d : Nat) (lt : Int → Int → Bool) (l : List Int) (i k b : Nat) : Prop :=
  b < l.length ∧ ((b = i ∧ ∀ j, 1 ≤ j → j < k → i * d + j < l.length → lt (rat l (i * d + j)) (rat l i) = false) ∨
    (∃ m, 1 ≤ m ∧ m < k ∧ b = i * d + m ∧ lt (rat l b) (rat l i) = true ∧ ∀ j, 1 ≤ j → j < k → i * d + j < l.length → lt (rat l (i * d + j)) (rat l b) = false))
theorem First.start {d : Nat} {lt : Int → Int → Bool} {l : List Int} {i : Nat} (hi : i < l.length) : First d lt l i 1 i := ⟨hi, Or.inl ⟨rfl, fun j h1 h2 => by omega⟩⟩
theorem First.none {d : Nat} {lt : Int → Int → Bool} {l : List Int} {i k b : Nat} (h : First d lt l i k b) (hn : ¬ i * d + k < l.length) : First d lt l i (k + 1) b := by
  obtain ⟨h1, h2⟩ := h
  refine ⟨h1, ?_⟩
  rcases h2 with ⟨e, h⟩ | ⟨m, m1, m2, m3, m4, h⟩
  · exact Or.inl ⟨e, fun j j1 j2 j3 => h j j1 (by have : j ≠ k := fun e => hn (e ▸ j3); omega) j3⟩
  · exact Or.inr ⟨m, m1, by omega, m3, m4, fun j j1 j2 j3 => h j j1 (by have : j ≠ k := fun e => hn (e ▸ j3); omega) j3⟩
theorem First.keep {d : Nat} {lt : Int → Int → Bool} {l : List Int} {i k b : Nat} (h : First d lt l i k b) (hn : lt (rat l (i * d + k)) (rat l b) = false) : First d lt l i (k + 1) b := by
  obtain ⟨h1, h2⟩ := h
  refine ⟨h1, ?_⟩
  rcases h2 with ⟨e, h⟩ | ⟨m, m1, m2, m3, m4, h⟩
  · refine Or.inl ⟨e, fun j j1 j2 j3 => ?_⟩
    by_cases ej : j = k
    · subst ej; subst e; exact hn
    · exact h j j1 (by omega) j3
  · refine Or.inr ⟨m, m1, by omega, m3, m4, fun j j1 j2 j3 => ?_⟩
    by_cases ej : j = k
    · subst ej; exact hn
    · exact h j j1 (by omega) j3
theorem First.turn {d : Nat} {lt : Int → Int → Bool} {l : List Int} {i k b : Nat} (s : Strict lt l) (h : First d lt l i k b) (hi : i < l.length) (hk : 1 ≤ k) (hl : i * d + k < l.length) (hn : lt (rat l (i * d + k)) (rat l b) = true) : First d lt l i (k + 1) (i * d + k) := by
  obtain ⟨h1, h2⟩ := h
  have ha := s.asymm hl h1 hn
  refine ⟨hl, Or.inr ⟨k, hk, by omega, rfl, ?_, fun j j1 j2 j3 => ?_⟩⟩
  · rcases h2 with ⟨e, h⟩ | ⟨m, m1, m2, m3, m4, h⟩
    · subst e; exact hn
    · exact s.trans _ _ _ hl h1 hi hn m4
  · by_cases ej : j = k
    · subst ej; exact s.irr _ hl
    · rcases h2 with ⟨e, h⟩ | ⟨m, m1, m2, m3, m4, h⟩
      · have := h j j1 (by omega) j3
        subst e
        exact s.le_trans j3 h1 hl this ha
      · exact s.le_trans j3 h1 hl (h j j1 (by omega) j3) ha
theorem First.end {d : Nat} {lt : Int → Int → Bool} {l : List Int} {i b : Nat} (hd : 1 ≤ d) (h : First d lt l i (d + 1) b) :
    (b = i ∧ ∀ k, 0 < k → k < l.length → par d k = i → lt (rat l k) (rat l i) = false) ∨
    (0 < b ∧ b < l.length ∧ par d b = i ∧ lt (rat l b) (rat l i) = true ∧ ∀ k, 0 < k → k < l.length → par d k = i → lt (rat l k) (rat l b) = false) := by
  have hkid : ∀ k, 0 < k → par d k = i → ∃ j, 1 ≤ j ∧ j < d + 1 ∧ k = i * d + j := fun k h0 hp => by
    have := (par_eq hd h0).1 hp
    rw [Nat.mul_comm] at this
    exact ⟨k - i * d, by omega, by omega, by omega⟩
  obtain ⟨h1, ⟨e, h⟩ | ⟨m, m1, m2, m3, m4, h⟩⟩ := h
  · refine Or.inl ⟨e, fun k h0 hl hp => ?_⟩
    obtain ⟨j, j1, j2, rfl⟩ := hkid k h0 hp
    exact h j j1 j2 hl
  · refine Or.inr ⟨by omega, h1, (par_eq hd (by omega)).2 (by rw [Nat.mul_comm]; omega), m4, fun k h0 hl hp => ?_⟩
    obtain ⟨j, j1, j2, rfl⟩ := hkid k h0 hp
    exact h j j1 j2 hl
/-- How many children there are to be asked for, at most. -/
def kidsN (d : Nat) (l : List Int) (i k : Nat) : Nat := if i * d + 1 < l.length then k else 0
/-- Behind 'first'. -/
def FirstPost {γ : Type} (O : γ → Ob) (R : γ → γ → Prop) (lt : Int → Int → Bool) (F0 : Nat → Prop) (W0 : World) (r bm : Nat) (v : Value) (d : Nat) (l : List Int) (g : γ) (q : List Ob) (i : Nat) (e : Ending) (w' : World) : Prop :=
  ∃ (b : Nat) (g' : γ), e = .returned (.int .i64 b) ∧ First d lt l i (d + 1) b ∧ Within R (kidsN d l i d) g g' ∧ Stage F0 W0 (rowO r bm v d l ++ O g' :: q) w'
section
variable {γ : Type} {O : γ → Ob} {R : γ → γ → Prop} {ok : Int → Prop} {lt : Int → Int → Bool} {H : World → Prop} {T : TypeId} {u : Value} {fn : Fn}
variable {F0 : Nat → Prop} {W0 w : World} {r bm : Nat} {v : Value} {d : Nat} {l : List Int} {g : γ} {q : List Ob}
set_option maxRecDepth 100000 in
/-- 'ahead', where there is none. -/
theorem ahead_no (T : TypeId) (u : Value) (hs : Stage F0 W0 (rowO r bm v d l ++ q) w) (i j : Int) (hi : ¬ (0 ≤ i ∧ i < l.length)) :
    Calls Try.prog 95 #[.pointer (some ⟨r, 0, none⟩), .iface T u, .int .i64 i, .int .i64 j] w fun e w' => e = .returned (.bool false) ∧ w = w' := by
  have h1 := sat_st hs i
  have h2 := sat_st hs j
  rw [atD_not hi] at h1
  generalize (atD l j).1 = x at *
  generalize (atD l j).2 = b at *
  clear hs hi
  go_enter Try.func95, Try.ntmps95
  go_wp2_with fail
  refine h1.mono ?_
  rintro e w1 ⟨rfl, rfl⟩
  go_wp2_with fail
  refine h2.mono ?_
  rintro e w1 ⟨rfl, rfl⟩
  clear h1 h2
  go_wp2_with fail
  go_ret
  exact ⟨rfl, rfl⟩
set_option maxRecDepth 100000 in
set_option maxHeartbeats 1000000 in
theorem first_st (A : Asks O R ok lt H T u fn) (hd : 2 ≤ d ∧ d ≤ 16) (hs : Stage F0 W0 (rowO r bm v d l ++ O g :: q) w) (I : RowIn ok l) (S : StrictM lt (· ∈ l)) (i : Nat) (hi : i < l.length) :
    Calls Try.prog 97 #[.pointer (some ⟨r, 0, none⟩), .iface T u, .int .i64 i] w (FirstPost O R lt F0 W0 r bm v d l g q i) := by
  have hlen := I.len
  have hC : ∀ (k : Nat), 1 ≤ k → k ≤ d → ∀ w, Calls Try.prog 104 #[.int .i64 d, .int .i64 i, .int .i64 k] w fun e w' => e = .returned (.tuple #[.int .i64 ((i * d + k : Nat) : Int), .bool true]) ∧ w = w' := by
    intro k h1 h2 w
    have h3 := child_c d i k w
    have e : childD d i k = (((i * d + k : Nat) : Int), true) := by
      unfold childD; rw [if_pos ⟨rightD_iff.2 (by omega), by omega, by omega, by omega, by omega⟩]; simp
    rw [e] at h3
    exact h3
  have S1 : Strict lt l := S.strict I.nodup (fun x hx => hx)
  go_enter Try.func97, Try.ntmps97
  go_wp2_with fail
  go_loopw [7, 8] (fun x y wr => ∃ (k b : Nat) (g1 : γ), x = .int .i64 b ∧ y = .int .i64 k ∧ 1 ≤ k ∧ k ≤ d + 1 ∧ First d lt l i k b ∧ Within R (kidsN d l i (k - 1)) g g1 ∧ Stage F0 W0 (rowO r bm v d l ++ O g1 :: q) wr) (fun _ y _ => d + 1 - (intOf y).toNat)
  case atStart => exact ⟨1, i, g, rfl, rfl, by omega, by omega, First.start hi, Within.refl _ _ _, hs⟩
  case round =>
    clear hs
    obtain ⟨k, b, g1, rfl, rfl, hk1, hk2, hF, hw, hs⟩ := hrel
    have k0 := hs.cell 0 rfl (o := 0) rfl
    by_cases hkd : k ≤ d
    · have hkd' : (k : Int) ≤ d := by omega
      have hCk := hC k hk1 hkd
      have hb := hF.1
      have e1 : IntKind.i64.wrap ((k : Int) + 1) = ((k + 1 : Nat) : Int) := IntWalk.i64_in _ (by omega)
      have hidl : i * d ≤ 1048576 * 16 := Nat.mul_le_mul (by omega) hd.2
      by_cases hl : i * d + k < l.length
      · have hA := rahead_st A hs I (i * d + k) b hl hb
        have hFk := hF.keep
        have hFt := fun h => hF.turn S1 hi hk1 hl h
        have hkk : kidsN d l i (k - 1) + 1 ≤ kidsN d l i (k + 1 - 1) := by unfold kidsN; rw [if_pos (by omega), if_pos (by omega)]; omega
        generalize i * d + k = c at *
        clear hC hF
        cases hB : lt (rat l c) (rat l b)
        · rw [hB] at hA
          replace hFk := hFk hB
          clear hFt hB
          go_wp2_with fail
          refine (hCk _).mono ?_
          rintro e w1 ⟨rfl, rfl⟩
          go_wp2_with fail
          refine hA.mono ?_
          rintro e w1 ⟨rfl, g2, hr, hs1⟩
          have hw2 := hw.more hr
          clear hA hs hCk hw k0
          go_wp2_with fail
          go_roundw
          case rel => exact ⟨k + 1, b, g2, rfl, rfl, by omega, by omega, hFk, hw2.mono hkk, hs1⟩
          case measure => simp [intOf]; omega
        · rw [hB] at hA
          replace hFt := hFt hB
          clear hFk hB
          go_wp2_with fail
          refine (hCk _).mono ?_
          rintro e w1 ⟨rfl, rfl⟩
          go_wp2_with fail
          refine hA.mono ?_
          rintro e w1 ⟨rfl, g2, hr, hs1⟩
          have hw2 := hw.more hr
          clear hA hs hCk hw k0
          go_wp2_with fail
          go_roundw
          case rel => exact ⟨k + 1, c, g2, rfl, rfl, by omega, by omega, hFt, hw2.mono hkk, hs1⟩
          case measure => simp [intOf]; omega
      · have hA := ahead_no T u hs (((i * d + k : Nat) : Int)) b (by omega)
        have hFk := hF.none hl
        have hkk : kidsN d l i (k - 1) ≤ kidsN d l i (k + 1 - 1) := by unfold kidsN; split <;> omega
        generalize i * d + k = c at *
        clear hC hF hl
        go_wp2_with fail
        refine (hCk _).mono ?_
        rintro e w1 ⟨rfl, rfl⟩
        go_wp2_with fail
        refine hA.mono ?_
        rintro e w1 ⟨rfl, rfl⟩
        clear hA hCk k0
        go_wp2_with fail
        go_roundw
        case rel => exact ⟨k + 1, b, g1, rfl, rfl, by omega, by omega, hFk, hw.mono hkk, hs⟩
        case measure => simp [intOf]; omega
    · have hkd' : ¬ (k : Int) ≤ d := by omega
      have e1 : k = d + 1 := by omega
      subst e1
      rw [Nat.add_sub_cancel] at hw
      have hE : FirstPost O R lt F0 W0 r bm v d l g q i (.returned (.int .i64 b)) wr := ⟨b, g1, rfl, hF, hw, hs⟩
      clear hC hkd hF hw hs
      generalize d + 1 = k at *
      go_wp2_with fail
      go_ret
      exact hE
/-- Behind 'sink': all is in order. -/
def SinkPost (O : γ → Ob) (R : γ → γ → Prop) (lt : Int → Int → Bool) (F0 : Nat → Prop) (W0 : World) (r bm : Nat) (v : Value) (d : Nat) (l : List Int) (g : γ) (q : List Ob) (i : Nat) (e : Ending) (w' : World) : Prop :=
  ∃ (l' : List Int) (g' : γ), e = .returned (.tuple #[]) ∧ l'.Perm l ∧ Within R (d * (depthI d (l.length - 1) - depthI d i)) g g' ∧ Heap d lt l' ∧ Stage F0 W0 (rowO r bm v d l' ++ O g' :: q) w'
theorem kids_deep {d : Nat} (hd : 1 ≤ d) {l : List Int} {k D : Nat} (hD : ∀ j, j < l.length → depthI d j ≤ D) (hk : k < l.length) (a : Nat) (ha : a ≤ depthI d k) : d * (depthI d k - a) + kidsN d l k d ≤ d * (D - a) := by
  have h1 := hD k hk
  unfold kidsN
  split
  · rename_i h
    have h2 := hD _ h
    rw [depth_child hd (Nat.le_refl 1) hd] at h2
    have : d * (depthI d k - a) + d = d * (depthI d k - a + 1) := (Nat.mul_succ _ _).symm
    rw [this]
    exact Nat.mul_le_mul_left _ (by omega)
  · rw [Nat.add_zero]
    exact Nat.mul_le_mul_left _ (by omega)
set_option maxRecDepth 100000 in
set_option maxHeartbeats 1000000 in
theorem sink_st (A : Asks O R ok lt H T u fn) (hd : 2 ≤ d ∧ d ≤ 16) (hs : Stage F0 W0 (rowO r bm v d l ++ O g :: q) w) (I : RowIn ok l) (S : StrictM lt (· ∈ l)) (i : Nat) (hi : i < l.length) (D : DownInv d lt l i) :
    Calls Try.prog 75 #[.pointer (some ⟨r, 0, none⟩), .iface T u, .int .i64 i] w (SinkPost O R lt F0 W0 r bm v d l g q i) := by
  obtain ⟨dm, hdm⟩ : ∃ dm, dm = depthI d (l.length - 1) := ⟨_, rfl⟩
  obtain ⟨a, ha⟩ : ∃ a, a = depthI d i := ⟨_, rfl⟩
  obtain ⟨n, hn⟩ : ∃ n, n = l.length := ⟨_, rfl⟩
  have hdeep : ∀ j, j < n → depthI d j ≤ dm := fun j hj => by rw [hdm]; exact depth_mono (by omega) _ _ (by omega)
  have hpost : ∀ (l' : List Int) (g' : γ) (wx : World), l'.Perm l → Within R (d * (dm - a)) g g' → Heap d lt l' → Stage F0 W0 (rowO r bm v d l' ++ O g' :: q) wx → SinkPost O R lt F0 W0 r bm v d l g q i (.returned (.tuple #[])) wx :=
    fun l' g' wx h1 h2 h3 h4 => ⟨l', g', rfl, h1, by rw [← hdm, ← ha]; exact h2, h3, h4⟩
  have hF := first_st A hd hs I S i hi
  rw [← hn] at hi
  go_enter Try.func75, Try.ntmps75
  go_wp2_with fail
  refine hF.mono ?_
  rintro e w1 ⟨b, g0, rfl, hF1, hw0, hs0⟩
  clear hF
  go_wp2_with fail
  go_loopw [2, 6] (fun x y wr => ∃ (k b : Nat) (l1 : List Int) (g1 : γ), x = .int .i64 k ∧ y = .int .i64 b ∧ k < n ∧ a ≤ depthI d k ∧ l1.Perm l ∧ First d lt l1 k (d + 1) b ∧ DownInv d lt l1 k ∧ Within R (d * (depthI d k - a) + kidsN d l1 k d) g g1 ∧ Stage F0 W0 (rowO r bm v d l1 ++ O g1 :: q) wr) (fun x _ _ => n - (intOf x).toNat)
  case atStart => exact ⟨i, b, l, g0, rfl, rfl, hi, by omega, List.Perm.refl _, hF1, D, hw0.mono (by omega), hs0⟩
  case round =>
    clear hs hs0 hF1 hw0 D
    obtain ⟨k, b, l1, g1, rfl, rfl, hk, hak, hp, hF, D, hw, hs⟩ := hrel
    have I1 := I.perm hp
    have S1 : Strict lt l1 := S.strict I1.nodup (fun x hx => hp.mem_iff.1 hx)
    have hl1 := hp.length_eq
    rw [← hn] at hl1
    have hdl : d * (depthI d k - a) + kidsN d l1 k d ≤ d * (dm - a) := kids_deep (by omega) (fun j hj => hdeep j (by omega)) (by omega) a hak
    rcases hF.end (by omega) with ⟨hb, h⟩ | ⟨h0, hbl, hpb, hlt, hmin⟩
    · have hE := hpost l1 g1 wr hp (hw.mono hdl) (down_stop D h) hs
      subst hb
      clear hpost h hF D hw hs
      go_wp2_with fail
      go_end0
      exact hE
    · have hD2 := down_step (by omega) S1 D h0 hbl hpb hlt hmin
      have hdb := depth_par (d := d) (by omega) h0
      rw [hpb] at hdb
      have hkb := par_lt (d := d) (by omega) h0
      rw [hpb] at hkb
      have hSw := rswap_st hs I1 k b (by omega) hbl
      have hl2 : (swapL l1 k b).length = l1.length := swap_len _ _ _
      have hp2 := (swap_perm (l := l1) (i := k) (j := b) (by omega) hbl).trans hp
      have hle : d * (depthI d k - a) + kidsN d l1 k d ≤ d * (depthI d b - a) := by
        have h1 : kidsN d l1 k d ≤ d := by unfold kidsN; split <;> omega
        have h2 : d * (depthI d k - a) + d = d * (depthI d k - a + 1) := (Nat.mul_succ _ _).symm
        have h3 : depthI d b - a = depthI d k - a + 1 := by omega
        rw [h3]
        omega
      have hne : ((b : Int) != (k : Int)) = true := by simp; omega
      have hne2 : ((b : Int) == (k : Int)) = false := by simp; omega
      clear hmin hlt hF D hpost hpb
      generalize swapL l1 k b = l2 at *
      go_wp2_with fail
      refine hSw.mono ?_
      rintro e w2 ⟨rfl, hs2⟩
      clear hs hSw
      have hFn := first_st A hd hs2 (I.perm hp2) ⟨fun x hx => S.irr x (hp2.mem_iff.1 hx), fun x y z hx hy hz => S.trans x y z (hp2.mem_iff.1 hx) (hp2.mem_iff.1 hy) (hp2.mem_iff.1 hz), fun x y hx hy => S.total x y (hp2.mem_iff.1 hx) (hp2.mem_iff.1 hy)⟩ b (by omega)
      go_wp2_with fail
      refine hFn.mono ?_
      rintro e w3 ⟨b2, g2, rfl, hF2, hw2, hs3⟩
      clear hFn hs2
      go_wp2_with fail
      go_roundw
      case rel => exact ⟨b, b2, l2, g2, rfl, rfl, by omega, by omega, hp2, hF2, hD2, ((hw.mono hle).trans hw2).mono (by omega), hs3⟩
      case measure => simp [intOf]; omega
end
end Go.Proofs.Ytlbbgdpdaelcdaa

namespace Go.Proofs.Ytlbbgdpdaelcdaa
open Go.RowKit Go.Sort

theorem place_nil : placeL [] = fun _ => none := by funext x; simp [placeL]
theorem place_add {l : List Int} {x : Int} (hn : (l ++ [x]).Nodup) : setZ (placeL l) x (some (l.length : Int)) = placeL (l ++ [x]) := by
  have hx : x ∉ l := fun h => by
    have := (List.nodup_append.1 hn).2.2 x h x (by simp)
    exact this rfl
  refine place_ext hn (fun k hk => ?_) (fun y hy => ?_)
  · simp only [List.length_append, List.length_cons, List.length_nil] at hk
    have hr : rat (l ++ [x]) k = if k = l.length then x else rat l k := getD_snoc' l k x 0
    rw [hr]
    by_cases h : k = l.length
    · rw [if_pos h, setZ_same, h]
    · rw [if_neg h, setZ_other _ _ (fun e => hx (by rw [← e]; exact rat_mem (by omega))), place_rat (List.nodup_append.1 hn).1 (by omega)]
  · simp only [List.mem_append, List.mem_singleton, not_or] at hy
    rw [setZ_other _ _ hy.2, place_none hy.1]
theorem list_ext {a b : List Int} (h : a.length = b.length) (hr : ∀ k, k < a.length → rat a k = rat b k) : a = b := by
  apply List.ext_getElem h
  intro k h1 h2
  have := hr k h1
  simpa [rat, List.getD_eq_getElem?_getD, h1, h2] using this
/-- The last one in the hole's place, and the row by one shorter. -/
theorem swap_take {l : List Int} {m i : Nat} (hl : l.length = m + 1) (hi : i ≤ m) : (swapL l i m).take m = fillL l i := by
  refine list_ext (by rw [fill_len]; simp [swap_len, hl]) (fun k hk => ?_)
  simp only [List.length_take, swap_len] at hk
  rw [rat_take (by omega), rat_swap (by omega) (by omega)]
  rw [if_neg (by omega)]
  by_cases h : i < m
  · rw [rat_fill (by omega) (by omega)]
    by_cases e : k = i
    · subst e; rw [if_pos rfl, if_pos rfl, hl, Nat.add_sub_cancel]
    · rw [if_neg e, if_neg (fun x => e x.symm)]
  · have e : i = m := by omega
    subst e
    rw [if_neg (by omega)]
    unfold fillL
    rw [List.set_eq_of_length_le (by simp; omega), rat_take (by omega)]
theorem place_del {l : List Int} (hn : l.Nodup) {m i : Nat} (hl : l.length = m + 1) (hi : i ≤ m) : setZ (placeL (swapL l i m)) (rat l i) none = placeL (fillL l i) := by
  have hp := swap_perm (l := l) (i := i) (j := m) (by omega) (by omega)
  have hn' := hp.nodup_iff.2 hn
  have hf := fill_nodup hn (i := i) (by omega)
  have hpf := fill_perm (l := l) (i := i) (by omega)
  have hni : rat l i ∉ fillL l i := (List.nodup_cons.1 (hpf.nodup_iff.2 hn)).1
  refine place_ext hf (fun k hk => ?_) (fun y hy => ?_)
  · have hkl := hk
    rw [fill_len] at hkl
    have h1 : rat (fillL l i) k ≠ rat l i := fun e => hni (by rw [← e]; exact rat_mem hk)
    rw [setZ_other _ _ h1, ← swap_take hl hi, rat_take (by omega), place_rat hn' (by rw [swap_len]; omega)]
  · by_cases e : y = rat l i
    · rw [e, setZ_same]
    · rw [setZ_other _ _ e]
      apply place_none
      intro h
      have := hpf.mem_iff.2 (hp.mem_iff.1 h)
      rcases List.mem_cons.1 this with h1 | h1
      · exact e h1
      · exact hy h1
/-- Two things of a stage change places. -/
theorem Stage.swapAt {F0 : Nat → Prop} {W0 w : World} {a b : List Ob} {x y : Ob} (h : Stage F0 W0 (a ++ x :: y :: b) w) : Stage F0 W0 (a ++ y :: x :: b) w := by
  obtain ⟨hk, F, h1, h2, h3⟩ := h
  have hp : ∀ i, i = a.length ∨ i = a.length + 1 ∨ (i ≠ a.length ∧ i ≠ a.length + 1) := fun i => by omega
  refine ⟨hk, fun j => F (if j = a.length then a.length + 1 else if j = a.length + 1 then a.length else j), fun i O hi => h1 _ O ?_, fun i j c hij => h2 _ _ c (?_ : (if i = a.length then a.length + 1 else if i = a.length + 1 then a.length else i) ≠ (if j = a.length then a.length + 1 else if j = a.length + 1 then a.length else j)), fun i c => h3 _ c⟩
  rotate_left
  · repeat' split
    all_goals omega
  rcases hp i with rfl | rfl | ⟨n1, n2⟩
  · rw [if_pos rfl, List.getElem?_append_right (by omega), Nat.add_sub_cancel_left]
    rw [List.getElem?_append_right (Nat.le_refl _), Nat.sub_self] at hi
    exact hi
  · rw [if_neg (by omega), if_pos rfl, List.getElem?_append_right (Nat.le_refl _), Nat.sub_self]
    rw [List.getElem?_append_right (by omega), Nat.add_sub_cancel_left] at hi
    exact hi
  · rw [if_neg n1, if_neg n2]
    by_cases hlt : i < a.length
    · rw [List.getElem?_append_left hlt] at hi ⊢; exact hi
    · obtain ⟨k, rfl⟩ : ∃ k, i = a.length + (k + 2) := ⟨i - a.length - 2, by omega⟩
      rw [List.getElem?_append_right (by omega), Nat.add_sub_cancel_left] at hi ⊢
      exact hi
section
variable {F0 : Nat → Prop} {W0 w : World} {r bm : Nat} {v : Value} {d : Nat} {l : List Int} {q : List Ob}
theorem snew_st (hs : Stage F0 W0 q w) (d : Nat) (hd : 2 ≤ d ∧ d ≤ 16) :
    Calls Try.prog 32 #[.int .i64 d] w fun e w' => e = .returned (.tuple #[.pointer (some ⟨w.heap.size + 1, 0, none⟩), .int .i64 0]) ∧ Stage F0 W0 (q ++ rowO (w.heap.size + 1) w.heap.size (.slice none 0 0) d []) w' := by
  have hR := isdeg_c d w
  rw [rightD_iff.2 (show 2 ≤ (d : Int) ∧ (d : Int) ≤ 16 by omega)] at hR
  have h1 := hs.newZMap Try.prog 3 3 rfl
  have h2 := h1.alloc' #[.int .i64 d, .slice none 0 0, .map (some w.heap.size)] 95 (size_alloc _ _)
  have h3 := h2.nilRow 0 3 1
  obtain ⟨w2, hw2⟩ : ∃ w2, w2 = (w.alloc (Obj.map #[] 0)).alloc (Obj.cells #[Value.int IntKind.i64 ↑d, Value.slice none 0 0, Value.map (some w.heap.size)] 95) := ⟨_, rfl⟩
  have h4 : Stage F0 W0 (q ++ rowO (w.heap.size + 1) w.heap.size (.slice none 0 0) d []) w2 := by
    unfold rowO rowP
    rw [place_nil, hw2]
    rw [List.append_assoc, List.append_assoc] at h3
    have h5 := Stage.swapAt (a := q) (b := [_]) h3
    have h6 := Stage.swapAt (a := q ++ [_]) (b := []) (by rw [List.append_assoc]; exact h5)
    rw [List.append_assoc] at h6
    exact h6
  rw [hw2] at h4
  clear h1 h2 h3 hs hw2
  have hmm := @run_makeMap Try.prog
  go_enter Try.func32, Try.ntmps32
  go_wp2_with fail
  refine hR.mono ?_
  rintro e w1 ⟨rfl, rfl⟩
  go_wp2_with fail
  go_ret2
  exact ⟨rfl, h4⟩
theorem snew_no (d : Int) (hd : rightD d = false) (w : World) : Calls Try.prog 32 #[.int .i64 d] w fun e w' => e = .returned (.tuple #[.pointer none, .int .i64 22]) ∧ w = w' := by
  have hR := isdeg_c d w
  rw [hd] at hR
  go_enter Try.func32, Try.ntmps32
  go_wp2_with fail
  refine hR.mono ?_
  rintro e w1 ⟨rfl, rfl⟩
  go_wp2_with fail
  go_ret2
  exact ⟨rfl, rfl⟩
end
end Go.Proofs.Ytlbbgdpdaelcdaa
