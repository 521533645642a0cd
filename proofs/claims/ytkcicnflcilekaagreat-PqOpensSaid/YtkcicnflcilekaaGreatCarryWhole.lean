/- Two rows of roots become one: Carry. -/
import Derived.Test.YtkcicnflcilekaaGreatCarryJoin
namespace Go.Proofs.YtkcicnflcilekaaGreat
open Go.RowKit Go.Sort

theorem ints_take_reads {F0 : Nat → Prop} {W w : World} {L : List Ob} {a : Option Addr} {c : Nat} {l : List Int} (h : Stage F0 W L w) (i : Nat) (hi : L[i]? = some (Ob.ints (.slice a l.length c) l)) (m : Nat) (hm : m ≤ l.length) : RowReads w 1 (.slice a m c) m (cellsBy intC (l.take m)) := by
  refine ⟨by rw [cellsBy_length intC 1 intC_len, List.length_take, Nat.min_eq_left hm], ?_⟩
  obtain ⟨h1, h2 | ⟨g, cap, cur, hv, _⟩⟩ := h.owns i hi
  · obtain ⟨e1, e2⟩ := h2
    injection e1 with e1 e3 e4
    subst e1 e4
    exact Or.inl ⟨by rw [show m = 0 by omega], by omega⟩
  · injection hv with e1 e2 e3
    subst e1 e3
    refine Or.inr ⟨_, _, rfl, fun j u hj => ?_⟩
    rw [add_at, Nat.zero_add]
    have hjm : j < m := by
      have := (List.getElem?_eq_some_iff.1 hj).1
      rw [cellsBy_length intC 1 intC_len, List.length_take, Nat.min_eq_left hm] at this
      omega
    obtain ⟨g2, c2, e5, _, _, _, hc, _⟩ := h.intsAt i hi (by omega)
    cases e5
    rw [hc j (by omega)]
    have h3 := cellsBy_get intC 1 intC_len 0 (l.take m) j 0 (by rw [List.length_take, Nat.min_eq_left hm]; exact hjm) (by omega)
    rw [Nat.mul_one, Nat.add_zero] at h3
    rw [h3] at hj
    have h4 : (l.take m).getD j 0 = l.getD j 0 := by simp [List.getD_eq_getElem?_getD, hjm]
    rw [h4] at hj
    exact hj
section
variable {γ : Type} {F : Nat → Prop} {w : World} {p n : Nat} {K : Int → List Int} {O : γ → Ob} {g : γ} {R : γ → γ → Prop} {ok : Int → Prop} {lt : Int → Int → Bool} {H : World → Prop} {T : TypeId} {u : Value} {fn : Fn}
/-- Both rows can be looked at wherever whoever is asked is. -/
structure Views (O : γ → Ob) (a : Option Addr) (la : List Int) (ca : Nat) (b : Option Addr) (lb : List Int) (cb : Nat) : Prop where
  at' : ∀ {g w F}, (O g).holds w F → IntsAt w .i64 a la ∧ IntsAt w .i64 b lb
  ca : la.length ≤ ca ∧ ca ≤ 9223372036854775807
  cb : lb.length ≤ cb ∧ cb ≤ 9223372036854775807
variable {a b : Option Addr} {ca cb : Nat} {la lb : List Int}
theorem take_all (K : Int → List Int) (d : Nat) (S A S1 A1 : List Int) (h : takeK K d S A = (S1, A1)) (x : Int) : x ∈ S1 ∨ x ∈ A1 ↔ x ∈ S ∨ x ∈ A := by
  cases A with
  | nil => cases h; exact Iff.rfl
  | cons y r =>
    have e : takeK K d S (y :: r) = if d < (K y).length then (S, y :: r) else (S ++ [y], r) := rfl
    rw [e] at h
    split at h
    · cases h; exact Iff.rfl
    · cases h; simp [or_assoc]
theorem take_le (K : Int → List Int) (d : Nat) (S A S1 A1 : List Int) (h : takeK K d S A = (S1, A1)) : A1.length ≤ A.length := by
  cases A with
  | nil => cases h; exact Nat.le_refl _
  | cons y r =>
    have e : takeK K d S (y :: r) = if d < (K y).length then (S, y :: r) else (S ++ [y], r) := rfl
    rw [e] at h
    split at h
    · cases h; exact Nat.le_refl _
    · cases h; simp
theorem take_len (K : Int → List Int) (d : Nat) (S A S1 A1 : List Int) (h : takeK K d S A = (S1, A1)) : S1.length ≤ S.length + 1 := by
  cases A with
  | nil => cases h; exact Nat.le_succ _
  | cons y r =>
    have e : takeK K d S (y :: r) = if d < (K y).length then (S, y :: r) else (S ++ [y], r) := rfl
    rw [e] at h
    split at h
    · cases h; exact Nat.le_succ _
    · cases h; simp
theorem ints_shift {w : World} {g : Nat} {x : Int} {l : List Int} (h : IntsAt w .i64 (some ⟨g, 0, none⟩) (x :: l)) : IntsAt w .i64 (some ⟨g, 1, none⟩) l := fun i hi => by
  obtain ⟨b', o', e1, e2⟩ := h (i + 1) (by simp; omega)
  cases e1
  exact ⟨g, 1, rfl, by rw [show 1 + i = 0 + (i + 1) by omega]; exact e2⟩
theorem ints_form' {F0 : Nat → Prop} {W w : World} {L : List Ob} {a : Option Addr} {c : Nat} {l : List Int} (h : Stage F0 W L w) (i : Nat) (hi : L[i]? = some (Ob.ints (.slice a l.length c) l)) : (a = none ∧ c = 0 ∧ l = []) ∨ ∃ g, a = some ⟨g, 0, none⟩ := by
  obtain ⟨h1, h2 | ⟨g, cap, cur, hv, _⟩⟩ := h.owns i hi
  · obtain ⟨e1, e2⟩ := h2
    injection e1 with e1 e3 e4
    exact Or.inl ⟨e1, e4, List.length_eq_zero_iff.1 e3⟩
  · injection hv with e1 e2 e3
    exact Or.inr ⟨g, e1⟩
theorem ints_app4 {F0 : Nat → Prop} {W0 w : World} {z : Value} {l m : List Int} {A B C : Ob} {j : Nat} (hj : m.length = j) (h : Stage F0 W0 [A, B, C, Ob.row 0 3 1 z (l.length + j) (cellsBy intC l ++ cellsBy intC m)] w) : Stage F0 W0 [A, B, C, Ob.ints z (l ++ m)] w := by
  have e1 : (l ++ m).length = l.length + j := by simp [hj]
  have e2 : cellsBy intC (l ++ m) = cellsBy intC l ++ cellsBy intC m := cellsBy_append intC l m
  unfold Ob.ints
  rw [e1, e2]
  exact h
def CarryPost (O : γ → Ob) (R : γ → γ → Prop) (lt : Int → Int → Bool) (F : Nat → Prop) (w : World) (p n : Nat) (K : Int → List Int) (g : γ) (L : List Int) (e : Ending) (w' : World) : Prop :=
  ∃ z m c K' g' k r, e = .returned (.tuple #[.slice z m c, .bool true]) ∧ (∃ r', Links n (fun x y => lt x y = true) K L k K' r' ∧ r'.Perm r) ∧ RowK n K' r ∧ Turns R k g g' ∧ Stage F w [Ob.forest p n K', O g', Ob.ints (.slice z m c) r] w'
set_option maxHeartbeats 4000000 in
set_option maxRecDepth 100000 in
theorem carry_yes (A : Asks O R ok lt H T u fn) (hlt : ∀ x y, lt x y = true → lt y x = false) (hokn : ∀ x ∈ la ++ lb, ok x) (V : Views O a la ca b lb cb) (hs : Stage F w [Ob.forest p n K, O g] w) (hRA : RowK n K la) (hRB : RowK n K lb) (hd : ¬ ∃ x ∈ la, x ∈ lb) :
    Calls Tryz.prog 192 #[.pointer (some ⟨p, 0, none⟩), .iface T u, .slice a la.length ca, .slice b lb.length cb] w (CarryPost O R lt F w p n K g (la ++ lb)) := by
  obtain ⟨hA, hB⟩ := (hs.get (i := 1) rfl).elim fun _ h => V.at' h
  have hRa := hs.ask 0 rfl (fun _ ho => row_f ho la a ca V.ca hA)
  have hRb := hs.ask 0 rfl (fun _ ho => row_f ho lb b cb V.cb hB)
  have hS := share_any la lb a b ca cb V.ca hA V.cb hB
  rw [isRow_iff.2 hRA] at hRa
  rw [isRow_iff.2 hRB] at hRb
  rw [decide_eq_false hd] at hS
  obtain ⟨I, hn⟩ := hs.forestInv 0 rfl
  have hroots : Roots n K (la ++ lb) := ⟨fun x hx => (List.mem_append.1 hx).elim (hRA.inn x) (hRB.inn x), fun x hx => (List.mem_append.1 hx).elim (hRA.top x) (hRB.top x), List.nodup_append.2 ⟨hRA.roots.nodup, hRB.roots.nodup, fun x hx y hy e => hd ⟨x, hx, e ▸ hy⟩⟩⟩
  have hst : CLoop n (fun x y => lt x y = true) K (la ++ lb) 0 K 0 [] [] la lb := CLoop.start hRA hRB
  have hbd := V.ca
  have hbd2 := V.cb
  obtain ⟨c1, c2⟩ := V.ca
  obtain ⟨c3, c4⟩ := V.cb
  have hla : la.length ≤ 65536 := Nat.le_trans (nodupK_in n la hRA.roots.nodup hRA.inn) hn
  have hlb : lb.length ≤ 65536 := Nat.le_trans (nodupK_in n lb hRB.roots.nodup hRB.inn) hn
  clear hRA hRB hd hA hB
  have hat : ∀ (g : γ) (w : World) (F : Nat → Prop), (O g).holds w F → IntsAt w .i64 a la ∧ IntsAt w .i64 b lb := fun g w F h => V.at' h
  clear V
  go_enter Tryz.func192, Tryz.ntmps192
  go_wp2_with fail
  refine hRa.mono ?_
  rintro e w1 ⟨rfl, rfl⟩
  go_wp2_with fail
  refine hRb.mono ?_
  rintro e w1 ⟨rfl, rfl⟩
  go_wp2_with fail
  refine hS.mono ?_
  rintro e w1 ⟨rfl, hb⟩
  have hs2 := ((hs.later hb).nilRow 0 3 1).nilRow 0 3 1
  clear hRa hRb hS hb
  go_wp2_with fail
  go_loopw [2, 3, 10, 11, 12] (fun x2 x3 x10 x11 x12 wr => ∃ (d k : Nat) (K' : Int → List Int) (g' : γ) (R' S A' B' : List Int) (a' b' : Option Addr) (ca' cb' : Nat) (sv rv : Value), x2 = .slice a' A'.length ca' ∧ x3 = .slice b' B'.length cb' ∧ x10 = rv ∧ x11 = sv ∧ x12 = .int .i64 d ∧
    CLoop n (fun x y => lt x y = true) K (la ++ lb) k K' d R' S A' B' ∧ S.length ≤ 1 ∧ d ≤ 17 ∧ Seen a la a' A' ∧ Seen b lb b' B' ∧ (A'.length ≤ ca' ∧ ca' ≤ 9223372036854775807) ∧ (B'.length ≤ cb' ∧ cb' ≤ 9223372036854775807) ∧ A'.length ≤ 65536 ∧ B'.length ≤ 65536 ∧ Turns R k g g' ∧
    Stage F w [Ob.forest p n K', O g', Ob.ints sv S, Ob.ints rv R'] wr) (fun _ _ _ _ x12 _ => 17 - (intOf x12).toNat)
  case atStart => exact ⟨0, 0, K, g, [], [], la, lb, a, b, ca, cb, _, _, rfl, rfl, rfl, rfl, rfl, hst, Nat.zero_le _, Nat.zero_le _, Seen.refl _ _, Seen.refl _ _, hbd, hbd2, hla, hlb, Turns.none g, hs2⟩
  case round =>
    clear hs hs2 hst c1 c2 c3 c4 hbd hbd2 hla hlb
    obtain ⟨d, k, K', g', R', S, A', B', a', b', ca', cb', sv, rv, rfl, rfl, rfl, rfl, rfl, hcl, hS1, hd17, hsa, hsb, ⟨c1, c2⟩, ⟨c3, c4⟩, hlA', hlB', hT, hs⟩ := hrel
    obtain ⟨sa, sc, rfl, hsc1, hsc2⟩ := hs.intsForm 2 rfl
    obtain ⟨ra, rc, rfl, hrc1, hrc2⟩ := hs.intsForm 3 rfl
    by_cases hpos : 0 < A'.length + B'.length + S.length
    · have hp1 : (0 : Int) < (A'.length : Int) + B'.length + S.length := by omega
      have hd16 := hcl.bound I hroots hn hpos
      obtain ⟨I', hr'⟩ := hcl.roots I hroots
      have hRl : R'.length ≤ 65536 := by
        have h1 := nodupK_in n _ hr'.nodup hr'.inn
        rw [List.length_append] at h1
        omega
      have t1 := take_st (q := [O g', Ob.ints (.slice ra R'.length rc) R']) (hs.select [0, 2, 1, 3] (by decide) rfl) d A' a' ca' ⟨c1, c2⟩ (hsa _ ((hs.get (i := 1) rfl).elim fun _ h => (hat _ _ _ h).1)) (by omega) (by omega)
      have hoff : CLoop n (fun x y => lt x y = true) K (la ++ lb) k K' d R' S A' B' := hcl
      clear hcl
      obtain ⟨S1, A1, e1⟩ : ∃ S1 A1, takeK K' d S A' = (S1, A1) := ⟨_, _, rfl⟩
      obtain ⟨S2, B1, e2⟩ : ∃ S2 B1, takeK K' d S1 B' = (S2, B1) := ⟨_, _, rfl⟩
      obtain ⟨q3, q02, qfin⟩ := hoff.round I hroots hlt hS1 S1 A1 S2 B1 e1 e2
      have hgA := take_ge (K := K') (d := d) hoff.riseA hoff.geA hoff.wait
      have hpm := take_all K' d S A' S1 A1 e1
      have hpm2 := take_all K' d S1 B' S2 B1 e2
      have hsub : ∀ x ∈ S2, inC n x ∧ topK K' x := fun x hx => by
        have : x ∈ R' ++ (S ++ (A' ++ B')) := by
          rcases (hpm2 x).1 (Or.inl hx) with h | h
          · rcases (hpm x).1 (Or.inl h) with h | h
            · simp [h]
            · simp [h]
          · simp [h]
        exact ⟨hr'.inn x this, hr'.top x this⟩
      have hS1l := take_len K' d S A' S1 A1 e1
      have hS2l := take_len K' d S1 B' S2 B1 e2
      have hwt : ∀ x ∈ S2, (K' x).length = d := by
        have h1 := take_ge (K := K') (d := d) hoff.riseA hoff.geA hoff.wait
        rw [e1] at h1
        have h2 := take_ge (K := K') (d := d) hoff.riseB hoff.geB h1.2.2.1
        rw [e2] at h2
        exact h2.2.2.1
      have hnd2 : S2.Nodup := by
        have h1 := take_ge (K := K') (d := d) hoff.riseA hoff.geA hoff.wait
        rw [e1] at h1
        have h2 := take_ge (K := K') (d := d) hoff.riseB hoff.geB h1.2.2.1
        rw [e2] at h2
        have h3 : (R' ++ (S ++ (A' ++ B'))).Nodup := hr'.nodup
        have p1 : ((S2 ++ B1)).Perm (S1 ++ B') := h2.2.2.2.1
        have p2 : (S1 ++ A1).Perm (S ++ A') := h1.2.2.2.1
        have h4 : (S ++ (A' ++ B')).Nodup := (List.nodup_append.1 h3).2.1
        rw [← List.append_assoc] at h4
        have h5 : ((S1 ++ A1) ++ B').Nodup := (List.Perm.append_right B' p2).nodup_iff.2 h4
        have p3 : ((S1 ++ A1) ++ B').Perm (A1 ++ (S1 ++ B')) := by
          rw [List.append_assoc]
          exact (List.Perm.append_left S1 List.perm_append_comm).trans (by rw [← List.append_assoc]; exact List.perm_append_comm)
        have h6 := (p3.nodup_iff.1 h5)
        have h7 := (List.nodup_append.1 h6).2.1
        exact (List.nodup_append.1 (p1.nodup_iff.2 h7)).1
      have hlk : ∀ x y, x ∈ S2 → y ∈ S2 → x ≠ y → linkF n K' x y = linkK K' x y ∧ linkF n K' y x = linkK K' y x := fun x y hx hy hne => by
        have g1 := hsub x hx
        have g2 := hsub y hy
        have d1 := hwt x hx
        have d2 := hwt y hy
        exact ⟨by unfold linkF; rw [if_pos (linkB_iff.2 ⟨hne, g1, g2, by omega⟩)], by unfold linkF; rw [if_pos (linkB_iff.2 ⟨fun e => hne e.symm, g2, g1, by omega⟩)]⟩
      have hok2 : ∀ x ∈ S2, ok x := fun x hx => by
        have hx1 : x ∈ R' ++ (S ++ (A' ++ B')) := by
          rcases (hpm2 x).1 (Or.inl hx) with h | h
          · rcases (hpm x).1 (Or.inl h) with h | h
            · simp [h]
            · simp [h]
          · simp [h]
        obtain ⟨m9, hl9, hp9⟩ := hoff.links
        obtain ⟨_, _, _, _, _, _, _, _, _, hin9⟩ := Links.all I hroots hl9
        exact hokn x (hin9 x (hp9.mem_iff.2 hx1))
      rw [e1] at t1
      simp only at t1
      have t2 := fun (wx : World) (sv' : Value) (h : Stage F w ([Ob.forest p n K', Ob.ints sv' S1] ++ [O g', Ob.ints (.slice ra R'.length rc) R']) wx) => take_st h d B' b' cb' ⟨c3, c4⟩ (hsb _ ((h.get (i := 2) rfl).elim fun _ h => (hat _ _ _ h).2)) (by omega) (by omega)
      rw [e2] at t2
      simp only at t2
      have hA1l : A1.length ≤ 65536 := Nat.le_trans (take_le K' d S A' S1 A1 e1) hlA'
      have hB1l : B1.length ≤ 65536 := Nat.le_trans (take_le K' d S1 B' S2 B1 e2) hlB'
      clear hpm hpm2 hsub hwt e1 e2 hoff hs hgA hr' I' I hroots hS1l
      generalize hA9 : A'.length = lA at *
      generalize hB9 : B'.length = lB at *
      generalize hS9 : S.length = lS at *
      clear hA9 hB9 hS9
      go_wp2_with fail
      refine t1.mono ?_
      rintro e w2 ⟨sv1, a2, ca2, rfl, hsn1, ⟨d1, d2⟩, hs⟩
      clear t1
      replace t2 := t2 w2 sv1 hs
      clear hs
      go_wp2_with fail
      refine t2.mono ?_
      rintro e w3 ⟨sv2, b2, cb2, rfl, hsn2, ⟨d3, d4⟩, hs⟩
      clear t2
      obtain ⟨sa2, sc2, rfl, hsd1, hsd2⟩ := hs.intsForm 1 rfl
      replace hs : Stage F w [Ob.forest p n K', Ob.ints (.slice sa2 S2.length sc2) S2, O g', Ob.ints (.slice ra R'.length rc) R'] w3 := hs
      replace hsa := hsa.trans hsn1
      replace hsb := hsb.trans hsn2
      clear hsn1 hsn2 hpos hp1
      have hIS := hs.intsAtI 1 rfl
      have hdi : (d : Int) ≤ 16 := by omega
      have hRd := ints_take_reads hs 1 rfl
      obtain ⟨rfl, rfl, rfl⟩ | ⟨gs, rfl⟩ := ints_form' hs 1 rfl
      · have hsd3 : True := trivial
        
        have e63 : R'.length + 0 ≤ maxLen := by unfold maxLen; omega
        have eby : (R'.length + 0) * 8 ≤ 140737488355328 := by omega
        have h1c : ∀ z ∈ cellsBy intC ([] : List Int), z.oneCell' = true := fun z hz => by obtain ⟨q, rfl⟩ := intC_one z _ hz; rfl
        have hrd : RowReads w3 1 (.slice none 0 0) 0 (cellsBy intC ([] : List Int)) := hRd 0 (by simp)
        clear hRd
        go_wp2_with (at_builtin; refine hs.wp_append 3 rfl rfl _ _ 75 rfl (.int .i64 0) 8 Tryz.underlying75 sinfo_int rfl (by decide) (Nat.zero_le _) rfl _ 0 (cellsBy intC ([] : List Int)) rfl hrd h1c e63 eby ?_)
        intro v9 w9 hs9 _
        replace hs9 := ints_app4 (m := []) rfl hs9
        clear hs hrd h1c e63 eby
        obtain ⟨ra2, rc2, rfl, hrc3, hrc4⟩ := hs9.intsForm 3 rfl
        generalize hR9 : (R' ++ [] : List Int).length = lR9 at *
        clear hR9
        rw [(by simp : ([] : List Int).length % 2 = 0)] at qfin
        replace qfin : ∀ j K2 S3, JoinK lt K' ([] : List Int) j K2 S3 → CLoop n (fun x y => lt x y = true) K (la ++ lb) (k + j) K2 (d + 1) (R' ++ []) S3 A1 B1 ∧ S3.length ≤ 1 := qfin
        have hJ := join_st (q := [Ob.ints (.slice none ([] : List Int).length 0) [], Ob.ints (.slice ra2 lR9 rc2) (R' ++ [])]) A (hs9.select [0, 2, 1, 3] (by decide) rfl) (([] : List Int)) none 0 ⟨Nat.zero_le _, by omega⟩ (fun i hi => absurd hi (Nat.not_lt_zero _)) (Or.inl rfl) (fun x hx => (by cases hx)) (fun x y h => (by cases h))
        replace hJ : Calls Tryz.prog 202 #[.pointer (some ⟨p, 0, none⟩), .iface T u, .slice none 0 0] w9 _ := hJ
        clear hs9 hlk hok2 hIS q02 hnd2 hS2l hat
        go_wp2_with fail
        refine hJ.mono ?_
        rintro e w10 ⟨sv3, j, K2, S3, g2, rfl, hj, hT2, hs10⟩
        clear hJ
        obtain ⟨hcl2, hS3⟩ := qfin _ _ _ hj
        replace hs10 := hs10.select [0, 1, 4, 3] (by decide) rfl
        replace hs10 : Stage F w [Ob.forest p n K2, O g2, Ob.ints sv3 S3, Ob.ints (.slice ra2 lR9 rc2) (R' ++ [])] w10 := hs10
        obtain ⟨sa3, sc3, rfl, _, _⟩ := hs10.intsForm 2 rfl
        clear qfin hj
        go_wp2_with fail
        go_roundw
        case rel => exact ⟨d + 1, k + j, K2, g2, _, S3, A1, B1, a2, b2, ca2, cb2, _, _, rfl, rfl, rfl, rfl, by go_num, hcl2, hS3, by omega, hsa, hsb, ⟨d1, d2⟩, ⟨d3, d4⟩, hA1l, hB1l, hT.trans hT2, hs10⟩
        case measure => simp [intOf]; omega
      match S2, q3 with
      | [], _ =>
        
        have e63 : R'.length + 0 ≤ maxLen := by unfold maxLen; omega
        have eby : (R'.length + 0) * 8 ≤ 140737488355328 := by omega
        have h1c : ∀ z ∈ cellsBy intC ([] : List Int), z.oneCell' = true := fun z hz => by obtain ⟨q, rfl⟩ := intC_one z _ hz; rfl
        have hrd : RowReads w3 1 (.slice (some ⟨gs, 0, none⟩) 0 sc2) 0 (cellsBy intC ([] : List Int)) := hRd 0 (by simp)
        clear hRd
        go_wp2_with (at_builtin; refine hs.wp_append 3 rfl rfl _ _ 75 rfl (.int .i64 0) 8 Tryz.underlying75 sinfo_int rfl (by decide) (Nat.zero_le _) rfl _ 0 (cellsBy intC ([] : List Int)) rfl hrd h1c e63 eby ?_)
        intro v9 w9 hs9 _
        replace hs9 := ints_app4 (m := []) rfl hs9
        clear hs hrd h1c e63 eby
        obtain ⟨ra2, rc2, rfl, hrc3, hrc4⟩ := hs9.intsForm 3 rfl
        generalize hR9 : (R' ++ [] : List Int).length = lR9 at *
        clear hR9
        rw [(by simp : ([] : List Int).length % 2 = 0)] at qfin
        replace qfin : ∀ j K2 S3, JoinK lt K' ([] : List Int) j K2 S3 → CLoop n (fun x y => lt x y = true) K (la ++ lb) (k + j) K2 (d + 1) (R' ++ []) S3 A1 B1 ∧ S3.length ≤ 1 := qfin
        have hJ := join_st (q := [Ob.ints (.slice (some ⟨gs, 0, none⟩) ([] : List Int).length sc2) [], Ob.ints (.slice ra2 lR9 rc2) (R' ++ [])]) A (hs9.select [0, 2, 1, 3] (by decide) rfl) (([] : List Int)) (some ⟨gs, 0, none⟩) sc2 ⟨Nat.zero_le _, hsd2⟩ (fun i hi => absurd hi (Nat.not_lt_zero _)) (Or.inl rfl) (fun x hx => (by cases hx)) (fun x y h => (by cases h))
        replace hJ : Calls Tryz.prog 202 #[.pointer (some ⟨p, 0, none⟩), .iface T u, .slice (some ⟨gs, 0, none⟩) 0 sc2] w9 _ := hJ
        clear hs9 hlk hok2 hIS q02 hnd2 hS2l hat
        go_wp2_with fail
        refine hJ.mono ?_
        rintro e w10 ⟨sv3, j, K2, S3, g2, rfl, hj, hT2, hs10⟩
        clear hJ
        obtain ⟨hcl2, hS3⟩ := qfin _ _ _ hj
        replace hs10 := hs10.select [0, 1, 4, 3] (by decide) rfl
        replace hs10 : Stage F w [Ob.forest p n K2, O g2, Ob.ints sv3 S3, Ob.ints (.slice ra2 lR9 rc2) (R' ++ [])] w10 := hs10
        obtain ⟨sa3, sc3, rfl, _, _⟩ := hs10.intsForm 2 rfl
        clear qfin hj
        go_wp2_with fail
        go_roundw
        case rel => exact ⟨d + 1, k + j, K2, g2, _, S3, A1, B1, a2, b2, ca2, cb2, _, _, rfl, rfl, rfl, rfl, by go_num, hcl2, hS3, by omega, hsa, hsb, ⟨d1, d2⟩, ⟨d3, d4⟩, hA1l, hB1l, hT.trans hT2, hs10⟩
        case measure => simp [intOf]; omega
      | [x], _ =>
        by_cases hs1' : sc2 = 1
        · subst hs1'
          
          have e63 : R'.length + 1 ≤ maxLen := by unfold maxLen; omega
          have eby : (R'.length + 1) * 8 ≤ 140737488355328 := by omega
          have h1c : ∀ z ∈ cellsBy intC ([x] : List Int), z.oneCell' = true := fun z hz => by obtain ⟨q, rfl⟩ := intC_one z _ hz; rfl
          have hrd : RowReads w3 1 (.slice (some ⟨gs, 0, none⟩) 1 1) 1 (cellsBy intC ([x] : List Int)) := hRd 1 (by simp)
          clear hRd
          go_wp2_with (at_builtin; refine hs.wp_append 3 rfl rfl _ _ 75 rfl (.int .i64 0) 8 Tryz.underlying75 sinfo_int rfl (by decide) (Nat.zero_le _) rfl _ 1 (cellsBy intC ([x] : List Int)) rfl hrd h1c e63 eby ?_)
          intro v9 w9 hs9 _
          replace hs9 := ints_app4 (m := [x]) rfl hs9
          clear hs hrd h1c e63 eby
          obtain ⟨ra2, rc2, rfl, hrc3, hrc4⟩ := hs9.intsForm 3 rfl
          generalize hR9 : (R' ++ [x] : List Int).length = lR9 at *
          clear hR9
          rw [(by simp : ([x] : List Int).length % 2 = 1)] at qfin
          replace qfin : ∀ j K2 S3, JoinK lt K' ([] : List Int) j K2 S3 → CLoop n (fun x y => lt x y = true) K (la ++ lb) (k + j) K2 (d + 1) (R' ++ [x]) S3 A1 B1 ∧ S3.length ≤ 1 := qfin
          have hJ := join_st (q := [Ob.ints (.slice (some ⟨gs, 0, none⟩) [x].length 1) [x], Ob.ints (.slice ra2 lR9 rc2) (R' ++ [x])]) A (hs9.select [0, 2, 1, 3] (by decide) rfl) (([] : List Int)) (some ⟨gs, 0, none⟩) 0 ⟨Nat.le_refl _, by omega⟩ (fun i hi => absurd hi (Nat.not_lt_zero _)) (Or.inl rfl) (fun x hx => (by cases hx)) (fun x y h => (by cases h))
          replace hJ : Calls Tryz.prog 202 #[.pointer (some ⟨p, 0, none⟩), .iface T u, .slice (some ⟨gs, 0, none⟩) 0 0] w9 _ := hJ
          clear hs9 hlk hok2 hIS q02 hnd2 hS2l hat
          go_wp2_with fail
          refine hJ.mono ?_
          rintro e w10 ⟨sv3, j, K2, S3, g2, rfl, hj, hT2, hs10⟩
          clear hJ
          obtain ⟨hcl2, hS3⟩ := qfin _ _ _ hj
          replace hs10 := hs10.select [0, 1, 4, 3] (by decide) rfl
          replace hs10 : Stage F w [Ob.forest p n K2, O g2, Ob.ints sv3 S3, Ob.ints (.slice ra2 lR9 rc2) (R' ++ [x])] w10 := hs10
          obtain ⟨sa3, sc3, rfl, _, _⟩ := hs10.intsForm 2 rfl
          clear qfin hj
          go_wp2_with fail
          go_roundw
          case rel => exact ⟨d + 1, k + j, K2, g2, _, S3, A1, B1, a2, b2, ca2, cb2, _, _, rfl, rfl, rfl, rfl, by go_num, hcl2, hS3, by omega, hsa, hsb, ⟨d1, d2⟩, ⟨d3, d4⟩, hA1l, hB1l, hT.trans hT2, hs10⟩
          case measure => simp [intOf]; omega
        · have hsd3 : 1 ≤ sc2 := hsd1
          
          have e63 : R'.length + 1 ≤ maxLen := by unfold maxLen; omega
          have eby : (R'.length + 1) * 8 ≤ 140737488355328 := by omega
          have h1c : ∀ z ∈ cellsBy intC ([x] : List Int), z.oneCell' = true := fun z hz => by obtain ⟨q, rfl⟩ := intC_one z _ hz; rfl
          have hrd : RowReads w3 1 (.slice (some ⟨gs, 0, none⟩) 1 sc2) 1 (cellsBy intC ([x] : List Int)) := hRd 1 (by simp)
          clear hRd
          go_wp2_with (at_builtin; refine hs.wp_append 3 rfl rfl _ _ 75 rfl (.int .i64 0) 8 Tryz.underlying75 sinfo_int rfl (by decide) (Nat.zero_le _) rfl _ 1 (cellsBy intC ([x] : List Int)) rfl hrd h1c e63 eby ?_)
          intro v9 w9 hs9 _
          replace hs9 := ints_app4 (m := [x]) rfl hs9
          clear hs hrd h1c e63 eby
          obtain ⟨ra2, rc2, rfl, hrc3, hrc4⟩ := hs9.intsForm 3 rfl
          generalize hR9 : (R' ++ [x] : List Int).length = lR9 at *
          clear hR9
          rw [(by simp : ([x] : List Int).length % 2 = 1)] at qfin
          replace qfin : ∀ j K2 S3, JoinK lt K' ([] : List Int) j K2 S3 → CLoop n (fun x y => lt x y = true) K (la ++ lb) (k + j) K2 (d + 1) (R' ++ [x]) S3 A1 B1 ∧ S3.length ≤ 1 := qfin
          have hJ := join_st (q := [Ob.ints (.slice (some ⟨gs, 0, none⟩) [x].length sc2) [x], Ob.ints (.slice ra2 lR9 rc2) (R' ++ [x])]) A (hs9.select [0, 2, 1, 3] (by decide) rfl) (([] : List Int)) (some ⟨gs, 1, none⟩) (sc2 - 1) ⟨Nat.zero_le _, by omega⟩ (fun i hi => absurd hi (Nat.not_lt_zero _)) (Or.inl rfl) (fun x hx => (by cases hx)) (fun x y h => (by cases h))
          replace hJ : Calls Tryz.prog 202 #[.pointer (some ⟨p, 0, none⟩), .iface T u, .slice (some ⟨gs, 1, none⟩) 0 (sc2 - 1)] w9 _ := hJ
          clear hs9 hlk hok2 hIS q02 hnd2 hS2l hat
          go_wp2_with fail
          refine hJ.mono ?_
          rintro e w10 ⟨sv3, j, K2, S3, g2, rfl, hj, hT2, hs10⟩
          clear hJ
          obtain ⟨hcl2, hS3⟩ := qfin _ _ _ hj
          replace hs10 := hs10.select [0, 1, 4, 3] (by decide) rfl
          replace hs10 : Stage F w [Ob.forest p n K2, O g2, Ob.ints sv3 S3, Ob.ints (.slice ra2 lR9 rc2) (R' ++ [x])] w10 := hs10
          obtain ⟨sa3, sc3, rfl, _, _⟩ := hs10.intsForm 2 rfl
          clear qfin hj
          go_wp2_with fail
          go_roundw
          case rel => exact ⟨d + 1, k + j, K2, g2, _, S3, A1, B1, a2, b2, ca2, cb2, _, _, rfl, rfl, rfl, rfl, by go_num, hcl2, hS3, by omega, hsa, hsb, ⟨d1, d2⟩, ⟨d3, d4⟩, hA1l, hB1l, hT.trans hT2, hs10⟩
          case measure => simp [intOf]; omega
      | [x, y], _ =>
        have hsd3 : 2 ≤ sc2 := hsd1
        
        have e63 : R'.length + 0 ≤ maxLen := by unfold maxLen; omega
        have eby : (R'.length + 0) * 8 ≤ 140737488355328 := by omega
        have h1c : ∀ z ∈ cellsBy intC ([] : List Int), z.oneCell' = true := fun z hz => by obtain ⟨q, rfl⟩ := intC_one z _ hz; rfl
        have hrd : RowReads w3 1 (.slice (some ⟨gs, 0, none⟩) 0 sc2) 0 (cellsBy intC ([] : List Int)) := hRd 0 (by simp)
        clear hRd
        go_wp2_with (at_builtin; refine hs.wp_append 3 rfl rfl _ _ 75 rfl (.int .i64 0) 8 Tryz.underlying75 sinfo_int rfl (by decide) (Nat.zero_le _) rfl _ 0 (cellsBy intC ([] : List Int)) rfl hrd h1c e63 eby ?_)
        intro v9 w9 hs9 _
        replace hs9 := ints_app4 (m := []) rfl hs9
        clear hs hrd h1c e63 eby
        obtain ⟨ra2, rc2, rfl, hrc3, hrc4⟩ := hs9.intsForm 3 rfl
        generalize hR9 : (R' ++ [] : List Int).length = lR9 at *
        clear hR9
        rw [(by simp : ([x, y] : List Int).length % 2 = 0)] at qfin
        replace qfin : ∀ j K2 S3, JoinK lt K' [x, y] j K2 S3 → CLoop n (fun x y => lt x y = true) K (la ++ lb) (k + j) K2 (d + 1) (R' ++ []) S3 A1 B1 ∧ S3.length ≤ 1 := qfin
        have hJ := join_st (q := [Ob.ints (.slice (some ⟨gs, 0, none⟩) [x, y].length sc2) [x, y], Ob.ints (.slice ra2 lR9 rc2) (R' ++ [])]) A (hs9.select [0, 2, 1, 3] (by decide) rfl) ([x, y]) (some ⟨gs, 0, none⟩) sc2 ⟨hsd1, hsd2⟩ (hs9.intsAtI 1 rfl) (Or.inr rfl) hok2 (fun x' y' h => by injection h with h1 h2; injection h2 with h2 _; subst h1 h2; exact hlk _ _ (by simp) (by simp) (by simpa using hnd2))
        replace hJ : Calls Tryz.prog 202 #[.pointer (some ⟨p, 0, none⟩), .iface T u, .slice (some ⟨gs, 0, none⟩) 2 sc2] w9 _ := hJ
        clear hs9 hlk hok2 hIS q02 hnd2 hS2l hat
        go_wp2_with fail
        refine hJ.mono ?_
        rintro e w10 ⟨sv3, j, K2, S3, g2, rfl, hj, hT2, hs10⟩
        clear hJ
        obtain ⟨hcl2, hS3⟩ := qfin _ _ _ hj
        replace hs10 := hs10.select [0, 1, 4, 3] (by decide) rfl
        replace hs10 : Stage F w [Ob.forest p n K2, O g2, Ob.ints sv3 S3, Ob.ints (.slice ra2 lR9 rc2) (R' ++ [])] w10 := hs10
        obtain ⟨sa3, sc3, rfl, _, _⟩ := hs10.intsForm 2 rfl
        clear qfin hj
        go_wp2_with fail
        go_roundw
        case rel => exact ⟨d + 1, k + j, K2, g2, _, S3, A1, B1, a2, b2, ca2, cb2, _, _, rfl, rfl, rfl, rfl, by go_num, hcl2, hS3, by omega, hsa, hsb, ⟨d1, d2⟩, ⟨d3, d4⟩, hA1l, hB1l, hT.trans hT2, hs10⟩
        case measure => simp [intOf]; omega
      | [x, y, z], _ =>
        have hsd3 : 3 ≤ sc2 := hsd1
        have hs1' : ¬ sc2 = 1 := by omega
        
        have e63 : R'.length + 1 ≤ maxLen := by unfold maxLen; omega
        have eby : (R'.length + 1) * 8 ≤ 140737488355328 := by omega
        have h1c : ∀ z ∈ cellsBy intC ([x] : List Int), z.oneCell' = true := fun z hz => by obtain ⟨q, rfl⟩ := intC_one z _ hz; rfl
        have hrd : RowReads w3 1 (.slice (some ⟨gs, 0, none⟩) 1 sc2) 1 (cellsBy intC ([x] : List Int)) := hRd 1 (by simp)
        clear hRd
        go_wp2_with (at_builtin; refine hs.wp_append 3 rfl rfl _ _ 75 rfl (.int .i64 0) 8 Tryz.underlying75 sinfo_int rfl (by decide) (Nat.zero_le _) rfl _ 1 (cellsBy intC ([x] : List Int)) rfl hrd h1c e63 eby ?_)
        intro v9 w9 hs9 _
        replace hs9 := ints_app4 (m := [x]) rfl hs9
        clear hs hrd h1c e63 eby
        obtain ⟨ra2, rc2, rfl, hrc3, hrc4⟩ := hs9.intsForm 3 rfl
        generalize hR9 : (R' ++ [x] : List Int).length = lR9 at *
        clear hR9
        rw [(by simp : ([x, y, z] : List Int).length % 2 = 1)] at qfin
        replace qfin : ∀ j K2 S3, JoinK lt K' [y, z] j K2 S3 → CLoop n (fun x y => lt x y = true) K (la ++ lb) (k + j) K2 (d + 1) (R' ++ [x]) S3 A1 B1 ∧ S3.length ≤ 1 := qfin
        have hJ := join_st (q := [Ob.ints (.slice (some ⟨gs, 0, none⟩) [x, y, z].length sc2) [x, y, z], Ob.ints (.slice ra2 lR9 rc2) (R' ++ [x])]) A (hs9.select [0, 2, 1, 3] (by decide) rfl) ([y, z]) (some ⟨gs, 1, none⟩) (sc2 - 1) ⟨by show 2 ≤ sc2 - 1; omega, by omega⟩ (ints_shift (hs9.intsAtI 1 rfl)) (Or.inr rfl) (fun x' hx => hok2 x' (by simp at hx ⊢; rcases hx with h | h <;> simp [h])) (fun x' y' h => by injection h with h1 h2; injection h2 with h2 _; subst h1 h2; exact hlk _ _ (by simp) (by simp) (by have := hnd2; simp at this; exact this.2))
        replace hJ : Calls Tryz.prog 202 #[.pointer (some ⟨p, 0, none⟩), .iface T u, .slice (some ⟨gs, 1, none⟩) 2 (sc2 - 1)] w9 _ := hJ
        clear hs9 hlk hok2 hIS q02 hnd2 hS2l hat
        go_wp2_with fail
        refine hJ.mono ?_
        rintro e w10 ⟨sv3, j, K2, S3, g2, rfl, hj, hT2, hs10⟩
        clear hJ
        obtain ⟨hcl2, hS3⟩ := qfin _ _ _ hj
        replace hs10 := hs10.select [0, 1, 4, 3] (by decide) rfl
        replace hs10 : Stage F w [Ob.forest p n K2, O g2, Ob.ints sv3 S3, Ob.ints (.slice ra2 lR9 rc2) (R' ++ [x])] w10 := hs10
        obtain ⟨sa3, sc3, rfl, _, _⟩ := hs10.intsForm 2 rfl
        clear qfin hj
        go_wp2_with fail
        go_roundw
        case rel => exact ⟨d + 1, k + j, K2, g2, _, S3, A1, B1, a2, b2, ca2, cb2, _, _, rfl, rfl, rfl, rfl, by go_num, hcl2, hS3, by omega, hsa, hsb, ⟨d1, d2⟩, ⟨d3, d4⟩, hA1l, hB1l, hT.trans hT2, hs10⟩
        case measure => simp [intOf]; omega
    · have hA0 : A'.length = 0 := by omega
      have hB0 : B'.length = 0 := by omega
      have hS0 : S.length = 0 := by omega
      obtain rfl := List.length_eq_zero_iff.1 hA0
      obtain rfl := List.length_eq_zero_iff.1 hB0
      obtain rfl := List.length_eq_zero_iff.1 hS0
      obtain ⟨h1, h2⟩ := hcl.fin I hroots
      have hfin := hs.select [0, 1, 3] (by decide) rfl
      clear hcl hsa hsb hs hat
      go_wp2_with fail
      go_ret2
      exact ⟨_, _, _, K', g', k, R', rfl, h1, h2, hT, hfin⟩
/-- Carry, within a stage. -/
theorem Stage.carryYes {F0 : Nat → Prop} {W0 : World} {q : List Ob} (A : Asks O R ok lt H T u fn) (hlt : ∀ x y, lt x y = true → lt y x = false) (hokn : ∀ x ∈ la ++ lb, ok x) (V : Views O a la ca b lb cb) (hs : Stage F0 W0 ([Ob.forest p n K, O g] ++ q) w) (hRA : RowK n K la) (hRB : RowK n K lb) (hd : ¬ ∃ x ∈ la, x ∈ lb) :
    Calls Tryz.prog 192 #[.pointer (some ⟨p, 0, none⟩), .iface T u, .slice a la.length ca, .slice b lb.length cb] w fun e w' => ∃ z m c K' g' k r, e = .returned (.tuple #[.slice z m c, .bool true]) ∧ (∃ r', Links n (fun x y => lt x y = true) K (la ++ lb) k K' r' ∧ r'.Perm r) ∧ RowK n K' r ∧ Turns R k g g' ∧ Stage F0 W0 ([Ob.forest p n K', O g', Ob.ints (.slice z m c) r] ++ q) w' :=
  (hs.frameEx (α := Option Addr × Nat × Nat × (Int → List Int) × γ × Nat × List Int)
    (Post := fun x e => e = .returned (.tuple #[.slice x.1 x.2.1 x.2.2.1, .bool true]) ∧ (∃ r', Links n (fun x y => lt x y = true) K (la ++ lb) x.2.2.2.2.2.1 x.2.2.2.1 r' ∧ r'.Perm x.2.2.2.2.2.2) ∧ RowK n x.2.2.2.1 x.2.2.2.2.2.2 ∧ Turns R x.2.2.2.2.2.1 g x.2.2.2.2.1)
    (l' := fun x => [Ob.forest p n x.2.2.2.1, O x.2.2.2.2.1, Ob.ints (.slice x.1 x.2.1 x.2.2.1) x.2.2.2.2.2.2])
    fun _ _ h => (carry_yes A hlt hokn V h hRA hRB hd).mono fun _ _ ⟨z, m, c, K', g', k, r, he, h1, h2, h3, h4⟩ => ⟨(z, m, c, K', g', k, r), ⟨he, h1, h2, h3⟩, h4⟩).mono
  fun _ _ ⟨x, ⟨he, h1, h2, h3⟩, h4⟩ => ⟨x.1, x.2.1, x.2.2.1, x.2.2.2.1, x.2.2.2.2.1, x.2.2.2.2.2.1, x.2.2.2.2.2.2, he, h1, h2, h3, h4⟩
end
end Go.Proofs.YtkcicnflcilekaaGreat
