/- Merged of LeftistTake, LeftistGather. -/
import Derived.Test.YthjelmbicnbhiaaZMap
import Derived.Test.YthjelmbicnbhiaaLeftistMend
namespace Go.Proofs.Ythjelmbicnbhiaa
open Go.RowKit Go.Sort

section
variable {F0 : Nat → Prop} {W0 w : World} {f c t n : Nat} {v : Value} {W : WS} {s : Int} {L : List Hg} {R : List Int} {q : List Ob}
theorem rises_no (h : Stage F0 W0 (forestParts f c t v n W s L R ++ q) w) (x : Int) (hu : upL L x = none) : Calls Try.prog 116 #[.pointer (some ⟨f, 0, none⟩), .int .i64 x] w fun e w' => e = .returned (.bool false) ∧ w = w' := by
  have hU := fo_up h x
  rw [hu] at hU
  replace hU : Calls Try.prog 88 #[.pointer (some ⟨t, 0, none⟩), .int .i64 x] w fun e w' => e = .returned (.tuple #[.int .i64 0, .bool false]) ∧ w = w' := hU
  have c1 := fo_c1 h
  clear h hu
  go_enter Try.func116, Try.ntmps116
  go_wp2_with fail
  refine hU.mono ?_
  rintro e w1 ⟨rfl, rfl⟩
  go_wp2_with fail
  go_ret
  exact ⟨rfl, rfl⟩
theorem rises_yes (h : Stage F0 W0 (forestParts f c t v n W s L R ++ q) w) (x p : Int) (hu : upL L x = some p) : Calls Try.prog 116 #[.pointer (some ⟨f, 0, none⟩), .int .i64 x] w fun e w' => e = .returned (.bool (aheadW W x p)) ∧ Stage F0 W0 (forestParts f c t v n W (aheadS W s x p) L R ++ q) w' := by
  have hU := fo_up h x
  rw [hu] at hU
  replace hU : Calls Try.prog 88 #[.pointer (some ⟨t, 0, none⟩), .int .i64 x] w fun e w' => e = .returned (.tuple #[.int .i64 p, .bool true]) ∧ w = w' := hU
  have c0 := fo_c0 h
  have c1 := fo_c1 h
  have hA := fo_ahead h x p
  clear h hu
  go_enter Try.func116, Try.ntmps116
  go_wp2_with fail
  refine hU.mono ?_
  rintro e w1 ⟨rfl, rfl⟩
  go_wp2_with fail
  refine hA.mono ?_
  rintro e w1 ⟨rfl, h1⟩
  go_wp2_with fail
  go_ret
  exact ⟨rfl, h1⟩
theorem frame_out {g : Fr} {z : List Fr} {tx : Tr} (h : (Tr.fillZ (g :: z) tx).slots.Nodup) : (g.x ∉ g.o.slots ∧ g.x ∉ Tr.zs z) ∧ g.x ∉ tx.slots ∧ (Tr.zs (g :: z)).Nodup ∧ ∀ y ∈ tx.slots, y ∉ Tr.zs (g :: z) := by
  have h1 := (Tr.fillZ_perm (g :: z) tx).nodup_iff.1 h
  rw [List.nodup_append] at h1
  obtain ⟨_, h2, h3⟩ := h1
  have h2' := h2
  rw [Tr.zs, List.nodup_cons, List.mem_append] at h2
  exact ⟨⟨fun h => h2.1 (Or.inl h), fun h => h2.1 (Or.inr h)⟩, fun h => h3 _ h g.x (by simp [Tr.zs]) rfl, h2', fun y hy hz => h3 y hy y hz rfl⟩
/-- A slot comes off with all below it: two trees stand. -/
theorem cut_st {g : Fr} {z : List Fr} {tx : Tr} {x : Int} (h : Stage F0 W0 (forestParts f c t v n W s L R ++ q) w) (hR : R.length = n) (hS : Stands L (rkL R) (Tr.fillZ (g :: z) tx)) (hx : tx.top = some x) (hin : ∀ y ∈ (Tr.fillZ (g :: z) tx).slots, inN n y) :
    Calls Try.prog 117 #[.pointer (some ⟨f, 0, none⟩), .int .i64 x] w fun e w' => e = .returned (.tuple #[]) ∧ ∃ L' R', R'.length = n ∧ Stands L' (rkL R') (Tr.lfillZ (g :: z) .nil) ∧ Stands L' (rkL R') tx ∧ SameL (Tr.fillZ (g :: z) tx).slots L L' (rkL R) (rkL R') ∧ Stage F0 W0 (forestParts f c t v n W s L' R' ++ q) w' := by
  obtain ⟨I, hn⟩ := fo_inv h
  have hrep := rep_fill.1 hS.rep
  rw [hx] at hrep
  have hrk := Tr.ranked_fill.1 hS.rank
  obtain ⟨nf, nt, nz, hap⟩ := frame_out hS.nodup
  have hmem : ∀ y, y ∈ (Tr.fillZ (g :: z) tx).slots ↔ y ∈ tx.slots ∨ y ∈ Tr.zs (g :: z) := fun y => by rw [(Tr.fillZ_perm _ _).mem_iff, List.mem_append]
  have hxt := Tr.top_in hx
  have hup : upL L x = some g.x := up_frame I hrep.2
  obtain ⟨k1, k2, k3, k4, k5, k6⟩ := cut_frame I hrep.2 nf
  have hsame : SameL (x :: Tr.zs (g :: z)) L (cutL L x) (rkL R) (rkL R) := ⟨fun y hy => k6 y fun e => hy (by simp [e, Tr.zs]), fun y hy => k5 y fun e => hy (by simp [e]), fun _ _ => rfl⟩
  have hroot : ∀ y, (Tr.fillZ (g :: z) tx).top = some y → upL (cutL L x) y = none := fun y hy => by
    by_cases e : y = x
    · rw [e]; exact k4
    · rw [k5 y e]; exact hS.root y hy
  obtain ⟨a, b, M⟩ := bare_mend (R := R) k1 k2 k3 hroot hrk.2.2.1 hrk.2 hS.lef nz (fun y hy => hin y ((hmem y).2 (Or.inr hy)))
  have hnd : tx.slots.Nodup := (List.nodup_append.1 ((Tr.fillZ_perm (g :: z) tx).nodup_iff.1 hS.nodup)).1
  have hSx : Stands (cutL L x) (rkL R) tx := ⟨by rw [hx]; exact rep_congr (fun y hy => k6 y fun e => nt (by rw [← e]; exact hy)) hrep.1, hrk.1, Tr.lefZ hS.lef, fun y hy => by rw [hx] at hy; cases hy; exact k4, hnd⟩
  have hC := fo_cut h x
  rw [hup] at hC
  replace hC : Calls Try.prog 79 #[.pointer (some ⟨t, 0, none⟩), .int .i64 x] w fun e w' => e = .returned (.tuple #[.int .i64 g.x, .bool true]) ∧ Stage F0 W0 (forestParts f c t v n W s (cutL L x) R ++ q) w' := hC
  have c1 := fo_c1 h
  clear h hup hrep hrk
  generalize cutL L x = L1 at *
  have hgz : ∀ y ∈ g.x :: Tr.zs z, y ∈ Tr.zs (g :: z) := fun y hy => by
    simp only [Tr.zs, List.mem_cons, List.mem_append] at hy ⊢
    rcases hy with e | e
    · exact Or.inl e
    · exact Or.inr (Or.inr e)
  generalize g.x = p at *
  go_enter Try.func117, Try.ntmps117
  go_wp2_with fail
  refine hC.mono ?_
  rintro e w1 ⟨rfl, h1⟩
  clear hC
  have hM := mend_st h1 hR M hgz
  go_wp2_with fail
  refine hM.mono ?_
  rintro e w2 ⟨rfl, L2, R2, m1, m2, m3, m4, h2⟩
  go_wp2_with fail
  go_end0
  refine ⟨rfl, L2, R2, m1, m2, hSx.same m3 hap, ?_, h2⟩
  refine (hsame.mono fun y hy => ?_).trans (m3.mono fun y hy => (hmem y).2 (Or.inr hy))
  rcases List.mem_cons.1 hy with e | e
  · rw [e]; exact (hmem x).2 (Or.inl hxt)
  · exact (hmem y).2 (Or.inr e)
end
end Go.Proofs.Ythjelmbicnbhiaa

namespace Go.Proofs.Ythjelmbicnbhiaa
open Go.RowKit Go.Sort

/-- A slot with its two trees. -/
structure SlotAt (W : WS) (n : Nat) (L : List Hg) (R : List Int) (x : Int) (l r : Tr) : Prop where
  rows : R.length = n
  cells : W.cells.length = n
  left : RepT (kidL L) (kidL L x false) l
  right : RepT (kidL L) (kidL L x true) r
  rl : Tr.Ranked (rkL R) l
  rr : Tr.Ranked (rkL R) r
  lef : Tr.Lef (.node x l r)
  ok : Tr.Ok (aheadW W) (.node x l r)
  nd : (x :: (l.slots ++ r.slots)).Nodup
  ins : ∀ y ∈ x :: (l.slots ++ r.slots), inW W y = true
/-- What came of its trees. -/
structure Gone (W : WS) (n : Nat) (L : List Hg) (R : List Int) (x : Int) (l r M : Tr) (s : Int) (L' : List Hg) (R' : List Int) (s' : Int) : Prop where
  rows : R'.length = n
  perm : M.slots.Perm (l.slots ++ r.slots)
  ok : Tr.Ok (aheadW W) M
  sm : Stands L' (rkL R') M
  kids : ∀ sd, kidL L' x sd = none
  up : upL L' x = upL L x
  same : SameL (x :: (l.slots ++ r.slots)) L L' (rkL R) (rkL R')
  steps : s ≤ s' ∧ s' ≤ s + (Tr.spine l + Tr.spine r : Nat)
section
variable {W : WS} {n : Nat} {L : List Hg} {R : List Int} {x y y2 : Int} {l r : Tr} {s : Int}
theorem gone_none (H : SlotAt W n L R x .nil r) : r = .nil ∧ Gone W n L R x .nil r .nil s L R s := by
  have e := Tr.lef_nil H.lef rfl
  subst e
  refine ⟨rfl, H.rows, List.Perm.refl _, trivial, Stands.nil _ _, fun sd => ?_, rfl, SameL.refl _ _ _, ⟨Int.le_refl _, by omega⟩⟩
  cases sd
  · exact H.left
  · exact H.right
/-- The left tree comes off. -/
theorem gone_left (I : GInv n L) (H : SlotAt W n L R x l r) (hl : l.top = some y) : Stands (cutL L y) (rkL R) l ∧ kidL (cutL L y) x false = none ∧ kidL (cutL L y) x true = r.top ∧ upL (cutL L y) x = upL L x ∧ RepT (kidL (cutL L y)) r.top r ∧ SameL (x :: (l.slots ++ r.slots)) L (cutL L y) (rkL R) (rkL R) := by
  have hk : kidL L x false = some y := by have := rep_top H.left; rw [hl] at this; exact this
  have hr := rep_top H.right
  have nd := H.nd
  rw [List.nodup_cons, List.mem_append, List.nodup_append] at nd
  have hy := Tr.top_in hl
  have hxy : x ≠ y := fun e => nd.1 (Or.inl (by rw [e]; exact hy))
  obtain ⟨o1, o2, o3, o4, o5, o6⟩ := off_tree I hk (by have := H.left; rw [hk] at this; exact this) (fun h => nd.1 (Or.inl h))
  refine ⟨⟨by rw [hl]; exact o3, H.rl, H.lef.2.1, fun z hz => by rw [hl] at hz; cases hz; exact o4, nd.2.1⟩, o1, by rw [← hr]; exact o2, o5 x hxy, ?_, ⟨fun z hz => o6 z fun e => hz (by simp [e]), fun z hz => o5 z fun e => hz (by simp [e, hy]), fun _ _ => rfl⟩⟩
  have h2 := H.right
  rw [hr] at h2
  exact rep_congr (fun z hz => o6 z fun e => nd.1 (Or.inr (by rw [← e]; exact hz))) h2
theorem gone_one (I : GInv n L) (H : SlotAt W n L R x l .nil) (hl : l.top = some y) : Gone W n L R x l .nil l s (cutL L y) R s := by
  obtain ⟨h1, h2, h3, h4, _, h5⟩ := gone_left I H hl
  refine ⟨H.rows, by simp [Tr.slots], H.ok.2.2.1, h1, fun sd => ?_, h4, h5, ⟨Int.le_refl _, by omega⟩⟩
  cases sd
  · exact h2
  · exact h3
/-- .. the right one, too. -/
theorem gone_both (I : GInv n L) (H : SlotAt W n L R x l r) (hl : l.top = some y) (hr : r.top = some y2) : Two W n (cutL (cutL L y) y2) R l r ∧
    ∀ {M : Tr} {L' : List Hg} {R' : List Int} {s' : Int}, R'.length = n → M.slots.Perm (l.slots ++ r.slots) → Tr.Ok (aheadW W) M → Stands L' (rkL R') M → SameL (l.slots ++ r.slots) (cutL (cutL L y) y2) L' (rkL R) (rkL R') → (s ≤ s' ∧ s' ≤ s + (Tr.spine l + Tr.spine r : Nat)) → Gone W n L R x l r M s L' R' s' := by
  obtain ⟨h1, h2, h3, h4, h6, h5⟩ := gone_left I H hl
  have I1 := inv_cut I y
  have nd := H.nd
  rw [List.nodup_cons, List.mem_append, List.nodup_append] at nd
  have hy2 := Tr.top_in hr
  have hxy : x ≠ y2 := fun e => nd.1 (Or.inr (by rw [e]; exact hy2))
  rw [hr] at h3 h6
  obtain ⟨o1, o2, o3, o4, o5, o6⟩ := off_tree I1 h3 h6 (fun h => nd.1 (Or.inr h))
  have hap : ∀ z ∈ l.slots, z ≠ x ∧ z ≠ y2 := fun z hz => ⟨fun e => nd.1 (Or.inl (by rw [← e]; exact hz)), fun e => nd.2.2.2 z hz y2 hy2 e⟩
  have hS : SameL [x, y2] (cutL L y) (cutL (cutL L y) y2) (rkL R) (rkL R) := ⟨fun z hz => o6 z fun e => hz (by simp [e]), fun z hz => o5 z fun e => hz (by simp [e]), fun _ _ => rfl⟩
  have hk : ∀ sd, kidL (cutL (cutL L y) y2) x sd = none := fun sd => by
    cases sd
    · rw [show kidL (cutL (cutL L y) y2) x false = kidL (cutL L y) x false from o2]; exact h2
    · exact o1
  refine ⟨⟨H.rows, H.cells, h1.same hS fun z hz hm => ?_, ⟨by rw [hr]; exact o3, H.rr, H.lef.2.2, fun z hz => by rw [hr] at hz; cases hz; exact o4, nd.2.2.1⟩, H.ok.2.2.1, H.ok.2.2.2, fun z h1 h2 => nd.2.2.2 z h1 z h2 rfl, fun z hz => H.ins z (List.mem_cons_of_mem _ hz)⟩, fun g1 g2 g3 g4 g5 g6 => ⟨g1, g2, g3, g4, fun sd => ?_, ?_, ?_, g6⟩⟩
  · simp only [List.mem_cons, List.not_mem_nil, or_false] at hm
    rcases hm with e | e
    · exact (hap z hz).1 e
    · exact (hap z hz).2 e
  · rw [g5.kid x (fun h => nd.1 (List.mem_append.1 h))]; exact hk sd
  · rw [g5.up x (fun h => nd.1 (List.mem_append.1 h)), o5 x hxy]; exact h4
  · refine (h5.trans (hS.mono fun z hz => ?_)).trans (g5.mono fun z hz => List.mem_cons_of_mem _ hz)
    simp only [List.mem_cons, List.not_mem_nil, or_false] at hz
    rcases hz with e | e
    · simp [e]
    · simp [e, hy2]
end
section
variable {F0 : Nat → Prop} {W0 w : World} {f c t n : Nat} {v : Value} {W : WS} {s : Int} {L : List Hg} {R : List Int} {q : List Ob}
set_option maxRecDepth 100000 in
set_option maxHeartbeats 1000000 in
theorem gather_st {x : Int} {l r : Tr} (h : Stage F0 W0 (forestParts f c t v n W s L R ++ q) w) (H : SlotAt W n L R x l r) :
    Calls Try.prog 122 #[.pointer (some ⟨f, 0, none⟩), .int .i64 x] w fun e w' => ∃ (M : Tr) (L' : List Hg) (R' : List Int) (s' : Int), e = .returned (.tuple #[.int .i64 (M.top.getD 0), .bool M.top.isSome]) ∧ Gone W n L R x l r M s L' R' s' ∧ Stage F0 W0 (forestParts f c t v n W s' L' R' ++ q) w' := by
  obtain ⟨I, hn⟩ := fo_inv h
  have hL := fo_left h x
  have c1 := fo_c1 h
  rw [rep_top H.left] at hL
  cases hl : l.top with
  | none =>
    obtain rfl : l = .nil := by cases l with
      | nil => rfl
      | node a b d => cases hl
    obtain ⟨_, hG⟩ := gone_none (s := s) H
    replace hL : Calls Try.prog 89 #[.pointer (some ⟨t, 0, none⟩), .int .i64 x] w fun e w' => e = .returned (.tuple #[.int .i64 0, .bool false]) ∧ w = w' := hL
    clear hl
    go_enter Try.func122, Try.ntmps122
    go_wp2_with fail
    refine hL.mono ?_
    rintro e w1 ⟨rfl, rfl⟩
    go_wp2_with fail
    exact bodyPost_ret (v := .tuple #[.int .i64 0, .bool false]) (by simp [results, Try.results122, go_sem]) rfl ⟨.nil, L, R, s, rfl, hG, h⟩
  | some y =>
    rw [hl] at hL
    replace hL : Calls Try.prog 89 #[.pointer (some ⟨t, 0, none⟩), .int .i64 x] w fun e w' => e = .returned (.tuple #[.int .i64 y, .bool true]) ∧ w = w' := hL
    have hC := fo_cut h y
    have hk := (gone_left I H hl).2.2.1
    go_enter Try.func122, Try.ntmps122
    go_wp2_with fail
    refine hL.mono ?_
    rintro e w1 ⟨rfl, rfl⟩
    clear hL
    go_wp2_with fail
    refine hC.mono ?_
    rintro e w1 ⟨rfl, h1⟩
    clear hC c1
    have hR := fo_right h1 x
    have c1 := fo_c1 h1
    rw [hk] at hR
    clear hk
    cases hr : r.top with
    | none =>
      obtain rfl : r = .nil := by cases r with
        | nil => rfl
        | node a b d => cases hr
      have hG := gone_one (s := s) I H hl
      replace hR : Calls Try.prog 63 #[.pointer (some ⟨t, 0, none⟩), .int .i64 x] w1 fun e w' => e = .returned (.tuple #[.int .i64 0, .bool false]) ∧ w1 = w' := hR
      clear hr h
      generalize cutL L y = L1 at *
      go_wp2_with fail
      refine hR.mono ?_
      rintro e w2 ⟨rfl, rfl⟩
      go_wp2_with fail
      exact bodyPost_ret (v := .tuple #[.int .i64 y, .bool true]) (by simp [results, Try.results122, go_sem]) rfl ⟨l, L1, R, s, by rw [hl]; rfl, hG, h1⟩
    | some y2 =>
      rw [hr] at hR
      replace hR : Calls Try.prog 63 #[.pointer (some ⟨t, 0, none⟩), .int .i64 x] w1 fun e w' => e = .returned (.tuple #[.int .i64 y2, .bool true]) ∧ w1 = w' := hR
      obtain ⟨H2, hG⟩ := gone_both (s := s) I H hl hr
      have hC := fo_cut h1 y2
      clear h
      go_wp2_with fail
      refine hR.mono ?_
      rintro e w2 ⟨rfl, rfl⟩
      clear hR
      go_wp2_with fail
      refine hC.mono ?_
      rintro e w2 ⟨rfl, h2⟩
      clear hC h1 c1
      have hM := merge_st _ (Nat.le_refl _) h2 H2 hl hr
      clear h2
      generalize cutL (cutL L y) y2 = L2 at *
      go_wp2_with fail
      refine hM.mono ?_
      rintro e w3 ⟨T, m, L', R', s', rfl, m1, m2, m3, m4, m5, m6, m7, _, h3⟩
      have hG2 := hG m2 m3 m4 m5 m6 ⟨m7.1, m7.2.1⟩
      clear hG hM m2 m3 m4 m5 m6 m7
      go_wp2_with fail
      exact bodyPost_ret (v := .tuple #[.int .i64 m, .bool true]) (by simp [results, Try.results122, go_sem]) rfl ⟨T, L', R', s', by rw [m1]; rfl, hG2, h3⟩
end
end Go.Proofs.Ythjelmbicnbhiaa
