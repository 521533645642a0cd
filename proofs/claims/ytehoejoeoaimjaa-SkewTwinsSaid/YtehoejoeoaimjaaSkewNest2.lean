/- Merged of SkewNest, SkewNest2. -/
import Derived.Test.YtehoejoeoaimjaaNestRef
import Derived.Test.YtehoejoeoaimjaaSkewFun
import Derived.Test.YtehoejoeoaimjaaZMapL
namespace Go.Proofs.Ytehoejoeoaimjaa
open Go.RowKit Go.Sort

def skParts (p f c t bm n : Nat) (W : WS) (s : Int) (L : List Hg) (Ts : Nat → Tr) : List Ob :=
  skForest f c t n W s L ++ [Ob.box p #[ptrV c, ptrV f, .map (some bm)] 32, Ob.zmap Try.prog 3 3 bm (topsT Ts) (cntT Ts)]
/-- A nest of skew trees at p, whose cells are at c. -/
def Ob.skew (p c : Nat) (W : WS) (s : Int) (Ts : Nat → Tr) : Ob where
  holds w F := ∃ f t bm n L, TInv W Ts ∧ KInv Ts L ∧ W.cells.length = n ∧ W.Fit ∧ (0 ≤ s ∧ s ≤ 4611686018427387904) ∧ (Ob.group (skParts p f c t bm n W s L Ts)).holds w F
  keeps := fun ⟨f, t, bm, n, L, h1, h2, h3, h4, h5, h⟩ k hn => ⟨f, t, bm, n, L, h1, h2, h3, h4, h5, (Ob.group _).keeps h k hn⟩
  lt := fun ⟨_, _, _, _, _, _, _, _, _, _, h⟩ => (Ob.group _).lt h
/-- At p lies a pointer to the cells at c. -/
def skewH (p c : Nat) (w : World) : Prop := w.cell? ⟨p, 0, none⟩ = some (ptrV c)
section
variable {F0 : Nat → Prop} {W0 w : World} {p f c t bm n : Nat} {W : WS} {s : Int} {L : List Hg} {Ts : Nat → Tr}
theorem sk_p0 (h : Stage F0 W0 (skParts p f c t bm n W s L Ts) w) : w.cell? ⟨p, 0, none⟩ = some (ptrV c) := h.cell 3 rfl rfl
theorem sk_p1 (h : Stage F0 W0 (skParts p f c t bm n W s L Ts) w) : w.cell? ⟨p, 1, none⟩ = some (ptrV f) := h.cell 3 rfl rfl
theorem sk_p2 (h : Stage F0 W0 (skParts p f c t bm n W s L Ts) w) : w.cell? ⟨p, 2, none⟩ = some (.map (some bm)) := h.cell 3 rfl rfl
theorem kzero_int (w : World) : (zeroValue 3).run Try.prog w = .ok (.int .i64 0) w := by kernel_rfl
theorem sk_look (h : Stage F0 W0 (skParts p f c t bm n W s L Ts) w) (y : Int) (hy : inInt y) : (Instr.lookup 30 (.map (some bm)) (.int .i64 y) true).run Try.prog w = .ok (.tuple #[.int .i64 ((topsT Ts y).getD 0), .bool (topsT Ts y).isSome]) w :=
  h.lookOkZ 4 rfl Try.underlying30 Try.underlying3 Try.underlying3 (kzero_int w) y hy
theorem sk_look1 (h : Stage F0 W0 (skParts p f c t bm n W s L Ts) w) (y : Int) (hy : inInt y) : (Instr.lookup 30 (.map (some bm)) (.int .i64 y) false).run Try.prog w = .ok (.int .i64 ((topsT Ts y).getD 0)) w :=
  h.lookZ 4 rfl Try.underlying30 Try.underlying3 Try.underlying3 (kzero_int w) y hy
/-- A tree comes into a heap. -/
def KAddPost (F0 : Nat → Prop) (W0 : World) (p f c t bm n : Nat) (W : WS) (s : Int) (L : List Hg) (Ts : Nat → Tr) (h : Nat) (tb : Tr) (e : Ending) (w' : World) : Prop :=
  ∃ (L' : List Hg), e = .returned (.tuple #[]) ∧ KStands L' (Tr.merge (aheadW W) (Ts h) tb) ∧ KSame ((Ts h).slots ++ tb.slots) L L' ∧
    Stage F0 W0 (skParts p f c t bm n W (stp s (Tr.asked (aheadW W) (Ts h) tb)) L' (updT Ts h (Tr.merge (aheadW W) (Ts h) tb))) w'
set_option maxRecDepth 100000 in
set_option maxHeartbeats 1000000 in
theorem add_sk (hs : Stage F0 W0 (skParts p f c t bm n W s L Ts) w) {h : Nat} (hh : h < 65537) {tb : Tr} {x : Int} (hx : tb.top = some x) (H : KTwo W n L (Ts h) tb) :
    Calls Try.prog 41 #[.pointer (some ⟨p, 0, none⟩), .int .i64 h, .int .i64 x] w (KAddPost F0 W0 p f c t bm n W s L Ts h tb) := by
  have p1 := sk_p1 hs
  have p2 := sk_p2 hs
  have hl := sk_look hs h ⟨by omega, by omega⟩
  have hf := (kf_fit (q := [_, _]) hs).1
  have hst := (kf_fit (q := [_, _]) hs).2
  have hcnt : cntT Ts < maxLen := by have := cntT_le Ts; unfold maxLen; omega
  rw [topsT_nat] at hl
  unfold KAddPost
  cases ht : (Ts h).top with
  | none =>
    have hnil : Ts h = .nil := top_none ht
    rw [ht] at hl
    replace hl : (Instr.lookup 30 (.map (some bm)) (.int .i64 h) true).run Try.prog w = .ok (.tuple #[.int .i64 0, .bool false]) w := hl
    have hx64 : inInt x := in_int64 hf (H.ins x (by simp [Tr.top_in hx]))
    have hn1 := Lib.hid (cntT_put Ts hh (T := tb) (by rw [hx]; rfl))
    have hf1 := Lib.hid (show setZ (topsT Ts) h (some x) = topsT (updT Ts h tb) by rw [topsT_upd, hx])
    obtain ⟨e1, e2⟩ := Tr.merge_nil (lt := aheadW W) tb
    rw [hnil, e1, e2, stp_zero hst.2]
    have hsb := H.sb
    clear ht hnil e1 e2 H hst
    go_enter Try.func41, Try.ntmps41
    go_wp2_with (at_mapUpdate; refine Stage.wp_putZL (cntT (updT Ts h tb)) (topsT (updT Ts h tb)) hs 4 rfl rfl _ _ _ rfl Try.underlying30 Try.underlying3 Try.underlying3 hcnt rfl h x rfl rfl ⟨by omega, by omega⟩ hx64 hn1 hf1 ?_)
    intro w1 h1
    replace h1 : Stage F0 W0 (skParts p f c t bm n W s L (updT Ts h tb)) w1 := h1
    go_wp2_with fail
    go_end0
    exact ⟨L, rfl, hsb, KSame.refl _ _, h1⟩
  | some y =>
    rw [ht] at hl
    replace hl : (Instr.lookup 30 (.map (some bm)) (.int .i64 h) true).run Try.prog w = .ok (.tuple #[.int .i64 y, .bool true]) w := hl
    have hM := kmerge_st (q := [_, _]) hs H ht hx
    have hp := Tr.merge_perm (aheadW W) (Ts h) tb
    have hins := H.ins
    unfold KMergePost at hM
    clear ht H hx
    generalize Tr.asked (aheadW W) (Ts h) tb = K at *
    generalize Tr.merge (aheadW W) (Ts h) tb = T at *
    generalize stp s K = s' at *
    go_enter Try.func41, Try.ntmps41
    go_wp2_with fail
    refine hM.mono ?_
    rintro e w1 ⟨m, L', rfl, m1, m2, m3, h1⟩
    replace h1 : Stage F0 W0 (skParts p f c t bm n W s' L' Ts) w1 := h1
    clear hM hs hl p1 p2
    have p2 := sk_p2 h1
    have hm64 : inInt m := in_int64 hf (hins m (hp.mem_iff.1 (Tr.top_in m1)))
    have hn1 := Lib.hid (cntT_put Ts hh (T := T) (by rw [m1]; rfl))
    have hf1 := Lib.hid (show setZ (topsT Ts) h (some m) = topsT (updT Ts h T) by rw [topsT_upd, m1])
    clear m1 hp hins
    go_wp2_with (at_mapUpdate; refine Stage.wp_putZL (cntT (updT Ts h T)) (topsT (updT Ts h T)) h1 4 rfl rfl _ _ _ rfl Try.underlying30 Try.underlying3 Try.underlying3 hcnt rfl h m rfl rfl ⟨by omega, by omega⟩ hm64 hn1 hf1 ?_)
    intro w2 h2
    replace h2 : Stage F0 W0 (skParts p f c t bm n W s' L' (updT Ts h T)) w2 := h2
    go_wp2_with fail
    go_end0
    exact ⟨L', rfl, m2, m3, h2⟩
/-- A slot is topmost in a heap, or none. -/
theorem crown_no (hs : Stage F0 W0 (skParts p f c t bm n W s L Ts) w) {h : Nat} (hh : h < 65537) (m : Int) : Calls Try.prog 64 #[.pointer (some ⟨p, 0, none⟩), .int .i64 h, .int .i64 m, .bool false] w fun e w' => e = .returned (.tuple #[]) ∧ Stage F0 W0 (skParts p f c t bm n W s L (updT Ts h .nil)) w' := by
  have p2 := sk_p2 hs
  have hn1 := Lib.hid (cntT_del Ts hh)
  have hf1 := Lib.hid (show setZ (topsT Ts) h none = topsT (updT Ts h .nil) by rw [topsT_upd]; rfl)
  go_enter Try.func64, Try.ntmps64
  go_wp2_with (at_delete; refine Stage.wp_deleteZL (cntT (updT Ts h .nil)) (topsT (updT Ts h .nil)) hs 4 rfl rfl _ _ rfl Try.underlying30 Try.underlying3 rfl h rfl ⟨by omega, by omega⟩ hn1 hf1 ?_)
  intro w1 h1
  replace h1 : Stage F0 W0 (skParts p f c t bm n W s L (updT Ts h .nil)) w1 := h1
  go_wp2_with fail
  exact bodyPost_ret (results_none rfl _ _ _) rfl ⟨rfl, h1⟩
theorem crown_yes (hs : Stage F0 W0 (skParts p f c t bm n W s L Ts) w) {h : Nat} (hh : h < 65537) {m : Int} (hm : inInt m) {T : Tr} (hT : T.top = some m) : Calls Try.prog 64 #[.pointer (some ⟨p, 0, none⟩), .int .i64 h, .int .i64 m, .bool true] w fun e w' => e = .returned (.tuple #[]) ∧ Stage F0 W0 (skParts p f c t bm n W s L (updT Ts h T)) w' := by
  have p2 := sk_p2 hs
  have hcnt : cntT Ts < maxLen := by have := cntT_le Ts; unfold maxLen; omega
  have hn1 := Lib.hid (cntT_put Ts hh (T := T) (by rw [hT]; rfl))
  have hf1 := Lib.hid (show setZ (topsT Ts) h (some m) = topsT (updT Ts h T) by rw [topsT_upd, hT])
  clear hT
  go_enter Try.func64, Try.ntmps64
  go_wp2_with (at_mapUpdate; refine Stage.wp_putZL (cntT (updT Ts h T)) (topsT (updT Ts h T)) hs 4 rfl rfl _ _ _ rfl Try.underlying30 Try.underlying3 Try.underlying3 hcnt rfl h m rfl rfl ⟨by omega, by omega⟩ hm hn1 hf1 ?_)
  intro w1 h1
  replace h1 : Stage F0 W0 (skParts p f c t bm n W s L (updT Ts h T)) w1 := h1
  go_wp2_with fail
  go_end0
  exact ⟨rfl, h1⟩
end
section
variable {w : World} {p c f t bm n : Nat} {W W' : WS} {s s' : Int} {F F0 : Nat → Prop} {L : List Hg} {Ts : Nat → Tr}
theorem skew_close {w' : World} (hs : Stage F w (skParts p f c t bm n W' s' L Ts) w') (hF : ∀ b, F b → b < w.heap.size) (I : TInv W' Ts) (J : KInv Ts L) (hn : W'.cells.length = n) : ∃ F', (Ob.skew p c W' s' Ts).holds w' F' ∧ Moved F F' w w' := by
  obtain ⟨F', h1, m⟩ := hs.close hF
  have h2 := kf_fit (q := [_, _]) hs
  exact ⟨F', ⟨f, t, bm, n, L, I, J, hn, h2.1, h2.2, h1⟩, m⟩
set_option maxRecDepth 100000 in
theorem insert_sk (y x k q : Int) (h : (Ob.skew p c W s Ts).holds w F) : Calls Try.prog 23 #[.pointer (some ⟨p, 0, none⟩), .int .i64 y, .int .i64 x, .agg #[.int .i64 k, .int .u64 q]] w fun e w' => e = .returned (.bool (putB W y x)) ∧ ∃ F', (Ob.skew p c (putW W y x k q) (skIns W y x k q (s, Ts)).1 (skIns W y x k q (s, Ts)).2).holds w' F' ∧ Moved F F' w w' := by
  have hF := (Ob.skew p c W s Ts).lt h
  obtain ⟨f, t, bm, n, L, I, J, hn, hf, _, hg⟩ := h
  have hs := Ob.group.open hg
  clear hg
  obtain ⟨w0, hw0, hs0⟩ : ∃ w0, w.alloc (.cells #[.int .i64 k, .int .u64 q] 62) = w0 ∧ Stage F w (skParts p f c t bm n W s L Ts ++ [Ob.box w.heap.size #[.int .i64 k, .int .u64 q] 62]) w0 := ⟨_, rfl, hs.alloc _ _⟩
  have hC := hs0.drew.call 1 rfl (fun _ ho => put_cl y x k q ho)
  have b0 := hs0.cell 5 rfl (o := 0) rfl
  have b1 := hs0.cell 5 rfl (o := 1) rfl
  have p0 := hs0.cell 3 rfl (o := 0) rfl
  cases hB : putB W y x
  · have eW : putW W y x k q = W := by simp [putW, hB]
    have eI : skIns W y x k q (s, Ts) = (s, Ts) := by unfold skIns; rw [hB]; rfl
    rw [hB, eW] at hC
    rw [eI, eW]
    clear hs eI eW
    go_enter Try.func23, Try.ntmps23
    go_wp2_with fail
    go_still_tail 7, (by kernel_rfl)
    change wpList _ _ _ _ _ w0.drew
    go_wp2_with fail
    refine hC.mono ?_
    rintro e w1 ⟨rfl, hs1⟩
    have hs2 : Stage F w (skParts p f c t bm n W s L Ts) w1 := hs1.take 5
    go_wp2_with fail
    go_ret
    exact ⟨rfl, skew_close hs2 hF I J hn⟩
  · obtain ⟨i, rfl, hi1, hi2⟩ : ∃ i : Nat, y = i ∧ 1 ≤ i ∧ i < 65537 := by
      have hB2 := hB
      simp only [putB, Bool.and_eq_true] at hB2
      obtain ⟨i, rfl, h1, h2, _⟩ := has_nat hB2.1
      have := hf.len
      exact ⟨i, rfl, h1, by omega⟩
    obtain ⟨xi, rfl⟩ : ∃ xi : Nat, x = xi := by
      have hB2 := hB
      simp only [putB, Bool.and_eq_true] at hB2
      obtain ⟨j, e, _⟩ := slot_nat hB2.2.1
      exact ⟨j, e⟩
    obtain ⟨H2, hfin⟩ := kinsert_inv (k := k) (q := q) I J hn hB hi1
    have hnW : (putW W i xi k q).cells.length = n := by rw [lput_len]; exact hn
    have eI : skIns W i xi k q (s, Ts) = (stp s (Tr.asked (aheadW (putW W i xi k q)) (Ts i) (.node xi .nil .nil)), updT Ts i (Tr.merge (aheadW (putW W i xi k q)) (Ts i) (.node xi .nil .nil))) := by
      unfold skIns; rw [if_pos hB]; rfl
    rw [hB] at hC
    rw [eI]
    clear hs eI
    generalize hW1 : putW W i xi k q = W1 at *
    clear hW1
    go_enter Try.func23, Try.ntmps23
    go_wp2_with fail
    go_still_tail 7, (by kernel_rfl)
    change wpList _ _ _ _ _ w0.drew
    go_wp2_with fail
    refine hC.mono ?_
    rintro e w1 ⟨rfl, hs1⟩
    have hs2 : Stage F w (skParts p f c t bm n W1 s L Ts) w1 := hs1.take 5
    clear hs1 hC b0 b1 p0 hw0 hs0
    have hA := add_sk hs2 hi2 rfl H2
    go_wp2_with fail
    refine hA.mono ?_
    rintro e w3 ⟨L', rfl, m1, m2, hs4⟩
    clear hA hs2 H2
    obtain ⟨I3, J3⟩ := hfin m1 m2
    clear m1 m2 hfin
    go_wp2_with fail
    go_ret
    exact ⟨rfl, skew_close hs4 hF I3 J3 hnW⟩
theorem min_sk (y : Int) (hy : inInt y) (h : (Ob.skew p c W s Ts).holds w F) : Calls Try.prog 42 #[.pointer (some ⟨p, 0, none⟩), .int .i64 y] w fun e w' => e = .returned (.tuple #[.int .i64 (minI W y), .bool (minB W y)]) ∧ w = w' := by
  obtain ⟨f, t, bm, n, L, I, J, hn, hf, _, hg⟩ := h
  have hs := Ob.group.open hg
  have hL := sk_look hs y hy
  have p2 := sk_p2 hs
  have e : topsT Ts y = if minB W y then some (minI W y) else none := by
    unfold topsT
    by_cases hp : 1 ≤ y
    · obtain ⟨k, rfl⟩ : ∃ k : Nat, y = k := ⟨y.toNat, by omega⟩
      rw [if_pos (by omega), Int.toNat_natCast]
      cases ht : (Ts k).top with
      | none =>
        obtain ⟨q1, q2⟩ := minI_none (min_none_iff.2 ((I.empty (by omega)).1 (top_none ht)))
        rw [q2]; rfl
      | some x =>
        obtain ⟨m, hm1, hm2⟩ := I.min ht
        obtain ⟨q1, q2⟩ := minI_some (min_of hm2)
        rw [q1, q2, hm1]; rfl
    · have hz : lenW W y = 0 := by simp [lenW, show ¬ 0 < y by omega]
      obtain ⟨q1, q2⟩ := minI_none (min_none_iff.2 hz)
      rw [q2]
      by_cases h0 : y = 0
      · subst h0; simp [I.zero, Tr.top]
      · rw [if_neg (by omega)]; rfl
  have e2 : (topsT Ts y).getD 0 = minI W y ∧ (topsT Ts y).isSome = minB W y := by
    rw [e]
    cases hb : minB W y
    · have : minI W y = 0 := by
        cases hm : minW W y with
        | none => exact (minI_none hm).1
        | some m => rw [(minI_some hm).2] at hb; cases hb
      rw [this]; exact ⟨rfl, rfl⟩
    · exact ⟨rfl, rfl⟩
  rw [e2.1, e2.2] at hL
  clear e e2 hs hg I J
  generalize minI W y = a at *
  generalize minB W y = b at *
  go_enter Try.func42, Try.ntmps42
  go_wp2_with fail
  exact bodyPost_ret (v := .tuple #[.int .i64 a, .bool b]) (by simp [results, Try.results42, go_sem]) rfl ⟨rfl, rfl⟩
end
end Go.Proofs.Ytehoejoeoaimjaa

namespace Go.Proofs.Ytehoejoeoaimjaa
open Go.RowKit Go.Sort

section
variable {w : World} {p c f t bm n : Nat} {W W' : WS} {s s' : Int} {F F0 : Nat → Prop} {L : List Hg} {Ts : Nat → Tr}
set_option maxRecDepth 100000 in
set_option maxHeartbeats 2000000 in
theorem delete_sk (x : Int) (h : (Ob.skew p c W s Ts).holds w F) : Calls Try.prog 43 #[.pointer (some ⟨p, 0, none⟩), .int .i64 x] w fun e w' => e = .returned (.bool (inW W x)) ∧ ∃ F', (Ob.skew p c (dropW W x) (skDel W x (s, Ts)).1 (skDel W x (s, Ts)).2).holds w' F' ∧ Moved F F' w w' := by
  have hF := (Ob.skew p c W s Ts).lt h
  obtain ⟨f, t, bm, n, L, I, J, hn, hf, _, hg⟩ := h
  have hs := Ob.group.open hg
  clear hg
  have hH := hs.call 1 rfl (fun _ ho => home_cl x ho)
  have p0 := sk_p0 hs
  cases hB : inW W x
  · have eW : dropW W x = W := by simp [dropW, hB]
    have eI : skDel W x (s, Ts) = (s, Ts) := by unfold skDel; rw [hB]; rfl
    rw [hB] at hH
    rw [eW, eI]
    generalize ((cellW W x).home : Int) = hh at *
    clear eI eW
    go_enter Try.func43, Try.ntmps43
    go_wp2_with fail
    refine hH.mono ?_
    rintro e w1 ⟨rfl, hs1⟩
    have hs2 : Stage F w (skParts p f c t bm n W s L Ts) w1 := hs1
    go_wp2_with fail
    go_ret
    exact ⟨rfl, skew_close hs2 hF I J hn⟩
  · obtain ⟨k, hk⟩ : ∃ k, k = (cellW W x).home := ⟨_, rfl⟩
    obtain ⟨hk1, hm⟩ := I.home hB
    rw [← hk] at hk1 hm
    have hnn : Ts k ≠ .nil := fun e => by rw [e] at hm; simp [Tr.slots] at hm
    obtain ⟨_, hk2⟩ := I.keyLt hf hnn
    have eI : skDel W x (s, Ts) = skDelAt W k (s, Ts) (Tr.cutAt (Ts k) x) := by unfold skDel; rw [if_pos hB, ← hk]
    rw [eI]
    rw [← hk] at hH
    have hT := Tr.cutAt_spec hm
    obtain ⟨⟨z, l, r⟩, hz⟩ : ∃ p, Tr.cutAt (Ts k) x = p := ⟨_, rfl⟩
    rw [hz] at hT ⊢
    replace hT : Ts k = Tr.fillZ z (.node x l r) := hT
    show Calls Try.prog 43 #[.pointer (some ⟨p, 0, none⟩), .int .i64 x] w fun e w' => e = .returned (.bool true) ∧ ∃ F', (Ob.skew p c (dropW W x) (stp s (Tr.asked (aheadW W) l r)) (updT Ts k (Tr.fillZ z (Tr.merge (aheadW W) l r)))).holds w' F' ∧ Moved F F' w w'
    clear eI hz hnn
    have hSt := J.all k
    have hinT : ∀ y ∈ (Tr.fillZ z (.node x l r)).slots, inW W y = true := fun y hy => by rw [← hT] at hy; exact (I.in' hy).2.2.1
    rw [hT] at hSt
    have hnd := hSt.nodup
    have hdinv := fun {L'} => kdelete_inv (h := k) (z := z) (x := x) (l := l) (r := r) (L' := L') I J hT
    have hnD : (dropW W x).cells.length = n := by rw [ldrop_len]; exact hn
    have hpm := Tr.merge_perm (aheadW W) l r
    rw [hB] at hH
    have htop : ∀ wx L' s', Stage F w (skParts p f c t bm n W s' L' Ts) wx → (Instr.lookup 30 (.map (some bm)) (.int .i64 k) false).run Try.prog wx = .ok (.int .i64 (((Ts k).top).getD 0)) wx := fun wx L' s' h' => by
      have := sk_look1 h' k ⟨by omega, by omega⟩
      rw [topsT_nat] at this; exact this
    have hRm := fun (w1 : World) (h1 : Stage F w (skParts p f c t bm n W s L Ts) w1) => kremove_st (q := [_, _]) h1 hn hSt hinT
    have hD := fun (w4 : World) (s' : Int) (L' : List Hg) (Ts' : Nat → Tr) (h4 : Stage F w (skParts p f c t bm n W s' L' Ts') w4) => h4.call 1 rfl (fun _ ho => drop_cl x ho)
    rw [hB] at hD
    have hKO := fun {L'} (h : KOut W L z x l r L') => hdinv h.tree h.alone h.same
    have hMin : ∀ m ∈ (Tr.merge (aheadW W) l r).slots, inInt m := fun m hm => in_int64 hf (hinT m ((Tr.fillZ_perm _ _).mem_iff.2 (List.mem_append_left _ (by rw [Tr.slots]; exact List.mem_cons_of_mem _ (hpm.mem_iff.1 hm)))))
    clear hs hk hdinv hSt hinT hpm hm
    generalize stp s (Tr.asked (aheadW W) l r) = s' at *
    generalize Tr.merge (aheadW W) l r = M at *
    generalize hmv : M.top.getD 0 = mv at *
    generalize hmb : M.top.isSome = mb at *
    replace hmv := Lib.hid hmv
    replace hmb := Lib.hid hmb
    go_enter Try.func43, Try.ntmps43
    go_wp2_with fail
    refine hH.mono ?_
    rintro e w1 ⟨rfl, hs1⟩
    have hs2 : Stage F w (skParts p f c t bm n W s L Ts) w1 := hs1
    clear hs1 hH p0
    have p1 := sk_p1 hs2
    replace hRm := hRm w1 hs2
    go_wp2_with fail
    refine hRm.mono ?_
    rintro e w2 ⟨L', rfl, m1, hs3⟩
    replace hs3 : Stage F w (skParts p f c t bm n W s' L' Ts) w2 := hs3
    clear hRm hs2 p1
    obtain ⟨I3, J3⟩ := hKO m1
    have p2 := sk_p2 hs3
    have hlk := htop _ _ _ hs3
    clear htop m1 hKO
    cases z with
    | nil =>
      have et : (Ts k).top = some x := by rw [hT]; rfl
      rw [et] at hlk
      replace hlk : (Instr.lookup 30 (.map (some bm)) (.int .i64 k) false).run Try.prog w2 = .ok (.int .i64 x) w2 := hlk
      cases mb
      · obtain rfl : M = .nil := top_none (by
          cases e : M.top with
          | none => rfl
          | some a => have := hmb.out; rw [e] at this; cases this)
        have hCr := crown_no hs3 hk2 mv
        clear et hT hnd
        go_wp2_with fail
        refine hCr.mono ?_
        rintro e w3 ⟨rfl, hs4⟩
        clear hCr hs3 hlk p2
        replace hD := hD _ _ _ _ hs4
        have p0 := sk_p0 hs4
        go_wp2_with fail
        refine hD.mono ?_
        rintro e w4 ⟨rfl, hs5⟩
        have hs6 : Stage F w (skParts p f c t bm n (dropW W x) s' L' (updT Ts k .nil)) w4 := hs5
        go_wp2_with fail
        go_ret
        exact ⟨rfl, skew_close hs6 hF I3 J3 hnD⟩
      · have hmt : M.top = some mv := by
          cases e : M.top with
          | none => have := hmb.out; rw [e] at this; cases this
          | some a => have := hmv.out; rw [e] at this; exact congrArg some this
        have hCr := crown_yes hs3 hk2 (hMin mv (Tr.top_in hmt)) hmt
        clear et hT hnd hmt hMin hmv hmb
        go_wp2_with fail
        refine hCr.mono ?_
        rintro e w3 ⟨rfl, hs4⟩
        clear hCr hs3 hlk p2
        replace hD := hD _ _ _ _ hs4
        have p0 := sk_p0 hs4
        go_wp2_with fail
        refine hD.mono ?_
        rintro e w4 ⟨rfl, hs5⟩
        have hs6 : Stage F w (skParts p f c t bm n (dropW W x) s' L' (updT Ts k M)) w4 := hs5
        go_wp2_with fail
        go_ret
        exact ⟨rfl, skew_close hs6 hF I3 J3 hnD⟩
    | cons g z =>
      obtain ⟨y, hy1, hy2⟩ := Tr.zip_top_in z g (.node x l r)
      have hyx : (y == x) = false := by
        obtain ⟨_, _, _, hap⟩ := frame_out hnd
        rw [beq_eq_false_iff_ne]
        intro e
        exact hap x (by simp [Tr.slots]) (by rw [← e]; exact hy1)
      have et : (Ts k).top = some y := by rw [hT]; exact hy2
      rw [et] at hlk
      replace hlk : (Instr.lookup 30 (.map (some bm)) (.int .i64 k) false).run Try.prog w2 = .ok (.int .i64 y) w2 := hlk
      have hsame := tops_same Ts (h := k) (T := Tr.fillZ (g :: z) M) (by rw [hT]; exact Tr.zip_top z g M _)
      have hs4 : Stage F w (skParts p f c t bm n W s' L' (updT Ts k (Tr.fillZ (g :: z) M))) w2 := by
        unfold skParts
        rw [hsame.1, hsame.2]
        exact hs3
      replace hD := hD _ _ _ _ hs4
      have p0 := sk_p0 hs4
      clear hmv hmb et hnd hs3 hs4 hsame hT hy2 hMin
      go_wp2_with fail
      refine hD.mono ?_
      rintro e w4 ⟨rfl, hs5⟩
      have hs6 : Stage F w (skParts p f c t bm n (dropW W x) s' L' (updT Ts k (Tr.fillZ (g :: z) M))) w4 := hs5
      go_wp2_with fail
      go_ret
      exact ⟨rfl, skew_close hs6 hF I3 J3 hnD⟩
theorem extract_sk (y : Int) (hy : inInt y) (h : (Ob.skew p c W s Ts).holds w F) : Calls Try.prog 24 #[.pointer (some ⟨p, 0, none⟩), .int .i64 y] w fun e w' => e = .returned (.tuple #[.int .i64 (minI W y), .bool (minB W y)]) ∧ ∃ F', (Ob.skew p c (exW W y) (skExt W y (s, Ts)).1 (skExt W y (s, Ts)).2).holds w' F' ∧ Moved F F' w w' := by
  have hM := min_sk y hy h
  cases hm : minW W y with
  | none =>
    obtain ⟨q1, q2⟩ := minI_none hm
    have q3 : exW W y = W := by simp [exW, hm]
    have q4 : skExt W y (s, Ts) = (s, Ts) := by unfold skExt; rw [q2]; rfl
    rw [q1, q2] at hM ⊢
    rw [q3, q4]
    clear q1 q2 q3 q4
    go_enter Try.func24, Try.ntmps24
    go_wp2_with fail
    refine hM.mono ?_
    rintro e w1 ⟨rfl, rfl⟩
    go_wp2_with fail
    exact bodyPost_ret (v := .tuple #[.int .i64 0, .bool false]) (by simp [results, Try.results24, go_sem]) rfl ⟨rfl, F, h, Moved.refl _ _⟩
  | some m =>
    obtain ⟨q1, q2⟩ := minI_some hm
    have q3 : exW W y = dropW W m := by simp [exW, hm]
    have q4 : skExt W y (s, Ts) = skDel W m (s, Ts) := by unfold skExt; rw [q2, if_pos rfl, q1]
    have hmin := min_is hm
    rw [q1, q2] at hM ⊢
    rw [q3, q4]
    have hD := delete_sk m h
    rw [(isMin_in hmin).1] at hD
    clear q1 q2 q3 q4 hmin hm
    generalize skDel W m (s, Ts) = g' at *
    go_enter Try.func24, Try.ntmps24
    go_wp2_with fail
    refine hM.mono ?_
    rintro e w1 ⟨rfl, rfl⟩
    go_wp2_with fail
    refine hD.mono ?_
    rintro e w2 ⟨rfl, h2⟩
    go_wp2_with fail
    exact bodyPost_ret (v := .tuple #[.int .i64 m, .bool true]) (by simp [results, Try.results24, go_sem]) rfl ⟨rfl, h2⟩
end
end Go.Proofs.Ytehoejoeoaimjaa
