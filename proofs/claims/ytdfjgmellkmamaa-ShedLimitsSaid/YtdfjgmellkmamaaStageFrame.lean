/- Merged of ShedHeap, ShedNest, StageFrame. -/
import Derived.Test.YtdfjgmellkmamaaShedDown
import Derived.Test.YtdfjgmellkmamaaShedHeapMath
import Derived.Test.YtdfjgmellkmamaaShedUp
import Derived.Test.YtdfjgmellkmamaaStage
namespace Go.Proofs.Ytdfjgmellkmamaa
open Go.RowKit Go.Sort

section
variable {F0 : Nat → Prop} {W0 w : World} {p c bm : Nat} {vp : Value} {W : WS} {s : Int} {pl : List Nat} {q : Nat} {v : Value} {xs : List Nat} {r : List Ob}
set_option maxRecDepth 100000 in
set_option maxHeartbeats 2000000 in
theorem push_st (hs : Stage F0 W0 (handL p c bm vp W s pl q v xs ++ r) w) (hx : xs.length < 65536) (hpl : pl.length ≤ 65536) (P : Placed xs pl) (x : Nat) (A : AllIn W (xs ++ [x])) (hxx : x ∉ xs) (hxp : x < pl.length) (H : Heap 2 (ltW W) xs) :
    Calls Try.prog 31 #[ilist q, .iface 3 (.int .i64 x)] w fun e w' => e = .returned (.tuple #[]) ∧ ∃ v' xs' pl' s', Heap 2 (ltW W) xs' ∧ Turned (depthI 2 xs.length) [] (xs ++ [x]) (pl.set x xs.length) s xs' pl' s' ∧ (0 < xs.length → 0 < s') ∧ Stage F0 W0 (handL p c bm vp W s' pl' q v' xs' ++ r) w' := by
  have hP := spush_st hs (by omega) hpl x hxp
  have P2 := placed_snoc P hxx hxp
  have U := heap_push (d := 2) (by omega) H x
  have f1 := m_push q
  have f2 := e_push
  have f3 := m_len q
  have f4 := e_len
  have hl : (xs ++ [x]).length = xs.length + 1 := by simp
  have e1 : IntKind.i64.wrap (((xs.length + 1 : Nat) : Int) - 1) = (xs.length : Int) := by rw [show ((xs.length + 1 : Nat) : Int) - 1 = (xs.length : Int) by omega]; exact IntWalk.i64_in _ (by omega)
  generalize pl.set x xs.length = pl1 at *
  generalize hn : xs.length = n at *
  generalize xs ++ [x] = ys at *
  clear hs P H
  go_enter Try.func31, Try.ntmps31
  go_wp2_with fail
  refine hP.mono ?_
  rintro e w1 ⟨rfl, v1, hs1⟩
  clear hP
  have hL := slen_st hs1
  rw [hl] at hL
  have hs1' : Stage F0 W0 (handL p c bm vp W s pl1 q v1 (ys ++ []) ++ r) w1 := by rw [List.append_nil]; exact hs1
  have hU := up_st hs1' (by omega) (by rw [List.append_nil]; exact P2) A n U
  clear hs1'
  go_wp2_with fail
  refine hL.mono ?_
  rintro e w2 ⟨rfl, rfl⟩
  go_wp2_with fail
  refine hU.mono ?_
  rintro e w3 ⟨rfl, ys', pl', s', h1, h2, h4, h3⟩
  rw [List.append_nil] at h3
  go_wp2_with fail
  go_end0
  exact ⟨rfl, v1, ys', pl', s', h1, h2, h4, h3⟩
set_option maxRecDepth 100000 in
set_option maxHeartbeats 2000000 in
theorem fix_st (hs : Stage F0 W0 (handL p c bm vp W s pl q v xs ++ r) w) (hx : xs.length ≤ 65536) (P : Placed xs pl) (A : AllIn W xs) (i : Nat) (U : FixInv (ltW W) xs i) :
    Calls Try.prog 101 #[ilist q, .int .i64 i] w fun e w' => e = .returned (.tuple #[]) ∧ ∃ xs' pl' s', Heap 2 (ltW W) xs' ∧ Turned (2 * depthI 2 (xs.length - 1) + 2) [] xs pl s xs' pl' s' ∧ Stage F0 W0 (handL p c bm vp W s' pl' q v xs' ++ r) w' := by
  have f3 := m_len q
  have f4 := e_len
  have hi := U.ilt
  have hL := slen_st hs
  have hs' : Stage F0 W0 (handL p c bm vp W s pl q v (xs ++ []) ++ r) w := by rw [List.append_nil]; exact hs
  have hD := down_st hs' hx (by rw [List.append_nil]; exact P) A i U
  clear hs'
  generalize hn : xs.length = n at *
  go_enter Try.func101, Try.ntmps101
  go_wp2_with fail
  refine hL.mono ?_
  rintro e w1 ⟨rfl, rfl⟩
  go_wp2_with fail
  refine hD.mono ?_
  rintro e w2 ⟨b, ys', pl', s', rfl, h1, h2, h3⟩
  rw [hn] at h1
  clear hD hL hs
  cases b
  · obtain ⟨rfl, hU, hT⟩ := h2 rfl
    have hUp := up_st (zs := []) h3 (by omega) (by have := hT.placed; exact this) (A.perm hT.perm) i hU
    have hd := depth_mono (d := 2) (by omega) (n - 1) i (by omega)
    clear h1 h2 U
    go_wp2_with fail
    refine hUp.mono ?_
    rintro e w3 ⟨rfl, ys2, pl2, s2, g1, g2, _, g3⟩
    rw [List.append_nil] at g3
    go_wp2_with fail
    go_end0
    exact ⟨rfl, ys2, pl2, s2, g1, (hT.trans g2).mono (by omega), g3⟩
  · obtain ⟨hH, hT⟩ := h1 rfl
    rw [List.append_nil] at h3
    clear h1 h2 U
    go_wp2_with fail
    go_end0
    exact ⟨rfl, ys', pl', s', hH, hT.mono (by omega), h3⟩
set_option maxRecDepth 100000 in
set_option maxHeartbeats 2000000 in
theorem remove_st (hs : Stage F0 W0 (handL p c bm vp W s pl q v xs ++ r) w) (n : Nat) (hn : xs.length = n + 1) (hx : xs.length ≤ 65536) (P : Placed xs pl) (A : AllIn W xs) (H : Heap 2 (ltW W) xs) (i : Nat) (hi : i < xs.length) :
    Calls Try.prog 53 #[ilist q, .int .i64 i] w fun e w' => e = .returned (.iface 3 (.int .i64 (rat xs i))) ∧ ∃ v' xs' pl' s', Heap 2 (ltW W) xs' ∧ (xs' ++ [rat xs i]).Perm xs ∧ Placed xs' pl' ∧ pl'.length = pl.length ∧ (∀ y, y ∉ xs → rat pl' y = rat pl y) ∧ (s ≤ s' ∧ s' ≤ s + (2 * depthI 2 n + 2 : Nat)) ∧ Stage F0 W0 (handL p c bm vp W s' pl' q v' xs' ++ r) w' := by
  have f1 := m_len q
  have f2 := e_len
  have f3 := m_swap q
  have f4 := e_swap
  have f5 := m_pop q
  have f6 := e_pop
  have hL := slen_st hs
  rw [hn] at hL
  have e1 : IntKind.i64.wrap (((n + 1 : Nat) : Int) - 1) = (n : Int) := by rw [show ((n + 1 : Nat) : Int) - 1 = (n : Int) by omega]; exact IntWalk.i64_in _ (by omega)
  by_cases hin : i = n
  · subst hin
    have hP := spop_st hs i hn hx
    have g1 := heap_pop (by omega) H i
    have g2 := take_last hn
    have g3 := placed_take P i
    clear H
    go_enter Try.func53, Try.ntmps53
    go_wp2_with fail
    refine hL.mono ?_
    rintro e w1 ⟨rfl, rfl⟩
    go_wp2_with fail
    refine hP.mono ?_
    rintro e w2 ⟨rfl, v', hs'⟩
    go_wp2_with fail
    go_ret
    exact ⟨rfl, v', xs.take i, pl, s, g1, by rw [g2], g3, rfl, fun _ _ => rfl, by omega, hs'⟩
  · have hin' : ((n : Int) == i) = false := by simp; omega
    have hiL : i < n := by omega
    have hS := sswap_st hs P i n hi (by omega) hin
    have P2 := placed_swap P hi (show n < xs.length by omega)
    have S1 := strict_of (pl := pl) A (fun i j hi hj e => placed_inj P hi hj e)
    have U := fix_swap H S1 hn hiL
    have hlen : (swapL xs i n).length = n + 1 := by rw [swap_len]; exact hn
    have hsp := take_last hlen
    have hlast : rat (swapL xs i n) n = rat xs i := by rw [rat_swap hi (by omega), if_pos rfl]
    rw [hlast] at hsp
    have hperm := swap_perm (l := xs) hi (show n < xs.length by omega)
    have hpl2 := swapP_len xs pl i n
    have hoff : ∀ y, y ∉ xs → rat (swapP xs pl i n) y = rat pl y := fun y hy => swapP_off hi (by omega) ⟨(P i hi).1, (P n (by omega)).1⟩ hy
    have hyl : ((swapL xs i n).take n).length = n := by rw [List.length_take, hlen]; omega
    rw [← hsp] at hS P2 hperm
    generalize swapP xs pl i n = pl1 at *
    generalize hys : (swapL xs i n).take n = ys at *
    have hxm : ∀ y, y ∈ ys → y ∈ xs := fun y hy => hperm.mem_iff.1 (List.mem_append_left _ hy)
    have A2 : AllIn W ys := fun y hy => A y (hxm y hy)
    have hD := fun (w : World) (hs : Stage F0 W0 (handL p c bm vp W s pl1 q v (ys ++ [rat xs i]) ++ r) w) => down_st hs (by omega) P2 A2 i U
    rw [hyl] at hD
    generalize rat xs i = x at *
    clear hsp hlast hlen hys H S1 P
    go_enter Try.func53, Try.ntmps53
    go_wp2_with fail
    refine hL.mono ?_
    rintro e w1 ⟨rfl, rfl⟩
    go_wp2_with fail
    refine hS.mono ?_
    rintro e w2 ⟨rfl, hs2⟩
    clear hL hS hs
    have hD2 := hD _ hs2
    clear hD
    go_wp2_with fail
    refine hD2.mono ?_
    rintro e w3 ⟨b, ys', pl', s', rfl, h1, h2, h3⟩
    rw [hyl] at h1
    clear hD2 hs2
    have hdn := depth_mono (d := 2) (by omega) n (n - 1) (by omega)
    have hdi := depth_mono (d := 2) (by omega) n i (by omega)
    have hfin : ∀ (ys2 pl2 : List Nat) (s2 : Int) (m : Nat), Turned m [x] ys pl1 s ys2 pl2 s2 → m ≤ 2 * depthI 2 n + 2 → ys2.length = n ∧ (ys2 ++ [x]).length = n + 1 ∧ rat (ys2 ++ [x]) n = x ∧ (ys2 ++ [x]).take n = ys2 ∧ (ys2 ++ [x]).Perm xs ∧ Placed ys2 pl2 ∧ pl2.length = pl.length ∧ (∀ y, y ∉ xs → rat pl2 y = rat pl y) ∧ (s ≤ s2 ∧ s2 ≤ s + (2 * depthI 2 n + 2 : Nat)) := by
      intro ys2 pl2 s2 m hT hm
      have hl2 : ys2.length = n := by rw [hT.perm.length_eq]; exact hyl
      refine ⟨hl2, by simp [hl2], ?_, by rw [← hl2]; exact List.take_left' rfl, (hT.perm.append_right [x]).trans hperm, placed_left hT.placed, hT.plen.trans hpl2, fun y hy => (hT.off y (fun h => hy (hxm y h))).trans (hoff y hy), hT.lo, by have := hT.hi; omega⟩
      rw [← hl2]
      simp [rat, List.getD_eq_getElem?_getD]
    cases b
    · obtain ⟨rfl, hU, hT⟩ := h2 rfl
      have hUp := up_st h3 (by omega) hT.placed A2 i hU
      clear h1 h2 U
      go_wp2_with fail
      refine hUp.mono ?_
      rintro e w4 ⟨rfl, ys2, pl2, s2, g1, g2, _, g3⟩
      obtain ⟨_, k2, k3, k4, k5, k6, k7, k8, k9⟩ := hfin ys2 pl2 s2 _ (hT.trans g2) (by omega)
      have hP := spop_st g3 n k2 (by omega)
      rw [k3, k4] at hP
      clear hfin hUp h3
      go_wp2_with fail
      refine hP.mono ?_
      rintro e w5 ⟨rfl, v', hs'⟩
      go_wp2_with fail
      go_ret
      exact ⟨rfl, v', ys2, pl2, s2, g1, k5, k6, k7, k8, k9, hs'⟩
    · obtain ⟨hH, hT⟩ := h1 rfl
      obtain ⟨_, k2, k3, k4, k5, k6, k7, k8, k9⟩ := hfin ys' pl' s' _ hT (by omega)
      have hP := spop_st h3 n k2 (by omega)
      rw [k3, k4] at hP
      clear h1 h2 U hfin h3
      go_wp2_with fail
      refine hP.mono ?_
      rintro e w5 ⟨rfl, v', hs'⟩
      go_wp2_with fail
      go_ret
      exact ⟨rfl, v', ys', pl', s', hH, k5, k6, k7, k8, k9, hs'⟩
end
end Go.Proofs.Ytdfjgmellkmamaa

namespace Go.Proofs.Ytdfjgmellkmamaa
open Go.RowKit Go.Sort

section
variable {w : World} {p c : Nat} {W : WS} {s : Int} {F : Nat → Prop}
theorem shed_close {F : Nat → Prop} {w w' : World} {bm : Nat} {vp : Value} {W' : WS} {s' : Int} {pl : List Nat} {Ls : Nat → List Nat} {qs : Nat → Nat} (hs : Stage F w (shedParts p c bm vp W' s' pl (mapO Ls qs) (famO p Ls qs)) w') (hF : ∀ b, F b → b < w.heap.size) (I : SInv W' pl Ls) (hf : W'.Fit) : ∃ F', (Ob.shed p c W' s').holds w' F' ∧ Moved F F' w w' := by
  obtain ⟨F', h1, m⟩ := hs.close hF
  have h3 : 0 ≤ s' ∧ s' ≤ 4611686018427387904 := by
    obtain ⟨G, ho⟩ := hs.get (i := 1) rfl
    exact Ob.cells.steps ho
  exact ⟨F', ⟨bm, vp, pl, Ls, qs, I, hf, h3, h1⟩, m⟩
theorem parts_fit {F0 : Nat → Prop} {W0 : World} {bm : Nat} {vp : Value} {pl : List Nat} {f : Int → Option Nat} {g : Nat → Ob} (hs : Stage F0 W0 (shedParts p c bm vp W s pl f g) w) : W.Fit := by
  obtain ⟨G, ho⟩ := hs.get (i := 1) rfl
  exact Ob.cells.fit ho
set_option maxRecDepth 100000 in
theorem insert_sh (y x k q : Int) (h : (Ob.shed p c W s).holds w F) : Calls Try.prog 19 #[.pointer (some ⟨p, 0, none⟩), .int .i64 y, .int .i64 x, .agg #[.int .i64 k, .int .u64 q]] w fun e w' => e = .returned (.bool (putB W y x)) ∧ ∃ s', (s ≤ s' ∧ (putB W y x = false → s' = s) ∧ s' ≤ s + depthI 2 (lenW W y) ∧ (putB W y x = true → 0 < lenW W y → 0 < s')) ∧ ∃ F', (Ob.shed p c (putW W y x k q) s').holds w' F' ∧ Moved F F' w w' := by
  have hF := (Ob.shed p c W s).lt h
  obtain ⟨bm, vp, pl, Ls, qs, I, hf, _, hg⟩ := h
  have hs := Ob.group.open hg
  clear hg
  obtain ⟨w0, hw0, hs0⟩ : ∃ w0, w.alloc (.cells #[.int .i64 k, .int .u64 q] 59) = w0 ∧ Stage F w (shedParts p c bm vp W s pl (mapO Ls qs) (famO p Ls qs) ++ [Ob.box w.heap.size #[.int .i64 k, .int .u64 q] 59]) w0 := ⟨_, rfl, hs.alloc _ _⟩
  have hC := hs0.drew.call 1 rfl (fun _ ho => put_cl y x k q ho)
  have b0 := hs0.cell 5 rfl (o := 0) rfl
  have b1 := hs0.cell 5 rfl (o := 1) rfl
  have p0 := hs0.cell 0 rfl (o := 0) rfl
  cases hB : putB W y x
  · have eW : putW W y x k q = W := by simp [putW, hB]
    rw [hB, eW] at hC
    rw [eW]
    clear hs
    go_enter Try.func19, Try.ntmps19
    go_wp2_with fail
    go_still_tail 7, (by kernel_rfl)
    change wpList _ _ _ _ _ w0.drew
    go_wp2_with fail
    refine hC.mono ?_
    rintro e w1 ⟨rfl, hs1⟩
    have hs2 : Stage F w (shedParts p c bm vp W s pl (mapO Ls qs) (famO p Ls qs)) w1 := hs1.take 5
    go_wp2_with fail
    go_ret
    exact ⟨rfl, s, ⟨Int.le_refl _, fun _ => rfl, by omega, fun e => by simp at e⟩, shed_close hs2 hF I hf⟩
  · obtain ⟨i, j, rfl, rfl, hi1, hi2, hj⟩ : ∃ i j : Nat, y = i ∧ x = j ∧ 1 ≤ i ∧ i < 65537 ∧ j < W.cells.length := by
      have hB2 := hB
      simp only [putB, Bool.and_eq_true] at hB2
      obtain ⟨i, rfl, h1, h2, _⟩ := has_nat hB2.1
      obtain ⟨j, rfl, h3⟩ := slot_nat hB2.2.1
      have := hf.len
      exact ⟨i, j, rfl, rfl, h1, by omega, h3⟩
    obtain ⟨_, h0, _, hnot, hH, hall, hfin⟩ := sinv_put (k := k) (s := q) I hB hi1
    have hlen := I.len i hi1
    have hle := I.lenLe hf i
    have hlt : (Ls i).length < 65536 := by
      have h1 := hf.cap
      have h2 := len_put (W := W) (k := k) (s := q) hi1 hj h0 i
      rw [if_pos rfl] at h2
      have h3 := len_le (⟨W.heaps, W.cells.set j ⟨i, k, q⟩⟩ : WS) i
      rw [show (⟨W.heaps, W.cells.set j ⟨i, k, q⟩⟩ : WS).cells.length = W.cells.length from List.length_set] at h3
      omega
    have hplc : pl.length ≤ 65536 := by rw [I.plen]; exact hf.cap
    have hjp : j < pl.length := by rw [I.plen]; exact hj
    have hP := I.placed i
    have hnj := hnot i
    rw [hB] at hC
    clear hs hnot
    generalize putW W i j k q = W1 at *
    go_enter Try.func19, Try.ntmps19
    go_wp2_with fail
    go_still_tail 7, (by kernel_rfl)
    change wpList _ _ _ _ _ w0.drew
    go_wp2_with fail
    refine hC.mono ?_
    rintro e w1 ⟨rfl, hs1⟩
    have hs2 : Stage F w (shedParts p c bm vp W1 s pl (mapO Ls qs) (famO p Ls qs)) w1 := hs1.take 5
    clear hs1 hC b0 b1 p0 hw0 hs0
    have hf1 := parts_fit hs2
    have hL := list_hand hs2 i hi2
    go_wp2_with fail
    refine hL.mono ?_
    rintro e w2 ⟨q2, v2, rfl, hs3⟩
    clear hL hs2
    have hPu := push_st hs3 hlt hplc hP j hall hnj hjp hH
    go_wp2_with fail
    refine hPu.mono ?_
    rintro e w3 ⟨rfl, v3, ys, pl3, s3, g1, g2, g3, hs4⟩
    clear hPu hs3
    have hyl : ys.length ≤ 65536 := by rw [g2.perm.length_eq]; simp; omega
    have hpl3 : pl3.length = pl.length := by rw [g2.plen, List.length_set]
    have I3 := hfin ys pl3 g1 g2.perm (by have := g2.placed; rwa [List.append_nil] at this) hpl3 (fun z hz => by
      rw [g2.off z hz]
      exact set_off hjp _ _ (fun e => hz (by rw [← e]; simp)))
    have hK := keep_st hs4 i hi2 hyl (upd_same _ _ _)
    have hst : s ≤ s3 ∧ (true = false → s3 = s) ∧ s3 ≤ s + depthI 2 (lenW W i) ∧ (true = true → 0 < lenW W i → 0 < s3) := ⟨g2.lo, fun e => (by cases e), by rw [← hlen]; exact g2.hi, fun _ h => g3 (by rw [hlen]; exact h)⟩
    rw [upd_map, upd_upd, upd_fam] at hK
    clear g2 hs4 hfin
    go_wp2_with fail
    refine hK.mono ?_
    rintro e w4 ⟨rfl, hs5⟩
    go_wp2_with fail
    go_ret
    exact ⟨rfl, s3, hst, shed_close hs5 hF I3 hf1⟩
end
end Go.Proofs.Ytdfjgmellkmamaa

namespace Go.Proofs.Ytdfjgmellkmamaa
open Go.RowKit Go.Sort
namespace Stage
variable {F0 : Nat → Prop} {W w w' : World} {l : List Ob} {P : Program} {f : FuncId} {args : Array Value} {v : Value}
/-- A call that knows the first things alone: the others are as they were. -/
theorem frameEx {α : Type} {r : List Ob} {Post : α → Ending → Prop} {l' : α → List Ob} (h : Stage F0 W (l ++ r) w) (hc : ∀ F : Nat → Prop, (∀ b, F b → b < w.heap.size) → Stage F w l w → Calls P f args w fun e w' => ∃ x, Post x e ∧ Stage F w (l' x) w') :
    Calls P f args w fun e w' => ∃ x, Post x e ∧ Stage F0 W (l' x ++ r) w' := by
  obtain ⟨hk, G, h1, h2, h3⟩ := h
  have hW := hk.size
  refine (hc (fun b => ∃ i, i < l.length ∧ G i b) (fun b ⟨i, _, hb⟩ => (h3 i b hb).2) ⟨Keeps.refl _ _, fun i b => i < l.length ∧ G i b, fun i O hi => ?_, fun i j b hij hb hb' => h2 i j b hij hb.2 hb'.2, fun i b hb => ⟨Or.inl ⟨i, hb⟩, (h3 i b hb.2).2⟩⟩).mono ?_
  · have hl := Scene.idx hi
    have e : (fun b => i < l.length ∧ G i b) = G i := by funext b; simp [hl]
    show O.holds w (fun b => i < l.length ∧ G i b)
    rw [e]
    exact h1 i O (by rw [List.getElem?_append_left hl]; exact hi)
  · rintro e w' ⟨x, hp, hk', G', g1, g2, g3⟩
    refine ⟨x, hp, ⟨hk'.os.trans hk.os, hk'.tape.trans hk.tape, hk'.output.trans hk.output, Nat.le_trans hW hk'.size, fun k hk1 hn => (hk'.block k (Nat.lt_of_lt_of_le hk1 hW) (fun ⟨i, _, hb⟩ => ?_)).trans (hk.block k hk1 hn)⟩,
      fun i => if i < (l' x).length then G' i else G (l.length + (i - (l' x).length)), fun i O hi => ?_, fun i j b hij hb hb' => ?_, fun i b hb => ?_⟩
    · rcases (h3 i k hb).1 with h | h
      · exact hn h
      · omega
    · by_cases hi' : i < (l' x).length
      · simp only [if_pos hi']
        rw [List.getElem?_append_left hi'] at hi
        exact g1 i O hi
      · simp only [if_neg hi']
        rw [List.getElem?_append_right (by omega)] at hi
        refine O.keeps (h1 (l.length + (i - (l' x).length)) O ?_) hk' (fun b hb ⟨j, hj, hb'⟩ => h2 _ j b (by omega) hb hb')
        rw [List.getElem?_append_right (by omega), Nat.add_sub_cancel_left]
        exact hi
    · simp only at hb hb'
      split at hb
      · split at hb'
        · exact g2 i j b hij hb hb'
        · rcases (g3 i b hb).1 with ⟨k, hk1, hk2⟩ | h
          · exact h2 k _ b (by omega) hk2 hb'
          · have := (h3 _ b hb').2; omega
      · split at hb'
        · rcases (g3 j b hb').1 with ⟨k, hk1, hk2⟩ | h
          · exact h2 k _ b (by omega) hk2 hb
          · have := (h3 _ b hb).2; omega
        · exact h2 _ _ b (by omega) hb hb'
    · simp only at hb
      split at hb
      · refine ⟨?_, (g3 i b hb).2⟩
        rcases (g3 i b hb).1 with ⟨k, _, hk2⟩ | h
        · exact (h3 k b hk2).1
        · exact Or.inr (by omega)
      · exact ⟨(h3 _ b hb).1, Nat.lt_of_lt_of_le (h3 _ b hb).2 hk'.size⟩
theorem frame {r l' : List Ob} (h : Stage F0 W (l ++ r) w) (hc : ∀ F : Nat → Prop, (∀ b, F b → b < w.heap.size) → Stage F w l w → Calls P f args w fun e w' => e = .returned v ∧ Stage F w l' w') :
    Calls P f args w fun e w' => e = .returned v ∧ Stage F0 W (l' ++ r) w' :=
  (h.frameEx (α := Unit) (Post := fun _ e => e = .returned v) (l' := fun _ => l') fun F hF hs => (hc F hF hs).mono fun _ _ ⟨h1, h2⟩ => ⟨(), h1, h2⟩).mono fun _ _ ⟨_, h1, h2⟩ => ⟨h1, h2⟩

end Stage
end Go.Proofs.Ytdfjgmellkmamaa
