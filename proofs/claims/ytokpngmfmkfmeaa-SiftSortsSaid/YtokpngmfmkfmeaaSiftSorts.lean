/- The statement on things that come out in order, walked. -/
import Derived.Test.YtokpngmfmkfmeaaSiftWalks
import Derived.Test.YtokpngmfmkfmeaaLaw
namespace Go.Proofs.Ytokpngmfmkfmeaa
open Go.RowKit Go.Sort

/-- The first k of some keys, by their numbers. -/
def keysTo (L : List Int) (k : Nat) : Int → Option Int := fun x => if 0 ≤ x ∧ x < k then some (rat L x.toNat) else none
theorem keysTo_zero (L : List Int) : keysTo L 0 = fun _ => none := by
  funext x; unfold keysTo; rw [if_neg (by omega)]
theorem keysTo_succ (L : List Int) (k : Nat) : setZ (keysTo L k) k (some (rat L k)) = keysTo L (k + 1) := by
  funext x
  unfold setZ keysTo
  by_cases h : x = k
  · subst h
    rw [if_pos rfl, if_pos (by omega)]
    simp
  · rw [if_neg h]
    by_cases h2 : 0 ≤ x ∧ x < k
    · rw [if_pos h2, if_pos (by omega)]
    · rw [if_neg h2, if_neg (by omega)]
theorem keysTo_else (L : List Int) (k : Nat) (y : Int) (h : y ≠ k) : keyOfF (keysTo L (k + 1)) y = keyOfF (keysTo L k) y := by
  unfold keyOfF
  rw [← keysTo_succ, setZ_other _ _ h]
theorem keysTo_off (L : List Int) (k : Nat) : (keysTo L k k).isSome = false := by
  unfold keysTo; rw [if_neg (by omega)]; rfl
def iotaL (k : Nat) : List Int := (List.range k).map fun i : Nat => (i : Int)
theorem iota_succ (k : Nat) : iotaL (k + 1) = iotaL k ++ [(k : Int)] := by simp [iotaL, List.range_succ]
theorem iota_mem {k : Nat} {x : Int} : x ∈ iotaL k ↔ 0 ≤ x ∧ x < k := by
  simp only [iotaL, List.mem_map, List.mem_range]
  exact ⟨fun ⟨a, h, e⟩ => by omega, fun h => ⟨x.toNat, by omega, by omega⟩⟩
theorem iota_nodup (k : Nat) : (iotaL k).Nodup := by
  unfold iotaL
  rw [List.nodup_iff_pairwise_ne, List.pairwise_map]
  exact (List.nodup_range (n := k)).imp (fun h e => h (by omega))
theorem iota_len (k : Nat) : (iotaL k).length = k := by simp [iotaL]
theorem rowIn_iota {k : Nat} (hk : k ≤ 1048576) {l : List Int} (h : l.Perm (iotaL k)) : RowIn inInt l :=
  ⟨h.nodup_iff.2 (iota_nodup k), fun x hx => by have := iota_mem.1 (h.mem_iff.1 hx); unfold inInt; omega, fun x hx => by have := iota_mem.1 (h.mem_iff.1 hx); unfold inInt; omega, by rw [h.length_eq, iota_len]; exact hk⟩
/-- How many things a row at r has, by what is in memory. -/
def lenAt (w : World) (r : Nat) : Nat := match w.cell? ⟨r, 1, none⟩ with | some (.slice _ n _) => n | _ => 0
theorem lenAt_row {F0 : Nat → Prop} {W0 w : World} {r bm : Nat} {v : Value} {d : Nat} {l : List Int} {q : List Ob} (h : Stage F0 W0 (rowO r bm v d l ++ q) w) : lenAt w r = l.length := by
  obtain ⟨a, cp, rfl, _, _⟩ := rowP_form h
  have := h.cell 0 rfl (o := 1) rfl
  unfold lenAt
  rw [this]
  rfl
set_option maxRecDepth 100000 in
set_option maxHeartbeats 2000000 in
theorem sorts_walk (d : Int) (L : List Int) (a0 : Option Addr) (cap : Nat) (hcap : L.length ≤ cap ∧ cap ≤ 9223372036854775807) (W : World) (hkey : IntsAt W .i64 a0 L) (hL : ∀ x ∈ L, inInt x) :
    Calls Try.prog 5 #[.int .i64 d, .slice a0 L.length cap] W fun e w' => e = .returned (.bool true) ∧ Below W.heap.size W w' := by
  have hAl := alive_c W
  have p7 := right_c d
  cases hr : rightD d
  · rw [hr] at p7
    clear hr hkey hL
    go_enter Try.func5, Try.ntmps5
    go_wp2_with fail
    refine hAl.mono ?_
    rintro e w1 ⟨rfl, hb⟩
    clear hAl
    go_wp2_with fail
    refine (p7 _).mono ?_
    rintro e w2 ⟨rfl, rfl⟩
    go_wp2_with fail
    go_ret
    exact ⟨rfl, hb⟩
  rw [hr] at p7
  by_cases hn : 200 < L.length
  · have hn' : (200 : Int) < L.length := by omega
    clear hr hkey hL
    generalize L.length = n at *
    go_enter Try.func5, Try.ntmps5
    go_wp2_with fail
    refine hAl.mono ?_
    rintro e w1 ⟨rfl, hb⟩
    clear hAl
    go_wp2_with fail
    refine (p7 _).mono ?_
    rintro e w2 ⟨rfl, rfl⟩
    go_wp2_with fail
    go_ret
    exact ⟨rfl, hb⟩
  have hn' : ¬ (200 : Int) < L.length := by omega
  obtain ⟨hd1, hd2⟩ := rightD_iff.1 hr
  obtain ⟨dn, rfl⟩ : ∃ dn : Nat, d = dn := ⟨d.toNat, by omega⟩
  have hd : 2 ≤ dn ∧ dn ≤ 16 := by omega
  have hN := fun w (hb : Below W.heap.size W w) => new_st ((Stage.start W).later hb) dn hd
  have hmm := @run_makeMap Try.prog
  generalize hnn : L.length = n at *
  clear hr hd1 hd2
  go_enter Try.func5, Try.ntmps5
  go_wp2_with fail
  refine hAl.mono ?_
  rintro e w1 ⟨rfl, hb⟩
  clear hAl
  go_wp2_with fail
  refine (p7 _).mono ?_
  rintro e w1 ⟨rfl, rfl⟩
  clear p7
  go_wp2_with fail
  refine (hN _ hb).mono ?_
  rintro e w2 ⟨rfl, hs⟩
  clear hN hb
  rw [List.nil_append] at hs
  have hs1 := new_keys hs
  obtain ⟨w3, hw3⟩ : ∃ w3, (w2.alloc (.map #[] 0)).alloc (.cells #[.map (some w2.heap.size), .int .i64 0] 37) = w3 := ⟨_, rfl⟩
  rw [hw3] at hs1
  generalize hpe : w2.heap.size + 1 = p at *
  generalize hke : w2.heap.size = km at *
  generalize w1.heap.size + 1 = r at *
  generalize w1.heap.size = bm at *
  clear hs
  go_wp2_with fail
  go_loopw [39] (fun i wr => ∃ (k : Nat) (v : Value) (l : List Int) (s : Int), i = .int .i64 k ∧ k ≤ n ∧ l.Perm (iotaL k) ∧ Heap dn (ltK (keyOfF (keysTo L k))) l ∧ Stage (fun _ => False) W (rowO r bm v dn l ++ [Ob.keys p km (keysTo L k) k s]) wr) (fun i _ => n - (intOf i).toNat)
  case atStart => exact ⟨0, _, [], 0, rfl, Nat.zero_le _, List.Perm.refl _, heap_nil, by rw [keysTo_zero]; exact hs1⟩
  case round =>
    clear hs1 hw3 hpe hke hmm
    obtain ⟨k, v, l, s, rfl, hk, hp, hH, hs⟩ := hrel
    by_cases hkn : k < n
    · have hki : (k : Int) < n := by omega
      obtain ⟨ba, off, rfl, u0⟩ := hkey k (by omega)
      have u0 := later hs.below u0
      replace u0 : wr.cell? ⟨ba, off + k, none⟩ = some (.int .i64 (rat L k)) := u0
      have hLk : inInt (rat L k) := hL _ (rat_mem (by omega))
      have hs2 := hs.ungroup
      have k0 := hs2.cell 3 rfl (o := 0) rfl
      have hoff := keysTo_off L k
      have hadd := Lib.hid (keysTo_succ L k)
      have e1 : IntKind.i64.wrap ((k : Int) + 1) = ((k + 1 : Nat) : Int) := IntWalk.i64_in _ (by omega)
      have hkl : (k : Int) ∉ l := fun h => by have := iota_mem.1 (hp.mem_iff.1 h); omega
      have hp1 : (l ++ [(k : Int)]).Perm (iotaL (k + 1)) := by rw [iota_succ]; exact hp.append_right _
      have hH1 : Heap dn (ltK (keyOfF (keysTo L (k + 1)))) l := heap_congr (by omega) (ltK_else (x := (k : Int)) (fun y hy => keysTo_else L k y hy) hkl) hH
      have hA : ∀ wx, Stage (fun _ => False) W (rowO r bm v dn l ++ [Ob.keys p km (keysTo L (k + 1)) (k + 1) s]) wx → _ := fun wx h => add_st (keys_asks p km (keysTo L (k + 1)) (k + 1)) hd h k (rowIn_iota (by omega) hp1) (strictM_keys _ _) hH1
      generalize hle : rat L k = y at *
      clear hs hkey hL hH hkl hle
      go_wp2_with (at_mapUpdate; refine hs2.wp_putZ 4 rfl rfl _ _ _ rfl Try.underlying35 Try.underlying3 Try.underlying2 (by unfold maxLen; omega) rfl k y rfl rfl (by omega) hLk ?_)
      intro w4 hs4
      have hs5 : Stage (fun _ => False) W (rowO r bm v dn l ++ [Ob.keys p km (keysTo L (k + 1)) (k + 1) s]) w4 := by
        rw [← hadd.out]
        exact Stage.regroup hs4
      clear hs2 hs4 k0 u0 hadd hoff
      have hA1 := hA w4 hs5
      clear hA hs5
      go_wp2_with fail
      refine hA1.mono ?_
      rintro e w5 ⟨v', l', g', rfl, hp2, _, _, hH2, hs6⟩
      clear hA1
      have hp3 := hp2.trans hp1
      have hA2 := add_no hs6 (.iface 34 (ptrV p)) k (by unfold inInt; omega) (hp3.mem_iff.2 (iota_mem.2 (by omega)))
      go_wp2_with fail
      refine hA2.mono ?_
      rintro e w6 ⟨rfl, rfl⟩
      clear hA2
      go_wp2_with fail
      go_roundw
      case rel => exact ⟨k + 1, v', l', g', by go_num, by omega, hp3, hH2, hs6⟩
      case measure => simp [intOf]; omega
    · have hki : ¬ (k : Int) < n := by omega
      obtain rfl : k = n := by omega
      have I0 := rowIn_iota (by omega) hp
      have hrange : ∀ y ∈ l, 0 ≤ y ∧ y < (k : Int) := fun y hy => iota_mem.1 (hp.mem_iff.1 hy)
      have hnd := I0.nodup
      have hlen : l.length ≤ k := by rw [hp.length_eq, iota_len]; omega
      clear hp hL hkey hki hnn
      generalize keysTo L k = f at *
      generalize ltE : ltK (keyOfF f) = lt at *
      have A := keys_asks p km f k
      rw [ltE] at A
      go_wp2_with fail
      go_loopw [10] (fun i wr => ∃ (last : Int) (v : Value) (l : List Int) (s : Int), i = .int .i64 last ∧ (∀ y ∈ l, 0 ≤ y ∧ y < (k : Int)) ∧ l.Nodup ∧ l.length ≤ k ∧ Heap dn lt l ∧ (last = -1 ∨ (0 ≤ last ∧ last < k ∧ ∀ y ∈ l, lt last y = true)) ∧ Stage (fun _ => False) W (rowO r bm v dn l ++ [Ob.keys p km f k s]) wr) (fun _ wr => lenAt wr r)
      case atStart => exact ⟨-1, v, l, s, rfl, hrange, hnd, hlen, hH, Or.inl rfl, hs⟩
      case round =>
        clear hs hH hlen hnd hrange I0
        obtain ⟨last, v, l, s, rfl, hrange, hnd, hlen, hH, hlast, hs⟩ := hrel
        have hLn := slen_st hs
        have hl0 := lenAt_row hs
        have I : RowIn inInt l := ⟨hnd, fun x hx => by have := hrange x hx; unfold inInt; omega, fun x hx => by have := hrange x hx; unfold inInt; omega, by omega⟩
        by_cases hz : 0 < l.length
        · have hz' : (0 : Int) < l.length := by omega
          have hAt := at_st hs 0
          rw [show (0 : Int) = ((0 : Nat) : Int) from rfl, atD_nat hz] at hAt
          have hx0 := hrange _ (rat_mem hz)
          have hRm := fun wx s' (h : Stage (fun _ => False) W (rowO r bm v dn l ++ [Ob.keys p km f k s']) wx) => remove_st (q := []) (g := s') (w := wx) A hd h I (by rw [← ltE]; exact strictM_keys _ _) hH 0 hz
          have hout : ∀ y ∈ withoutL l (rat l 0), lt (rat l 0) y = true := fun y hy => by
            obtain ⟨h1, h2⟩ := mem_without.1 hy
            rw [← ltE] at hH ⊢
            exact top_least (by omega) hnd hH h1 h2
          have hrw : ∀ y ∈ withoutL l (rat l 0), 0 ≤ y ∧ y < (k : Int) := fun y hy => hrange y (mem_without.1 hy).1
          have hnw := without_nodup (x := rat l 0) hnd
          have hni : rat l 0 ∉ withoutL l (rat l 0) := fun h => (mem_without.1 h).2 rfl
          have hlw : (withoutL l (rat l 0)).length < l.length := by
            have := (without_perm hnd (fill_perm hz)).length_eq
            rw [fill_len] at this
            omega
          have hlast2 : last = -1 ∨ (0 ≤ last ∧ last < k ∧ lt last (rat l 0) = true) := hlast.imp id fun ⟨h1, h2, h3⟩ => ⟨h1, h2, h3 _ (rat_mem hz)⟩
          have hBf : ∀ wx : World, Stage (fun _ => False) W (rowO r bm v dn l ++ [Ob.keys p km f k s]) wx → 0 ≤ last → last < k → Calls Try.prog 25 #[.pointer (some ⟨p, 0, none⟩), .int .i64 last, .int .i64 (rat l 0)] wx _ := fun wx h h1 h2 =>
            before_c (h.ungroup.select [3, 4, 0, 1, 2] (by decide) rfl) last (rat l 0) (by unfold inInt; omega) (by unfold inInt; omega)
          rw [ltE] at hBf
          generalize withoutL l (rat l 0) = lw at *
          generalize rat l 0 = x at *
          clear hH hrange hnd hlast I hkn
          have hR2 : ∀ wx v' l' s', Stage (fun _ => False) W (rowO r bm v' dn l' ++ [Ob.keys p km f k s']) wx → l'.Perm lw → Calls Try.prog 19 #[.pointer (some ⟨r, 0, none⟩), .iface 34 (ptrV p), .int .i64 x] wx _ := fun wx v' l' s' h hp => remove_no h (.iface 34 (ptrV p)) x (by unfold inInt; omega) (fun hm => hni (hp.mem_iff.1 hm))
          have hend : ∀ (l' : List Int), l'.Perm lw → (∀ y ∈ l', 0 ≤ y ∧ y < (k : Int)) ∧ l'.Nodup ∧ l'.length < l.length ∧ ∀ y ∈ l', lt x y = true := fun l' hp => ⟨fun y hy => hrw y (hp.mem_iff.1 hy), hp.nodup_iff.2 hnw, by rw [hp.length_eq]; exact hlw, fun y hy => hout y (hp.mem_iff.1 hy)⟩
          clear hni hrw hnw hlw hout
          rcases hlast2 with rfl | ⟨h1, h2, h3⟩
          · have hRm1 := hRm wr s hs
            clear hRm hBf hs
            go_wp2_with fail
            refine hLn.mono ?_
            rintro e w2 ⟨rfl, rfl⟩
            clear hLn
            go_wp2_with fail
            refine hAt.mono ?_
            rintro e w2 ⟨rfl, rfl⟩
            clear hAt
            go_wp2_with fail
            refine hRm1.mono ?_
            rintro e w2 ⟨v', l', s', rfl, hp2, _, _, hH2, hs2⟩
            clear hRm1
            obtain ⟨g1, g2, g3, g4⟩ := hend l' hp2
            have hR3 := hR2 w2 v' l' s' hs2 hp2
            have hl2 := lenAt_row hs2
            go_wp2_with fail
            refine hR3.mono ?_
            rintro e w3 ⟨rfl, rfl⟩
            clear hR3
            go_wp2_with fail
            go_roundw
            case rel => exact ⟨x, v', l', s', rfl, g1, g2, by omega, hH2, Or.inr ⟨hx0.1, hx0.2, g4⟩, hs2⟩
            case measure => rw [hl2, hl0]; exact g3
          · have hB := hBf wr hs h1 h2
            rw [h3] at hB
            clear hBf
            go_wp2_with fail
            refine hLn.mono ?_
            rintro e w2 ⟨rfl, rfl⟩
            clear hLn
            go_wp2_with fail
            refine hAt.mono ?_
            rintro e w2 ⟨rfl, rfl⟩
            clear hAt
            go_wp2_with fail
            refine hB.mono ?_
            rintro e w2 ⟨rfl, hb⟩
            have hRm1 := hRm w2 s (hs.later hb)
            clear hB hRm hs hb
            go_wp2_with fail
            refine hRm1.mono ?_
            rintro e w3 ⟨v', l', s', rfl, hp2, _, _, hH2, hs2⟩
            clear hRm1
            obtain ⟨g1, g2, g3, g4⟩ := hend l' hp2
            have hR3 := hR2 w3 v' l' s' hs2 hp2
            have hl2 := lenAt_row hs2
            go_wp2_with fail
            refine hR3.mono ?_
            rintro e w4 ⟨rfl, rfl⟩
            clear hR3
            go_wp2_with fail
            go_roundw
            case rel => exact ⟨x, v', l', s', rfl, g1, g2, by omega, hH2, Or.inr ⟨hx0.1, hx0.2, g4⟩, hs2⟩
            case measure => rw [hl2, hl0]; exact g3
        · have hl00 : l = [] := List.length_eq_zero_iff.1 (by omega)
          subst hl00
          have hAll := all_st hs (by simp)
          clear hH hlast hrange I hl0 hz hs
          go_wp2_with fail
          refine hLn.mono ?_
          rintro e w2 ⟨rfl, rfl⟩
          clear hLn
          go_wp2_with fail
          refine hAll.mono ?_
          rintro e w3 ⟨v', rfl, hs2⟩
          obtain ⟨a', cp', rfl, _, _⟩ := owns_form (hs2.owns 4 rfl)
          have hb := hs2.below
          clear hAll hs2
          go_wp2_with fail
          go_ret
          exact ⟨rfl, hb⟩
end Go.Proofs.Ytokpngmfmkfmeaa
