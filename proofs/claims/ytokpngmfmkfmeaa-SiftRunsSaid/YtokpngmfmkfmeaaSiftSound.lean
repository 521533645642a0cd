/- Whether all is in order in a row, as the statement asks it. -/
import Derived.Test.YtokpngmfmkfmeaaSiftHas
namespace Go.Proofs.Ytokpngmfmkfmeaa
open Go.RowKit Go.Sort

section
variable {F0 : Nat → Prop} {W0 w : World} {q : List Ob} {p km : Nat} {f : Int → Option Int} {n : Nat} {s : Int}
theorem before_at (hs : Stage F0 W0 q w) (i : Nat) (hi : q[i]? = some (Ob.keys p km f n s)) (a b : Int) (ha : inInt a) (hb : inInt b) :
    Calls Try.prog 25 #[.pointer (some ⟨p, 0, none⟩), .int .i64 a, .int .i64 b] w fun e w' => e = .returned (.bool (ltK (keyOfF f) a b)) ∧ Stage F0 W0 q w' :=
  hs.askB i hi fun _ ho => before_c (q := []) (Ob.group.open ho) a b ha hb
variable {r bm : Nat} {v tv : Value} {d : Nat} {l m : List Int}
abbrev soundL (r bm : Nat) (v : Value) (d : Nat) (l : List Int) (p km : Nat) (f : Int → Option Int) (n : Nat) (s : Int) (tv : Value) (m : List Int) (q : List Ob) : List Ob :=
  rowO r bm v d l ++ Ob.keys p km f n s :: Ob.row 0 3 1 tv m.length (cellsBy intC m) :: q
set_option maxRecDepth 100000 in
set_option maxHeartbeats 2000000 in
theorem heap_st (hd : 2 ≤ d ∧ d ≤ 16) (hs : Stage F0 W0 (soundL r bm v d l p km f n s tv m q) w) (I : RowIn inInt l) (hp : l.Perm m) (H : Heap d (ltK (keyOfF f)) l) :
    Calls Try.prog 22 #[.pointer (some ⟨r, 0, none⟩), .pointer (some ⟨p, 0, none⟩), .int .i64 d, tv] w fun e w' => e = .returned (.bool true) ∧ Stage F0 W0 (soundL r bm v d l p km f n s tv m q) w' := by
  have hlen := I.len
  have hml : m.length = l.length := hp.length_eq.symm
  have hAll : Calls Try.prog 26 #[.pointer (some ⟨r, 0, none⟩)] w (RowPost F0 W0 (soundL r bm v d l p km f n s tv m q) l) := all_st hs hlen
  obtain ⟨ta, tc, htv, _, _, _⟩ := row_form hs 4 (m := m) rfl
  have hd' : rightD (d : Int) = true := rightD_iff.2 (by omega)
  obtain ⟨Q, hQ⟩ : ∃ Q, Q = soundL r bm v d l p km f n s tv m q := ⟨_, rfl⟩
  have hx : ∀ (wx : World) (av : Value), Stage F0 W0 (Q ++ [Ob.row 0 3 1 av l.length (cellsBy intC l)]) wx →
      Stage F0 W0 Q wx ∧ ∃ a cp, av = .slice a l.length cp ∧ ∀ i, i < l.length → ∃ b, a = some ⟨b, 0, none⟩ ∧ wx.cell? ⟨b, i, none⟩ = some (.int .i64 (rat l i)) := fun wx av h => by
    obtain ⟨a, cp, hv, _, _, hc⟩ := row_form h Q.length (m := l) (v := av) (by simp)
    have h2 := h.take Q.length
    rw [List.take_left'  rfl] at h2
    exact ⟨h2, a, cp, hv, hc⟩
  have hAt : ∀ (wx : World) (av : Value) (i : Int), Stage F0 W0 (Q ++ [Ob.row 0 3 1 av l.length (cellsBy intC l)]) wx → Calls Try.prog 24 #[.pointer (some ⟨r, 0, none⟩), .int .i64 i] wx fun e w' => e = .returned (.tuple #[.int .i64 (atD l i).1, .bool (atD l i).2]) ∧ wx = w' := fun wx av i h => by
    have h2 := (hx wx av h).1
    rw [hQ] at h2
    exact at_st h2 i
  have hPl : ∀ (wx : World) (av : Value) (i : Nat), i < l.length → Stage F0 W0 (Q ++ [Ob.row 0 3 1 av l.length (cellsBy intC l)]) wx → Calls Try.prog 21 #[.pointer (some ⟨r, 0, none⟩), .int .i64 (rat l i)] wx fun e w' => e = .returned (.tuple #[.int .i64 (i : Int), .bool true]) ∧ wx = w' := fun wx av i hi h => by
    have h2 := (hx wx av h).1
    rw [hQ] at h2
    have h3 := place_st h2 (rat l i) (I.int _ (rat_mem hi))
    rw [place_rat I.nodup hi] at h3
    exact h3
  have hHas : ∀ (wx : World) (av : Value) (i : Nat), i < l.length → Stage F0 W0 (Q ++ [Ob.row 0 3 1 av l.length (cellsBy intC l)]) wx → Calls Try.prog 16 #[tv, .int .i64 (rat l i)] wx fun e w' => e = .returned (.bool true) ∧ wx = w' := fun wx av i hi h => by
    have h2 := (hx wx av h).1
    rw [hQ] at h2
    have h3 := has_st h2 4 m tv rfl (rat l i)
    rw [hasL_iff.2 (hp.mem_iff.1 (rat_mem hi))] at h3
    exact h3
  have hBf : ∀ (wx : World) (av : Value) (i : Nat), 0 < i → i < l.length → Stage F0 W0 (Q ++ [Ob.row 0 3 1 av l.length (cellsBy intC l)]) wx → Calls Try.prog 25 #[.pointer (some ⟨p, 0, none⟩), .int .i64 (rat l i), .int .i64 (rat l (par d i))] wx fun e w' => e = .returned (.bool false) ∧ Stage F0 W0 (Q ++ [Ob.row 0 3 1 av l.length (cellsBy intC l)]) w' := fun wx av i h0 hi h => by
    have hpl := par_lt (d := d) (by omega) h0
    have h3 := before_at h 3 (by rw [hQ]; rfl) (rat l i) (rat l (par d i)) (I.int _ (rat_mem hi)) (I.int _ (rat_mem (by omega)))
    rw [H i h0 hi] at h3
    exact h3
  have hLn : ∀ (wx : World) (av : Value), Stage F0 W0 (Q ++ [Ob.row 0 3 1 av l.length (cellsBy intC l)]) wx → Calls Try.prog 23 #[.pointer (some ⟨r, 0, none⟩)] wx fun e w' => e = .returned (.int .i64 l.length) ∧ wx = w' := fun wx av h => by
    have h2 := (hx wx av h).1
    rw [hQ] at h2
    exact slen_st h2
  have hP := fun (i : Nat) (hi : i < l.length) w => refparent_c d i w (by omega)
  have hats : (∀ i, i < l.length → atD l (i : Int) = (rat l i, true)) ∧ atD l (-1) = (0, false) ∧ atD l (l.length : Int) = (0, false) := ⟨fun i hi => atD_nat hi, atD_not (by omega), atD_not (by omega)⟩
  obtain ⟨hat, hatm, hatl⟩ := hats
  rw [← hQ] at hAll ⊢
  rw [hml] at htv
  clear hs I hp H hQ
  subst htv
  generalize hnn : l.length = N at *
  clear hml
  go_enter Try.func22, Try.ntmps22
  go_wp2_with fail
  refine hAll.mono ?_
  rintro e w1 ⟨av, rfl, hs⟩
  rw [hnn] at hs
  clear hAll
  have hL1 := hLn w1 av hs
  obtain ⟨_, a, cp, rfl, _⟩ := hx w1 av hs
  clear hLn
  go_wp2_with fail
  refine hL1.mono ?_
  rintro e w2 ⟨rfl, rfl⟩
  clear hL1
  go_wp2_with fail
  go_loopw [38] (fun i wr => ∃ k : Nat, i = .int .i64 k ∧ k ≤ N ∧ Stage F0 W0 (Q ++ [Ob.row 0 3 1 (.slice a N cp) N (cellsBy intC l)]) wr) (fun i _ => N - (intOf i).toNat)
  case atStart => exact ⟨0, rfl, Nat.zero_le _, hs⟩
  case round =>
    clear hs
    obtain ⟨k, rfl, hk, hs⟩ := hrel
    by_cases hkn : k < N
    · have hki : (k : Int) < N := by omega
      have q1 := hAt wr _ k hs
      rw [hat k hkn] at q1
      have q2 := hPl wr _ k hkn hs
      have q3 := hHas wr _ k hkn hs
      have q4 := hP k hkn wr
      obtain ⟨_, a1, c1, hv1, hc⟩ := hx wr _ hs
      cases hv1
      obtain ⟨b, rfl, u0⟩ := hc k hkn
      have e1 : IntKind.i64.wrap ((k : Int) + 1) = ((k + 1 : Nat) : Int) := IntWalk.i64_in _ (by omega)
      by_cases h0 : 0 < k
      · have hpl := par_lt (d := d) (by omega) h0
        rw [parD_nat hd.1 hd.2 h0] at q4
        obtain ⟨b2, hb2, u1⟩ := hc (par d k) (by omega)
        cases hb2
        have q5 := hBf wr _ k h0 hkn hs
        have hpi : ((par d k : Nat) : Int) < N := by omega
        have hpn : ¬ ((par d k : Nat) : Int) < 0 := by omega
        clear hAt hPl hHas hBf hP hat hatm hatl hx hc
        generalize rat l (par d k) = y at *
        generalize rat l k = x at *
        generalize par d k = pk at *
        go_wp2_with fail
        refine q1.mono ?_
        rintro e w2 ⟨rfl, rfl⟩
        clear q1
        go_wp2_with fail
        refine q2.mono ?_
        rintro e w2 ⟨rfl, rfl⟩
        clear q2
        go_wp2_with fail
        refine q3.mono ?_
        rintro e w2 ⟨rfl, rfl⟩
        clear q3
        go_wp2_with fail
        refine q4.mono ?_
        rintro e w2 ⟨rfl, rfl⟩
        clear q4
        go_wp2_with fail
        refine q5.mono ?_
        rintro e w2 ⟨rfl, hs2⟩
        clear q5 hs
        go_wp2_with fail
        go_roundw
        case rel => exact ⟨k + 1, by go_num, by omega, hs2⟩
        case measure => simp [intOf]; omega
      · have e4 : parD (d : Int) (k : Int) = (0, false) := by unfold parD; rw [if_neg (by omega)]
        rw [e4] at q4
        clear hAt hPl hHas hBf hP hat hatm hatl hx hc h0 e4
        generalize rat l k = x at *
        go_wp2_with fail
        refine q1.mono ?_
        rintro e w2 ⟨rfl, rfl⟩
        clear q1
        go_wp2_with fail
        refine q2.mono ?_
        rintro e w2 ⟨rfl, rfl⟩
        clear q2
        go_wp2_with fail
        refine q3.mono ?_
        rintro e w2 ⟨rfl, rfl⟩
        clear q3
        go_wp2_with fail
        refine q4.mono ?_
        rintro e w2 ⟨rfl, rfl⟩
        clear q4
        go_wp2_with fail
        go_roundw
        case rel => exact ⟨k + 1, by go_num, by omega, hs⟩
        case measure => simp [intOf]; omega
    · have hki : ¬ (k : Int) < N := by omega
      have q1 := hAt wr _ (-1) hs
      rw [hatm] at q1
      have q2 := hAt wr _ N hs
      rw [hatl] at q2
      have hE := (hx wr _ hs).1
      clear hAt hPl hHas hBf hP hat hatm hatl hx hs
      go_wp2_with fail
      refine q1.mono ?_
      rintro e w2 ⟨rfl, rfl⟩
      clear q1
      go_wp2_with fail
      refine q2.mono ?_
      rintro e w2 ⟨rfl, rfl⟩
      clear q2
      go_wp2_with fail
      go_ret
      exact ⟨rfl, hE⟩
end
end Go.Proofs.Ytokpngmfmkfmeaa
