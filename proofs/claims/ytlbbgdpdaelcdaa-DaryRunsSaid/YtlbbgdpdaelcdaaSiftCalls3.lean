/- Merged of SiftCalls2, SiftCalls3. -/
import Derived.Test.YtlbbgdpdaelcdaaSiftCalls
namespace Go.Proofs.Ytlbbgdpdaelcdaa
open Go.RowKit Go.Sort

theorem nil_no (a : Addr) (n cp : Nat) (w : World) : (binOp BinOp.eql 90 (.slice (some a) n cp) (.slice none 0 0)).run Try.prog w = .ok (.bool false) w := by kernel_rfl
theorem nil_yes (w : World) : (binOp BinOp.eql 90 (.slice none 0 0) (.slice none 0 0)).run Try.prog w = .ok (.bool true) w := by kernel_rfl
section
variable {F0 : Nat → Prop} {W0 w : World} {r bm : Nat} {v : Value} {d : Nat} {l : List Int} {q : List Ob}
/-- Behind a call that makes a row of like things. -/
def RowPost (F0 : Nat → Prop) (W0 : World) (q : List Ob) (m : List Int) (e : Ending) (w' : World) : Prop :=
  ∃ v', e = .returned v' ∧ Stage F0 W0 (q ++ [Ob.row 0 3 1 v' m.length (cellsBy intC m)]) w'
set_option maxRecDepth 100000 in
theorem sclone_st (hs : Stage F0 W0 q w) (k : Nat) (m : List Int) (v : Value) (hk : q[k]? = some (Ob.row 0 3 1 v m.length (cellsBy intC m))) (hm : m.length ≤ 1048576) :
    Calls Try.prog 77 #[v] w (RowPost F0 W0 q m) := by
  have hown := hs.owns k hk
  obtain ⟨a, cp, rfl, h1, h2⟩ := owns_form hown
  cases ha : a with
  | none =>
    subst ha
    have hz : m.length = 0 := by
      rcases hown.2 with ⟨_, h⟩ | ⟨g, cap, cur, hv, _⟩
      · exact h
      · cases hv
    have hcp : cp = 0 := by
      rcases hown.2 with ⟨h, _⟩ | ⟨g, cap, cur, hv, _⟩
      · injection h
      · cases hv
    subst hcp
    have hm0 : m = [] := List.length_eq_zero_iff.1 hz
    subst hm0
    have hn := hs.nilRow 0 3 1
    have hE : RowPost F0 W0 q [] (.returned (.slice none 0 0)) w := ⟨_, rfl, hn⟩
    clear hs hn hk hown h1 h2 hm hz
    have hN := nil_yes
    go_enter Try.func77, Try.ntmps77
    go_wp2_with fail
    go_ret
    exact hE
  | some a =>
    subst ha
    have hs1 := hs.emptyRow 3 1
    have hr : RowReads (w.alloc (.cells #[] 3)) 1 (.slice (some a) m.length cp) m.length (cellsBy intC m) := by
      have := hs1.owns k (by rw [List.getElem?_append_left (Scene.idx hk)]; exact hk)
      exact reads_own this
    have hE : ∀ v' w', Stage F0 W0 (q ++ [Ob.row 0 3 1 v' m.length (cellsBy intC m)]) w' → RowPost F0 W0 q m (.returned v') w' := fun v' w' h => ⟨v', rfl, h⟩
    have hone : ∀ u ∈ cellsBy intC m, u.oneCell' = true := fun u hu => by
      obtain ⟨x, rfl⟩ := intC_one u m hu
      rfl
    clear hown hk
    generalize cellsBy intC m = cs at *
    generalize hn : m.length = n at *
    clear hs
    have hN := nil_no
    have hq0 : (q ++ [Ob.row 0 3 1 (.slice (some ⟨w.heap.size, 0, none⟩) 0 0) 0 []])[q.length]? = some (Ob.row 0 3 1 (.slice (some ⟨w.heap.size, 0, none⟩) 0 0) 0 []) := by simp
    go_enter Try.func77, Try.ntmps77
    go_wp2_with (at_builtin; refine hs1.wp_append q.length hq0 rfl _ _ 90 rfl (.int .i64 0) 8 Try.underlying90 sinfo_int rfl (by decide) (Nat.zero_le _) rfl _ n cs rfl hr hone (by unfold maxLen; omega) (by omega) ?_)
    intro v' w2 hs2 _
    have hE2 := hE v' w2 hs2
    clear hE hs1 hr hs2
    go_wp2_with fail
    go_ret
    exact hE2
theorem all_st (hs : Stage F0 W0 (rowO r bm v d l ++ q) w) (hl : l.length ≤ 1048576) : Calls Try.prog 54 #[.pointer (some ⟨r, 0, none⟩)] w (RowPost F0 W0 (rowO r bm v d l ++ q) l) := by
  have hC := sclone_st hs 1 l v rfl hl
  have k1 := hs.cell 0 rfl (o := 1) rfl
  have hE : ∀ v' w', Stage F0 W0 ((rowO r bm v d l ++ q) ++ [Ob.row 0 3 1 v' l.length (cellsBy intC l)]) w' → RowPost F0 W0 (rowO r bm v d l ++ q) l (.returned v') w' := fun v' w' h => ⟨v', rfl, h⟩
  obtain ⟨X, hX⟩ : ∃ X, X = RowPost F0 W0 (rowO r bm v d l ++ q) l := ⟨_, rfl⟩
  rw [← hX]
  rw [← hX] at hE
  clear hX
  obtain ⟨a, cp, rfl, _, _⟩ := rowP_form hs
  clear hs
  go_enter Try.func54, Try.ntmps54
  go_wp2_with fail
  refine hC.mono ?_
  rintro e w1 ⟨v', rfl, h⟩
  have hE2 := hE v' w1 h
  clear hE h hC
  go_wp2_with fail
  exact hE2
section
variable {γ : Type} {O : γ → Ob} {R : γ → γ → Prop} {ok : Int → Prop} {lt : Int → Int → Bool} {H : World → Prop} {T : TypeId} {u : Value} {fn : Fn}
variable {g : γ}
/-- Behind a call that leaves the things m in order. -/
def RunPost (O : γ → Ob) (R : γ → γ → Prop) (lt : Int → Int → Bool) (F0 : Nat → Prop) (W0 : World) (r bm : Nat) (d : Nat) (m : List Int) (k : Nat) (C : List Int → γ → Prop) (g : γ) (q : List Ob) (e : Ending) (w' : World) : Prop :=
  ∃ (v' : Value) (l' : List Int) (g' : γ), e = .returned (.bool true) ∧ l'.Perm m ∧ C l' g' ∧ Within R k g g' ∧ Heap d lt l' ∧ Stage F0 W0 (rowO r bm v' d l' ++ O g' :: q) w'
set_option maxRecDepth 100000 in
theorem add_no (h : Stage F0 W0 (rowO r bm v d l ++ q) w) (o : Value) (x : Int) (hx : inInt x) (hin : x ∈ l) :
    Calls Try.prog 40 #[.pointer (some ⟨r, 0, none⟩), o, .int .i64 x] w fun e w' => e = .returned (.bool false) ∧ w = w' := by
  have k2 := h.cell 0 rfl (o := 2) rfl
  have hL := h.lookOkZ 2 rfl Try.underlying38 Try.underlying3 Try.underlying3 (szero_int w) x hx
  rw [place_isSome, hasL_iff.2 hin] at hL
  generalize (placeL l x).getD 0 = y at *
  clear h
  go_enter Try.func40, Try.ntmps40
  go_wp2_with fail
  go_ret
  exact ⟨rfl, rfl⟩
set_option maxRecDepth 100000 in
theorem remove_no (h : Stage F0 W0 (rowO r bm v d l ++ q) w) (o : Value) (x : Int) (hx : inInt x) (hin : x ∉ l) :
    Calls Try.prog 50 #[.pointer (some ⟨r, 0, none⟩), o, .int .i64 x] w fun e w' => e = .returned (.bool false) ∧ w = w' := by
  have k2 := h.cell 0 rfl (o := 2) rfl
  have hL := h.lookOkZ 2 rfl Try.underlying38 Try.underlying3 Try.underlying3 (szero_int w) x hx
  rw [place_isSome, hasL_not.2 hin] at hL
  generalize (placeL l x).getD 0 = y at *
  clear h
  go_enter Try.func50, Try.ntmps50
  go_wp2_with fail
  go_ret
  exact ⟨rfl, rfl⟩
set_option maxRecDepth 100000 in
theorem raise_no (h : Stage F0 W0 (rowO r bm v d l ++ q) w) (o : Value) (x : Int) (hx : inInt x) (hin : x ∉ l) :
    Calls Try.prog 49 #[.pointer (some ⟨r, 0, none⟩), o, .int .i64 x] w fun e w' => e = .returned (.bool false) ∧ w = w' := by
  have k2 := h.cell 0 rfl (o := 2) rfl
  have hL := h.lookOkZ 2 rfl Try.underlying38 Try.underlying3 Try.underlying3 (szero_int w) x hx
  rw [place_isSome, hasL_not.2 hin] at hL
  generalize (placeL l x).getD 0 = y at *
  clear h
  go_enter Try.func49, Try.ntmps49
  go_wp2_with fail
  go_ret
  exact ⟨rfl, rfl⟩
set_option maxRecDepth 100000 in
theorem raise_st (A : Asks O R ok lt H T u fn) (hd : 2 ≤ d ∧ d ≤ 16) (hs : Stage F0 W0 (rowO r bm v d l ++ O g :: q) w) (I : RowIn ok l) (S : StrictM lt (· ∈ l)) (i : Nat) (hi : i < l.length) (U : UpInv d lt l i) :
    Calls Try.prog 49 #[.pointer (some ⟨r, 0, none⟩), .iface T u, .int .i64 (rat l i)] w (RunPost O R lt F0 W0 r bm d l (depthI d i) (fun _ _ => True) g q) := by
  have k2 := hs.cell 0 rfl (o := 2) rfl
  have hL := hs.lookOkZ 2 rfl Try.underlying38 Try.underlying3 Try.underlying3 (szero_int w) (rat l i) (I.int _ (rat_mem hi))
  rw [place_rat I.nodup hi] at hL
  replace hL : (Instr.lookup 38 (.map (some bm)) (.int .i64 (rat l i)) true).run Try.prog w = .ok (.tuple #[.int .i64 (i : Int), .bool true]) w := hL
  have hC := climb_st A hd hs I S i hi
  have hE : ∀ (l' : List Int) (g' : γ) (wx : World), l'.Perm l → Within R (depthI d i) g g' → Heap d lt l' → Stage F0 W0 (rowO r bm v d l' ++ O g' :: q) wx → RunPost O R lt F0 W0 r bm d l (depthI d i) (fun _ _ => True) g q (.returned (.bool true)) wx :=
    fun l' g' wx h1 h2 h3 h4 => ⟨v, l', g', rfl, h1, trivial, h2, h3, h4⟩
  clear hs
  generalize rat l i = x at *
  go_enter Try.func49, Try.ntmps49
  go_wp2_with fail
  refine hC.mono ?_
  rintro e w1 ⟨b, l', g', rfl, hp, hw, _, _, _, hH, hs1⟩
  have hE2 := hE l' g' w1 hp hw (hH U) hs1
  clear hE hC hL k2 hH hs1 hw
  go_wp2_with fail
  go_ret
  exact hE2
end
end
end Go.Proofs.Ytlbbgdpdaelcdaa

namespace Go.Proofs.Ytlbbgdpdaelcdaa
open Go.RowKit Go.Sort

section
variable {γ : Type} {O : γ → Ob} {R : γ → γ → Prop} {ok : Int → Prop} {lt : Int → Int → Bool} {H : World → Prop} {T : TypeId} {u : Value} {fn : Fn}
variable {F0 : Nat → Prop} {W0 w : World} {r bm : Nat} {v : Value} {d : Nat} {l : List Int} {g : γ} {q : List Ob}
set_option maxRecDepth 100000 in
set_option maxHeartbeats 1000000 in
theorem add_st (A : Asks O R ok lt H T u fn) (hd : 2 ≤ d ∧ d ≤ 16) (hs : Stage F0 W0 (rowO r bm v d l ++ O g :: q) w) (x : Int) (I : RowIn ok (l ++ [x])) (S : StrictM lt (· ∈ l ++ [x])) (HH : Heap d lt l) :
    Calls Try.prog 40 #[.pointer (some ⟨r, 0, none⟩), .iface T u, .int .i64 x] w (RunPost O R lt F0 W0 r bm d (l ++ [x]) (depthI d l.length) (fun l' g' => (lt (rat (l ++ [x]) l.length) (rat (l ++ [x]) (par d l.length)) = false → l' = l ++ [x]) ∧ (0 < l.length → askedR R g g')) g q) := by
  have hx : inInt x := I.int x (by simp)
  have hxl : x ∉ l := fun h => by
    have := (List.nodup_append.1 I.nodup).2.2 x h x (by simp)
    exact this rfl
  have hlen := I.len
  simp only [List.length_append, List.length_cons, List.length_nil] at hlen
  have k1 := hs.cell 0 rfl (o := 1) rfl
  have k2 := hs.cell 0 rfl (o := 2) rfl
  have hL := hs.lookOkZ 2 rfl Try.underlying38 Try.underlying3 Try.underlying3 (szero_int w) x hx
  rw [place_none hxl] at hL
  replace hL : (Instr.lookup 38 (.map (some bm)) (.int .i64 x) true).run Try.prog w = .ok (.tuple #[.int .i64 0, .bool false]) w := hL
  have hup := heap_push (by omega) HH x
  have hadd := place_add I.nodup
  have hC : ∀ (w2 : World) (v' : Value), Stage F0 W0 (rowO r bm v' d (l ++ [x]) ++ O g :: q) w2 → _ := fun w2 v' h => climb_st A hd h I S l.length (by simp)
  have hE : ∀ (v' : Value) (l' : List Int) (g' : γ) (wx : World), l'.Perm (l ++ [x]) → (lt (rat (l ++ [x]) l.length) (rat (l ++ [x]) (par d l.length)) = false → l' = l ++ [x]) ∧ (0 < l.length → askedR R g g') → Within R (depthI d l.length) g g' → Heap d lt l' → Stage F0 W0 (rowO r bm v' d l' ++ O g' :: q) wx → RunPost O R lt F0 W0 r bm d (l ++ [x]) (depthI d l.length) (fun l' g' => (lt (rat (l ++ [x]) l.length) (rat (l ++ [x]) (par d l.length)) = false → l' = l ++ [x]) ∧ (0 < l.length → askedR R g g')) g q (.returned (.bool true)) wx :=
    fun v' l' g' wx h1 h0 h2 h3 h4 => ⟨v', l', g', rfl, h1, h0, h2, h3, h4⟩
  obtain ⟨a, cp, rfl, _, _⟩ := rowP_form hs
  have hA := hs.later (below_alloc1 (o := .cells #[.int .i64 x] 3) (Below.refl _ _))
  have e1 : cellsBy intC l ++ [.int .i64 (x : Int)] = cellsBy intC (l ++ [x]) := by rw [cellsBy_append, cellsBy_one]; rfl
  have hl1 : (l ++ [x]).length = l.length + 1 := by simp
  have hpl : (placeL l x).isSome = false := by rw [place_none hxl]; rfl
  generalize hm : l ++ [x] = m at *
  replace hadd := Lib.hid hadd
  generalize hn : l.length = n at *
  clear hs
  go_enter Try.func40, Try.ntmps40
  go_wp2_with (at_builtin; refine hA.wp_append 1 (by rw [← hn]; rfl) rfl _ _ 90 rfl (.int .i64 0) 8 Try.underlying90 sinfo_int rfl (by decide) (Nat.zero_le _) rfl _ 1 [.int .i64 x] rfl (reads_new w #[.int .i64 x] _ 1 1 _ rfl rfl) (by intro u hu; simp at hu; subst hu; rfl) (by unfold maxLen; omega) (by omega) ?_)
  intro v' w2 hs2 _
  clear e1
  obtain ⟨a', cp', hv', _, _⟩ := owns_form (hs2.owns 1 rfl)
  subst hv'
  have k2b := hs2.cell 0 rfl (o := 2) rfl
  have k1b := hs2.cell 0 rfl (o := 1) rfl
  have f1 := hs2.free 0 rfl 1
  have l1 := hs2.lt 0 rfl
  have hs3 := hs2.store 0 rfl 1 (.slice a' (n + 1) cp')
  have k2c := hs3.cell 0 rfl (o := 2) rfl
  clear hA hs2 k1 k2
  go_wp2_with (at_mapUpdate; refine hs3.wp_putZ 2 (by rw [← hn]; rfl) rfl _ _ _ rfl Try.underlying38 Try.underlying3 Try.underlying3 (by unfold maxLen; omega) rfl x n rfl rfl hx (by omega) ?_)
  intro w4 hs4
  have hs5 : Stage F0 W0 (rowO r bm (.slice a' (n + 1) cp') d m ++ O g :: q) w4 := by
    unfold rowO rowP
    rw [← hadd.out, hl1]
    exact hs4
  clear hs3 hs4 k2b k1b k2c f1 l1 hL
  have hCl := hC w4 _ hs5
  clear hC hs5
  go_wp2_with fail
  refine hCl.mono ?_
  rintro e w5 ⟨b, l', g', rfl, hp, hw, hask, hb0, hb1, hH, hs6⟩
  have hE2 := hE _ l' g' w5 hp ⟨(fun h => by cases b; exact (hb0 rfl).1; rw [(hb1 rfl).2] at h; cases h), hask⟩ hw (hH hup) hs6
  clear hE hCl hH hs6 hw hb0 hb1 hask
  go_wp2_with fail
  go_ret
  exact hE2
theorem removed {l : List Int} {d i m : Nat} {lt : Int → Int → Bool} (hd : 1 ≤ d) (hn : l.length = m + 1) (him : i = m) (HH : Heap d lt l) : Heap d lt (fillL l i) := by
  have : fillL l i = l.take m := by
    subst him
    unfold fillL
    rw [hn, Nat.add_sub_cancel]
    exact List.set_eq_of_length_le (by simp; omega)
  rw [this]
  exact heap_pop hd HH m
theorem asks_le {a D' D d : Nat} (h1 : a ≤ D') (h2 : D' ≤ D) (hd : 1 ≤ d) : a + d * (D' - a) ≤ d * D + 1 ∧ a ≤ d * D + 1 := by
  have e1 : d * (D' - a) = d * D' - d * a := Nat.mul_sub _ _ _
  have e2 : a ≤ d * a := Nat.le_mul_of_pos_left _ hd
  have e3 : d * a ≤ d * D' := Nat.mul_le_mul_left _ h1
  have e4 : d * D' ≤ d * D := Nat.mul_le_mul_left _ h2
  omega
set_option maxRecDepth 100000 in
set_option maxHeartbeats 2000000 in
theorem remove_st (A : Asks O R ok lt H T u fn) (hd : 2 ≤ d ∧ d ≤ 16) (hs : Stage F0 W0 (rowO r bm v d l ++ O g :: q) w) (I : RowIn ok l) (S : StrictM lt (· ∈ l)) (HH : Heap d lt l) (i : Nat) (hi : i < l.length) :
    Calls Try.prog 50 #[.pointer (some ⟨r, 0, none⟩), .iface T u, .int .i64 (rat l i)] w (RunPost O R lt F0 W0 r bm d (withoutL l (rat l i)) (d * depthI d (l.length - 1) + 1) (fun _ _ => True) g q) := by
  obtain ⟨m, hn⟩ : ∃ m, l.length = m + 1 := ⟨l.length - 1, by omega⟩
  have hlen := I.len
  have hx := I.int _ (rat_mem hi)
  have k1 := hs.cell 0 rfl (o := 1) rfl
  have k2 := hs.cell 0 rfl (o := 2) rfl
  have hL := hs.lookOkZ 2 rfl Try.underlying38 Try.underlying3 Try.underlying3 (szero_int w) (rat l i) hx
  rw [place_rat I.nodup hi] at hL
  replace hL : (Instr.lookup 38 (.map (some bm)) (.int .i64 (rat l i)) true).run Try.prog w = .ok (.tuple #[.int .i64 (i : Int), .bool true]) w := hL
  have hSw := rswap_st hs I i m hi (by omega)
  have hpf := fill_perm hi
  have hperm := without_perm I.nodup hpf
  have hfn := fill_nodup I.nodup hi
  have hfm : ∀ y ∈ fillL l i, y ∈ l := fun y hy => hpf.mem_iff.1 (List.mem_cons_of_mem _ hy)
  have hfl := fill_len l i
  have If : RowIn ok (fillL l i) := ⟨hfn, fun y hy => I.ok y (hfm y hy), fun y hy => I.int y (hfm y hy), by omega⟩
  have Sf : StrictM lt (· ∈ fillL l i) := ⟨fun y hy => S.irr y (hfm y hy), fun y z t hy hz ht => S.trans y z t (hfm y hy) (hfm z hz) (hfm t ht), fun y z hy hz => S.total y z (hfm y hy) (hfm z hz)⟩
  have S1 : Strict lt l := S.strict I.nodup (fun y hy => hy)
  have hswl : (swapL l i m).length = m + 1 := by rw [swap_len, hn]
  have hst := swap_take hn (show i ≤ m by omega)
  have hdel := Lib.hid (place_del I.nodup hn (show i ≤ m by omega))
  have hin : (placeL (swapL l i m) (rat l i)).isSome = true := by rw [place_isSome, hasL_iff]; exact (swap_perm hi (by omega)).mem_iff.2 (rat_mem hi)
  have hup := fun (him : i < m) h0 h => fill_up (d := d) (by omega) S1 HH (i := i) (by omega) h0 h
  have hdown := fun (him : i < m) h => fill_down (d := d) (by omega) S1 HH (i := i) (by omega) h
  have hlast := removed (lt := lt) (d := d) (i := i) (by omega) hn
  have hrf : ∀ (h : i < m), rat (fillL l i) i = rat l m ∧ (0 < i → rat (fillL l i) (par d i) = rat l (par d i)) := fun h => by
    refine ⟨by rw [rat_fill (by omega) (by omega), if_pos rfl, hn, Nat.add_sub_cancel], fun h0 => ?_⟩
    have := par_lt (d := d) (by omega) h0
    rw [rat_fill (by omega) (by omega), if_neg (by omega)]
  rw [hn, Nat.add_sub_cancel] at hup hdown
  have hC : ∀ (w2 : World) (v' : Value), i < m → Stage F0 W0 (rowO r bm v' d (fillL l i) ++ O g :: q) w2 → Calls Try.prog 71 #[.pointer (some ⟨r, 0, none⟩), .iface T u, .int .i64 i] w2 _ := fun w2 v' h h2 => climb_st A hd h2 If Sf i (by omega)
  have hK : ∀ (w2 : World) (v' : Value) (g' : γ), i < m → DownInv d lt (fillL l i) i → Stage F0 W0 (rowO r bm v' d (fillL l i) ++ O g' :: q) w2 → Calls Try.prog 75 #[.pointer (some ⟨r, 0, none⟩), .iface T u, .int .i64 i] w2 _ := fun w2 v' g' h D h2 => sink_st A hd h2 If Sf i (by omega) D
  have hdp : i < m → depthI d i ≤ depthI d ((fillL l i).length - 1) := fun h => depth_mono (by omega) _ _ (by omega)
  have hdm := depth_mono (d := d) (by omega) m ((fillL l i).length - 1) (by omega)
  have hE : ∀ (v' : Value) (l' : List Int) (g' : γ) (wx : World), l'.Perm (fillL l i) → Within R (d * depthI d m + 1) g g' → Heap d lt l' → Stage F0 W0 (rowO r bm v' d l' ++ O g' :: q) wx → RunPost O R lt F0 W0 r bm d (withoutL l (rat l i)) (d * depthI d (l.length - 1) + 1) (fun _ _ => True) g q (.returned (.bool true)) wx :=
    fun v' l' g' wx h1 h2 h3 h4 => ⟨v', l', g', rfl, h1.trans hperm, trivial, by rw [hn, Nat.add_sub_cancel]; exact h2, h3, h4⟩
  clear hperm hpf hfm hfn S1 I S If Sf
  rw [hn] at hE hlen hfl ⊢
  obtain ⟨a, cp, rfl, _, _⟩ := rowP_form hs
  rw [hn] at k1 hSw
  have e1 : IntKind.i64.wrap ((m : Int) + 1 - 1) = m := by rw [Int.add_sub_cancel]; exact IntWalk.i64_in _ (by omega)
  have hsub : ∀ (w2 : World), Stage F0 W0 (rowO r bm (.slice a (m + 1) cp) d (swapL l i m) ++ O g :: q) w2 → ∃ g2, a = some ⟨g2, 0, none⟩ ∧ (m + 1 ≤ cp ∧ cp ≤ 9223372036854775807) ∧ w2.cell? ⟨r, 1, none⟩ = some (.slice (some ⟨g2, 0, none⟩) (m + 1) cp) ∧ w2.cell? ⟨r, 2, none⟩ = some (.map (some bm)) ∧
      w2.frozen? ⟨r, 1, none⟩ = false ∧ r < w2.heap.size ∧ (w2.setCell ⟨r, 1, none⟩ (.slice (some ⟨g2, 0, none⟩) m cp)).cell? ⟨r, 2, none⟩ = some (.map (some bm)) ∧
      Stage F0 W0 (rowP r bm (.slice (some ⟨g2, 0, none⟩) m cp) d (fillL l i) (placeL (swapL l i m)) (m + 1) ++ O g :: q) (w2.setCell ⟨r, 1, none⟩ (.slice (some ⟨g2, 0, none⟩) m cp)) := by
    intro w2 h
    obtain ⟨g2, cp2, hv, hc1, hc2, _⟩ := rowP_row h (by omega)
    rw [hswl] at hv
    cases hv
    have h1 := h.weaken (i := 1) (O' := Ob.row 0 3 1 (.slice (some ⟨g2, 0, none⟩) m cp) m (cellsBy intC ((swapL l i m).take m))) rfl (fun F ⟨ho, hF⟩ => ⟨by
      rw [hswl] at ho
      have := owns_short ho (m := m) (by omega)
      rw [cellsBy_take intC 1 intC_len] at this
      exact this, by rw [hF]; rfl⟩)
    have h2 := h1.store 0 rfl 1 (.slice (some ⟨g2, 0, none⟩) m cp)
    refine ⟨g2, rfl, ⟨by omega, by omega⟩, h.cell 0 rfl (o := 1) rfl, h.cell 0 rfl (o := 2) rfl, h.free 0 rfl 1, h.lt 0 rfl, h2.cell 0 rfl (o := 2) rfl, ?_⟩
    unfold rowP
    rw [← hst, List.length_take, hswl, Nat.min_eq_left (by omega), ← hswl]
    exact h2
  have hwith : withoutL l (rat l i) = withoutL l (rat l i) := rfl
  generalize withoutL l (rat l i) = wl at *
  clear hwith hst
  generalize hxe : rat l i = x at *
  have hm1 : (m : Int) ≤ (m : Int) + 1 := by omega
  clear hs
  go_enter Try.func50, Try.ntmps50
  go_wp2_with fail
  refine hSw.mono ?_
  rintro e w1 ⟨rfl, hs1⟩
  obtain ⟨g2, rfl, ⟨hc1, hc2⟩, k1b, k2b, f1, l1, k2c, hs2⟩ := hsub w1 hs1
  clear hsub hSw hs1 k1 k2
  go_wp2_with (at_delete; refine hs2.wp_deleteZ 2 rfl rfl _ _ rfl Try.underlying38 Try.underlying3 rfl x rfl hx ?_)
  intro w3 hs3
  have hs4 : Stage F0 W0 (rowO r bm (.slice (some ⟨g2, 0, none⟩) m cp) d (fillL l i) ++ O g :: q) w3 := by
    unfold rowO rowP
    rw [← hdel.out, hfl, Nat.add_sub_cancel]
    unfold rowP at hs3
    rw [hfl, Nat.add_sub_cancel] at hs3
    exact hs3
  clear hs2 hs3 k1b k2b k2c f1 l1 hdel hL hin
  by_cases him : i < m
  · have him' : (i : Int) < m := by omega
    have hCl := hC w3 _ him hs4
    obtain ⟨ha1, ha2⟩ := asks_le (hdp him) hdm (show 1 ≤ d by omega)
    obtain ⟨hr1, hr2⟩ := hrf him
    have hup := hup him
    have hdown := hdown him
    have hK := fun w2 v' g' => hK w2 v' g' him
    clear hC hlast hs4 hrf hdp hdm
    generalize hfe : fillL l i = fl at *
    go_wp2_with fail
    refine hCl.mono ?_
    rintro e w5 ⟨b, l', g', rfl, hp, hw, _, hb0, hb1, hH, hs6⟩
    clear hCl
    cases b
    · obtain ⟨rfl, hno⟩ := hb0 rfl
      have hKl := hK w5 _ g' (hdown fun h0 => by have := hno h0; rw [hr1, hr2 h0] at this; exact this) hs6
      clear hb0 hb1 hH hs6 hno hK hdown hup hr1 hr2
      go_wp2_with fail
      refine hKl.mono ?_
      rintro e w6 ⟨l2, g3, rfl, hp2, hw2, hH2, hs7⟩
      have hE2 := hE _ l2 g3 w6 hp2 ((hw.trans hw2).mono ha1) hH2 hs7
      clear hE hKl hw hw2 hs7
      go_wp2_with fail
      go_ret
      exact hE2
    · obtain ⟨h0, hlt⟩ := hb1 rfl
      rw [hr1, hr2 h0] at hlt
      have hE2 := hE _ l' g' w5 hp (hw.mono ha2) (hH (hup h0 hlt)) hs6
      clear hE hb0 hb1 hH hs6 hK hdown hup hr1 hr2 hw hlt
      go_wp2_with fail
      go_ret
      exact hE2
  · have him' : ¬ (i : Int) < m := by omega
    have hE2 := hE _ (fillL l i) g w3 (List.Perm.refl _) (Within.refl _ _ _) (hlast (by omega) HH) hs4
    clear hE hlast hs4 hC hK hup hdown hrf
    go_wp2_with fail
    go_ret
    exact hE2
end
end Go.Proofs.Ytlbbgdpdaelcdaa
