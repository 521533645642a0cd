/- A row of things: all of them; a thing more, a thing less, one that came ahead of others. -/
import Derived.Test.YtokpngmfmkfmeaaSiftCalls
namespace Go.Proofs.Ytokpngmfmkfmeaa
open Go.RowKit Go.Sort

theorem nil_no (a : Addr) (n cp : Nat) (w : World) : (binOp BinOp.eql 38 (.slice (some a) n cp) (.slice none 0 0)).run Try.prog w = .ok (.bool false) w := by kernel_rfl
theorem nil_yes (w : World) : (binOp BinOp.eql 38 (.slice none 0 0) (.slice none 0 0)).run Try.prog w = .ok (.bool true) w := by kernel_rfl
section
variable {F0 : Nat → Prop} {W0 w : World} {r bm : Nat} {v : Value} {d : Nat} {l : List Int} {q : List Ob}
/-- Behind a call that makes a row of like things. -/
def RowPost (F0 : Nat → Prop) (W0 : World) (q : List Ob) (m : List Int) (e : Ending) (w' : World) : Prop :=
  ∃ v', e = .returned v' ∧ Stage F0 W0 (q ++ [Ob.row 0 3 1 v' m.length (cellsBy intC m)]) w'
set_option maxRecDepth 100000 in
theorem clone_st (hs : Stage F0 W0 q w) (k : Nat) (m : List Int) (v : Value) (hk : q[k]? = some (Ob.row 0 3 1 v m.length (cellsBy intC m))) (hm : m.length ≤ 1048576) :
    Calls Try.prog 31 #[v] w (RowPost F0 W0 q m) := by
  have hown := hs.owns k hk
  obtain ⟨a, cp, rfl, h1, h2⟩ := owns_form hown
  cases ha : a with
  | none =>
    subst ha
    have hz : m.length = 0 := by
      rcases hown.2 with ⟨_, h⟩ | ⟨g, cap, cur, hv, _⟩
      · exact h
      · cases hv
    have hcp : cp = 0 := by
      rcases hown.2 with ⟨h, _⟩ | ⟨g, cap, cur, hv, _⟩
      · injection h
      · cases hv
    subst hcp
    have hm0 : m = [] := List.length_eq_zero_iff.1 hz
    subst hm0
    have hn := hs.nilRow 0 3 1
    have hE : RowPost F0 W0 q [] (.returned (.slice none 0 0)) w := ⟨_, rfl, hn⟩
    clear hs hn hk hown h1 h2 hm hz
    have hN := nil_yes
    go_enter Try.func31, Try.ntmps31
    go_wp2_with fail
    go_ret
    exact hE
  | some a =>
    subst ha
    have hs1 := hs.emptyRow 3 1
    have hr : RowReads (w.alloc (.cells #[] 3)) 1 (.slice (some a) m.length cp) m.length (cellsBy intC m) := by
      have := hs1.owns k (by rw [List.getElem?_append_left (Scene.idx hk)]; exact hk)
      exact reads_own this
    have hE : ∀ v' w', Stage F0 W0 (q ++ [Ob.row 0 3 1 v' m.length (cellsBy intC m)]) w' → RowPost F0 W0 q m (.returned v') w' := fun v' w' h => ⟨v', rfl, h⟩
    have hone : ∀ u ∈ cellsBy intC m, u.oneCell' = true := fun u hu => by
      obtain ⟨x, rfl⟩ := intC_one u m hu
      rfl
    clear hown hk
    generalize cellsBy intC m = cs at *
    generalize hn : m.length = n at *
    clear hs
    have hN := nil_no
    have hq0 : (q ++ [Ob.row 0 3 1 (.slice (some ⟨w.heap.size, 0, none⟩) 0 0) 0 []])[q.length]? = some (Ob.row 0 3 1 (.slice (some ⟨w.heap.size, 0, none⟩) 0 0) 0 []) := by simp
    go_enter Try.func31, Try.ntmps31
    go_wp2_with (at_builtin; refine hs1.wp_append q.length hq0 rfl _ _ 38 rfl (.int .i64 0) 8 Try.underlying38 info_int rfl (by decide) (Nat.zero_le _) rfl _ n cs rfl hr hone (by unfold maxLen; omega) (by omega) ?_)
    intro v' w2 hs2 _
    have hE2 := hE v' w2 hs2
    clear hE hs1 hr hs2
    go_wp2_with fail
    go_ret
    exact hE2
theorem all_st (hs : Stage F0 W0 (rowO r bm v d l ++ q) w) (hl : l.length ≤ 1048576) : Calls Try.prog 26 #[.pointer (some ⟨r, 0, none⟩)] w (RowPost F0 W0 (rowO r bm v d l ++ q) l) := by
  have hC := clone_st hs 1 l v rfl hl
  have k1 := hs.cell 0 rfl (o := 1) rfl
  have hE : ∀ v' w', Stage F0 W0 ((rowO r bm v d l ++ q) ++ [Ob.row 0 3 1 v' l.length (cellsBy intC l)]) w' → RowPost F0 W0 (rowO r bm v d l ++ q) l (.returned v') w' := fun v' w' h => ⟨v', rfl, h⟩
  obtain ⟨X, hX⟩ : ∃ X, X = RowPost F0 W0 (rowO r bm v d l ++ q) l := ⟨_, rfl⟩
  rw [← hX]
  rw [← hX] at hE
  clear hX
  obtain ⟨a, cp, rfl, _, _⟩ := rowP_form hs
  clear hs
  go_enter Try.func26, Try.ntmps26
  go_wp2_with fail
  refine hC.mono ?_
  rintro e w1 ⟨v', rfl, h⟩
  have hE2 := hE v' w1 h
  clear hE h hC
  go_wp2_with fail
  exact hE2
section
variable {γ : Type} {O : γ → Ob} {R : γ → γ → Prop} {ok : Int → Prop} {lt : Int → Int → Bool} {H : World → Prop} {T : TypeId} {u : Value} {fn : Fn}
variable {g : γ}
/-- Behind a call that leaves the things m in order. -/
def RunPost (O : γ → Ob) (R : γ → γ → Prop) (lt : Int → Int → Bool) (F0 : Nat → Prop) (W0 : World) (r bm : Nat) (d : Nat) (m : List Int) (k : Nat) (C : List Int → Prop) (g : γ) (q : List Ob) (e : Ending) (w' : World) : Prop :=
  ∃ (v' : Value) (l' : List Int) (g' : γ), e = .returned (.bool true) ∧ l'.Perm m ∧ C l' ∧ Within R k g g' ∧ Heap d lt l' ∧ Stage F0 W0 (rowO r bm v' d l' ++ O g' :: q) w'
set_option maxRecDepth 100000 in
theorem add_no (h : Stage F0 W0 (rowO r bm v d l ++ q) w) (o : Value) (x : Int) (hx : inInt x) (hin : x ∈ l) :
    Calls Try.prog 17 #[.pointer (some ⟨r, 0, none⟩), o, .int .i64 x] w fun e w' => e = .returned (.bool false) ∧ w = w' := by
  have k2 := h.cell 0 rfl (o := 2) rfl
  have hL := h.lookOkZ 2 rfl Try.underlying52 Try.underlying3 Try.underlying3 (zero_int w) x hx
  rw [place_isSome, hasL_iff.2 hin] at hL
  generalize (placeL l x).getD 0 = y at *
  clear h
  go_enter Try.func17, Try.ntmps17
  go_wp2_with fail
  go_ret
  exact ⟨rfl, rfl⟩
set_option maxRecDepth 100000 in
theorem remove_no (h : Stage F0 W0 (rowO r bm v d l ++ q) w) (o : Value) (x : Int) (hx : inInt x) (hin : x ∉ l) :
    Calls Try.prog 19 #[.pointer (some ⟨r, 0, none⟩), o, .int .i64 x] w fun e w' => e = .returned (.bool false) ∧ w = w' := by
  have k2 := h.cell 0 rfl (o := 2) rfl
  have hL := h.lookOkZ 2 rfl Try.underlying52 Try.underlying3 Try.underlying3 (zero_int w) x hx
  rw [place_isSome, hasL_not.2 hin] at hL
  generalize (placeL l x).getD 0 = y at *
  clear h
  go_enter Try.func19, Try.ntmps19
  go_wp2_with fail
  go_ret
  exact ⟨rfl, rfl⟩
set_option maxRecDepth 100000 in
theorem raise_no (h : Stage F0 W0 (rowO r bm v d l ++ q) w) (o : Value) (x : Int) (hx : inInt x) (hin : x ∉ l) :
    Calls Try.prog 20 #[.pointer (some ⟨r, 0, none⟩), o, .int .i64 x] w fun e w' => e = .returned (.bool false) ∧ w = w' := by
  have k2 := h.cell 0 rfl (o := 2) rfl
  have hL := h.lookOkZ 2 rfl Try.underlying52 Try.underlying3 Try.underlying3 (zero_int w) x hx
  rw [place_isSome, hasL_not.2 hin] at hL
  generalize (placeL l x).getD 0 = y at *
  clear h
  go_enter Try.func20, Try.ntmps20
  go_wp2_with fail
  go_ret
  exact ⟨rfl, rfl⟩
set_option maxRecDepth 100000 in
theorem raise_st (A : Asks O R ok lt H T u fn) (hd : 2 ≤ d ∧ d ≤ 16) (hs : Stage F0 W0 (rowO r bm v d l ++ O g :: q) w) (I : RowIn ok l) (S : StrictM lt (· ∈ l)) (i : Nat) (hi : i < l.length) (U : UpInv d lt l i) :
    Calls Try.prog 20 #[.pointer (some ⟨r, 0, none⟩), .iface T u, .int .i64 (rat l i)] w (RunPost O R lt F0 W0 r bm d l (depthI d i) (fun _ => True) g q) := by
  have k2 := hs.cell 0 rfl (o := 2) rfl
  have hL := hs.lookOkZ 2 rfl Try.underlying52 Try.underlying3 Try.underlying3 (zero_int w) (rat l i) (I.int _ (rat_mem hi))
  rw [place_rat I.nodup hi] at hL
  replace hL : (Instr.lookup 52 (.map (some bm)) (.int .i64 (rat l i)) true).run Try.prog w = .ok (.tuple #[.int .i64 (i : Int), .bool true]) w := hL
  have hC := climb_st A hd hs I S i hi
  have hE : ∀ (l' : List Int) (g' : γ) (wx : World), l'.Perm l → Within R (depthI d i) g g' → Heap d lt l' → Stage F0 W0 (rowO r bm v d l' ++ O g' :: q) wx → RunPost O R lt F0 W0 r bm d l (depthI d i) (fun _ => True) g q (.returned (.bool true)) wx :=
    fun l' g' wx h1 h2 h3 h4 => ⟨v, l', g', rfl, h1, trivial, h2, h3, h4⟩
  clear hs
  generalize rat l i = x at *
  go_enter Try.func20, Try.ntmps20
  go_wp2_with fail
  refine hC.mono ?_
  rintro e w1 ⟨b, l', g', rfl, hp, hw, _, _, hH, hs1⟩
  have hE2 := hE l' g' w1 hp hw (hH U) hs1
  clear hE hC hL k2 hH hs1 hw
  go_wp2_with fail
  go_ret
  exact hE2
end
end
end Go.Proofs.Ytokpngmfmkfmeaa
