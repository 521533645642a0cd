/- Rings in memory: the block and its row of things; what is returned that only looks; tie. -/
import Derived.Test.YtfngooaobjafjaaRingStMath
import Derived.Test.YtfngooaobjafjaaStageAppend
import Derived.Test.YtfngooaobjafjaaStageFrame
import Derived.Test.YtfngooaobjafjaaMeth
import Derived.Test.YtfngooaobjafjaaIntsIn
import Derived.Test.YtfngooaobjafjaaRow
import Derived.BigRegion
import Derived.StillTailTactics
namespace Go.Proofs.Ytfngooaobjafjaa
open Go.RowKit Go.Sort

structure Tie where
  nx : Int
  pv : Int
def tiC (t : Tie) : List Value := [.int .i64 t.nx, .int .i64 t.pv]
theorem tiC_len (t : Tie) : (tiC t).length = 2 := rfl
def Tie.no : Tie := ⟨0, 0⟩
def rawT (n : Nat) (f g : Int → Int) : List Tie := (List.range n).map fun i : Nat => ⟨f i, g i⟩
theorem rawT_len (n : Nat) (f g : Int → Int) : (rawT n f g).length = n := by simp [rawT]
theorem rawT_at {n : Nat} (f g : Int → Int) {i : Nat} (h : i < n) (d : Tie) : (rawT n f g).getD i d = ⟨f i, g i⟩ := by
  simp [rawT, List.getD_eq_getElem?_getD, h]
theorem tie_ext {a b : List Tie} {n : Nat} (ha : a.length = n) (hb : b.length = n) (h : ∀ i, i < n → a.getD i .no = b.getD i .no) : a = b := by
  apply List.ext_getElem (ha.trans hb.symm)
  intro i h1 h2
  have := h i (by omega)
  simpa [List.getD_eq_getElem?_getD, h1, h2] using this
theorem rawT_congr {n : Nat} {f g f' g' : Int → Int} (hf : ∀ i : Nat, i < n → f i = f' i) (hg : ∀ i : Nat, i < n → g i = g' i) : rawT n f g = rawT n f' g' :=
  tie_ext (rawT_len _ _ _) (rawT_len _ _ _) fun i hi => by rw [rawT_at _ _ hi, rawT_at _ _ hi, hf i hi, hg i hi]
theorem rawT_nx {n : Nat} (f g : Int → Int) {i : Nat} (hi : i < n) (y : Int) : (cellsBy tiC (rawT n f g)).set (i * 2) (.int .i64 y) = cellsBy tiC (rawT n (setI f i y) g) := by
  have h := cellsBy_set tiC 2 tiC_len .no (rawT n f g) i 0 (.int .i64 y) ⟨y, g i⟩ (by rw [rawT_len]; exact hi) (by omega) (by rw [rawT_at _ _ hi]; rfl)
  rw [Nat.add_zero] at h
  rw [h]
  congr 1
  refine tie_ext (by simp [rawT_len]) (rawT_len _ _ _) fun j hj => ?_
  rw [getD_set' _ _ _ _ _ (by rw [rawT_len]; exact hi), rawT_at _ _ hj, rawT_at _ _ hj]
  unfold setI
  by_cases e : i = j
  · subst e; simp
  · have e' : (j : Int) ≠ i := by omega
    simp [e, e']
theorem rawT_pv {n : Nat} (f g : Int → Int) {i : Nat} (hi : i < n) (y : Int) : (cellsBy tiC (rawT n f g)).set (i * 2 + 1) (.int .i64 y) = cellsBy tiC (rawT n f (setI g i y)) := by
  have h := cellsBy_set tiC 2 tiC_len .no (rawT n f g) i 1 (.int .i64 y) ⟨f i, y⟩ (by rw [rawT_len]; exact hi) (by omega) (by rw [rawT_at _ _ hi]; rfl)
  rw [h]
  congr 1
  refine tie_ext (by simp [rawT_len]) (rawT_len _ _ _) fun j hj => ?_
  rw [getD_set' _ _ _ _ _ (by rw [rawT_len]; exact hi), rawT_at _ _ hj, rawT_at _ _ hj]
  unfold setI
  by_cases e : i = j
  · subst e; simp
  · have e' : (j : Int) ≠ i := by omega
    simp [e, e']
def rgParts (p : Nat) (v : Value) (n : Nat) (f g : Int → Int) : List Ob :=
  [Ob.box p #[v] 47, Ob.row 0 50 2 v n (cellsBy tiC (rawT n f g))]
/-- At p lie n things: f says what follows each, g what each follows. -/
def Ob.ring (p n : Nat) (S : RSt) : Ob where
  holds w F := ∃ v, (Ob.group (rgParts p v n S.f S.g)).holds w F
  keeps := fun ⟨v, h⟩ k hn => ⟨v, (Ob.group _).keeps h k hn⟩
  lt := fun ⟨_, h⟩ => (Ob.group _).lt h
section
variable {F0 : Nat → Prop} {W0 w : World} {p n : Nat} {v : Value} {f g : Int → Int} {q : List Ob}
theorem rg_c0 (h : Stage F0 W0 (rgParts p v n f g ++ q) w) : w.cell? ⟨p, 0, none⟩ = some v := h.cell 0 rfl rfl
theorem rg_form (h : Stage F0 W0 (rgParts p v n f g ++ q) w) : ∃ a c, v = .slice a n c ∧ n ≤ c ∧ c ≤ 9223372036854775807 := by
  obtain ⟨a, c, h1, h2, h3⟩ := owns_form (h.owns 1 rfl)
  exact ⟨a, c, h1, h2, by unfold maxLen at h3; omega⟩
theorem rg_row (h : Stage F0 W0 (rgParts p v n f g ++ q) w) (hn : 0 < n) : ∃ b c, v = .slice (some ⟨b, 0, none⟩) n c ∧ n ≤ c ∧ c ≤ 9223372036854775807 ∧ b ≠ p ∧ b < w.heap.size ∧
    (∀ i : Nat, i < n → w.cell? ⟨b, i * 2, none⟩ = some (.int .i64 (f i)) ∧ w.cell? ⟨b, i * 2 + 1, none⟩ = some (.int .i64 (g i))) ∧ ∀ o, w.frozen? ⟨b, o, none⟩ = false := by
  obtain ⟨b, c, hv, h1, h2, _, h4, hc, hf⟩ := owns_at tiC_len .no (h.owns 1 rfl) (rawT_len n f g) hn
  have hne := h.rowNe 1 0 rfl rfl (by decide)
  subst hv
  refine ⟨b, c, rfl, h1, by unfold maxLen at h2; omega, fun e => hne (by rw [← e]; rfl), h4, fun i hi => ?_, hf⟩
  have e := rawT_at f g hi .no
  exact ⟨hc i 0 _ hi (by omega) (by rw [e]; rfl), hc i 1 _ hi (by omega) (by rw [e]; rfl)⟩
theorem rg_has (h : Stage F0 W0 (rgParts p v n f g ++ q) w) (x : Int) : Calls Try.prog 19 #[.pointer (some ⟨p, 0, none⟩), .int .i64 x] w fun e w' => e = .returned (.bool (inR n x)) ∧ w = w' := by
  obtain ⟨a, c, rfl, hc1, hc2⟩ := rg_form h
  have c0 := rg_c0 h
  unfold inR
  by_cases hx : 0 ≤ x
  · have hd := Lib.hid (show decide (0 ≤ x ∧ x < (n : Int)) = decide (x < (n : Int)) by congr 1; apply propext; omega)
    rw [hd.out]
    clear h hd
    go_enter Try.func19, Try.ntmps19
    go_wp2
    go_ret
    exact ⟨rfl, rfl⟩
  · rw [decide_eq_false (fun e => hx e.1)]
    clear h
    go_enter Try.func19, Try.ntmps19
    go_wp2
    go_ret
    exact ⟨rfl, rfl⟩
theorem rg_tie (hs : Stage F0 W0 (rgParts p v n f g ++ q) w) (x y : Nat) (hx : x < n) (hy : y < n) : Calls Try.prog 18 #[.pointer (some ⟨p, 0, none⟩), .int .i64 x, .int .i64 y] w fun e w' => e = .returned (.tuple #[]) ∧ Stage F0 W0 (rgParts p v n (setI f x y) (setI g y x) ++ q) w' := by
  have c0 := rg_c0 hs
  obtain ⟨b, c, rfl, hc1, hc2, hbp, hb, hc, hf⟩ := rg_row hs (by omega)
  have u0 := (hc x hx).1
  have u1 := (hc y hy).2
  have f0 := hf (x * 2)
  have f1 := hf (y * 2 + 1)
  have hs2 := (hs.storeRow 1 rfl (x * 2) (.int .i64 y) (rawT_nx f g hx y)).storeRow 1 rfl (y * 2 + 1) (.int .i64 x) (rawT_pv (setI f x y) g hy x)
  have hxi : (x : Int) < n := by omega
  have hyi : (y : Int) < n := by omega
  clear hs hc hf
  go_enter Try.func18, Try.ntmps18
  go_wp2_with fail
  go_end0
  exact ⟨rfl, hs2⟩
end
section
variable {w : World} {p n : Nat} {S : RSt} {F : Nat → Prop}
theorem rg_next (x : Int) (h : (Ob.ring p n S).holds w F) : Calls Try.prog 9 #[.pointer (some ⟨p, 0, none⟩), .int .i64 x] w fun e w' => e = .returned (.tuple #[.int .i64 (nextI n S x), .bool (inR n x)]) ∧ w = w' := by
  obtain ⟨v, hg⟩ := h
  have hs := Ob.group.open hg
  have c0 := rg_c0 (q := []) hs
  have hH := rg_has (q := []) hs x
  unfold nextI
  by_cases hx : inR n x = true
  · rw [hx] at hH ⊢
    rw [if_pos rfl]
    rw [inR_iff] at hx
    obtain ⟨i, rfl⟩ : ∃ i : Nat, x = i := ⟨x.toNat, by omega⟩
    obtain ⟨g, c, rfl, hc1, hc2, hgp, hgl, hc, hf⟩ := rg_row (q := []) hs (by omega)
    have u0 := (hc i (by omega)).1
    have hxi : (i : Int) < n := by omega
    generalize S.f i = z at *
    clear hs hg hc hf
    go_enter Try.func9, Try.ntmps9
    go_wp2_with fail
    refine hH.mono ?_
    rintro e w1 ⟨rfl, rfl⟩
    go_wp2_with fail
    go_ret2
    exact ⟨rfl, rfl⟩
  · rw [Bool.not_eq_true] at hx
    rw [hx] at hH ⊢
    rw [if_neg (by decide)]
    clear hs hg
    go_enter Try.func9, Try.ntmps9
    go_wp2_with fail
    refine hH.mono ?_
    rintro e w1 ⟨rfl, rfl⟩
    go_wp2_with fail
    go_ret2
    exact ⟨rfl, rfl⟩
theorem rg_prev (x : Int) (h : (Ob.ring p n S).holds w F) : Calls Try.prog 10 #[.pointer (some ⟨p, 0, none⟩), .int .i64 x] w fun e w' => e = .returned (.tuple #[.int .i64 (prevI n S x), .bool (inR n x)]) ∧ w = w' := by
  obtain ⟨v, hg⟩ := h
  have hs := Ob.group.open hg
  have c0 := rg_c0 (q := []) hs
  have hH := rg_has (q := []) hs x
  unfold prevI
  by_cases hx : inR n x = true
  · rw [hx] at hH ⊢
    rw [if_pos rfl]
    rw [inR_iff] at hx
    obtain ⟨i, rfl⟩ : ∃ i : Nat, x = i := ⟨x.toNat, by omega⟩
    obtain ⟨g, c, rfl, hc1, hc2, hgp, hgl, hc, hf⟩ := rg_row (q := []) hs (by omega)
    have u0 := (hc i (by omega)).2
    have hxi : (i : Int) < n := by omega
    generalize S.g i = z at *
    clear hs hg hc hf
    go_enter Try.func10, Try.ntmps10
    go_wp2_with fail
    refine hH.mono ?_
    rintro e w1 ⟨rfl, rfl⟩
    go_wp2_with fail
    go_ret2
    exact ⟨rfl, rfl⟩
  · rw [Bool.not_eq_true] at hx
    rw [hx] at hH ⊢
    rw [if_neg (by decide)]
    clear hs hg
    go_enter Try.func10, Try.ntmps10
    go_wp2_with fail
    refine hH.mono ?_
    rintro e w1 ⟨rfl, rfl⟩
    go_wp2_with fail
    go_ret2
    exact ⟨rfl, rfl⟩
end
end Go.Proofs.Ytfngooaobjafjaa
