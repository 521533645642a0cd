/- The program's Number and Parse return what 'numE' and 'parE' say of a text's letters, for every text, in every memory that holds the library's table and its two error values; of what was in memory nothing is changed. -/
import Derived.Test.YtokfecbjkngpgaaDoorEntryText
import Derived.Test.YtokfecbjkngpgaaDoorNum
import Derived.Lib.UnsafeStr
namespace Go.Proofs.YtokfecbjkngpgaaDoor
open Go.RowKit Go.Sort Go.Lib

/-- What the walks read of the package-level variables. -/
structure At (w : World) : Prop where
  tab : Tab w
  bad : ∃ tp p, w.var? Tryd.prog "strconv.ErrSyntax" = some #[.iface tp p]
  far : ∃ tp p, w.var? Tryd.prog "strconv.ErrRange" = some #[.iface tp p]
  most : ∃ m, w.cell? ⟨1, 0, none⟩ = some (.int .i64 m)

theorem var_below {w w' : World} {n : String} {cs : Array Value} (h : w.var? Tryd.prog n = some cs) (hb : Below w.heap.size w w') : w'.var? Tryd.prog n = some cs := by
  unfold World.var? at *
  cases hg : Tryd.prog.globalNamed n with
  | none => simp [hg] at h
  | some g =>
    simp only [hg, Option.bind_some] at h ⊢
    have hlt : g < w.heap.size := by
      rcases Nat.lt_or_ge g w.heap.size with h' | h'
      · exact h'
      · rw [Array.getElem?_eq_none h'] at h; simp at h
    rw [hb.block g hlt]
    exact h
theorem At.below {w w' : World} (h : At w) (hb : Below w.heap.size w w') : At w' :=
  ⟨tab_below h.tab hb, let ⟨a, b, c⟩ := h.bad; ⟨a, b, var_below c hb⟩, let ⟨a, b, c⟩ := h.far; ⟨a, b, var_below c hb⟩,
   let ⟨m, hm⟩ := h.most; ⟨m, by rw [hb.cell (block_lt_of_cell hm)]; exact hm⟩⟩

theorem bytesWorld_below (w : World) (t : ByteArray) : Below w.heap.size w (Lib.bytesWorld w 5 t) := by
  unfold Lib.bytesWorld
  exact below_freeze (((Below.refl _ _).drew).alloc (Nat.le_refl _) _) (Nat.le_refl _) _

theorem toList_ne {a b : ByteArray} (h : ¬ a = b) : ¬ a.toList = b.toList := by
  rw [ByteArray.toList_eq, ByteArray.toList_eq]
  exact fun e => h (ByteArray.ext (Array.toList_inj.1 e))

/-- What ParseInt hands back: a number and no error, or some error. -/
def PI (l : List UInt8) (w : World) (e : Ending) (w' : World) : Prop :=
  (∃ v, Lib.parseIntB 64 l = .ok v ∧ e = .returned (.tuple #[.int .i64 v, .nilIface]) ∧ Below w.heap.size w w') ∨
  ((∀ v, Lib.parseIntB 64 l ≠ .ok v) ∧ ∃ n t p, e = .returned (.tuple #[.int .i64 n, .iface t (.pointer (some p))]) ∧ Below w.heap.size w w')
theorem parseInt_any (s : ByteArray) (hs : s.size ≤ 281474976710656) (w : World) (h : At w) :
    Calls Tryd.prog 51 #[.string s, .int .i64 10, .int .i64 64] w (PI s.data.toList w) := by
  cases hp : Lib.parseIntB 64 s.data.toList with
  | ok v => exact (Tryd.strconv_ParseInt_10_at64_ok s (by omega) v hp w).mono fun e w' ⟨he, hw⟩ => .inl ⟨v, hp, he, by
      rcases hw with rfl | ⟨t, rfl⟩
      · exact Below.refl _ _
      · exact bytesWorld_below w t⟩
  | _ =>
    obtain ⟨ta, pa, ha⟩ := h.bad
    obtain ⟨tb, pb, hb⟩ := h.far
    first
      | exact (Any.strconv_ParseInt_10_at64_syntax_var Tryd.laysC174 s hs hp ta pa w ha).mono fun e w' ⟨N, he, _, _, hw⟩ => .inr ⟨by rw [hp]; simp, _, _, _, he, hw⟩
      | exact (Any.strconv_ParseInt_10_at64_range_var Tryd.laysC174 s hs hp tb pb w hb).mono fun e w' ⟨N, he, _, _, hw⟩ => .inr ⟨by rw [hp]; simp, _, _, _, he, hw⟩

def PU (l : List UInt8) (w : World) (e : Ending) (w' : World) : Prop :=
  (∃ u : Nat, Lib.parseUintB 64 l = .ok u ∧ e = .returned (.tuple #[.int .u64 u, .nilIface]) ∧ Below w.heap.size w w') ∨
  ((∀ u, Lib.parseUintB 64 l ≠ .ok u) ∧ ∃ n t p, e = .returned (.tuple #[.int .u64 n, .iface t (.pointer (some p))]) ∧ Below w.heap.size w w')
set_option maxHeartbeats 1000000 in
set_option maxRecDepth 100000 in
theorem number_any (s : ByteArray) (hs : s.size ≤ 281474976710656) (w : World) (h : At w) :
    Calls Tryd.prog 43 #[.string s] w fun e w' => e = .returned (.tuple #[.int .i64 (Num.numE s.data.toList).1, .bool (Num.numE s.data.toList).2]) ∧ Below w.heap.size w w' := by
  go_enter Tryd.func43, Tryd.ntmps43
  go_wp2_with fail
  refine (parseInt_any s hs _ h).mono ?_
  rintro e w1 (⟨v, hp, rfl, hb⟩ | ⟨hp, n, t, p, rfl, hb⟩)
  · have hv := parseIntB_bounds hp
    have hd := digits_any v (by omega) (by omega) w1 (h.below hb).tab
    by_cases he : Lib.itoa v = s.data.toList
    · have hE := Lib.hid (show Num.numE s.data.toList = (v, true) by unfold Num.numE; rw [hp]; simp [he])
      have es : (⟨(Lib.itoa v).toArray⟩ : ByteArray) = s := by rw [he]
      rw [es] at hd
      have Hd := Lib.hid hd
      clear hp he es hd
      go_wp2_with fail
      refine Hd.out.mono ?_
      rintro e w2 ⟨rfl, hb2⟩
      go_wp2_with fail
      go_ret2
      exact ⟨by rw [hE.out]; rfl, below_chain hb hb2⟩
    · have hE := Lib.hid (show Num.numE s.data.toList = (0, false) by unfold Num.numE; rw [hp]; simp [he])
      generalize hA : (⟨(Lib.itoa v).toArray⟩ : ByteArray) = A at hd
      have es : ¬ A = s := fun e => he (by rw [← e, ← hA])
      have hne2 := toList_ne es
      have hne : (A.toList == s.toList) = false := by simpa using hne2
      have Hd := Lib.hid hd
      clear hp he es hd hA
      go_wp2_with fail
      refine Hd.out.mono ?_
      rintro e w2 ⟨rfl, hb2⟩
      go_wp2_with fail
      go_ret2
      exact ⟨by rw [hE.out]; rfl, below_chain hb hb2⟩
  · have hE := Lib.hid (show Num.numE s.data.toList = (0, false) by
      unfold Num.numE
      split
      · rename_i v hv; exact absurd hv (hp v)
      · rfl)
    clear hp
    go_wp2_with fail
    go_ret2
    exact ⟨by rw [hE.out]; rfl, hb⟩

theorem cut_le (l : List UInt8) : (Lib.cut l [35]).1.length ≤ l.length ∧ (Lib.cut l [35]).2.1.length ≤ l.length := by
  unfold Lib.cut
  split <;> simp
  omega

end Go.Proofs.YtokfecbjkngpgaaDoor
