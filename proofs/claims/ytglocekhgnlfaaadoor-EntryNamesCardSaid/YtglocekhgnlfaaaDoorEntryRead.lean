/- The program's Number and Parse return what 'numE' and 'parE' say of a text's letters, for every text, in every memory that holds the library's table and its two error values; of what was in memory nothing is changed. -/
import Derived.Test.YtglocekhgnlfaaaDoorEntryText
import Derived.Test.YtglocekhgnlfaaaDoorNum
import Derived.Lib.UnsafeStr
namespace Go.Proofs.YtglocekhgnlfaaaDoor
open Go.RowKit Go.Sort Go.Lib

/-- What the walks read of the package-level variables. -/
structure At (w : World) : Prop where
  tab : Tab w
  bad : ∃ tp p, w.var? Tryd.prog "strconv.ErrSyntax" = some #[.iface tp p]
  far : ∃ tp p, w.var? Tryd.prog "strconv.ErrRange" = some #[.iface tp p]
  most : ∃ m, w.cell? ⟨0, 0, none⟩ = some (.int .i64 m)

theorem var_below {w w' : World} {n : String} {cs : Array Value} (h : w.var? Tryd.prog n = some cs) (hb : Below w.heap.size w w') : w'.var? Tryd.prog n = some cs := by
  unfold World.var? at *
  cases hg : Tryd.prog.globalNamed n with
  | none => simp [hg] at h
  | some g =>
    simp only [hg, Option.bind_some] at h ⊢
    have hlt : g < w.heap.size := by
      rcases Nat.lt_or_ge g w.heap.size with h' | h'
      · exact h'
      · rw [Array.getElem?_eq_none h'] at h; simp at h
    rw [hb.block g hlt]
    exact h
theorem At.below {w w' : World} (h : At w) (hb : Below w.heap.size w w') : At w' :=
  ⟨tab_below h.tab hb, let ⟨a, b, c⟩ := h.bad; ⟨a, b, var_below c hb⟩, let ⟨a, b, c⟩ := h.far; ⟨a, b, var_below c hb⟩,
   let ⟨m, hm⟩ := h.most; ⟨m, by rw [hb.cell (block_lt_of_cell hm)]; exact hm⟩⟩

theorem bytesWorld_below (w : World) (t : ByteArray) : Below w.heap.size w (Lib.bytesWorld w 5 t) := by
  unfold Lib.bytesWorld
  exact below_freeze (((Below.refl _ _).drew).alloc (Nat.le_refl _) _) (Nat.le_refl _) _

theorem toList_ne {a b : ByteArray} (h : ¬ a = b) : ¬ a.toList = b.toList := by
  rw [ByteArray.toList_eq, ByteArray.toList_eq]
  exact fun e => h (ByteArray.ext (Array.toList_inj.1 e))

/-- What ParseInt hands back: a number and no error, or some error. -/
def PI (l : List UInt8) (w : World) (e : Ending) (w' : World) : Prop :=
  (∃ v, Lib.parseIntB 64 l = .ok v ∧ e = .returned (.tuple #[.int .i64 v, .nilIface]) ∧ Below w.heap.size w w') ∨
  ((∀ v, Lib.parseIntB 64 l ≠ .ok v) ∧ ∃ n t p, e = .returned (.tuple #[.int .i64 n, .iface t (.pointer (some p))]) ∧ Below w.heap.size w w')
theorem parseInt_any (s : ByteArray) (hs : s.size ≤ 281474976710656) (w : World) (h : At w) :
    Calls Tryd.prog 28 #[.string s, .int .i64 10, .int .i64 64] w (PI s.data.toList w) := by
  cases hp : Lib.parseIntB 64 s.data.toList with
  | ok v => exact (Tryd.strconv_ParseInt_10_at64_ok s (by omega) v hp w).mono fun e w' ⟨he, hw⟩ => .inl ⟨v, hp, he, by
      rcases hw with rfl | ⟨t, rfl⟩
      · exact Below.refl _ _
      · exact bytesWorld_below w t⟩
  | _ =>
    obtain ⟨ta, pa, ha⟩ := h.bad
    obtain ⟨tb, pb, hb⟩ := h.far
    first
      | exact (Any.strconv_ParseInt_10_at64_syntax_var Tryd.laysC174 s hs hp ta pa w ha).mono fun e w' ⟨N, he, _, _, hw⟩ => .inr ⟨by rw [hp]; simp, _, _, _, he, hw⟩
      | exact (Any.strconv_ParseInt_10_at64_range_var Tryd.laysC174 s hs hp tb pb w hb).mono fun e w' ⟨N, he, _, _, hw⟩ => .inr ⟨by rw [hp]; simp, _, _, _, he, hw⟩

def PU (l : List UInt8) (w : World) (e : Ending) (w' : World) : Prop :=
  (∃ u : Nat, Lib.parseUintB 64 l = .ok u ∧ e = .returned (.tuple #[.int .u64 u, .nilIface]) ∧ Below w.heap.size w w') ∨
  ((∀ u, Lib.parseUintB 64 l ≠ .ok u) ∧ ∃ n t p, e = .returned (.tuple #[.int .u64 n, .iface t (.pointer (some p))]) ∧ Below w.heap.size w w')
theorem parseUint_any (s : ByteArray) (hs : s.size ≤ 281474976710656) (w : World) (h : At w) :
    Calls Tryd.prog 31 #[.string s, .int .i64 10, .int .i64 64] w (PU s.data.toList w) := by
  cases hp : Lib.parseUintB 64 s.data.toList with
  | ok v => exact (Tryd.strconv_ParseUint_10_at64_ok s (by omega) v hp w).mono fun e w' ⟨he, hw⟩ => .inl ⟨v, hp, he, by
      rcases hw with rfl | rfl
      · exact Below.refl _ _
      · exact bytesWorld_below w s⟩
  | _ =>
    obtain ⟨ta, pa, ha⟩ := h.bad
    obtain ⟨tb, pb, hb⟩ := h.far
    first
      | exact (Any.strconv_ParseUint_10_at64_syntax_var Tryd.laysPu14 s hs hp ta pa w ha).mono fun e w' ⟨N, he, _, _, hw⟩ => .inr ⟨by rw [hp]; simp, _, _, _, he, hw⟩
      | exact (Any.strconv_ParseUint_10_at64_range_var Tryd.laysPu14 s hs hp tb pb w hb).mono fun e w' ⟨N, he, _, _, hw⟩ => .inr ⟨by rw [hp]; simp, _, _, _, he, hw⟩

set_option maxHeartbeats 1000000 in
set_option maxRecDepth 100000 in
theorem number_any (s : ByteArray) (hs : s.size ≤ 281474976710656) (w : World) (h : At w) :
    Calls Tryd.prog 20 #[.string s] w fun e w' => e = .returned (.tuple #[.int .i64 (Num.numE s.data.toList).1, .bool (Num.numE s.data.toList).2]) ∧ Below w.heap.size w w' := by
  go_enter Tryd.func20, Tryd.ntmps20
  go_wp2_with fail
  refine (parseInt_any s hs _ h).mono ?_
  rintro e w1 (⟨v, hp, rfl, hb⟩ | ⟨hp, n, t, p, rfl, hb⟩)
  · have hv := parseIntB_bounds hp
    have hd := digits_any v (by omega) (by omega) w1 (h.below hb).tab
    by_cases he : Lib.itoa v = s.data.toList
    · have hE := Lib.hid (show Num.numE s.data.toList = (v, true) by unfold Num.numE; rw [hp]; simp [he])
      have es : (⟨(Lib.itoa v).toArray⟩ : ByteArray) = s := by rw [he]
      rw [es] at hd
      have Hd := Lib.hid hd
      clear hp he es hd
      go_wp2_with fail
      refine Hd.out.mono ?_
      rintro e w2 ⟨rfl, hb2⟩
      go_wp2_with fail
      go_ret2
      exact ⟨by rw [hE.out]; rfl, below_chain hb hb2⟩
    · have hE := Lib.hid (show Num.numE s.data.toList = (0, false) by unfold Num.numE; rw [hp]; simp [he])
      generalize hA : (⟨(Lib.itoa v).toArray⟩ : ByteArray) = A at hd
      have es : ¬ A = s := fun e => he (by rw [← e, ← hA])
      have hne2 := toList_ne es
      have hne : (A.toList == s.toList) = false := by simpa using hne2
      have Hd := Lib.hid hd
      clear hp he es hd hA
      go_wp2_with fail
      refine Hd.out.mono ?_
      rintro e w2 ⟨rfl, hb2⟩
      go_wp2_with fail
      go_ret2
      exact ⟨by rw [hE.out]; rfl, below_chain hb hb2⟩
  · have hE := Lib.hid (show Num.numE s.data.toList = (0, false) by
      unfold Num.numE
      split
      · rename_i v hv; exact absurd hv (hp v)
      · rfl)
    clear hp
    go_wp2_with fail
    go_ret2
    exact ⟨by rw [hE.out]; rfl, hb⟩

set_option maxHeartbeats 1000000 in
set_option maxRecDepth 100000 in
theorem seqNumber_any (s : ByteArray) (hs : s.size ≤ 281474976710656) (w : World) (h : At w) :
    Calls Tryd.prog 24 #[.string s] w fun e w' => e = .returned (.tuple #[.int .u64 ((Num.seqE s.data.toList).1 : Nat), .bool (Num.seqE s.data.toList).2]) ∧ Below w.heap.size w w' := by
  go_enter Tryd.func24, Tryd.ntmps24
  go_wp2_with fail
  refine (parseUint_any s hs _ h).mono ?_
  rintro e w1 (⟨v, hp, rfl, hb⟩ | ⟨hp, n, t, p, rfl, hb⟩)
  · have hv := parseUintB_le hp
    have hd := seqDigits_any v (by omega) w1 (h.below hb).tab
    by_cases he : Lib.decDigits v = s.data.toList
    · have hE := Lib.hid (show Num.seqE s.data.toList = (v, true) by unfold Num.seqE; rw [hp]; simp [he])
      have es : (⟨(Lib.decDigits v).toArray⟩ : ByteArray) = s := by rw [he]
      rw [es] at hd
      have Hd := Lib.hid hd
      clear hp he es hd
      go_wp2_with fail
      refine Hd.out.mono ?_
      rintro e w2 ⟨rfl, hb2⟩
      go_wp2_with fail
      go_ret2
      exact ⟨by rw [hE.out]; rfl, below_chain hb hb2⟩
    · have hE := Lib.hid (show Num.seqE s.data.toList = (0, false) by unfold Num.seqE; rw [hp]; simp [he])
      generalize hA : (⟨(Lib.decDigits v).toArray⟩ : ByteArray) = A at hd
      have es : ¬ A = s := fun e => he (by rw [← e, ← hA])
      have hne2 := toList_ne es
      have hne : (A.toList == s.toList) = false := by simpa using hne2
      have Hd := Lib.hid hd
      clear hp he es hd hA
      go_wp2_with fail
      refine Hd.out.mono ?_
      rintro e w2 ⟨rfl, hb2⟩
      go_wp2_with fail
      go_ret2
      exact ⟨by rw [hE.out]; rfl, below_chain hb hb2⟩
  · have hE := Lib.hid (show Num.seqE s.data.toList = (0, false) by
      unfold Num.seqE
      split
      · rename_i v hv; exact absurd hv (hp v)
      · rfl)
    clear hp
    go_wp2_with fail
    go_ret2
    exact ⟨by rw [hE.out]; rfl, hb⟩

theorem cut_le (l : List UInt8) : (Lib.cut l [35]).1.length ≤ l.length ∧ (Lib.cut l [35]).2.1.length ≤ l.length := by
  unfold Lib.cut
  split <;> simp
  omega

set_option maxHeartbeats 1000000 in
set_option maxRecDepth 100000 in
theorem parse_any (s : ByteArray) (hs : s.size < 4294967281) (w : World) (h : At w) :
    Calls Tryd.prog 9 #[.string s] w fun e w' => e = .returned (.tuple #[.agg #[.int .i64 (Num.parE s.data.toList).1.1, .int .u64 ((Num.parE s.data.toList).1.2 : Nat)], .int .i64 (Num.parE s.data.toList).2]) ∧ Below w.heap.size w w' := by
  obtain ⟨m, hm⟩ := h.most
  have hc := Tryd.strings_Cut s ⟨#[35]⟩ m
  obtain ⟨A, hA⟩ : ∃ A : ByteArray, A = ⟨(Lib.cut s.data.toList [35]).1.toArray⟩ := ⟨_, rfl⟩
  obtain ⟨B, hB⟩ : ∃ B : ByteArray, B = ⟨(Lib.cut s.data.toList [35]).2.1.toArray⟩ := ⟨_, rfl⟩
  have lA : A.size ≤ s.size := by rw [hA]; exact (cut_le s.data.toList).1
  have lB : B.size ≤ s.size := by rw [hB]; exact (cut_le s.data.toList).2
  have eA : (Lib.cut s.data.toList [35]).1 = A.data.toList := by rw [hA]
  have eB : (Lib.cut s.data.toList [35]).2.1 = B.data.toList := by rw [hB]
  have HP := Lib.hid (show Num.parE s.data.toList = _ from by unfold Num.parE; rw [eA, eB])
  simp only [← hA, ← hB] at hc
  have Hc := Lib.hid hc
  clear hc hA hB eA eB
  have nA := number_any A (by omega)
  have nB := seqNumber_any B (by omega)
  generalize Num.numE A.data.toList = x at *
  generalize Num.seqE B.data.toList = y at *
  have HA := Lib.hid nA
  have HB := Lib.hid nB
  clear nA nB
  obtain ⟨k, okk⟩ := x
  obtain ⟨q, okq⟩ := y
  generalize hR : Num.parE s.data.toList = R at *
  clear hR
  go_enter Tryd.func9, Tryd.ntmps9
  go_wp2_with fail
  have hb0 := (Below.refl w.heap.size w).alloc (Nat.le_refl _) (.cells #[.int .i64 0, .int .u64 0] 24)
  refine (Hc.out _ hs (by rw [hb0.cell (block_lt_of_cell hm)]; exact hm)).mono ?_
  rintro e w1 ⟨rfl, n, hw⟩
  have hb1 : Below (w.alloc (.cells #[.int .i64 0, .int .u64 0] 24)).heap.size (w.alloc (.cells #[.int .i64 0, .int .u64 0] 24)) w1 := by rw [hw]; exact below_drewN (Below.refl _ _) n
  clear hw
  go_wp2_with fail
  refine (HA.out _ (h.below (below_chain hb0 hb1))).mono ?_
  rintro e w2 ⟨rfl, hb2⟩
  go_wp2_with fail
  refine (HB.out _ (h.below (below_chain (below_chain hb0 hb1) hb2))).mono ?_
  rintro e w3 ⟨rfl, hb3⟩
  have hb := below_chain (below_chain hb1 hb2) hb3
  have c0 : w3.cell? ⟨w.heap.size, 0, none⟩ = some (.int .i64 0) := by rw [hb.cell (p := ⟨w.heap.size, 0, none⟩) (by simp)]; go_simp
  have c1 : w3.cell? ⟨w.heap.size, 1, none⟩ = some (.int .u64 0) := by rw [hb.cell (p := ⟨w.heap.size, 1, none⟩) (by simp)]; go_simp
  have f0 : w3.frozen? ⟨w.heap.size, 0, none⟩ = false := by rw [hb.frozen (p := ⟨w.heap.size, 0, none⟩) (by simp)]; go_simp
  have f1 : w3.frozen? ⟨w.heap.size, 1, none⟩ = false := by rw [hb.frozen (p := ⟨w.heap.size, 1, none⟩) (by simp)]; go_simp
  have hbb := hb0.trans (hb.mono (by simp))
  clear hb0 hb1 hb2 hb3 hb
  cases okk <;> cases okq
  · go_wp2_with fail
    refine bodyPost_ret (v := .tuple #[.agg #[.int .i64 0, .int .u64 0], .int .i64 11]) (by simp [results, Tryd.results9, go_sem, c0, c1]) rfl ⟨?_, ?_⟩
    · have e := HP.out
      simp at e
      rw [e]
      rfl
    · exact (hbb.setCell (Nat.le_refl _) _).setCell (Nat.le_refl _) _
  · go_wp2_with fail
    refine bodyPost_ret (v := .tuple #[.agg #[.int .i64 0, .int .u64 0], .int .i64 11]) (by simp [results, Tryd.results9, go_sem, c0, c1]) rfl ⟨?_, ?_⟩
    · have e := HP.out
      simp at e
      rw [e]
      rfl
    · exact (hbb.setCell (Nat.le_refl _) _).setCell (Nat.le_refl _) _
  · go_wp2_with fail
    refine bodyPost_ret (v := .tuple #[.agg #[.int .i64 0, .int .u64 0], .int .i64 11]) (by simp [results, Tryd.results9, go_sem, c0, c1]) rfl ⟨?_, ?_⟩
    · have e := HP.out
      simp at e
      rw [e]
      rfl
    · exact (hbb.setCell (Nat.le_refl _) _).setCell (Nat.le_refl _) _
  · go_wp2_with fail
    refine bodyPost_ret (v := .tuple #[.agg #[.int .i64 k, .int .u64 q], .int .i64 0]) (by simp [results, Tryd.results9, go_sem, c0, c1]) rfl ⟨?_, ?_⟩
    · have e := HP.out
      simp at e
      rw [e]
    · exact (hbb.setCell (Nat.le_refl _) _).setCell (Nat.le_refl _) _
end Go.Proofs.YtglocekhgnlfaaaDoor
