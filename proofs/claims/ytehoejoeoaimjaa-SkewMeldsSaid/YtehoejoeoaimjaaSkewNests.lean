/- Merged of Gauge, Gauge2, NestLimits, NestNum, SkewNests. -/
import Derived.Test.YtehoejoeoaimjaaLaw
import Derived.Test.YtehoejoeoaimjaaGaugeMath
import Derived.Test.YtehoejoeoaimjaaChecked
import Derived.Test.YtehoejoeoaimjaaShelf
import Derived.WalkLawsBesides
import Derived.WalkSpells
import Derived.IntWalk
import Derived.Test.YtehoejoeoaimjaaNestRuns
import Derived.Test.YtehoejoeoaimjaaNestHalves
import Derived.Test.YtehoejoeoaimjaaSkewNest3
namespace Go.Proofs.Ytehoejoeoaimjaa
open Go.RowKit

theorem fits_any (k d : Int) (w : World) :
    Calls Try.prog 91 #[.agg #[.int .i64 k, .int .i64 d]] w fun e w' => e = .returned (.bool (fitsB k d)) ∧ Below w.heap.size w w' := by
  go_enter Try.func91, Try.ntmps91
  go_wp2
  all_goals
    go_ret
    exact ⟨ret_bool (by rw [Bool.eq_iff_iff]; simp_all [fitsB]; try omega), (Below.refl _ _).alloc (Nat.le_refl _) _⟩

theorem check_any (k d : Int) (w : World) :
    Calls Try.prog 81 #[.agg #[.int .i64 k, .int .i64 d]] w fun e w' => e = .returned (.int .i64 (checkI k d)) ∧ Below w.heap.size w w' := by
  rcases check_cases k d with ⟨h, hk⟩ | ⟨h, h1, h2, hf⟩ | ⟨h, h1, h2, hf⟩
  · rw [h]
    clear h
    rcases hk with hk | hk
    · go_enter Try.func81, Try.ntmps81
      go_wp2
      go_ret
      exact ⟨rfl, (Below.refl _ _).alloc (Nat.le_refl _) _⟩
    · have hk1 : ¬ k < 1 := by omega
      go_enter Try.func81, Try.ntmps81
      go_wp2
      go_ret
      exact ⟨rfl, (Below.refl _ _).alloc (Nat.le_refl _) _⟩
  · rw [h]
    have HF := Lib.hid hf
    clear h hf
    go_enter Try.func81, Try.ntmps81
    go_wp2_with (go_at_call 91; refine (fits_any _ _ _).mono ?_; rintro e w' ⟨rfl, hb⟩; rw [HF.out])
    go_ret
    exact ⟨rfl, below_alloc1 hb⟩
  · rw [h]
    have HF := Lib.hid hf
    clear h hf
    go_enter Try.func81, Try.ntmps81
    go_wp2_with (go_at_call 91; refine (fits_any _ _ _).mono ?_; rintro e w' ⟨rfl, hb⟩; rw [HF.out])
    go_ret
    exact ⟨rfl, below_alloc1 hb⟩

theorem refCheck_any (k d : Int) (w : World) :
    Calls Try.prog 68 #[.agg #[.int .i64 k, .int .i64 d]] w fun e w' => e = .returned (.int .i64 (checkI k d)) ∧ Below w.heap.size w w' := by
  go_enter Try.func68, Try.ntmps68
  go_wp2
  all_goals
    go_ret
    exact ⟨ret_int (by simp_all [checkI, fitsB]; try omega), (Below.refl _ _).alloc (Nat.le_refl _) _⟩

theorem bits_any (n : Int) (h0 : -9223372036854775808 ≤ n) (h1 : n ≤ 9223372036854775807) (w : World) :
    Calls Try.prog 82 #[.int .i64 n] w fun e w' => e = .returned (.int .i64 (bitsI n)) ∧ w = w' := by
  go_enter Try.func82, Try.ntmps82
  by_cases hn : n < 0
  · have HB := Lib.hid (bits_neg hn)
    go_wp2
    go_ret
    exact ⟨ret_int HB.out.symm, rfl⟩
  · go_wp2_with (go_at_call 92; refine (Try.bits_Len64 n _ (by omega) (by omega)).mono ?_; rintro e w' ⟨rfl, rfl⟩)
    go_ret
    exact ⟨rfl, rfl⟩

theorem refBits_any (n : Int) (h0 : -9223372036854775808 ≤ n) (h1 : n ≤ 9223372036854775807) (w : World) :
    Calls Try.prog 69 #[.int .i64 n] w fun e w' => e = .returned (.int .i64 (bitsI n)) ∧ w = w' := by
  by_cases hn : n < 0
  · have HB := Lib.hid (bits_neg hn)
    have hn' : ¬ 0 < n := by omega
    go_enter Try.func69, Try.ntmps69
    go_wp2
    go_loop [0, 3] (fun m k => m = .int .i64 n ∧ k = .int .i64 0) (fun m _ => (intOf m).toNat)
    case atStart => exact ⟨rfl, rfl⟩
    case round =>
      obtain ⟨rfl, rfl⟩ := hrel
      go_wp2
      go_ret
      exact ⟨ret_int HB.out.symm, rfl⟩
  · have HB : Hid (bitsI n = (Lib.bitLen n.toNat : Int)) := Lib.hid rfl
    have HL : Lib.bitLen n.toNat ≤ 64 := Lib.bitLen_le n.toNat 64 (by omega) (by omega)
    have HN : n.toNat ≤ 9223372036854775807 := by omega
    have HM : Hid (n = (n.toNat : Int)) := Lib.hid (by omega)
    go_enter Try.func69, Try.ntmps69
    go_wp2
    go_loop [0, 3] (fun m k => ∃ q j : Nat, m = .int .i64 q ∧ k = .int .i64 j ∧ j + Lib.bitLen q = Lib.bitLen n.toNat ∧ q ≤ n.toNat) (fun m _ => (intOf m).toNat)
    case atStart => exact ⟨n.toNat, 0, by rw [← HM.out], rfl, by omega, Nat.le_refl _⟩
    case round =>
      obtain ⟨q, j, rfl, rfl, hj, hq⟩ := hrel
      have HJ := Lib.hid hj
      have hj' : j ≤ 64 := by omega
      clear hj
      by_cases hq0 : 0 < q
      · have HH := Lib.hid (bits_half q hq0 (by omega))
        go_wp2
        go_round
        case rel => exact ⟨q / 2, j + 1, by go_num, by go_num, by have := HJ.out; have := HH.out; omega, by omega⟩
        case measure => simp [intOf]; omega
      · go_wp2
        go_ret
        refine ⟨ret_int ?_, rfl⟩
        have h := HJ.out
        rw [show q = 0 by omega, show Lib.bitLen 0 = 0 by decide] at h
        have := HB.out
        omega

theorem counted_any (n : Int) (w : World) :
    Calls Try.prog 70 #[.int .i64 n] w fun e w' => e = .returned (.int .i64 (nearI n)) ∧ w = w' := by
  have HA : Hid (nearI n = if n < 0 then 0 else if 1099511627776 < n then 1099511627776 else n) := Lib.hid rfl
  go_enter Try.func70, Try.ntmps70
  go_wp2
  all_goals
    go_ret
    exact ⟨ret_int (by rw [HA.out]; clear HA; repeat' split
                       all_goals omega), rfl⟩

theorem near_any (n : Int) (w : World) :
    Calls Try.prog 67 #[.int .i64 n] w fun e w' => e = .returned (.int .i64 (nearI n)) ∧ w = w' := by
  have HA : Hid (nearI n = if n < 0 then 0 else if 1099511627776 < n then 1099511627776 else n) := Lib.hid rfl
  go_enter Try.func67, Try.ntmps67
  go_wp2
  all_goals
    go_ret
    exact ⟨ret_int (by rw [HA.out]; clear HA; repeat' split
                       all_goals omega), rfl⟩

theorem levels_any (n : Int) (h0 : 0 ≤ n) (h1 : n ≤ 1099511627776) (w : World) :
    Calls Try.prog 72 #[.int .i64 n] w fun e w' => e = .returned (.int .i64 (2 + bitsI n)) ∧ w = w' := by
  have hb := bits_range n (by omega)
  obtain ⟨hb0, hb1⟩ := hb
  go_enter Try.func72, Try.ntmps72
  go_wp2_with (go_at_call 82; refine (bits_any n (by omega) (by omega) _).mono ?_; rintro e w' ⟨rfl, rfl⟩)
  go_ret
  exact ⟨rfl, rfl⟩

theorem wholeF_any (k d : Int) (w : World) :
    Calls Try.prog 71 #[.agg #[.int .i64 k, .int .i64 d]] w fun e w' => e = .returned (.int .i64 (wholeFI k d)) ∧ Below w.heap.size w w' := by
  have HA : Hid (wholeFI k d = if checkI k d = 0 then (if k = 4 ∨ k = 5 ∨ k = 7 then 16 else 0) else 0) := Lib.hid rfl
  go_enter Try.func71, Try.ntmps71
  go_wp2_with fail
  refine (check_any _ _ _).mono ?_
  rintro e w1 ⟨rfl, hb⟩
  obtain ⟨c0, c1⟩ := box2 hb
  replace hb := below_alloc1 hb
  go_wp2
  all_goals
    go_ret
    exact ⟨ret_int (by rw [HA.out]; simp_all; try omega), hb⟩
end Go.Proofs.Ytehoejoeoaimjaa

namespace Go.Proofs.Ytehoejoeoaimjaa
open Go.RowKit

theorem whole_any (k d n : Int) (w : World) :
    Calls Try.prog 50 #[.agg #[.int .i64 k, .int .i64 d], .int .i64 n] w fun e w' => e = .returned (.int .i64 (wholeI k d n)) ∧ Below w.heap.size w w' := by
  have HA : Hid (wholeI k d n = wholeFI k d * nearI n * (2 + bitsI (nearI n))) := Lib.hid rfl
  have hl := whole_all_range k d n
  rw [HA.out] at hl
  obtain ⟨hl0, hl1⟩ := hl
  obtain ⟨hm0, hm1⟩ := wholeN_range k d n
  obtain ⟨n0, n1⟩ := near_range n
  go_enter Try.func50, Try.ntmps50
  go_wp2_with (go_at_call 70; refine (counted_any _ _).mono ?_; rintro e w' ⟨rfl, rfl⟩)
  refine (wholeF_any _ _ _).mono ?_
  rintro e w1 ⟨rfl, hb⟩
  replace hb := below_alloc1 hb
  go_wp2_with (go_at_call 72; refine (levels_any _ n0 n1 _).mono ?_; rintro e w' ⟨rfl, rfl⟩)
  go_ret
  exact ⟨ret_int HA.out.symm, hb⟩

theorem refWhole_any (k d n : Int) (w : World) :
    Calls Try.prog 49 #[.agg #[.int .i64 k, .int .i64 d], .int .i64 n] w fun e w' => e = .returned (.int .i64 (wholeI k d n)) ∧ Below w.heap.size w w' := by
  have HS := Lib.hid (whole_steps k d n)
  obtain ⟨n0, n1⟩ := near_range n
  obtain ⟨b0, b1⟩ := bits_near n
  obtain ⟨p0, p1⟩ := mul_range (a := 16 * nearI n) (m := 17592186044416) ⟨by omega, by omega⟩ (b := 2 + bitsI (nearI n)) (n := 43) ⟨by omega, by omega⟩
  go_enter Try.func49, Try.ntmps49
  go_wp2_with (go_at_call 67; refine (near_any _ _).mono ?_; rintro e w' ⟨rfl, rfl⟩)
  refine (refCheck_any _ _ _).mono ?_
  rintro e w1 ⟨rfl, hb⟩
  obtain ⟨c0, c1⟩ := box2 hb
  replace hb := below_alloc1 hb
  go_wp2_with (go_at_call 69; refine (refBits_any _ (by omega) (by omega) _).mono ?_; rintro e w' ⟨rfl, rfl⟩)
  all_goals
    go_ret
    exact ⟨ret_int (by rw [HS.out]; simp_all; try omega), hb⟩
end Go.Proofs.Ytehoejoeoaimjaa

namespace Go.Proofs.Ytehoejoeoaimjaa
open Go.RowKit Go.Sort

/-- How many slots are in the heap of an act, and in that of which it is melded. -/
def heapOf (W : WS) (k y x : Int) : Int := if (k = 4 ∨ k = 5) ∧ inW W x = true then (cellW W x).home else y
def sizeA (W : WS) (k y x : Int) : Int := if k = 6 then lenW W y else lenW W (heapOf W k y x)
def sizeB (W : WS) (k x : Int) : Int := if k = 6 then lenW W x else 0
/-- How many steps an act may take. -/
def mostW (kc dc : Int) (rows : Bool) (W : WS) (k y x : Int) : Int :=
  if k = 6 ∧ rows = true then limitI kc dc (sizeA W k y x + sizeB W k x + 1) * (min (sizeA W k y x) (sizeB W k x) + 1) else limitI kc dc (sizeA W k y x + sizeB W k x + 1)
theorem sizeA_range {W : WS} (h : W.Fit) (k y x : Int) : 0 ≤ sizeA W k y x ∧ sizeA W k y x ≤ 65536 := by
  have h1 := h.cap
  unfold sizeA
  split
  · have := len_le W y; omega
  · have := len_le W (heapOf W k y x); omega
theorem sizeB_range {W : WS} (h : W.Fit) (k x : Int) : 0 ≤ sizeB W k x ∧ sizeB W k x ≤ 65536 := by
  have h1 := h.cap
  unfold sizeB
  split
  · have := len_le W x; omega
  · omega
section
variable {w : World} {hv cv : Value} {W : WS}
end
section
variable {γ : Type} {O : WS → γ → Ob} {st : γ → Int} {R : WS → Int → Int → Int → Int → Int → γ → γ → Prop} {H : World → Prop} {T : TypeId} {v : Value} {f : NestFns}
end
end Go.Proofs.Ytehoejoeoaimjaa

namespace Go.Proofs.Ytehoejoeoaimjaa
open Go.RowKit Go.Sort

theorem one_any (w : World) : Calls Try.prog 28 #[.bool true] w fun e w' => e = .returned (.int .i64 1) ∧ w = w' := by
  go_enter Try.func28, Try.ntmps28
  go_wp2
  go_ret
  exact ⟨rfl, rfl⟩
section
variable {W0 w : World} {args : Array Value}
/-- A call that tells 'so', told as 1. -/
theorem runs_one {a b d : Value} (h : Calls Try.prog 29 #[a, b, d] w fun e w' => e = .returned (.bool true) ∧ Below W0.heap.size W0 w') : Calls Try.prog 15 #[a, b, d] w fun e w' => e = .returned (.int .i64 1) ∧ Below W0.heap.size W0 w' := by
  go_enter Try.func15, Try.ntmps15
  go_wp2_with fail
  refine h.mono ?_
  rintro e w1 ⟨rfl, hb⟩
  go_wp2_with fail
  refine (one_any w1).mono ?_
  rintro e w2 ⟨rfl, rfl⟩
  go_wp2_with fail
  go_ret
  exact ⟨rfl, hb⟩
theorem sorts_one {a b : Value} (h : Calls Try.prog 31 #[a, b] w fun e w' => e = .returned (.bool true) ∧ Below W0.heap.size W0 w') : Calls Try.prog 18 #[a, b] w fun e w' => e = .returned (.int .i64 1) ∧ Below W0.heap.size W0 w' := by
  go_enter Try.func18, Try.ntmps18
  go_wp2_with fail
  refine h.mono ?_
  rintro e w1 ⟨rfl, hb⟩
  go_wp2_with fail
  refine (one_any w1).mono ?_
  rintro e w2 ⟨rfl, rfl⟩
  go_wp2_with fail
  go_ret
  exact ⟨rfl, hb⟩
end
section
variable {γ : Type} {O : WS → γ → Ob} {st : γ → Int} {R : WS → Int → Int → Int → Int → Int → γ → γ → Prop} {H : World → Prop} {T : TypeId} {v : Value} {f : NestFns}
theorem halves_num (N : Nests O st R H T v f) (L : List Int) (hn : L.length ≤ 65536) (a0 : Option Addr) (cap : Nat) (hcap : L.length ≤ cap ∧ cap ≤ 9223372036854775807) (hmin : ∀ n ∈ L, -9223372036854775808 ≤ n)
    (B : List Bool) (a1 : Option Addr) (cap1 : Nat) (hcap' : B.length ≤ cap1 ∧ cap1 ≤ 9223372036854775807) (low gone : Int) (hlow : inInt low) (hgone : inInt gone)
    {g : γ} {W0 w : World} (hkey : IntsAt W0 .i64 a0 L) (hbool : BoolsAt W0 a1 B) (hs : Stage (fun _ => False) W0 [O (newW L.length) g] w) :
    Calls Try.prog 19 #[.iface T v, .slice a0 L.length cap, .agg #[.slice a1 B.length cap1, .int .i64 low, .int .i64 gone]] w fun e w' => e = .returned (.int .i64 1) ∧ Below W0.heap.size W0 w' := by
  obtain ⟨w1, hw1, hs1⟩ : ∃ w1, w.alloc (.cells #[.slice a1 B.length cap1, .int .i64 low, .int .i64 gone] 53) = w1 ∧ Stage (fun _ => False) W0 [O (newW L.length) g, Ob.box w.heap.size #[.slice a1 B.length cap1, .int .i64 low, .int .i64 gone] 53] w1 := ⟨_, rfl, hs.alloc _ _⟩
  have h := halves_any N L hn a0 cap hcap hmin B a1 cap1 hcap' low gone hlow hgone hkey hbool (hs1.take 1)
  have c0 := hs1.cell 1 rfl (o := 0) rfl
  have c1 := hs1.cell 1 rfl (o := 1) rfl
  have c2 := hs1.cell 1 rfl (o := 2) rfl
  clear hs hs1 hkey hbool hmin
  generalize L.length = n at *
  generalize B.length = m at *
  go_enter Try.func19, Try.ntmps19
  go_wp2_with fail
  refine h.mono ?_
  rintro e w2 ⟨rfl, hb⟩
  go_wp2_with fail
  refine (one_any w2).mono ?_
  rintro e w3 ⟨rfl, rfl⟩
  go_wp2_with fail
  go_ret
  exact ⟨rfl, hb⟩
end
theorem lt_bits : ∀ m : Nat, m ≤ 9223372036854775807 → m < 2 ^ Lib.bitLen m := by
  intro m
  induction m using Nat.strongRecOn with
  | ind m ih =>
    intro hm
    by_cases h0 : m = 0
    · subst h0; exact Nat.pos_of_ne_zero (by simp)
    · have h1 := bits_half m (by omega) hm
      have h2 := ih (m / 2) (by omega) (by omega)
      rw [h1, Nat.add_comm, Nat.pow_succ]
      omega
end Go.Proofs.Ytehoejoeoaimjaa

namespace Go.Proofs.Ytehoejoeoaimjaa
open Go.RowKit Go.Sort

/-- How a call turns the steps and the trees. -/
def skewR (W : WS) (k y x q r : Int) (g g' : KG) : Prop := g' = skF W k y x q r g
/-- The functions that such a nest's calls enter. -/
def skewF (p c : Nat) : NestFns where
  cap := ⟨11, ptrV c⟩
  make := ⟨22, ptrV c⟩
  ins := ⟨23, ptrV p⟩
  min := ⟨42, ptrV p⟩
  ext := ⟨24, ptrV p⟩
  dec := ⟨112, ptrV p⟩
  del := ⟨43, ptrV p⟩
  meld := ⟨114, ptrV p⟩
  steps := ⟨12, ptrV c⟩
  entry := ⟨113, ptrV c⟩
  home := ⟨62, ptrV c⟩
  has := ⟨13, ptrV c⟩
  len := ⟨14, ptrV c⟩
section
variable {w : World} {p c : Nat} {W : WS} {s : Int} {F : Nat → Prop} {Ts : Nat → Tr}
theorem skew_there (h : (Ob.skew p c W s Ts).holds w F) : skewH p c w := by
  obtain ⟨f, t, bm, n, L, _, _, _, _, _, hg⟩ := h
  exact sk_p0 (Ob.group.open hg)
theorem skew_fit (h : (Ob.skew p c W s Ts).holds w F) : W.Fit := by
  obtain ⟨f, t, bm, n, L, _, _, _, h, _, hg⟩ := h; exact h
theorem skew_range (h : (Ob.skew p c W s Ts).holds w F) : 0 ≤ s ∧ s ≤ 4611686018427387904 := by
  obtain ⟨f, t, bm, n, L, _, _, _, _, h, hg⟩ := h; exact h
theorem skew_inv (h : (Ob.skew p c W s Ts).holds w F) : TInv W Ts := by
  obtain ⟨f, t, bm, n, L, I, _, _, _, _, hg⟩ := h; exact I
/-- A call on the cells alone. -/
theorem skew_cells {f : FuncId} {args : Array Value} {v : Value} {W' : WS} (h : (Ob.skew p c W s Ts).holds w F) (hW : ∀ Ts, TInv W Ts → TInv W' Ts) (hl : W'.cells.length = W.cells.length)
    (hc : ∀ G, (Ob.cells c W s).holds w G → Calls Try.prog f args w fun e w' => e = .returned v ∧ ∃ G', (Ob.cells c W' s).holds w' G' ∧ Moved G G' w w') :
    Calls Try.prog f args w fun e w' => e = .returned v ∧ ∃ F', (Ob.skew p c W' s Ts).holds w' F' ∧ Moved F F' w w' := by
  have hF := (Ob.skew p c W s Ts).lt h
  obtain ⟨f, t, bm, n, L, I, J, hn, hf, _, hg⟩ := h
  have hs := Ob.group.open hg
  refine (hs.call 1 rfl hc).mono ?_
  rintro e w' ⟨rfl, hs1⟩
  have hs2 : Stage F w (skParts p f c t bm n W' s L Ts) w' := hs1
  exact ⟨rfl, skew_close hs2 hF (hW Ts I) J (by rw [hl]; exact hn)⟩
/-- .. that only asks. -/
theorem skew_ask {f : FuncId} {args : Array Value} {v : Value} (h : (Ob.skew p c W s Ts).holds w F) (hc : ∀ G, (Ob.cells c W s).holds w G → Calls Try.prog f args w fun e w' => e = .returned v ∧ Below w.heap.size w w') :
    Calls Try.prog f args w fun e w' => e = .returned v ∧ Below w.heap.size w w' := by
  obtain ⟨f, t, bm, n, L, I, J, hn, hf, _, hg⟩ := h
  obtain ⟨G, ho⟩ := (Ob.group.open hg).get (i := 1) rfl
  exact hc G ho
theorem ksame_below {f : FuncId} {args : Array Value} {v : Value} (h : Calls Try.prog f args w fun e w' => e = .returned v ∧ w = w') : Calls Try.prog f args w fun e w' => e = .returned v ∧ Below w.heap.size w w' := h.mono fun _ _ ⟨h1, h2⟩ => ⟨h1, by subst h2; exact Below.refl _ _⟩
end
abbrev ktoMeter : FieldStep := { struct := 38, index := 0, deref := true }
theorem kload_cells {p c : Nat} {w : World} (h : skewH p c w) : (loadVar 28 ⟨p, 0, none⟩).run Try.prog w = .ok (ptrV c) w := by
  unfold skewH at h
  go_simp
/-- A method of the cells, by the nest. -/
theorem km_prom {n : String} {f : FuncId} {p c : Nat} {w : World} (h : skewH p c w) (e : (method 256 23 (ptrV p) n).run Try.prog w = (do let v ← loadVar 28 ⟨p, 0, none⟩; pure (f, v) : Sem (FuncId × Value)).run Try.prog w) : (method 256 23 (ptrV p) n).run Try.prog w = .ok (f, ptrV c) w := by
  rw [e, Sem.run_bind, kload_cells h]
  rfl
set_option maxRecDepth 100000 in
theorem km_steps {p c : Nat} {w : World} (h : skewH p c w) : (method 256 23 (ptrV p) "Steps").run Try.prog w = .ok (12, ptrV c) w := by
  have e : (method 256 23 (ptrV p) "Steps").run Try.prog w = (do let x ← follow [ktoMeter] 28 (.var ⟨p, 0, none⟩); let r ← receiverAt x.1 x.2 true none; pure (12, r) : Sem (FuncId × Value)).run Try.prog w := by kernel_rfl
  have e1 : (follow [ktoMeter] 28 (.var ⟨p, 0, none⟩)).run Try.prog w = (do let v ← loadVar 28 ⟨p, 0, none⟩; follow [ktoMeter] 28 (.val v)).run Try.prog w := by kernel_rfl
  have e2 : (follow [ktoMeter] 28 (.val (ptrV c))).run Try.prog w = .ok (34, .var ⟨c, 0, none⟩) w := by kernel_rfl
  have e3 : (follow [ktoMeter] 28 (.var ⟨p, 0, none⟩)).run Try.prog w = .ok (34, .var ⟨c, 0, none⟩) w := by
    rw [e1, Sem.run_bind, kload_cells h, Result.andThen_ok]
    exact e2
  have e4 : (do let r ← receiverAt 34 (.var ⟨c, 0, none⟩) true none; pure (12, r) : Sem (FuncId × Value)).run Try.prog w = .ok (12, ptrV c) w := by kernel_rfl
  rw [e, Sem.run_bind, e3, Result.andThen_ok]
  exact e4
theorem skew_nests (p c : Nat) : Nests (fun W (g : KG) => Ob.skew p c W g.1 g.2) Prod.fst skewR (skewH p c) 23 (ptrV p) (skewF p c) where
  there := skew_there
  fit h := skew_fit h
  still W k y x q r g h := by unfold skewR skF; rw [if_neg (by omega), if_neg (by omega), if_neg (by omega), if_neg (by omega), if_neg (by omega)]
  entry x h := skew_ask h fun _ ho => entry_cl x ho
  home {W g w F} x h := skew_cells h (fun _ I => I) rfl fun _ ho => home_cl x ho
  has y h := skew_ask h fun _ ho => ksame_below (has_cl y ho)
  len y hy h := skew_ask h fun _ ho => ksame_below (len_cl y hy ho)
  cap h := skew_ask h fun _ ho => ksame_below (capacity_cl ho)
  steps h := skew_ask h fun _ ho => ksame_below (steps_cl ho)
  make {W g w F} h := (skew_cells h (W' := makeW W) (fun _ I => I.congr (by unfold makeW; split <;> rfl)) (by unfold makeW; split <;> rfl) fun _ ho => make_cl ho).mono fun e w' ⟨h1, h2⟩ => ⟨h1, g, fun _ _ _ _ => rfl, h2⟩
  ins {W g w F} y x k q _ _ h := (insert_sk y x k q h).mono fun e w' ⟨h1, h4⟩ => ⟨h1, skIns W y x k q g, rfl, h4⟩
  min {W g w F} y hy h := (min_sk y hy h).mono fun e w' ⟨h1, h2⟩ => ⟨h1, g, fun _ _ _ => rfl, F, by subst h2; exact ⟨h, Moved.refl _ _⟩⟩
  ext {W g w F} y hy h := (extract_sk y hy h).mono fun e w' ⟨h1, h4⟩ => ⟨h1, skExt W y g, fun _ _ _ => rfl, h4⟩
  dec {W g w F} x k q _ h := (decrease_sk x k q h).mono fun e w' ⟨h1, h4⟩ => ⟨h1, skDec W x k q g, fun _ => rfl, h4⟩
  del {W g w F} x _ h := (delete_sk x h).mono fun e w' ⟨h1, h4⟩ => ⟨h1, skDel W x g, fun _ _ _ => rfl, h4⟩
  meld {W g w F} a b _ _ h := (meld_sk a b h).mono fun e w' ⟨h1, h4⟩ => ⟨h1, skMeld W a b g, fun _ _ => rfl, h4⟩
  mCap := ⟨fun w h => km_prom h (by kernel_rfl), fun _ _ => by kernel_rfl⟩
  mMake := ⟨fun w h => km_prom h (by kernel_rfl), fun _ _ => by kernel_rfl⟩
  mIns := ⟨fun _ _ => by kernel_rfl, fun _ _ => by kernel_rfl⟩
  mMin := ⟨fun _ _ => by kernel_rfl, fun _ _ => by kernel_rfl⟩
  mExt := ⟨fun _ _ => by kernel_rfl, fun _ _ => by kernel_rfl⟩
  mDec := ⟨fun _ _ => by kernel_rfl, fun _ _ => by kernel_rfl⟩
  mDel := ⟨fun _ _ => by kernel_rfl, fun _ _ => by kernel_rfl⟩
  mMeld := ⟨fun _ _ => by kernel_rfl, fun _ _ => by kernel_rfl⟩
  mSteps := ⟨fun w h => km_steps h, fun _ _ => by kernel_rfl⟩
  mEntry := ⟨fun w h => km_prom h (by kernel_rfl), fun _ _ => by kernel_rfl⟩
  mHome := ⟨fun w h => km_prom h (by kernel_rfl), fun _ _ => by kernel_rfl⟩
  mHas := ⟨fun w h => km_prom h (by kernel_rfl), fun _ _ => by kernel_rfl⟩
  mLen := ⟨fun w h => km_prom h (by kernel_rfl), fun _ _ => by kernel_rfl⟩
end Go.Proofs.Ytehoejoeoaimjaa
