/- Merged of SiftNum, Own, Box. -/
import Derived.Test.YtlbbgdpdaelcdaaLaw
import Derived.Test.YtlbbgdpdaelcdaaSiftRunsMath
import Derived.Test.YtlbbgdpdaelcdaaChecked
import Derived.WalkLawsBesides
import Derived.IntWalk
import Derived.WalkSpells
import Derived.Laws.OwnMore
import Derived.WalkSmall
namespace Go.Proofs.Ytlbbgdpdaelcdaa
open Go.RowKit Go.Sort

theorem isdeg_c (d : Int) (w : World) : Calls Try.prog 56 #[.int .i64 d] w fun e w' => e = .returned (.bool (rightD d)) ∧ w = w' := by
  go_enter Try.func56, Try.ntmps56
  go_wp2
  all_goals
    go_ret
    exact ⟨ret_bool (by rw [Bool.eq_iff_iff]; simp_all [rightD]; try omega), rfl⟩
theorem par_facts {d i : Int} (hr : rightD d = true) (h : 1 ≤ i) (hi : i ≤ 9223372036854775807) : IntKind.i64.wrap (i - 1) = i - 1 ∧ (i - 1).tdiv d = (i - 1) / d ∧ (d == 0) = false ∧ IntKind.i64.wrap ((i - 1) / d) = (i - 1) / d ∧ ¬ d = 0 := by
  obtain ⟨h1, h2⟩ := rightD_iff.1 hr
  have e1 : (i - 1).tdiv d = (i - 1) / d := Int.tdiv_eq_ediv_of_nonneg (by omega)
  have h3 : 0 ≤ (i - 1) / d := Int.ediv_nonneg (by omega) (by omega)
  have h4 : (i - 1) / d ≤ i - 1 := Int.ediv_le_self _ (by omega)
  exact ⟨IntWalk.i64_in _ (by omega), e1, by simp; omega, IntWalk.i64_in _ (by omega), by omega⟩
section
variable (d i : Int) (w : World) (hi : i ≤ 9223372036854775807)
include hi
theorem parent_c : Calls Try.prog 57 #[.int .i64 d, .int .i64 i] w fun e w' => e = .returned (.tuple #[.int .i64 (parD d i).1, .bool (parD d i).2]) ∧ w = w' := by
  have hR := isdeg_c d
  unfold parD
  cases hr : rightD d
  · rw [if_neg (by simp)]
    rw [hr] at hR
    go_enter Try.func57, Try.ntmps57
    go_wp2_with fail
    refine (hR _).mono ?_
    rintro e w1 ⟨rfl, rfl⟩
    go_wp2_with fail
    go_ret2
    exact ⟨rfl, rfl⟩
  · rw [hr] at hR
    by_cases h : 1 ≤ i
    · obtain ⟨e1, e2, e3, e4, e5⟩ := par_facts hr h hi
      rw [if_pos ⟨rfl, h⟩]
      have h' : ¬ i < 1 := by omega
      generalize (i - 1) / d = q at *
      go_enter Try.func57, Try.ntmps57
      go_wp2_with fail
      refine (hR _).mono ?_
      rintro e w1 ⟨rfl, rfl⟩
      go_wp2_with fail
      go_ret2
      exact ⟨rfl, rfl⟩
    · rw [if_neg (fun x => h x.2)]
      have h' : i < 1 := by omega
      go_enter Try.func57, Try.ntmps57
      go_wp2_with fail
      refine (hR _).mono ?_
      rintro e w1 ⟨rfl, rfl⟩
      go_wp2_with fail
      go_ret2
      exact ⟨rfl, rfl⟩
end
theorem child_facts {d i k : Int} (hr : rightD d = true) (h0 : 0 ≤ i) (h1 : i ≤ 1099511627776) (h2 : 1 ≤ k) (h3 : k ≤ d) :
    IntKind.i64.wrap (d * i) = i * d ∧ IntKind.i64.wrap (i * d) = i * d ∧ IntKind.i64.wrap (i * d + k) = i * d + k ∧ ¬ i < 0 ∧ ¬ 1099511627776 < i ∧ ¬ k < 1 ∧ ¬ d < k := by
  obtain ⟨h4, h5⟩ := rightD_iff.1 hr
  have h6 : 0 ≤ i * d := Int.mul_nonneg h0 (by omega)
  have h7 : i * d ≤ 1099511627776 * 16 := Int.mul_le_mul h1 h5 (by omega) (by omega)
  exact ⟨by rw [Int.mul_comm]; exact IntWalk.i64_in _ (by omega), IntWalk.i64_in _ (by omega), IntWalk.i64_in _ (by omega), by omega, by omega, by omega, by omega⟩
section
variable (d i k : Int) (w : World)
theorem child_c : Calls Try.prog 104 #[.int .i64 d, .int .i64 i, .int .i64 k] w fun e w' => e = .returned (.tuple #[.int .i64 (childD d i k).1, .bool (childD d i k).2]) ∧ w = w' := by
  have hR := isdeg_c d
  by_cases hc : rightD d = true ∧ 0 ≤ i ∧ i ≤ 1099511627776 ∧ 1 ≤ k ∧ k ≤ d
  · obtain ⟨e1, _, e3, e4, e5, e6, e7⟩ := child_facts hc.1 hc.2.1 hc.2.2.1 hc.2.2.2.1 hc.2.2.2.2
    have e : childD d i k = (i * d + k, true) := by unfold childD; rw [if_pos hc]
    rw [e]
    rw [hc.1] at hR
    clear hc e
    obtain ⟨m, hm⟩ : ∃ m, m = i * d := ⟨_, rfl⟩
    rw [← hm] at e1 e3 ⊢
    clear hm
    go_enter Try.func104, Try.ntmps104
    go_wp2_with fail
    refine (hR _).mono ?_
    rintro e w1 ⟨rfl, rfl⟩
    go_wp2_with fail
    go_ret2
    exact ⟨rfl, rfl⟩
  · have e : childD d i k = (0, false) := by unfold childD; rw [if_neg hc]
    rw [e]
    clear e
    cases hr : rightD d
    · rw [hr] at hR
      clear hc
      go_enter Try.func104, Try.ntmps104
      go_wp2_with fail
      refine (hR _).mono ?_
      rintro e w1 ⟨rfl, rfl⟩
      go_wp2_with fail
      go_ret2
      exact ⟨rfl, rfl⟩
    · rw [hr] at hR hc
      have hd : i < 0 ∨ 1099511627776 < i ∨ k < 1 ∨ d < k := by simp at hc; omega
      clear hc
      have hd1 : i < 0 ∨ ¬ i < 0 ∧ 1099511627776 < i ∨ (¬ i < 0 ∧ ¬ 1099511627776 < i ∧ k < 1) ∨ (¬ i < 0 ∧ ¬ 1099511627776 < i ∧ ¬ k < 1 ∧ d < k) := by omega
      clear hd
      rcases hd1 with h | ⟨h1, h⟩ | ⟨h1, h2, h⟩ | ⟨h1, h2, h3, h⟩ <;>
      · go_enter Try.func104, Try.ntmps104
        go_wp2_with fail
        refine (hR _).mono ?_
        rintro e w1 ⟨rfl, rfl⟩
        go_wp2_with fail
        go_ret2
        exact ⟨rfl, rfl⟩
end
theorem depth_le {d : Nat} (hd : 1 ≤ d) (i : Nat) : depthI d i ≤ i := by
  induction i using Nat.strongRecOn with
  | _ i ih =>
    by_cases h : 0 < i
    · have h1 := par_lt hd h
      have h2 := ih _ h1
      rw [depth_par hd h]
      omega
    · rw [show i = 0 by omega, depth_zero]
      omega
set_option maxRecDepth 100000 in
/-- 'Depth': the program's. -/
theorem depth_c (d n : Int) (w : World) : Calls Try.prog 33 #[.int .i64 d, .int .i64 n] w fun e w' => e = .returned (.int .i64 (depthD d n)) ∧ w = w' := by
  have hP := fun i hi w => parent_c d i w hi
  by_cases h1 : n < 2
  · have e : depthD d n = 0 := by unfold depthD; rw [if_neg (by omega)]
    rw [e]
    go_enter Try.func33, Try.ntmps33
    go_wp2_with fail
    go_ret
    exact ⟨rfl, rfl⟩
  by_cases h2 : 1099511627776 < n
  · have e : depthD d n = 0 := by unfold depthD; rw [if_neg (by omega)]
    rw [e]
    go_enter Try.func33, Try.ntmps33
    go_wp2_with fail
    go_ret
    exact ⟨rfl, rfl⟩
  have e1 : IntKind.i64.wrap (n - 1) = n - 1 := IntWalk.i64_in _ (by omega)
  cases hr : rightD d
  · have e : depthD d n = 0 := by unfold depthD; rw [if_neg (by simp [hr])]
    have e2 : parD d (n - 1) = (0, false) := by unfold parD; rw [if_neg (by simp [hr])]
    have hP1 := hP (n - 1) (by omega) w
    rw [e2] at hP1
    rw [e]
    clear hP e e2
    go_enter Try.func33, Try.ntmps33
    go_wp2_with fail
    refine hP1.mono ?_
    rintro e w1 ⟨rfl, rfl⟩
    clear hP1
    go_wp2_with fail
    go_loop [5, 6, 7] (fun c _ b => c = .int .i64 0 ∧ b = .bool false) (fun _ _ _ => 0)
    case atStart => exact ⟨rfl, rfl⟩
    case round =>
      obtain ⟨rfl, rfl⟩ := hrel
      go_wp2_with fail
      go_ret
      exact ⟨rfl, rfl⟩
  · obtain ⟨hd1, hd2⟩ := rightD_iff.1 hr
    obtain ⟨dn, rfl⟩ : ∃ dn : Nat, d = dn := ⟨d.toNat, by omega⟩
    obtain ⟨m, hm⟩ : ∃ m : Nat, n - 1 = m := ⟨(n - 1).toNat, by omega⟩
    have e : depthD (dn : Int) n = depthI dn m := by
      unfold depthD
      rw [if_pos ⟨hr, by omega, by omega⟩]
      congr 2 <;> omega
    rw [e]
    rw [hm] at e1
    obtain ⟨t, ht⟩ : ∃ t, t = depthI dn m := ⟨_, rfl⟩
    rw [← ht]
    have hm2 : m ≤ 1099511627776 := by omega
    have hPn : ∀ q : Nat, q ≤ m → ∀ w, _ := fun q hq w => hP (q : Int) (by omega) w
    have htm : t ≤ 1099511627776 := by rw [ht]; exact Nat.le_trans (depth_le (by omega) m) hm2
    have hPm := hPn m (Nat.le_refl _) w
    clear hP e hr
    go_enter Try.func33, Try.ntmps33
    go_wp2_with fail
    refine hPm.mono ?_
    rintro e w1 ⟨rfl, rfl⟩
    clear hPm
    go_wp2_with fail
    go_loop [5, 6, 7] (fun c i b => ∃ q k : Nat, c = .int .i64 k ∧ i = .int .i64 (parD dn q).1 ∧ b = .bool (parD dn q).2 ∧ k + depthI dn q = t ∧ q ≤ m) (fun _ i b => match b with | .bool true => (intOf i).toNat + 1 | _ => 0)
    case atStart => exact ⟨m, 0, rfl, rfl, rfl, by omega, Nat.le_refl _⟩
    case round =>
      obtain ⟨q, k, rfl, rfl, rfl, hk, hq⟩ := hrel
      by_cases h0 : 0 < q
      · have hpl := par_lt (d := dn) (by omega) h0
        have hdp := depth_par (d := dn) (by omega) h0
        rw [parD_nat (by omega) (by omega) h0]
        have hPq := hPn (par dn q) (by omega) w
        have e3 : IntKind.i64.wrap ((k : Int) + 1) = ((k + 1 : Nat) : Int) := IntWalk.i64_in _ (by omega)
        clear hPn
        go_wp2_with fail
        refine hPq.mono ?_
        rintro e w1 ⟨rfl, rfl⟩
        go_wp2_with fail
        go_round
        case rel => exact ⟨par dn q, k + 1, rfl, rfl, rfl, by omega, by omega⟩
        case measure =>
          by_cases h1 : 0 < par dn q
          · have h2 := par_lt (d := dn) (by omega) h1
            rw [parD_nat (by omega) (by omega) h1]
            simp [intOf]
            omega
          · have e5 : parD (dn : Int) ((par dn q : Nat) : Int) = (0, false) := by unfold parD; rw [if_neg (by omega)]
            rw [e5]
            exact Nat.succ_pos _
      · have e4 : parD (dn : Int) (q : Int) = (0, false) := by unfold parD; rw [if_neg (by omega)]
        rw [e4]
        have h00 : q = 0 := by omega
        rw [h00, depth_zero] at hk
        have hkt : k = t := by omega
        subst hkt
        clear hPn hk ht h00 e4
        go_wp2_with fail
        go_ret
        exact ⟨rfl, rfl⟩
end Go.Proofs.Ytlbbgdpdaelcdaa

namespace Go.Proofs.Ytlbbgdpdaelcdaa
open Go.RowKit Go.Sort

/-- A call on an object whose blocks are F: nothing else that was there has turned; its blocks are now F', old ones of its own or new. -/
structure Moved (F F' : Nat → Prop) (w w' : World) : Prop where
  keeps : Keeps F w w'
  grow : ∀ k, F' k → F k ∨ w.heap.size ≤ k
theorem Moved.refl (F : Nat → Prop) (w : World) : Moved F F w w := ⟨Keeps.refl _ _, fun _ h => Or.inl h⟩
theorem Moved.trans {F G H : Nat → Prop} {a b c : World} (h : Moved F G a b) (k : Moved G H b c) : Moved F H a c :=
  ⟨h.keeps.trans k.keeps (fun i hi hg => by rcases h.grow i hg with h1 | h1; exact h1; omega),
   fun i hi => by
    rcases k.grow i hi with h1 | h1
    · exact h.grow i h1
    · exact Or.inr (Nat.le_trans h.keeps.size h1)⟩
theorem Moved.of_below {F : Nat → Prop} {a b : World} (h : Below a.heap.size a b) : Moved F F a b := ⟨Keeps.of_below_all h F, fun _ h => Or.inl h⟩
/-- What lies below all of an object's blocks is as it was. -/
theorem Moved.below {F F' : Nat → Prop} {w w' : World} (h : Moved F F' w w') {B : Nat} (hB : B ≤ w.heap.size) (hF : ∀ k, F k → B ≤ k) : Below B w w' := h.keeps.below hB hF
/-- Two objects that share no block share none behind a call on one of them. -/
theorem Moved.apart {F F' G : Nat → Prop} {w w' : World} (h : Moved F F' w w') (hG : ∀ k, G k → k < w.heap.size) (hd : ∀ k, F k → ¬ G k) : ∀ k, F' k → ¬ G k := by
  intro k hk hg
  rcases h.grow k hk with h1 | h1
  · exact hd k h1 hg
  · have := hG k hg; omega

/-- The blocks of a row. -/
def rowF (v : Value) : Nat → Prop := fun k => v.ownBlock = some k
/-- An owned row under a call that has turned other blocks alone. -/
theorem owns_keeps {F : Nat → Prop} {w w' : World} {base : Nat} {e : TypeId} {size : Nat} {v : Value} {n : Nat} {xs : List Value} (h : w.ownsRow base e size v n xs) (k : Keeps F w w') (hn : ∀ b, rowF v b → ¬ F b) : w'.ownsRow base e size v n xs := owns_keep h k hn
theorem owns_same {w w' : World} (hh : w'.heap = w.heap) {base : Nat} {e : TypeId} {size : Nat} {v : Value} {n : Nat} {xs : List Value} (h : w.ownsRow base e size v n xs) : w'.ownsRow base e size v n xs := by
  unfold World.ownsRow at *; rw [hh]; exact h
theorem owns_set_other {w : World} {base : Nat} {e : TypeId} {size : Nat} {v : Value} {n : Nat} {xs : List Value} (h : w.ownsRow base e size v n xs) {a : Addr} (ha : v.ownBlock ≠ some a.block) (u : Value) : (w.setCell a u).ownsRow base e size v n xs :=
  owns_keep h (Keeps.setCell (Keeps.refl (· = a.block) w) a (Or.inl rfl) u) (fun b hb e => ha (by rw [hb, e]))
/-- A row's value is a slice of that length. -/
theorem owns_form {w : World} {base : Nat} {e : TypeId} {size : Nat} {v : Value} {n : Nat} {xs : List Value} (h : w.ownsRow base e size v n xs) : ∃ a cap, v = .slice a n cap ∧ n ≤ cap ∧ cap ≤ maxLen := by
  obtain ⟨_, ⟨rfl, rfl⟩ | ⟨g, cap, cur, hv, hg, hh, hle, hmax, _⟩⟩ := h
  · exact ⟨none, 0, rfl, Nat.le_refl _, by decide⟩
  · exact ⟨_, cap, hv, hle, hmax⟩
theorem grown_keeps {w w' : World} {v : Value} (h : w.grownBy w' v.ownBlock) : Keeps (rowF v) w w' := ⟨h.os, h.tape, h.output, h.size, fun k hk hn => h.block k hk (fun e => hn e.symm)⟩
theorem new_cells' (w : World) (c : Array Value) (t : TypeId) (news : List Value) (H : Nat) (hH : w.heap.size = H) (h : news = c.toList) : ∀ j u, news[j]? = some u → (w.alloc (.cells c t)).cell? ((⟨H, 0, none⟩ : Addr).add j) = some u := by
  subst hH; exact new_cells w c t news h
theorem size_alloc (w : World) (o : Obj) : (w.alloc o).heap.size = w.heap.size + 1 := by show (w.heap.push _).size = _; simp
end Go.Proofs.Ytlbbgdpdaelcdaa

namespace Go.Proofs.Ytlbbgdpdaelcdaa
open Go.RowKit Go.Sort

/-- A block that is known whole and is none of an object's. -/
structure Box (F : Nat → Prop) (w : World) (b : Nat) (c : Array Value) (t : TypeId) : Prop where
  blk : Blk w b c t
  off : ¬ F b
theorem Box.moved {F F' : Nat → Prop} {w w' : World} {b : Nat} {c : Array Value} {t : TypeId} (h : Box F w b c t) (m : Moved F F' w w') : Box F' w' b c t :=
  ⟨m.keeps.blk h.blk h.off, fun hf => by
    rcases m.grow b hf with h1 | h1
    · exact h.off h1
    · have := blk_lt h.blk; omega⟩
theorem Box.later {F : Nat → Prop} {w w' : World} {b : Nat} {c : Array Value} {t : TypeId} (h : Box F w b c t) (hb : Below w.heap.size w w') : Box F w' b c t := ⟨later_blk hb h.blk, h.off⟩
theorem Box.alloc {F : Nat → Prop} {w : World} {b : Nat} {c : Array Value} {t : TypeId} (h : Box F w b c t) (o : Obj) : Box F (w.alloc o) b c t := ⟨blk_alloc h.blk o, h.off⟩
theorem Box.new {F : Nat → Prop} {w : World} (hF : ∀ k, F k → k < w.heap.size) (c : Array Value) (t : TypeId) : Box F (w.alloc (.cells c t)) w.heap.size c t :=
  ⟨blk_new w c t, fun hf => by have := hF _ hf; omega⟩
theorem Box.cell {F : Nat → Prop} {w : World} {b : Nat} {c : Array Value} {t : TypeId} (h : Box F w b c t) {o : Nat} {v : Value} (hv : c[o]? = some v) : w.cell? ⟨b, o, none⟩ = some v := blk_cell h.blk hv
theorem Moved.alloc {F F' : Nat → Prop} {a b : World} (h : Moved F F' a b) (o : Obj) : Moved F F' a (b.alloc o) := ⟨h.keeps.alloc o, h.grow⟩
theorem Moved.below_old {F F' : Nat → Prop} {B : Nat} {w w' : World} (h : Moved F F' w w') (hF : ∀ k, F k → B ≤ k ∧ k < w.heap.size) (hB : B ≤ w.heap.size) : Below B w w' := h.keeps.below hB (fun k hk => (hF k hk).1)
end Go.Proofs.Ytlbbgdpdaelcdaa
