/- Arenas in memory, and what the arena's calls that only ask answer. -/
import Derived.Test.YtahpalfdeghdmaaOwn
import Derived.Test.YtahpalfdeghdmaaArenaMath
import Derived.Test.YtahpalfdeghdmaaChecked
import Derived.WalkLawsBesides
import Derived.WalkSpells
import Derived.IntWalk
import Derived.Laws.StructEq
import Derived.StillTailTactics
namespace Go.Proofs.Ytahpalfdeghdmaa
open Go.RowKit Go.Sort

def cellsU (l : List (Nat × Bool)) : List Value := l.flatMap fun p => [.int .u32 p.1, .bool p.2]
def cellsN (l : List Nat) : List Value := l.map fun n : Nat => .int .i64 n
theorem cellsU_append (a b : List (Nat × Bool)) : cellsU (a ++ b) = cellsU a ++ cellsU b := by simp [cellsU]
theorem cellsU_length (l : List (Nat × Bool)) : (cellsU l).length = l.length * 2 := by
  induction l with
  | nil => rfl
  | cons p r ih => simp [cellsU] at ih ⊢; omega
theorem cellsU_get (l : List (Nat × Bool)) (i : Nat) (h : i < l.length) : (cellsU l)[i * 2]? = some (.int .u32 (l.getD i (0, false)).1) ∧ (cellsU l)[i * 2 + 1]? = some (.bool (l.getD i (0, false)).2) := by
  induction l generalizing i with
  | nil => simp at h
  | cons p r ih =>
    cases i with
    | zero => simp [cellsU]
    | succ i =>
      have := ih i (by simpa using h)
      have e : (i + 1) * 2 = i * 2 + 2 := by omega
      have e2 : (i + 1) * 2 + 1 = i * 2 + 1 + 2 := by omega
      rw [e2, e]
      simpa [cellsU] using this
theorem cellsU_set (l : List (Nat × Bool)) (i g : Nat) (b : Bool) : ((cellsU l).set (i * 2) (.int .u32 g)).set (i * 2 + 1) (.bool b) = cellsU (l.set i (g, b)) := by
  induction l generalizing i with
  | nil => simp [cellsU]
  | cons p r ih =>
    cases i with
    | zero => simp [cellsU]
    | succ i =>
      have := ih i
      have e : (i + 1) * 2 = i * 2 + 2 := by omega
      have e2 : (i + 1) * 2 + 1 = i * 2 + 1 + 2 := by omega
      rw [e2, e]
      simpa [cellsU] using this
theorem cellsU_set1 (l : List (Nat × Bool)) (i : Nat) (b : Bool) : (cellsU l).set (i * 2 + 1) (.bool b) = cellsU (l.set i ((l.getD i (0, false)).1, b)) := by
  induction l generalizing i with
  | nil => simp [cellsU]
  | cons p r ih =>
    cases i with
    | zero => simp [cellsU]
    | succ i =>
      have := ih i
      have e2 : (i + 1) * 2 + 1 = i * 2 + 1 + 2 := by omega
      rw [e2]
      simpa [cellsU] using this

/-- The arena A lies at block p; its rows are uv and wv. -/
structure ArAt (w : World) (B p : Nat) (uv wv : Value) (A : AS) : Prop where
  blk : Blk w p #[.int .i64 A.cap, .int .u32 A.most, uv, wv, .int .i64 A.live] 59
  used : w.ownsRow B 61 2 uv A.used.length (cellsU A.used)
  wait : w.ownsRow B 3 1 wv A.waiting.length (cellsN A.waiting)
  base : B ≤ p
  apart : ∀ k, rowF uv k → k ≠ p ∧ ¬ rowF wv k
  apart' : ∀ k, rowF wv k → k ≠ p
def arF (p : Nat) (uv wv : Value) : Nat → Prop := fun k => k = p ∨ rowF uv k ∨ rowF wv k
theorem ArAt.lt {w : World} {B p : Nat} {uv wv : Value} {A : AS} (h : ArAt w B p uv wv A) : ∀ k, arF p uv wv k → B ≤ k ∧ k < w.heap.size := by
  rintro k (rfl | hk | hk)
  · exact ⟨h.base, blk_lt h.blk⟩
  · exact h.used.lt k hk
  · exact h.wait.lt k hk
theorem ArAt.keeps {G : Nat → Prop} {w w' : World} {B p : Nat} {uv wv : Value} {A : AS} (h : ArAt w B p uv wv A) (k : Keeps G w w') (hn : ∀ b, arF p uv wv b → ¬ G b) : ArAt w' B p uv wv A :=
  ⟨k.blk h.blk (hn p (Or.inl rfl)), owns_keeps h.used k (fun b hb => hn b (Or.inr (Or.inl hb))), owns_keeps h.wait k (fun b hb => hn b (Or.inr (Or.inr hb))), h.base, h.apart, h.apart'⟩
theorem ArAt.later {w w' : World} {B p : Nat} {uv wv : Value} {A : AS} (h : ArAt w B p uv wv A) (hb : Below w.heap.size w w') : ArAt w' B p uv wv A :=
  h.keeps (Keeps.of_below_all hb (fun _ => False)) (fun _ _ x => x)

theorem ArAt.c0 {w : World} {B p : Nat} {uv wv : Value} {A : AS} (h : ArAt w B p uv wv A) : w.cell? ⟨p, 0, none⟩ = some (.int .i64 A.cap) := blk_cell h.blk rfl
theorem ArAt.c1 {w : World} {B p : Nat} {uv wv : Value} {A : AS} (h : ArAt w B p uv wv A) : w.cell? ⟨p, 1, none⟩ = some (.int .u32 A.most) := blk_cell h.blk rfl
theorem ArAt.c2 {w : World} {B p : Nat} {uv wv : Value} {A : AS} (h : ArAt w B p uv wv A) : w.cell? ⟨p, 2, none⟩ = some uv := blk_cell h.blk rfl
theorem ArAt.c3 {w : World} {B p : Nat} {uv wv : Value} {A : AS} (h : ArAt w B p uv wv A) : w.cell? ⟨p, 3, none⟩ = some wv := blk_cell h.blk rfl
theorem ArAt.c4 {w : World} {B p : Nat} {uv wv : Value} {A : AS} (h : ArAt w B p uv wv A) : w.cell? ⟨p, 4, none⟩ = some (.int .i64 A.live) := blk_cell h.blk rfl
theorem ArAt.free {w : World} {B p : Nat} {uv wv : Value} {A : AS} (h : ArAt w B p uv wv A) (o : Nat) : w.frozen? ⟨p, o, none⟩ = false := blk_free h.blk o

theorem has_any (p n cap : Nat) (a : Option Addr) (s : Int) (w : World) (hc : w.cell? ⟨p, 2, none⟩ = some (.slice a n cap)) :
    Calls Try.prog 29 #[.pointer (some ⟨p, 0, none⟩), .int .i64 s] w fun e w' => e = .returned (.bool (hasB s n)) ∧ w = w' := by
  go_enter Try.func29, Try.ntmps29
  go_wp2
  all_goals
    go_ret
    exact ⟨ret_bool (by rw [Bool.eq_iff_iff]; simp_all [hasB]; try omega), rfl⟩

theorem ArAt.alloc {w : World} {B p : Nat} {uv wv : Value} {A : AS} (h : ArAt w B p uv wv A) (o : Obj) : ArAt (w.alloc o) B p uv wv A := h.later ((Below.refl _ _).alloc (Nat.le_refl _) o)
theorem ArAt.drewN {w : World} {B p : Nat} {uv wv : Value} {A : AS} (h : ArAt w B p uv wv A) (n : Nat) : ArAt (w.drewN n) B p uv wv A := h.later (below_drewN (Below.refl _ _) n)
theorem has_at {w : World} {B p : Nat} {uv wv : Value} {A : AS} (h : ArAt w B p uv wv A) (s : Int) :
    Calls Try.prog 29 #[.pointer (some ⟨p, 0, none⟩), .int .i64 s] w fun e w' => e = .returned (.bool (hasB s A.used.length)) ∧ w = w' := by
  obtain ⟨a, c, hv, hc, hm⟩ := owns_form h.used
  exact has_any p _ c a s w (by rw [h.c2, hv])

theorem count_any (p : Nat) (n : Int) (w : World) (hc : w.cell? ⟨p, 4, none⟩ = some (.int .i64 n)) :
    Calls Try.prog 19 #[.pointer (some ⟨p, 0, none⟩)] w fun e w' => e = .returned (.int .i64 n) ∧ w = w' := by
  go_enter Try.func19, Try.ntmps19
  go_wp2
  go_ret
  exact ⟨rfl, rfl⟩

theorem capacity_any (p : Nat) (n : Int) (w : World) (hc : w.cell? ⟨p, 0, none⟩ = some (.int .i64 n)) :
    Calls Try.prog 23 #[.pointer (some ⟨p, 0, none⟩)] w fun e w' => e = .returned (.int .i64 n) ∧ w = w' := by
  go_enter Try.func23, Try.ntmps23
  go_wp2
  go_ret
  exact ⟨rfl, rfl⟩

theorem usable_any (p m c1 n c2 cap : Nat) (a b : Option Addr) (hm : m ≤ 65536) (hn : n ≤ 65536) (hk : cap ≤ 65536) (w : World) (h0 : w.cell? ⟨p, 0, none⟩ = some (.int .i64 cap)) (h2 : w.cell? ⟨p, 2, none⟩ = some (.slice a n c1)) (h3 : w.cell? ⟨p, 3, none⟩ = some (.slice b m c2)) :
    Calls Try.prog 21 #[.pointer (some ⟨p, 0, none⟩)] w fun e w' => e = .returned (.int .i64 ((m : Int) + cap - n)) ∧ Below w.heap.size w w' := by
  have e1 : IntKind.i64.wrap ((m : Int) + cap) = (m : Int) + cap := IntWalk.i64_in _ (by omega)
  have e2 : IntKind.i64.wrap ((m : Int) + cap - n) = (m : Int) + cap - n := IntWalk.i64_in _ (by omega)
  go_enter Try.func21, Try.ntmps21
  go_wp2
  go_quiet (fail)
  go_wp2
  go_ret
  exact ⟨rfl, below_drewN (Below.refl _ _) _⟩
theorem usable_at {w : World} {B p : Nat} {uv wv : Value} {A : AS} (h : ArAt w B p uv wv A) (hA : A.Fit) :
    Calls Try.prog 21 #[.pointer (some ⟨p, 0, none⟩)] w fun e w' => e = .returned (.int .i64 (usableN A)) ∧ Below w.heap.size w w' := by
  obtain ⟨a, c, hv, _⟩ := owns_form h.used
  obtain ⟨b, d, hv2, _⟩ := owns_form h.wait
  have h1 := hA.wait
  have h2 := hA.used
  have h3 := hA.cap
  have e : ((A.waiting.length : Int) + A.cap - A.used.length) = (usableN A : Nat) := by unfold usableN; omega
  have := usable_any p A.waiting.length c A.used.length d A.cap a b (by omega) (by omega) h3 w h.c0 (by rw [h.c2, hv]) (by rw [h.c3, hv2])
  rw [e] at this
  exact this
end Go.Proofs.Ytahpalfdeghdmaa
