/- Arenas by name: what each call does to one; blocks that are no arena's; the statements' first walk. -/
import Derived.Test.YtahpalfdeghdmaaArena6
namespace Go.Proofs.Ytahpalfdeghdmaa
open Go.RowKit Go.Sort

/-- At p lies the arena A; its blocks are F, all from B on. -/
def AR (w : World) (B p : Nat) (F : Nat → Prop) (A : AS) : Prop := A.Fit ∧ ∃ uv wv, ArAt w B p uv wv A ∧ F = arF p uv wv
theorem AR.lt {w : World} {B p : Nat} {F : Nat → Prop} {A : AS} (h : AR w B p F A) : ∀ k, F k → B ≤ k ∧ k < w.heap.size := by
  obtain ⟨_, uv, wv, h, rfl⟩ := h; exact h.lt
theorem AR.fit {w : World} {B p : Nat} {F : Nat → Prop} {A : AS} (h : AR w B p F A) : A.Fit := h.1
theorem AR.later {w w' : World} {B p : Nat} {F : Nat → Prop} {A : AS} (h : AR w B p F A) (hb : Below w.heap.size w w') : AR w' B p F A := by
  obtain ⟨hA, uv, wv, h, rfl⟩ := h; exact ⟨hA, uv, wv, h.later hb, rfl⟩
theorem AR.keeps {G : Nat → Prop} {w w' : World} {B p : Nat} {F : Nat → Prop} {A : AS} (h : AR w B p F A) (k : Keeps G w w') (hn : ∀ b, F b → ¬ G b) : AR w' B p F A := by
  obtain ⟨hA, uv, wv, h, rfl⟩ := h; exact ⟨hA, uv, wv, h.keeps k hn, rfl⟩
theorem AR.alloc {w : World} {B p : Nat} {F : Nat → Prop} {A : AS} (h : AR w B p F A) (o : Obj) : AR (w.alloc o) B p F A := h.later ((Below.refl _ _).alloc (Nat.le_refl _) o)
theorem AR.drew {w : World} {B p : Nat} {F : Nat → Prop} {A : AS} (h : AR w B p F A) : AR w.drew B p F A := h.later (below_drewN (Below.refl _ _) 1)
/-- A block that is known whole and is none of an object's. -/
structure Box (F : Nat → Prop) (w : World) (b : Nat) (c : Array Value) (t : TypeId) : Prop where
  blk : Blk w b c t
  off : ¬ F b
theorem Box.moved {F F' : Nat → Prop} {w w' : World} {b : Nat} {c : Array Value} {t : TypeId} (h : Box F w b c t) (m : Moved F F' w w') : Box F' w' b c t :=
  ⟨m.keeps.blk h.blk h.off, fun hf => by
    rcases m.grow b hf with h1 | h1
    · exact h.off h1
    · have := blk_lt h.blk; omega⟩
theorem Box.later {F : Nat → Prop} {w w' : World} {b : Nat} {c : Array Value} {t : TypeId} (h : Box F w b c t) (hb : Below w.heap.size w w') : Box F w' b c t := ⟨later_blk hb h.blk, h.off⟩
theorem Box.alloc {F : Nat → Prop} {w : World} {b : Nat} {c : Array Value} {t : TypeId} (h : Box F w b c t) (o : Obj) : Box F (w.alloc o) b c t := ⟨blk_alloc h.blk o, h.off⟩
theorem Box.new {F : Nat → Prop} {w : World} (hF : ∀ k, F k → k < w.heap.size) (c : Array Value) (t : TypeId) : Box F (w.alloc (.cells c t)) w.heap.size c t :=
  ⟨blk_new w c t, fun hf => by have := hF _ hf; omega⟩
theorem Box.cell {F : Nat → Prop} {w : World} {b : Nat} {c : Array Value} {t : TypeId} (h : Box F w b c t) {o : Nat} {v : Value} (hv : c[o]? = some v) : w.cell? ⟨b, o, none⟩ = some v := blk_cell h.blk hv
theorem Moved.alloc {F F' : Nat → Prop} {a b : World} (h : Moved F F' a b) (o : Obj) : Moved F F' a (b.alloc o) := ⟨h.keeps.alloc o, h.grow⟩
theorem Moved.below_old {F F' : Nat → Prop} {B : Nat} {w w' : World} (h : Moved F F' w w') (hF : ∀ k, F k → B ≤ k ∧ k < w.heap.size) (hB : B ≤ w.heap.size) : Below B w w' := h.keeps.below hB (fun k hk => (hF k hk).1)

def NewPost (w : World) (B n m : Nat) (e : Ending) (w' : World) : Prop :=
  e = .returned (.tuple #[.pointer (some ⟨w.heap.size, 0, none⟩), .int .i64 0]) ∧ ∃ F, AR w' B w.heap.size F ⟨n, m, [], [], 0⟩ ∧ (∀ k, F k → w.heap.size ≤ k) ∧ Below w.heap.size w w'
theorem new_ar (B n m : Nat) (w : World) (hn : n ≤ 65536) (hm : 1 ≤ m ∧ m ≤ 4294967295) (hB : B ≤ w.heap.size) :
    Calls Try.prog 8 #[.int .i64 n, .int .u32 m] w (NewPost w B n m) :=
  (new_ok B n m w hn hm hB).mono fun _ _ ⟨he, h, hb⟩ => ⟨he, _, ⟨⟨hn, hm, by simp, by simp, by simp, by simp, by simp, by simp⟩, _, _, h, rfl⟩, by simp [arF, rowF, Value.ownBlock], hb⟩
def MovedPost (w : World) (B p : Nat) (F : Nat → Prop) (A' : AS) (v : Value) (e : Ending) (w' : World) : Prop :=
  e = .returned v ∧ ∃ F', AR w' B p F' A' ∧ Moved F F' w w'
theorem take_ar {B p : Nat} {F : Nat → Prop} {A A' : AS} {i g : Nat} (ht : takeA A = some (i, g, A')) {w : World} (h : AR w B p F A) :
    Calls Try.prog 12 #[.pointer (some ⟨p, 0, none⟩)] w (MovedPost w B p F A' (.tuple #[Hnd i g, .int .i64 0])) := by
  obtain ⟨hA, uv, wv, h, rfl⟩ := h
  refine (take_any B p uv wv A hA w h).mono fun e w' hp => ?_
  unfold TookPost at hp
  rw [ht] at hp
  obtain ⟨he, uv', wv', h', m⟩ := hp
  exact ⟨he, _, ⟨(take_fit hA ht).1, uv', wv', h', rfl⟩, m⟩
theorem take_none_ar {B p : Nat} {F : Nat → Prop} {A : AS} (ht : takeA A = none) {w : World} (h : AR w B p F A) :
    Calls Try.prog 12 #[.pointer (some ⟨p, 0, none⟩)] w fun e w' => e = .returned (.tuple #[Hnd 0 0, .int .i64 32]) ∧ Below w.heap.size w w' := by
  obtain ⟨hA, uv, wv, h, rfl⟩ := h
  refine (take_any B p uv wv A hA w h).mono fun e w' hp => ?_
  unfold TookPost at hp
  rw [ht] at hp
  exact hp
theorem give_ar {B p : Nat} {F : Nat → Prop} {A : AS} {i g : Nat} (hi : i < A.used.length) (hg : A.used.getD i (0, false) = (g, true)) {w : World} (h : AR w B p F A) :
    Calls Try.prog 10 #[.pointer (some ⟨p, 0, none⟩), .agg #[.int .i64 i, .int .u32 g]] w (MovedPost w B p F (giveA A i g) (.int .i64 0)) := by
  obtain ⟨hA, uv, wv, h, rfl⟩ := h
  exact (give_live B p uv wv A hA i g hi hg w h).mono fun e w' ⟨he, uv', wv', h', m⟩ => ⟨he, _, ⟨(give_fit hA hi hg).1, uv', wv', h', rfl⟩, m⟩
theorem stale_ar {B p : Nat} {F : Nat → Prop} {A : AS} {s g : Int} (hs : liveB A s g = false) {w : World} (h : AR w B p F A) :
    Calls Try.prog 10 #[.pointer (some ⟨p, 0, none⟩), .agg #[.int .i64 s, .int .u32 g]] w fun e w' => e = .returned (.int .i64 33) ∧ Below w.heap.size w w' := by
  obtain ⟨hA, uv, wv, h, rfl⟩ := h
  exact give_stale B p uv wv A hA s g hs w h
theorem live_ar {B p : Nat} {F : Nat → Prop} {A : AS} (s g : Int) {w : World} (h : AR w B p F A) :
    Calls Try.prog 17 #[.pointer (some ⟨p, 0, none⟩), .agg #[.int .i64 s, .int .u32 g]] w fun e w' => e = .returned (.bool (liveB A s g)) ∧ Below w.heap.size w w' := by
  obtain ⟨hA, uv, wv, h, rfl⟩ := h
  exact live_any B p uv wv A hA s g w h
theorem at_ar {B p : Nat} {F : Nat → Prop} {A : AS} (s : Int) {w : World} (h : AR w B p F A) :
    Calls Try.prog 16 #[.pointer (some ⟨p, 0, none⟩), .int .i64 s] w fun e w' => e = .returned (atV A s) ∧ Below w.heap.size w w' := by
  obtain ⟨hA, uv, wv, h, rfl⟩ := h
  exact at_any B p uv wv A hA s w h
theorem usable_ar {B p : Nat} {F : Nat → Prop} {A : AS} {w : World} (h : AR w B p F A) :
    Calls Try.prog 21 #[.pointer (some ⟨p, 0, none⟩)] w fun e w' => e = .returned (.int .i64 (usableN A)) ∧ Below w.heap.size w w' := by
  obtain ⟨hA, uv, wv, h, rfl⟩ := h
  exact usable_at h hA
theorem count_ar {B p : Nat} {F : Nat → Prop} {A : AS} {w : World} (h : AR w B p F A) :
    Calls Try.prog 19 #[.pointer (some ⟨p, 0, none⟩)] w fun e w' => e = .returned (.int .i64 A.live) ∧ w = w' := by
  obtain ⟨hA, uv, wv, h, rfl⟩ := h
  exact count_any p _ w h.c4
theorem capacity_ar {B p : Nat} {F : Nat → Prop} {A : AS} {w : World} (h : AR w B p F A) :
    Calls Try.prog 23 #[.pointer (some ⟨p, 0, none⟩)] w fun e w' => e = .returned (.int .i64 A.cap) ∧ w = w' := by
  obtain ⟨hA, uv, wv, h, rfl⟩ := h
  exact capacity_any p _ w h.c0

theorem alive_any (w : World) : Calls Try.prog 9 #[] w fun e w' => e = .returned (.bool true) ∧ Below w.heap.size w w' := by
  go_enter Try.func9, Try.ntmps9
  go_wp2_with fail
  refine (new_ar w.heap.size 1 2 w (by omega) (by omega) (Nat.le_refl _)).mono ?_
  rintro e w1 ⟨rfl, F, h, hF, hb⟩
  go_wp2_with fail
  refine (take_ar (A' := ⟨1, 2, [(1, true)], [], 1⟩) (i := 0) (g := 1) rfl h).mono ?_
  rintro e w2 ⟨rfl, F2, h2, m2⟩
  unfold Hnd
  replace hb := hb.trans (m2.below_old h.lt hb.size)
  have x1 := Box.new (fun k hk => (h2.lt k hk).2) #[.int .i64 0, .int .u32 1] 30
  replace h2 := h2.alloc (.cells #[.int .i64 0, .int .u32 1] 30)
  replace hb := hb.alloc hb.size (.cells #[.int .i64 0, .int .u32 1] 30)
  go_wp2_with fail
  refine (give_ar (i := 0) (g := 1) (by decide) rfl h2).mono ?_
  rintro e w3 ⟨rfl, F3, h3, m3⟩
  replace hb := hb.trans (m3.below_old h2.lt hb.size)
  replace x1 := x1.moved m3
  go_wp2_with fail
  refine (take_ar (A' := ⟨1, 2, [(2, true)], [], 1⟩) (i := 0) (g := 2) rfl h3).mono ?_
  rintro e w4 ⟨rfl, F4, h4, m4⟩
  unfold Hnd
  replace hb := hb.trans (m4.below_old h3.lt hb.size)
  replace x1 := (x1.moved m4).alloc (.cells #[.int .i64 0, .int .u32 2] 30)
  have x2 := Box.new (fun k hk => (h4.lt k hk).2) #[.int .i64 0, .int .u32 2] 30
  replace h4 := h4.alloc (.cells #[.int .i64 0, .int .u32 2] 30)
  replace hb := hb.alloc hb.size (.cells #[.int .i64 0, .int .u32 2] 30)
  go_wp2_with fail
  refine (give_ar (i := 0) (g := 2) (by decide) rfl h4).mono ?_
  rintro e w5 ⟨rfl, F5, h5, m5⟩
  replace hb := hb.trans (m5.below_old h4.lt hb.size)
  replace x1 := x1.moved m5
  replace x2 := x2.moved m5
  go_wp2_with fail
  refine (take_none_ar rfl h5).mono ?_
  rintro e w6 ⟨rfl, hb6⟩
  unfold Hnd
  replace hb := hb.trans (hb6.mono hb.size)
  replace x1 := x1.later hb6
  replace x2 := x2.later hb6
  have l1 := blk_lt x1.blk
  have l2 := blk_lt x2.blk
  have a0 := x1.cell (o := 0) (v := .int .i64 0) rfl
  have a1 := x1.cell (o := 1) (v := .int .u32 1) rfl
  have b0 := x2.cell (o := 0) (v := .int .i64 0) rfl
  have b1 := x2.cell (o := 1) (v := .int .u32 2) rfl
  clear x1 x2 h h2 h3 h4 h5 m2 m3 m4 m5 hb6
  go_wp2
  go_ret
  exact ⟨rfl, hb.alloc hb.size _⟩
end Go.Proofs.Ytahpalfdeghdmaa
