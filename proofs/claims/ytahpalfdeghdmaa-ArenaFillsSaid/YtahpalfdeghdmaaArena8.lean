/- The statements ArenaNames and ArenaWrong, walked: the call returns true, in every memory; of what was in memory nothing is changed. -/
import Derived.Test.YtahpalfdeghdmaaArena7
namespace Go.Proofs.Ytahpalfdeghdmaa
open Go.RowKit Go.Sort

theorem names_walk (w : World) : Calls Try.prog 3 #[] w fun e w' => e = .returned (.bool true) ∧ Below w.heap.size w w' := by
  go_enter Try.func3, Try.ntmps3
  go_wp2_with fail
  refine (new_any (-1) 1 _ (by omega)).mono ?_
  rintro e w1 ⟨rfl, rfl⟩
  go_wp2_with fail
  refine (new_any 1 0 _ (by omega)).mono ?_
  rintro e w1 ⟨rfl, rfl⟩
  go_wp2_with fail
  refine (new_any 65537 1 _ (by omega)).mono ?_
  rintro e w1 ⟨rfl, rfl⟩
  go_wp2_with fail
  refine (new_ar w.heap.size 0 1 w (by omega) (by omega) (Nat.le_refl _)).mono ?_
  rintro e w1 ⟨rfl, F, h, hF, hb⟩
  go_wp2_with fail
  refine (alive_any _).mono ?_
  rintro e w2 ⟨rfl, hb2⟩
  replace h := h.later hb2
  replace hb := below_chain hb hb2
  go_wp2_with fail
  refine (stale_ar (s := 0) (g := 0) rfl h).mono ?_
  rintro e w3 ⟨rfl, hb3⟩
  replace hb := below_chain hb hb3
  clear h hF hb2 hb3
  go_wp2
  go_ret
  exact ⟨rfl, hb⟩

def tookS (A : AS) : Int := match takeA A with | some (i, _, _) => i | none => 0
def tookG (A : AS) : Int := match takeA A with | some (_, g, _) => g | none => 0
def tookE (A : AS) : Int := match takeA A with | some _ => 0 | none => 32
def afterT (A : AS) : AS := match takeA A with | some (_, _, A') => A' | none => A
/-- Take, of whatever arena, in one. -/
theorem took_ar {B p : Nat} {F : Nat → Prop} {A : AS} {w : World} (h : AR w B p F A) :
    Calls Try.prog 12 #[.pointer (some ⟨p, 0, none⟩)] w (MovedPost w B p F (afterT A) (.tuple #[.agg #[.int .i64 (tookS A), .int .u32 (tookG A)], .int .i64 (tookE A)])) := by
  cases ht : takeA A with
  | none =>
    have h1 := take_none_ar ht h
    refine h1.mono fun e w' ⟨he, hb⟩ => ⟨?_, F, ?_, Moved.of_below hb⟩
    · rw [he]; simp [tookS, tookG, tookE, ht, Hnd]
    · simp only [afterT, ht]; exact h.later hb
  | some x =>
    obtain ⟨i, g, A'⟩ := x
    have h1 := take_ar ht h
    refine h1.mono fun e w' ⟨he, F', h', m⟩ => ⟨?_, F', ?_, m⟩
    · rw [he]; simp [tookS, tookG, tookE, ht, Hnd]
    · simp only [afterT, ht]; exact h'
def afterG (A : AS) (s g : Int) : AS := if liveB A s g then giveA A s.toNat g.toNat else A
def gaveE (A : AS) (s g : Int) : Int := if liveB A s g then 0 else 33
theorem gave_ar {B p : Nat} {F : Nat → Prop} {A : AS} (s g : Int) {w : World} (h : AR w B p F A) :
    Calls Try.prog 10 #[.pointer (some ⟨p, 0, none⟩), .agg #[.int .i64 s, .int .u32 g]] w (MovedPost w B p F (afterG A s g) (.int .i64 (gaveE A s g))) := by
  cases hl : liveB A s g with
  | false =>
    refine (stale_ar hl h).mono fun e w' ⟨he, hb⟩ => ⟨?_, F, ?_, Moved.of_below hb⟩
    · rw [he]; simp [gaveE, hl]
    · simp only [afterG, hl]; exact h.later hb
  | true =>
    obtain ⟨i, k, rfl, rfl, hi, hg⟩ := live_at hl
    refine (give_ar hi hg h).mono fun e w' ⟨he, F', h', m⟩ => ⟨?_, F', ?_, m⟩
    · rw [he]; simp [gaveE, hl]
    · simp only [afterG, hl, if_true, Int.toNat_natCast]; exact h'
theorem later_b {w w1 : World} {b o : Nat} {v : Value} (hb : Below w.heap.size w w1) (h : w.cell? ⟨b, o, none⟩ = some v) : w1.cell? ⟨b, o, none⟩ = some v := later hb h
theorem live_le {B p : Nat} {F : Nat → Prop} {A : AS} {w : World} (h : AR w B p F A) : A.live ≤ 65536 := by
  have := h.fit.liveLe; have := h.fit.used; have := h.fit.cap; omega
theorem usable_le {B p : Nat} {F : Nat → Prop} {A : AS} {w : World} (h : AR w B p F A) : usableN A ≤ 65536 := by
  have := h.fit.wait; have := h.fit.used; have := h.fit.cap; unfold usableN; omega

theorem wrong_walk (c k : Nat) (s g : Int) (hc : c ≤ 255) (hk : k ≤ 255) (w : World) :
    Calls Try.prog 7 #[.int .u8 c, .agg #[.int .i64 s, .int .u32 g], .int .u8 k] w fun e w' => e = .returned (.bool true) ∧ Below w.heap.size w w' := by
  go_enter Try.func7, Try.ntmps7
  go_wp2_with fail
  refine (alive_any _).mono ?_
  rintro e W ⟨rfl, hb⟩
  obtain ⟨c0, c1⟩ := box2 hb
  replace hb := below_alloc1 hb
  go_wp2_with fail
  refine (new_ar W.heap.size (c % 20) 9 W (by omega) (by omega) (Nat.le_refl _)).mono ?_
  rintro e w1 ⟨rfl, F1, h1, hF1, hb1⟩
  go_wp2_with fail
  refine (new_ar W.heap.size (c % 20) 9 w1 (by omega) (by omega) hb1.size).mono ?_
  rintro e w2 ⟨rfl, F2, h2, hF2, hb2⟩
  have hap : ∀ k, F1 k → ¬ F2 k := fun k h h' => by have := (h1.lt k h).2; have := hF2 k h'; omega
  replace h1 := h1.later hb2
  replace hb2 := below_chain hb1 hb2
  have hW : W.heap.size ≤ w2.heap.size := hb2.size
  generalize w1.heap.size = p2 at *
  clear hb1 hF1 hF2
  go_wp2
  go_loopw [48] (fun i wr => ∃ (j : Nat) (A : AS) (F1 F2 : Nat → Prop), j ≤ k % 24 ∧ i = .int .i64 j ∧ AR wr W.heap.size W.heap.size F1 A ∧ AR wr W.heap.size p2 F2 A ∧ (∀ k, F1 k → ¬ F2 k) ∧ Below W.heap.size W wr) (fun i _ => k % 24 - (intOf i).toNat)
  case atStart => exact ⟨0, _, F1, F2, Nat.zero_le _, rfl, h1, h2, hap, hb2⟩
  case round =>
    clear h1 h2 hap hb2 F1 F2 hW
    obtain ⟨j, A, F1, F2, hj, rfl, h1, h2, hap, hbr⟩ := hrel
    by_cases hlt : j < k % 24
    · have hji : (j : Int) < (k : Int) % 24 := by omega
      go_wp2_with fail
      refine (took_ar h1).mono ?_
      rintro e w3 ⟨rfl, F3, h3, m3⟩
      have hap3 := m3.apart (fun k hk => (h2.lt k hk).2) hap
      replace h2 := h2.keeps m3.keeps (fun b hb hf => hap b hf hb)
      replace hbr := hbr.trans (m3.below_old h1.lt hbr.size)
      clear hap m3 h1
      go_wp2_with fail
      refine (took_ar h2).mono ?_
      rintro e w4 ⟨rfl, F4, h4, m4⟩
      have hap4 := m4.apart (fun k hk => (h3.lt k hk).2) (fun k hk hf => hap3 k hf hk)
      replace h3 := h3.keeps m4.keeps (fun b hb hf => hap3 b hb hf)
      replace hbr := hbr.trans (m4.below_old h2.lt hbr.size)
      have hap4s : ∀ k, F3 k → ¬ F4 k := fun k hk hf => hap4 k hf hk
      clear hap3 m4 h2 hap4
      have d0 := later_b hbr c0
      have d1 := later_b hbr c1
      go_wp2_with fail
      refine (live_ar s g h3).mono ?_
      rintro e w5 ⟨rfl, hb5⟩
      replace h3 := h3.later hb5
      replace h4 := h4.later hb5
      replace hbr := below_chain hbr hb5
      replace d0 := later hb5 d0
      replace d1 := later hb5 d1
      clear hb5
      have HL := Lib.hid (rfl : liveB (afterT A) s g = liveB (afterT A) s g)
      cases hl : liveB (afterT A) s g
      · have hs := fun w h => stale_ar (B := W.heap.size) (p := W.heap.size) (F := F3) hl (w := w) h
        clear hl HL
        go_wp2_with fail
        refine (hs _ h3).mono ?_
        rintro e w6 ⟨rfl, hb6⟩
        replace h3 := h3.later hb6
        replace h4 := h4.later hb6
        replace hbr := below_chain hbr hb6
        clear hb6 hs d0 d1
        have hlv := live_le h3
        have hus := usable_le h3
        generalize hAA : afterT A = A' at *
        clear hAA
        go_wp2_with fail
        refine (count_ar h3).mono ?_
        rintro e w7 ⟨rfl, rfl⟩
        go_wp2_with fail
        refine (count_ar h4).mono ?_
        rintro e w7 ⟨rfl, rfl⟩
        go_wp2_with fail
        refine (usable_ar h3).mono ?_
        rintro e w7 ⟨rfl, hb7⟩
        replace h3 := h3.later hb7
        replace h4 := h4.later hb7
        replace hbr := below_chain hbr hb7
        clear hb7
        go_wp2_with fail
        refine (usable_ar h4).mono ?_
        rintro e w8 ⟨rfl, hb8⟩
        replace h3 := h3.later hb8
        replace h4 := h4.later hb8
        replace hbr := below_chain hbr hb8
        clear hb8
        go_wp2_with fail
        go_roundw
        case rel => exact ⟨j + 1, A', F3, F4, by omega, by go_num, h3, h4, hap4s, hbr⟩
        case measure => simp [intOf]; omega
      · clear HL
        have hls := fun w h => live_ar (B := W.heap.size) (p := W.heap.size) (F := F3) (A := afterT A) s g (w := w) h
        clear hls d0 d1
        have hlv := live_le h3
        have hus := usable_le h3
        generalize hAA : afterT A = A' at *
        clear hAA
        go_wp2_with fail
        refine (count_ar h3).mono ?_
        rintro e w7 ⟨rfl, rfl⟩
        go_wp2_with fail
        refine (count_ar h4).mono ?_
        rintro e w7 ⟨rfl, rfl⟩
        go_wp2_with fail
        refine (usable_ar h3).mono ?_
        rintro e w7 ⟨rfl, hb7⟩
        replace h3 := h3.later hb7
        replace h4 := h4.later hb7
        replace hbr := below_chain hbr hb7
        clear hb7
        go_wp2_with fail
        refine (usable_ar h4).mono ?_
        rintro e w8 ⟨rfl, hb8⟩
        replace h3 := h3.later hb8
        replace h4 := h4.later hb8
        replace hbr := below_chain hbr hb8
        clear hb8
        go_wp2_with fail
        go_roundw
        case rel => exact ⟨j + 1, A', F3, F4, by omega, by go_num, h3, h4, hap4s, hbr⟩
        case measure => simp [intOf]; omega
    · have hji : ¬ (j : Int) < (k : Int) % 24 := by omega
      obtain rfl : j = k % 24 := by omega
      go_wp2_with fail
      refine (took_ar h1).mono ?_
      rintro e w3 ⟨rfl, F3, h3, m3⟩
      have hap3 := m3.apart (fun k hk => (h2.lt k hk).2) hap
      replace h2 := h2.keeps m3.keeps (fun b hb hf => hap b hf hb)
      replace hbr := hbr.trans (m3.below_old h1.lt hbr.size)
      have x1 := Box.new (F := F2) (fun k hk => (h2.lt k hk).2) #[.int .i64 (tookS A), .int .u32 (tookG A)] 30
      replace h2 := h2.alloc (.cells #[.int .i64 (tookS A), .int .u32 (tookG A)] 30)
      replace hbr := hbr.alloc hbr.size (.cells #[.int .i64 (tookS A), .int .u32 (tookG A)] 30)
      clear hap3 hap m3 h1 h3
      go_wp2_with fail
      refine (took_ar h2).mono ?_
      rintro e w4 ⟨rfl, F4, h4, m4⟩
      replace x1 := x1.moved m4
      replace hbr := hbr.trans (m4.below_old h2.lt hbr.size)
      have l1 := blk_lt x1.blk
      have a0 := x1.cell (o := 0) (v := .int .i64 (tookS A)) rfl
      have a1 := x1.cell (o := 1) (v := .int .u32 (tookG A)) rfl
      clear h4 h2 m4 x1
      generalize tookS A = S at *
      generalize tookG A = G at *
      generalize tookE A = E at *
      go_wp2_with fail
      go_ret
      exact ⟨rfl, below_chain hb (hbr.alloc hbr.size _)⟩
end Go.Proofs.Ytahpalfdeghdmaa
