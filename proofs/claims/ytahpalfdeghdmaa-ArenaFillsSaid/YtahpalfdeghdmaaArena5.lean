/- Take. -/
import Derived.Test.YtahpalfdeghdmaaArena4
namespace Go.Proofs.Ytahpalfdeghdmaa
open Go.RowKit Go.Sort

def HasArena (B p : Nat) (F : Nat → Prop) (A : AS) (w w' : World) : Prop := ∃ uv wv, ArAt w' B p uv wv A ∧ Moved F (arF p uv wv) w w'
def TakePost (w : World) (B p : Nat) (F : Nat → Prop) (i g : Nat) (A' : AS) (e : Ending) (w' : World) : Prop :=
  e = .returned (.tuple #[Hnd i g, .int .i64 0]) ∧ HasArena B p F A' w w'

theorem take_some (B p : Nat) (uv wv : Value) (A A1 : AS) (i g : Nat) (b : Bool) (hnext : ∀ w, ArAt w B p uv wv A → Calls Try.prog 24 #[.pointer (some ⟨p, 0, none⟩)] w (NextPost w B p (arF p uv wv) i A1))
    (hi : i < A1.used.length) (hg : A1.used.getD i (0, false) = (g, b)) (hm : g < 4294967295) (hu : A1.used.length ≤ 65536) (hl : A1.live ≤ 65536) (w : World) (h : ArAt w B p uv wv A) :
    Calls Try.prog 12 #[.pointer (some ⟨p, 0, none⟩)] w (TakePost w B p (arF p uv wv) i (g + 1) ⟨A1.cap, A1.most, A1.used.set i (g + 1, true), A1.waiting, A1.live + 1⟩) := by
  go_enter Try.func12, Try.ntmps12
  go_wp2_with fail
  refine (hnext _ (h.alloc _)).mono ?_
  rintro e w1 ⟨rfl, uv1, wv1, h1, m1⟩
  have hF := h.lt
  have k1 : Keeps (arF p uv wv) w w1 := ((Keeps.refl _ w).alloc _).then m1.keeps
  have hbox : Blk w1 w.heap.size #[.int .i64 0, .int .u32 0] 30 := m1.keeps.blk (blk_new w _ _) (fun hf => by have := (hF _ hf).2; omega)
  have hp1 := (hF p (Or.inl rfl)).2
  obtain ⟨gu, c, rfl, hc, hcm, hgB, hgl, hcell⟩ := owns_slice h1.used (by omega)
  have hgp : gu ≠ p := (h1.apart gu rfl).1
  have hgx : gu ≠ w.heap.size := by
    intro e
    rcases m1.grow gu (Or.inr (Or.inl rfl)) with hf | hf
    · have := (hF _ hf).2; omega
    · simp at hf; omega
  have hx : ¬ arF p (.slice (some ⟨gu, 0, none⟩) A1.used.length c) wv1 w.heap.size := fun hf => by
    rcases m1.grow _ hf with hf | hf
    · have := (hF _ hf).2; omega
    · simp at hf; omega
  have hgr : ∀ k, arF p (.slice (some ⟨gu, 0, none⟩) A1.used.length c) wv1 k → arF p uv wv k ∨ w.heap.size ≤ k := fun k hk => by
    rcases m1.grow _ hk with hf | hf
    · exact Or.inl hf
    · exact Or.inr (by simp at hf; omega)
  have hgc := cellsU_get A1.used i hi
  rw [hg] at hgc
  have a0 := hcell _ _ hgc.1
  have a1 := hcell _ _ hgc.2
  have c2 := h1.c2
  have c4 := h1.c4
  have f4 := h1.free 4
  have fb0 := blk_free hbox 0
  have fb1 := blk_free hbox 1
  have cb0 := blk_cell hbox (o := 0) rfl
  have cb1 := blk_cell hbox (o := 1) rfl
  have fu : ∀ j, w1.frozen? ⟨gu, j, none⟩ = false := h1.used.frozenAt
  have fu0 := fu (i * 2)
  have fu1 := fu (i * 2 + 1)
  have hpx : p ≠ w.heap.size := by omega
  have hpg := hgp.symm
  clear hcell hgc fu
  unfold maxLen at hcm
  simp only at a0 a1
  go_wp2
  refine bodyPost_ret (v := .tuple #[.agg #[.int .i64 i, .int .u32 (g + 1 : Nat)], .int .i64 0]) (by simp [results, Try.results12, go_sem, cb0, cb1]) rfl ?_
  have o1 := (h1.used.stored (i * 2) (.int .u32 (g + 1 : Nat))).1
  have o2 := (o1.stored (i * 2 + 1) (.bool true)).1
  rw [cellsU_set] at o2
  clear o1
  have hxu : (Value.slice (some ⟨gu, 0, none⟩) A1.used.length c).ownBlock ≠ some w.heap.size := fun e => hgx (by simpa [Value.ownBlock] using e)
  have hxw : wv1.ownBlock ≠ some w.heap.size := fun e => hx (Or.inr (Or.inr e))
  have hxp : (Value.slice (some ⟨gu, 0, none⟩) A1.used.length c).ownBlock ≠ some p := fun e => hgp (by simpa [Value.ownBlock] using e)
  have hwg : wv1.ownBlock ≠ some gu := fun e => (h1.apart gu rfl).2 e
  have hwp : wv1.ownBlock ≠ some p := fun e => h1.apart' p e rfl
  refine ⟨rfl, .slice (some ⟨gu, 0, none⟩) A1.used.length c, wv1, ⟨?_, ?_, ?_, h1.base, h1.apart, h1.apart'⟩, ?_, hgr⟩
  · exact blk_set_other (blk_set_other (blk_set (blk_set_other (blk_set_other h1.blk hgp _) hgp _) 4 _) hpx.symm _) hpx.symm _
  · rw [List.length_set]
    exact owns_set_other (a := ⟨w.heap.size, 1, none⟩) (owns_set_other (a := ⟨w.heap.size, 0, none⟩) (owns_set_other (a := ⟨p, 4, none⟩) o2 hxp _) hxu _) hxu _
  · exact owns_set_other (a := ⟨w.heap.size, 1, none⟩) (owns_set_other (a := ⟨w.heap.size, 0, none⟩) (owns_set_other (a := ⟨p, 4, none⟩) (owns_set_other (a := ⟨gu, i * 2 + 1, none⟩) (owns_set_other (a := ⟨gu, i * 2, none⟩) h1.wait hwg _) hwg _) hwp _) hxw _) hxw _
  · exact ((((k1.setCell ⟨gu, _, none⟩ (hgr gu (Or.inr (Or.inl rfl))) _).setCell ⟨gu, _, none⟩ (hgr gu (Or.inr (Or.inl rfl))) _).setCell ⟨p, 4, none⟩ (Or.inl (Or.inl rfl)) _).setCell ⟨w.heap.size, 0, none⟩ (Or.inr (Nat.le_refl _)) _).setCell ⟨w.heap.size, 1, none⟩ (Or.inr (Nat.le_refl _)) _

/-- Take, of whatever arena. -/
def TookPost (w : World) (B p : Nat) (F : Nat → Prop) (A : AS) (e : Ending) (w' : World) : Prop :=
  match takeA A with
  | some (i, g, A') => TakePost w B p F i g A' e w'
  | none => e = .returned (.tuple #[Hnd 0 0, .int .i64 32]) ∧ Below w.heap.size w w'
theorem take_full (B p : Nat) (uv wv : Value) (A : AS) (hw : A.waiting = []) (hn : A.used.length = A.cap) (hA : A.Fit) (w : World) (h : ArAt w B p uv wv A) :
    Calls Try.prog 12 #[.pointer (some ⟨p, 0, none⟩)] w fun e w' => e = .returned (.tuple #[Hnd 0 0, .int .i64 32]) ∧ Below w.heap.size w w' := by
  go_enter Try.func12, Try.ntmps12
  go_wp2_with fail
  refine (next_none B p uv wv A hw hn hA _ (h.alloc _)).mono ?_
  rintro e w1 ⟨rfl, hb⟩
  have hbox := later_blk hb (blk_new w #[.int .i64 0, .int .u32 0] 30)
  have fb0 := blk_free hbox 0
  have fb1 := blk_free hbox 1
  have cb0 := blk_cell hbox (o := 0) rfl
  have cb1 := blk_cell hbox (o := 1) rfl
  have hb' := below_alloc1 hb
  clear hb
  go_wp2
  refine bodyPost_ret (v := .tuple #[.agg #[.int .i64 0, .int .u32 0], .int .i64 32]) (by simp [results, Try.results12, go_sem, cb0, cb1]) rfl ⟨rfl, ?_⟩
  exact (hb'.setCell (p := ⟨w.heap.size, 0, none⟩) (Nat.le_refl _) _).setCell (p := ⟨w.heap.size, 1, none⟩) (Nat.le_refl _) _
theorem take_any (B p : Nat) (uv wv : Value) (A : AS) (hA : A.Fit) (w : World) (h : ArAt w B p uv wv A) :
    Calls Try.prog 12 #[.pointer (some ⟨p, 0, none⟩)] w (TookPost w B p (arF p uv wv) A) := by
  have h1 := hA.cap
  have h2 := hA.used
  have h3 := hA.liveLe
  have h4 := hA.most
  unfold TookPost
  rcases take_cases A with ⟨ws, i, hw, ht⟩ | ⟨hw, hc, ht⟩ | ⟨hw, hc, ht⟩
  · rw [ht]
    have hi := hA.waits i (by rw [hw]; simp)
    exact take_some B p uv wv A ⟨A.cap, A.most, A.used, ws, A.live⟩ i (A.used.getD i (0, false)).1 (A.used.getD i (0, false)).2 (fun w h => next_wait B p uv wv A ws i hw hA w h) hi.1 rfl (by have := hi.2.2; omega) (by simp only; omega) (by simp only; omega) w h
  · rw [ht]
    have := take_some B p uv wv A ⟨A.cap, A.most, A.used ++ [(0, false)], [], A.live⟩ A.used.length 0 false (fun w h => by have := next_new B p uv wv A hw hc hA w h; rw [hw] at this; exact this) (by simp) (by rw [getD_snoc, if_pos rfl]) (by omega) (by simp; omega) (by simp only; omega) w h
    simpa using this
  · rw [ht]
    exact take_full B p uv wv A hw (by omega) hA w h
end Go.Proofs.Ytahpalfdeghdmaa
