/- The document's arena: how many could be taken, Take and Give. -/
import Derived.Test.YtahpalfdeghdmaaArenaRef3
import Derived.Deep.RegionHeld3
import Derived.Deep.DeepCutAuto
namespace Go.Proofs.Ytahpalfdeghdmaa
open Go.RowKit Go.Sort

theorem waitsH_le (m : Nat) (T G : List (Nat × Nat)) : (waitsH m T G).length ≤ G.length := by
  unfold waitsH
  rw [List.length_map]
  exact Nat.le_trans (List.length_filter_le ..) (by simp)
theorem freshH_le (T : List (Nat × Nat)) : freshH T ≤ T.length := List.countP_le_length

theorem refusable_any (B cap most : Nat) (hcap : cap ≤ 65536) (tv gv : Value) (n m : Nat) (T G : List (Nat × Nat)) (w : World) (h : HRow w B tv n T) (h2 : HRow w B gv m G) :
    Calls Try.prog 22 #[RV cap most tv gv] w fun e w' => e = .returned (.int .i64 (((waitsH most T G).length : Int) + cap - freshH T)) ∧ Below w.heap.size w w' := by
  have hk : (waitsH most T G).length ≤ 60 := by have := waitsH_le most T G; have := h2.2; omega
  have hf : freshH T ≤ 60 := by have := freshH_le T; have := h.2; omega
  have hC0 : ∀ w' : World, HRow w' B tv n T → HRow w' B gv m G → Calls Try.prog 25 #[RV cap most tv gv] w' fun e w'' => ∃ a c, e = .returned (.slice a (waitsH most T G).length c) ∧ Below w'.heap.size w' w'' := fun w' h h2 =>
    (waits_any B cap most tv gv n m T G w' h h2).mono fun e w'' ⟨v, he, ho, hb2⟩ => by
      obtain ⟨a, c, hv, _⟩ := owns_form ho
      exact ⟨a, c, by rw [he, hv], hb2⟩
  have hD0 := fun w' h => fresh_any B cap most tv gv n T w' h
  generalize (waitsH most T G).length = K at *
  generalize freshH T = R at *
  go_enter Try.func22, Try.ntmps22
  go_wp2_with fail
  obtain ⟨W, hW, hbW, x1⟩ : ∃ W : World, W = (w.alloc (.cells #[.int .i64 cap, .int .u32 most, tv, gv] 34)) ∧ Below w.heap.size w W ∧ Blk W w.heap.size #[.int .i64 cap, .int .u32 most, tv, gv] 34 :=
    ⟨_, rfl, ((Below.refl _ _).alloc (Nat.le_refl _) _), (blk_new w _ _)⟩
  rw [← hW]
  clear hW
  have hS : ∀ w' : World, Below W.heap.size W w' → w'.cell? ⟨w.heap.size, 0, none⟩ = some (.int .i64 cap) ∧ w'.cell? ⟨w.heap.size, 1, none⟩ = some (.int .u32 most) ∧ w'.cell? ⟨w.heap.size, 2, none⟩ = some tv ∧ w'.cell? ⟨w.heap.size, 3, none⟩ = some gv ∧ Below W.heap.size W w' := fun w' hb =>
    have y := later_blk hb x1
    ⟨blk_cell y rfl, blk_cell y rfl, blk_cell y rfl, blk_cell y rfl, hb⟩
  have hC : ∀ w' : World, Below W.heap.size W w' → Calls Try.prog 25 #[RV cap most tv gv] w' fun e w'' => ∃ a c, e = .returned (.slice a K c) ∧ Below W.heap.size W w'' := fun w' hb =>
    (hC0 w' (h.later (below_chain hbW hb)) (h2.later (below_chain hbW hb))).mono fun e w'' ⟨a, c, he, hb2⟩ => ⟨a, c, he, below_chain hb hb2⟩
  have hD : ∀ w' : World, Below W.heap.size W w' → Calls Try.prog 26 #[RV cap most tv gv] w' fun e w'' => e = .returned (.int .i64 R) ∧ Below W.heap.size W w'' := fun w' hb =>
    (hD0 w' (h.later (below_chain hbW hb))).mono fun e w'' ⟨he, hb2⟩ => ⟨he, below_chain hb hb2⟩
  clear hC0 hD0
  have e1 : IntKind.i64.wrap ((K : Int) + cap) = (K : Int) + cap := IntWalk.i64_in _ (by omega)
  have e2 : IntKind.i64.wrap ((K : Int) + cap - R) = (K : Int) + cap - R := IntWalk.i64_in _ (by omega)
  have hbD : Below W.heap.size W W.drew := (Below.refl _ _).drew
  go_region_held3 (fun w' => w'.cell? ⟨w.heap.size, 0, none⟩ = some (.int .i64 cap) ∧ w'.cell? ⟨w.heap.size, 1, none⟩ = some (.int .u32 most) ∧ w'.cell? ⟨w.heap.size, 2, none⟩ = some tv ∧ w'.cell? ⟨w.heap.size, 3, none⟩ = some gv ∧ Below W.heap.size W w') (exact hS _ (by assumption))
    (first
      | (go_at_call 25; refine (hC _ ?_).mono ?_; (first | assumption | exact (‹_ ∧ _›).2.2.2.2); rintro e w' ⟨a, c, rfl, hbx⟩)
      | (go_at_call 26; refine (hD _ ?_).mono ?_; (first | assumption | exact (‹_ ∧ _›).2.2.2.2); rintro e w' ⟨rfl, hbx⟩))
  all_goals
    go_wp2
    go_ret
    exact ⟨rfl, below_chain hbW (by assumption)⟩
end Go.Proofs.Ytahpalfdeghdmaa
