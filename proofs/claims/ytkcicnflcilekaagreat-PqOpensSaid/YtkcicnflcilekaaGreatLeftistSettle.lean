/- Merged of LeftistJoin, LeftistMendMath, LeftistTakeMath, LeftistObj, LeftistSettle. -/
import Derived.Test.YtkcicnflcilekaaGreatLeftistInv
import Derived.Test.YtkcicnflcilekaaGreatAsks
import Derived.Test.YtkcicnflcilekaaGreatShedList3
import Derived.Test.YtkcicnflcilekaaGreatStageAppend
import Derived.Deep.QuietTactic
import Derived.BigQuiet
import Derived.Deep.RegionHeld3
import Derived.Deep.CutBlock
import Derived.Deep.DeepCutAuto
namespace Go.Proofs.YtkcicnflcilekaaGreat

/-- The rank of whatever hangs in a place. -/
def oR (R : List Int) (o : Option Int) : Int := if o.isSome then rkL R (o.getD 0) else 0
theorem oR_some (R : List Int) (x : Int) : oR R (some x) = rkL R x := rfl
def setL (L : List Hg) (R : List Int) (x : Int) : List Hg := if oR R (kidL L x false) < oR R (kidL L x true) then turnL L x else L
def setR (L : List Hg) (R : List Int) (x : Int) : Int := 1 + min (oR R (kidL L x false)) (oR R (kidL L x true))
section
variable {n : Nat} {L : List Hg} {R : List Int}
theorem oR_spine {t : Tr} {o : Option Int} (h : RepT (kidL L) o t) (hr : Tr.Ranked (rkL R) t) : oR R o = Tr.spine t := by
  cases t with
  | nil => rw [show o = none from h]; rfl
  | node x a b => rw [h.1, oR_some]; exact hr.1
/-- A slot's children come on their sides. -/
theorem set_tree (hR : R.length = n) {x : Nat} (hx : x < n) {a b : Tr} (ha : RepT (kidL L) (kidL L x false) a) (hb : RepT (kidL L) (kidL L x true) b) (ra : Tr.Ranked (rkL R) a) (rb : Tr.Ranked (rkL R) b) (na : (x : Int) ∉ a.slots) (nb : (x : Int) ∉ b.slots) :
    setR L R x = Tr.spine (Tr.mk x a b) ∧ RepT (kidL (setL L R x)) (some (x : Int)) (Tr.mk x a b) ∧ Tr.Ranked (rkL (R.set x (setR L R x))) (Tr.mk x a b) ∧ (∀ z, upL (setL L R x) z = upL L z) ∧
    (∀ z, z ≠ (x : Int) → (∀ s, kidL (setL L R x) z s = kidL L z s) ∧ rkL (R.set x (setR L R x)) z = rkL R z) := by
  have ea := oR_spine ha ra
  have eb := oR_spine hb rb
  have e1 : setR L R x = Tr.spine (Tr.mk x a b) := by unfold setR; rw [ea, eb, Tr.mk_spine]; omega
  have hrk : ∀ z, z ≠ (x : Int) → rkL (R.set x (setR L R x)) z = rkL R z := fun z hz => by rw [rk_set hR hx, if_neg hz]
  have hkid : ∀ z, z ≠ (x : Int) → ∀ s, kidL (setL L R x) z s = kidL L z s := fun z hz s => by
    unfold setL; split
    · rw [kid_turn, if_neg hz]
    · rfl
  have hra := Tr.ranked_congr (r' := rkL (R.set x (setR L R x))) (fun z hz => hrk z fun e => na (by rw [← e]; exact hz)) ra
  have hrb := Tr.ranked_congr (r' := rkL (R.set x (setR L R x))) (fun z hz => hrk z fun e => nb (by rw [← e]; exact hz)) rb
  refine ⟨e1, ?_, Tr.ranked_mk (by rw [rk_set hR hx, if_pos rfl]; exact e1) hra hrb, fun z => ?_, fun z hz => ⟨hkid z hz, hrk z hz⟩⟩
  · have ha' := rep_congr (kid' := kidL (setL L R x)) (fun z hz => hkid z fun e => na (by rw [← e]; exact hz)) ha
    have hb' := rep_congr (kid' := kidL (setL L R x)) (fun z hz => hkid z fun e => nb (by rw [← e]; exact hz)) hb
    by_cases hlt : Tr.spine a < Tr.spine b
    · have e : Tr.mk x a b = .node x b a := by unfold Tr.mk; rw [if_pos hlt]
      have e2 : setL L R x = turnL L x := by unfold setL; rw [ea, eb, if_pos (by omega)]
      rw [e2] at ha' hb' ⊢
      rw [e]
      refine ⟨rfl, ?_, ?_⟩
      · rw [kid_turn, if_pos rfl]; exact hb'
      · rw [kid_turn, if_pos rfl]; exact ha'
    · have e : Tr.mk x a b = .node x a b := Tr.mk_same (by omega)
      have e2 : setL L R x = L := by unfold setL; rw [ea, eb, if_neg (by omega)]
      rw [e2] at ha' hb' ⊢
      rw [e]
      exact ⟨rfl, ha', hb'⟩
  · unfold setL; split
    · exact up_turn L x z
    · rfl
/-- A tree is hung below a slot that stands by itself, at the right; the slot's children come on their sides. -/
theorem join_tree (_I : GInv n L) (hR : R.length = n) {x : Nat} (hx : x < n) {m : Int} {l M : Tr} (hk : kidL L x true = none) (hl : RepT (kidL L) (kidL L x false) l) (hM : Stands L (rkL R) M) (hm : M.top = some m) (hmn : inN n m) (hu : upL L x = none) (rl : Tr.Ranked (rkL R) l) (fl : Tr.Lef l)
    (nd : ((x : Int) :: (l.slots ++ M.slots)).Nodup) :
    hangB n L x m true = true ∧ ¬ aboveL L m x ∧ (∀ sd, 0 ≤ oR R (kidL (hangL n L x m true) x sd) ∧ oR R (kidL (hangL n L x m true) x sd) ≤ (Tr.size l + Tr.size M : Nat)) ∧
    Stands (setL (hangL n L x m true) R x) (rkL (R.set x (setR (hangL n L x m true) R x))) (Tr.mk x l M) ∧
    SameL ((x : Int) :: (l.slots ++ M.slots)) L (setL (hangL n L x m true) R x) (rkL R) (rkL (R.set x (setR (hangL n L x m true) R x))) := by
  have hxm : (x : Int) ≠ m := fun e => by
    rw [List.nodup_cons] at nd
    exact nd.1 (List.mem_append_right _ (by rw [e]; exact Tr.top_in hm))
  have hum := hM.root m hm
  have hB : hangB n L x m true = true := by
    unfold hangB
    rw [hum, hk, has_in.2 ⟨by omega, by omega⟩, has_in.2 hmn]
    simp [hxm]
  have hL : hangL n L x m true = L ++ [⟨x, m, true⟩] := by unfold hangL; rw [if_pos hB]
  have hab : ¬ aboveL L m x := fun h => hxm (above_top hu h).symm
  rw [hL]
  have hkids := hang_kids (m := m) hk
  have hups := hang_ups (a := (x : Int)) (s := true) hum
  rw [List.nodup_cons, List.mem_append, List.nodup_append] at nd
  obtain ⟨nx, nl, nM, napart⟩ := nd
  have e1 : kidL (L ++ [⟨x, m, true⟩]) x true = some m := by rw [hkids, if_pos ⟨rfl, rfl⟩]
  have e2 : kidL (L ++ [⟨x, m, true⟩]) x false = kidL L x false := by rw [hkids, if_neg (by simp)]
  have hko : ∀ z, z ≠ (x : Int) → ∀ s, kidL (L ++ [⟨x, m, true⟩]) z s = kidL L z s := fun z hz s => by rw [hkids, if_neg (fun h => hz h.1)]
  have hl' : RepT (kidL (L ++ [⟨x, m, true⟩])) (kidL (L ++ [⟨x, m, true⟩]) x false) l := by
    rw [e2]; exact rep_congr (fun z hz => hko z fun e => nx (Or.inl (by rw [← e]; exact hz))) hl
  have hM' : RepT (kidL (L ++ [⟨x, m, true⟩])) (kidL (L ++ [⟨x, m, true⟩]) x true) M := by
    rw [e1]; exact rep_congr (fun z hz => hko z fun e => nx (Or.inr (by rw [← e]; exact hz))) (hM.rep' hm)
  have e3 := oR_spine hl' rl
  have e4 := oR_spine hM' hM.rank
  obtain ⟨s1, s2, s3, s4, s5⟩ := set_tree hR hx hl' hM' rl hM.rank (fun h => nx (Or.inl h)) (fun h => nx (Or.inr h))
  refine ⟨hB, hab, fun sd => ?_, ⟨by rw [Tr.mk_top]; exact s2, s3, Tr.mk_lef fl hM.lef, fun z hz => ?_, ?_⟩, ⟨fun z hz s => ?_, fun z hz => ?_, fun z hz => ?_⟩⟩
  · have h1 := Tr.spine_size l
    have h2 := Tr.spine_size M
    cases sd
    · rw [e3]; omega
    · rw [e4]; omega
  · rw [Tr.mk_top] at hz
    cases hz
    rw [s4, hups, if_neg hxm]; exact hu
  · rw [(Tr.mk_perm _ _ _).nodup_iff, List.nodup_cons, List.mem_append, List.nodup_append]
    exact ⟨nx, nl, nM, napart⟩
  · rw [(s5 z fun e => hz (by simp [e])).1 s, hko z fun e => hz (by simp [e])]
  · rw [s4, hups, if_neg fun e => hz (by rw [e]; exact List.mem_cons_of_mem _ (List.mem_append_right _ (Tr.top_in hm)))]
  · exact (s5 z fun e => hz (by simp [e])).2
/-- A child comes off: it stands by itself, and the place is free. -/
theorem off_tree (I : GInv n L) {x y : Int} {sd : Bool} {t : Tr} (hk : kidL L x sd = some y) (ht : RepT (kidL L) (some y) t) (hx : x ∉ t.slots) :
    kidL (cutL L y) x sd = none ∧ kidL (cutL L y) x (!sd) = kidL L x (!sd) ∧ RepT (kidL (cutL L y)) (some y) t ∧ upL (cutL L y) y = none ∧ (∀ z, z ≠ y → upL (cutL L y) z = upL L z) ∧ ∀ z, z ≠ x → ∀ s, kidL (cutL L y) z s = kidL L z s := by
  have hc := cut_kids I hk
  refine ⟨by rw [hc, if_pos ⟨rfl, rfl⟩], by rw [hc, if_neg (by cases sd <;> simp)], rep_congr (fun z hz s => by rw [hc, if_neg (fun h => hx (by rw [← h.1]; exact hz))]) ht, by rw [up_cut, if_pos rfl], fun z hz => by rw [up_cut, if_neg hz], fun z hz s => by rw [hc, if_neg (fun h => hz h.1)]⟩
end
end Go.Proofs.YtkcicnflcilekaaGreat

namespace Go.Proofs.YtkcicnflcilekaaGreat

section
variable {n : Nat} {L : List Hg} {R : List Int} {root : Option Int} {z : List Fr} {x : Int} {a b told G : Tr}
end
end Go.Proofs.YtkcicnflcilekaaGreat

namespace Go.Proofs.YtkcicnflcilekaaGreat

section
variable {n : Nat} {L : List Hg} {R : List Int} {root : Option Int} {z : List Fr} {f : Fr} {x m : Int} {O M t : Tr}
end
end Go.Proofs.YtkcicnflcilekaaGreat

namespace Go.Proofs.YtkcicnflcilekaaGreat
open Go.RowKit Go.Sort

/-- A row of ranks. -/
abbrev Ob.rks (v : Value) (n : Nat) (R : List Int) : Ob := Ob.row 0 3 1 v n (cellsBy intC R)
def forestParts (f c t : Nat) (v : Value) (n : Nat) (W : WS) (s : Int) (L : List Hg) (R : List Int) : List Ob :=
  [Ob.box f #[ptrV c, ptrV t, v] 253, Ob.cells c W s, Ob.spine t n L, Ob.rks v n R]
section
variable {F0 : Nat → Prop} {W0 w : World} {f c t n : Nat} {v : Value} {W : WS} {s : Int} {L : List Hg} {R : List Int} {q : List Ob}
theorem fo_c0 (h : Stage F0 W0 (forestParts f c t v n W s L R ++ q) w) : w.cell? ⟨f, 0, none⟩ = some (ptrV c) := h.cell 0 rfl rfl
theorem fo_c1 (h : Stage F0 W0 (forestParts f c t v n W s L R ++ q) w) : w.cell? ⟨f, 1, none⟩ = some (ptrV t) := h.cell 0 rfl rfl
theorem fo_c2 (h : Stage F0 W0 (forestParts f c t v n W s L R ++ q) w) : w.cell? ⟨f, 2, none⟩ = some v := h.cell 0 rfl rfl
theorem fo_inv (h : Stage F0 W0 (forestParts f c t v n W s L R ++ q) w) : GInv n L ∧ n ≤ 65536 := by
  obtain ⟨G, _, I, hn, _⟩ := h.get (i := 2) rfl
  exact ⟨I, hn⟩
theorem fo_fit (h : Stage F0 W0 (forestParts f c t v n W s L R ++ q) w) : W.Fit ∧ 0 ≤ s ∧ s ≤ 4611686018427387904 := by
  obtain ⟨G, ho⟩ := h.get (i := 1) rfl
  exact ⟨Ob.cells.fit ho, Ob.cells.steps ho⟩
theorem fo_row (h : Stage F0 W0 (forestParts f c t v n W s L R ++ q) w) (hR : R.length = n) (hn : 0 < n) : ∃ g cp, v = .slice (some ⟨g, 0, none⟩) n cp ∧ n ≤ cp ∧ cp ≤ 9223372036854775807 ∧ g ≠ f ∧ g < w.heap.size ∧
    (∀ i, i < n → w.cell? ⟨g, i, none⟩ = some (.int .i64 (rkL R i))) ∧ ∀ o, w.frozen? ⟨g, o, none⟩ = false := by
  obtain ⟨g, cp, hv, h1, h2, _, h4, hc, hf⟩ := owns_at intC_len 0 (h.owns 3 rfl) hR hn
  have hne := h.rowNe 3 0 rfl rfl (by decide)
  subst hv
  refine ⟨g, cp, rfl, h1, by unfold maxLen at h2; omega, fun e => hne (by rw [← e]; rfl), h4, fun i hi => ?_, hf⟩
  have := hc i 0 _ hi (by omega) rfl
  rw [Nat.mul_one, Nat.add_zero] at this
  rw [this]
  unfold rkL
  rw [if_pos (by omega), Int.toNat_natCast]
/-- A slot's rank is another one. -/
theorem fo_set {g cp : Nat} (h : Stage F0 W0 (forestParts f c t (.slice (some ⟨g, 0, none⟩) n cp) n W s L R ++ q) w) (i : Nat) (x : Int) :
    Stage F0 W0 (forestParts f c t (.slice (some ⟨g, 0, none⟩) n cp) n W s L (R.set i x) ++ q) (w.setCell ⟨g, i, none⟩ (.int .i64 x)) :=
  h.storeRow 3 rfl i (.int .i64 x) (intC_set R i x)
theorem rank_st (h : Stage F0 W0 (forestParts f c t v n W s L R ++ q) w) (hR : R.length = n) (x : Int) (ok : Bool) (hx : ok = true → inN n x) : Calls Tryz.prog 275 #[.pointer (some ⟨f, 0, none⟩), .int .i64 x, .bool ok] w fun e w' => e = .returned (.int .i64 (if ok then rkL R x else 0)) ∧ w = w' := by
  cases ok
  · clear h
    go_enter Tryz.func275, Tryz.ntmps275
    go_wp2
    go_ret
    exact ⟨rfl, rfl⟩
  · obtain ⟨i, rfl⟩ : ∃ i : Nat, x = i := ⟨x.toNat, by have := (hx rfl).1; omega⟩
    have hi : i < n := by have := (hx rfl).2; omega
    obtain ⟨g, cp, rfl, h1, h2, _, _, hc, _⟩ := fo_row h hR (by omega)
    have c2 := fo_c2 h
    have u0 := hc i hi
    have hi2 : (i : Int) < n := by omega
    clear h hc hx
    go_enter Tryz.func275, Tryz.ntmps275
    go_wp2
    go_ret
    exact ⟨rfl, rfl⟩
theorem plant_st (h : Stage F0 W0 (forestParts f c t v n W s L R ++ q) w) (hR : R.length = n) (x : Nat) (hx : x < n) : Calls Tryz.prog 263 #[.pointer (some ⟨f, 0, none⟩), .int .i64 x] w fun e w' => e = .returned (.tuple #[]) ∧ Stage F0 W0 (forestParts f c t v n W s L (R.set x 1) ++ q) w' := by
  obtain ⟨g, cp, rfl, h1, h2, _, h4, hc, hf⟩ := fo_row h hR (by omega)
  have c2 := fo_c2 h
  have u0 := hc x hx
  have hi2 : (x : Int) < n := by omega
  have hf0 := hf x
  have hs := fo_set h x 1
  clear h hc
  go_enter Tryz.func263, Tryz.ntmps263
  go_wp2
  go_end0
  exact ⟨rfl, hs⟩
end
end Go.Proofs.YtkcicnflcilekaaGreat

namespace Go.Proofs.YtkcicnflcilekaaGreat
open Go.RowKit Go.Sort

section
variable {F0 : Nat → Prop} {W0 w : World} {f c t n : Nat} {v : Value} {W : WS} {s : Int} {L : List Hg} {R : List Int} {q : List Ob}
theorem fo_left (h : Stage F0 W0 (forestParts f c t v n W s L R ++ q) w) (x : Int) : Calls Tryz.prog 274 #[.pointer (some ⟨t, 0, none⟩), .int .i64 x] w fun e w' => e = .returned (.tuple #[.int .i64 ((kidL L x false).getD 0), .bool (kidL L x false).isSome]) ∧ w = w' :=
  h.ask 2 rfl fun _ ⟨_, I, hn, ho⟩ => sp_left (q := []) (Ob.group.open ho) I hn x
theorem fo_right (h : Stage F0 W0 (forestParts f c t v n W s L R ++ q) w) (x : Int) : Calls Tryz.prog 273 #[.pointer (some ⟨t, 0, none⟩), .int .i64 x] w fun e w' => e = .returned (.tuple #[.int .i64 ((kidL L x true).getD 0), .bool (kidL L x true).isSome]) ∧ w = w' :=
  h.ask 2 rfl fun _ ⟨_, I, hn, ho⟩ => sp_right (q := []) (Ob.group.open ho) I hn x
theorem fo_turn (h : Stage F0 W0 (forestParts f c t v n W s L R ++ q) w) (x : Int) : Calls Tryz.prog 276 #[.pointer (some ⟨t, 0, none⟩), .int .i64 x] w fun e w' => e = .returned (.bool (hasN n x)) ∧ Stage F0 W0 (forestParts f c t v n W s (turnL L x) R ++ q) w' :=
  h.call 2 rfl fun _ ho => turn_sp x ho
theorem fo_cut (h : Stage F0 W0 (forestParts f c t v n W s L R ++ q) w) (x : Int) : Calls Tryz.prog 265 #[.pointer (some ⟨t, 0, none⟩), .int .i64 x] w fun e w' => e = .returned (.tuple #[.int .i64 ((upL L x).getD 0), .bool (upL L x).isSome]) ∧ Stage F0 W0 (forestParts f c t v n W s (cutL L x) R ++ q) w' :=
  h.call 2 rfl fun _ ho => cut_sp x ho
theorem fo_hang (h : Stage F0 W0 (forestParts f c t v n W s L R ++ q) w) (a x : Int) (r : Bool) (ha : ¬ aboveL L x a ∨ x = a) : Calls Tryz.prog 269 #[.pointer (some ⟨t, 0, none⟩), .int .i64 a, .int .i64 x, .bool r] w fun e w' => e = .returned (.bool (hangB n L a x r)) ∧ Stage F0 W0 (forestParts f c t v n W s (hangL n L a x r) R ++ q) w' :=
  h.call 2 rfl fun _ ho => hang_sp a x r ha ho
theorem fo_ahead (h : Stage F0 W0 (forestParts f c t v n W s L R ++ q) w) (a b : Int) : Calls Tryz.prog 174 #[.pointer (some ⟨c, 0, none⟩), .int .i64 a, .int .i64 b] w fun e w' => e = .returned (.bool (aheadW W a b)) ∧ Stage F0 W0 (forestParts f c t v n W (aheadS W s a b) L R ++ q) w' :=
  h.call 1 rfl fun _ ho => ahead_cl a b ho
set_option maxHeartbeats 1000000 in
theorem settle_st (h : Stage F0 W0 (forestParts f c t v n W s L R ++ q) w) (hR : R.length = n) (x : Nat) (hx : x < n) (hb : ∀ sd, -65536 ≤ oR R (kidL L x sd) ∧ oR R (kidL L x sd) ≤ 65536) :
    Calls Tryz.prog 272 #[.pointer (some ⟨f, 0, none⟩), .int .i64 x] w fun e w' => e = .returned (.bool (setR L R x != rkL R x)) ∧ Stage F0 W0 (forestParts f c t v n W s (setL L R x) (R.set x (setR L R x)) ++ q) w' := by
  obtain ⟨I, hn⟩ := fo_inv h
  obtain ⟨g, cp, rfl, h1, h2, hgf, h4, hc, hf⟩ := fo_row h hR (by omega)
  have c1 := fo_c1 h
  have c2 := fo_c2 h
  have hx2 : (x : Int) < n := by omega
  have hin : ∀ sd, ∀ (ok : Bool), (kidL L x sd).isSome = ok → ok = true → inN n ((kidL L x sd).getD 0) := fun sd ok e e2 => by
    subst e2
    obtain ⟨y, hy⟩ := Option.isSome_iff_exists.1 e
    rw [hy]
    exact (kid_in I hy).1
  have cL : ∀ m, Calls Tryz.prog 274 #[.pointer (some ⟨t, 0, none⟩), .int .i64 x] (w.drewN m) fun e w'' => e = .returned (.tuple #[.int .i64 ((kidL L x false).getD 0), .bool (kidL L x false).isSome]) ∧ ∃ k, w'' = w.drewN k := fun m => Calls.quiet_of_same ((fo_left (h.drewN m) x).mono fun _ _ ⟨a, b⟩ => ⟨a, b.symm⟩)
  have cR : ∀ m, Calls Tryz.prog 273 #[.pointer (some ⟨t, 0, none⟩), .int .i64 x] (w.drewN m) fun e w'' => e = .returned (.tuple #[.int .i64 ((kidL L x true).getD 0), .bool (kidL L x true).isSome]) ∧ ∃ k, w'' = w.drewN k := fun m => Calls.quiet_of_same ((fo_right (h.drewN m) x).mono fun _ _ ⟨a, b⟩ => ⟨a, b.symm⟩)
  have cA : ∀ m, Calls Tryz.prog 275 #[.pointer (some ⟨f, 0, none⟩), .int .i64 ((kidL L x false).getD 0), .bool (kidL L x false).isSome] (w.drewN m) fun e w'' => e = .returned (.int .i64 (oR R (kidL L x false))) ∧ ∃ k, w'' = w.drewN k := fun m => Calls.quiet_of_same ((rank_st (h.drewN m) hR _ _ (hin false _ rfl)).mono fun _ _ ⟨a, b⟩ => ⟨a, b.symm⟩)
  have cB : ∀ m, Calls Tryz.prog 275 #[.pointer (some ⟨f, 0, none⟩), .int .i64 ((kidL L x true).getD 0), .bool (kidL L x true).isSome] (w.drewN m) fun e w'' => e = .returned (.int .i64 (oR R (kidL L x true))) ∧ ∃ k, w'' = w.drewN k := fun m => Calls.quiet_of_same ((rank_st (h.drewN m) hR _ _ (hin true _ rfl)).mono fun _ _ ⟨a, b⟩ => ⟨a, b.symm⟩)
  have hTurn : ∀ m, oR R (kidL L x false) < oR R (kidL L x true) → Calls Tryz.prog 276 #[.pointer (some ⟨t, 0, none⟩), .int .i64 x] (w.drewN m) fun e w' => e = .returned (.bool (hasN n x)) ∧ Stage F0 W0 (forestParts f c t (.slice (some ⟨g, 0, none⟩) n cp) n W s (setL L R x) R ++ q) w' := fun m hlt => by
    have := fo_turn (h.drewN m) x
    unfold setL
    rw [if_pos hlt]
    exact this
  have hStay : ∀ m, oR R (kidL L x true) ≤ oR R (kidL L x false) → Stage F0 W0 (forestParts f c t (.slice (some ⟨g, 0, none⟩) n cp) n W s (setL L R x) R ++ q) (w.drewN m) := fun m hlt => by
    unfold setL
    rw [if_neg (by omega)]
    exact h.drewN m
  have hb0 := hb false
  have hb1 := hb true
  have hrow : ∀ w', Stage F0 W0 (forestParts f c t (.slice (some ⟨g, 0, none⟩) n cp) n W s (setL L R x) R ++ q) w' → w'.cell? ⟨f, 2, none⟩ = some (.slice (some ⟨g, 0, none⟩) n cp) ∧ w'.cell? ⟨g, x, none⟩ = some (.int .i64 (rkL R x)) ∧ w'.frozen? ⟨g, x, none⟩ = false ∧ g < w'.heap.size := fun w' h' => by
    obtain ⟨g', cp', e, _, _, _, h4, hc, hf⟩ := fo_row h' hR (by omega)
    injection e with e1 _ e3
    injection e1 with e1
    injection e1 with e1
    subst e1
    exact ⟨fo_c2 h', hc x hx, hf x, h4⟩
  have hset : ∀ w', Stage F0 W0 (forestParts f c t (.slice (some ⟨g, 0, none⟩) n cp) n W s (setL L R x) R ++ q) w' → Stage F0 W0 (forestParts f c t (.slice (some ⟨g, 0, none⟩) n cp) n W s (setL L R x) (R.set x (setR L R x)) ++ q) (w'.setCell ⟨g, x, none⟩ (.int .i64 (setR L R x))) := fun w' h' => fo_set h' x _
  obtain ⟨z, hz⟩ : ∃ z, setR L R x = z := ⟨_, rfl⟩
  have hz2 : z = 1 + min (oR R (kidL L x false)) (oR R (kidL L x true)) := by rw [← hz]; rfl
  rw [hz] at hset ⊢
  clear h hc hf hb hin hz
  generalize setL L R x = L1 at *
  generalize R.set x z = R1 at *
  generalize oR R (kidL L x false) = a at *
  generalize oR R (kidL L x true) = b at *
  generalize (kidL L x false).getD 0 = k0 at *
  generalize (kidL L x true).getD 0 = k1 at *
  generalize (kidL L x false).isSome = o0 at *
  generalize (kidL L x true).isSome = o1 at *
  generalize rkL R x = old at *
  go_enter Tryz.func272, Tryz.ntmps272
  go_wp2_with fail
  go_quiet (first | with_reducible exact cL _ | with_reducible exact cR _ | with_reducible exact cA _ | with_reducible exact cB _)
  clear cL cR cA cB
  have HA := Lib.hid hz2
  clear hz2
  by_cases hlt : a < b
  · go_wp2_with fail
    refine (hTurn nq hlt).mono ?_
    rintro e w1 ⟨rfl, hs1⟩
    obtain ⟨k2, u0, f0, hg1⟩ := hrow w1 hs1
    have hs2 := hset w1 hs1
    clear hTurn hStay hrow hset hs1
    go_wp2_with fail
    all_goals
      go_ret
      first
        | (obtain rfl : z = 1 + a := by have := HA.out; omega
           exact ⟨rfl, hs2⟩)
        | (obtain rfl : z = 1 + b := by have := HA.out; omega
           exact ⟨rfl, hs2⟩)
  · have hs1 := hStay nq (by omega)
    obtain ⟨k2, u0, f0, hg1⟩ := hrow _ hs1
    have hs2 := hset _ hs1
    clear hTurn hStay hrow hset hs1
    go_wp2_with fail
    all_goals
      go_ret
      first
        | (obtain rfl : z = 1 + a := by have := HA.out; omega
           exact ⟨rfl, hs2⟩)
        | (obtain rfl : z = 1 + b := by have := HA.out; omega
           exact ⟨rfl, hs2⟩)
end
end Go.Proofs.YtkcicnflcilekaaGreat
