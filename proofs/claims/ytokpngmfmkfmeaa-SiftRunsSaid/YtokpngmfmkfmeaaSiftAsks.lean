/- Keys of things as a row's order: each question is counted. -/
import Derived.Test.YtokpngmfmkfmeaaSiftKeys
namespace Go.Proofs.Ytokpngmfmkfmeaa
open Go.RowKit Go.Sort

/-- One question more. -/
def oneMore (s s' : Int) : Prop := s' = IntKind.i64.wrap (s + 1)
theorem keys_asks (p km : Nat) (f : Int → Option Int) (n : Nat) : Asks (Ob.keys p km f n) oneMore inInt (ltK (keyOfF f)) (fun _ => True) 34 (ptrV p) ⟨49, ptrV p⟩ where
  there _ := trivial
  meth := ⟨fun w _ => by kernel_rfl, fun args w => by kernel_rfl⟩
  ask := by
    intro s w F a b ha hb hO
    have hs := Ob.group.open hO
    have hlt := (Ob.keys p km f n s).lt hO
    have k1 := hs.cell 0 rfl (o := 1) rfl
    have f1 := hs.free 0 rfl 1
    have l1 := hs.lt 0 rfl
    have hs1 := hs.store 0 rfl 1 (.int .i64 (IntKind.i64.wrap (s + 1)))
    have hB := before_c (q := []) hs1 a b ha hb
    have hE : ∀ (wx : World), Below (w.setCell ⟨p, 1, none⟩ (.int .i64 (IntKind.i64.wrap (s + 1)))).heap.size (w.setCell ⟨p, 1, none⟩ (.int .i64 (IntKind.i64.wrap (s + 1)))) wx → ∃ g', oneMore s g' ∧ ∃ F', (Ob.keys p km f n g').holds wx F' ∧ Moved F F' w wx :=
      fun wx hb => ⟨IntKind.i64.wrap (s + 1), rfl, (hs1.later hb).close hlt⟩
    refine Calls.mono (R := fun e w' => e = .returned (.bool (ltK (keyOfF f) a b)) ∧ Below (w.setCell ⟨p, 1, none⟩ (.int .i64 (IntKind.i64.wrap (s + 1)))).heap.size (w.setCell ⟨p, 1, none⟩ (.int .i64 (IntKind.i64.wrap (s + 1)))) w') ?_ (fun e w' ⟨h1, h2⟩ => ⟨h1, hE w' h2⟩)
    clear hs hs1 hO hE hlt
    have hw : ∃ t, t = IntKind.i64.wrap (s + 1) := ⟨_, rfl⟩
    obtain ⟨t, ht⟩ := hw
    rw [← ht] at hB ⊢
    replace ht := ht.symm
    generalize ltK (keyOfF f) a b = B at *
    go_enter Try.func49, Try.ntmps49
    go_wp2_with fail
    refine hB.mono ?_
    rintro e w1 ⟨rfl, hb⟩
    go_wp2_with fail
    go_ret
    exact ⟨rfl, hb⟩
end Go.Proofs.Ytokpngmfmkfmeaa
