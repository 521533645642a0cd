/- Merged of StageAppend, StageFrame, Meth, SpineObj. -/
import Derived.Test.YtehoejoeoaimjaaStage
import Derived.Test.YtehoejoeoaimjaaProg
import Derived.Test.YtehoejoeoaimjaaBox
import Derived.BigRegion
import Derived.StillTailTactics
namespace Go.Proofs.Ytehoejoeoaimjaa
open Go.RowKit Go.Sort

theorem reads_box {w : World} {b : Nat} {c : Array Value} {t : TypeId} (h : Blk w b c t) (size m : Nat) (hs : c.size = m * size) : RowReads w size (.slice (some ⟨b, 0, none⟩) m m) m c.toList :=
  ⟨by simpa using hs, Or.inr ⟨_, m, rfl, fun j u hj => by rw [add_at, Nat.zero_add]; exact blk_cell h (by simpa using hj)⟩⟩
namespace Stage
variable {F0 : Nat → Prop} {W w : World} {l : List Ob} {P : Program} {B : Nat} {e : TypeId} {size n : Nat} {v : Value} {xs : List Value}
/-- Where only the draws' count is another one. -/
theorem same {w' : World} (h : Stage F0 W l w) (e1 : w'.heap = w.heap) (e2 : w'.os = w.os) (e3 : w'.tape = w.tape) (e4 : w'.output = w.output) : Stage F0 W l w' := h.later ⟨e2, e3, e4, by rw [e1]; exact Nat.le_refl _, fun k _ => by rw [e1]⟩
theorem newRow' (h : Stage F0 W l w) (e : TypeId) (size n : Nat) (c : Array Value) (hs : c.size = n * size) (hm : n ≤ maxLen) {b : Nat} (hb : w.heap.size = b) : Stage F0 W (l ++ [Ob.row 0 e size (.slice (some ⟨b, 0, none⟩) n n) n c.toList]) (w.alloc (.cells c e)) := by subst hb; exact h.newRow e size n c hs hm
theorem emptyRow' (h : Stage F0 W l w) (e : TypeId) (size : Nat) {b : Nat} (hb : w.heap.size = b) : Stage F0 W (l ++ [Ob.row 0 e size (.slice (some ⟨b, 0, none⟩) 0 0) 0 []]) (w.alloc (.cells #[] e)) := by subst hb; exact h.emptyRow e size
theorem run_append (hs : Stage F0 W l w) (i : Nat) (hi : l[i]? = some (Ob.row B e size v n xs)) (t ty : TypeId) (z : Value) (bytes : Nat) (ht : P.underlying t = some (.slice e)) (hinfo : (P.info? e).map (fun i => (i.zero, i.size, i.bytes)) = some (some z, size, bytes)) (hzs : z.cells.size = size) (hsz : 0 < size) (hB : B ≤ w.heap.size)
    (y : Value) (m : Nat) (news : List Value) (hr : RowReads w size y m news) (h1 : ∀ u ∈ news, u.oneCell' = true) (h63 : n + m ≤ maxLen) (hbytes : (n + m) * bytes ≤ 140737488355328) :
    ∃ v' w', (Builtin.append_ #[t, t] ty #[v, y]).run P w = .ok v' w' ∧ Stage F0 W (l.set i (Ob.row B e size v' (n + m) (xs ++ news))) w' ∧ (∀ k, rowF v' k → rowF v k ∨ w.heap.size ≤ k) := by
  obtain ⟨i0, hi0, hzz⟩ := Option.map_eq_some_iff.1 hinfo
  simp only [Prod.mk.injEq] at hzz
  obtain ⟨hz, hs0, hb⟩ := hzz
  obtain ⟨v', w', h2, h3, h4, h5⟩ := run_append_any w B t ty e i0 z size bytes ht hi0 hz hs0 hb hzs hsz v n xs (hs.owns i hi) y m news hr h1 h63 hbytes hB
  exact ⟨v', w', h2, hs.grown i hi h3 h4 h5, fun k hk => (h5 k hk).imp id (fun e => Nat.le_of_eq e.symm)⟩
theorem wp_append {ops : Array Oper} {rest : List Oper} {o : Oper} {a : Act} {Q : Exit → Act → World → Prop} (hs : Stage F0 W l w) (i : Nat) (hi : l[i]? = some (Ob.row B e size v n xs)) (hgd : o.guard = none) (s x : Operand) (t : TypeId)
    (ho : o.op = .call { callee := .builtin .append, args := #[s, x], argTypes := #[t, t] }) (z : Value) (bytes : Nat) (ht : P.underlying t = some (.slice e)) (hinfo : (P.info? e).map (fun i => (i.zero, i.size, i.bytes)) = some (some z, size, bytes)) (hzs : z.cells.size = size) (hsz : 0 < size) (hB : B ≤ w.heap.size)
    (hv : a.eval s = v) (y : Value) (m : Nat) (news : List Value) (hx : a.eval x = y) (hr : RowReads w size y m news) (h1 : ∀ u ∈ news, u.oneCell' = true) (h63 : n + m ≤ maxLen) (hbytes : (n + m) * bytes ≤ 140737488355328)
    (hK : ∀ v' w', Stage F0 W (l.set i (Ob.row B e size v' (n + m) (xs ++ news))) w' → (∀ k, rowF v' k → rowF v k ∨ w.heap.size ≤ k) → wpList P ops Q rest (a.put o.dst v') w') : wpList P ops Q (o :: rest) a w := by
  refine wpList_plain hgd fun K hK' => ?_
  obtain ⟨v', w', hrun, h2, h3⟩ := hs.run_append (P := P) i hi t o.type z bytes ht hinfo hzs hsz hB y m news hr h1 h63 hbytes
  unfold Oper.wp execOp
  simp only [ho, resolve, invoke, builtin, Sem.run_bind, Sem.run_pure, Result.andThen_ok, List.map_toArray, List.map_cons, List.map_nil, hv, hx, hrun]
  exact hK' _ _ (hK v' w' h2 h3)
theorem step_append {ops : Array Oper} {o : Oper} {a : Act} {K : Act → World → Prop} {Q : Exit → Act → World → Prop} {E : Prop} (hs : Stage F0 W l w) (i : Nat) (hi : l[i]? = some (Ob.row B e size v n xs)) (hgd : o.guard = none) (s x : Operand) (t : TypeId)
    (ho : o.op = .call { callee := .builtin .append, args := #[s, x], argTypes := #[t, t] }) (z : Value) (bytes : Nat) (ht : P.underlying t = some (.slice e)) (hinfo : (P.info? e).map (fun i => (i.zero, i.size, i.bytes)) = some (some z, size, bytes)) (hzs : z.cells.size = size) (hsz : 0 < size) (hB : B ≤ w.heap.size)
    (hv : a.eval s = v) (y : Value) (m : Nat) (news : List Value) (hx : a.eval x = y) (hr : RowReads w size y m news) (h1 : ∀ u ∈ news, u.oneCell' = true) (h63 : n + m ≤ maxLen) (hbytes : (n + m) * bytes ≤ 140737488355328)
    (hK : ∀ v' w', Stage F0 W (l.set i (Ob.row B e size v' (n + m) (xs ++ news))) w' → (∀ k, rowF v' k → rowF v k ∨ w.heap.size ≤ k) → K (a.put o.dst v') w') :
    if Region.wanted o (yielded ops a.tmps) = true then Oper.wp P o a w K Q else E := by
  have hw : Region.wanted o (yielded ops a.tmps) = true := by simp [Region.wanted, hgd]
  rw [if_pos hw]
  obtain ⟨v', w', hrun, h2, h3⟩ := hs.run_append (P := P) i hi t o.type z bytes ht hinfo hzs hsz hB y m news hr h1 h63 hbytes
  unfold Oper.wp execOp
  simp only [ho, resolve, invoke, builtin, Sem.run_bind, Sem.run_pure, Result.andThen_ok, List.map_toArray, List.map_cons, List.map_nil, hv, hx, hrun]
  exact hK v' w' h2 h3
end Stage
end Go.Proofs.Ytehoejoeoaimjaa

namespace Go.Proofs.Ytehoejoeoaimjaa
open Go.RowKit Go.Sort
namespace Stage
variable {F0 : Nat → Prop} {W w w' : World} {l : List Ob} {P : Program} {f : FuncId} {args : Array Value} {v : Value}
/-- A call that knows the first things alone: the others are as they were. -/
theorem frameEx {α : Type} {r : List Ob} {Post : α → Ending → Prop} {l' : α → List Ob} (h : Stage F0 W (l ++ r) w) (hc : ∀ F : Nat → Prop, (∀ b, F b → b < w.heap.size) → Stage F w l w → Calls P f args w fun e w' => ∃ x, Post x e ∧ Stage F w (l' x) w') :
    Calls P f args w fun e w' => ∃ x, Post x e ∧ Stage F0 W (l' x ++ r) w' := by
  obtain ⟨hk, G, h1, h2, h3⟩ := h
  have hW := hk.size
  refine (hc (fun b => ∃ i, i < l.length ∧ G i b) (fun b ⟨i, _, hb⟩ => (h3 i b hb).2) ⟨Keeps.refl _ _, fun i b => i < l.length ∧ G i b, fun i O hi => ?_, fun i j b hij hb hb' => h2 i j b hij hb.2 hb'.2, fun i b hb => ⟨Or.inl ⟨i, hb⟩, (h3 i b hb.2).2⟩⟩).mono ?_
  · have hl := Scene.idx hi
    have e : (fun b => i < l.length ∧ G i b) = G i := by funext b; simp [hl]
    show O.holds w (fun b => i < l.length ∧ G i b)
    rw [e]
    exact h1 i O (by rw [List.getElem?_append_left hl]; exact hi)
  · rintro e w' ⟨x, hp, hk', G', g1, g2, g3⟩
    refine ⟨x, hp, ⟨hk'.os.trans hk.os, hk'.tape.trans hk.tape, hk'.output.trans hk.output, Nat.le_trans hW hk'.size, fun k hk1 hn => (hk'.block k (Nat.lt_of_lt_of_le hk1 hW) (fun ⟨i, _, hb⟩ => ?_)).trans (hk.block k hk1 hn)⟩,
      fun i => if i < (l' x).length then G' i else G (l.length + (i - (l' x).length)), fun i O hi => ?_, fun i j b hij hb hb' => ?_, fun i b hb => ?_⟩
    · rcases (h3 i k hb).1 with h | h
      · exact hn h
      · omega
    · by_cases hi' : i < (l' x).length
      · simp only [if_pos hi']
        rw [List.getElem?_append_left hi'] at hi
        exact g1 i O hi
      · simp only [if_neg hi']
        rw [List.getElem?_append_right (by omega)] at hi
        refine O.keeps (h1 (l.length + (i - (l' x).length)) O ?_) hk' (fun b hb ⟨j, hj, hb'⟩ => h2 _ j b (by omega) hb hb')
        rw [List.getElem?_append_right (by omega), Nat.add_sub_cancel_left]
        exact hi
    · simp only at hb hb'
      split at hb
      · split at hb'
        · exact g2 i j b hij hb hb'
        · rcases (g3 i b hb).1 with ⟨k, hk1, hk2⟩ | h
          · exact h2 k _ b (by omega) hk2 hb'
          · have := (h3 _ b hb').2; omega
      · split at hb'
        · rcases (g3 j b hb').1 with ⟨k, hk1, hk2⟩ | h
          · exact h2 k _ b (by omega) hk2 hb
          · have := (h3 _ b hb).2; omega
        · exact h2 _ _ b (by omega) hb hb'
    · simp only at hb
      split at hb
      · refine ⟨?_, (g3 i b hb).2⟩
        rcases (g3 i b hb).1 with ⟨k, _, hk2⟩ | h
        · exact (h3 k b hk2).1
        · exact Or.inr (by omega)
      · exact ⟨(h3 _ b hb).1, Nat.lt_of_lt_of_le (h3 _ b hb).2 hk'.size⟩
theorem frame {r l' : List Ob} (h : Stage F0 W (l ++ r) w) (hc : ∀ F : Nat → Prop, (∀ b, F b → b < w.heap.size) → Stage F w l w → Calls P f args w fun e w' => e = .returned v ∧ Stage F w l' w') :
    Calls P f args w fun e w' => e = .returned v ∧ Stage F0 W (l' ++ r) w' :=
  (h.frameEx (α := Unit) (Post := fun _ e => e = .returned v) (l' := fun _ => l') fun F hF hs => (hc F hF hs).mono fun _ _ ⟨h1, h2⟩ => ⟨(), h1, h2⟩).mono fun _ _ ⟨_, h1, h2⟩ => ⟨h1, h2⟩

end Stage
end Go.Proofs.Ytehoejoeoaimjaa

namespace Go.Proofs.Ytehoejoeoaimjaa
open Go.RowKit Go.Sort

/-- A function that a call by a name enters, and the receiver that it is handed. -/
structure Fn where
  id : FuncId
  rv : Value
/-- By the name n the value v of type T is called by f, in each world in which H holds. -/
structure Meth (H : World → Prop) (T : TypeId) (v : Value) (n : String) (f : Fn) : Prop where
  find : ∀ w, H w → (method 256 T v n).run Try.prog w = .ok (f.id, f.rv) w
  enter : ∀ args w, (callFunc f.id args).run Try.prog w = .ok (.enter f.id args) w
def inInt (y : Int) : Prop := -9223372036854775808 ≤ y ∧ y ≤ 9223372036854775807
abbrev ptrV (p : Nat) : Value := .pointer (some ⟨p, 0, none⟩)
namespace Stage
variable {F0 : Nat → Prop} {W w w' : World} {l : List Ob} {P : Program} {f : FuncId} {args : Array Value} {O : Ob} {v : Value}
/-- A call on one thing, which it turns into one of some things. -/
theorem callEx {α : Type} {Q : α → Prop} {O' : α → Ob} (h : Stage F0 W l w) (i : Nat) (hi : l[i]? = some O) (hc : ∀ F, O.holds w F → Calls P f args w fun e w' => e = .returned v ∧ ∃ a, Q a ∧ ∃ F', (O' a).holds w' F' ∧ Moved F F' w w') :
    Calls P f args w fun e w' => e = .returned v ∧ ∃ a, Q a ∧ Stage F0 W (l.set i (O' a)) w' := by
  obtain ⟨hbl, F, h1, h2, h3⟩ := h
  exact (hc (F i) (h1 i O hi)).mono fun e w' ⟨he, a, hq, F', ho, m⟩ => ⟨he, a, hq, swap hbl h1 h2 h3 (Scene.idx hi) ho m⟩
end Stage
end Go.Proofs.Ytehoejoeoaimjaa

namespace Go.Proofs.Ytehoejoeoaimjaa
open Go.RowKit Go.Sort

def spineParts (p : Nat) (v : Value) (n : Nat) (L : List Hg) : List Ob :=
  [Ob.box p #[v] 119, Ob.row 0 122 3 v n (cellsBy thC (rawOf n L))]
/-- At p lie n things, of which hang where L says. -/
def Ob.spine (p n : Nat) (L : List Hg) : Ob where
  holds w F := ∃ v, GInv n L ∧ n ≤ 65536 ∧ (Ob.group (spineParts p v n L)).holds w F
  keeps := fun ⟨v, h1, h2, h⟩ k hn => ⟨v, h1, h2, (Ob.group _).keeps h k hn⟩
  lt := fun ⟨_, _, _, h⟩ => (Ob.group _).lt h
theorem spine_close {F : Nat → Prop} {w w' : World} {p n : Nat} {v : Value} {L : List Hg} (hs : Stage F w (spineParts p v n L) w') (hF : ∀ b, F b → b < w.heap.size) (I : GInv n L) (hn : n ≤ 65536) : ∃ F', (Ob.spine p n L).holds w' F' ∧ Moved F F' w w' := by
  obtain ⟨F', h1, m⟩ := hs.close hF
  exact ⟨F', ⟨v, I, hn, h1⟩, m⟩
section
variable {F0 : Nat → Prop} {W0 w : World} {p n : Nat} {v : Value} {L : List Hg} {q : List Ob}
theorem sp_c0 (h : Stage F0 W0 (spineParts p v n L ++ q) w) : w.cell? ⟨p, 0, none⟩ = some v := h.cell 0 rfl rfl
theorem sp_form (h : Stage F0 W0 (spineParts p v n L ++ q) w) : ∃ a c, v = .slice a n c ∧ n ≤ c ∧ c ≤ 9223372036854775807 := by
  obtain ⟨a, c, h1, h2, h3⟩ := owns_form (h.owns 1 rfl)
  exact ⟨a, c, h1, h2, by unfold maxLen at h3; omega⟩
theorem sp_row (h : Stage F0 W0 (spineParts p v n L ++ q) w) (hn : 0 < n) : ∃ g c, v = .slice (some ⟨g, 0, none⟩) n c ∧ n ≤ c ∧ c ≤ 9223372036854775807 ∧ g ≠ p ∧ g < w.heap.size ∧
    (∀ i, i < n → w.cell? ⟨g, i * 3, none⟩ = some (.int .i64 (oI (upL L i))) ∧ (∀ s : Bool, w.cell? ⟨g, i * 3 + 1 + s.toNat, none⟩ = some (.int .i64 (oI (kidL L i s))))) ∧ ∀ o, w.frozen? ⟨g, o, none⟩ = false := by
  obtain ⟨g, c, hv, h1, h2, _, h4, hc, hf⟩ := owns_at thC_len .no (h.owns 1 rfl) (raw_len n L) hn
  have hne := h.rowNe 1 0 rfl rfl (by decide)
  subst hv
  refine ⟨g, c, rfl, h1, by unfold maxLen at h2; omega, fun e => hne (by rw [← e]; rfl), h4, fun i hi => ?_, hf⟩
  have e := raw_at L hi .no
  refine ⟨hc i 0 _ hi (by omega) (by rw [e]; rfl), fun s => ?_⟩
  cases s
  · exact hc i 1 _ hi (by omega) (by rw [e]; rfl)
  · exact hc i 2 _ hi (by omega) (by rw [e]; rfl)
def hasN (n : Nat) (x : Int) : Bool := decide (0 ≤ x ∧ x < n)
theorem has_in {n : Nat} {x : Int} : hasN n x = true ↔ inN n x := by simp [hasN, inN]
theorem sp_has (h : Stage F0 W0 (spineParts p v n L ++ q) w) (x : Int) : Calls Try.prog 87 #[.pointer (some ⟨p, 0, none⟩), .int .i64 x] w fun e w' => e = .returned (.bool (hasN n x)) ∧ w = w' := by
  obtain ⟨a, c, rfl, hc1, hc2⟩ := sp_form h
  have c0 := sp_c0 h
  unfold hasN
  by_cases hx : 0 ≤ x
  · have hd := Lib.hid (show decide (0 ≤ x ∧ x < (n : Int)) = decide (x < (n : Int)) by congr 1; apply propext; omega)
    rw [hd.out]
    clear h hd
    go_enter Try.func87, Try.ntmps87
    go_wp2
    go_ret
    exact ⟨rfl, rfl⟩
  · rw [decide_eq_false (fun e => hx e.1)]
    clear h
    go_enter Try.func87, Try.ntmps87
    go_wp2
    go_ret
    exact ⟨rfl, rfl⟩
theorem sp_found (o : Option Int) (ho : ∀ y, o = some y → 0 ≤ y) (w : World) : Calls Try.prog 89 #[.int .i64 (oI o)] w fun e w' => e = .returned (.tuple #[.int .i64 (o.getD 0), .bool o.isSome]) ∧ w = w' := by
  cases o with
  | none =>
    show Calls _ _ #[.int .i64 (-1)] _ _
    go_enter Try.func89, Try.ntmps89
    go_wp2
    go_ret2
    exact ⟨rfl, rfl⟩
  | some y =>
    have h0 := ho y rfl
    have h1 : (y == -1) = false := by simp; omega
    show Calls _ _ #[.int .i64 y] _ _
    go_enter Try.func89, Try.ntmps89
    go_wp2
    go_ret2
    exact ⟨rfl, rfl⟩
theorem sp_child (h : Stage F0 W0 (spineParts p v n L ++ q) w) (I : GInv n L) (hn : n ≤ 65536) (x : Int) (s : Bool) : Calls Try.prog 95 #[.pointer (some ⟨p, 0, none⟩), .int .i64 x, .int .i64 s.toNat] w fun e w' => e = .returned (.tuple #[.int .i64 ((kidL L x s).getD 0), .bool (kidL L x s).isSome]) ∧ w = w' := by
  have c0 := sp_c0 h
  have hH := sp_has h x
  by_cases hx : inN n x
  · rw [has_in.2 hx] at hH
    obtain ⟨i, rfl⟩ : ∃ i : Nat, x = i := ⟨x.toNat, by have := hx.1; omega⟩
    have hi : i < n := by have := hx.2; omega
    obtain ⟨g, c, rfl, hc1, hc2, hgp, hg, hc, hf⟩ := sp_row h (by omega)
    have u0 := (hc i hi).2 s
    have hF := sp_found (kidL L i s) (fun y e => (kid_in I e).1.1) w
    clear h hc I hf
    generalize kidL L i s = o at *
    generalize oI o = z at *
    cases s
    all_goals
      simp only [Bool.toNat_false, Bool.toNat_true, Nat.add_zero] at u0
      go_enter Try.func95, Try.ntmps95
      go_wp2_with fail
      refine hH.mono ?_
      rintro e w1 ⟨rfl, rfl⟩
      go_wp2_with fail
      refine hF.mono ?_
      rintro e w1 ⟨rfl, rfl⟩
      go_wp2_with fail
      go_ret2
      exact ⟨rfl, rfl⟩
  · rw [kid_out I s hx]
    rw [show hasN n x = false from Bool.eq_false_iff.2 (fun e => hx (has_in.1 e))] at hH
    clear h
    go_enter Try.func95, Try.ntmps95
    go_wp2_with fail
    refine hH.mono ?_
    rintro e w1 ⟨rfl, rfl⟩
    go_wp2_with fail
    go_ret2
    exact ⟨rfl, rfl⟩
theorem sp_left (h : Stage F0 W0 (spineParts p v n L ++ q) w) (I : GInv n L) (hn : n ≤ 65536) (x : Int) : Calls Try.prog 86 #[.pointer (some ⟨p, 0, none⟩), .int .i64 x] w fun e w' => e = .returned (.tuple #[.int .i64 ((kidL L x false).getD 0), .bool (kidL L x false).isSome]) ∧ w = w' := by
  have hC := sp_child h I hn x false
  generalize kidL L x false = o at *
  clear h I
  go_enter Try.func86, Try.ntmps86
  go_wp2_with fail
  refine hC.mono ?_
  rintro e w1 ⟨rfl, rfl⟩
  go_wp2_with fail
  go_ret2
  exact ⟨rfl, rfl⟩
theorem sp_right (h : Stage F0 W0 (spineParts p v n L ++ q) w) (I : GInv n L) (hn : n ≤ 65536) (x : Int) : Calls Try.prog 88 #[.pointer (some ⟨p, 0, none⟩), .int .i64 x] w fun e w' => e = .returned (.tuple #[.int .i64 ((kidL L x true).getD 0), .bool (kidL L x true).isSome]) ∧ w = w' := by
  have hC := sp_child h I hn x true
  generalize kidL L x true = o at *
  clear h I
  go_enter Try.func88, Try.ntmps88
  go_wp2_with fail
  refine hC.mono ?_
  rintro e w1 ⟨rfl, rfl⟩
  go_wp2_with fail
  go_ret2
  exact ⟨rfl, rfl⟩
theorem sp_up (h : Stage F0 W0 (spineParts p v n L ++ q) w) (I : GInv n L) (hn : n ≤ 65536) (x : Int) : Calls Try.prog 78 #[.pointer (some ⟨p, 0, none⟩), .int .i64 x] w fun e w' => e = .returned (.tuple #[.int .i64 ((upL L x).getD 0), .bool (upL L x).isSome]) ∧ w = w' := by
  have c0 := sp_c0 h
  have hH := sp_has h x
  by_cases hx : inN n x
  · rw [has_in.2 hx] at hH
    obtain ⟨i, rfl⟩ : ∃ i : Nat, x = i := ⟨x.toNat, by have := hx.1; omega⟩
    have hi : i < n := by have := hx.2; omega
    obtain ⟨g, c, rfl, hc1, hc2, hgp, hg, hc, hf⟩ := sp_row h (by omega)
    have u0 := (hc i hi).1
    have hF := sp_found (upL L i) (fun y e => (up_in I e).2.1) w
    clear h hc I hf
    generalize upL L i = o at *
    generalize oI o = z at *
    go_enter Try.func78, Try.ntmps78
    go_wp2_with fail
    refine hH.mono ?_
    rintro e w1 ⟨rfl, rfl⟩
    go_wp2_with fail
    refine hF.mono ?_
    rintro e w1 ⟨rfl, rfl⟩
    go_wp2_with fail
    go_ret2
    exact ⟨rfl, rfl⟩
  · rw [up_out I hx]
    rw [show hasN n x = false from Bool.eq_false_iff.2 (fun e => hx (has_in.1 e))] at hH
    clear h
    go_enter Try.func78, Try.ntmps78
    go_wp2_with fail
    refine hH.mono ?_
    rintro e w1 ⟨rfl, rfl⟩
    go_wp2_with fail
    go_ret2
    exact ⟨rfl, rfl⟩
end
end Go.Proofs.Ytehoejoeoaimjaa
