/- Merged of Old, CarrySame, CarryLess, CarryAliveMath. -/
import Derived.Test.YtbllfokagedpeaaPMap
import Derived.Test.YtbllfokagedpeaaCarryJoin
import Derived.Test.YtbllfokagedpeaaCarryWhole
import Derived.Test.YtbllfokagedpeaaCarryUpMath
namespace Go.Proofs.Ytbllfokagedpeaa
open Go.RowKit Go.Sort

def oldF (W : World) : Nat → Prop := fun b => b < W.heap.size
/-- All that was there at W, as it was. -/
def Ob.old (W : World) : Ob where
  holds w F := F = oldF W ∧ W.heap.size ≤ w.heap.size ∧ ∀ b, b < W.heap.size → w.heap[b]? = W.heap[b]?
  keeps := by
    rintro w w' F G ⟨rfl, h1, h2⟩ k hn
    exact ⟨rfl, Nat.le_trans h1 k.size, fun b hb => by rw [k.block b (Nat.lt_of_lt_of_le hb h1) (hn b hb)]; exact h2 b hb⟩
  lt := by
    rintro w F ⟨rfl, h1, _⟩ b hb
    exact Nat.lt_of_lt_of_le hb h1
namespace Stage
variable {F0 : Nat → Prop} {W w : World} {l : List Ob} {O : Ob}
theorem oldStart (W : World) : Stage (oldF W) W [Ob.old W] W := by
  refine ⟨Keeps.refl _ _, fun i b => i = 0 ∧ oldF W b, fun i O hi => ?_, fun i j b hij h1 h2 => hij (h1.1.trans h2.1.symm), fun i b h => ⟨Or.inl h.2, h.2⟩⟩
  have h0 : i = 0 := by have := Scene.idx' hi; simpa using this
  subst h0
  simp at hi
  subst hi
  refine ⟨by funext b; simp, Nat.le_refl _, fun _ _ => rfl⟩
theorem oldBelow (hs : Stage (oldF W) W l w) (i : Nat) (hi : l[i]? = some (Ob.old W)) : Below W.heap.size W w := by
  obtain ⟨F, _, h1, h2⟩ := hs.get hi
  exact ⟨hs.keeps.os, hs.keeps.tape, hs.keeps.output, hs.keeps.size, h2⟩
/-- The last thing comes first. -/
theorem front (hs : Stage F0 W (l ++ [O]) w) : Stage F0 W (O :: l) w := by
  have h := hs.select (l.length :: List.range l.length) (by
    rw [List.nodup_cons]
    exact ⟨by simp, List.nodup_range⟩) (by
    simp only [List.all_cons, List.all_eq_true, List.mem_range, Bool.and_eq_true, decide_eq_true_eq, List.length_append, List.length_singleton]
    exact ⟨by omega, fun x hx => by omega⟩)
  have e : ((l.length :: List.range l.length).map fun i => (l ++ [O]).getD i Ob.none) = O :: l := by
    rw [List.map_cons]
    congr 1
    · simp [List.getD_eq_getElem?_getD]
    · apply List.ext_getElem?
      intro i
      by_cases h : i < l.length
      · simp [h, List.getD_eq_getElem?_getD, List.getElem?_append_left h]
      · simp [h]
  rw [e] at h
  exact h
/-- Two things at the end, as one. -/
theorem both {P Q : Ob} (hs : Stage F0 W (l ++ [O, P]) w) (hm : ∀ F G H : Nat → Prop, O.holds w F → P.holds w G → (∀ b, F b → H b) → (∀ b, G b → H b) → (∀ b, H b → b < w.heap.size) → Q.holds w H) : Stage F0 W (l ++ [Q]) w := by
  have h := hs.regroup.weaken (i := l.length) (O := Ob.group [O, P]) (O' := Q) (by simp) (fun F ⟨h0, G, g1, _, g3⟩ => hm (G 0) (G 1) F (g1 0 _ rfl) (g1 1 _ rfl) (g3 0) (g3 1) h0)
  simpa using h
end Stage
end Go.Proofs.Ytbllfokagedpeaa

namespace Go.Proofs.Ytbllfokagedpeaa
open Go.RowKit Go.Sort

section
variable {F0 : Nat → Prop} {W w : World} {l : List Ob} {p n : Nat} {v : Value} {K : Int → List Int}
theorem Stage.docKAt (h : Stage F0 W l w) (i : Nat) (hi : l[i]? = some (Ob.docK v n K)) : ∃ F, DocK w F v n K := (h.get hi).elim fun F ho => ⟨F, ho.2⟩
theorem Stage.docCall {P : Program} {f : FuncId} {args : Array Value} {K' : Int → List Int} {r : Value → Value} (h : Stage F0 W l w) (i : Nat) (hi : l[i]? = some (Ob.docK v n K)) (hc : ∀ F, (Ob.docK v n K).holds w F → Calls P f args w fun e w' => ∃ a c, e = .returned (r (.slice a n c)) ∧ DocStep w F (.slice a n c) n K' w') :
    Calls P f args w fun e w' => ∃ a c, e = .returned (r (.slice a n c)) ∧ Stage F0 W (l.set i (Ob.docK (.slice a n c) n K')) w' := by
  obtain ⟨hbl, F, h1, h2, h3⟩ := h
  exact (hc (F i) (h1 i _ hi)).mono fun e w' ⟨a, c, he, hb, F', g1, g2, _⟩ => ⟨a, c, he, Stage.swap hbl h1 h2 h3 (Scene.idx hi) g1 ⟨Keeps.of_below_all hb _, g2⟩⟩
/-- The document's forest, and a row besides that may be looked at. -/
def Ob.docKL (v : Value) (n : Nat) (K : Int → List Int) (u : Value) (m : List Int) : Ob where
  holds w F := (Ob.docK v n K).holds w F ∧ IntsIn w F u m
  keeps := fun h k hn => ⟨(Ob.docK v n K).keeps h.1 k hn, h.2.keeps k hn⟩
  lt := fun h => h.1.1
theorem Stage.docCallL {P : Program} {f : FuncId} {args : Array Value} {K' : Int → List Int} {m : List Int} {r : Value → Value → Value} (h : Stage F0 W l w) (i : Nat) (hi : l[i]? = some (Ob.docK v n K)) (hc : ∀ F, (Ob.docK v n K).holds w F → Calls P f args w fun e w' => ∃ a c a2 c2, e = .returned (r (.slice a n c) (.slice a2 m.length c2)) ∧ DocStep w F (.slice a n c) n K' w' ∧ IntsIn w' F (.slice a2 m.length c2) m) :
    Calls P f args w fun e w' => ∃ a c a2 c2, e = .returned (r (.slice a n c) (.slice a2 m.length c2)) ∧ Stage F0 W (l.set i (Ob.docKL (.slice a n c) n K' (.slice a2 m.length c2) m)) w' := by
  obtain ⟨hbl, F, h1, h2, h3⟩ := h
  exact (hc (F i) (h1 i _ hi)).mono fun e w' ⟨a, c, a2, c2, he, ⟨hb, F', g1, g2, g3⟩, g4⟩ => ⟨a, c, a2, c2, he, Stage.swap (O' := Ob.docKL (.slice a n c) n K' (.slice a2 m.length c2) m) hbl h1 h2 h3 (Scene.idx hi) ⟨g1, g4.mono g3⟩ ⟨Keeps.of_below_all hb _, g2⟩⟩
theorem same_st (hs : Stage F0 W l w) (i j : Nat) (hi : l[i]? = some (Ob.forest p n K)) (hj : l[j]? = some (Ob.docK v n K)) (x : Int) :
    Calls Try.prog 16 #[.pointer (some ⟨p, 0, none⟩), v, .int .i64 x] w fun e w' => e = .returned (.bool true) ∧ Below w.heap.size w w' := by
  obtain ⟨I, hn⟩ := hs.forestInv i hi
  obtain ⟨FD, hD⟩ := hs.docKAt j hj
  have hU := hs.ask i hi (fun _ ho => up_f ho x)
  have hV := rUp I hD x
  have hKd := ints_slice ((hs.get hi).elim fun _ ho => kids_f ho x)
  have hR := fun (wx : World) (hb : Below w.heap.size w wx) => rKids I (hD.later hb) x
  have hG := fun (wx : World) (hb : Below w.heap.size w wx) => (hs.later hb).ask i hi (fun _ ho => deg_f ho x)
  obtain ⟨av, cv, rfl, hc1, hc2⟩ := hD.form
  have hd := deg_16 I hn x
  clear hs hD I hi hj
  generalize upK K x = o at *
  generalize K x = q at *
  have e1 : ((o.getD 0 : Int) == o.getD 0) = true := by simp
  have e2 : (o.isSome == o.isSome) = true := by simp
  have e3 : ((q.length : Int) == q.length) = true := by simp
  generalize o.getD 0 = z at *
  generalize o.isSome = b at *
  go_enter Try.func16, Try.ntmps16
  go_wp2_with fail
  refine hU.mono ?_
  rintro e w1 ⟨rfl, rfl⟩
  go_wp2_with fail
  refine hV.mono ?_
  rintro e w1 ⟨rfl, rfl⟩
  clear hU hV
  go_wp2_with fail
  refine hKd.mono ?_
  rintro e w1 ⟨va, vc, rfl, G, g1, g2, hb1⟩
  clear hKd
  have hR1 := hR w1 hb1
  have hI1 := (IntsIn.of_ints (F := G) g1 fun _ h => h).form
  go_wp2_with fail
  refine hR1.mono ?_
  rintro e w2 ⟨a2, c2, rfl, hI2, rfl⟩
  clear hR1
  obtain ⟨_, _, e4, h1, h2, hA1⟩ := hI1
  cases e4
  obtain ⟨_, _, e4, h3, h4, hA2⟩ := hI2.form
  cases e4
  have hS := same_at q q va a2 vc c2 ⟨h1, h2⟩ ⟨h3, h4⟩ hA1 hA2
  rw [decide_eq_true rfl] at hS
  clear hA1 hA2 hI2 g1 g2
  go_wp2_with fail
  refine hS.mono ?_
  rintro e w3 ⟨rfl, hb2⟩
  clear hS
  have hb3 := below_then hb1 hb2 hb1.size
  have hG3 := hG w3 hb3
  have hR3 := hR w3 hb3
  go_wp2_with fail
  refine hG3.mono ?_
  rintro e w4 ⟨rfl, rfl⟩
  clear hG3
  go_wp2_with fail
  refine hR3.mono ?_
  rintro e w4 ⟨a5, c5, rfl, _, rfl⟩
  clear hR3 hG hR
  go_wp2_with fail
  go_ret
  exact ⟨rfl, hb3⟩
end
/-- Rows of integers by number, that may be looked at: the first m. -/
def Ob.inns (m : Nat) (hd : Nat → Value) (K : Int → List Int) : Ob where
  holds w F := (∀ b, F b → b < w.heap.size) ∧ ∀ i : Nat, i < m → IntsIn w F (hd i) (K i)
  keeps := by rintro w w' F G ⟨h0, h⟩ k hn; exact ⟨fun b hb => Nat.lt_of_lt_of_le (h0 b hb) k.size, fun i hi => (h i hi).keeps k hn⟩
  lt := fun h => h.1
def hdC (h : Value) : List Value := [h]
theorem hdC_len : ∀ h, (hdC h).length = 1 := fun _ => rfl
theorem map_setN (n : Nat) (hd : Nat → Value) (m : Nat) (hm : m < n) (h : Value) : ((List.range n).map hd).set m h = (List.range n).map (setN hd m h) := by
  apply List.ext_getElem?
  intro j
  rw [List.getElem?_set]
  by_cases e : m = j
  · subst e; simp [hm, setN]
  · rw [if_neg e]
    by_cases hj : j < n
    · simp [hj, setN, Ne.symm e]
    · simp [hj]
section
variable {w : World} {p n : Nat} {K : Int → List Int} {F : Nat → Prop}
theorem made_forest (n : Nat) (hn : n ≤ 65536) (w : World) : (Instr.makeSlice 36 (.int .i64 (n : Int)) (.int .i64 (n : Int))).run Try.prog w = .ok (.slice (some ⟨w.heap.size, 0, none⟩) n n) (w.alloc (.cells (madeCells #[.slice none 0 0] n) 30)) := by
  have h := run_make_rows (P := Try.prog) 36 30 (.slice none 0 0) 1 24 Try.underlying36 sinfo_ints n (by omega) (by omega) w
  rw [Nat.mul_one] at h
  exact h
theorem Stage.madeForest {F0 : Nat → Prop} {W w : World} {l : List Ob} (hs : Stage F0 W l w) (n : Nat) (hn : n ≤ 65536) : Stage F0 W (l ++ [Ob.row 0 30 1 (.slice (some ⟨w.heap.size, 0, none⟩) n n) n ((List.range n).map fun _ => .slice none 0 0)]) (w.alloc (.cells (madeCells #[.slice none 0 0] n) 30)) := by
  have h := hs.newRow 30 1 n (madeCells #[.slice none 0 0] (n * 1)) (size_madeCells _ _) (by unfold maxLen; omega)
  rw [made_rows hdC_len (by decide) (.slice none 0 0) #[.slice none 0 0] rfl n, Nat.mul_one] at h
  have e : cellsBy hdC (List.replicate n (.slice none 0 0)) = (List.range n).map fun _ => (.slice none 0 0 : Value) := by
    have e2 : ∀ m : List Value, cellsBy hdC m = m := fun m => by
      induction m with
      | nil => rfl
      | cons a r ih => rw [cellsBy_cons, ih]; rfl
    rw [e2]
    apply List.ext_getElem?
    intro i
    by_cases h : i < n <;> simp [h]
  rw [e] at h
  exact h
def ToldPost (w : World) (n : Nat) (K : Int → List Int) (e : Ending) (w' : World) : Prop := ∃ a c, e = .returned (.slice a n c) ∧ ∃ G, (Ob.docK (.slice a n c) n K).holds w' G ∧ (∀ k, G k → w.heap.size ≤ k) ∧ Below w.heap.size w w'
set_option maxHeartbeats 1000000 in
theorem told_any (h : (Ob.forest p n K).holds w F) : Calls Try.prog 19 #[.pointer (some ⟨p, 0, none⟩), .int .i64 n] w (ToldPost w n K) := by
  obtain ⟨I, hn⟩ : CInv n K ∧ n ≤ 65536 := by obtain ⟨_, _, h1, h2, _⟩ := h; exact ⟨h1, h2⟩
  have hmk := made_forest n hn
  have hs0 := (Stage.start w).madeForest n hn
  have hs : Stage (fun _ => False) w [Ob.row 0 30 1 (.slice (some ⟨w.heap.size, 0, none⟩) n n) n ((List.range n).map fun _ => .slice none 0 0), Ob.inns 0 (fun _ => .slice none 0 0) K] _ := hs0.add (O := Ob.inns 0 (fun _ => .slice none 0 0) K) (F' := fun _ => False) (Below.refl _ _) ⟨fun b h => h.elim, fun i hi => absurd hi (Nat.not_lt_zero _)⟩ (fun _ h => h.elim)
  have hK := fun (wx : World) (hb : Below w.heap.size w wx) (x : Int) => kids_f ((Ob.forest p n K).keeps h (Keeps.of_below_all hb (fun _ => False)) (fun _ _ x => x)) x
  clear hs0 h
  generalize hg : w.heap.size = g at *
  go_enter Try.func19, Try.ntmps19
  go_wp2_with fail
  go_loopw [11] (fun i wr => ∃ (j : Nat) (hd : Nat → Value), i = .int .i64 j ∧ j ≤ n ∧ Stage (fun _ => False) w [Ob.row 0 30 1 (.slice (some ⟨g, 0, none⟩) n n) n ((List.range n).map hd), Ob.inns j hd K] wr) (fun i _ => n - (intOf i).toNat)
  case atStart => exact ⟨0, _, rfl, Nat.zero_le _, hs⟩
  case round =>
    clear hs
    obtain ⟨j, hd, rfl, hj, hs⟩ := hrel
    by_cases hjn : j < n
    · have hji : (j : Int) < n := by omega
      have hKj := hs.newInts (hK wr (by rw [← hg]; exact hs.below) j)
      clear hK
      go_wp2_with fail
      refine hKj.mono ?_
      rintro e w2 ⟨vk, rfl, hs2⟩
      replace hs2 : Stage (fun _ => False) w [Ob.row 0 30 1 (.slice (some ⟨g, 0, none⟩) n n) n ((List.range n).map hd), Ob.inns j hd K, Ob.ints vk (K j)] w2 := hs2
      obtain ⟨ka, kc, rfl, _, _⟩ := hs2.intsForm 2 rfl
      obtain ⟨_, _, hv, _, _, _, _, hcell⟩ := owns_slice (hs2.owns 0 rfl) (by omega)
      cases hv
      have u0 := hcell j (hd j) (by simp [hjn])
      have f0 := (hs2.owns 0 rfl).frozenAt j
      have hs3 := hs2.storeRow 0 rfl j (.slice ka (K j).length kc) (map_setN n hd j hjn _)
      have hs4 : Stage (fun _ => False) w ([Ob.row 0 30 1 (.slice (some ⟨g, 0, none⟩) n n) n ((List.range n).map (setN hd j (.slice ka (K j).length kc)))] ++ [Ob.inns (j + 1) (setN hd j (.slice ka (K j).length kc)) K]) _ := Stage.both (l := [_]) hs3 fun F G H h1 h2 h3 h4 h5 => ⟨h5, fun i hi => by
        unfold setN
        by_cases e : i = j
        · rw [if_pos e, e]; exact IntsIn.of_ints h2 h4
        · rw [if_neg e]; exact (h1.2 i (by omega)).mono h3⟩
      clear hKj hs hs2 hs3 hcell
      generalize (K j).length = m at *
      go_wp2_with fail
      go_roundw
      case rel => exact ⟨j + 1, _, by go_num, by omega, hs4⟩
      case measure => simp [intOf]; omega
    · obtain rfl : j = n := by omega
      have hs3 : Stage (fun _ => False) w ([] ++ [Ob.docK (.slice (some ⟨g, 0, none⟩) j j) j K]) wr := Stage.both (l := []) hs fun F G H h1 h2 h3 h4 h5 => ⟨h5, doc_of_row h1.1 (fun b hb => h3 b (by rw [h1.2]; exact hb)) fun i hi => ⟨hd i, by simp [hi], (h2.2 i hi).mono h4⟩⟩
      obtain ⟨hk9, G, g1, g2, g3⟩ := hs3
      have hfin : ToldPost w j K (.returned (.slice (some ⟨g, 0, none⟩) j j)) wr := ⟨_, _, rfl, G 0, g1 0 _ rfl, fun k hb => (g3 0 k hb).1.elim False.elim id, hk9.below (Nat.le_refl _) (fun _ h => h.elim)⟩
      clear hK hs g1 g2 g3 hk9
      go_wp2_with fail
      go_ret
      exact hfin
end
end Go.Proofs.Ytbllfokagedpeaa

namespace Go.Proofs.Ytbllfokagedpeaa
open Go.RowKit Go.Sort

/-- The key of a thing; 0 of what there is none. -/
def keyL (ks : List Int) (x : Int) : Int := if 0 ≤ x ∧ x < ks.length then ks.getD x.toNat 0 else 0
def oneMoreC (s s' : Int) : Prop := s' = IntKind.i64.wrap (s + 1)
/-- At o the keys kv, and that it was asked s times; and what lies beside. -/
def Ob.lesser (o : Nat) (kv : Value) (rest : List Ob) (s : Int) : Ob := Ob.group (Ob.box o #[kv, .int .i64 s] 47 :: rest)
/-- The keys can be looked at where the rest is. -/
def KeysIn (o : Nat) (a : Option Addr) (c : Nat) (ks : List Int) (rest : List Ob) : Prop := ∀ {F0 : Nat → Prop} {W w : World} {s : Int}, Stage F0 W (Ob.box o #[.slice a ks.length c, .int .i64 s] 47 :: rest) w → IntsAt w .i64 a ks
section
variable {o : Nat} {a : Option Addr} {c : Nat} {ks : List Int} {rest : List Ob} {F0 : Nat → Prop} {W0 w : World} {s : Int}
theorem lkey_c (hc : ks.length ≤ c ∧ c ≤ 9223372036854775807) (hk : IntsAt w .i64 a ks) (c0 : w.cell? ⟨o, 0, none⟩ = some (.slice a ks.length c)) (x : Int) :
    Calls Try.prog 39 #[.pointer (some ⟨o, 0, none⟩), .int .i64 x] w fun e w' => e = .returned (.int .i64 (keyL ks x)) ∧ w = w' := by
  obtain ⟨hc1, hc2⟩ := hc
  unfold keyL
  by_cases h0 : x < 0
  · rw [if_neg (by omega)]
    clear hk
    generalize ks.length = m at *
    go_enter Try.func39, Try.ntmps39
    go_wp2_with fail
    go_ret
    exact ⟨rfl, rfl⟩
  · by_cases h1 : x < ks.length
    · rw [if_pos ⟨by omega, h1⟩]
      obtain ⟨i, rfl⟩ : ∃ i : Nat, x = i := ⟨x.toNat, by omega⟩
      obtain ⟨gb, of, rfl, u0⟩ := hk i (by omega)
      have e : ((i : Int)).toNat = i := by omega
      rw [e]
      clear hk e
      generalize ks.getD i 0 = z at *
      generalize ks.length = m at *
      go_enter Try.func39, Try.ntmps39
      go_wp2_with fail
      go_ret
      exact ⟨rfl, rfl⟩
    · rw [if_neg (fun h => h1 h.2)]
      clear hk
      generalize ks.length = m at *
      go_enter Try.func39, Try.ntmps39
      go_wp2_with fail
      go_ret
      exact ⟨rfl, rfl⟩
set_option maxHeartbeats 1000000 in
theorem lahead_c (hc : ks.length ≤ c ∧ c ≤ 9223372036854775807) (hk : KeysIn o a c ks rest) (hs : Stage F0 W0 (Ob.box o #[.slice a ks.length c, .int .i64 s] 47 :: rest) w) (x y : Int) :
    Calls Try.prog 23 #[.pointer (some ⟨o, 0, none⟩), .int .i64 x, .int .i64 y] w fun e w' => e = .returned (.bool (ltK (keyL ks) x y)) ∧ Stage F0 W0 (Ob.box o #[.slice a ks.length c, .int .i64 (IntKind.i64.wrap (s + 1))] 47 :: rest) w' := by
  have k1 := hs.cell 0 rfl (o := 1) rfl
  have f1 := hs.free 0 rfl 1
  have hs1 := hs.store 0 rfl 1 (.int .i64 (IntKind.i64.wrap (s + 1)))
  replace hs1 : Stage F0 W0 (Ob.box o #[.slice a ks.length c, .int .i64 (IntKind.i64.wrap (s + 1))] 47 :: rest) (w.setCell ⟨o, 1, none⟩ (.int .i64 (IntKind.i64.wrap (s + 1)))) := hs1
  have hK := fun z => lkey_c hc (hk hs1) (hs1.cell 0 rfl (o := 0) rfl) z
  have hX := hK x
  have hY := hK y
  have hl : ltK (keyL ks) x y = (decide (keyL ks x < keyL ks y) || (keyL ks x == keyL ks y && decide (x < y))) := rfl
  rw [hl]
  clear hs hl hk hK
  have hw : ∃ t, t = IntKind.i64.wrap (s + 1) := ⟨_, rfl⟩
  obtain ⟨t, ht⟩ := hw
  rw [← ht] at hs1 hX hY ⊢
  replace ht := ht.symm
  generalize keyL ks x = q at *
  generalize keyL ks y = r at *
  by_cases h1 : q < r
  · have e : (decide (q < r) || (q == r && decide (x < y))) = true := by simp [h1]
    rw [e]
    clear e
    go_enter Try.func23, Try.ntmps23
    go_wp2_with fail
    refine hX.mono ?_
    rintro e w1 ⟨rfl, rfl⟩
    go_wp2_with fail
    refine hY.mono ?_
    rintro e w1 ⟨rfl, rfl⟩
    go_wp2_with fail
    go_ret
    exact ⟨rfl, hs1⟩
  by_cases h2 : q = r
  · subst h2
    have h3 : ((q : Int) == q) = true := by simp
    have h5 : decide (q < q) = false := decide_eq_false h1
    have e : (decide (q < q) || (q == q && decide (x < y))) = decide (x < y) := by simp
    rw [e]
    clear e
    go_enter Try.func23, Try.ntmps23
    go_wp2_with fail
    refine hX.mono ?_
    rintro e w1 ⟨rfl, rfl⟩
    go_wp2_with fail
    refine hY.mono ?_
    rintro e w1 ⟨rfl, rfl⟩
    go_wp2_with fail
    refine hX.mono ?_
    rintro e w1 ⟨rfl, rfl⟩
    go_wp2_with fail
    refine hY.mono ?_
    rintro e w1 ⟨rfl, rfl⟩
    go_wp2_with fail
    go_ret
    exact ⟨rfl, hs1⟩
  · have h3 : ((q : Int) == r) = false := by simpa using h2
    have h5 : decide (q < r) = false := decide_eq_false h1
    have e : (decide (q < r) || (q == r && decide (x < y))) = false := by simp [h1, h2]
    rw [e]
    clear e
    go_enter Try.func23, Try.ntmps23
    go_wp2_with fail
    refine hX.mono ?_
    rintro e w1 ⟨rfl, rfl⟩
    go_wp2_with fail
    refine hY.mono ?_
    rintro e w1 ⟨rfl, rfl⟩
    go_wp2_with fail
    refine hX.mono ?_
    rintro e w1 ⟨rfl, rfl⟩
    go_wp2_with fail
    refine hY.mono ?_
    rintro e w1 ⟨rfl, rfl⟩
    go_wp2_with fail
    go_ret
    exact ⟨rfl, hs1⟩
theorem lesser_asks (hc : ks.length ≤ c ∧ c ≤ 9223372036854775807) (hk : KeysIn o a c ks rest) : Asks (Ob.lesser o (.slice a ks.length c) rest) oneMoreC (fun _ => True) (ltK (keyL ks)) (fun _ => True) 45 (ptrV o) ⟨23, ptrV o⟩ where
  there _ := trivial
  meth := ⟨fun w _ => by kernel_rfl, fun args w => by kernel_rfl⟩
  ask := by
    intro s w F x y _ _ hO
    have hlt := (Ob.lesser o (.slice a ks.length c) rest s).lt hO
    exact (lahead_c hc hk (Ob.group.open hO) x y).mono fun e w' ⟨h1, h2⟩ => ⟨h1, _, rfl, h2.close hlt⟩
/-- Carry, with keys as its order, and whatever lies beside. -/
theorem lesser_carry {p n : Nat} {K : Int → List Int} {a1 b1 : Option Addr} {ca cb : Nat} {la lb : List Int} (hc : ks.length ≤ c ∧ c ≤ 9223372036854775807) (hk : KeysIn o a c ks rest) (hca : la.length ≤ ca ∧ ca ≤ 9223372036854775807) (hcb : lb.length ≤ cb ∧ cb ≤ 9223372036854775807)
    (hV : ∀ {F0 : Nat → Prop} {W w : World} {s : Int}, Stage F0 W (Ob.box o #[.slice a ks.length c, .int .i64 s] 47 :: rest) w → IntsAt w .i64 a1 la ∧ IntsAt w .i64 b1 lb)
    (hs : Stage F0 W0 (Ob.forest p n K :: Ob.box o #[.slice a ks.length c, .int .i64 s] 47 :: rest) w) (hRA : RowK n K la) (hRB : RowK n K lb) (hd : ¬ ∃ x ∈ la, x ∈ lb) :
    Calls Try.prog 18 #[.pointer (some ⟨p, 0, none⟩), .iface 45 (ptrV o), .slice a1 la.length ca, .slice b1 lb.length cb] w fun e w' => ∃ z m cz K' s' k r, e = .returned (.tuple #[.slice z m cz, .bool true]) ∧ (∃ r', Links n (fun x y => ltK (keyL ks) x y = true) K (la ++ lb) k K' r' ∧ r'.Perm r) ∧ RowK n K' r ∧ Turns oneMoreC k s s' ∧
      Stage F0 W0 (Ob.forest p n K' :: Ob.ints (.slice z m cz) r :: Ob.box o #[.slice a ks.length c, .int .i64 s'] 47 :: rest) w' := by
  have h1 : Stage F0 W0 ([Ob.forest p n K, Ob.lesser o (.slice a ks.length c) rest s] ++ []) w := Stage.regroup (l := [Ob.forest p n K]) hs
  refine (Stage.carryYes (lesser_asks hc hk) (fun x y h => by rw [ltK_not]; rw [ltK_iff] at h; omega) (fun _ _ => trivial) ⟨fun ho => hV (Ob.group.open ho), hca, hcb⟩ h1 hRA hRB hd).mono ?_
  rintro e w' ⟨z, m, cz, K', s', k, r, he, h2, h3, h4, h5⟩
  refine ⟨z, m, cz, K', s', k, r, he, h2, h3, h4, ?_⟩
  have h6 := h5.select [0, 2, 1] (by decide) rfl
  exact Stage.ungroup (l := [Ob.forest p n K', Ob.ints (.slice z m cz) r]) h6
theorem lesser_carry_no {p n : Nat} {K : Int → List Int} {a1 b1 : Option Addr} {ca cb : Nat} {la lb : List Int} (hca : la.length ≤ ca ∧ ca ≤ 9223372036854775807) (hcb : lb.length ≤ cb ∧ cb ≤ 9223372036854775807)
    (hV : ∀ {F0 : Nat → Prop} {W w : World} {s : Int}, Stage F0 W (Ob.box o #[.slice a ks.length c, .int .i64 s] 47 :: rest) w → IntsAt w .i64 a1 la ∧ IntsAt w .i64 b1 lb)
    (hs : Stage F0 W0 (Ob.forest p n K :: Ob.box o #[.slice a ks.length c, .int .i64 s] 47 :: rest) w) (hno : ¬ (RowK n K la ∧ RowK n K lb ∧ ¬ ∃ x ∈ la, x ∈ lb)) :
    Calls Try.prog 18 #[.pointer (some ⟨p, 0, none⟩), .iface 45 (ptrV o), .slice a1 la.length ca, .slice b1 lb.length cb] w fun e w' => e = .returned (.tuple #[.slice none 0 0, .bool false]) ∧ Stage F0 W0 (Ob.forest p n K :: Ob.box o #[.slice a ks.length c, .int .i64 s] 47 :: rest) w' := by
  have h1 : Stage F0 W0 ([Ob.forest p n K, Ob.lesser o (.slice a ks.length c) rest s] ++ []) w := Stage.regroup (l := [Ob.forest p n K]) hs
  refine (Stage.carryNo (O := Ob.lesser o (.slice a ks.length c) rest) (g := s) ⟨fun ho => hV (Ob.group.open ho), hca, hcb⟩ h1 hno).mono ?_
  rintro e w' ⟨he, h5⟩
  exact ⟨he, Stage.ungroup (l := [Ob.forest p n K]) h5⟩
theorem ltK_asym (f : Int → Int) (x y : Int) (h : ltK f x y = true) : ltK f y x = false := by
  rw [ltK_not]
  rw [ltK_iff] at h
  omega
end
end Go.Proofs.Ytbllfokagedpeaa

namespace Go.Proofs.Ytbllfokagedpeaa

section
variable {n : Nat} {K K' : Int → List Int} {ahead : Int → Int → Prop}
theorem perm_pair {a b x y : Int} {r : List Int} (h : [a, b].Perm (x :: y :: r)) : r = [] ∧ (x = a ∧ y = b ∨ x = b ∧ y = a) := by
  have hl := h.length_eq
  simp at hl
  subst hl
  refine ⟨rfl, ?_⟩
  have hx := (h.mem_iff (a := x)).2 (by simp)
  simp at hx
  rcases hx with e | e
  · subst e
    have h2 := (List.perm_cons x).1 h
    have := h2.mem_iff.2 (List.mem_singleton.2 (rfl : y = y))
    simp at this
    exact Or.inl ⟨rfl, this⟩
  · subst e
    have h2 := (List.Perm.swap a x []).trans h
    have h3 := (List.perm_cons x).1 h2
    have := h3.mem_iff.2 (List.mem_singleton.2 (rfl : y = y))
    simp at this
    exact Or.inr ⟨rfl, this⟩
theorem carry_pair {a b : Int} {k : Nat} {m r : List Int} (hd : (K a).length = (K b).length) (hl : Links n ahead K [a, b] k K' m) (hm : m.Perm r) (hr : RowK n K' r) :
    (K' = linkK K a b ∧ r = [a] ∧ ¬ ahead b a) ∨ (K' = linkK K b a ∧ r = [b] ∧ ¬ ahead a b) := by
  cases hl with
  | start p =>
    have hp := p.trans hm
    have h2 := hr.rise
    match r, hp with
    | [x, y], hp =>
      obtain ⟨_, e⟩ := perm_pair hp
      have h3 := (List.pairwise_cons.1 h2).1 y (by simp)
      rcases e with ⟨rfl, rfl⟩ | ⟨rfl, rfl⟩ <;> omega
    | [], hp => have := hp.length_eq; simp at this
    | [x], hp => have := hp.length_eq; simp at this
    | x :: y :: z :: r, hp => have := hp.length_eq; simp at this
  | @link k K1 m1 x y r1 h p hdeg ha =>
    cases h with
    | start p1 =>
      obtain ⟨e1, e2⟩ := perm_pair (p1.trans p)
      subst e1
      have e3 : r = [x] := List.perm_singleton.1 hm.symm
      rcases e2 with ⟨rfl, rfl⟩ | ⟨rfl, rfl⟩
      · exact Or.inl ⟨rfl, e3, ha⟩
      · exact Or.inr ⟨rfl, e3, ha⟩
    | @link k K2 m2 x2 y2 r2 h2 p2 hdeg2 ha2 =>
      have hlen : ∀ {k K2 m2}, Links n ahead K [a, b] k K2 m2 → m2.length + k = 2 := fun {k K2 m2} h => by
        induction h with
        | start p => have := p.length_eq; simp at this; omega
        | link _ p _ _ ih => have := p.length_eq; simp at this ⊢; omega
      have h3 := hlen h2
      have h4 := p2.length_eq
      have h5 := p.length_eq
      simp at h4 h5
      omega
end
/-- The example's first two rows, and the third. -/
theorem links_3 : linkK (linkK (linkK (fun _ => []) 0 1) 2 3) 0 2 0 = [1, 2] := by simp [linkK]
theorem row_one {n : Nat} {K : Int → List Int} {x : Int} (h : inN n x) (t : topK K x) : RowK n K [x] := ⟨fun y hy => by rw [List.mem_singleton.1 hy]; exact h, fun y hy => by rw [List.mem_singleton.1 hy]; exact t, List.pairwise_singleton _ _⟩
theorem row_nil (n : Nat) (K : Int → List Int) : RowK n K [] := ⟨fun _ h => (by cases h), fun _ h => (by cases h), List.Pairwise.nil⟩
end Go.Proofs.Ytbllfokagedpeaa
