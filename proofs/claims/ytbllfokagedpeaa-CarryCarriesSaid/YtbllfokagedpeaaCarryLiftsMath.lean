/- Merged of CarryPlay, CarryTold, CarryCountMath, CarryLiftsMath. -/
import Derived.Test.YtbllfokagedpeaaCarryAliveMath
import Derived.Test.YtbllfokagedpeaaCarryLiftCall
import Derived.Test.YtbllfokagedpeaaCarrySplit
namespace Go.Proofs.Ytbllfokagedpeaa
open Go.RowKit Go.Sort

def CActsAt (w : World) (a0 : Option Addr) (n0 : Nat) : Prop := ∀ k, k < n0 → ∃ b off x y z, a0 = some ⟨b, off, none⟩ ∧ w.cell? ⟨b, off + k * 3, none⟩ = some (.int .i64 x) ∧ w.cell? ⟨b, off + k * 3 + 1, none⟩ = some (.int .i64 y) ∧ w.cell? ⟨b, off + k * 3 + 2, none⟩ = some (.int .i64 z)
/-- Behind play: both forests are one. -/
def PlayPost (W : World) (p n : Nat) (e : Ending) (w' : World) : Prop := ∃ a c K, e = .returned (.tuple #[.slice a n c, .bool true]) ∧ Stage (oldF W) W [Ob.forest p n K, Ob.docK (.slice a n c) n K, Ob.old W] w'
set_option maxRecDepth 100000 in
set_option maxHeartbeats 8000000 in
theorem play_st {W w : World} {p n : Nat} (a0 : Option Addr) (n0 cap : Nat) (hcap : n0 ≤ cap ∧ cap ≤ 9223372036854775807) (hact : CActsAt W a0 n0) (hs : Stage (oldF W) W [Ob.forest p n (fun _ => []), Ob.old W] w) :
    Calls Try.prog 14 #[.pointer (some ⟨p, 0, none⟩), .int .i64 n, .slice a0 n0 cap] w (PlayPost W p n) := by
  obtain ⟨hcap1, hcap2⟩ := hcap
  obtain ⟨_, hn⟩ := hs.forestInv 0 rfl
  have hmk := made_forest n hn
  have hs1 : Stage (oldF W) W [Ob.forest p n (fun _ => []), Ob.docK (.slice (some ⟨w.heap.size, 0, none⟩) n n) n (fun _ => []), Ob.old W] (w.alloc (.cells (madeCells #[.slice none 0 0] n) 30)) := by
    have h1 := (hs.madeForest n hn).weaken (i := 2) (O' := Ob.docK (.slice (some ⟨w.heap.size, 0, none⟩) n n) n (fun _ => [])) rfl (fun F h1 => ⟨(Ob.row _ _ _ _ _ _).lt h1, doc_of_row h1.1 (fun b hb => by rw [h1.2]; exact hb) fun i hi => ⟨.slice none 0 0, by simp [hi], Or.inl ⟨rfl, rfl⟩⟩⟩)
    exact h1.select [0, 2, 1] (by decide) rfl
  clear hs
  go_enter Try.func14, Try.ntmps14
  go_wp2_with fail
  go_loopw [8, 22] (fun v i wr => ∃ (k : Nat) (K : Int → List Int) (a : Option Addr) (c : Nat), v = .slice a n c ∧ k ≤ n0 ∧ i = .int .i64 k ∧ Stage (oldF W) W [Ob.forest p n K, Ob.docK (.slice a n c) n K, Ob.old W] wr) (fun _ i _ => n0 - (intOf i).toNat)
  case atStart => exact ⟨0, _, _, _, rfl, Nat.zero_le _, rfl, hs1⟩
  case round =>
    clear hs1
    obtain ⟨k, K, a, c, rfl, hk, rfl, hs⟩ := hrel
    obtain ⟨I, _⟩ := hs.forestInv 0 rfl
    by_cases hlt : k < n0
    · have hki : (k : Int) < n0 := by omega
      obtain ⟨ba, offa, x, y, z, rfl, q0, q1, q2⟩ := hact k hlt
      have hbo := hs.oldBelow 2 rfl
      replace q0 := later hbo q0
      replace q1 := later hbo q1
      replace q2 := later hbo q2
      obtain ⟨w1, hw1, hs1⟩ : ∃ w1, wr.alloc (.cells #[.int .i64 x, .int .i64 y, .int .i64 z] 65) = w1 ∧ Stage (oldF W) W [Ob.forest p n K, Ob.docK (.slice a n c) n K, Ob.old W, Ob.box wr.heap.size #[.int .i64 x, .int .i64 y, .int .i64 z] 65] w1 := ⟨_, rfl, hs.alloc _ _⟩
      have b0 := hs1.cell 3 rfl (o := 0) rfl
      have b1 := hs1.cell 3 rfl (o := 1) rfl
      have b2 := hs1.cell 3 rfl (o := 2) rfl
      obtain ⟨_, _, hv9, hc1, hc2⟩ := (hs1.docKAt 1 rfl).elim fun _ h => h.form
      cases hv9
      clear hs hact hbo
      by_cases h0 : x = 0
      · subst h0
        have hL := hs1.docCall (r := fun u => .tuple #[u, .bool (linkB n K y z)]) 1 rfl (fun F ho => rLink I hn ho y z)
        have hP := fun (wx : World) a' c' (h : Stage (oldF W) W [Ob.forest p n K, Ob.docK (.slice a' n c') n (linkF n K y z), Ob.old W, Ob.box wr.heap.size #[.int .i64 0, .int .i64 y, .int .i64 z] 65] wx) => h.call 0 rfl (fun F ho => link_cy y z ho)
        generalize linkF n K y z = K2 at *
        have e1 : (linkB n K y z == linkB n K y z) = true := by simp
        generalize linkB n K y z = B at *
        clear hs1 I
        go_wp2_with fail
        try rw [hw1]
        clear hw1 q0 q1 q2
        generalize wr.heap.size = bX at *
        refine hL.mono ?_
        rintro e w2 ⟨a2, c2, rfl, hs2⟩
        replace hs2 : Stage (oldF W) W [Ob.forest p n K, Ob.docK (.slice a2 n c2) n K2, Ob.old W, Ob.box bX #[.int .i64 0, .int .i64 y, .int .i64 z] 65] w2 := hs2
        clear hL b0 b1 b2
        have b1 := hs2.cell 3 rfl (o := 1) rfl
        have b2 := hs2.cell 3 rfl (o := 2) rfl
        replace hP := hP w2 a2 c2 hs2
        clear hs2
        go_wp2_with fail
        refine hP.mono ?_
        rintro e w3 ⟨rfl, hs3⟩
        replace hs3 : Stage (oldF W) W [Ob.forest p n K2, Ob.docK (.slice a2 n c2) n K2, Ob.old W, Ob.box bX #[.int .i64 0, .int .i64 y, .int .i64 z] 65] w3 := hs3
        clear hP b1 b2
        have hT1 := same_st hs3 0 1 rfl rfl y
        have b1 := hs3.cell 3 rfl (o := 1) rfl
        have b2 := hs3.cell 3 rfl (o := 2) rfl
        go_wp2_with fail
        refine hT1.mono ?_
        rintro e wa ⟨rfl, hb⟩
        have hsa := hs3.later hb
        clear hT1 hb b1 b2 hs3
        have hT2 := same_st hsa 0 1 rfl rfl z
        have b2 := hsa.cell 3 rfl (o := 2) rfl
        go_wp2_with fail
        refine hT2.mono ?_
        rintro e wb ⟨rfl, hb⟩
        have hsb := (hsa.later hb).take 3
        clear hT2 hb b2 hsa
        go_wp2_with fail
        go_roundw
        case rel => exact ⟨k + 1, _, _, _, rfl, by omega, by go_num, hsb⟩
        case measure => simp [intOf]; omega
      have h0' : (x == 0) = false := by simpa using h0
      by_cases h1 : x = 1
      · subst h1
        have hL := hs1.docCallL (m := splitL n K y) (r := fun u t => .tuple #[u, t]) 1 rfl (fun F ho => rSplit I hn ho y)
        have hP := fun (wx : World) a' c' a2 c2 (h : Stage (oldF W) W ([Ob.forest p n K] ++ [Ob.docKL (.slice a' n c') n (splitF n K y) (.slice a2 (splitL n K y).length c2) (splitL n K y), Ob.old W, Ob.box wr.heap.size #[.int .i64 1, .int .i64 y, .int .i64 z] 65]) wx) => h.splitCall y
        generalize splitF n K y = K2 at *
        generalize splitL n K y = L at *
        clear hs1 I
        go_wp2_with fail
        try rw [hw1]
        clear hw1 q0 q1 q2
        generalize wr.heap.size = bX at *
        refine hL.mono ?_
        rintro e w2 ⟨a2, c2, a3, c3, rfl, hs2⟩
        replace hs2 : Stage (oldF W) W [Ob.forest p n K, Ob.docKL (.slice a2 n c2) n K2 (.slice a3 L.length c3) L, Ob.old W, Ob.box bX #[.int .i64 1, .int .i64 y, .int .i64 z] 65] w2 := hs2
        clear hL b0 b1 b2
        have b1 := hs2.cell 3 rfl (o := 1) rfl
        replace hP := hP w2 a2 c2 a3 c3 hs2
        clear hs2
        go_wp2_with fail
        refine hP.mono ?_
        rintro e w3 ⟨v3, rfl, hs3⟩
        replace hs3 : Stage (oldF W) W [Ob.forest p n K2, Ob.ints v3 L, Ob.docKL (.slice a2 n c2) n K2 (.slice a3 L.length c3) L, Ob.old W, Ob.box bX #[.int .i64 1, .int .i64 y, .int .i64 z] 65] w3 := hs3
        clear hP b1
        obtain ⟨va, vc, rfl, g1, g2⟩ := hs3.intsForm 1 rfl
        have hA1 := hs3.intsAtI 1 rfl
        obtain ⟨_, _, e9, g3, g4, hA2⟩ := (hs3.get (i := 2) rfl).elim fun F ho => ho.2.form
        cases e9
        have hS := same_at L L va a3 vc c3 ⟨g1, g2⟩ ⟨g3, g4⟩ hA1 hA2
        rw [decide_eq_true rfl] at hS
        have hs4 := (hs3.weaken (i := 2) (O' := Ob.docK (.slice a2 n c2) n K2) rfl (fun F ho => ho.1)).select [0, 2, 3, 4] (by decide) rfl
        replace hs4 : Stage (oldF W) W [Ob.forest p n K2, Ob.docK (.slice a2 n c2) n K2, Ob.old W, Ob.box bX #[.int .i64 1, .int .i64 y, .int .i64 z] 65] w3 := hs4
        clear hA1 hA2 hs3
        generalize L.length = m at *
        go_wp2_with fail
        refine hS.mono ?_
        rintro e w4 ⟨rfl, hb⟩
        have hs5 := hs4.later hb
        clear hS hs4 hb
        have hT1 := same_st hs5 0 1 rfl rfl y
        have b1 := hs5.cell 3 rfl (o := 1) rfl
        have b2 := hs5.cell 3 rfl (o := 2) rfl
        go_wp2_with fail
        refine hT1.mono ?_
        rintro e wa ⟨rfl, hb⟩
        have hsa := hs5.later hb
        clear hT1 hb b1 b2 hs5
        have hT2 := same_st hsa 0 1 rfl rfl z
        have b2 := hsa.cell 3 rfl (o := 2) rfl
        go_wp2_with fail
        refine hT2.mono ?_
        rintro e wb ⟨rfl, hb⟩
        have hsb := (hsa.later hb).take 3
        clear hT2 hb b2 hsa
        go_wp2_with fail
        go_roundw
        case rel => exact ⟨k + 1, _, _, _, rfl, by omega, by go_num, hsb⟩
        case measure => simp [intOf]; omega
      have h1' : (x == 1) = false := by simpa using h1
      by_cases h2 : x = 2
      · subst h2
        have hL := hs1.docCall (r := fun u => .tuple #[u, .bool (upK K y).isSome]) 1 rfl (fun F ho => rLift I hn ho y)
        have hP := fun (wx : World) a' c' (h : Stage (oldF W) W ([Ob.forest p n K] ++ [Ob.docK (.slice a' n c') n (liftF K y), Ob.old W, Ob.box wr.heap.size #[.int .i64 2, .int .i64 y, .int .i64 z] 65]) wx) => h.liftCall y
        generalize liftF K y = K2 at *
        have e1 : ((upK K y).isSome == (upK K y).isSome) = true := by simp
        generalize (upK K y).isSome = B at *
        clear hs1 I
        go_wp2_with fail
        try rw [hw1]
        clear hw1 q0 q1 q2
        generalize wr.heap.size = bX at *
        refine hL.mono ?_
        rintro e w2 ⟨a2, c2, rfl, hs2⟩
        replace hs2 : Stage (oldF W) W [Ob.forest p n K, Ob.docK (.slice a2 n c2) n K2, Ob.old W, Ob.box bX #[.int .i64 2, .int .i64 y, .int .i64 z] 65] w2 := hs2
        clear hL b0 b1 b2
        have b1 := hs2.cell 3 rfl (o := 1) rfl
        replace hP := hP w2 a2 c2 hs2
        clear hs2
        go_wp2_with fail
        refine hP.mono ?_
        rintro e w3 ⟨rfl, hs3⟩
        replace hs3 : Stage (oldF W) W [Ob.forest p n K2, Ob.docK (.slice a2 n c2) n K2, Ob.old W, Ob.box bX #[.int .i64 2, .int .i64 y, .int .i64 z] 65] w3 := hs3
        clear hP b1
        have hT1 := same_st hs3 0 1 rfl rfl y
        have b1 := hs3.cell 3 rfl (o := 1) rfl
        have b2 := hs3.cell 3 rfl (o := 2) rfl
        go_wp2_with fail
        refine hT1.mono ?_
        rintro e wa ⟨rfl, hb⟩
        have hsa := hs3.later hb
        clear hT1 hb b1 b2 hs3
        have hT2 := same_st hsa 0 1 rfl rfl z
        have b2 := hsa.cell 3 rfl (o := 2) rfl
        go_wp2_with fail
        refine hT2.mono ?_
        rintro e wb ⟨rfl, hb⟩
        have hsb := (hsa.later hb).take 3
        clear hT2 hb b2 hsa
        go_wp2_with fail
        go_roundw
        case rel => exact ⟨k + 1, _, _, _, rfl, by omega, by go_num, hsb⟩
        case measure => simp [intOf]; omega
      have h2' : (x == 2) = false := by simpa using h2
      clear I b1 b2
      have hT0 := same_st hs1 0 1 rfl rfl y
      have b1 := hs1.cell 3 rfl (o := 1) rfl
      have b2 := hs1.cell 3 rfl (o := 2) rfl
      go_wp2_with fail
      try rw [hw1]
      clear hw1 q0 q1 q2 b0
      generalize wr.heap.size = bX at *
      refine hT0.mono ?_
      rintro e wa ⟨rfl, hb⟩
      have hsa := hs1.later hb
      clear hT0 hb b1 b2 hs1
      have hT2 := same_st hsa 0 1 rfl rfl z
      have b2 := hsa.cell 3 rfl (o := 2) rfl
      go_wp2_with fail
      refine hT2.mono ?_
      rintro e wb ⟨rfl, hb⟩
      have hsb := (hsa.later hb).take 3
      clear hT2 hb b2 hsa
      go_wp2_with fail
      go_roundw
      case rel => exact ⟨k + 1, _, _, _, rfl, by omega, by go_num, hsb⟩
      case measure => simp [intOf]; omega
    · have hki : ¬ (k : Int) < n0 := by omega
      clear hact I
      go_wp2_with fail
      go_ret2
      exact ⟨_, _, _, rfl, hs⟩
end Go.Proofs.Ytbllfokagedpeaa

namespace Go.Proofs.Ytbllfokagedpeaa
open Go.RowKit Go.Sort

theorem Stage.toldCall {F0 : Nat → Prop} {W w : World} {l : List Ob} {p n : Nat} {K : Int → List Int} (hs : Stage F0 W l w) (i : Nat) (hi : l[i]? = some (Ob.forest p n K)) :
    Calls Try.prog 19 #[.pointer (some ⟨p, 0, none⟩), .int .i64 n] w fun e w' => ∃ a c, e = .returned (.slice a n c) ∧ Stage F0 W (l ++ [Ob.docK (.slice a n c) n K]) w' := by
  obtain ⟨F, ho⟩ := hs.get hi
  exact (told_any ho).mono fun e w' ⟨a, c, he, G, g1, g2, g3⟩ => ⟨a, c, he, hs.add g3 g1 g2⟩
theorem Stage.docForm' {F0 : Nat → Prop} {W w : World} {l : List Ob} {v : Value} {n : Nat} {K : Int → List Int} (hs : Stage F0 W l w) (i : Nat) (hi : l[i]? = some (Ob.docK v n K)) : ∃ a c, v = .slice a n c ∧ n ≤ c ∧ c ≤ 9223372036854775807 := (hs.docKAt i hi).elim fun _ h => h.form
theorem Stage.docAt {F0 : Nat → Prop} {W w : World} {l : List Ob} {v : Value} {n : Nat} {K : Int → List Int} (hs : Stage F0 W l w) (i : Nat) (hi : l[i]? = some (Ob.docK v n K)) {j : Nat} (hj : j < n) : ∃ g c ka kc, v = .slice (some ⟨g, 0, none⟩) n c ∧ w.cell? ⟨g, j, none⟩ = some (.slice ka (K j).length kc) ∧ (K j).length ≤ kc ∧ kc ≤ 9223372036854775807 ∧ IntsAt w .i64 ka (K j) :=
  (hs.docKAt i hi).elim fun _ h => by
    obtain ⟨g, c, ka, kc, e, h1, h2, h3, h4, _⟩ := h.at' hj
    exact ⟨g, c, ka, kc, e, h1, h2, h3, h4⟩
theorem Stage.docUp {F0 : Nat → Prop} {W w : World} {l : List Ob} {v : Value} {n : Nat} {K : Int → List Int} (hs : Stage F0 W l w) (i : Nat) (hi : l[i]? = some (Ob.docK v n K)) (I : CInv n K) (x : Int) :
    Calls Try.prog 22 #[v, .int .i64 x] w fun e w' => e = .returned (.tuple #[.int .i64 ((upK K x).getD 0), .bool (upK K x).isSome]) ∧ w = w' := (hs.docKAt i hi).elim fun _ h => rUp I h x
theorem Stage.docRow {F0 : Nat → Prop} {W w : World} {l : List Ob} {v : Value} {n : Nat} {K : Int → List Int} (hs : Stage F0 W l w) (i : Nat) (hi : l[i]? = some (Ob.docK v n K)) (I : CInv n K) (hn : n ≤ 65536) (m : List Int) (a : Option Addr) (c : Nat) (hc : m.length ≤ c ∧ c ≤ 9223372036854775807) (hm : IntsAt w .i64 a m) :
    Calls Try.prog 15 #[v, .slice a m.length c] w fun e w' => e = .returned (.bool (isRow n K m)) ∧ Below w.heap.size w w' := (hs.docKAt i hi).elim fun _ h => rRow I hn h m a c hc hm
theorem Stage.docCube {F0 : Nat → Prop} {W w : World} {l : List Ob} {v : Value} {n : Nat} {K : Int → List Int} (hs : Stage F0 W l w) (i : Nat) (hi : l[i]? = some (Ob.docK v n K)) (I : CInv n K) (hn : n ≤ 65536) (k : Nat) (hk : k ≤ 1000) (x : Int) (hx : inN n x) :
    Calls Try.prog 17 #[v, .int .i64 x, .int .i64 k] w fun e w' => e = .returned (.bool true) ∧ w = w' := (hs.docKAt i hi).elim fun _ h => rCube I hn k hk x w hx h
theorem Stage.docAll {F0 : Nat → Prop} {W w : World} {l : List Ob} {v : Value} {n : Nat} {K : Int → List Int} (hs : Stage F0 W l w) (i : Nat) (hi : l[i]? = some (Ob.docK v n K)) (I : CInv n K) (hn : n ≤ 65536) (k : Nat) (hk : k ≤ 1000) (x : Int) (hx : inN n x) :
    Calls Try.prog 21 #[v, .int .i64 x, .int .i64 k] w fun e w' => ∃ va vc, e = .returned (.slice va (allK K k x).length vc) ∧ Below w.heap.size w w' ∧ Stage F0 W (l ++ [Ob.ints (.slice va (allK K k x).length vc) (allK K k x)]) w' :=
  (hs.docKAt i hi).elim fun _ h => (ints_slice (rAll I hn k hk x w hx h)).mono fun _ _ ⟨va, vc, he, _, g1, g2, g3⟩ => ⟨va, vc, he, g3, hs.add g3 g1 g2⟩
end Go.Proofs.Ytbllfokagedpeaa

namespace Go.Proofs.Ytbllfokagedpeaa

section
variable {n : Nat} {K K' : Int → List Int} {lt : Int → Int → Bool}
/-- Behind i things: they are all below the row's roots; the others are alone. -/
structure Carried (n : Nat) (lt : Int → Int → Bool) (i : Nat) (K : Int → List Int) (r : List Int) : Prop where
  row : RowK n K r
  len : (allR K r).length = i
  lt_i : ∀ x ∈ allR K r, x < i
  off : ∀ x : Int, (i : Int) ≤ x → topK K x ∧ K x = []
  ord : ∀ p x, x ∈ K p → lt x p = false
theorem Carried.start (n : Nat) (lt : Int → Int → Bool) : Carried n lt 0 (fun _ => []) [] :=
  ⟨row_nil _ _, rfl, fun x h => (by cases h), fun x _ => ⟨fun p h => (by cases h), rfl⟩, fun p x h => (by cases h)⟩
theorem Carried.mem {i : Nat} {r : List Int} (I : CInv n K) (h : Carried n lt i K r) {x : Int} (hx : x ∈ r) : x < i := h.lt_i x (mem_allR.2 ⟨x, hx, tree_self I x⟩)
theorem Carried.one {i : Nat} {r : List Int} (h : Carried n lt i K r) (hi : i < n) : RowK n K [(i : Int)] := row_one ⟨by omega, by omega⟩ (h.off i (Int.le_refl _)).1
theorem Carried.apart {i : Nat} {r : List Int} (I : CInv n K) (h : Carried n lt i K r) : ¬ ∃ x ∈ r, x ∈ [(i : Int)] := fun ⟨x, h1, h2⟩ => by
  have := h.mem I h1
  rw [List.mem_singleton.1 h2] at this
  omega
theorem Carried.next {i k : Nat} {r r' m : List Int} (I : CInv n K) (h : Carried n lt i K r) (hi : i < n) (hl : Links n (fun x y => lt x y = true) K (r ++ [(i : Int)]) k K' m) (hm : m.Perm r') (hr : RowK n K' r') : Carried n lt (i + 1) K' r' := by
  have hroots : Roots n K (r ++ [(i : Int)]) := by
    have h1 := h.one hi
    exact ⟨fun x hx => (List.mem_append.1 hx).elim (h.row.inn x) (h1.inn x), fun x hx => (List.mem_append.1 hx).elim (h.row.top x) (h1.top x), List.nodup_append.2 ⟨h.row.roots.nodup, h1.roots.nodup, fun x hx y hy e => h.apart I ⟨x, hx, e ▸ hy⟩⟩⟩
  obtain ⟨I', h1, h2, h3, h4, h5, h6, h7, h8, h9⟩ := Links.all I hroots hl
  have hself : treeK K (i : Int) = [(i : Int)] := by rw [tree_eq I, (h.off i (Int.le_refl _)).2]; rfl
  have hall : (allR K' r').Perm (allR K r ++ [(i : Int)]) := by
    refine (allR_perm hm).symm.trans (h2.trans ?_)
    unfold allR
    rw [List.flatMap_append, List.flatMap_cons, List.flatMap_nil, List.append_nil, hself]
  refine ⟨hr, ?_, fun x hx => ?_, fun x hx => ?_, fun p x hx => ?_⟩
  · rw [hall.length_eq, List.length_append, h.len]; rfl
  · rcases List.mem_append.1 (hall.mem_iff.1 hx) with e | e
    · have := h.lt_i x e; omega
    · rw [List.mem_singleton.1 e]; omega
  · have hxl : x ∉ r ++ [(i : Int)] := fun h9 => by
      rcases List.mem_append.1 h9 with e | e
      · have := h.mem I e; omega
      · rw [List.mem_singleton.1 e] at hx; omega
    have h9 := h.off x (by omega)
    exact ⟨(h7 x hxl).2 h9.1, by rw [h6 x hxl]; exact h9.2⟩
  · rcases h4 p x hx with e | ⟨e, _⟩
    · exact h.ord p x e
    · simpa using e
end
/-- The places of the ones below b. -/
def onesB (N b : Nat) : List Nat := (List.range b).filter fun i => N.testBit i
theorem ones_succ (N b : Nat) : onesB N (b + 1) = onesB N b ++ (if N.testBit b then [b] else []) := digits_step N b
theorem ones_none (N b : Nat) : ∀ c, (∀ j, b ≤ j → N.testBit j = false) → b ≤ c → onesB N c = onesB N b := fun c h hc => by
  induction hc with
  | refl => rfl
  | step hbc ih => rw [ones_succ, h _ hbc]; simp [ih]
theorem ones_at (N b : Nat) : ∀ c, b < c → N.testBit b = true → (onesB N c)[(onesB N b).length]? = some b := fun c hc ht => by
  induction hc with
  | refl => rw [ones_succ, ht]; simp
  | @step m hbc ih =>
    rw [ones_succ]
    have h1 := (List.getElem?_eq_some_iff.1 ih).1
    rw [List.getElem?_append_left h1]
    exact ih
theorem carried_digits {n : Nat} {K : Int → List Int} {lt : Int → Int → Bool} {i : Nat} {r : List Int} (I : CInv n K) (h : Carried n lt i K r) (hi : i < 128) : (r.map fun x => (K x).length) = onesB i 7 := by
  have := h.row.digits I (k := 7) (by rw [h.len]; exact hi)
  rw [h.len] at this
  exact this
theorem carried_at {n : Nat} {K : Int → List Int} {lt : Int → Int → Bool} {i : Nat} {r : List Int} (I : CInv n K) (h : Carried n lt i K r) (hi : i < 128) {b : Nat} (hb : b < 7) (ht : i.testBit b = true) : (onesB i b).length < r.length ∧ (K (r.getD (onesB i b).length 0)).length = b := by
  have h1 := carried_digits I h hi
  have h2 := ones_at i b 7 hb ht
  rw [← h1, List.getElem?_map] at h2
  cases e : r[(onesB i b).length]? with
  | none => rw [e] at h2; cases h2
  | some x =>
    rw [e] at h2
    have h3 := (List.getElem?_eq_some_iff.1 e).1
    refine ⟨h3, ?_⟩
    have h4 : r.getD (onesB i b).length 0 = x := by simp [List.getD_eq_getElem?_getD, e]
    rw [h4]
    simpa using h2
theorem carried_end {n : Nat} {K : Int → List Int} {lt : Int → Int → Bool} {i : Nat} {r : List Int} (I : CInv n K) (h : Carried n lt i K r) (hi : i < 128) {b : Nat} (hb : b ≤ 7) (h0 : i >>> b = 0) : (onesB i b).length = r.length := by
  have h1 := carried_digits I h hi
  have h2 : ∀ j, b ≤ j → i.testBit j = false := fun j hj => by
    have : (i >>> b).testBit (j - b) = false := by rw [h0]; exact Nat.zero_testBit _
    rw [Nat.testBit_shiftRight] at this
    rwa [show b + (j - b) = j by omega] at this
  have h3 := ones_none i b 7 h2 hb
  rw [← h3, ← h1, List.length_map]
theorem shift_and (N b : Nat) : (N >>> b) % 2 = if N.testBit b then 1 else 0 := by
  have h : N.testBit b = ((N >>> b) % 2 == 1) := by
    rw [Nat.testBit_eq_decide_div_mod_eq, Nat.shiftRight_eq_div_pow]
    cases h2 : decide (N / 2 ^ b % 2 = 1)
    · have := of_decide_eq_false h2; simp [this]
    · have := of_decide_eq_true h2; simp [this]
  rw [h]
  have : (N >>> b) % 2 = 0 ∨ (N >>> b) % 2 = 1 := by omega
  rcases this with e | e <;> simp [e]
end Go.Proofs.Ytbllfokagedpeaa

namespace Go.Proofs.Ytbllfokagedpeaa

def lastOf (x : Int) (l : List Int) : Int := (x :: l).getLast (by simp)
theorem lastOf_cons (x p : Int) (l : List Int) : lastOf x (p :: l) = lastOf p l := List.getLast_cons (by simp)
section
variable {n : Nat} {K : Int → List Int}
theorem anc_up (I : CInv n K) {t : Int} {m : List Int} (h : Anc K t m) : upK K t = m.head? := by
  cases m with
  | nil => exact upK_none.2 h
  | cons p m => exact (upK_some I).2 h.1
theorem lastOf_deg (I : CInv n K) {x : Int} {l : List Int} (h : Anc K x l) (hl : l ≠ []) : (K x).length < (K (lastOf x l)).length := by
  cases l with
  | nil => exact absurd rfl hl
  | cons p l =>
    have := anc_deg I h (lastOf x (p :: l)) (by unfold lastOf; rw [List.getLast_cons (by simp)]; exact List.getLast_mem _)
    exact this
theorem lastOf_in (I : CInv n K) : ∀ {l : List Int} {x : Int}, Anc K x l → inN n x → inN n (lastOf x l)
  | [], _, _, hx => hx
  | p :: l, x, h, _ => by rw [lastOf_cons]; exact lastOf_in I h.2 (I.rng p x h.1).1
theorem anc_short (I : CInv n K) {x : Int} {l : List Int} (h : Anc K x l) (hx : inN n x) : l.length < n := by
  have h1 := anc_len I h
  have h2 := deg_lt_n I (lastOf_in I h hx)
  unfold lastOf at h2
  omega
/-- So far up, step by step. -/
def Climb (K : Int → List Int) (x : Int) (l : List Int) (j : Nat) (t : Int) : Prop := ∃ m, Anc K t m ∧ m.length = l.length - j ∧ lastOf t m = lastOf x l
theorem Climb.start {x : Int} {l : List Int} (h : Anc K x l) : Climb K x l 0 x := ⟨l, h, rfl, rfl⟩
theorem Climb.goUp (I : CInv n K) {x : Int} {l : List Int} {j : Nat} {t p : Int} (h : Climb K x l j t) (hu : upK K t = some p) : Climb K x l (j + 1) p := by
  obtain ⟨m, h1, h2, h3⟩ := h
  rw [anc_up I h1] at hu
  cases m with
  | nil => cases hu
  | cons q m =>
    cases hu
    refine ⟨m, h1.2, ?_, ?_⟩
    · simp only [List.length_cons] at h2; omega
    · rw [← lastOf_cons t]; exact h3
theorem Climb.stay (I : CInv n K) {x : Int} {l : List Int} {j : Nat} {t : Int} (h : Climb K x l j t) (hu : upK K t = none) : Climb K x l (j + 1) t := by
  obtain ⟨m, h1, h2, h3⟩ := h
  rw [anc_up I h1] at hu
  cases m with
  | cons q m => cases hu
  | nil => exact ⟨[], h1, by simp only [List.length_nil] at h2 ⊢; omega, h3⟩
theorem Climb.fin {x : Int} {l : List Int} {j : Nat} {t : Int} (h : Climb K x l j t) (hj : l.length ≤ j) : t = lastOf x l := by
  obtain ⟨m, _, h2, h3⟩ := h
  have : m = [] := List.length_eq_zero_iff.1 (by omega)
  subst this
  exact h3
/-- So often lifted. -/
structure Lifted (n : Nat) (K0 : Int → List Int) (x : Int) (l : List Int) (j : Nat) (K : Int → List Int) : Prop where
  anc : ∃ m, Anc K x m ∧ m.length + j = l.length ∧ (K (lastOf x m)).length = (K0 (lastOf x l)).length
theorem Lifted.start {K0 : Int → List Int} {x : Int} {l : List Int} (h : Anc K0 x l) : Lifted n K0 x l 0 K0 := ⟨l, h, rfl, rfl⟩
theorem Lifted.stay (I : CInv n K) {K0 : Int → List Int} {x : Int} {l : List Int} {j : Nat} (h : Lifted n K0 x l j K) (hu : upK K x = none) : j = l.length ∧ (K x).length = (K0 (lastOf x l)).length := by
  obtain ⟨m, h1, h2, h3⟩ := h.anc
  rw [anc_up I h1] at hu
  cases m with
  | cons q m => cases hu
  | nil => exact ⟨by simpa using h2, h3⟩
theorem Lifted.goUp (I : CInv n K) {K0 : Int → List Int} {x p : Int} {l : List Int} {j : Nat} (h : Lifted n K0 x l j K) (hu : upK K x = some p) : Lifted n K0 x l (j + 1) (liftF K x) ∧ j < l.length := by
  obtain ⟨m, h1, h2, h3⟩ := h.anc
  have hu2 := hu
  rw [anc_up I h1] at hu2
  cases m with
  | nil => cases hu2
  | cons q m =>
    cases hu2
    have e : liftF K x = liftK K x p := by unfold liftF; rw [hu]
    rw [e]
    refine ⟨⟨m, anc_lift I h1, by simp only [List.length_cons] at h2; omega, ?_⟩, by simp only [List.length_cons] at h2; omega⟩
    rw [← h3]
    exact top_lift I h1
end
end Go.Proofs.Ytbllfokagedpeaa
