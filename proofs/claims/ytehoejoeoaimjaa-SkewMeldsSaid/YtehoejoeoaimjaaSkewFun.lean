/- Merged of NestMin, SkewFun. -/
import Derived.Test.YtehoejoeoaimjaaNestRef8
import Derived.Test.YtehoejoeoaimjaaNestMinMath
import Derived.Test.YtehoejoeoaimjaaSkewDown
namespace Go.Proofs.Ytehoejoeoaimjaa
open Go.RowKit Go.Sort

def minI (W : WS) (h : Int) : Int := match minW W h with | none => 0 | some m => m
def minB (W : WS) (h : Int) : Bool := (minW W h).isSome
theorem minI_some {W : WS} {h : Int} {m : Nat} (e : minW W h = some m) : minI W h = m ∧ minB W h = true := by simp [minI, minB, e]
theorem minI_none {W : WS} {h : Int} (e : minW W h = none) : minI W h = 0 ∧ minB W h = false := by simp [minI, minB, e]
def bestI (W : WS) (h : Int) (k : Nat) : Int := match minTo W h k with | none => -1 | some m => m
theorem best_zero (W : WS) (h : Int) : bestI W h 0 = -1 := rfl
theorem best_lt (W : WS) (h : Int) (k : Nat) (hk : k ≤ W.cells.length) : -1 ≤ bestI W h k ∧ bestI W h k < k := by
  unfold bestI
  cases e : minTo W h k with
  | none => simp only; omega
  | some m => have := (minTo_some k hk m e).1; simp only; omega
theorem best_no {W : WS} {h : Int} {k : Nat} (hc : ¬ (0 < h ∧ ((W.cells.getD k .off).home : Int) = h)) : bestI W h (k + 1) = bestI W h k := by
  unfold bestI
  rw [minTo, if_neg (show ¬ (0 < h ∧ (homeAt W k : Int) = h) from hc)]
theorem best_first {W : WS} {h : Int} {k : Nat} (hc : 0 < h ∧ ((W.cells.getD k .off).home : Int) = h) (hb : bestI W h k < 0) : bestI W h (k + 1) = k := by
  unfold bestI at *
  rw [minTo, if_pos (show 0 < h ∧ (homeAt W k : Int) = h from hc)]
  cases e : minTo W h k with
  | none => rfl
  | some m => rw [e] at hb; simp only at hb; omega
theorem best_next {W : WS} {h : Int} {k : Nat} (hc : 0 < h ∧ ((W.cells.getD k .off).home : Int) = h) (hb : ¬ bestI W h k < 0) : bestI W h (k + 1) = if aheadW W k (bestI W h k) then (k : Int) else bestI W h k := by
  unfold bestI at *
  rw [minTo, if_pos (show 0 < h ∧ (homeAt W k : Int) = h from hc)]
  cases e : minTo W h k with
  | none => rw [e] at hb; simp at hb
  | some m => simp only; cases aheadW W k m <;> rfl
theorem best_end (W : WS) (h : Int) : (bestI W h W.cells.length < 0 → minI W h = 0 ∧ minB W h = false) ∧ (0 ≤ bestI W h W.cells.length → minI W h = bestI W h W.cells.length ∧ minB W h = true) := by
  unfold bestI minI minB minW
  cases e : minTo W h W.cells.length with
  | none => simp
  | some m => simp
section
variable {w : World} {hv cv : Value} {W : WS}
theorem refmin_any (y : Int) (h : NestAt w hv cv W) : Calls Try.prog 35 #[.agg #[hv, cv], .int .i64 y] w fun e w' => e = .returned (.tuple #[.int .i64 (minI W y), .bool (minB W y)]) ∧ Below w.heap.size w w' := by
  obtain ⟨a9, c9, hhv, _, _⟩ := h.hform
  generalize hn9 : W.heaps.length = n9 at hhv
  subst hhv
  obtain ⟨a8, c8, hcv, b81, b82⟩ := h.cform
  have hcl := h.clen
  obtain ⟨f, hf⟩ : ∃ f : Nat → Int, f = bestI W y := ⟨_, rfl⟩
  obtain ⟨g, hg⟩ : ∃ g : Nat → Int → Bool, g = fun (k : Nat) b => aheadW W k b := ⟨_, rfl⟩
  have f0 : f 0 = -1 := by rw [hf]; rfl
  have fle : ∀ k, k ≤ W.cells.length → -1 ≤ f k ∧ f k < k := fun k hk => by rw [hf]; exact best_lt W y k hk
  have fno : ∀ k, ¬ (0 < y ∧ ((W.cells.getD k .off).home : Int) = y) → f (k + 1) = f k := fun k hk => by rw [hf]; exact best_no hk
  have ffirst : ∀ k, (0 < y ∧ ((W.cells.getD k .off).home : Int) = y) → f k < 0 → f (k + 1) = k := fun k hk => by rw [hf]; exact best_first hk
  have fnext : ∀ k, (0 < y ∧ ((W.cells.getD k .off).home : Int) = y) → 0 ≤ f k → f (k + 1) = if g k (f k) then (k : Int) else f k := fun k hk hb => by rw [hf] at hb ⊢; rw [hg]; exact best_next hk (by omega)
  have fend := best_end W y
  rw [← hf] at fend
  generalize minI W y = M at *
  generalize minB W y = B at *
  have hahead : ∀ (w1 : World) (k : Nat) (b : Int), NestAt w1 (.slice a9 n9 c9) cv W → Calls Try.prog 54 #[.agg #[.slice a9 n9 c9, cv], .int .i64 k, .int .i64 b] w1 fun e w' => e = .returned (.bool (g k b)) ∧ Below w1.heap.size w1 w' := fun w1 k b h1 => by rw [hg]; exact refahead_any k b h1
  clear hg hf
  generalize hn8 : W.cells.length = n8 at hcv b81 hcl fle fend
  subst hcv
  obtain ⟨V, hV, hs⟩ : ∃ V, w.alloc (.cells #[.slice a9 n9 c9, .slice a8 n8 c8] 58) = V ∧ Stage (fun _ => False) w [Ob.box w.heap.size #[.slice a9 n9 c9, .slice a8 n8 c8] 58] V := ⟨_, rfl, (Stage.start w).alloc _ _⟩
  have k1 := hs.cell 0 rfl (o := 1) rfl
  go_enter Try.func35, Try.ntmps35
  go_wp2_with fail
  clear hV
  generalize w.heap.size = b0 at *
  go_loopw [6, 12] (fun c i wr => ∃ k : Nat, k ≤ n8 ∧ i = .int .i64 k ∧ c = .int .i64 (f k) ∧ Stage (fun _ => False) w [Ob.box b0 #[.slice a9 n9 c9, .slice a8 n8 c8] 58] wr) (fun _ i _ => n8 - (intOf i).toNat)
  case atStart => exact ⟨0, Nat.zero_le _, rfl, by rw [f0], hs⟩
  case round =>
    clear hs k1
    obtain ⟨k, hk, rfl, rfl, hs⟩ := hrel
    have hfk := fle k hk
    by_cases hlt : k < n8
    · have hki : (k : Int) < n8 := by omega
      obtain ⟨g8, c8', hcc, hg, u0, u1, u2⟩ := (h.later hs.below).ccell k (by omega)
      rw [hn8] at hcc
      cases hcc
      have y2 := fno k
      have y3 := ffirst k
      have y4 := fnext k
      generalize W.cells.getD k .off = d at *
      obtain ⟨w1, hw1, hs1⟩ : ∃ w1, wr.alloc (.cells #[.int .i64 d.home, .int .i64 d.key, .int .u64 d.seq] 109) = w1 ∧ Stage (fun _ => False) w [Ob.box b0 #[.slice a9 n9 c9, .slice (some ⟨g8, 0, none⟩) n8 c8] 58, Ob.box wr.heap.size #[.int .i64 d.home, .int .i64 d.key, .int .u64 d.seq] 109] w1 := ⟨_, rfl, hs.alloc _ _⟩
      have d0 := hs1.cell 1 rfl (o := 0) rfl
      have d1 := hs1.cell 1 rfl (o := 1) rfl
      have d2 := hs1.cell 1 rfl (o := 2) rfl
      have k0 := hs1.cell 0 rfl (o := 0) rfl
      have k1 := hs1.cell 0 rfl (o := 1) rfl
      by_cases hc : 0 < y ∧ (d.home : Int) = y
      · have e' : ((d.home : Int) == y) = true := by simpa using hc.2
        have hy := hc.1
        by_cases hb : f k < 0
        · have q := Lib.hid (y3 hc hb)
          clear y2 y3 y4 hc
          go_wp2_with fail
          go_roundw
          case rel => exact ⟨k + 1, by omega, by go_num, by rw [q.out], hs1.take 1⟩
          case measure => simp [intOf]; omega
        · have q := Lib.hid (y4 hc (by omega))
          have hA := hahead w1 k (f k) (h.later hs1.below)
          clear y2 y3 y4 hc
          go_wp2_with fail
          refine hA.mono ?_
          rintro e w2 ⟨rfl, hb2⟩
          have hs2 := hs1.later hb2
          clear hA hw1
          cases hgk : g k (f k)
          · have q2 := q.out
            rw [hgk] at q2
            replace q2 := Lib.hid q2
            clear q
            go_wp2_with fail
            go_roundw
            case rel => exact ⟨k + 1, by omega, by go_num, by rw [q2.out]; rfl, hs2.take 1⟩
            case measure => simp [intOf]; omega
          · have q2 := q.out
            rw [hgk] at q2
            replace q2 := Lib.hid q2
            clear q
            go_wp2_with fail
            go_roundw
            case rel => exact ⟨k + 1, by omega, by go_num, by rw [q2.out]; rfl, hs2.take 1⟩
            case measure => simp [intOf]; omega
      · have q := Lib.hid (y2 hc)
        clear y2 y3 y4
        by_cases hy : 0 < y
        · have e' : ((d.home : Int) == y) = false := by simpa using fun e => hc ⟨hy, e⟩
          clear hc
          go_wp2_with fail
          go_roundw
          case rel => exact ⟨k + 1, by omega, by go_num, by rw [q.out], hs1.take 1⟩
          case measure => simp [intOf]; omega
        · clear hc
          go_wp2_with fail
          go_roundw
          case rel => exact ⟨k + 1, by omega, by go_num, by rw [q.out], hs1.take 1⟩
          case measure => simp [intOf]; omega
    · have hki : ¬ (k : Int) < n8 := by omega
      obtain rfl : k = n8 := by omega
      by_cases hb : f k < 0
      · obtain ⟨rfl, rfl⟩ := fend.1 hb
        clear fend
        go_wp2_with fail
        exact bodyPost_ret (v := .tuple #[.int .i64 0, .bool false]) (by simp [results, Try.results35, go_sem]) rfl ⟨rfl, hs.below⟩
      · obtain ⟨rfl, rfl⟩ := fend.2 (by omega)
        clear fend
        go_wp2_with fail
        exact bodyPost_ret (v := .tuple #[.int .i64 (f k), .bool true]) (by simp [results, Try.results35, go_sem]) rfl ⟨rfl, hs.below⟩
end
end Go.Proofs.Ytehoejoeoaimjaa

namespace Go.Proofs.Ytehoejoeoaimjaa

abbrev KG := Int × (Nat → Tr)
noncomputable section
def skIns (W : WS) (y x q r : Int) (g : KG) : KG :=
  if putB W y x = true then (stp g.1 (Tr.asked (aheadW (putW W y x q r)) (g.2 y.toNat) (.node x .nil .nil)), updT g.2 y.toNat (Tr.merge (aheadW (putW W y x q r)) (g.2 y.toNat) (.node x .nil .nil))) else g
def skDelAt (W : WS) (h : Nat) (g : KG) (p : List Fr × Tr × Tr) : KG := (stp g.1 (Tr.asked (aheadW W) p.2.1 p.2.2), updT g.2 h (Tr.fillZ p.1 (Tr.merge (aheadW W) p.2.1 p.2.2)))
def skDel (W : WS) (x : Int) (g : KG) : KG := if inW W x = true then skDelAt W (cellW W x).home g (Tr.cutAt (g.2 (cellW W x).home) x) else g
def skExt (W : WS) (y : Int) (g : KG) : KG := if minB W y = true then skDel W (minI W y) g else g
def skDecAt (W : WS) (h : Nat) (x : Int) (g : KG) : List Fr × Tr × Tr → KG
  | ([], _) => g
  | (f :: z, l, r) => if aheadW W x f.x = true then (stp g.1 (1 + Tr.asked (aheadW W) (Tr.fillZ (f :: z) .nil) (.node x l r)), updT g.2 h (Tr.merge (aheadW W) (Tr.fillZ (f :: z) .nil) (.node x l r))) else (stp g.1 1, g.2)
def skDec (W : WS) (x q r : Int) (g : KG) : KG := if lowerB W x q r = true then skDecAt (lowerW W x q r) (cellW W x).home x g (Tr.cutAt (g.2 (cellW W x).home) x) else g
def skMeld (W : WS) (a b : Int) (g : KG) : KG :=
  if joinBW W a b = true then (stp g.1 (Tr.asked (aheadW (joinW W a b)) (g.2 a.toNat) (g.2 b.toNat)), updT (updT g.2 b.toNat .nil) a.toNat (Tr.merge (aheadW (joinW W a b)) (g.2 a.toNat) (g.2 b.toNat))) else g
/-- What an act makes of the steps and the trees. -/
def skF (W : WS) (k y x q r : Int) (g : KG) : KG :=
  if k = 1 then skIns W y x q r g else if k = 3 then skExt W y g else if k = 4 then skDec W x q r g else if k = 5 then skDel W x g else if k = 6 then skMeld W y x g else g
end
section
variable {n : Nat} {L : List Hg} {W : WS} {Ts : Nat → Tr}
theorem kstands_one {x : Int} (h : upL L x = none ∧ ∀ sd, kidL L x sd = none) : KStands L (.node x .nil .nil) :=
  ⟨⟨rfl, h.2 false, h.2 true⟩, fun y hy => by cases hy; exact h.1, by simp [Tr.slots]⟩
/-- A slot comes into a heap: what then stands. -/
theorem kinsert_inv {xi : Nat} {i : Nat} {k q : Int} (I : TInv W Ts) (J : KInv Ts L) (hn : W.cells.length = n) (hB : putB W i xi = true) (hi : 1 ≤ i) :
    KTwo (putW W i xi k q) n L (Ts i) (.node xi .nil .nil) ∧ ∀ {L' : List Hg}, KStands L' (Tr.merge (aheadW (putW W i xi k q)) (Ts i) (.node xi .nil .nil)) → KSame ((Ts i).slots ++ (Tr.node (xi : Int) .nil .nil).slots) L L' →
      TInv (putW W i xi k q) (updT Ts i (Tr.merge (aheadW (putW W i xi k q)) (Ts i) (.node xi .nil .nil))) ∧ KInv (updT Ts i (Tr.merge (aheadW (putW W i xi k q)) (Ts i) (.node xi .nil .nil))) L' := by
  obtain ⟨hnot, hok, hin, hinx, hfin⟩ := tinv_put (k := k) (s := q) I hB hi
  have hal := J.alone xi hnot
  have hx1 : (Tr.node (xi : Int) .nil .nil).slots = [(xi : Int)] := rfl
  have hins : ∀ z ∈ (Ts i).slots ++ (Tr.node (xi : Int) .nil .nil).slots, inW (putW W i xi k q) z = true := fun z hz => by
    rcases List.mem_append.1 hz with h | h
    · exact hin z h
    · rw [hx1, List.mem_singleton] at h; rw [h]; exact hinx
  have hok1 : Tr.Ok (aheadW (putW W i xi k q)) (.node (xi : Int) .nil .nil) := ⟨fun _ h => (by cases h), fun _ h => (by cases h), trivial, trivial⟩
  have hkm := kmerge_ok (fun z hz => hins z (List.mem_append_left _ hz)) (fun z hz => hins z (List.mem_append_right _ hz)) hok hok1
  have hp := Tr.merge_perm (aheadW (putW W i xi k q)) (Ts i) (.node (xi : Int) .nil .nil)
  refine ⟨⟨by rw [lput_len]; exact hn, J.all i, kstands_one hal, fun z hz hm => hnot i (by rw [hx1, List.mem_singleton] at hm; rw [← hm]; exact hz), hins⟩, fun {L'} hT hS2 => ⟨hfin _ hkm (by rw [hx1] at hp; exact hp), ?_⟩⟩
  refine J.upd i hS2 hT (fun g hg z hz hm => ?_) (fun z hz => Or.inl (hp.mem_iff.2 hz)) (fun z hz => List.mem_append_left _ hz)
  rcases List.mem_append.1 hm with h | h
  · exact hg (I.one hz h)
  · rw [hx1, List.mem_singleton] at h; exact hnot g (by rw [← h]; exact hz)
/-- A slot comes out of its heap: what then stands. -/
theorem kdelete_inv {h : Nat} {z : List Fr} {x : Int} {l r : Tr} {L' : List Hg} (I : TInv W Ts) (J : KInv Ts L) (hT : Ts h = Tr.fillZ z (.node x l r)) (hS : KStands L' (Tr.fillZ z (Tr.merge (aheadW W) l r)))
    (hx : upL L' x = none ∧ ∀ sd, kidL L' x sd = none) (hs : KSame (Tr.fillZ z (.node x l r)).slots L L') : TInv (dropW W x) (updT Ts h (Tr.fillZ z (Tr.merge (aheadW W) l r))) ∧ KInv (updT Ts h (Tr.fillZ z (Tr.merge (aheadW W) l r))) L' := by
  have hp := Tr.merge_perm (aheadW W) l r
  have hok := I.ok h
  have hin : ∀ y ∈ (Ts h).slots, inW W y = true := fun y hy => (I.in' hy).2.2.1
  have hmT : ∀ y ∈ (Tr.node x l r).slots, y ∈ (Ts h).slots := fun y hy => by rw [hT]; exact (Tr.fillZ_perm _ _).mem_iff.2 (List.mem_append_left _ hy)
  rw [hT] at hok
  have hokn : Tr.Ok (aheadW W) (.node x l r) := Tr.okZ hok
  have hkm := kmerge_ok (fun y hy => hin y (hmT y (by simp [Tr.slots, hy]))) (fun y hy => hin y (hmT y (by simp [Tr.slots, hy]))) hokn.2.2.1 hokn.2.2.2
  have hok2 : Tr.Ok (aheadW W) (Tr.fillZ z (Tr.merge (aheadW W) l r)) := Tr.ok_fill_sub hok (fun y hy => by rw [Tr.slots]; exact List.mem_cons_of_mem _ (hp.mem_iff.1 hy)) hkm
  generalize Tr.merge (aheadW W) l r = M at *
  have hp1 := Tr.fillZ_perm z (.node x l r)
  have hp2 := Tr.fillZ_perm z M
  have hperm : (x :: (Tr.fillZ z M).slots).Perm (Ts h).slots := by
    rw [hT]
    rw [List.perm_iff_count] at *
    intro y
    have h1 := hp1 y
    have h2 := hp2 y
    have h3 := hp y
    simp only [Tr.slots, List.count_append, List.count_cons] at h1 h2 h3 ⊢
    omega
  have hxm : x ∈ (Ts h).slots := hperm.mem_iff.1 (by simp)
  refine ⟨tinv_drop I hxm _ hok2 hperm, J.upd h hs hS (fun g hg y hy hm => hg ?_) (fun y hy => ?_) (fun y hy => by rw [hT] at hy; exact hy)⟩
  · rw [← hT] at hm; exact I.one hy hm
  · rw [← hT] at hy
    rcases List.mem_cons.1 (hperm.mem_iff.2 hy) with e | e
    · right; rw [e]; exact hx
    · exact Or.inl e
/-- A slot's entry becomes another one: what stands, where the slot stays; where it comes off. -/
theorem klower_inv {x k q : Int} (I : TInv W Ts) (J : KInv Ts L) (hn : W.cells.length = n) (hb : lowerB W x k q = true) : ∃ (h : Nat) (z : List Fr) (l r : Tr), 1 ≤ h ∧ Tr.cutAt (Ts h) x = (z, l, r) ∧ Ts h = Tr.fillZ z (.node x l r) ∧ (cellW W x).home = h ∧ (∀ y ∈ (Ts h).slots, inW (lowerW W x k q) y = true) ∧
    (z = [] → TInv (lowerW W x k q) Ts) ∧ (∀ g z', z = g :: z' → aheadW (lowerW W x k q) x g.x = false → TInv (lowerW W x k q) Ts) ∧
    ∀ g z', z = g :: z' → ∀ {L' : List Hg}, KStands L' (Tr.fillZ (g :: z') .nil) → KStands L' (.node x l r) → KSame (Tr.fillZ (g :: z') (.node x l r)).slots L L' →
      KTwo (lowerW W x k q) n L' (Tr.fillZ (g :: z') .nil) (.node x l r) ∧ ∀ {L2 : List Hg}, KStands L2 (Tr.merge (aheadW (lowerW W x k q)) (Tr.fillZ (g :: z') .nil) (.node x l r)) → KSame ((Tr.fillZ (g :: z') .nil).slots ++ (Tr.node x l r).slots) L' L2 →
        TInv (lowerW W x k q) (updT Ts h (Tr.merge (aheadW (lowerW W x k q)) (Tr.fillZ (g :: z') .nil) (.node x l r))) ∧ KInv (updT Ts h (Tr.merge (aheadW (lowerW W x k q)) (Tr.fillZ (g :: z') .nil) (.node x l r))) L2 := by
  obtain ⟨h, h1, hxm, hhome, hinS, hsm, hrel, hfin⟩ := tinv_lower (k := k) (s := q) I hb
  obtain ⟨z, l, r, hz⟩ : ∃ z l r, Tr.cutAt (Ts h) x = (z, l, r) := ⟨_, _, _, rfl⟩
  have hT := Tr.cutAt_spec hxm
  rw [hz] at hT
  replace hT : Ts h = Tr.fillZ z (.node x l r) := hT
  have hok := I.ok h
  have hnd := I.nodup h
  rw [hT] at hok hnd
  have hnd2 := (Tr.fillZ_perm z _).nodup_iff.1 hnd
  have hnode := hnd2
  rw [List.nodup_append] at hnode
  have hnx := hnode.1
  rw [Tr.slots, List.nodup_cons, List.mem_append] at hnx
  have hokn : Tr.Ok (aheadW W) (.node x l r) := Tr.okZ hok
  have hmemT : ∀ y, y ∈ (Ts h).slots ↔ y ∈ (Tr.node x l r).slots ∨ y ∈ Tr.zs z := fun y => by rw [hT, (Tr.fillZ_perm _ _).mem_iff, List.mem_append]
  have hin : ∀ y ∈ (Ts h).slots, inW (lowerW W x k q) y = true := fun y hy => by rw [hinS]; exact (I.in' hy).2.2.1
  have hnl : ∀ y ∈ l.slots, y ≠ x := fun y hy e => hnx.1 (Or.inl (by rw [← e]; exact hy))
  have hnr : ∀ y ∈ r.slots, y ≠ x := fun y hy e => hnx.1 (Or.inr (by rw [← e]; exact hy))
  have hokn' : Tr.Ok (aheadW (lowerW W x k q)) (.node x l r) := ⟨fun y hy => hrel y ((hmemT y).2 (Or.inl (by simp [Tr.slots, hy]))) (hnl y hy) (hokn.1 y hy), fun y hy => hrel y ((hmemT y).2 (Or.inl (by simp [Tr.slots, hy]))) (hnr y hy) (hokn.2.1 y hy),
    Tr.ok_congr (fun a ha b hb => hsm a b (hnl a ha) (hnl b hb)) hokn.2.2.1, Tr.ok_congr (fun a ha b hb => hsm a b (hnr a ha) (hnr b hb)) hokn.2.2.2⟩
  have hkeep : Tr.Ok (aheadW (lowerW W x k q)) (Ts h) → TInv (lowerW W x k q) Ts := fun hk => by
    have := hfin (Ts h) hk (List.Perm.refl _)
    rwa [updT_same] at this
  have hxz : x ∉ Tr.zs z := fun hx => hnode.2.2 x (by simp [Tr.slots]) x hx rfl
  refine ⟨h, z, l, r, h1, hz, hT, hhome, hin, fun e => hkeep ?_, fun g z' e hlt => hkeep ?_, fun g z' e => ?_⟩
  · rw [hT, e]; exact hokn'
  · subst e
    rw [hT] at hin ⊢
    exact Tr.ok_lower (lt := aheadW W) (lt' := aheadW (lowerW W x k q)) (z := z') (f := g) (t := .node x l r) (fun y => inW (lowerW W x k q) y = true) (fun a b c ha hb hc => ahead_neg ha hb hc) hsm hok (by simp [Tr.slots]) hxz hin hokn' hlt
  · subst e
    intro L' s1 s2 s3
    have hlz := fun y => zs_nil (g :: z') y
    have hok1 : Tr.Ok (aheadW W) (Tr.fillZ (g :: z') .nil) := Tr.ok_fill_sub hok (fun y hy => by cases hy) trivial
    have hokl : Tr.Ok (aheadW (lowerW W x k q)) (Tr.fillZ (g :: z') .nil) := Tr.ok_congr (fun a ha b hb => hsm a b (fun e => hxz (by rw [← e]; exact (hlz a).1 ha)) (fun e => hxz (by rw [← e]; exact (hlz b).1 hb))) hok1
    have hpm : ((Tr.fillZ (g :: z') .nil).slots ++ (Tr.node x l r).slots).Perm (Ts h).slots := by
      rw [hT]
      refine (List.Perm.trans ?_ (Tr.fillZ_perm _ _).symm)
      refine (List.perm_append_comm).trans (List.Perm.append_left _ ?_)
      have := Tr.fillZ_perm (g :: z') .nil
      simpa [Tr.slots] using this
    have hkm := kmerge_ok (fun y hy => hin y (hpm.mem_iff.1 (List.mem_append_left _ hy))) (fun y hy => hin y (hpm.mem_iff.1 (List.mem_append_right _ hy))) hokl hokn'
    have p1 := Tr.merge_perm (aheadW (lowerW W x k q)) (Tr.fillZ (g :: z') .nil) (.node x l r)
    refine ⟨⟨by rw [llower_len]; exact hn, s1, s2, fun y hy hm => hnode.2.2 y hm y ((hlz y).1 hy) rfl, fun y hy => hin y (hpm.mem_iff.1 hy)⟩, fun {L2} p3 p4 => ⟨hfin _ hkm (p1.trans hpm), ?_⟩⟩
    refine J.upd h ((s3.mono fun y hy => ?_).trans p4) p3 (fun g' hg y hy hm => hg (I.one hy (hpm.mem_iff.1 hm))) (fun y hy => Or.inl (p1.mem_iff.2 hy)) (fun y hy => hpm.mem_iff.2 hy)
    rw [← hT] at hy
    exact hpm.mem_iff.2 hy
/-- Two heaps become one: what stands. -/
theorem kmeld_inv {i j : Nat} (I : TInv W Ts) (J : KInv Ts L) (hn : W.cells.length = n) (hB : joinBW W i j = true) (hi : 1 ≤ i) (hj : 1 ≤ j) :
    i ≠ j ∧ (Ts j = .nil → TInv (joinW W i j) Ts) ∧ KTwo (joinW W i j) n L (updT Ts j .nil i) (Ts j) ∧ ∀ {L' : List Hg}, KStands L' (Tr.merge (aheadW (joinW W i j)) (updT Ts j .nil i) (Ts j)) → KSame ((updT Ts j .nil i).slots ++ (Ts j).slots) L L' →
      TInv (joinW W i j) (updT (updT Ts j .nil) i (Tr.merge (aheadW (joinW W i j)) (updT Ts j .nil i) (Ts j))) ∧ KInv (updT (updT Ts j .nil) i (Tr.merge (aheadW (joinW W i j)) (updT Ts j .nil i) (Ts j))) L' := by
  obtain ⟨hne, hah, hin, hap, hfin⟩ := tinv_join I hB hi hj
  have ei : updT Ts j .nil i = Ts i := updT_ne _ _ hne
  rw [ei, hah]
  have hins : ∀ y ∈ (Ts i).slots ++ (Ts j).slots, inW W y = true := fun y hy => by
    rcases List.mem_append.1 hy with h | h
    · exact (I.in' h).2.2.1
    · exact (I.in' h).2.2.1
  have hkm := kmerge_ok (fun y hy => hins y (List.mem_append_left _ hy)) (fun y hy => hins y (List.mem_append_right _ hy)) (I.ok i) (I.ok j)
  have hp := Tr.merge_perm (aheadW W) (Ts i) (Ts j)
  refine ⟨hne, fun e => ?_, ⟨by rw [ljoin_len]; exact hn, J.all i, J.all j, hap, fun y hy => by rw [hin]; exact hins y hy⟩, fun {L'} hT hS => ⟨hfin _ hkm hp, ?_⟩⟩
  · have := hfin (Ts i) (I.ok i) (by rw [e]; simp [Tr.slots])
    have e2 : updT (updT Ts j .nil) i (Ts i) = Ts := by
      funext g; unfold updT
      by_cases h1 : g = i
      · rw [if_pos h1, h1]
      · rw [if_neg h1]
        by_cases h2 : g = j
        · rw [if_pos h2, h2, e]
        · rw [if_neg h2]
    rwa [e2] at this
  · generalize Tr.merge (aheadW W) (Ts i) (Ts j) = T at *
    have eT : ∀ g, updT (updT Ts j .nil) i T g = if g = i then T else if g = j then .nil else Ts g := fun g => rfl
    refine J.change hS (fun g => ?_) (fun x hx => Or.inl ⟨i, by rw [eT, if_pos rfl]; exact hp.mem_iff.2 hx⟩) (fun g x hg hx => ⟨g, ?_⟩)
    · by_cases h1 : g = i
      · left; rw [eT, if_pos h1]; exact hT
      · by_cases h2 : g = j
        · left; rw [eT, if_neg h1, if_pos h2]; exact KStands.nil _
        · right
          rw [eT, if_neg h1, if_neg h2]
          refine ⟨rfl, fun x hx hm => ?_⟩
          rcases List.mem_append.1 hm with h | h
          · exact h1 (I.one hx h)
          · exact h2 (I.one hx h)
    · rw [eT, if_neg (fun e => hx (List.mem_append_left _ (by rw [← e]; exact hg))), if_neg (fun e => hx (List.mem_append_right _ (by rw [← e]; exact hg)))]
      exact hg
/-- Where nothing was in the second heap, nothing is turned. -/
theorem skMeld_bare {i j : Nat} {s : Int} (hs : s ≤ 4611686018427387904) (hB : joinBW W i j = true) (_hne : i ≠ j) (e : Ts j = .nil) : skMeld W i j (s, Ts) = (s, Ts) := by
  unfold skMeld
  rw [if_pos hB]
  simp only [Int.toNat_natCast]
  rw [e, (Tr.merge_bare _).1, (Tr.merge_bare _).2, stp_zero hs]
  refine congrArg (Prod.mk s) ?_
  funext g; unfold updT
  by_cases h1 : g = i
  · rw [if_pos h1, h1]
  · rw [if_neg h1]
    by_cases h2 : g = j
    · rw [if_pos h2, h2, e]
    · rw [if_neg h2]
end
end Go.Proofs.Ytehoejoeoaimjaa
