/- Merged of BinRemove, VMap, NestRef. -/
import Derived.Test.YtmoolbmbdnkooaaBinDelete
import Derived.Deep.RegionHeld3
import Derived.Test.YtmoolbmbdnkooaaPMap
import Derived.Test.YtmoolbmbdnkooaaInts
import Derived.Test.YtmoolbmbdnkooaaNestMath
import Derived.Test.YtmoolbmbdnkooaaLess
import Derived.Deep.RegionLaw
import Derived.Deep.DeepCutAuto
namespace Go.Proofs.Ytmoolbmbdnkooaa
open Go.RowKit Go.Sort

section
variable {F0 F : Nat → Prop} {W0 w : World} {f c t n : Nat} {W : WS} {s : Int} {K : Int → List Int} {R : Nat → List Int} {h gb cv m b b' : Nat} {l A0 : List Int} {v : Value} {x : Int}
set_option maxRecDepth 100000 in
theorem raise1_st (p : Int) (hs : Stage F0 W0 (binF f c t n W s K ++ [Ob.ints v l, Ob.box b #[ptrV f] 29, Ob.box b' #[.int .i64 x] 3]) w) :
    Calls Try.prog 106 (#[.int .i64 p] ++ #[.pointer (some ⟨b, 0, none⟩), .pointer (some ⟨b', 0, none⟩)]) w fun e w' => e = .returned (.bool (aheadW W x p)) ∧ ∃ s', (s ≤ s' ∧ s' ≤ s + 1) ∧ Stage F0 W0 (binF f c t n W s' K ++ [Ob.ints v l, Ob.box b #[ptrV f] 29, Ob.box b' #[.int .i64 x] 3]) w' := by
  have f0 : w.cell? ⟨f, 0, none⟩ = some (.pointer (some ⟨c, 0, none⟩)) := hs.cell 2 rfl rfl
  have k0 : w.cell? ⟨b, 0, none⟩ = some (.pointer (some ⟨f, 0, none⟩)) := hs.cell 4 rfl rfl
  have k1 : w.cell? ⟨b', 0, none⟩ = some (.int .i64 x) := hs.cell 5 rfl rfl
  have hA := hs.drew.call 1 rfl (fun _ ho => ahead_cl x p ho)
  have hr := ahead_range (W := W) (a := x) (b := p) ((hs.get (i := 1) rfl).elim fun _ ho => Ob.cells.steps ho)
  clear hs
  generalize aheadW W x p = B at *
  generalize aheadS W s x p = s2 at *
  show Calls Try.prog 106 #[.int .i64 p, .pointer (some ⟨b, 0, none⟩), .pointer (some ⟨b', 0, none⟩)] w _
  go_enter Try.func106, Try.ntmps106
  go_wp2_with fail
  go_still_tail 6, (by kernel_rfl)
  change wpList _ _ _ _ _ w.drew
  go_wp2_with fail
  refine hA.mono ?_
  rintro e w1 ⟨rfl, h1⟩
  go_wp2_with fail
  go_ret
  exact ⟨rfl, s2, hr, h1⟩
theorem remove1_any (p : Int) (w : World) : Calls Try.prog 107 (#[.int .i64 p] ++ #[]) w fun e w' => e = .returned (.bool true) ∧ w = w' := by
  show Calls Try.prog 107 #[.int .i64 p] w _
  go_enter Try.func107, Try.ntmps107
  go_wp2_with fail
  go_ret
  exact ⟨rfl, rfl⟩
set_option maxRecDepth 100000 in
set_option maxHeartbeats 1000000 in
theorem raise_one (hn : n ≤ 65536) (hm : l.length = m) (J0 : LiftJ W n R h x A0 K l A0) (low : ∀ y ∈ K x, aheadW W y x = false) (hx : (cellW W x).home = h) (hs : Stage F w (binF f c t n W s K ++ [Ob.ints (.slice (some ⟨gb, 0, none⟩) m cv) l]) w) :
    Calls Try.prog 99 #[.pointer (some ⟨f, 0, none⟩), .slice (some ⟨gb, 0, none⟩) m cv, .int .i64 x] w fun e w' => e = .returned (.tuple #[]) ∧ ∃ K' l' s', BinAll W n K' (updI R h l') ∧ (s ≤ s' ∧ s' ≤ s + A0.length) ∧ l'.length = m ∧ Stage F w (binF f c t n W s' K' ++ [Ob.ints (.slice (some ⟨gb, 0, none⟩) m cv) l']) w' := by
  obtain ⟨w1, hw1, hs1⟩ : ∃ w1, (w.alloc (.cells #[.pointer (some ⟨f, 0, none⟩)] 29)).alloc (.cells #[.int .i64 x] 3) = w1 ∧
      Stage F w (binF f c t n W s K ++ (Ob.ints (.slice (some ⟨gb, 0, none⟩) m cv) l :: [Ob.box w.heap.size #[ptrV f] 29, Ob.box (w.heap.size + 1) #[.int .i64 x] 3])) w1 := ⟨_, rfl, (hs.alloc _ _).alloc' _ _ (size_alloc _ _)⟩
  have k0 : w1.cell? ⟨w.heap.size, 0, none⟩ = some (.pointer (some ⟨f, 0, none⟩)) := hs1.cell 4 rfl rfl
  have k1 : w1.cell? ⟨w.heap.size + 1, 0, none⟩ = some (.int .i64 x) := hs1.cell 5 rfl rfl
  have hL := lift_st (fid := 106) (caps := #[.pointer (some ⟨w.heap.size, 0, none⟩), .pointer (some ⟨w.heap.size + 1, 0, none⟩)]) (B := fun p => aheadW W x p) (Lw := fun K' => ∀ y ∈ K' x, aheadW W y x = false) x hn hx hm J0 low
    (fun K' l' p r J hl hB => by
      obtain ⟨hxp, e1, _⟩ := J.step hx
      rw [e1]
      exact low_lift J.inv J.home J.hole hxp hB)
    (fun _ _ => by kernel_rfl) (fun s' K' l' p w' _ h => raise1_st p h) hs1
  have hmf : ∀ (fn : Go.Fn) (first cap : Array Value) (w : World), (Instr.makeFunc fn first cap).run Try.prog w = .ok (.func fn first cap) w := fun _ _ _ _ => rfl
  clear hs hs1 J0 low
  go_enter Try.func99, Try.ntmps99
  go_wp2_with fail
  refine hL.mono ?_
  rintro e w2 ⟨rfl, K', l', A', s', J, hl, hr, hu, hm', h2⟩
  clear hL
  have h3 : Stage F w (binF f c t n W s' K' ++ [Ob.ints (.slice (some ⟨gb, 0, none⟩) m cv) l']) w2 := h2.take 4
  have hA := J.done hl hu
  clear h2 J hl hu
  go_wp2_with fail
  go_end0
  exact ⟨rfl, K', l', s', hA, hr, hm', h3⟩
theorem Stage.bmerge {q : List Ob} {a b : Option Addr} {ca cb : Nat} {la lb : List Int} (hs : Stage F0 W0 ((binF f c t n W s K ++ [Ob.ints (.slice a la.length ca) la, Ob.ints (.slice b lb.length cb) lb]) ++ q) w) (hRA : RowK n K la) (hRB : RowK n K lb) (hd : ¬ ∃ x ∈ la, x ∈ lb) (hin : ∀ x ∈ la ++ lb, inW W x = true) :
    Calls Try.prog 42 #[.pointer (some ⟨f, 0, none⟩), .slice a la.length ca, .slice b lb.length cb] w fun e w' => ∃ z m cz K' s' r, e = .returned (.slice z m cz) ∧ BinMerged n W K (la ++ lb) s K' r s' ∧ Stage F0 W0 ((binF f c t n W s' K' ++ [Ob.ints (.slice z m cz) r]) ++ q) w' :=
  (hs.frameEx (α := Option Addr × Nat × Nat × (Int → List Int) × Int × List Int)
    (Post := fun x e => e = .returned (.slice x.1 x.2.1 x.2.2.1) ∧ BinMerged n W K (la ++ lb) s x.2.2.2.1 x.2.2.2.2.2 x.2.2.2.2.1)
    (l' := fun x => binF f c t n W x.2.2.2.2.1 x.2.2.2.1 ++ [Ob.ints (.slice x.1 x.2.1 x.2.2.1) x.2.2.2.2.2])
    fun _ _ h => (bmerge_one h hRA hRB hd hin).mono fun _ _ ⟨z, m, cz, K', s', r, he, h1, h2⟩ => ⟨(z, m, cz, K', s', r), ⟨he, h1⟩, h2⟩).mono
  fun _ _ ⟨x, ⟨he, h1⟩, h2⟩ => ⟨x.1, x.2.1, x.2.2.1, x.2.2.2.1, x.2.2.2.2.1, x.2.2.2.2.2, he, h1, h2⟩
theorem bremove_merge {v4 : Value} {rest kids : List Int} (h5 : Stage F0 W0 ([Ob.forest t n K, Ob.ints v4 kids] ++ [Ob.cells c W s, Ob.box f #[ptrV c, ptrV t] 103, Ob.ints (.slice (some ⟨gb, 0, none⟩) m cv) rest, Ob.box b #[.int .i64 x] 3]) w) (hel : rest.length = m) (hRA : RowK n K rest) (hRB : RowK n K kids) (hd : ¬ ∃ x ∈ rest, x ∈ kids) (hin : ∀ x ∈ rest ++ kids, inW W x = true) :
    ∃ a4 c4, v4 = .slice a4 kids.length c4 ∧ Calls Try.prog 42 #[.pointer (some ⟨f, 0, none⟩), .slice (some ⟨gb, 0, none⟩) m cv, .slice a4 kids.length c4] w fun e w' => ∃ z m cz K' s' r, e = .returned (.slice z m cz) ∧ BinMerged n W K (rest ++ kids) s K' r s' ∧ Stage F0 W0 ((binF f c t n W s' K' ++ [Ob.ints (.slice z m cz) r]) ++ [Ob.box b #[.int .i64 x] 3]) w' := by
  have h6 : Stage F0 W0 ((binF f c t n W s K ++ [Ob.ints (.slice (some ⟨gb, 0, none⟩) m cv) rest, Ob.ints v4 kids]) ++ [Ob.box b #[.int .i64 x] 3]) w := h5.select [0, 2, 3, 4, 1, 5] (by decide) rfl
  obtain ⟨a4, c4, rfl, _, _⟩ := h5.intsForm 1 rfl
  rw [← hel] at h6
  have hM := Stage.bmerge h6 hRA hRB hd hin
  rw [hel] at hM
  exact ⟨a4, c4, rfl, hM⟩
set_option maxRecDepth 100000 in
set_option maxHeartbeats 2000000 in
theorem remove_one {kk : Nat} (hn : n ≤ 65536) (hm : l.length = m + 1) (J0 : LiftJ W n R h x A0 K l A0) (hx : (cellW W x).home = h) (hin : inW W x = true) (hh : 1 ≤ h) (hA0 : A0.length < kk) (hkk : lenW W h < 2 ^ kk) (hs : Stage F w (binF f c t n W s K ++ [Ob.ints (.slice (some ⟨gb, 0, none⟩) (m + 1) cv) l]) w) :
    Calls Try.prog 100 #[.pointer (some ⟨f, 0, none⟩), .slice (some ⟨gb, 0, none⟩) (m + 1) cv, .int .i64 x] w fun e w' => ∃ z mz cz K' r s', e = .returned (.slice z mz cz) ∧ BinAll (dropW W x) n K' (updI R h r) ∧ (s ≤ s' ∧ s' ≤ s + 3 * kk) ∧ Stage F w (binF f c t n W s' K' ++ [Ob.ints (.slice z mz cz) r]) w' := by
  obtain ⟨w1, hw1, hs1⟩ : ∃ w1, w.alloc (.cells #[.int .i64 x] 3) = w1 ∧
      Stage F w (binF f c t n W s K ++ (Ob.ints (.slice (some ⟨gb, 0, none⟩) (m + 1) cv) l :: [Ob.box w.heap.size #[.int .i64 x] 3])) w1 := ⟨_, rfl, hs.alloc _ _⟩
  have k0 : w1.cell? ⟨w.heap.size, 0, none⟩ = some (.int .i64 x) := hs1.cell 4 rfl rfl
  have hL := lift_st (fid := 107) (caps := #[]) (B := fun _ => true) (Lw := fun _ => True) x hn hx hm J0 trivial
    (fun _ _ _ _ _ _ _ => trivial) (fun _ _ => by kernel_rfl) (fun s' K' l' p w' _ h => (remove1_any p w').mono fun e w2 ⟨h1, h2⟩ => ⟨h1, s', ⟨Int.le_refl _, by omega⟩, by rw [← h2]; exact h⟩) hs1
  have hmf : ∀ (fn : Go.Fn) (first cap : Array Value) (w : World), (Instr.makeFunc fn first cap).run Try.prog w = .ok (.func fn first cap) w := fun _ _ _ _ => rfl
  clear hs hs1 J0 hm
  generalize hbb : w.heap.size = bx at *
  go_enter Try.func100, Try.ntmps100
  go_wp2_with fail
  refine hL.mono ?_
  rintro e w2 ⟨rfl, K1, l1, A', s1, J, _, hr, hu, hm1, h2⟩
  clear hL k0 hw1 hbb
  obtain rfl : A' = [] := by
    cases A' with
    | nil => rfl
    | cons p r => have := hu p r rfl; cases this
  obtain ⟨hxl, hrt, hRA, hRB, hd, hinL⟩ := J.top hin hx
  have hnd : l1.Nodup := by have := (J.rows h).roots.nodup; rwa [updI_at] at this
  have hD := delete_row (x := x) (b := bx) (q := binF f c t n W s1 K1) hm1 hxl hnd (h2.select [3, 4, 0, 1, 2] (by decide) rfl)
  have hlen : l1.length ≤ kk ∧ (K1 x).length < kk := by
    have h1 := J.home.rows J.inv hh (J.rows h) hkk
    rw [updI_at] at h1
    exact ⟨h1.1, h1.2.1 x hxl⟩
  have hsF : splitF n K1 x = splitK K1 x := by unfold splitF; rw [if_pos hrt]
  have hsL : splitL n K1 x = K1 x := by unfold splitL; rw [if_pos hrt]
  have hel : (l1.erase x).length = m := by rw [List.length_erase_of_mem hxl]; omega
  have hout := fun {k K' r' r} => J.out (k := k) (K' := K') (r' := r') (r := r) hin hx
  clear h2 J hu hnd hxl hrt hin
  go_wp2_with fail
  refine hD.mono ?_
  rintro e w3 ⟨rfl, h3⟩
  clear hD
  have h4 : Stage F w (binF f c t n W s1 K1 ++ [Ob.ints (.slice (some ⟨gb, 0, none⟩) m cv) (l1.erase x), Ob.box bx #[.int .i64 x] 3]) w3.drew := h3.drew.select [2, 3, 4, 0, 1] (by decide) rfl
  have f1 : w3.cell? ⟨f, 1, none⟩ = some (.pointer (some ⟨t, 0, none⟩)) := h3.cell 4 rfl rfl
  have k1 : w3.cell? ⟨bx, 0, none⟩ = some (.int .i64 x) := h3.cell 1 rfl rfl
  have hS := Stage.splitCall (q := [Ob.cells c W s1, Ob.box f #[ptrV c, ptrV t] 103, Ob.ints (.slice (some ⟨gb, 0, none⟩) m cv) (l1.erase x), Ob.box bx #[.int .i64 x] 3]) h4 x
  rw [hsF, hsL] at hS
  clear h3 h4 hsF hsL
  have hMM := fun (w4 : World) (v4 : Value) (h5 : Stage F w ([Ob.forest t n (splitK K1 x), Ob.ints v4 (K1 x)] ++ [Ob.cells c W s1, Ob.box f #[ptrV c, ptrV t] 103, Ob.ints (.slice (some ⟨gb, 0, none⟩) m cv) (l1.erase x), Ob.box bx #[.int .i64 x] 3]) w4) => bremove_merge h5 hel hRA hRB hd hinL
  clear hRA hRB hd hinL
  generalize hLL : l1.erase x ++ K1 x = LL at *
  have hLn : (LL.length : Int) ≤ m + (K1 x).length := by rw [← hLL, List.length_append, hel]; omega
  clear hLL hel
  go_wp2_with fail
  go_region_held3 (fun w' => w'.cell? ⟨f, 1, none⟩ = some (.pointer (some ⟨t, 0, none⟩)) ∧ w'.cell? ⟨bx, 0, none⟩ = some (.int .i64 x)) (first | exact ⟨f1, k1⟩ | exact ⟨f1p, k1p⟩ | exact ⟨f1q, k1q⟩ | simp [*])
    (first
    | (((with_reducible refine hS.mono ?_); rintro e w4 ⟨v4, rfl, h5⟩; obtain ⟨a4, c4, rfl, hM⟩ := hMM w4 v4 h5; have f1p : w4.cell? ⟨f, 1, none⟩ = some (.pointer (some ⟨t, 0, none⟩)) := h5.cell 3 rfl rfl; have k1p : w4.cell? ⟨bx, 0, none⟩ = some (.int .i64 x) := h5.cell 5 rfl rfl))
    | (((with_reducible refine hM.mono ?_); rintro e w5 ⟨z, mz, cz, K', s', r, rfl, ⟨k, ⟨r', hl1, hl2⟩, hr3, hs1, hs2, _⟩, h7⟩; have f1q : w5.cell? ⟨f, 1, none⟩ = some (.pointer (some ⟨t, 0, none⟩)) := h7.cell 2 rfl rfl; have k1q : w5.cell? ⟨bx, 0, none⟩ = some (.int .i64 x) := h7.cell 4 rfl rfl)))
  clear hM
  obtain ⟨hA, hk⟩ := hout hl1 hl2 hr3
  clear hout hl1 hl2 hr3
  have h8 : Stage F w (binF f c t n W s' K' ++ [Ob.ints (.slice z mz cz) r]) w5 := h7.take 4
  go_wp2_with fail
  go_ret
  exact ⟨_, _, _, K', r, s', rfl, hA, ⟨by omega, by omega⟩, h8⟩
end
end Go.Proofs.Ytmoolbmbdnkooaa

namespace Go.Proofs.Ytmoolbmbdnkooaa
open Go.RowKit Go.Sort

/-- How a value reads: as itself. -/
def anyElem (v : Value) : Option (DataW Value × List MemPlace) := some (.held v, [])
theorem anyElem_inv {v u : Value} {ps : List MemPlace} (h : anyElem v = some (.held u, ps)) : v = u := by
  unfold anyElem at h
  injection h with h
  injection h with h _
  injection h
/-- What a map holds at a key; each key is from 0 to below M. -/
structure VMapIs (D : DataW Value) (f : Int → Option Value) (M : Nat) : Prop where
  at' : ∀ (h : Int) (z : Value), D.atKey (.int .i64 h) (.held z) = .held ((f h).getD z)
  keys : ∃ es, D = .map es ∧ es.Pairwise (fun p q => p.1 ≠ q.1) ∧ ∀ p ∈ es, ∃ n : Nat, p.1 = .int .i64 n ∧ n < M
theorem VMapIs.size {D : DataW Value} {f : Int → Option Value} {M : Nat} (h : VMapIs D f M) : Maps.size D ≤ M := by
  obtain ⟨es, rfl, h1, h2⟩ := h.keys
  exact len_le_of_keys es h1 M h2
def setV (f : Int → Option Value) (k : Int) (o : Option Value) : Int → Option Value := fun h => if h = k then o else f h
theorem VMapIs.empty (M : Nat) : VMapIs (.map []) (fun _ => none) M := ⟨fun _ _ => rfl, [], rfl, List.Pairwise.nil, by simp⟩
theorem VMapIs.put {D : DataW Value} {f : Int → Option Value} {M : Nat} (h : VMapIs D f M) (k : Nat) (hk : k < M) (v : Value) : VMapIs (D.put (.int .i64 k) (.held v)) (setV f k (some v)) M := by
  obtain ⟨h1, es, rfl, h2, h3⟩ := h
  refine ⟨fun x z => ?_, ?_⟩
  · by_cases hx : x = k
    · subst hx
      rw [Maps.atKey_put_same ⟨_, rfl⟩ (show WideAt.IsKeyLit (.int .i64 (k : Int)) from trivial)]
      simp [setV]
    · rw [Maps.atKey_put_other (by simpa using hx), h1]
      simp [setV, hx]
  · obtain ⟨es', he, hp⟩ := Maps.Tidy.put (D := DataW.map es) ⟨es, rfl, h2⟩ (k := .int .i64 k) trivial (.held v)
    refine ⟨es', he, hp, fun p hp => ?_⟩
    have e : DataW.insert (.int .i64 (k : Int), .held v) (es.filter fun p => !p.1.sameKey (.int .i64 (k : Int))) = es' := by
      have : DataW.map (DataW.insert (.int .i64 (k : Int), .held v) (es.filter fun p => !p.1.sameKey (.int .i64 (k : Int)))) = DataW.map es' := he
      injection this
    rw [← e] at hp
    rcases Go.ChangeMaps.mem_insert_iff.1 hp with rfl | hp
    · exact ⟨k, rfl, hk⟩
    · exact h3 p (List.mem_filter.1 hp).1
theorem VMapIs.del {D : DataW Value} {f : Int → Option Value} {M : Nat} (h : VMapIs D f M) (k : Int) : VMapIs (D.del (.int .i64 k)) (setV f k none) M := by
  obtain ⟨h1, es, rfl, h2, h3⟩ := h
  refine ⟨fun x z => ?_, es.filter fun p => !p.1.sameKey (.int .i64 k), rfl, h2.filter _, fun p hp => h3 p (List.mem_filter.1 hp).1⟩
  by_cases hx : x = k
  · subst hx
    rw [Maps.atKey_del_same]
    simp [setV]
  · rw [Maps.atKey_del_other (by simpa using hx), h1]
    simp [setV, hx]
/-- At block b lies a map from integers to values that holds f. -/
def Ob.vmap (P : Program) (k : TypeId) (b : Nat) (f : Int → Option Value) (M : Nat) : Ob where
  holds w F := (∃ D, w.ownsMap (H := Value) P k anyElem b M D ∧ VMapIs D f M) ∧ F = (· = b)
  keeps := by
    rintro w w' F G ⟨⟨D, h, hm⟩, rfl⟩ kp hg
    refine ⟨⟨D, ?_, hm⟩, rfl⟩
    have hlt := h.lt
    obtain ⟨es, clock, hb, r⟩ := h
    exact ⟨es, clock, by rw [kp.block b hlt (hg b rfl)]; exact hb, r⟩
  lt := by rintro w F ⟨⟨D, h, _⟩, rfl⟩ k rfl; exact h.lt
theorem owns_tightV {P : Program} {k : TypeId} {w : World} {b n M : Nat} {D : DataW Value} (h : w.ownsMap P k anyElem b n D) (hM : Maps.size D ≤ M) : w.ownsMap P k anyElem b M D := by
  obtain ⟨es, clock, hb, F, _, rfl⟩ := h
  refine ⟨es, clock, hb, F, ?_, rfl⟩
  simpa [Maps.size, length_sorted] using hM

namespace Stage
variable {F0 : Nat → Prop} {W w w' : World} {l : List Ob} {P : Program} {t k e : TypeId} {b M : Nat} {f : Int → Option Value}
theorem newVMap (h : Stage F0 W l w) (P : Program) (k : TypeId) (M : Nat) {b : Nat} (hb : w.heap.size = b) : Stage F0 W (l ++ [Ob.vmap P k b (fun _ => Option.none) M]) (w.alloc (.map #[] 0)) := by
  subst hb
  exact h.add ((Below.refl _ _).alloc (Nat.le_refl _) _) ⟨⟨_, (World.ownsMap_made w P k _).mono (Nat.zero_le _), VMapIs.empty M⟩, rfl⟩ (fun _ hk => Nat.le_of_eq hk.symm)
/-- 'm[k]': an equation that the walk takes. -/
theorem lookV (h : Stage F0 W l w) (i : Nat) (hi : l[i]? = some (Ob.vmap P k b f M)) (ht : P.underlying t = some (.map k e)) (hk : P.underlying k = some (.int .i64)) {z : Value} (hz : (zeroValue e).run P w = .ok z w)
    (x : Int) (hx : -9223372036854775808 ≤ x ∧ x ≤ 9223372036854775807) : (Instr.lookup t (.map (some b)) (.int .i64 x) false).run P w = .ok ((f x).getD z) w := by
  obtain ⟨_, ⟨D, hown, hm⟩, _⟩ := h.get hi
  obtain ⟨v, ps, hrun, hv⟩ := hown.lookup (Maps.int_keyed hk) ht hz (zd := .held z) (zp := []) rfl (Maps.keyOf_int_mk hk (wf_i64' hx))
  rw [hm.at' x z] at hv
  rw [hrun, anyElem_inv hv]
/-- 'm[k] = v' at the operation. -/
theorem wp_putV {ops : Array Oper} {rest : List Oper} {o : Oper} {a : Act} {Q : Exit → Act → World → Prop} (h : Stage F0 W l w) (i : Nat) (hi : l[i]? = some (Ob.vmap P k b f M)) (hg : o.guard = Option.none) (m x v : Operand) (hop : o.op = Op.mapUpdate t m x v)
    (ht : P.underlying t = some (.map k e)) (hk : P.underlying k = some (.int .i64)) (hM : M < maxLen)
    (hm : a.eval m = .map (some b)) (key : Nat) (u : Value) (hx : a.eval x = .int .i64 key) (hv : a.eval v = u) (hkey : key < M)
    (hK : ∀ w', Stage F0 W (l.set i (Ob.vmap P k b (setV f key (some u)) M)) w' → wpList P ops Q rest (a.put o.dst undef) w') : wpList P ops Q (o :: rest) a w := by
  obtain ⟨_, ⟨D, hown, hmi⟩, _⟩ := h.get hi
  unfold maxLen at hM
  refine wpList_mapUpdate_own w hg m x v t hop k e (Maps.int_keyed hk) ht _ b M D hm hown (by unfold maxLen; omega) _ _ _ hx hv (Maps.keyOf_int_mk hk (wf_i64' (by omega))) (.held u) [] rfl fun w' h1 h2 => hK w' ?_
  have h3 := hmi.put key hkey u
  exact h.moved hi fun F hF => ⟨(· = b), ⟨⟨_, owns_tightV h1 h3.size, h3⟩, rfl⟩, by
    have e2 : F = (· = b) := hF.2
    subst e2
    exact ⟨keeps_of_grown h2, fun k hk => Or.inl hk⟩⟩
/-- 'delete(m, k)' at the operation. -/
theorem wp_deleteV {ops : Array Oper} {rest : List Oper} {o : Oper} {a : Act} {Q : Exit → Act → World → Prop} (h : Stage F0 W l w) (i : Nat) (hi : l[i]? = some (Ob.vmap P k b f M)) (hg : o.guard = Option.none) (m x : Operand) (hop : o.op = Op.call { callee := Callee.builtin Builtin.delete, args := #[m, x], argTypes := #[t, k] })
    (ht : P.underlying t = some (.map k e)) (hk : P.underlying k = some (.int .i64))
    (hm : a.eval m = .map (some b)) (key : Int) (hx : a.eval x = .int .i64 key) (hkey : -9223372036854775808 ≤ key ∧ key ≤ 9223372036854775807)
    (hK : ∀ w', Stage F0 W (l.set i (Ob.vmap P k b (setV f key Option.none) M)) w' → wpList P ops Q rest (a.put o.dst (.tuple #[])) w') : wpList P ops Q (o :: rest) a w := by
  obtain ⟨_, ⟨D, hown, hmi⟩, _⟩ := h.get hi
  refine wpList_delete_own w hg m x t k hop e (Maps.int_keyed hk) ht _ b M D hm hown _ _ hx (Maps.keyOf_int_mk hk (wf_i64' hkey)) fun w' h1 h2 => hK w' ?_
  have h3 := hmi.del key
  exact h.moved hi fun F hF => ⟨(· = b), ⟨⟨_, owns_tightV h1 h3.size, h3⟩, rfl⟩, by
    have e2 : F = (· = b) := hF.2
    subst e2
    exact ⟨keeps_of_grown h2.grown, fun k hk => Or.inl hk⟩⟩
end Stage
end Go.Proofs.Ytmoolbmbdnkooaa

namespace Go.Proofs.Ytmoolbmbdnkooaa
open Go.RowKit Go.Sort

def boolC (b : Bool) : List Value := [.bool b]
theorem boolC_len (b : Bool) : (boolC b).length = 1 := rfl
def ncellC (c : CellD) : List Value := [.int .i64 c.home, .int .i64 c.key, .int .u64 c.seq]
theorem ncellC_len (c : CellD) : (ncellC c).length = 3 := rfl
/-- hv and cv are the rows of the nest W; nobody writes them. -/
structure NestAt (w : World) (hv cv : Value) (W : WS) : Prop where
  hrow : w.ownsRow 0 4 1 hv W.heaps.length (cellsBy boolC W.heaps)
  crow : w.ownsRow 0 93 3 cv W.cells.length (cellsBy ncellC W.cells)
  hlen : W.heaps.length ≤ 65537
  clen : W.cells.length ≤ 65536
def nestF (hv cv : Value) : Nat → Prop := fun k => rowF hv k ∨ rowF cv k
theorem NestAt.keeps {G : Nat → Prop} {w w' : World} {hv cv : Value} {W : WS} (h : NestAt w hv cv W) (k : Keeps G w w') (hn : ∀ b, nestF hv cv b → ¬ G b) : NestAt w' hv cv W :=
  ⟨owns_keeps h.hrow k (fun b hb => hn b (Or.inl hb)), owns_keeps h.crow k (fun b hb => hn b (Or.inr hb)), h.hlen, h.clen⟩
theorem NestAt.later {w w' : World} {hv cv : Value} {W : WS} (h : NestAt w hv cv W) (hb : Below w.heap.size w w') : NestAt w' hv cv W :=
  h.keeps (Keeps.of_below_all hb (fun _ => False)) (fun _ _ x => x)
theorem NestAt.lt {w : World} {hv cv : Value} {W : WS} (h : NestAt w hv cv W) : ∀ k, nestF hv cv k → k < w.heap.size := by
  rintro k (hk | hk)
  · exact (h.hrow.lt k hk).2
  · exact (h.crow.lt k hk).2
/-- The document's nest as a thing. -/
def Ob.nest (hv cv : Value) (W : WS) : Ob where
  holds w F := NestAt w hv cv W ∧ F = nestF hv cv
  keeps := by rintro w w' F G ⟨h, rfl⟩ k hn; exact ⟨h.keeps k hn, rfl⟩
  lt := by rintro w F ⟨h, rfl⟩; exact h.lt
section
variable {w : World} {hv cv : Value} {W : WS}
theorem NestAt.hform (h : NestAt w hv cv W) : ∃ a c, hv = .slice a W.heaps.length c ∧ W.heaps.length ≤ c ∧ c ≤ 9223372036854775807 := by
  obtain ⟨a, c, h1, h2, h3⟩ := owns_form h.hrow
  exact ⟨a, c, h1, h2, by unfold maxLen at h3; omega⟩
theorem NestAt.cform (h : NestAt w hv cv W) : ∃ a c, cv = .slice a W.cells.length c ∧ W.cells.length ≤ c ∧ c ≤ 9223372036854775807 := by
  obtain ⟨a, c, h1, h2, h3⟩ := owns_form h.crow
  exact ⟨a, c, h1, h2, by unfold maxLen at h3; omega⟩
theorem NestAt.hcell (h : NestAt w hv cv W) (i : Nat) (hi : i < W.heaps.length) : ∃ g c, hv = .slice (some ⟨g, 0, none⟩) W.heaps.length c ∧ g < w.heap.size ∧ w.cell? ⟨g, i, none⟩ = some (.bool (W.heaps.getD i false)) := by
  obtain ⟨g, c, hv, _, _, _, h4, hc, _⟩ := owns_at boolC_len false h.hrow rfl (by omega)
  refine ⟨g, c, hv, h4, ?_⟩
  have := hc i 0 _ hi (by omega) rfl
  rwa [Nat.mul_one, Nat.add_zero] at this
theorem NestAt.ccell (h : NestAt w hv cv W) (i : Nat) (hi : i < W.cells.length) : ∃ g c, cv = .slice (some ⟨g, 0, none⟩) W.cells.length c ∧ g < w.heap.size ∧
    w.cell? ⟨g, i * 3, none⟩ = some (.int .i64 (W.cells.getD i .off).home) ∧ w.cell? ⟨g, i * 3 + 1, none⟩ = some (.int .i64 (W.cells.getD i .off).key) ∧ w.cell? ⟨g, i * 3 + 2, none⟩ = some (.int .u64 (W.cells.getD i .off).seq) := by
  obtain ⟨g, c, hv, _, _, _, h4, hc, _⟩ := owns_at ncellC_len .off h.crow rfl (by omega)
  exact ⟨g, c, hv, h4, hc i 0 _ hi (by omega) rfl, hc i 1 _ hi (by omega) rfl, hc i 2 _ hi (by omega) rfl⟩

theorem refhas_any (y : Int) (h : NestAt w hv cv W) : Calls Try.prog 48 #[.agg #[hv, cv], .int .i64 y] w fun e w' => e = .returned (.bool (hasW W y)) ∧ Below w.heap.size w w' := by
  have hB : Below w.heap.size w (w.alloc (.cells #[hv, cv] 55)) := (Below.refl _ _).alloc (Nat.le_refl _) _
  obtain ⟨a, c, rfl, h1, h2⟩ := h.hform
  have hl := h.hlen
  by_cases hy : 1 ≤ y
  · by_cases hy2 : y < W.heaps.length
    · obtain ⟨i, rfl⟩ : ∃ i : Nat, y = i := ⟨y.toNat, by omega⟩
      obtain ⟨g, c', hv', hg, hc⟩ := h.hcell i (by omega)
      cases hv'
      have e1 : hasW W i = W.heaps.getD i false := by simp [hasW]; omega
      rw [e1]
      generalize W.heaps.getD i false = z at *
      clear h e1
      generalize W.heaps.length = n at *
      have hi : i < n := by omega
      go_enter Try.func48, Try.ntmps48
      go_wp2
      go_ret
      exact ⟨rfl, hB⟩
    · have e1 : hasW W y = false := by simp [hasW]; omega
      rw [e1]
      clear h e1
      generalize W.heaps.length = n at *
      go_enter Try.func48, Try.ntmps48
      go_wp2
      go_ret
      exact ⟨rfl, hB⟩
  · have e1 : hasW W y = false := by simp [hasW]; omega
    rw [e1]
    clear h e1
    generalize W.heaps.length = n at *
    go_enter Try.func48, Try.ntmps48
    go_wp2
    go_ret
    exact ⟨rfl, hB⟩
theorem refin_any (x : Int) (h : NestAt w hv cv W) : Calls Try.prog 49 #[.agg #[hv, cv], .int .i64 x] w fun e w' => e = .returned (.bool (inW W x)) ∧ Below w.heap.size w w' := by
  have hB : Below w.heap.size w (w.alloc (.cells #[hv, cv] 55)) := (Below.refl _ _).alloc (Nat.le_refl _) _
  obtain ⟨a, c, rfl, h1, h2⟩ := h.cform
  have hl := h.clen
  by_cases hx : 0 ≤ x
  · by_cases hx2 : x < W.cells.length
    · obtain ⟨i, rfl⟩ : ∃ i : Nat, x = i := ⟨x.toNat, by omega⟩
      obtain ⟨g, c', hv', hg, hc, _, _⟩ := h.ccell i (by omega)
      cases hv'
      have e1 : inW W i = decide (0 < (W.cells.getD i .off).home) := by
        rw [inW, cell_nat W i (by omega)]
        by_cases e : (W.cells.getD i .off).home = 0
        · rw [e]; rfl
        · rw [bne_iff_ne.2 e, decide_eq_true (by omega)]
      rw [e1]
      generalize W.cells.getD i .off = z at *
      clear h e1
      generalize W.cells.length = n at *
      have hi : i < n := by omega
      go_enter Try.func49, Try.ntmps49
      go_wp2
      go_ret
      exact ⟨rfl, hB⟩
    · have e1 : inW W x = false := by
        have : slotW W x = false := by simp [slotW]; omega
        rw [inW, cell_off this]; rfl
      rw [e1]
      clear h e1
      generalize W.cells.length = n at *
      go_enter Try.func49, Try.ntmps49
      go_wp2
      go_ret
      exact ⟨rfl, hB⟩
  · have e1 : inW W x = false := by
      have : slotW W x = false := by simp [slotW]; omega
      rw [inW, cell_off this]; rfl
    rw [e1]
    clear h e1
    generalize W.cells.length = n at *
    go_enter Try.func49, Try.ntmps49
    go_wp2
    go_ret
    exact ⟨rfl, hB⟩
end
end Go.Proofs.Ytmoolbmbdnkooaa
