/- Binomial heaps, as plain data: the cubes of all heaps in one forest, each heap's roots in a row; what the calls turn. No program is named here. -/
import Derived.Test.YtmoolbmbdnkooaaGreatHomeInv
import Derived.Test.YtmoolbmbdnkooaaGreatCarryRowMath
import Derived.Test.YtmoolbmbdnkooaaGreatCarryLiftMath
namespace Go.Proofs.YtmoolbmbdnkooaaGreat

/-- Where what is: each heap's slots are those of its roots' trees; what is in none is by itself. -/
structure BHome (W : WS) (n : Nat) (K : Int → List Int) (R : Nat → List Int) : Prop where
  cap : W.cells.length = n
  home : HomeInv W fun h => allR K (R h)
  roots : ∀ h, Roots n K (R h)
  free : ∀ x, inW W x = false → K x = [] ∧ topK K x
/-- None is ahead of that above it. -/
def BOrd (W : WS) (K : Int → List Int) : Prop := ∀ p x, x ∈ K p → aheadW W x p = false
/-- .. but for x: what hangs below it isn't ahead of that above it. -/
structure BHole (W : WS) (K : Int → List Int) (x : Int) : Prop where
  off : ∀ p y, y ∈ K p → y ≠ x → p ≠ x → aheadW W y p = false
  over : ∀ p y, y ∈ K x → x ∈ K p → aheadW W y p = false
section
variable {W : WS} {n : Nat} {K : Int → List Int} {R : Nat → List Int}
theorem updI_at (g : Nat → List Int) (h : Nat) (l : List Int) : updI g h l h = l := by simp [updI]
theorem updI_ne (g : Nat → List Int) {h i : Nat} (l : List Int) (e : i ≠ h) : updI g h l i = g i := by simp [updI, e]
theorem updI_self (g : Nat → List Int) (h : Nat) : updI g h (g h) = g := by
  funext i; unfold updI; split
  · rename_i e; rw [e]
  · rfl
theorem BHome.hung (B : BHome W n K R) {p x : Int} (h : x ∈ K p) : inW W p = true ∧ inW W x = true := by
  refine ⟨?_, ?_⟩
  · cases e : inW W p with
    | true => rfl
    | false => rw [(B.free p e).1] at h; cases h
  · cases e : inW W x with
    | true => rfl
    | false => exact absurd h ((B.free x e).2 p)
theorem BHome.tree (B : BHome W n K R) (I : CInv n K) {x y : Int} (hx : inW W x = true) (h : y ∈ treeK K x) : inW W y = true := by
  by_cases e : y = x
  · rw [e]; exact hx
  · obtain ⟨p, _, h2⟩ := tree_up I h e
    exact (B.hung h2).2
theorem BHome.root (_B : BHome W n K R) (I : CInv n K) {h : Nat} {x : Int} (hx : x ∈ R h) : x ∈ allR K (R h) := mem_allR.2 ⟨x, hx, tree_self I x⟩
theorem BHome.rootIn (B : BHome W n K R) (I : CInv n K) {h : Nat} {x : Int} (hx : x ∈ R h) : 1 ≤ h ∧ (cellW W x).home = h ∧ inW W x = true ∧ ∃ k : Nat, x = k ∧ k < W.cells.length ∧ homeAt W k = h := B.home.in' (B.root I hx)
theorem BHome.one (B : BHome W n K R) (I : CInv n K) {g h : Nat} {x : Int} (h1 : x ∈ R g) (h2 : x ∈ R h) : g = h := B.home.one (B.root I h1) (B.root I h2)
/-- Each slot of a heap is in the tree of one of its roots. -/
theorem BHome.up (B : BHome W n K R) {x : Int} (hx : inW W x = true) : 1 ≤ (cellW W x).home ∧ ∃ c ∈ R (cellW W x).home, x ∈ treeK K c := by
  obtain ⟨h1, h2⟩ := B.home.home hx
  exact ⟨h1, mem_allR.1 h2⟩
/-- Nothing above it: it is a root of its heap. -/
theorem BHome.isRoot (B : BHome W n K R) (I : CInv n K) {x : Int} (hx : inW W x = true) (ht : topK K x) : x ∈ R (cellW W x).home := by
  obtain ⟨_, c, hc, h2⟩ := B.up hx
  obtain rfl := top_in I ht h2
  exact hc
/-- What hangs below x is of its heap. -/
theorem BHome.kidHome (B : BHome W n K R) (I : CInv n K) {p x : Int} (h : x ∈ K p) : (cellW W x).home = (cellW W p).home := by
  obtain ⟨h1, c, hc, h2⟩ := B.up (B.hung h).1
  exact (B.home.in' (mem_allR.2 ⟨c, hc, tree_down I h2 h⟩)).2.1
theorem BHome.zero (B : BHome W n K R) (I : CInv n K) : R 0 = [] := by
  cases e : R 0 with
  | nil => rfl
  | cons x l => have := (B.rootIn I (h := 0) (x := x) (by rw [e]; simp)).1; omega
theorem BHome.inn (B : BHome W n K R) {x : Int} (h : inW W x = true) : inN n x := by
  obtain ⟨k, rfl, hk, _⟩ := in_nat h
  have := B.cap
  exact ⟨by omega, by omega⟩
theorem BHome.empty (B : BHome W n K R) (I : CInv n K) {h : Nat} (hp : 1 ≤ h) : R h = [] ↔ lenW W h = 0 := by
  rw [← B.home.empty hp]
  constructor
  · intro e; simp [e, allR]
  · intro e
    cases e2 : R h with
    | nil => rfl
    | cons x l => have := B.root I (h := h) (x := x) (by rw [e2]; simp); rw [e] at this; cases this
theorem BHome.keyLt (B : BHome W n K R) (I : CInv n K) (hf : W.Fit) {h : Nat} (hn : R h ≠ []) : 1 ≤ h ∧ h < 65537 := by
  refine B.home.keyLt hf (h := h) fun e => hn ?_
  cases e2 : R h with
  | nil => rfl
  | cons x l => have := B.root I (h := h) (x := x) (by rw [e2]; simp); rw [e] at this; cases this
theorem BHome.gone (B : BHome W n K R) (I : CInv n K) (hf : W.Fit) {h : Nat} (hh : hasW W h = false) : R h = [] := by
  cases e2 : R h with
  | nil => rfl
  | cons x l =>
    have h1 := B.root I (h := h) (x := x) (by rw [e2]; simp)
    rw [B.home.has hf (h := h) (fun e => by rw [e] at h1; cases h1)] at hh
    cases hh
/-- What hangs anywhere below x isn't ahead of it. -/
theorem BHome.below (B : BHome W n K R) (I : CInv n K) (O : BOrd W K) {x y : Int} (hx : inW W x = true) (h : y ∈ treeK K x) : aheadW W y x = false := by
  revert h hx y
  refine I.ind (P := fun x => ∀ {y}, inW W x = true → y ∈ treeK K x → aheadW W y x = false) (fun x ih => ?_) x
  intro y hx h
  rcases (mem_treeK I).1 h with rfl | ⟨c, hc, hy⟩
  · exact dahead_irr W _
  · have h1 := B.hung hc
    exact hm_neg (B.tree I h1.2 hy) h1.2 (ih c hc h1.2 hy) (O x c hc)
/-- A root that no root is ahead of is ahead of all. -/
theorem BHome.min (B : BHome W n K R) (I : CInv n K) (O : BOrd W K) {h : Nat} {x : Int} (hx : x ∈ R h) (hle : ∀ y ∈ R h, aheadW W y x = false) : ∃ k : Nat, x = k ∧ IsMin W h k := by
  refine B.home.min (B.root I hx) fun y hy => ?_
  obtain ⟨c, hc, hyc⟩ := mem_allR.1 hy
  have h1 := (B.rootIn I hc).2.2.1
  exact hm_neg (B.tree I h1 hyc) h1 (B.below I O h1 hyc) (hle c hc)
/-- How many there are: the degrees are the digits. -/
theorem BHome.size (B : BHome W n K R) (h : Nat) (hp : 1 ≤ h) : (allR K (R h)).length = lenW W h := B.home.size h hp
theorem BHome.rows (B : BHome W n K R) (I : CInv n K) {h : Nat} (hp : 1 ≤ h) (hr : RowK n K (R h)) {k : Nat} (hk : lenW W h < 2 ^ k) : (R h).length ≤ k ∧ (∀ x ∈ R h, (K x).length < k) ∧ (R h).map (fun x => (K x).length) = (List.range k).filter fun i => (lenW W h).testBit i := by
  rw [← B.size h hp] at hk ⊢
  exact ⟨hr.len I hk, fun x hx => deg_lt I hx hk, hr.digits I hk⟩
theorem bhome_new (n : Nat) : BHome (newW n) n (fun _ => []) (fun _ => []) :=
  ⟨by simp [newW], (homes_new n).perm fun _ => List.Perm.refl _, fun _ => ⟨fun _ h => (by cases h), fun _ h => (by cases h), List.nodup_nil⟩, fun _ _ => ⟨rfl, fun _ h => by cases h⟩⟩
theorem BHome.congr {W' : WS} (B : BHome W n K R) (h1 : W'.cells = W.cells) : BHome W' n K R :=
  ⟨by rw [h1]; exact B.cap, B.home.congr h1, B.roots, fun x hx => B.free x (by unfold inW at hx ⊢; rw [dcells_eq h1] at hx; exact hx)⟩
theorem BHome.row {l : List Int} (B : BHome W n K R) (h : Nat) (p : l.Perm (R h)) : BHome W n K (updI R h l) := by
  refine ⟨B.cap, B.home.perm fun g => ?_, fun g => ?_, B.free⟩
  · unfold updI; split
    · rename_i e; rw [e]; exact allR_perm p
    · exact List.Perm.refl _
  · unfold updI; split
    · exact (B.roots h).perm p.symm
    · exact B.roots g
/-! ### links -/
theorem links_else {ahead : Int → Int → Prop} (I : CInv n K) {L m l : List Int} {k : Nat} {K' : Int → List Int} (hL : Roots n K L) (h : Links n ahead K L k K' m) (hl : Roots n K l) (hd : ∀ x ∈ l, x ∉ L) :
    Roots n K' l ∧ allR K' l = allR K l ∧ (RowK n K l → RowK n K' l) := by
  obtain ⟨I', _, _, _, _, _, h4, h5, h6, _⟩ := Links.all I hL h
  refine ⟨⟨hl.inn, fun x hx => (h5 x (hd x hx)).2 (hl.top x hx), hl.nodup⟩, ?_, fun hr => ⟨hr.inn, fun x hx => (h5 x (hd x hx)).2 (hr.top x hx), hr.rise.imp_of_mem fun {a b} ha hb hlt => by rw [h4 a (hd a ha), h4 b (hd b hb)]; exact hlt⟩⟩
  unfold allR List.flatMap
  congr 1
  exact List.map_congr_left fun c hc => h6 c (hl.top c hc) (hd c hc)
theorem bin_links (I : CInv n K) (B : BHome W n K R) (O : BOrd W K) {h : Nat} {L m r : List Int} {k : Nat} {K' : Int → List Int} (hL : L.Perm (R h)) (hl : Links n (fun x y => aheadW W x y = true) K L k K' m) (hm : m.Perm r) :
    CInv n K' ∧ BHome W n K' (updI R h r) ∧ BOrd W K' ∧ L.length = r.length + k ∧ ∀ g, g ≠ h → RowK n K (R g) → RowK n K' (R g) := by
  have hrL := (B.roots h).perm hL.symm
  obtain ⟨I', h1, h2, h3, h4, h5, h6, h7, _, h9⟩ := Links.all I hrL hl
  have hel := fun g (hg : g ≠ h) => links_else I hrL hl (B.roots g) fun x hx hxL => hg (B.one I hx (hL.mem_iff.1 hxL))
  refine ⟨I', ⟨B.cap, B.home.perm fun g => ?_, fun g => ?_, fun x hx => ?_⟩, fun p x hx => ?_, by rw [h3, hm.length_eq], fun g hg => (hel g hg).2.2⟩
  · show (allR K' (updI R h r g)).Perm _
    unfold updI; split
    · rename_i e; rw [e]; exact ((allR_perm hm).symm.trans h2).trans (allR_perm hL)
    · rename_i e; rw [(hel g e).2.1]
  · unfold updI; split
    · exact h1.perm hm
    · rename_i e; exact (hel g e).1
  · have hnx : x ∉ L := fun e => by have := (B.rootIn I (hL.mem_iff.1 e)).2.2.1; rw [hx] at this; cases this
    exact ⟨by rw [h6 x hnx]; exact (B.free x hx).1, (h7 x hnx).2 (B.free x hx).2⟩
  · rcases h4 p x hx with e | ⟨e, _⟩
    · exact O p x e
    · simpa using e
/-! ### one comes in, one goes, two heaps become one -/
theorem bin_put (I : CInv n K) (B : BHome W n K R) (O : BOrd W K) {h : Nat} {x k s : Int} (hp : putB W h x = true) (h1 : 1 ≤ h) :
    K x = [] ∧ topK K x ∧ inN n x ∧ (∀ g, x ∉ R g) ∧ RowK n K [x] ∧ inW (putW W h x k s) x = true ∧ (∀ y, y ≠ x → cellW (putW W h x k s) y = cellW W y) ∧ BHome (putW W h x k s) n K (updI R h (x :: R h)) ∧ BOrd (putW W h x k s) K := by
  obtain ⟨h2, h3, h4, h5, h6⟩ := homes_put (k := k) (s := s) B.home hp h1
  obtain ⟨f1, f2⟩ := B.free x h3
  have hinn : inN n x := by
    simp only [putB, Bool.and_eq_true] at hp
    obtain ⟨k, rfl, hk⟩ := slot_nat hp.2.1
    have := B.cap
    exact ⟨by omega, by omega⟩
  have hnr : ∀ g, x ∉ R g := fun g hg => h2 g (B.root I hg)
  have hcap : (putW W h x k s).cells.length = n := by
    simp [putW, hp, B.cap]
  refine ⟨f1, f2, hinn, hnr, ⟨fun y hy => by rw [List.mem_singleton.1 hy]; exact hinn, fun y hy => by rw [List.mem_singleton.1 hy]; exact f2, List.pairwise_singleton _ _⟩, h4, h5, ⟨hcap, h6 _ ?_ (fun g hg => ?_), fun g => ?_, fun y hy => ?_⟩, fun p y hy => ?_⟩
  · show (allR K (updI R h (x :: R h) h)).Perm _
    rw [updI_at]
    unfold allR
    rw [List.flatMap_cons, tree_eq I, f1]
    exact List.Perm.refl _
  · show (allR K (updI R h (x :: R h) g)).Perm _
    rw [updI_ne _ _ hg]
  · unfold updI; split
    · exact ⟨fun y hy => (List.mem_cons.1 hy).elim (fun e => by rw [e]; exact hinn) ((B.roots h).inn y), fun y hy => (List.mem_cons.1 hy).elim (fun e => by rw [e]; exact f2) ((B.roots h).top y), List.nodup_cons.2 ⟨hnr h, (B.roots h).nodup⟩⟩
    · exact B.roots g
  · by_cases e : y = x
    · rw [e, h4] at hy; cases hy
    · exact B.free y (by unfold inW at hy ⊢; rw [h5 y e] at hy; exact hy)
  · have e1 : y ≠ x := fun e => f2 p (e ▸ hy)
    have e2 : p ≠ x := fun e => by rw [e, f1] at hy; cases hy
    rw [dahead_same (h5 y e1) (h5 p e2)]
    exact O p y hy
theorem allR_erase {l : List Int} {x : Int} (hx : x ∈ l) : (allR K l).Perm (treeK K x ++ allR K (l.erase x)) :=
  allR_perm (List.perm_cons_erase hx)
/-- A root without children goes. -/
theorem bin_drop (I : CInv n K) (B : BHome W n K R) (O : BOrd W K) {h : Nat} {x : Int} (hx : x ∈ R h) (hk : K x = []) :
    BHome (dropW W x) n K (updI R h ((R h).erase x)) ∧ BOrd (dropW W x) K ∧ (∀ y, y ≠ x → cellW (dropW W x) y = cellW W y) := by
  obtain ⟨h4, h5, h6⟩ := homes_drop B.home (B.root I hx)
  have ht := (B.roots h).top x hx
  have hcap : (dropW W x).cells.length = n := by
    unfold dropW; split
    · show (W.cells.set _ _).length = n; rw [List.length_set]; exact B.cap
    · exact B.cap
  refine ⟨⟨hcap, h6 _ ?_ (fun g hg => ?_), fun g => ?_, fun y hy => ?_⟩, fun p y hy => ?_, h5⟩
  · show (x :: allR K (updI R h ((R h).erase x) h)).Perm _
    rw [updI_at]
    have := allR_erase (K := K) hx
    rw [tree_eq I, hk] at this
    exact this.symm
  · show (allR K (updI R h ((R h).erase x) g)).Perm _
    rw [updI_ne _ _ hg]
  · unfold updI; split
    · exact ⟨fun y hy => (B.roots h).inn y (List.mem_of_mem_erase hy), fun y hy => (B.roots h).top y (List.mem_of_mem_erase hy), (B.roots h).nodup.erase x⟩
    · exact B.roots g
  · by_cases e : y = x
    · rw [e]; exact ⟨hk, ht⟩
    · exact B.free y (by unfold inW at hy ⊢; rw [h5 y e] at hy; exact hy)
  · have e1 : y ≠ x := fun e => ht p (e ▸ hy)
    have e2 : p ≠ x := fun e => by rw [e, hk] at hy; cases hy
    rw [dahead_same (h5 y e1) (h5 p e2)]
    exact O p y hy
theorem bin_join (I : CInv n K) (B : BHome W n K R) (O : BOrd W K) {a b : Nat} (hb : joinBW W a b = true) (ha1 : 1 ≤ a) (hb1 : 1 ≤ b) :
    a ≠ b ∧ (∀ x ∈ R a, x ∉ R b) ∧ aheadW (joinW W a b) = aheadW W ∧ (∀ y, inW (joinW W a b) y = inW W y) ∧ BHome (joinW W a b) n K (updI (updI R b []) a (R a ++ R b)) ∧ BOrd (joinW W a b) K := by
  obtain ⟨h1, h2, h3, _, h5⟩ := homes_join B.home hb ha1 hb1
  have hap : ∀ x ∈ R a, x ∉ R b := fun x h4 h5 => h1 (B.one I h4 h5)
  have hcap : (joinW W a b).cells.length = n := by
    simp [joinW, hb, B.cap]
  refine ⟨h1, hap, h2, h3, ⟨hcap, h5 _ ?_ ?_ (fun g hg hg2 => ?_), fun g => ?_, fun y hy => B.free y (by rw [← h3]; exact hy)⟩, fun p y hy => by rw [h2]; exact O p y hy⟩
  · show (allR K (updI (updI R b []) a (R a ++ R b) a)).Perm _
    rw [updI_at]
    unfold allR
    rw [List.flatMap_append]
  · show allR K (updI (updI R b []) a (R a ++ R b) b) = []
    rw [updI_ne _ _ (fun e => h1 e.symm), updI_at]; rfl
  · show (allR K (updI (updI R b []) a (R a ++ R b) g)).Perm _
    rw [updI_ne _ _ hg, updI_ne _ _ hg2]
  · unfold updI; split
    · exact ⟨fun y hy => (List.mem_append.1 hy).elim ((B.roots a).inn y) ((B.roots b).inn y), fun y hy => (List.mem_append.1 hy).elim ((B.roots a).top y) ((B.roots b).top y), List.nodup_append.2 ⟨(B.roots a).nodup, (B.roots b).nodup, fun x hx y hy e => hap x hx (e ▸ hy)⟩⟩
    · split
      · exact ⟨fun _ h => (by cases h), fun _ h => (by cases h), List.nodup_nil⟩
      · exact B.roots g
/-! ### a root's children come off -/
theorem split_top {x y : Int} (I : CInv n K) : topK (splitK K x) y ↔ topK K y ∨ y ∈ K x := by
  constructor
  · intro h
    by_cases e : y ∈ K x
    · exact Or.inr e
    · refine Or.inl fun p hp => h p (mem_split.2 ⟨hp, fun e2 => e (e2 ▸ hp)⟩)
  · rintro (h | h) p hp
    · exact h p (mem_split.1 hp).1
    · exact (mem_split.1 hp).2 (I.one p x y (mem_split.1 hp).1 h)
theorem split_kids (I : CInv n K) {x : Int} (ht : topK K x) : RowK n (splitK K x) (K x) := by
  have hne : ∀ y ∈ K x, y ≠ x := fun y hy e => ht x (e ▸ hy)
  refine ⟨fun y hy => (I.rng x y hy).2, fun y hy => (split_top I).2 (Or.inr hy), ?_⟩
  rw [List.pairwise_iff_getElem]
  intro i j hi hj hij
  have h1 := I.cube x i _ (List.getElem?_eq_getElem hi)
  have h2 := I.cube x j _ (List.getElem?_eq_getElem hj)
  have e1 : splitK K x (K x)[i] = K (K x)[i] := by unfold splitK; rw [if_neg (hne _ (List.getElem_mem hi))]
  have e2 : splitK K x (K x)[j] = K (K x)[j] := by unfold splitK; rw [if_neg (hne _ (List.getElem_mem hj))]
  rw [e1, e2, h1, h2]
  exact hij
theorem split_tree (I : CInv n K) {x : Int} (ht : topK K x) {c : Int} (hc : c ≠ x) : treeK (splitK K x) c = treeK K c :=
  tree_congr I (split_inv I ht) fun y hy => by
    unfold splitK
    rw [if_neg]
    rintro rfl
    exact hc (top_in I ht hy).symm
theorem bin_split (I : CInv n K) (B : BHome W n K R) {h : Nat} {x : Int} (hx : x ∈ R h) :
    CInv n (splitK K x) ∧ BHome W n (splitK K x) (updI R h (x :: ((R h).erase x ++ K x))) ∧ (BOrd W K → BOrd W (splitK K x)) ∧ splitK K x x = [] ∧ (∀ g, g ≠ h → RowK n K (R g) → RowK n (splitK K x) (R g)) ∧ (RowK n K (R h) → RowK n (splitK K x) ((R h).erase x)) ∧ RowK n (splitK K x) (K x) ∧ (∀ y ∈ (R h).erase x, y ∉ K x) := by
  have ht := (B.roots h).top x hx
  have I' := split_inv I ht
  have hkids := split_kids I ht
  have hself : splitK K x x = [] := by unfold splitK; rw [if_pos rfl]
  have hdeg : ∀ y, y ≠ x → splitK K x y = K y := fun y hy => by unfold splitK; rw [if_neg hy]
  have hrow : ∀ l, x ∉ l → RowK n K l → RowK n (splitK K x) l := fun l hl hr => ⟨hr.inn, fun y hy => (split_top I).2 (Or.inl (hr.top y hy)), hr.rise.imp_of_mem fun {a b} ha hb hlt => by rw [hdeg a (fun e => hl (e ▸ ha)), hdeg b (fun e => hl (e ▸ hb))]; exact hlt⟩
  have hroots : ∀ l, Roots n K l → Roots n (splitK K x) l := fun l hr => ⟨hr.inn, fun y hy => (split_top I).2 (Or.inl (hr.top y hy)), hr.nodup⟩
  have hall : ∀ l, x ∉ l → allR (splitK K x) l = allR K l := fun l hl => by
    unfold allR List.flatMap
    congr 1
    exact List.map_congr_left fun c hc => split_tree I ht fun e => hl (e ▸ hc)
  have hnot : ∀ g, g ≠ h → x ∉ R g := fun g hg hm => hg (B.one I hm hx)
  have hner : x ∉ (R h).erase x := fun e => by have := (List.Nodup.mem_erase_iff (B.roots h).nodup).1 e; exact this.1 rfl
  have hkx : x ∉ K x := fun e => ht x e
  have hap : ∀ y ∈ (R h).erase x, y ∉ K x := fun y hy hyk => (B.roots h).top y (List.mem_of_mem_erase hy) x hyk
  have hxin := (B.rootIn I hx).2.2.1
  refine ⟨I', ⟨B.cap, B.home.perm fun g => ?_, fun g => ?_, fun y hy => ?_⟩, fun O p y hy => O p y (mem_split.1 hy).1, hself, fun g hg => hrow _ (hnot g hg), fun hr => hrow _ hner ⟨fun y hy => hr.inn y (List.mem_of_mem_erase hy), fun y hy => hr.top y (List.mem_of_mem_erase hy), hr.rise.sublist List.erase_sublist⟩, hkids, hap⟩
  · show (allR (splitK K x) (updI R h (x :: ((R h).erase x ++ K x)) g)).Perm (allR K (R g))
    unfold updI; split
    · rename_i e; rw [e]
      refine List.Perm.trans ?_ (allR_erase hx).symm
      have e1 : allR (splitK K x) (x :: ((R h).erase x ++ K x)) = [x] ++ (allR K ((R h).erase x) ++ allR K (K x)) := by
        rw [← hall _ hner, ← hall _ hkx]
        unfold allR
        rw [List.flatMap_cons, List.flatMap_append, tree_eq I', hself]
        rfl
      rw [e1, tree_eq I x]
      show (x :: (allR K ((R h).erase x) ++ allR K (K x))).Perm (x :: ((K x).flatMap (treeK K) ++ allR K ((R h).erase x)))
      exact List.Perm.cons _ List.perm_append_comm
    · rename_i e; rw [hall _ (hnot g e)]
  · unfold updI; split
    · refine ⟨fun y hy => ?_, fun y hy => ?_, List.nodup_cons.2 ⟨fun e => ?_, List.nodup_append.2 ⟨(B.roots h).nodup.erase x, hkids.roots.nodup, fun a ha b hb e => hap a ha (e ▸ hb)⟩⟩⟩
      · rcases List.mem_cons.1 hy with rfl | hy
        · exact (B.roots h).inn _ hx
        · exact (List.mem_append.1 hy).elim (fun h1 => (B.roots h).inn y (List.mem_of_mem_erase h1)) (hkids.inn y)
      · rcases List.mem_cons.1 hy with rfl | hy
        · exact (split_top I).2 (Or.inl ht)
        · exact (List.mem_append.1 hy).elim (fun h1 => (split_top I).2 (Or.inl ((B.roots h).top y (List.mem_of_mem_erase h1)))) (hkids.top y)
      · exact (List.mem_append.1 e).elim hner hkx
    · exact hroots _ (B.roots g)
  · have hyx : y ≠ x := fun e => by rw [e, hxin] at hy; cases hy
    exact ⟨by rw [hdeg y hyx]; exact (B.free y hy).1, (split_top I).2 (Or.inl (B.free y hy).2)⟩
/-! ### a thing changes places with that above it -/
theorem put_sw {l : List Int} {x p : Int} (hx : x ∉ l) : putL l p x = l.map (swK x p) := by
  unfold putL
  refine List.map_congr_left fun z hz => ?_
  unfold swK
  rw [if_neg (fun e : z = x => hx (e ▸ hz))]
theorem lift_tree (I : CInv n K) {x p : Int} (h : x ∈ K p) (c : Int) : treeK (liftK K x p) (swK x p c) = (treeK K c).map (swK x p) := by
  have I' := lift_inv I h
  refine I.ind (P := fun c => treeK (liftK K x p) (swK x p c) = (treeK K c).map (swK x p)) (fun c ih => ?_) c
  rw [tree_eq I', tree_eq I, List.map_cons]
  congr 1
  unfold liftK
  rw [sw_sw, List.flatMap_map, List.map_flatMap]
  unfold List.flatMap
  congr 1
  exact List.map_congr_left fun d hd => ih d hd
theorem sw_nodup {l : List Int} {x p : Int} (hd : l.Nodup) : (l.map (swK x p)).Nodup := by
  rw [List.nodup_iff_pairwise_ne, List.pairwise_map]
  exact hd.imp fun h e => h (sw_inj e)
theorem sw_perm {l : List Int} {x p : Int} (hd : l.Nodup) (h : x ∈ l ↔ p ∈ l) : (l.map (swK x p)).Perm l := by
  refine (List.perm_ext_iff_of_nodup (sw_nodup hd) hd).2 fun y => ?_
  rw [List.mem_map]
  have hm : ∀ z, swK x p z ∈ l ↔ z ∈ l := fun z => by
    unfold swK; split
    · rename_i e; rw [e]; exact h.symm
    · split
      · rename_i e; rw [e]; exact h
      · exact Iff.rfl
  constructor
  · rintro ⟨z, hz, rfl⟩; exact (hm z).2 hz
  · intro hy; exact ⟨swK x p y, (hm y).2 hy, sw_sw x p y⟩
theorem lift_roots (I : CInv n K) {x p : Int} (h : x ∈ K p) {l : List Int} (hl : Roots n K l) : Roots n (liftK K x p) (putL l p x) ∧ (allR (liftK K x p) (putL l p x)).Perm (allR K l) ∧ (RowK n K l → RowK n (liftK K x p) (putL l p x)) := by
  obtain ⟨hp, hx⟩ := I.rng p x h
  have hxl : x ∉ l := fun e => hl.top x e p h
  rw [put_sw hxl]
  have htop : ∀ y ∈ l.map (swK x p), topK (liftK K x p) y := fun y hy => by
    obtain ⟨z, hz, rfl⟩ := List.mem_map.1 hy
    rw [lift_top, sw_sw]; exact hl.top z hz
  have hin : ∀ y ∈ l.map (swK x p), inN n y := fun y hy => by
    obtain ⟨z, hz, rfl⟩ := List.mem_map.1 hy
    exact sw_in hx hp (hl.inn z hz)
  refine ⟨⟨hin, htop, sw_nodup hl.nodup⟩, ?_, fun hr => ⟨hin, htop, ?_⟩⟩
  · have e : allR (liftK K x p) (l.map (swK x p)) = (allR K l).map (swK x p) := by
      unfold allR
      rw [List.flatMap_map, List.map_flatMap]
      unfold List.flatMap
      congr 1
      exact List.map_congr_left fun c _ => lift_tree I h c
    rw [e]
    refine sw_perm (allR_nodup I hl) ⟨fun hm => ?_, fun hm => ?_⟩
    · obtain ⟨c, hc, hm⟩ := mem_allR.1 hm
      have hne : x ≠ c := fun e => hxl (e ▸ hc)
      obtain ⟨q, hq, hxq⟩ := tree_up I hm hne
      rw [I.one p q x h hxq]
      exact mem_allR.2 ⟨c, hc, hq⟩
    · obtain ⟨c, hc, hm⟩ := mem_allR.1 hm
      exact mem_allR.2 ⟨c, hc, tree_down I hm h⟩
  · rw [List.pairwise_map]
    refine hr.rise.imp fun {a b} hlt => ?_
    rw [lift_deg, lift_deg, sw_sw, sw_sw]; exact hlt
theorem bin_lift (I : CInv n K) (B : BHome W n K R) {x p : Int} (h : x ∈ K p) : CInv n (liftK K x p) ∧ BHome W n (liftK K x p) (fun g => putL (R g) p x) ∧ (∀ g, RowK n K (R g) → RowK n (liftK K x p) (putL (R g) p x)) ∧ (∀ g, p ∉ R g → putL (R g) p x = R g) := by
  obtain ⟨hin1, hin2⟩ := B.hung h
  refine ⟨lift_inv I h, ⟨B.cap, B.home.perm fun g => (lift_roots I h (B.roots g)).2.1, fun g => (lift_roots I h (B.roots g)).1, fun y hy => ?_⟩, fun g => (lift_roots I h (B.roots g)).2.2, fun g hg => put_not hg⟩
  have e1 : y ≠ x := fun e => by rw [e, hin2] at hy; cases hy
  have e2 : y ≠ p := fun e => by rw [e, hin1] at hy; cases hy
  obtain ⟨f1, f2⟩ := B.free y hy
  refine ⟨?_, lift_top.2 (by rw [sw_else e1 e2]; exact f2)⟩
  unfold liftK
  rw [sw_else e1 e2, f1]; rfl
theorem hole_of {x : Int} (B : BHome W n K R) (O : BOrd W K) : BHole W K x :=
  ⟨fun p y h _ _ => O p y h, fun p y h1 h2 => hm_neg (B.hung h1).2 (B.hung h2).2 (O x y h1) (O p x h2)⟩
/-- Whatever x is: the hole goes up with it. -/
theorem hole_lift (I : CInv n K) (B : BHome W n K R) {x p : Int} (H : BHole W K x) (h : x ∈ K p) : BHole W (liftK K x p) x := by
  have hne : p ≠ x := fun e => by have := I.less h; rw [e] at this; omega
  refine ⟨fun q y hy hyx hqx => ?_, fun q y hy hq => ?_⟩
  · rw [mem_lift] at hy
    by_cases e1 : q = p
    · rw [e1, sw_p] at hy
      by_cases e2 : y = p
      · rw [e2, sw_p] at hy; exact absurd (I.less hy) (Nat.lt_irrefl _)
      · rw [sw_else hyx e2] at hy
        rw [e1]
        exact H.over p y hy h
    · rw [sw_else hqx e1] at hy
      by_cases e2 : y = p
      · rw [e2, sw_p] at hy
        exact absurd (I.one q p x hy h) e1
      · rw [sw_else hyx e2] at hy
        exact H.off q y hy hyx hqx
  · rw [mem_lift, sw_x] at hy hq
    have hqx : q ≠ x := fun e => by rw [e, sw_x] at hq; exact absurd (I.less hq) (Nat.lt_irrefl _)
    have hqp : q ≠ p := fun e => by rw [e, sw_p] at hq; have := I.less hq; have := I.less h; omega
    rw [sw_else hqx hqp] at hq
    have h1 := H.off q p hq hne hqx
    by_cases e : y = p
    · rw [e]; exact h1
    · have hyx : y ≠ x := fun e2 => by rw [e2, sw_x] at hy; exact absurd (I.less hy) (Nat.lt_irrefl _)
      rw [sw_else hyx e] at hy
      exact hm_neg (B.hung hy).2 (B.hung hq).2 (H.off p y hy hyx hne) h1
/-- x is ahead of that above it: it stays so that nothing below x is ahead of it. -/
theorem low_lift (I : CInv n K) (_B : BHome W n K R) {x p : Int} (H : BHole W K x) (h : x ∈ K p) (ha : aheadW W x p = true) : ∀ y ∈ liftK K x p x, aheadW W y x = false := by
  intro y hy
  rw [mem_lift, sw_x] at hy
  have hne : p ≠ x := fun e => by have := I.less h; rw [e] at this; omega
  by_cases e : y = p
  · rw [e]; exact hm_asym ha
  · have hyx : y ≠ x := fun e2 => by rw [e2, sw_x] at hy; exact absurd (I.less hy) (Nat.lt_irrefl _)
    rw [sw_else hyx e] at hy
    have h1 := H.off p y hy hyx hne
    cases h2 : aheadW W y x with
    | false => rfl
    | true => rw [dahead_trans h2 ha] at h1; cases h1
/-- The hole is none any more. -/
theorem hole_end {x : Int} (H : BHole W K x) (hl : ∀ y ∈ K x, aheadW W y x = false) (hu : ∀ p, x ∈ K p → aheadW W x p = false) : BOrd W K := by
  intro p y hy
  by_cases e1 : p = x
  · rw [e1] at hy ⊢; exact hl y hy
  · by_cases e2 : y = x
    · rw [e2] at hy ⊢; exact hu p hy
    · exact H.off p y hy e2 e1
/-- x is at the top: with its children off, nothing is wrong any more. -/
theorem hole_split {x : Int} (H : BHole W K x) (ht : topK K x) : BOrd W (splitK K x) := by
  intro p y hy
  obtain ⟨h1, h2⟩ := mem_split.1 hy
  exact H.off p y h1 (fun e => ht p (e ▸ h1)) h2
theorem bin_lower (I : CInv n K) (B : BHome W n K R) (O : BOrd W K) {x k s : Int} (hb : lowerB W x k s = true) :
    inW W x = true ∧ (∀ y, inW (lowerW W x k s) y = inW W y) ∧ (∀ y, (cellW (lowerW W x k s) y).home = (cellW W y).home) ∧ BHome (lowerW W x k s) n K R ∧ BHole (lowerW W x k s) K x ∧ ∀ y ∈ K x, aheadW (lowerW W x k s) y x = false := by
  obtain ⟨h1, h2, h3, h4, h5, h6⟩ := homes_lower B.home hb
  have hcap : (lowerW W x k s).cells.length = n := by
    simp [lowerW, hb, B.cap]
  refine ⟨h1, h2, h3, ⟨hcap, h6, B.roots, fun y hy => B.free y (by rw [← h2]; exact hy)⟩, ⟨fun p y hy e1 e2 => by rw [h4 y p e1 e2]; exact O p y hy, fun p y hy hx => ?_⟩, fun y hy => h5 y (B.hung hy).2 (fun e => by rw [e] at hy; exact absurd (I.less hy) (Nat.lt_irrefl _)) (O x y hy)⟩
  have e1 : y ≠ x := fun e => by rw [e] at hy; exact absurd (I.less hy) (Nat.lt_irrefl _)
  have e2 : p ≠ x := fun e => by rw [e] at hx; exact absurd (I.less hx) (Nat.lt_irrefl _)
  rw [h4 y p e1 e2]
  exact hm_neg (B.hung hy).2 (B.hung hx).2 (O x y hy) (O p x hx)
end
end Go.Proofs.YtmoolbmbdnkooaaGreat
