/- Merged of CarryRowMath, CarryLiftMath, BinInv, BinStepMath, CarryUpMath, BinLiftMath. -/
import Derived.Test.YtkcicnflcilekaaGreatCarryMath
namespace Go.Proofs.YtkcicnflcilekaaGreat
/-! ### digits -/
def powSum (l : List Nat) : Nat := (l.map fun x => 2 ^ x).sum
theorem powSum_cons (d : Nat) (l : List Nat) : powSum (d :: l) = 2 ^ d + powSum l := by unfold powSum; rw [List.map_cons, List.sum_cons]
theorem powSum_perm {l m : List Nat} (h : l.Perm m) : powSum l = powSum m := (h.map _).sum_nat
theorem powSum_lt : ∀ (l : List Nat) (d : Nat), l.Pairwise (· > ·) → (∀ x ∈ l, x < d) → powSum l < 2 ^ d
  | [], d, _, _ => Nat.two_pow_pos d
  | e :: l, d, h, hd => by
    obtain ⟨h1, h2⟩ := List.pairwise_cons.1 h
    have i := powSum_lt l e h2 h1
    have he := hd e (by simp)
    have := Nat.pow_le_pow_right (show 0 < 2 by omega) (show e + 1 ≤ d by omega)
    rw [Nat.pow_succ] at this
    rw [powSum_cons]; omega
theorem test_desc : ∀ (l : List Nat), l.Pairwise (· > ·) → ∀ i, (powSum l).testBit i = decide (i ∈ l)
  | [], _, i => by simp [powSum]
  | d :: l, h, i => by
    obtain ⟨h1, h2⟩ := List.pairwise_cons.1 h
    have hlt := powSum_lt l d h2 h1
    have ih := test_desc l h2 i
    rw [powSum_cons]
    rcases Nat.lt_trichotomy i d with hid | hid | hid
    · rw [Nat.testBit_two_pow_add_gt hid, ih]
      simp [show i ≠ d by omega]
    · subst hid
      rw [Nat.testBit_two_pow_add_eq, Nat.testBit_lt_two_pow hlt]
      simp
    · have hni : i ∉ l := fun hm => by have := h1 i hm; omega
      rw [Nat.testBit_lt_two_pow]
      · simp [hni, show i ≠ d by omega]
      · have := Nat.pow_le_pow_right (show 0 < 2 by omega) (show d + 1 ≤ i by omega)
        rw [Nat.pow_succ] at this; omega
/-- A thing is in a strictly rising list where that digit of the sum is a one. -/
theorem test_rise {l : List Nat} (h : l.Pairwise (· < ·)) (i : Nat) : (powSum l).testBit i = decide (i ∈ l) := by
  have hr : l.reverse.Pairwise (· > ·) := List.pairwise_reverse.2 h
  have := test_desc l.reverse hr i
  rw [powSum_perm (List.reverse_perm l)] at this
  simpa using this
theorem rise_ext : ∀ (l m : List Nat), l.Pairwise (· < ·) → m.Pairwise (· < ·) → (∀ x, x ∈ l ↔ x ∈ m) → l = m
  | [], [], _, _, _ => rfl
  | [], y :: m, _, _, h => by have := (h y).2 (by simp); cases this
  | x :: l, [], _, _, h => by have := (h x).1 (by simp); cases this
  | x :: l, y :: m, hl, hm, h => by
    obtain ⟨h1, h2⟩ := List.pairwise_cons.1 hl
    obtain ⟨h3, h4⟩ := List.pairwise_cons.1 hm
    have hxy : x = y := by
      rcases List.mem_cons.1 ((h x).1 (by simp)) with e | e
      · exact e
      · rcases List.mem_cons.1 ((h y).2 (by simp)) with e2 | e2
        · exact e2.symm
        · have := h1 y e2; have := h3 x e; omega
    subst hxy
    congr 1
    refine rise_ext l m h2 h4 fun z => ⟨fun hz => ?_, fun hz => ?_⟩
    · rcases List.mem_cons.1 ((h z).1 (by simp [hz])) with e | e
      · have := h1 z hz; omega
      · exact e
    · rcases List.mem_cons.1 ((h z).2 (by simp [hz])) with e | e
      · have := h3 z hz; omega
      · exact e
theorem range_rise (k : Nat) : (List.range k).Pairwise (· < ·) := List.pairwise_lt_range
/-- A strictly rising list of places is that of the ones among its sum's digits. -/
theorem digits_eq {l : List Nat} (h : l.Pairwise (· < ·)) {k : Nat} (hk : powSum l < 2 ^ k) : l = (List.range k).filter fun i => (powSum l).testBit i := by
  refine rise_ext _ _ h ((range_rise k).filter _) fun x => ?_
  rw [List.mem_filter, test_rise h, List.mem_range]
  simp only [decide_eq_true_eq]
  refine ⟨fun hx => ⟨?_, hx⟩, fun hx => hx.2⟩
  by_cases hlt : x < k
  · exact hlt
  · have hb := test_rise h x
    rw [Nat.testBit_lt_two_pow (Nat.lt_of_lt_of_le hk (Nat.pow_le_pow_right (by omega) (by omega)))] at hb
    simp [hx] at hb
theorem digits_len {l : List Nat} (h : l.Pairwise (· < ·)) {k : Nat} (hk : powSum l < 2 ^ k) : l.length ≤ k := by
  rw [digits_eq h hk]
  exact Nat.le_trans (List.length_filter_le _ _) (by rw [List.length_range]; omega)
/-! ### rows of roots -/
section
variable {n : Nat} {K : Int → List Int}
def allR (K : Int → List Int) (l : List Int) : List Int := l.flatMap (treeK K)
theorem allR_perm {K : Int → List Int} {l m : List Int} (h : l.Perm m) : (allR K l).Perm (allR K m) := h.flatMap_right _
theorem allR_size (I : CInv n K) : ∀ (l : List Int), (allR K l).length = powSum (l.map fun x => (K x).length)
  | [] => rfl
  | x :: l => by
    have := allR_size I l
    unfold allR at this ⊢
    rw [List.flatMap_cons, List.length_append, tree_size I, this, List.map_cons, powSum_cons]
/-- Things above which there is none, each once. -/
structure Roots (n : Nat) (K : Int → List Int) (l : List Int) : Prop where
  inn : ∀ x ∈ l, inC n x
  top : ∀ x ∈ l, topK K x
  nodup : l.Nodup
theorem Roots.perm {l m : List Int} (h : Roots n K l) (p : l.Perm m) : Roots n K m :=
  ⟨fun x hx => h.inn x (p.mem_iff.2 hx), fun x hx => h.top x (p.mem_iff.2 hx), p.nodup_iff.1 h.nodup⟩
/-- A row of roots: of rising degrees. -/
structure RowK (n : Nat) (K : Int → List Int) (l : List Int) : Prop where
  inn : ∀ x ∈ l, inC n x
  top : ∀ x ∈ l, topK K x
  rise : l.Pairwise fun x y => (K x).length < (K y).length
theorem RowK.roots {l : List Int} (h : RowK n K l) : Roots n K l :=
  ⟨h.inn, h.top, h.rise.imp fun hlt e => by subst e; omega⟩
/-- Its degrees are the digits of how many things there are. -/
theorem RowK.digits (I : CInv n K) {l : List Int} (h : RowK n K l) {k : Nat} (hk : (allR K l).length < 2 ^ k) :
    (l.map fun x => (K x).length) = (List.range k).filter fun i => (allR K l).length.testBit i := by
  have hr : (l.map fun x => (K x).length).Pairwise (· < ·) := List.pairwise_map.2 h.rise
  rw [allR_size I] at hk ⊢
  exact digits_eq hr hk
theorem RowK.len (I : CInv n K) {l : List Int} (h : RowK n K l) {k : Nat} (hk : (allR K l).length < 2 ^ k) : l.length ≤ k := by
  have hr : (l.map fun x => (K x).length).Pairwise (· < ·) := List.pairwise_map.2 h.rise
  rw [allR_size I] at hk
  have := digits_len hr hk
  simpa using this
theorem mem_le_sum : ∀ {l : List Nat} {x : Nat}, x ∈ l → x ≤ l.sum
  | y :: l, x, h => by
    rw [List.sum_cons]
    rcases List.mem_cons.1 h with e | e
    · omega
    · have := mem_le_sum e; omega
theorem deg_lt (I : CInv n K) {l : List Int} {x : Int} (hx : x ∈ l) {k : Nat} (hk : (allR K l).length < 2 ^ k) : (K x).length < k := by
  have h1 : (treeK K x).length ≤ (allR K l).length := by
    unfold allR
    rw [List.length_flatMap]
    exact mem_le_sum (List.mem_map.2 ⟨x, hx, rfl⟩)
  rw [tree_size I] at h1
  exact (Nat.pow_lt_pow_iff_right (by omega : 1 < 2)).1 (Nat.lt_of_le_of_lt h1 hk)
theorem mem_allR {l : List Int} {y : Int} : y ∈ allR K l ↔ ∃ x ∈ l, y ∈ treeK K x := List.mem_flatMap
/-! ### links, one after another -/
/-- From K, with the roots l, by k links to K', with the roots l'; what comes below is not ahead. -/
inductive Links (n : Nat) (ahead : Int → Int → Prop) (K : Int → List Int) (l : List Int) : Nat → (Int → List Int) → List Int → Prop
  | start {m} : l.Perm m → Links n ahead K l 0 K m
  | link {k K' m a b r} : Links n ahead K l k K' m → m.Perm (a :: b :: r) → (K' a).length = (K' b).length → ¬ ahead b a → Links n ahead K l (k + 1) (linkK K' a b) (a :: r)
theorem Links.all {ahead : Int → Int → Prop} (I : CInv n K) {l : List Int} (hl : Roots n K l) {k : Nat} {K' : Int → List Int} {m : List Int} (h : Links n ahead K l k K' m) :
    CInv n K' ∧ Roots n K' m ∧ (allR K' m).Perm (allR K l) ∧ l.length = m.length + k ∧ (∀ p x, x ∈ K' p → x ∈ K p ∨ ¬ ahead x p ∧ p ∈ allR K l ∧ x ∈ l) ∧ (∀ p x, x ∈ K p → x ∈ K' p) ∧
    (∀ x, x ∉ l → K' x = K x) ∧ (∀ x, x ∉ l → (topK K' x ↔ topK K x)) ∧ (∀ c, topK K c → c ∉ l → treeK K' c = treeK K c) ∧ (∀ x ∈ m, x ∈ l) := by
  induction h with
  | start p =>
    exact ⟨I, hl.perm p, (allR_perm p).symm, by rw [p.length_eq, Nat.add_zero], fun p x h => Or.inl h, fun _ _ h => h, fun _ _ => rfl, fun _ _ => Iff.rfl, fun _ _ _ => rfl, fun x hx => p.mem_iff.2 hx⟩
  | @link k K' m a b r h p hd ha ih =>
    obtain ⟨I', hm, hp, hlen, hk, hk2, hoff, htop, htree, hin⟩ := ih
    have hm2 := hm.perm p
    have hia := hm2.inn a (by simp)
    have hib := hm2.inn b (by simp)
    have hta := hm2.top a (by simp)
    have htb := hm2.top b (by simp)
    obtain ⟨n1, n2⟩ := List.nodup_cons.1 hm2.nodup
    obtain ⟨n3, n4⟩ := List.nodup_cons.1 n2
    have hne : a ≠ b := fun e => n1 (by simp [e])
    have hal : a ∈ l := hin a (p.mem_iff.2 (by simp))
    have hbl : b ∈ l := hin b (p.mem_iff.2 (by simp))
    obtain ⟨t1, t2⟩ := link_tree I' hia hib hta htb hne hd
    refine ⟨link_inv I' hia hib hta htb hne hd, ⟨fun x hx => hm2.inn x ?_, fun x hx => top_link.2 ⟨hm2.top x ?_, ?_⟩, ?_⟩, ?_, ?_, fun q x hx => ?_, fun q x hx => mem_link.2 (Or.inl (hk2 q x hx)), fun x hx => ?_, fun x hx => ?_, fun c hc hcl => ?_, fun x hx => ?_⟩
    · rcases List.mem_cons.1 hx with e | e <;> simp [e]
    · rcases List.mem_cons.1 hx with e | e <;> simp [e]
    · rintro rfl
      rcases List.mem_cons.1 hx with e | e
      · exact hne e.symm
      · exact n3 e
    · exact List.nodup_cons.2 ⟨fun h => n1 (by simp [h]), n4⟩
    · refine List.Perm.trans ?_ hp
      refine List.Perm.trans ?_ (allR_perm p).symm
      unfold allR
      rw [List.flatMap_cons, List.flatMap_cons, List.flatMap_cons, t1]
      have e : r.flatMap (treeK (linkK K' a b)) = r.flatMap (treeK K') := by
        unfold List.flatMap
        congr 1
        apply List.map_congr_left
        intro c hc
        exact t2 c (hm2.top c (by simp [hc])) fun e => n1 (by simp [← e, hc])
      rw [e, List.append_assoc]
    · have := p.length_eq
      simp only [List.length_cons] at this ⊢
      omega
    · rcases mem_link.1 hx with h | ⟨rfl, rfl⟩
      · exact hk q x h
      · exact Or.inr ⟨ha, mem_allR.2 ⟨q, hal, tree_self I q⟩, hbl⟩
    · unfold linkK
      rw [if_neg (fun e : x = a => hx (e ▸ hal))]
      exact hoff x hx
    · rw [top_link, htop x hx]
      exact ⟨fun h => h.1, fun h => ⟨h, fun e => hx (e ▸ hbl)⟩⟩
    · rw [t2 c ((htop c hcl).2 hc) (fun e => hcl (e ▸ hal)), htree c hc hcl]
    · rcases List.mem_cons.1 hx with e | e
      · exact e ▸ hal
      · exact hin x (p.mem_iff.2 (by simp [e]))
end
end Go.Proofs.YtkcicnflcilekaaGreat

namespace Go.Proofs.YtkcicnflcilekaaGreat

section
variable {n : Nat} {K : Int → List Int}
/-! ### all above a thing -/
end
end Go.Proofs.YtkcicnflcilekaaGreat

namespace Go.Proofs.YtkcicnflcilekaaGreat

/-- Where what is: each heap's slots are those of its roots' trees; what is in none is by itself. -/
structure BHome (W : WS) (n : Nat) (K : Int → List Int) (R : Nat → List Int) : Prop where
  cap : W.cells.length = n
  home : HomeInv W fun h => allR K (R h)
  roots : ∀ h, Roots n K (R h)
  free : ∀ x, inW W x = false → K x = [] ∧ topK K x
/-- None is ahead of that above it. -/
def BOrd (W : WS) (K : Int → List Int) : Prop := ∀ p x, x ∈ K p → aheadW W x p = false
section
variable {W : WS} {n : Nat} {K : Int → List Int} {R : Nat → List Int}
theorem updI_at (g : Nat → List Int) (h : Nat) (l : List Int) : updI g h l h = l := by simp [updI]
theorem updI_ne (g : Nat → List Int) {h i : Nat} (l : List Int) (e : i ≠ h) : updI g h l i = g i := by simp [updI, e]
theorem BHome.hung (B : BHome W n K R) {p x : Int} (h : x ∈ K p) : inW W p = true ∧ inW W x = true := by
  refine ⟨?_, ?_⟩
  · cases e : inW W p with
    | true => rfl
    | false => rw [(B.free p e).1] at h; cases h
  · cases e : inW W x with
    | true => rfl
    | false => exact absurd h ((B.free x e).2 p)
theorem BHome.tree (B : BHome W n K R) (I : CInv n K) {x y : Int} (hx : inW W x = true) (h : y ∈ treeK K x) : inW W y = true := by
  by_cases e : y = x
  · rw [e]; exact hx
  · obtain ⟨p, _, h2⟩ := tree_up I h e
    exact (B.hung h2).2
theorem BHome.root (_B : BHome W n K R) (I : CInv n K) {h : Nat} {x : Int} (hx : x ∈ R h) : x ∈ allR K (R h) := mem_allR.2 ⟨x, hx, tree_self I x⟩
theorem BHome.rootIn (B : BHome W n K R) (I : CInv n K) {h : Nat} {x : Int} (hx : x ∈ R h) : 1 ≤ h ∧ (cellW W x).home = h ∧ inW W x = true ∧ ∃ k : Nat, x = k ∧ k < W.cells.length ∧ homeAt W k = h := B.home.in' (B.root I hx)
theorem BHome.one (B : BHome W n K R) (I : CInv n K) {g h : Nat} {x : Int} (h1 : x ∈ R g) (h2 : x ∈ R h) : g = h := B.home.one (B.root I h1) (B.root I h2)
theorem BHome.zero (B : BHome W n K R) (I : CInv n K) : R 0 = [] := by
  cases e : R 0 with
  | nil => rfl
  | cons x l => have := (B.rootIn I (h := 0) (x := x) (by rw [e]; simp)).1; omega
theorem BHome.empty (B : BHome W n K R) (I : CInv n K) {h : Nat} (hp : 1 ≤ h) : R h = [] ↔ lenW W h = 0 := by
  rw [← B.home.empty hp]
  constructor
  · intro e; simp [e, allR]
  · intro e
    cases e2 : R h with
    | nil => rfl
    | cons x l => have := B.root I (h := h) (x := x) (by rw [e2]; simp); rw [e] at this; cases this
theorem BHome.keyLt (B : BHome W n K R) (I : CInv n K) (hf : W.Fit) {h : Nat} (hn : R h ≠ []) : 1 ≤ h ∧ h < 65537 := by
  refine B.home.keyLt hf (h := h) fun e => hn ?_
  cases e2 : R h with
  | nil => rfl
  | cons x l => have := B.root I (h := h) (x := x) (by rw [e2]; simp); rw [e] at this; cases this
/-- What hangs anywhere below x isn't ahead of it. -/
theorem BHome.below (B : BHome W n K R) (I : CInv n K) (O : BOrd W K) {x y : Int} (hx : inW W x = true) (h : y ∈ treeK K x) : aheadW W y x = false := by
  revert h hx y
  refine I.ind (P := fun x => ∀ {y}, inW W x = true → y ∈ treeK K x → aheadW W y x = false) (fun x ih => ?_) x
  intro y hx h
  rcases (mem_treeK I).1 h with rfl | ⟨c, hc, hy⟩
  · exact dahead_irr W _
  · have h1 := B.hung hc
    exact hm_neg (B.tree I h1.2 hy) h1.2 (ih c hc h1.2 hy) (O x c hc)
/-- A root that no root is ahead of is ahead of all. -/
theorem BHome.min (B : BHome W n K R) (I : CInv n K) (O : BOrd W K) {h : Nat} {x : Int} (hx : x ∈ R h) (hle : ∀ y ∈ R h, aheadW W y x = false) : ∃ k : Nat, x = k ∧ IsMin W h k := by
  refine B.home.min (B.root I hx) fun y hy => ?_
  obtain ⟨c, hc, hyc⟩ := mem_allR.1 hy
  have h1 := (B.rootIn I hc).2.2.1
  exact hm_neg (B.tree I h1 hyc) h1 (B.below I O h1 hyc) (hle c hc)
/-- How many there are: the degrees are the digits. -/
theorem BHome.size (B : BHome W n K R) (h : Nat) (hp : 1 ≤ h) : (allR K (R h)).length = lenW W h := B.home.size h hp
theorem BHome.rows (B : BHome W n K R) (I : CInv n K) {h : Nat} (hp : 1 ≤ h) (hr : RowK n K (R h)) {k : Nat} (hk : lenW W h < 2 ^ k) : (R h).length ≤ k ∧ (∀ x ∈ R h, (K x).length < k) ∧ (R h).map (fun x => (K x).length) = (List.range k).filter fun i => (lenW W h).testBit i := by
  rw [← B.size h hp] at hk ⊢
  exact ⟨hr.len I hk, fun x hx => deg_lt I hx hk, hr.digits I hk⟩
theorem bhome_new (n : Nat) : BHome (newW n) n (fun _ => []) (fun _ => []) :=
  ⟨by simp [newW], (homes_new n).perm fun _ => List.Perm.refl _, fun _ => ⟨fun _ h => (by cases h), fun _ h => (by cases h), List.nodup_nil⟩, fun _ _ => ⟨rfl, fun _ h => by cases h⟩⟩
theorem BHome.congr {W' : WS} (B : BHome W n K R) (h1 : W'.cells = W.cells) : BHome W' n K R :=
  ⟨by rw [h1]; exact B.cap, B.home.congr h1, B.roots, fun x hx => B.free x (by unfold inW at hx ⊢; rw [dcells_eq h1] at hx; exact hx)⟩
/-! ### links -/
theorem links_else {ahead : Int → Int → Prop} (I : CInv n K) {L m l : List Int} {k : Nat} {K' : Int → List Int} (hL : Roots n K L) (h : Links n ahead K L k K' m) (hl : Roots n K l) (hd : ∀ x ∈ l, x ∉ L) :
    Roots n K' l ∧ allR K' l = allR K l ∧ (RowK n K l → RowK n K' l) := by
  obtain ⟨I', _, _, _, _, _, h4, h5, h6, _⟩ := Links.all I hL h
  refine ⟨⟨hl.inn, fun x hx => (h5 x (hd x hx)).2 (hl.top x hx), hl.nodup⟩, ?_, fun hr => ⟨hr.inn, fun x hx => (h5 x (hd x hx)).2 (hr.top x hx), hr.rise.imp_of_mem fun {a b} ha hb hlt => by rw [h4 a (hd a ha), h4 b (hd b hb)]; exact hlt⟩⟩
  unfold allR List.flatMap
  congr 1
  exact List.map_congr_left fun c hc => h6 c (hl.top c hc) (hd c hc)
theorem bin_links (I : CInv n K) (B : BHome W n K R) (O : BOrd W K) {h : Nat} {L m r : List Int} {k : Nat} {K' : Int → List Int} (hL : L.Perm (R h)) (hl : Links n (fun x y => aheadW W x y = true) K L k K' m) (hm : m.Perm r) :
    CInv n K' ∧ BHome W n K' (updI R h r) ∧ BOrd W K' ∧ L.length = r.length + k ∧ ∀ g, g ≠ h → RowK n K (R g) → RowK n K' (R g) := by
  have hrL := (B.roots h).perm hL.symm
  obtain ⟨I', h1, h2, h3, h4, h5, h6, h7, _, h9⟩ := Links.all I hrL hl
  have hel := fun g (hg : g ≠ h) => links_else I hrL hl (B.roots g) fun x hx hxL => hg (B.one I hx (hL.mem_iff.1 hxL))
  refine ⟨I', ⟨B.cap, B.home.perm fun g => ?_, fun g => ?_, fun x hx => ?_⟩, fun p x hx => ?_, by rw [h3, hm.length_eq], fun g hg => (hel g hg).2.2⟩
  · show (allR K' (updI R h r g)).Perm _
    unfold updI; split
    · rename_i e; rw [e]; exact ((allR_perm hm).symm.trans h2).trans (allR_perm hL)
    · rename_i e; rw [(hel g e).2.1]
  · unfold updI; split
    · exact h1.perm hm
    · rename_i e; exact (hel g e).1
  · have hnx : x ∉ L := fun e => by have := (B.rootIn I (hL.mem_iff.1 e)).2.2.1; rw [hx] at this; cases this
    exact ⟨by rw [h6 x hnx]; exact (B.free x hx).1, (h7 x hnx).2 (B.free x hx).2⟩
  · rcases h4 p x hx with e | ⟨e, _⟩
    · exact O p x e
    · simpa using e
/-! ### one comes in, one goes, two heaps become one -/
theorem bin_put (I : CInv n K) (B : BHome W n K R) (O : BOrd W K) {h : Nat} {x k s : Int} (hp : putB W h x = true) (h1 : 1 ≤ h) :
    K x = [] ∧ topK K x ∧ inC n x ∧ (∀ g, x ∉ R g) ∧ RowK n K [x] ∧ inW (putW W h x k s) x = true ∧ (∀ y, y ≠ x → cellW (putW W h x k s) y = cellW W y) ∧ BHome (putW W h x k s) n K (updI R h (x :: R h)) ∧ BOrd (putW W h x k s) K := by
  obtain ⟨h2, h3, h4, h5, h6⟩ := homes_put (k := k) (s := s) B.home hp h1
  obtain ⟨f1, f2⟩ := B.free x h3
  have hinn : inC n x := by
    simp only [putB, Bool.and_eq_true] at hp
    obtain ⟨k, rfl, hk⟩ := slot_nat hp.2.1
    have := B.cap
    exact ⟨by omega, by omega⟩
  have hnr : ∀ g, x ∉ R g := fun g hg => h2 g (B.root I hg)
  have hcap : (putW W h x k s).cells.length = n := by
    simp [putW, hp, B.cap]
  refine ⟨f1, f2, hinn, hnr, ⟨fun y hy => by rw [List.mem_singleton.1 hy]; exact hinn, fun y hy => by rw [List.mem_singleton.1 hy]; exact f2, List.pairwise_singleton _ _⟩, h4, h5, ⟨hcap, h6 _ ?_ (fun g hg => ?_), fun g => ?_, fun y hy => ?_⟩, fun p y hy => ?_⟩
  · show (allR K (updI R h (x :: R h) h)).Perm _
    rw [updI_at]
    unfold allR
    rw [List.flatMap_cons, tree_eq I, f1]
    exact List.Perm.refl _
  · show (allR K (updI R h (x :: R h) g)).Perm _
    rw [updI_ne _ _ hg]
  · unfold updI; split
    · exact ⟨fun y hy => (List.mem_cons.1 hy).elim (fun e => by rw [e]; exact hinn) ((B.roots h).inn y), fun y hy => (List.mem_cons.1 hy).elim (fun e => by rw [e]; exact f2) ((B.roots h).top y), List.nodup_cons.2 ⟨hnr h, (B.roots h).nodup⟩⟩
    · exact B.roots g
  · by_cases e : y = x
    · rw [e, h4] at hy; cases hy
    · exact B.free y (by unfold inW at hy ⊢; rw [h5 y e] at hy; exact hy)
  · have e1 : y ≠ x := fun e => f2 p (e ▸ hy)
    have e2 : p ≠ x := fun e => by rw [e, f1] at hy; cases hy
    rw [dahead_same (h5 y e1) (h5 p e2)]
    exact O p y hy
/-! ### a root's children come off -/
/-! ### a thing changes places with that above it -/
end
end Go.Proofs.YtkcicnflcilekaaGreat

namespace Go.Proofs.YtkcicnflcilekaaGreat

section
variable {W : WS}
/-- b is one of l, and none of l is ahead of it. -/
def BestOf (W : WS) (l : List Int) (b : Int) : Prop := b ∈ l ∧ ∀ y ∈ l, aheadW W y b = false
theorem best_one (W : WS) (x : Int) : BestOf W [x] x := ⟨by simp, fun y hy => by rw [List.mem_singleton.1 hy]; exact dahead_irr W x⟩
theorem best_more {l : List Int} {b x : Int} (hl : ∀ y ∈ l, inW W y = true) (_hx : inW W x = true) (h : BestOf W l b) : BestOf W (l ++ [x]) (if aheadW W x b = true then x else b) := by
  have hb := hl b h.1
  split
  · rename_i e
    refine ⟨by simp, fun y hy => ?_⟩
    rcases List.mem_append.1 hy with h2 | h2
    · exact hm_neg (hl y h2) hb (h.2 y h2) (hm_asym e)
    · rw [List.mem_singleton.1 h2]; exact dahead_irr W x
  · rename_i e
    refine ⟨by simp [h.1], fun y hy => ?_⟩
    rcases List.mem_append.1 hy with h2 | h2
    · exact h.2 y h2
    · rw [List.mem_singleton.1 h2]; simpa using e
end
end Go.Proofs.YtkcicnflcilekaaGreat

namespace Go.Proofs.YtkcicnflcilekaaGreat

/-- A list of unlike numbers below m. -/
theorem nodupK_len : ∀ (m : Nat) (l : List Nat), l.Nodup → (∀ x ∈ l, x < m) → l.length ≤ m := fun m => by
  induction m with
  | zero =>
    intro l _ h
    cases l with
    | nil => exact Nat.le_refl _
    | cons a r => exact absurd (h a (by simp)) (by omega)
  | succ m ih =>
    intro l hn h
    have h1 := ih (l.erase m) (hn.erase m) (fun x hx => by
      have h1 := (List.Nodup.mem_erase_iff hn).1 hx
      have h2 := h x h1.2
      have h3 := h1.1
      omega)
    have := List.length_erase (a := m) (l := l)
    split at this <;> omega
theorem nodupK_in (n : Nat) (l : List Int) (hd : l.Nodup) (h : ∀ x ∈ l, inC n x) : l.length ≤ n := by
  have := nodupK_len n (l.map Int.toNat) (by
    rw [List.nodup_iff_pairwise_ne, List.pairwise_map]
    refine hd.imp_of_mem ?_
    intro a b ha hb hne e
    have h1 := h a ha
    have h2 := h b hb
    unfold inC at h1 h2
    omega) (fun y hy => by
      obtain ⟨k, hk, rfl⟩ := List.mem_map.1 hy
      have := h k hk
      unfold inC at this
      omega)
  simpa using this
open Classical in
/-- The thing above. -/
noncomputable def upK (K : Int → List Int) (x : Int) : Option Int := if h : ∃ p, x ∈ K p then some (Classical.choose h) else none
/-- .. as a number: -1 is none. -/
def oK (o : Option Int) : Int := o.getD (-1)
section
variable {n : Nat} {K : Int → List Int}
theorem upK_some (I : CInv n K) {x p : Int} : upK K x = some p ↔ x ∈ K p := by
  unfold upK
  split
  · rename_i h
    have hc := Classical.choose_spec h
    constructor
    · intro e; injection e with e; rw [← e]; exact hc
    · intro hp; exact congrArg some (I.one _ _ _ hc hp)
  · rename_i h
    exact ⟨fun e => (by cases e), fun hp => absurd ⟨p, hp⟩ h⟩
theorem upK_none {x : Int} : upK K x = none ↔ topK K x := by
  unfold upK topK
  split
  · rename_i h
    obtain ⟨p, hp⟩ := h
    exact ⟨fun e => (by cases e), fun ht => absurd hp (ht p)⟩
  · rename_i h
    exact ⟨fun _ p hp => h ⟨p, hp⟩, fun _ => rfl⟩
theorem kidsK_out (I : CInv n K) {x : Int} (h : ¬ inC n x) : K x = [] := by
  cases e : K x with
  | nil => rfl
  | cons a r => exact absurd (I.rng x a (by rw [e]; simp)).1 h
theorem upK_rng (I : CInv n K) {x p : Int} (h : upK K x = some p) : inC n x ∧ inC n p := by
  have := I.rng p x ((upK_some I).1 h)
  exact ⟨this.2, this.1⟩
theorem oK_none (I : CInv n K) (x : Int) : (oK (upK K x) == -1) = (upK K x).isNone := by
  cases e : upK K x with
  | none => rfl
  | some y =>
    have := (upK_rng I e).2.1
    simp [oK]; omega
theorem tree_le (I : CInv n K) {x : Int} (hx : inC n x) : (treeK K x).length ≤ n := nodupK_in n _ (tree_nodup I x) fun _ h => tree_in I hx h
theorem pow_le (I : CInv n K) {x : Int} (hx : inC n x) : 2 ^ (K x).length ≤ n := by rw [← tree_size I]; exact tree_le I hx
theorem deg_16 (I : CInv n K) (hn : n ≤ 65536) (x : Int) : (K x).length ≤ 16 := by
  by_cases hx : inC n x
  · have h1 := pow_le I hx
    have h2 : 2 ^ (K x).length < 2 ^ 17 := Nat.lt_of_le_of_lt (Nat.le_trans h1 hn) (by decide)
    have := (Nat.pow_lt_pow_iff_right (by omega : 1 < 2)).1 h2
    omega
  · rw [kidsK_out I hx]; exact Nat.zero_le _
/-! ### links -/
theorem up_link (I : CInv n K) {a b : Int} (ha : inC n a) (hb : inC n b) (ta : topK K a) (tb : topK K b) (hne : a ≠ b) (hd : (K a).length = (K b).length) (x : Int) :
    upK (linkK K a b) x = if x = b then some a else upK K x := by
  have I' := link_inv I ha hb ta tb hne hd
  split
  · rename_i e
    exact (upK_some I').2 (mem_link.2 (Or.inr ⟨rfl, e⟩))
  · rename_i e
    cases e2 : upK K x with
    | none => exact upK_none.2 (top_link.2 ⟨upK_none.1 e2, e⟩)
    | some p => exact (upK_some I').2 (mem_link.2 (Or.inl ((upK_some I).1 e2)))
/-! ### rows of roots -/
def hasK (n : Nat) (x : Int) : Bool := decide (0 ≤ x ∧ x < n)
theorem hasK_in {n : Nat} {x : Int} : hasK n x = true ↔ inC n x := by simp [hasK, inC]
theorem hasK_no {n : Nat} {x : Int} (h : ¬ inC n x) : hasK n x = false := Bool.eq_false_iff.2 fun e => h (hasK_in.1 e)
noncomputable def rootB (n : Nat) (K : Int → List Int) (x : Int) : Bool := hasK n x && (upK K x).isNone
theorem rootB_iff {x : Int} : rootB n K x = true ↔ inC n x ∧ topK K x := by
  unfold rootB
  rw [Bool.and_eq_true, hasK_in, Option.isNone_iff_eq_none, upK_none]
noncomputable def linkB (n : Nat) (K : Int → List Int) (a b : Int) : Bool := !(a == b) && rootB n K a && rootB n K b && ((K a).length == (K b).length)
noncomputable def linkF (n : Nat) (K : Int → List Int) (a b : Int) : Int → List Int := if linkB n K a b then linkK K a b else K
theorem linkB_iff {a b : Int} : linkB n K a b = true ↔ a ≠ b ∧ (inC n a ∧ topK K a) ∧ (inC n b ∧ topK K b) ∧ (K a).length = (K b).length := by
  unfold linkB
  rw [Bool.and_eq_true, Bool.and_eq_true, Bool.and_eq_true, rootB_iff, rootB_iff, beq_iff_eq, Bool.not_eq_true', beq_eq_false_iff_ne, and_assoc, and_assoc]
/-- Is it a row of roots, from one place on? -/
def lessO (o : Option Nat) (d : Nat) : Bool := match o with
  | none => true
  | some c => decide (c < d)
noncomputable def rowB (n : Nat) (K : Int → List Int) : Option Nat → List Int → Bool
  | _, [] => true
  | o, x :: l => rootB n K x && lessO o (K x).length && rowB n K (some (K x).length) l
theorem rowB_cons (n : Nat) (K : Int → List Int) (o : Option Nat) (x : Int) (l : List Int) : rowB n K o (x :: l) = (rootB n K x && lessO o (K x).length && rowB n K (some (K x).length) l) := by cases o <;> rfl
theorem rowB_iff : ∀ (l : List Int) (o : Option Nat), rowB n K o l = true ↔ RowK n K l ∧ ∀ d, o = some d → ∀ x ∈ l, d < (K x).length
  | [], o => by
    constructor
    · intro _
      exact ⟨⟨fun x h => (by cases h), fun x h => (by cases h), List.Pairwise.nil⟩, fun d _ x h => (by cases h)⟩
    · intro _; rfl
  | x :: l, o => by
    rw [rowB_cons, Bool.and_eq_true, Bool.and_eq_true, rowB_iff l, rootB_iff]
    constructor
    · rintro ⟨⟨⟨h1, h2⟩, h3⟩, h4, h5⟩
      have h6 := h5 _ rfl
      refine ⟨⟨fun y hy => ?_, fun y hy => ?_, List.pairwise_cons.2 ⟨h6, h4.rise⟩⟩, fun d e y hy => ?_⟩
      · rcases List.mem_cons.1 hy with e | e
        · rw [e]; exact h1
        · exact h4.inn y e
      · rcases List.mem_cons.1 hy with e | e
        · rw [e]; exact h2
        · exact h4.top y e
      · subst e
        have h7 := of_decide_eq_true h3
        rcases List.mem_cons.1 hy with e | e
        · rw [e]; exact h7
        · exact Nat.lt_trans h7 (h6 y e)
    · rintro ⟨h1, h2⟩
      obtain ⟨h3, h4⟩ := List.pairwise_cons.1 h1.rise
      refine ⟨⟨⟨h1.inn x (by simp), h1.top x (by simp)⟩, ?_⟩, ⟨fun y hy => h1.inn y (by simp [hy]), fun y hy => h1.top y (by simp [hy]), h4⟩, fun d e y hy => ?_⟩
      · cases o with
        | none => rfl
        | some d => exact decide_eq_true (h2 d rfl x (by simp))
      · injection e with e
        rw [← e]; exact h3 y hy
noncomputable def isRow (n : Nat) (K : Int → List Int) (l : List Int) : Bool := rowB n K none l
theorem isRow_iff {l : List Int} : isRow n K l = true ↔ RowK n K l := by
  unfold isRow
  rw [rowB_iff]
  exact ⟨fun h => h.1, fun h => ⟨h, fun d e => (by cases e)⟩⟩
/-- What a root of the row is compared with: the one before. -/
def lastD (K : Int → List Int) (l : List Int) (j : Nat) : Option Nat := if j = 0 then none else some (K (l.getD (j - 1) 0)).length
theorem rowB_at (l : List Int) (j : Nat) (hj : j < l.length) : rowB n K (lastD K l j) (l.drop j) = (rootB n K (l.getD j 0) && (decide (j = 0) || decide ((K (l.getD (j - 1) 0)).length < (K (l.getD j 0)).length)) && rowB n K (lastD K l (j + 1)) (l.drop (j + 1))) := by
  have e : l.drop j = l.getD j 0 :: l.drop (j + 1) := by
    rw [List.drop_eq_getElem_cons hj]; simp [List.getD_eq_getElem?_getD, hj]
  rw [e, rowB_cons]
  unfold lastD lessO
  by_cases h : j = 0
  · subst h; simp
  · simp [h]
end
end Go.Proofs.YtkcicnflcilekaaGreat

namespace Go.Proofs.YtkcicnflcilekaaGreat

section
variable {W : WS} {n : Nat} {K : Int → List Int} {R : Nat → List Int} {h : Nat} {x : Int} {A0 A l : List Int}
end
end Go.Proofs.YtkcicnflcilekaaGreat
