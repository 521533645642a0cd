/- Merged of RingMath, RingSpliceMath, RingTwiceMath, RingStMath, FiRing. -/
import Derived.Lib.Hide
namespace Go.Proofs.YtkcicnflcilekaaGreat

/-- From x on, by f, come all of s, and then z. -/
def path (f : Int → Int) : Int → List Int → Int → Prop
  | x, [], z => f x = z
  | x, a :: s, z => f x = a ∧ path f a s z
theorem path_append {f : Int → Int} {y z : Int} {t : List Int} : ∀ {s : List Int} {x : Int}, path f x (s ++ y :: t) z ↔ path f x s y ∧ path f y t z
  | [], _ => Iff.rfl
  | a :: s, x => by
    show (f x = a ∧ path f a (s ++ y :: t) z) ↔ (f x = a ∧ path f a s y) ∧ path f y t z
    rw [path_append (s := s), and_assoc]
theorem path_congr {f f' : Int → Int} {z : Int} : ∀ {s : List Int} {x : Int}, (∀ a ∈ s, f' a = f a) → f' x = f x → path f x s z → path f' x s z
  | [], _, _, hx, h => hx.trans h
  | a :: s, _, hs, hx, h => ⟨hx.trans h.1, path_congr (fun b hb => hs b (by simp [hb])) (hs a (by simp)) h.2⟩
/-- Another one goes on as y did. -/
theorem path_head {f f' : Int → Int} {x y z : Int} {s : List Int} (hx : f' x = f y) (hs : ∀ a ∈ s, f' a = f a) (h : path f y s z) : path f' x s z := by
  cases s with
  | nil => exact hx.trans h
  | cons a s => exact ⟨hx.trans h.1, path_congr (fun b hb => hs b (by simp [hb])) (hs a (by simp)) h.2⟩
/-- A ring, by f. -/
def ringBy (f : Int → Int) : List Int → Prop
  | [] => False
  | x :: s => path f x s x
theorem ring_rot {f : Int → Int} {u v : List Int} {x : Int} (h : ringBy f (u ++ x :: v)) : path f x (v ++ u) x := by
  cases u with
  | nil => rw [List.append_nil]; exact h
  | cons a u =>
    obtain ⟨h1, h2⟩ := path_append.1 (show path f a (u ++ x :: v) a from h)
    exact path_append.2 ⟨h2, h1⟩

/-! ### the document's -/
def allIn (l : List Int) (x : Int) : List Int := l.drop (l.idxOf x) ++ l.take (l.idxOf x)
/-- All of a thing's ring, from it on. -/
def allRRg (R : List (List Int)) (x : Int) : List Int := (R.find? fun l => l.contains x).elim [] fun l => allIn l x
def withoutR (R : List (List Int)) (x y : Int) : List (List Int) := R.filter fun l => !l.contains x && !l.contains y
def spliceR (R : List (List Int)) (x y : Int) : List (List Int) :=
  if allRRg R x = [] ∨ allRRg R y = [] ∨ x = y then R
  else if (allRRg R x).contains y then withoutR R x y ++ [x :: (allRRg R x).drop ((allRRg R x).idxOf y + 1), y :: ((allRRg R x).take ((allRRg R x).idxOf y)).drop 1]
  else withoutR R x y ++ [(x :: (allRRg R y).drop 1) ++ [y] ++ (allRRg R x).drop 1]
/-- Each thing is in one ring, once, and rings are as f has them. -/
structure RgInv (n : Nat) (f : Int → Int) (R : List (List Int)) : Prop where
  by' : ∀ l ∈ R, ringBy f l
  nodup : ∀ l ∈ R, l.Nodup
  one : ∀ l ∈ R, ∀ m ∈ R, ∀ x, x ∈ l → x ∈ m → l = m
  mem : ∀ x : Int, (∃ l ∈ R, x ∈ l) ↔ 0 ≤ x ∧ x < n
theorem split_at {l : List Int} {x : Int} (h : x ∈ l) : l.take (l.idxOf x) ++ x :: l.drop (l.idxOf x + 1) = l := by
  have hl := List.idxOf_lt_length_of_mem h
  conv => rhs; rw [← List.take_append_drop (l.idxOf x) l, List.drop_eq_getElem_cons hl, List.getElem_idxOf hl]
theorem ring_congr {f f' : Int → Int} {l : List Int} (hf : ∀ c ∈ l, f' c = f c) (h : ringBy f l) : ringBy f' l := by
  cases l with
  | nil => exact h
  | cons x s => exact path_congr (fun a ha => hf a (by simp [ha])) (hf x (by simp)) h
section
variable {n : Nat} {f : Int → Int} {R : List (List Int)} (I : RgInv n f R)
include I
/-- A thing's ring, from it on. -/
theorem RgInv.all {x : Int} (hx : 0 ≤ x ∧ x < n) : ∃ s, allRRg R x = x :: s ∧ path f x s x ∧ (x :: s).Nodup ∧ ∃ l ∈ R, x ∈ l ∧ (x :: s).Perm l := by
  obtain ⟨l, hl, hxl⟩ := (I.mem x).2 hx
  have e : R.find? (fun l => l.contains x) = some l := by
    cases h : R.find? (fun l => l.contains x) with
    | none => exact absurd (by simpa using hxl) (List.find?_eq_none.1 h l hl)
    | some m => rw [I.one m (List.mem_of_find?_eq_some h) l hl x (by have := List.find?_some h; simpa using this) hxl]
  have e1 : allRRg R x = allIn l x := by unfold allRRg; rw [e]; rfl
  have hs := split_at hxl
  have hi := List.idxOf_lt_length_of_mem hxl
  have e2 : allIn l x = x :: (l.drop (l.idxOf x + 1) ++ l.take (l.idxOf x)) := by
    unfold allIn
    rw [List.drop_eq_getElem_cons hi, List.getElem_idxOf hi]; rfl
  have hp : (x :: (l.drop (l.idxOf x + 1) ++ l.take (l.idxOf x))).Perm l := by
    conv => rhs; rw [← hs]
    exact (List.perm_append_comm (l₁ := x :: l.drop (l.idxOf x + 1)) (l₂ := l.take (l.idxOf x)))
  refine ⟨_, e1.trans e2, ?_, hp.nodup_iff.2 (I.nodup l hl), l, hl, hxl, hp⟩
  have hb := I.by' l hl
  rw [← hs] at hb
  exact ring_rot hb
theorem RgInv.none {x : Int} (hx : ¬ (0 ≤ x ∧ x < n)) : allRRg R x = [] := by
  have e : R.find? (fun l => l.contains x) = Option.none := by
    rw [List.find?_eq_none]
    intro l hl h
    exact hx ((I.mem x).1 ⟨l, hl, by simpa using h⟩)
  unfold allRRg; rw [e]; rfl
end
/-- What follows what, where x and y change what follows them. -/
def swapN (f : Int → Int) (x y : Int) : Int → Int := fun z => if z = x then f y else if z = y then f x else f z
theorem mem_withoutR {R : List (List Int)} {x y : Int} {l : List Int} : l ∈ withoutR R x y ↔ l ∈ R ∧ x ∉ l ∧ y ∉ l := by
  simp [withoutR, List.mem_filter]
theorem new_rings (n : Nat) : RgInv n id ((List.range n).map fun i : Nat => [(i : Int)]) := by
  refine ⟨fun l hl => ?_, fun l hl => ?_, fun l hl m hm x hx hxm => ?_, fun x => ?_⟩
  · obtain ⟨i, _, rfl⟩ := List.mem_map.1 hl
    exact (rfl : path id (i : Int) [] i)
  · obtain ⟨i, _, rfl⟩ := List.mem_map.1 hl
    simp
  · obtain ⟨i, _, rfl⟩ := List.mem_map.1 hl
    obtain ⟨j, _, rfl⟩ := List.mem_map.1 hm
    simp only [List.mem_singleton] at hx hxm
    rw [← hx, ← hxm]
  · constructor
    · rintro ⟨l, hl, hx⟩
      obtain ⟨i, hi, rfl⟩ := List.mem_map.1 hl
      simp only [List.mem_singleton, List.mem_range] at hx hi
      omega
    · intro h
      exact ⟨[x], List.mem_map.2 ⟨x.toNat, List.mem_range.2 (by omega), by simp; omega⟩, by simp⟩
/-- Rings of which some go and others come. -/
theorem RgInv.change {n : Nat} {f f' : Int → Int} {R N : List (List Int)} {x y : Int} (I : RgInv n f R) (hx : 0 ≤ x ∧ x < n) (hy : 0 ≤ y ∧ y < n)
    (hf : ∀ l ∈ R, x ∉ l → y ∉ l → ∀ c ∈ l, f' c = f c) (hby : ∀ l ∈ N, ringBy f' l) (hnd : ∀ l ∈ N, l.Nodup) (hone : ∀ l ∈ N, ∀ m ∈ N, ∀ z, z ∈ l → z ∈ m → l = m)
    (hmem : ∀ z, (∃ l ∈ N, z ∈ l) ↔ z ∈ allRRg R x ∨ z ∈ allRRg R y) : RgInv n f' (withoutR R x y ++ N) := by
  obtain ⟨s, es, _, _, lx, hlx, hxl, px⟩ := I.all hx
  obtain ⟨t, et, _, _, ly, hly, hyl, py⟩ := I.all hy
  rw [es, et] at hmem
  have hm : ∀ z, (∃ l ∈ N, z ∈ l) ↔ z ∈ lx ∨ z ∈ ly := fun z => by rw [hmem, px.mem_iff, py.mem_iff]
  have hapart : ∀ l ∈ withoutR R x y, ∀ m ∈ N, ∀ z, z ∈ l → z ∈ m → False := fun l hl m hmN z hz hzm => by
    obtain ⟨h1, h2, h3⟩ := mem_withoutR.1 hl
    rcases (hm z).1 ⟨m, hmN, hzm⟩ with h | h
    · exact h2 (I.one l h1 lx hlx z hz h ▸ hxl)
    · exact h3 (I.one l h1 ly hly z hz h ▸ hyl)
  refine ⟨fun l hl => ?_, fun l hl => ?_, fun l hl m hmm z hz hzm => ?_, fun z => ?_⟩
  · rcases List.mem_append.1 hl with h | h
    · obtain ⟨h1, h2, h3⟩ := mem_withoutR.1 h
      exact ring_congr (hf l h1 h2 h3) (I.by' l h1)
    · exact hby l h
  · rcases List.mem_append.1 hl with h | h
    · exact I.nodup l (mem_withoutR.1 h).1
    · exact hnd l h
  · rcases List.mem_append.1 hl with h | h <;> rcases List.mem_append.1 hmm with h2 | h2
    · exact I.one l (mem_withoutR.1 h).1 m (mem_withoutR.1 h2).1 z hz hzm
    · exact (hapart l h m h2 z hz hzm).elim
    · exact (hapart m h2 l h z hzm hz).elim
    · exact hone l h m h2 z hz hzm
  · rw [← I.mem z]
    constructor
    · rintro ⟨l, hl, hz⟩
      rcases List.mem_append.1 hl with h | h
      · exact ⟨l, (mem_withoutR.1 h).1, hz⟩
      · rcases (hm z).1 ⟨l, h, hz⟩ with h2 | h2
        · exact ⟨lx, hlx, h2⟩
        · exact ⟨ly, hly, h2⟩
    · rintro ⟨l, hl, hz⟩
      by_cases h1 : x ∈ l
      · obtain ⟨m, hmN, hzm⟩ := (hm z).2 (Or.inl (I.one l hl lx hlx x h1 hxl ▸ hz))
        exact ⟨m, List.mem_append.2 (Or.inr hmN), hzm⟩
      · by_cases h2 : y ∈ l
        · obtain ⟨m, hmN, hzm⟩ := (hm z).2 (Or.inr (I.one l hl ly hly y h2 hyl ▸ hz))
          exact ⟨m, List.mem_append.2 (Or.inr hmN), hzm⟩
        · exact ⟨l, List.mem_append.2 (Or.inl (mem_withoutR.2 ⟨hl, h1, h2⟩)), hz⟩
end Go.Proofs.YtkcicnflcilekaaGreat

namespace Go.Proofs.YtkcicnflcilekaaGreat

section
variable {n : Nat} {f : Int → Int} {R : List (List Int)} {x y : Int}
/-- Two of one ring: it is parted. -/
theorem splice_one (I : RgInv n f R) (hx : 0 ≤ x ∧ x < n) (hy : 0 ≤ y ∧ y < n) (hne : x ≠ y) (h : y ∈ allRRg R x) : RgInv n (swapN f x y) (spliceR R x y) := by
  obtain ⟨s, es, ps, ns, lx, hlx, hxl, px⟩ := I.all hx
  obtain ⟨t, et, _, _, ly, hly, hyl, py⟩ := I.all hy
  have hc : (allRRg R x).contains y = true := by simpa using h
  have hsp := split_at h
  rw [es] at h hsp
  cases hu : (x :: s).take ((x :: s).idxOf y) with
  | nil =>
    rw [hu] at hsp
    injection hsp with e
    exact absurd e.symm hne
  | cons c u =>
    rw [hu] at hsp
    injection hsp with e1 e2
    subst e1
    generalize hv : (c :: s).drop ((c :: s).idxOf y + 1) = v at e2
    have e : spliceR R c y = withoutR R c y ++ [c :: v, y :: u] := by
      unfold spliceR
      rw [if_neg (by rw [es, et]; simp [hne]), if_pos hc, es, hu, hv]
      rfl
    rw [e]
    obtain rfl : s = u ++ y :: v := e2.symm
    obtain ⟨p1, p2⟩ := path_append.1 ps
    have hnd := ns
    simp only [List.nodup_cons, List.mem_append, List.mem_cons, not_or, List.nodup_append] at hnd
    obtain ⟨⟨cu, cy, cv⟩, nu, ⟨yv, nv⟩, huv⟩ := hnd
    have yu : y ∉ u := fun hm => huv y hm y (Or.inl rfl) rfl
    have hsame : ly = lx := I.one ly hly lx hlx y hyl (px.mem_iff.1 h)
    refine I.change hx hy (fun l hl h1 h2 c' hc' => ?_) (fun l hl => ?_) (fun l hl => ?_) (fun l hl m hm z hz hzm => ?_) (fun z => ?_)
    · unfold swapN
      rw [if_neg (fun e : c' = c => h1 (by rw [← e]; exact hc')), if_neg (fun e : c' = y => h2 (by rw [← e]; exact hc'))]
    · have hf : ∀ a, a ≠ c → a ≠ y → swapN f c y a = f a := fun a h1 h2 => by unfold swapN; rw [if_neg h1, if_neg h2]
      simp only [List.mem_cons, List.not_mem_nil, or_false] at hl
      rcases hl with rfl | rfl
      · exact path_head (y := y) (by unfold swapN; rw [if_pos rfl]) (fun a ha => hf a (fun e => cv (e ▸ ha)) (fun e => yv (e ▸ ha))) p2
      · exact path_head (y := c) (by unfold swapN; rw [if_neg (fun e => hne e.symm), if_pos rfl]) (fun a ha => hf a (fun e => cu (e ▸ ha)) (fun e => yu (e ▸ ha))) p1
    · simp only [List.mem_cons, List.not_mem_nil, or_false] at hl
      rcases hl with rfl | rfl
      · exact List.nodup_cons.2 ⟨cv, nv⟩
      · exact List.nodup_cons.2 ⟨yu, nu⟩
    · have hdis : ∀ z, z ∈ c :: v → z ∈ y :: u → False := fun z h1 h2 => by
        rcases List.mem_cons.1 h1 with rfl | h1 <;> rcases List.mem_cons.1 h2 with h2 | h2
        · exact cy h2
        · exact cu h2
        · subst h2; exact yv h1
        · exact huv z h2 z (Or.inr h1) rfl
      simp only [List.mem_cons, List.not_mem_nil, or_false] at hl hm
      rcases hl with rfl | rfl <;> rcases hm with rfl | rfl
      · rfl
      · exact (hdis z hz hzm).elim
      · exact (hdis z hzm hz).elim
      · rfl
    · rw [es, et]
      have hz : z ∈ y :: t ↔ z ∈ c :: (u ++ y :: v) := by rw [py.mem_iff, px.mem_iff, hsame]
      rw [hz, or_self]
      constructor
      · rintro ⟨l, hl, hzl⟩
        simp only [List.mem_cons, List.not_mem_nil, or_false] at hl
        rcases hl with rfl | rfl
        · rcases List.mem_cons.1 hzl with rfl | h1
          · simp
          · simp [h1]
        · rcases List.mem_cons.1 hzl with rfl | h1
          · simp
          · simp [h1]
      · intro h1
        simp only [List.mem_cons, List.mem_append] at h1
        rcases h1 with rfl | h1 | rfl | h1
        · exact ⟨z :: v, by simp, by simp⟩
        · exact ⟨y :: u, by simp, by simp [h1]⟩
        · exact ⟨z :: u, by simp, by simp⟩
        · exact ⟨c :: v, by simp, by simp [h1]⟩
/-- Two of two rings: they become one. -/
theorem splice_two (I : RgInv n f R) (hx : 0 ≤ x ∧ x < n) (hy : 0 ≤ y ∧ y < n) (h : y ∉ allRRg R x) : RgInv n (swapN f x y) (spliceR R x y) := by
  obtain ⟨s, es, ps, ns, lx, hlx, hxl, px⟩ := I.all hx
  obtain ⟨t, et, pt, nt, ly, hly, hyl, py⟩ := I.all hy
  have hne : x ≠ y := fun e => h (by rw [es, ← e]; simp)
  have hc : ¬ (allRRg R x).contains y = true := by simpa using h
  have e : spliceR R x y = withoutR R x y ++ [(x :: t) ++ [y] ++ s] := by
    unfold spliceR
    rw [if_neg (by rw [es, et]; simp [hne]), if_neg hc, es, et]
    rfl
  rw [e]
  rw [es] at h
  have hdis : ∀ z, z ∈ x :: s → z ∈ y :: t → False := fun z h1 h2 => by
    have := I.one lx hlx ly hly z (px.mem_iff.1 h1) (py.mem_iff.1 h2)
    subst this
    exact h (px.mem_iff.2 hyl)
  have xt : x ∉ y :: t := fun hm => hdis x (by simp) hm
  have hf : ∀ a, a ≠ x → a ≠ y → swapN f x y a = f a := fun a h1 h2 => by unfold swapN; rw [if_neg h1, if_neg h2]
  obtain ⟨xs, ns'⟩ := List.nodup_cons.1 ns
  obtain ⟨yt, nt'⟩ := List.nodup_cons.1 nt
  have ys : y ∉ s := fun hm => h (by simp [hm])
  have e3 : (x :: t) ++ [y] ++ s = x :: (t ++ y :: s) := by simp
  rw [e3]
  refine I.change hx hy (fun l hl h1 h2 c' hc' => hf c' (fun e => h1 (e ▸ hc')) (fun e => h2 (e ▸ hc'))) (fun l hl => ?_) (fun l hl => ?_) (fun l hl m hm z _ _ => ?_) (fun z => ?_)
  · rw [List.mem_singleton.1 hl]
    refine path_append.2 ⟨path_head (y := y) (by unfold swapN; rw [if_pos rfl]) (fun a ha => hf a (fun e => xt (by simp [← e, ha])) (fun e => yt (e ▸ ha))) pt, path_head (y := x) (by unfold swapN; rw [if_neg (fun e => hne e.symm), if_pos rfl]) (fun a ha => hf a (fun e => xs (e ▸ ha)) (fun e => ys (e ▸ ha))) ps⟩
  · rw [List.mem_singleton.1 hl]
    rw [List.nodup_cons, List.nodup_append]
    refine ⟨fun hm => ?_, nt', List.nodup_cons.2 ⟨ys, ns'⟩, fun a ha b hb e => ?_⟩
    · rcases List.mem_append.1 hm with h1 | h1
      · exact xt (by simp [h1])
      · rcases List.mem_cons.1 h1 with h1 | h1
        · exact hne h1
        · exact xs h1
    · subst e
      rcases List.mem_cons.1 hb with h1 | h1
      · exact yt (h1 ▸ ha)
      · exact hdis a (by simp [h1]) (by simp [ha])
  · rw [List.mem_singleton.1 hl, List.mem_singleton.1 hm]
  · rw [es, et]
    simp only [List.mem_cons]
    grind
theorem splice_inv (I : RgInv n f R) (hx : 0 ≤ x ∧ x < n) (hy : 0 ≤ y ∧ y < n) (hne : x ≠ y) : RgInv n (swapN f x y) (spliceR R x y) := by
  by_cases h : y ∈ allRRg R x
  · exact splice_one I hx hy hne h
  · exact splice_two I hx hy h
end
/-! ### there and back: each thing is followed by one, and follows one -/
/-- g goes back where f goes on. -/
structure Back (n : Nat) (f g : Int → Int) : Prop where
  inF : ∀ x, 0 ≤ x ∧ x < (n : Int) → 0 ≤ f x ∧ f x < n
  inG : ∀ x, 0 ≤ x ∧ x < (n : Int) → 0 ≤ g x ∧ g x < n
  gf : ∀ x, 0 ≤ x ∧ x < (n : Int) → g (f x) = x
  fg : ∀ x, 0 ≤ x ∧ x < (n : Int) → f (g x) = x
theorem back_id (n : Nat) : Back n id id := ⟨fun _ h => h, fun _ h => h, fun _ _ => rfl, fun _ _ => rfl⟩
/-- What precedes what, where x and y change what follows them. -/
def swapB (f g : Int → Int) (x y : Int) : Int → Int := fun z => if z = f y then x else if z = f x then y else g z
theorem back_swap {n : Nat} {f g : Int → Int} (B : Back n f g) {x y : Int} (hx : 0 ≤ x ∧ x < (n : Int)) (hy : 0 ≤ y ∧ y < (n : Int)) (hne : x ≠ y) : Back n (swapN f x y) (swapB f g x y) := by
  have inj : ∀ a b, 0 ≤ a ∧ a < (n : Int) → 0 ≤ b ∧ b < (n : Int) → f a = f b → a = b := fun a b ha hb e => by rw [← B.gf a ha, e, B.gf b hb]
  have hfne : f x ≠ f y := fun e => hne (inj x y hx hy e)
  refine ⟨fun z hz => ?_, fun z hz => ?_, fun z hz => ?_, fun z hz => ?_⟩
  · unfold swapN; split
    · exact B.inF y hy
    · split
      · exact B.inF x hx
      · exact B.inF z hz
  · unfold swapB; split
    · exact hx
    · split
      · exact hy
      · exact B.inG z hz
  · unfold swapN
    by_cases h1 : z = x
    · rw [if_pos h1, h1]; unfold swapB; rw [if_pos rfl]
    · rw [if_neg h1]
      by_cases h2 : z = y
      · rw [if_pos h2, h2]; unfold swapB; rw [if_neg hfne, if_pos rfl]
      · rw [if_neg h2]; unfold swapB
        rw [if_neg (fun e => h2 (inj z y hz hy e)), if_neg (fun e => h1 (inj z x hz hx e)), B.gf z hz]
  · unfold swapB
    by_cases h1 : z = f y
    · rw [if_pos h1]; unfold swapN; rw [if_pos rfl, h1]
    · rw [if_neg h1]
      by_cases h2 : z = f x
      · rw [if_pos h2]; unfold swapN; rw [if_neg (fun e => hne e.symm), if_pos rfl, h2]
      · rw [if_neg h2]
        unfold swapN
        have h3 := B.fg z hz
        rw [if_neg (fun e => h2 (by rw [← h3, e])), if_neg (fun e => h1 (by rw [← h3, e])), h3]
end Go.Proofs.YtkcicnflcilekaaGreat

namespace Go.Proofs.YtkcicnflcilekaaGreat

section
variable {n : Nat} {f : Int → Int} {R : List (List Int)} {x y : Int}
theorem all_mem (I : RgInv n f R) (hx : 0 ≤ x ∧ x < n) : y ∈ allRRg R x ↔ ∃ l ∈ R, x ∈ l ∧ y ∈ l := by
  obtain ⟨s, es, _, _, l, hl, hxl, hp⟩ := I.all hx
  rw [es]
  constructor
  · intro h; exact ⟨l, hl, hxl, hp.mem_iff.1 h⟩
  · rintro ⟨m, hm, h1, h2⟩
    rw [I.one m hm l hl x h1 hxl] at h2
    exact hp.mem_iff.2 h2
/-- Of one ring: they are as many, and each is in the other one's. -/
theorem all_perm (I : RgInv n f R) (hx : 0 ≤ x ∧ x < n) (h : y ∈ allRRg R x) : (0 ≤ y ∧ y < n) ∧ (allRRg R y).Perm (allRRg R x) := by
  obtain ⟨s, es, _, _, l, hl, hxl, hp⟩ := I.all hx
  rw [es] at h
  have hyl := hp.mem_iff.1 h
  have hy := (I.mem y).1 ⟨l, hl, hyl⟩
  obtain ⟨t, et, _, _, m, hm, hym, hq⟩ := I.all hy
  have e := I.one m hm l hl y hym hyl
  rw [es, et]
  rw [e] at hq
  exact ⟨hy, hq.trans hp.symm⟩
theorem all_nodupRg (I : RgInv n f R) (hx : 0 ≤ x ∧ x < n) : (allRRg R x).Nodup := by
  obtain ⟨s, es, _, h, _⟩ := I.all hx
  rw [es]; exact h
/-- What follows itself is in a ring of its own. -/
theorem self_ring {s : List Int} (h : path f x s x) (hn : (x :: s).Nodup) (e : f x = x) : s = [] := by
  cases s with
  | nil => rfl
  | cons c s =>
    have h1 : f x = c := h.1
    exact absurd (by rw [← e, h1]; simp : x ∈ c :: s) (List.nodup_cons.1 hn).1
end
end Go.Proofs.YtkcicnflcilekaaGreat

namespace Go.Proofs.YtkcicnflcilekaaGreat

structure RSt where
  f : Int → Int
  g : Int → Int
  R : List (List Int)
structure RGood (n : Nat) (S : RSt) : Prop where
  inv : RgInv n S.f S.R
  back : Back n S.f S.g
  few : n ≤ 65536
def inR (n : Nat) (x : Int) : Bool := decide (0 ≤ x ∧ x < n)
theorem inR_iff {n : Nat} {x : Int} : inR n x = true ↔ 0 ≤ x ∧ x < (n : Int) := by simp [inR]
def tieS (S : RSt) (x y : Int) (R : List (List Int)) : RSt := ⟨swapN S.f x y, swapB S.f S.g x y, R⟩
def spliceS (n : Nat) (S : RSt) (x y : Int) : RSt := if inR n x && inR n y then tieS S x y (spliceR S.R x y) else S
def newS (n : Nat) : RSt := ⟨id, id, (List.range n).map fun i : Nat => [(i : Int)]⟩
theorem good_new (n : Nat) (hn : n ≤ 65536) : RGood n (newS n) := ⟨new_rings n, back_id n, hn⟩
section
variable {n : Nat} {S : RSt}
theorem swapN_self (f : Int → Int) (x : Int) : swapN f x x = f := by
  funext z; unfold swapN; split
  · rename_i h; rw [h]
  · rfl
theorem swapB_self {f g : Int → Int} (B : Back n f g) {x : Int} (hx : 0 ≤ x ∧ x < (n : Int)) : swapB f g x x = g := by
  funext z; unfold swapB; split
  · rename_i h; rw [h, B.gf x hx]
  · rfl
theorem back_swap' {f g : Int → Int} (B : Back n f g) {x y : Int} (hx : 0 ≤ x ∧ x < (n : Int)) (hy : 0 ≤ y ∧ y < (n : Int)) : Back n (swapN f x y) (swapB f g x y) := by
  by_cases e : x = y
  · subst e; rw [swapN_self, swapB_self B hx]; exact B
  · exact back_swap B hx hy e
theorem RGood.splice (G : RGood n S) (x y : Int) : RGood n (spliceS n S x y) := by
  unfold spliceS
  split
  · rename_i h
    rw [Bool.and_eq_true, inR_iff, inR_iff] at h
    refine ⟨?_, back_swap' G.back h.1 h.2, G.few⟩
    show RgInv n (swapN S.f x y) (spliceR S.R x y)
    by_cases e : x = y
    · subst e
      rw [swapN_self, show spliceR S.R x x = S.R by simp [spliceR]]
      exact G.inv
    · exact splice_inv G.inv h.1 h.2 e
  · exact G
theorem RGood.none (G : RGood n S) {x : Int} (hx : inR n x = false) : allRRg S.R x = [] := G.inv.none fun h => by rw [inR_iff.2 h] at hx; cases hx
theorem splice_R (G : RGood n S) (x y : Int) : (spliceS n S x y).R = spliceR S.R x y := by
  unfold spliceS
  cases h1 : inR n x
  · rw [Bool.false_and, if_neg (by decide)]; simp [spliceR, G.none h1]
  · cases h2 : inR n y
    · rw [Bool.and_false, if_neg (by decide)]; simp [spliceR, G.none h2]
    · rfl
end
end Go.Proofs.YtkcicnflcilekaaGreat

namespace Go.Proofs.YtkcicnflcilekaaGreat

section
variable {n : Nat} {S : RSt}
theorem ring_mem (G : RGood n S) {x y : Int} (hx : inR n x = true) : y ∈ allRRg S.R x ↔ ∃ l ∈ S.R, x ∈ l ∧ y ∈ l := all_mem G.inv (inR_iff.1 hx)
theorem ring_nd (G : RGood n S) {x : Int} (hx : inR n x = true) : (allRRg S.R x).Nodup := all_nodupRg G.inv (inR_iff.1 hx)
theorem ring_self (G : RGood n S) {x : Int} (hx : inR n x = true) : x ∈ allRRg S.R x := by
  obtain ⟨s, e, _⟩ := G.inv.all (inR_iff.1 hx)
  rw [e]; simp
theorem ring_sym (G : RGood n S) {x y : Int} (hx : inR n x = true) (h : y ∈ allRRg S.R x) : x ∈ allRRg S.R y :=
  (all_perm G.inv (inR_iff.1 hx) h).2.mem_iff.2 (ring_self G hx)
theorem ring_perm (G : RGood n S) {x y : Int} (hx : inR n x = true) (h : y ∈ allRRg S.R x) : (allRRg S.R y).Perm (allRRg S.R x) := (all_perm G.inv (inR_iff.1 hx) h).2
/-- Two rings are put together. -/
theorem ring_splice (G : RGood n S) {x y : Int} (hx : inR n x = true) (hy : inR n y = true) (h : y ∉ allRRg S.R x) {z : Int} (hz : inR n z = true) :
    (z ∈ allRRg S.R x ∨ z ∈ allRRg S.R y → (allRRg (spliceS n S x y).R z).Perm (allRRg S.R x ++ allRRg S.R y)) ∧ (z ∉ allRRg S.R x → z ∉ allRRg S.R y → (allRRg (spliceS n S x y).R z).Perm (allRRg S.R z)) := by
  have G' := G.splice x y
  obtain ⟨s, es, _⟩ := G.inv.all (inR_iff.1 hx)
  obtain ⟨t, et, _⟩ := G.inv.all (inR_iff.1 hy)
  have hne : x ≠ y := fun e => h (by rw [← e]; exact ring_self G hx)
  have e1 : (spliceS n S x y).R = withoutR S.R x y ++ [(x :: (allRRg S.R y).drop 1) ++ [y] ++ (allRRg S.R x).drop 1] := by
    rw [splice_R G]
    unfold spliceR
    rw [if_neg (by rw [es, et]; simp [hne]), if_neg (by simpa using h)]
  have hrow : ∀ u, u ∈ (x :: (allRRg S.R y).drop 1) ++ [y] ++ (allRRg S.R x).drop 1 ↔ u ∈ allRRg S.R x ∨ u ∈ allRRg S.R y := fun u => by
    rw [es, et]
    simp only [List.drop_succ_cons, List.drop_zero, List.mem_append, List.mem_cons, List.not_mem_nil, or_false]
    constructor
    · rintro (((h | h) | h) | h) <;> simp [h]
    · rintro ((h | h) | (h | h)) <;> simp [h]
  have hmem : ∀ u, u ∈ allRRg (spliceS n S x y).R z ↔ ((z ∈ allRRg S.R x ∨ z ∈ allRRg S.R y) ∧ (u ∈ allRRg S.R x ∨ u ∈ allRRg S.R y)) ∨ (z ∉ allRRg S.R x ∧ z ∉ allRRg S.R y ∧ u ∈ allRRg S.R z) := fun u => by
    rw [ring_mem G' hz, e1]
    constructor
    · rintro ⟨l, hl, h1, h2⟩
      rcases List.mem_append.1 hl with hl | hl
      · obtain ⟨hl, l1, l2⟩ := mem_withoutR.1 hl
        refine Or.inr ⟨fun k => l1 ?_, fun k => l2 ?_, (ring_mem G hz).2 ⟨l, hl, h1, h2⟩⟩
        · obtain ⟨m, hm, m1, m2⟩ := (ring_mem G hx).1 k
          rw [G.inv.one l hl m hm z h1 m2]; exact m1
        · obtain ⟨m, hm, m1, m2⟩ := (ring_mem G hy).1 k
          rw [G.inv.one l hl m hm z h1 m2]; exact m1
      · rw [List.mem_singleton] at hl
        subst hl
        exact Or.inl ⟨(hrow z).1 h1, (hrow u).1 h2⟩
    · rintro (⟨h1, h2⟩ | ⟨h1, h2, h3⟩)
      · exact ⟨_, List.mem_append.2 (Or.inr (List.mem_singleton.2 rfl)), (hrow z).2 h1, (hrow u).2 h2⟩
      · obtain ⟨l, hl, l1, l2⟩ := (ring_mem G hz).1 h3
        refine ⟨l, List.mem_append.2 (Or.inl (mem_withoutR.2 ⟨hl, fun k => h1 ?_, fun k => h2 ?_⟩)), l1, l2⟩
        · exact (ring_mem G hx).2 ⟨l, hl, k, l1⟩
        · exact (ring_mem G hy).2 ⟨l, hl, k, l1⟩
  constructor
  · intro hz2
    refine (List.perm_ext_iff_of_nodup (ring_nd G' hz) ?_).2 fun u => ?_
    · rw [List.nodup_append]
      refine ⟨ring_nd G hx, ring_nd G hy, fun a h1 b h2 e => ?_⟩
      subst e
      exact h ((ring_perm G hx h1).mem_iff.1 (ring_sym G hy h2))
    · rw [hmem, List.mem_append]
      constructor
      · rintro (⟨_, h2⟩ | ⟨h1, h2, _⟩)
        · exact h2
        · exact absurd hz2 (fun k => k.elim h1 h2)
      · exact fun h2 => Or.inl ⟨hz2, h2⟩
  · intro h1 h2
    refine (List.perm_ext_iff_of_nodup (ring_nd G' hz) (ring_nd G hz)).2 fun u => ?_
    rw [hmem]
    constructor
    · rintro (⟨h3, _⟩ | ⟨_, _, h3⟩)
      · exact absurd h3 (fun k => k.elim h1 h2)
      · exact h3
    · exact fun h3 => Or.inr ⟨h1, h2, h3⟩
end
end Go.Proofs.YtkcicnflcilekaaGreat
