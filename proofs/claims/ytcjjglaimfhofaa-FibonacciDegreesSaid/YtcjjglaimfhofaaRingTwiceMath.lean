/- Merged of RingMath, RingSpliceMath, RingTwiceMath. -/
import Derived.Lib.Hide
namespace Go.Proofs.Ytcjjglaimfhofaa

/-- From x on, by f, come all of s, and then z. -/
def path (f : Int → Int) : Int → List Int → Int → Prop
  | x, [], z => f x = z
  | x, a :: s, z => f x = a ∧ path f a s z
theorem path_append {f : Int → Int} {y z : Int} {t : List Int} : ∀ {s : List Int} {x : Int}, path f x (s ++ y :: t) z ↔ path f x s y ∧ path f y t z
  | [], _ => Iff.rfl
  | a :: s, x => by
    show (f x = a ∧ path f a (s ++ y :: t) z) ↔ (f x = a ∧ path f a s y) ∧ path f y t z
    rw [path_append (s := s), and_assoc]
theorem path_congr {f f' : Int → Int} {z : Int} : ∀ {s : List Int} {x : Int}, (∀ a ∈ s, f' a = f a) → f' x = f x → path f x s z → path f' x s z
  | [], _, _, hx, h => hx.trans h
  | a :: s, _, hs, hx, h => ⟨hx.trans h.1, path_congr (fun b hb => hs b (by simp [hb])) (hs a (by simp)) h.2⟩
/-- Another one goes on as y did. -/
theorem path_head {f f' : Int → Int} {x y z : Int} {s : List Int} (hx : f' x = f y) (hs : ∀ a ∈ s, f' a = f a) (h : path f y s z) : path f' x s z := by
  cases s with
  | nil => exact hx.trans h
  | cons a s => exact ⟨hx.trans h.1, path_congr (fun b hb => hs b (by simp [hb])) (hs a (by simp)) h.2⟩
/-- What led to x leads to b. -/
theorem path_end {f f' : Int → Int} {x b : Int} : ∀ {s : List Int} {a : Int}, x ∉ s → (∀ c, c = a ∨ c ∈ s → f' c = if f c = x then b else f c) → path f a s x → path f' a s b
  | [], a, _, hf, h => by
    show f' a = b
    rw [hf a (Or.inl rfl)]
    exact if_pos h
  | c :: s, a, hx, hf, h => by
    have h1 : f a ≠ x := fun e => hx (by rw [← e, h.1]; simp)
    refine ⟨?_, path_end (fun e => hx (by simp [e])) (fun e he => hf e (Or.inr ?_)) h.2⟩
    · rw [hf a (Or.inl rfl), if_neg h1]; exact h.1
    · rcases he with rfl | he <;> simp [*]
/-- What follows is one. -/
theorem path_unique {f : Int → Int} {z : Int} : ∀ {s s' : List Int} {x : Int}, z ∉ s → z ∉ s' → path f x s z → path f x s' z → s = s'
  | [], [], _, _, _, _, _ => rfl
  | [], b :: s', x, _, h2, h3, h4 => absurd (h3.symm.trans h4.1) (fun e => h2 (by simp [e]))
  | a :: s, [], x, h1, _, h3, h4 => absurd (h4.symm.trans h3.1) (fun e => h1 (by simp [e]))
  | a :: s, b :: s', x, h1, h2, h3, h4 => by
    have e := h3.1.symm.trans h4.1
    subst e
    rw [path_unique (fun h => h1 (by simp [h])) (fun h => h2 (by simp [h])) h3.2 h4.2]
theorem path_next {f : Int → Int} {x : Int} {s : List Int} (h : path f x s x) : (x :: s)[1 % (x :: s).length]? = some (f x) := by
  cases s with
  | nil => have : f x = x := h; simp [this]
  | cons a s =>
    have e : 1 % (x :: a :: s).length = 1 := Nat.mod_eq_of_lt (by simp)
    rw [e, h.1]; rfl
theorem path_last {f : Int → Int} {z : Int} : ∀ {s : List Int} {x : Int}, path f x s z → f ((x :: s).getLast (by simp)) = z
  | [], _, h => h
  | a :: s, x, h => by rw [List.getLast_cons (by simp)]; exact path_last h.2
/-- A ring, by f. -/
def ringBy (f : Int → Int) : List Int → Prop
  | [] => False
  | x :: s => path f x s x
theorem ring_rot {f : Int → Int} {u v : List Int} {x : Int} (h : ringBy f (u ++ x :: v)) : path f x (v ++ u) x := by
  cases u with
  | nil => rw [List.append_nil]; exact h
  | cons a u =>
    obtain ⟨h1, h2⟩ := path_append.1 (show path f a (u ++ x :: v) a from h)
    exact path_append.2 ⟨h2, h1⟩

/-! ### the document's -/
def allIn (l : List Int) (x : Int) : List Int := l.drop (l.idxOf x) ++ l.take (l.idxOf x)
/-- All of a thing's ring, from it on. -/
def allR (R : List (List Int)) (x : Int) : List Int := (R.find? fun l => l.contains x).elim [] fun l => allIn l x
def withoutR (R : List (List Int)) (x y : Int) : List (List Int) := R.filter fun l => !l.contains x && !l.contains y
def spliceR (R : List (List Int)) (x y : Int) : List (List Int) :=
  if allR R x = [] ∨ allR R y = [] ∨ x = y then R
  else if (allR R x).contains y then withoutR R x y ++ [x :: (allR R x).drop ((allR R x).idxOf y + 1), y :: ((allR R x).take ((allR R x).idxOf y)).drop 1]
  else withoutR R x y ++ [(x :: (allR R y).drop 1) ++ [y] ++ (allR R x).drop 1]
def partR (R : List (List Int)) (x : Int) : List (List Int) :=
  if (allR R x).length ≤ 1 then R else withoutR R x x ++ [[x], (allR R x).drop 1]
/-- Each thing is in one ring, once, and rings are as f has them. -/
structure RgInv (n : Nat) (f : Int → Int) (R : List (List Int)) : Prop where
  by' : ∀ l ∈ R, ringBy f l
  nodup : ∀ l ∈ R, l.Nodup
  one : ∀ l ∈ R, ∀ m ∈ R, ∀ x, x ∈ l → x ∈ m → l = m
  mem : ∀ x : Int, (∃ l ∈ R, x ∈ l) ↔ 0 ≤ x ∧ x < n
theorem split_at {l : List Int} {x : Int} (h : x ∈ l) : l.take (l.idxOf x) ++ x :: l.drop (l.idxOf x + 1) = l := by
  have hl := List.idxOf_lt_length_of_mem h
  conv => rhs; rw [← List.take_append_drop (l.idxOf x) l, List.drop_eq_getElem_cons hl, List.getElem_idxOf hl]
theorem path_in {f : Int → Int} {z c : Int} : ∀ {s : List Int} {x : Int}, path f x s z → c = x ∨ c ∈ s → f c = z ∨ f c ∈ s
  | [], x, h, hc => by
    rcases hc with rfl | hc
    · exact Or.inl h
    · cases hc
  | a :: s, x, h, hc => by
    rcases hc with rfl | hc
    · rw [h.1]; exact Or.inr (by simp)
    · rcases path_in h.2 (List.mem_cons.1 hc) with h1 | h1
      · exact Or.inl h1
      · exact Or.inr (by simp [h1])
theorem ring_in {f : Int → Int} {l : List Int} {c : Int} (h : ringBy f l) (hc : c ∈ l) : f c ∈ l := by
  cases l with
  | nil => cases hc
  | cons x s =>
    rcases path_in (show path f x s x from h) (List.mem_cons.1 hc) with h1 | h1
    · rw [h1]; simp
    · exact List.mem_cons_of_mem _ h1
theorem ring_congr {f f' : Int → Int} {l : List Int} (hf : ∀ c ∈ l, f' c = f c) (h : ringBy f l) : ringBy f' l := by
  cases l with
  | nil => exact h
  | cons x s => exact path_congr (fun a ha => hf a (by simp [ha])) (hf x (by simp)) h
section
variable {n : Nat} {f : Int → Int} {R : List (List Int)} (I : RgInv n f R)
include I
/-- A thing's ring, from it on. -/
theorem RgInv.all {x : Int} (hx : 0 ≤ x ∧ x < n) : ∃ s, allR R x = x :: s ∧ path f x s x ∧ (x :: s).Nodup ∧ ∃ l ∈ R, x ∈ l ∧ (x :: s).Perm l := by
  obtain ⟨l, hl, hxl⟩ := (I.mem x).2 hx
  have e : R.find? (fun l => l.contains x) = some l := by
    cases h : R.find? (fun l => l.contains x) with
    | none => exact absurd (by simpa using hxl) (List.find?_eq_none.1 h l hl)
    | some m => rw [I.one m (List.mem_of_find?_eq_some h) l hl x (by have := List.find?_some h; simpa using this) hxl]
  have e1 : allR R x = allIn l x := by unfold allR; rw [e]; rfl
  have hs := split_at hxl
  have hi := List.idxOf_lt_length_of_mem hxl
  have e2 : allIn l x = x :: (l.drop (l.idxOf x + 1) ++ l.take (l.idxOf x)) := by
    unfold allIn
    rw [List.drop_eq_getElem_cons hi, List.getElem_idxOf hi]; rfl
  have hp : (x :: (l.drop (l.idxOf x + 1) ++ l.take (l.idxOf x))).Perm l := by
    conv => rhs; rw [← hs]
    exact (List.perm_append_comm (l₁ := x :: l.drop (l.idxOf x + 1)) (l₂ := l.take (l.idxOf x)))
  refine ⟨_, e1.trans e2, ?_, hp.nodup_iff.2 (I.nodup l hl), l, hl, hxl, hp⟩
  have hb := I.by' l hl
  rw [← hs] at hb
  exact ring_rot hb
theorem RgInv.none {x : Int} (hx : ¬ (0 ≤ x ∧ x < n)) : allR R x = [] := by
  have e : R.find? (fun l => l.contains x) = Option.none := by
    rw [List.find?_eq_none]
    intro l hl h
    exact hx ((I.mem x).1 ⟨l, hl, by simpa using h⟩)
  unfold allR; rw [e]; rfl
end
/-- What follows what, where x and y change what follows them. -/
def swapN (f : Int → Int) (x y : Int) : Int → Int := fun z => if z = x then f y else if z = y then f x else f z
theorem mem_withoutR {R : List (List Int)} {x y : Int} {l : List Int} : l ∈ withoutR R x y ↔ l ∈ R ∧ x ∉ l ∧ y ∉ l := by
  simp [withoutR, List.mem_filter]
theorem new_rings (n : Nat) : RgInv n id ((List.range n).map fun i : Nat => [(i : Int)]) := by
  refine ⟨fun l hl => ?_, fun l hl => ?_, fun l hl m hm x hx hxm => ?_, fun x => ?_⟩
  · obtain ⟨i, _, rfl⟩ := List.mem_map.1 hl
    exact (rfl : path id (i : Int) [] i)
  · obtain ⟨i, _, rfl⟩ := List.mem_map.1 hl
    simp
  · obtain ⟨i, _, rfl⟩ := List.mem_map.1 hl
    obtain ⟨j, _, rfl⟩ := List.mem_map.1 hm
    simp only [List.mem_singleton] at hx hxm
    rw [← hx, ← hxm]
  · constructor
    · rintro ⟨l, hl, hx⟩
      obtain ⟨i, hi, rfl⟩ := List.mem_map.1 hl
      simp only [List.mem_singleton, List.mem_range] at hx hi
      omega
    · intro h
      exact ⟨[x], List.mem_map.2 ⟨x.toNat, List.mem_range.2 (by omega), by simp; omega⟩, by simp⟩
/-- Rings of which some go and others come. -/
theorem RgInv.change {n : Nat} {f f' : Int → Int} {R N : List (List Int)} {x y : Int} (I : RgInv n f R) (hx : 0 ≤ x ∧ x < n) (hy : 0 ≤ y ∧ y < n)
    (hf : ∀ l ∈ R, x ∉ l → y ∉ l → ∀ c ∈ l, f' c = f c) (hby : ∀ l ∈ N, ringBy f' l) (hnd : ∀ l ∈ N, l.Nodup) (hone : ∀ l ∈ N, ∀ m ∈ N, ∀ z, z ∈ l → z ∈ m → l = m)
    (hmem : ∀ z, (∃ l ∈ N, z ∈ l) ↔ z ∈ allR R x ∨ z ∈ allR R y) : RgInv n f' (withoutR R x y ++ N) := by
  obtain ⟨s, es, _, _, lx, hlx, hxl, px⟩ := I.all hx
  obtain ⟨t, et, _, _, ly, hly, hyl, py⟩ := I.all hy
  rw [es, et] at hmem
  have hm : ∀ z, (∃ l ∈ N, z ∈ l) ↔ z ∈ lx ∨ z ∈ ly := fun z => by rw [hmem, px.mem_iff, py.mem_iff]
  have hapart : ∀ l ∈ withoutR R x y, ∀ m ∈ N, ∀ z, z ∈ l → z ∈ m → False := fun l hl m hmN z hz hzm => by
    obtain ⟨h1, h2, h3⟩ := mem_withoutR.1 hl
    rcases (hm z).1 ⟨m, hmN, hzm⟩ with h | h
    · exact h2 (I.one l h1 lx hlx z hz h ▸ hxl)
    · exact h3 (I.one l h1 ly hly z hz h ▸ hyl)
  refine ⟨fun l hl => ?_, fun l hl => ?_, fun l hl m hmm z hz hzm => ?_, fun z => ?_⟩
  · rcases List.mem_append.1 hl with h | h
    · obtain ⟨h1, h2, h3⟩ := mem_withoutR.1 h
      exact ring_congr (hf l h1 h2 h3) (I.by' l h1)
    · exact hby l h
  · rcases List.mem_append.1 hl with h | h
    · exact I.nodup l (mem_withoutR.1 h).1
    · exact hnd l h
  · rcases List.mem_append.1 hl with h | h <;> rcases List.mem_append.1 hmm with h2 | h2
    · exact I.one l (mem_withoutR.1 h).1 m (mem_withoutR.1 h2).1 z hz hzm
    · exact (hapart l h m h2 z hz hzm).elim
    · exact (hapart m h2 l h z hzm hz).elim
    · exact hone l h m h2 z hz hzm
  · rw [← I.mem z]
    constructor
    · rintro ⟨l, hl, hz⟩
      rcases List.mem_append.1 hl with h | h
      · exact ⟨l, (mem_withoutR.1 h).1, hz⟩
      · rcases (hm z).1 ⟨l, h, hz⟩ with h2 | h2
        · exact ⟨lx, hlx, h2⟩
        · exact ⟨ly, hly, h2⟩
    · rintro ⟨l, hl, hz⟩
      by_cases h1 : x ∈ l
      · obtain ⟨m, hmN, hzm⟩ := (hm z).2 (Or.inl (I.one l hl lx hlx x h1 hxl ▸ hz))
        exact ⟨m, List.mem_append.2 (Or.inr hmN), hzm⟩
      · by_cases h2 : y ∈ l
        · obtain ⟨m, hmN, hzm⟩ := (hm z).2 (Or.inr (I.one l hl ly hly y h2 hyl ▸ hz))
          exact ⟨m, List.mem_append.2 (Or.inr hmN), hzm⟩
        · exact ⟨l, List.mem_append.2 (Or.inl (mem_withoutR.2 ⟨hl, h1, h2⟩)), hz⟩
end Go.Proofs.Ytcjjglaimfhofaa

namespace Go.Proofs.Ytcjjglaimfhofaa

section
variable {n : Nat} {f : Int → Int} {R : List (List Int)} {x y : Int}
/-- Two of one ring: it is parted. -/
theorem splice_one (I : RgInv n f R) (hx : 0 ≤ x ∧ x < n) (hy : 0 ≤ y ∧ y < n) (hne : x ≠ y) (h : y ∈ allR R x) : RgInv n (swapN f x y) (spliceR R x y) := by
  obtain ⟨s, es, ps, ns, lx, hlx, hxl, px⟩ := I.all hx
  obtain ⟨t, et, _, _, ly, hly, hyl, py⟩ := I.all hy
  have hc : (allR R x).contains y = true := by simpa using h
  have hsp := split_at h
  rw [es] at h hsp
  cases hu : (x :: s).take ((x :: s).idxOf y) with
  | nil =>
    rw [hu] at hsp
    injection hsp with e
    exact absurd e.symm hne
  | cons c u =>
    rw [hu] at hsp
    injection hsp with e1 e2
    subst e1
    generalize hv : (c :: s).drop ((c :: s).idxOf y + 1) = v at e2
    have e : spliceR R c y = withoutR R c y ++ [c :: v, y :: u] := by
      unfold spliceR
      rw [if_neg (by rw [es, et]; simp [hne]), if_pos hc, es, hu, hv]
      rfl
    rw [e]
    obtain rfl : s = u ++ y :: v := e2.symm
    obtain ⟨p1, p2⟩ := path_append.1 ps
    have hnd := ns
    simp only [List.nodup_cons, List.mem_append, List.mem_cons, not_or, List.nodup_append] at hnd
    obtain ⟨⟨cu, cy, cv⟩, nu, ⟨yv, nv⟩, huv⟩ := hnd
    have yu : y ∉ u := fun hm => huv y hm y (Or.inl rfl) rfl
    have hsame : ly = lx := I.one ly hly lx hlx y hyl (px.mem_iff.1 h)
    refine I.change hx hy (fun l hl h1 h2 c' hc' => ?_) (fun l hl => ?_) (fun l hl => ?_) (fun l hl m hm z hz hzm => ?_) (fun z => ?_)
    · unfold swapN
      rw [if_neg (fun e : c' = c => h1 (by rw [← e]; exact hc')), if_neg (fun e : c' = y => h2 (by rw [← e]; exact hc'))]
    · have hf : ∀ a, a ≠ c → a ≠ y → swapN f c y a = f a := fun a h1 h2 => by unfold swapN; rw [if_neg h1, if_neg h2]
      simp only [List.mem_cons, List.not_mem_nil, or_false] at hl
      rcases hl with rfl | rfl
      · exact path_head (y := y) (by unfold swapN; rw [if_pos rfl]) (fun a ha => hf a (fun e => cv (e ▸ ha)) (fun e => yv (e ▸ ha))) p2
      · exact path_head (y := c) (by unfold swapN; rw [if_neg (fun e => hne e.symm), if_pos rfl]) (fun a ha => hf a (fun e => cu (e ▸ ha)) (fun e => yu (e ▸ ha))) p1
    · simp only [List.mem_cons, List.not_mem_nil, or_false] at hl
      rcases hl with rfl | rfl
      · exact List.nodup_cons.2 ⟨cv, nv⟩
      · exact List.nodup_cons.2 ⟨yu, nu⟩
    · have hdis : ∀ z, z ∈ c :: v → z ∈ y :: u → False := fun z h1 h2 => by
        rcases List.mem_cons.1 h1 with rfl | h1 <;> rcases List.mem_cons.1 h2 with h2 | h2
        · exact cy h2
        · exact cu h2
        · subst h2; exact yv h1
        · exact huv z h2 z (Or.inr h1) rfl
      simp only [List.mem_cons, List.not_mem_nil, or_false] at hl hm
      rcases hl with rfl | rfl <;> rcases hm with rfl | rfl
      · rfl
      · exact (hdis z hz hzm).elim
      · exact (hdis z hzm hz).elim
      · rfl
    · rw [es, et]
      have hz : z ∈ y :: t ↔ z ∈ c :: (u ++ y :: v) := by rw [py.mem_iff, px.mem_iff, hsame]
      rw [hz, or_self]
      constructor
      · rintro ⟨l, hl, hzl⟩
        simp only [List.mem_cons, List.not_mem_nil, or_false] at hl
        rcases hl with rfl | rfl
        · rcases List.mem_cons.1 hzl with rfl | h1
          · simp
          · simp [h1]
        · rcases List.mem_cons.1 hzl with rfl | h1
          · simp
          · simp [h1]
      · intro h1
        simp only [List.mem_cons, List.mem_append] at h1
        rcases h1 with rfl | h1 | rfl | h1
        · exact ⟨z :: v, by simp, by simp⟩
        · exact ⟨y :: u, by simp, by simp [h1]⟩
        · exact ⟨z :: u, by simp, by simp⟩
        · exact ⟨c :: v, by simp, by simp [h1]⟩
/-- Two of two rings: they become one. -/
theorem splice_two (I : RgInv n f R) (hx : 0 ≤ x ∧ x < n) (hy : 0 ≤ y ∧ y < n) (h : y ∉ allR R x) : RgInv n (swapN f x y) (spliceR R x y) := by
  obtain ⟨s, es, ps, ns, lx, hlx, hxl, px⟩ := I.all hx
  obtain ⟨t, et, pt, nt, ly, hly, hyl, py⟩ := I.all hy
  have hne : x ≠ y := fun e => h (by rw [es, ← e]; simp)
  have hc : ¬ (allR R x).contains y = true := by simpa using h
  have e : spliceR R x y = withoutR R x y ++ [(x :: t) ++ [y] ++ s] := by
    unfold spliceR
    rw [if_neg (by rw [es, et]; simp [hne]), if_neg hc, es, et]
    rfl
  rw [e]
  rw [es] at h
  have hdis : ∀ z, z ∈ x :: s → z ∈ y :: t → False := fun z h1 h2 => by
    have := I.one lx hlx ly hly z (px.mem_iff.1 h1) (py.mem_iff.1 h2)
    subst this
    exact h (px.mem_iff.2 hyl)
  have xt : x ∉ y :: t := fun hm => hdis x (by simp) hm
  have hf : ∀ a, a ≠ x → a ≠ y → swapN f x y a = f a := fun a h1 h2 => by unfold swapN; rw [if_neg h1, if_neg h2]
  obtain ⟨xs, ns'⟩ := List.nodup_cons.1 ns
  obtain ⟨yt, nt'⟩ := List.nodup_cons.1 nt
  have ys : y ∉ s := fun hm => h (by simp [hm])
  have e3 : (x :: t) ++ [y] ++ s = x :: (t ++ y :: s) := by simp
  rw [e3]
  refine I.change hx hy (fun l hl h1 h2 c' hc' => hf c' (fun e => h1 (e ▸ hc')) (fun e => h2 (e ▸ hc'))) (fun l hl => ?_) (fun l hl => ?_) (fun l hl m hm z _ _ => ?_) (fun z => ?_)
  · rw [List.mem_singleton.1 hl]
    refine path_append.2 ⟨path_head (y := y) (by unfold swapN; rw [if_pos rfl]) (fun a ha => hf a (fun e => xt (by simp [← e, ha])) (fun e => yt (e ▸ ha))) pt, path_head (y := x) (by unfold swapN; rw [if_neg (fun e => hne e.symm), if_pos rfl]) (fun a ha => hf a (fun e => xs (e ▸ ha)) (fun e => ys (e ▸ ha))) ps⟩
  · rw [List.mem_singleton.1 hl]
    rw [List.nodup_cons, List.nodup_append]
    refine ⟨fun hm => ?_, nt', List.nodup_cons.2 ⟨ys, ns'⟩, fun a ha b hb e => ?_⟩
    · rcases List.mem_append.1 hm with h1 | h1
      · exact xt (by simp [h1])
      · rcases List.mem_cons.1 h1 with h1 | h1
        · exact hne h1
        · exact xs h1
    · subst e
      rcases List.mem_cons.1 hb with h1 | h1
      · exact yt (h1 ▸ ha)
      · exact hdis a (by simp [h1]) (by simp [ha])
  · rw [List.mem_singleton.1 hl, List.mem_singleton.1 hm]
  · rw [es, et]
    simp only [List.mem_cons]
    grind
theorem splice_inv (I : RgInv n f R) (hx : 0 ≤ x ∧ x < n) (hy : 0 ≤ y ∧ y < n) (hne : x ≠ y) : RgInv n (swapN f x y) (spliceR R x y) := by
  by_cases h : y ∈ allR R x
  · exact splice_one I hx hy hne h
  · exact splice_two I hx hy h
/-- A thing comes out of its ring. -/
def partF (f : Int → Int) (x : Int) : Int → Int := fun z => if z = x then x else if f z = x then f x else f z
theorem part_inv (I : RgInv n f R) (hx : 0 ≤ x ∧ x < n) : RgInv n (partF f x) (partR R x) := by
  obtain ⟨s, es, ps, ns, lx, hlx, hxl, px⟩ := I.all hx
  obtain ⟨xs, ns'⟩ := List.nodup_cons.1 ns
  cases s with
  | nil =>
    have hfx : f x = x := ps
    have e : partR R x = R := by unfold partR; rw [if_pos (by rw [es]; simp)]
    have e2 : partF f x = f := by
      funext z
      unfold partF
      by_cases h1 : z = x
      · rw [if_pos h1, h1, hfx]
      · rw [if_neg h1]
        by_cases h2 : f z = x
        · rw [if_pos h2, hfx, h2]
        · rw [if_neg h2]
    rw [e, e2]; exact I
  | cons a s =>
    have e : partR R x = withoutR R x x ++ [[x], a :: s] := by
      unfold partR; rw [if_neg (by rw [es]; simp), es]; rfl
    rw [e]
    have hfx : f x = a := ps.1
    have hxx : partF f x x = x := by unfold partF; rw [if_pos rfl]
    refine I.change hx hx (fun l hl h1 _ c hc => ?_) (fun l hl => ?_) (fun l hl => ?_) (fun l hl m hm z hz hzm => ?_) (fun z => ?_)
    · unfold partF
      rw [if_neg (fun e : c = x => h1 (by rw [← e]; exact hc)), if_neg (fun e : f c = x => h1 (by rw [← e]; exact ring_in (I.by' l hl) hc))]
    · simp only [List.mem_cons, List.not_mem_nil, or_false] at hl
      rcases hl with rfl | rfl
      · exact hxx
      · refine path_end (x := x) (b := a) (fun h => xs (by simp [h])) (fun c hc => ?_) ps.2
        have hcx : c ≠ x := fun e => xs (by
          rcases hc with h | h
          · rw [← e, h]; simp
          · rw [← e]; simp [h])
        unfold partF
        rw [if_neg hcx, hfx]
    · simp only [List.mem_cons, List.not_mem_nil, or_false] at hl
      rcases hl with rfl | rfl
      · simp
      · exact ns'
    · simp only [List.mem_cons, List.not_mem_nil, or_false] at hl hm
      rcases hl with rfl | rfl <;> rcases hm with rfl | rfl
      · rfl
      · rw [List.mem_singleton.1 hz] at hzm; exact absurd hzm xs
      · rw [List.mem_singleton.1 hzm] at hz; exact absurd hz xs
      · rfl
    · rw [es, or_self]
      simp
end
/-! ### there and back: each thing is followed by one, and follows one -/
/-- g goes back where f goes on. -/
structure Back (n : Nat) (f g : Int → Int) : Prop where
  inF : ∀ x, 0 ≤ x ∧ x < (n : Int) → 0 ≤ f x ∧ f x < n
  inG : ∀ x, 0 ≤ x ∧ x < (n : Int) → 0 ≤ g x ∧ g x < n
  gf : ∀ x, 0 ≤ x ∧ x < (n : Int) → g (f x) = x
  fg : ∀ x, 0 ≤ x ∧ x < (n : Int) → f (g x) = x
theorem back_id (n : Nat) : Back n id id := ⟨fun _ h => h, fun _ h => h, fun _ _ => rfl, fun _ _ => rfl⟩
/-- What precedes what, where x and y change what follows them. -/
def swapB (f g : Int → Int) (x y : Int) : Int → Int := fun z => if z = f y then x else if z = f x then y else g z
theorem back_swap {n : Nat} {f g : Int → Int} (B : Back n f g) {x y : Int} (hx : 0 ≤ x ∧ x < (n : Int)) (hy : 0 ≤ y ∧ y < (n : Int)) (hne : x ≠ y) : Back n (swapN f x y) (swapB f g x y) := by
  have inj : ∀ a b, 0 ≤ a ∧ a < (n : Int) → 0 ≤ b ∧ b < (n : Int) → f a = f b → a = b := fun a b ha hb e => by rw [← B.gf a ha, e, B.gf b hb]
  have hfne : f x ≠ f y := fun e => hne (inj x y hx hy e)
  refine ⟨fun z hz => ?_, fun z hz => ?_, fun z hz => ?_, fun z hz => ?_⟩
  · unfold swapN; split
    · exact B.inF y hy
    · split
      · exact B.inF x hx
      · exact B.inF z hz
  · unfold swapB; split
    · exact hx
    · split
      · exact hy
      · exact B.inG z hz
  · unfold swapN
    by_cases h1 : z = x
    · rw [if_pos h1, h1]; unfold swapB; rw [if_pos rfl]
    · rw [if_neg h1]
      by_cases h2 : z = y
      · rw [if_pos h2, h2]; unfold swapB; rw [if_neg hfne, if_pos rfl]
      · rw [if_neg h2]; unfold swapB
        rw [if_neg (fun e => h2 (inj z y hz hy e)), if_neg (fun e => h1 (inj z x hz hx e)), B.gf z hz]
  · unfold swapB
    by_cases h1 : z = f y
    · rw [if_pos h1]; unfold swapN; rw [if_pos rfl, h1]
    · rw [if_neg h1]
      by_cases h2 : z = f x
      · rw [if_pos h2]; unfold swapN; rw [if_neg (fun e => hne e.symm), if_pos rfl, h2]
      · rw [if_neg h2]
        unfold swapN
        have h3 := B.fg z hz
        rw [if_neg (fun e => h2 (by rw [← h3, e])), if_neg (fun e => h1 (by rw [← h3, e])), h3]
/-- What precedes a thing is the last one of its ring, from it on. -/
theorem back_last {n : Nat} {f g : Int → Int} (B : Back n f g) {x : Int} {s : List Int} (hp : path f x s x) (hin : ∀ z ∈ x :: s, 0 ≤ z ∧ z < (n : Int)) : (x :: s).getLast (by simp) = g x := by
  have h1 := path_last hp
  have h2 := B.gf _ (hin _ (List.getLast_mem (by simp)))
  rw [h1] at h2
  exact h2.symm
end Go.Proofs.Ytcjjglaimfhofaa

namespace Go.Proofs.Ytcjjglaimfhofaa

/-- What is spliced twice is as it was. -/
theorem swap_twice (f : Int → Int) {x y : Int} (hne : x ≠ y) : swapN (swapN f x y) y x = f := by
  funext z
  unfold swapN
  by_cases h1 : z = y
  · rw [if_pos h1, if_pos rfl, h1]
  · by_cases h2 : z = x
    · rw [if_neg h1, if_pos h2, if_neg (fun e => hne e.symm), if_pos rfl, h2]
    · rw [if_neg h1, if_neg h2, if_neg h2, if_neg h1]
section
variable {n : Nat} {f : Int → Int} {R : List (List Int)} {x y : Int}
theorem all_mem (I : RgInv n f R) (hx : 0 ≤ x ∧ x < n) : y ∈ allR R x ↔ ∃ l ∈ R, x ∈ l ∧ y ∈ l := by
  obtain ⟨s, es, _, _, l, hl, hxl, hp⟩ := I.all hx
  rw [es]
  constructor
  · intro h; exact ⟨l, hl, hxl, hp.mem_iff.1 h⟩
  · rintro ⟨m, hm, h1, h2⟩
    rw [I.one m hm l hl x h1 hxl] at h2
    exact hp.mem_iff.2 h2
/-- Two that are spliced are in one ring then, if they weren't. -/
theorem splice_flip (I : RgInv n f R) (hx : 0 ≤ x ∧ x < n) (hy : 0 ≤ y ∧ y < n) (hne : x ≠ y) : y ∈ allR (spliceR R x y) x ↔ y ∉ allR R x := by
  have I' := splice_inv I hx hy hne
  obtain ⟨s, es, _⟩ := I.all hx
  obtain ⟨t, et, _⟩ := I.all hy
  have h0 : ¬ (allR R x = [] ∨ allR R y = [] ∨ x = y) := by rw [es, et]; simp [hne]
  rw [all_mem I' hx]
  by_cases h : y ∈ allR R x
  · have e : spliceR R x y = withoutR R x y ++ [x :: (allR R x).drop ((allR R x).idxOf y + 1), y :: ((allR R x).take ((allR R x).idxOf y)).drop 1] := by
      unfold spliceR
      rw [if_neg h0, if_pos (by simpa using h)]
    refine ⟨fun ⟨l, hl, h1, h2⟩ => ?_, fun h2 => absurd h h2⟩
    have m1 : x :: (allR R x).drop ((allR R x).idxOf y + 1) ∈ spliceR R x y := by rw [e]; simp
    have m2 : y :: ((allR R x).take ((allR R x).idxOf y)).drop 1 ∈ spliceR R x y := by rw [e]; simp
    have e1 := I'.one l hl _ m1 x h1 (by simp)
    have e2 := I'.one l hl _ m2 y h2 (by simp)
    rw [e1] at e2
    injection e2 with e2 _
    exact absurd e2 hne
  · have e : spliceR R x y = withoutR R x y ++ [(x :: (allR R y).drop 1) ++ [y] ++ (allR R x).drop 1] := by
      unfold spliceR
      rw [if_neg h0, if_neg (by simpa using h)]
    exact ⟨fun _ => h, fun _ => ⟨(x :: (allR R y).drop 1) ++ [y] ++ (allR R x).drop 1, by rw [e]; simp, by simp, by simp⟩⟩
/-- Of one ring: they are as many, and each is in the other one's. -/
theorem all_perm (I : RgInv n f R) (hx : 0 ≤ x ∧ x < n) (h : y ∈ allR R x) : (0 ≤ y ∧ y < n) ∧ (allR R y).Perm (allR R x) := by
  obtain ⟨s, es, _, _, l, hl, hxl, hp⟩ := I.all hx
  rw [es] at h
  have hyl := hp.mem_iff.1 h
  have hy := (I.mem y).1 ⟨l, hl, hyl⟩
  obtain ⟨t, et, _, _, m, hm, hym, hq⟩ := I.all hy
  have e := I.one m hm l hl y hym hyl
  rw [es, et]
  rw [e] at hq
  exact ⟨hy, hq.trans hp.symm⟩
theorem all_nodup (I : RgInv n f R) (hx : 0 ≤ x ∧ x < n) : (allR R x).Nodup := by
  obtain ⟨s, es, _, h, _⟩ := I.all hx
  rw [es]; exact h
theorem all_in (I : RgInv n f R) (hx : 0 ≤ x ∧ x < n) : ∀ y ∈ allR R x, 0 ≤ y ∧ y < n := fun _ hy => (all_perm I hx hy).1
theorem nodup_below : ∀ (m : Nat) (l : List Int), l.Nodup → (∀ x ∈ l, 0 ≤ x ∧ x < m) → l.length ≤ m := fun m => by
  induction m with
  | zero =>
    intro l _ h
    cases l with
    | nil => exact Nat.le_refl _
    | cons a r => have := h a (by simp); omega
  | succ m ih =>
    intro l hn h
    have h1 := ih (l.erase (m : Int)) (hn.erase _) (fun x hx => by
      have h1 := (List.Nodup.mem_erase_iff hn).1 hx
      have h2 := h x h1.2
      have h3 := h1.1
      omega)
    have := List.length_erase (a := (m : Int)) (l := l)
    split at this <;> omega
theorem all_few (I : RgInv n f R) (hx : 0 ≤ x ∧ x < n) : 1 ≤ (allR R x).length ∧ (allR R x).length ≤ n := by
  obtain ⟨s, es, _⟩ := I.all hx
  exact ⟨by rw [es]; simp, nodup_below n _ (all_nodup I hx) (all_in I hx)⟩
/-- What follows itself is in a ring of its own. -/
theorem self_ring {s : List Int} (h : path f x s x) (hn : (x :: s).Nodup) (e : f x = x) : s = [] := by
  cases s with
  | nil => rfl
  | cons c s =>
    have h1 : f x = c := h.1
    exact absurd (by rw [← e, h1]; simp : x ∈ c :: s) (List.nodup_cons.1 hn).1
theorem part_self (I : RgInv n f R) (hx : 0 ≤ x ∧ x < n) : allR (partR R x) x = [x] := by
  obtain ⟨s, es, ps, ns, _⟩ := (part_inv I hx).all hx
  rw [es, self_ring ps ns (by unfold partF; rw [if_pos rfl])]
/-- The same follows the same: the ring is the same. -/
theorem all_same {R' : List (List Int)} (I : RgInv n f R) (I' : RgInv n f R') (hx : 0 ≤ x ∧ x < n) : allR R x = allR R' x := by
  obtain ⟨s, es, ps, ns, _⟩ := I.all hx
  obtain ⟨t, et, pt, nt, _⟩ := I'.all hx
  rw [es, et, path_unique (List.nodup_cons.1 ns).1 (List.nodup_cons.1 nt).1 ps pt]
end
end Go.Proofs.Ytcjjglaimfhofaa
