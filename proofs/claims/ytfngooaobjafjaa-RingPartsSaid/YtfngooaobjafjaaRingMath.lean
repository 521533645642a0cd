/- Rings, as the document has them, as plain data: a list of lists; what follows what. No program is named here. -/
import Derived.Lib.Hide
namespace Go.Proofs.Ytfngooaobjafjaa

/-- From x on, by f, come all of s, and then z. -/
def path (f : Int → Int) : Int → List Int → Int → Prop
  | x, [], z => f x = z
  | x, a :: s, z => f x = a ∧ path f a s z
theorem path_append {f : Int → Int} {y z : Int} {t : List Int} : ∀ {s : List Int} {x : Int}, path f x (s ++ y :: t) z ↔ path f x s y ∧ path f y t z
  | [], _ => Iff.rfl
  | a :: s, x => by
    show (f x = a ∧ path f a (s ++ y :: t) z) ↔ (f x = a ∧ path f a s y) ∧ path f y t z
    rw [path_append (s := s), and_assoc]
theorem path_congr {f f' : Int → Int} {z : Int} : ∀ {s : List Int} {x : Int}, (∀ a ∈ s, f' a = f a) → f' x = f x → path f x s z → path f' x s z
  | [], _, _, hx, h => hx.trans h
  | a :: s, _, hs, hx, h => ⟨hx.trans h.1, path_congr (fun b hb => hs b (by simp [hb])) (hs a (by simp)) h.2⟩
/-- Another one goes on as y did. -/
theorem path_head {f f' : Int → Int} {x y z : Int} {s : List Int} (hx : f' x = f y) (hs : ∀ a ∈ s, f' a = f a) (h : path f y s z) : path f' x s z := by
  cases s with
  | nil => exact hx.trans h
  | cons a s => exact ⟨hx.trans h.1, path_congr (fun b hb => hs b (by simp [hb])) (hs a (by simp)) h.2⟩
/-- What led to x leads to b. -/
theorem path_end {f f' : Int → Int} {x b : Int} : ∀ {s : List Int} {a : Int}, x ∉ s → (∀ c, c = a ∨ c ∈ s → f' c = if f c = x then b else f c) → path f a s x → path f' a s b
  | [], a, _, hf, h => by
    show f' a = b
    rw [hf a (Or.inl rfl)]
    exact if_pos h
  | c :: s, a, hx, hf, h => by
    have h1 : f a ≠ x := fun e => hx (by rw [← e, h.1]; simp)
    refine ⟨?_, path_end (fun e => hx (by simp [e])) (fun e he => hf e (Or.inr ?_)) h.2⟩
    · rw [hf a (Or.inl rfl), if_neg h1]; exact h.1
    · rcases he with rfl | he <;> simp [*]
/-- What follows is one. -/
theorem path_unique {f : Int → Int} {z : Int} : ∀ {s s' : List Int} {x : Int}, z ∉ s → z ∉ s' → path f x s z → path f x s' z → s = s'
  | [], [], _, _, _, _, _ => rfl
  | [], b :: s', x, _, h2, h3, h4 => absurd (h3.symm.trans h4.1) (fun e => h2 (by simp [e]))
  | a :: s, [], x, h1, _, h3, h4 => absurd (h4.symm.trans h3.1) (fun e => h1 (by simp [e]))
  | a :: s, b :: s', x, h1, h2, h3, h4 => by
    have e := h3.1.symm.trans h4.1
    subst e
    rw [path_unique (fun h => h1 (by simp [h])) (fun h => h2 (by simp [h])) h3.2 h4.2]
theorem path_next {f : Int → Int} {x : Int} {s : List Int} (h : path f x s x) : (x :: s)[1 % (x :: s).length]? = some (f x) := by
  cases s with
  | nil => have : f x = x := h; simp [this]
  | cons a s =>
    have e : 1 % (x :: a :: s).length = 1 := Nat.mod_eq_of_lt (by simp)
    rw [e, h.1]; rfl
theorem path_last {f : Int → Int} {z : Int} : ∀ {s : List Int} {x : Int}, path f x s z → f ((x :: s).getLast (by simp)) = z
  | [], _, h => h
  | a :: s, x, h => by rw [List.getLast_cons (by simp)]; exact path_last h.2
/-- A ring, by f. -/
def ringBy (f : Int → Int) : List Int → Prop
  | [] => False
  | x :: s => path f x s x
theorem ring_rot {f : Int → Int} {u v : List Int} {x : Int} (h : ringBy f (u ++ x :: v)) : path f x (v ++ u) x := by
  cases u with
  | nil => rw [List.append_nil]; exact h
  | cons a u =>
    obtain ⟨h1, h2⟩ := path_append.1 (show path f a (u ++ x :: v) a from h)
    exact path_append.2 ⟨h2, h1⟩

/-! ### the document's -/
def allIn (l : List Int) (x : Int) : List Int := l.drop (l.idxOf x) ++ l.take (l.idxOf x)
/-- All of a thing's ring, from it on. -/
def allR (R : List (List Int)) (x : Int) : List Int := (R.find? fun l => l.contains x).elim [] fun l => allIn l x
def withoutR (R : List (List Int)) (x y : Int) : List (List Int) := R.filter fun l => !l.contains x && !l.contains y
def spliceR (R : List (List Int)) (x y : Int) : List (List Int) :=
  if allR R x = [] ∨ allR R y = [] ∨ x = y then R
  else if (allR R x).contains y then withoutR R x y ++ [x :: (allR R x).drop ((allR R x).idxOf y + 1), y :: ((allR R x).take ((allR R x).idxOf y)).drop 1]
  else withoutR R x y ++ [(x :: (allR R y).drop 1) ++ [y] ++ (allR R x).drop 1]
def partR (R : List (List Int)) (x : Int) : List (List Int) :=
  if (allR R x).length ≤ 1 then R else withoutR R x x ++ [[x], (allR R x).drop 1]
/-- Each thing is in one ring, once, and rings are as f has them. -/
structure RInv (n : Nat) (f : Int → Int) (R : List (List Int)) : Prop where
  by' : ∀ l ∈ R, ringBy f l
  nodup : ∀ l ∈ R, l.Nodup
  one : ∀ l ∈ R, ∀ m ∈ R, ∀ x, x ∈ l → x ∈ m → l = m
  mem : ∀ x : Int, (∃ l ∈ R, x ∈ l) ↔ 0 ≤ x ∧ x < n
theorem split_at {l : List Int} {x : Int} (h : x ∈ l) : l.take (l.idxOf x) ++ x :: l.drop (l.idxOf x + 1) = l := by
  have hl := List.idxOf_lt_length_of_mem h
  conv => rhs; rw [← List.take_append_drop (l.idxOf x) l, List.drop_eq_getElem_cons hl, List.getElem_idxOf hl]
theorem path_in {f : Int → Int} {z c : Int} : ∀ {s : List Int} {x : Int}, path f x s z → c = x ∨ c ∈ s → f c = z ∨ f c ∈ s
  | [], x, h, hc => by
    rcases hc with rfl | hc
    · exact Or.inl h
    · cases hc
  | a :: s, x, h, hc => by
    rcases hc with rfl | hc
    · rw [h.1]; exact Or.inr (by simp)
    · rcases path_in h.2 (List.mem_cons.1 hc) with h1 | h1
      · exact Or.inl h1
      · exact Or.inr (by simp [h1])
theorem ring_in {f : Int → Int} {l : List Int} {c : Int} (h : ringBy f l) (hc : c ∈ l) : f c ∈ l := by
  cases l with
  | nil => cases hc
  | cons x s =>
    rcases path_in (show path f x s x from h) (List.mem_cons.1 hc) with h1 | h1
    · rw [h1]; simp
    · exact List.mem_cons_of_mem _ h1
theorem ring_congr {f f' : Int → Int} {l : List Int} (hf : ∀ c ∈ l, f' c = f c) (h : ringBy f l) : ringBy f' l := by
  cases l with
  | nil => exact h
  | cons x s => exact path_congr (fun a ha => hf a (by simp [ha])) (hf x (by simp)) h
section
variable {n : Nat} {f : Int → Int} {R : List (List Int)} (I : RInv n f R)
include I
/-- A thing's ring, from it on. -/
theorem RInv.all {x : Int} (hx : 0 ≤ x ∧ x < n) : ∃ s, allR R x = x :: s ∧ path f x s x ∧ (x :: s).Nodup ∧ ∃ l ∈ R, x ∈ l ∧ (x :: s).Perm l := by
  obtain ⟨l, hl, hxl⟩ := (I.mem x).2 hx
  have e : R.find? (fun l => l.contains x) = some l := by
    cases h : R.find? (fun l => l.contains x) with
    | none => exact absurd (by simpa using hxl) (List.find?_eq_none.1 h l hl)
    | some m => rw [I.one m (List.mem_of_find?_eq_some h) l hl x (by have := List.find?_some h; simpa using this) hxl]
  have e1 : allR R x = allIn l x := by unfold allR; rw [e]; rfl
  have hs := split_at hxl
  have hi := List.idxOf_lt_length_of_mem hxl
  have e2 : allIn l x = x :: (l.drop (l.idxOf x + 1) ++ l.take (l.idxOf x)) := by
    unfold allIn
    rw [List.drop_eq_getElem_cons hi, List.getElem_idxOf hi]; rfl
  have hp : (x :: (l.drop (l.idxOf x + 1) ++ l.take (l.idxOf x))).Perm l := by
    conv => rhs; rw [← hs]
    exact (List.perm_append_comm (l₁ := x :: l.drop (l.idxOf x + 1)) (l₂ := l.take (l.idxOf x)))
  refine ⟨_, e1.trans e2, ?_, hp.nodup_iff.2 (I.nodup l hl), l, hl, hxl, hp⟩
  have hb := I.by' l hl
  rw [← hs] at hb
  exact ring_rot hb
theorem RInv.none {x : Int} (hx : ¬ (0 ≤ x ∧ x < n)) : allR R x = [] := by
  have e : R.find? (fun l => l.contains x) = Option.none := by
    rw [List.find?_eq_none]
    intro l hl h
    exact hx ((I.mem x).1 ⟨l, hl, by simpa using h⟩)
  unfold allR; rw [e]; rfl
end
/-- What follows what, where x and y change what follows them. -/
def swapN (f : Int → Int) (x y : Int) : Int → Int := fun z => if z = x then f y else if z = y then f x else f z
theorem mem_withoutR {R : List (List Int)} {x y : Int} {l : List Int} : l ∈ withoutR R x y ↔ l ∈ R ∧ x ∉ l ∧ y ∉ l := by
  simp [withoutR, List.mem_filter]
theorem new_rings (n : Nat) : RInv n id ((List.range n).map fun i : Nat => [(i : Int)]) := by
  refine ⟨fun l hl => ?_, fun l hl => ?_, fun l hl m hm x hx hxm => ?_, fun x => ?_⟩
  · obtain ⟨i, _, rfl⟩ := List.mem_map.1 hl
    exact (rfl : path id (i : Int) [] i)
  · obtain ⟨i, _, rfl⟩ := List.mem_map.1 hl
    simp
  · obtain ⟨i, _, rfl⟩ := List.mem_map.1 hl
    obtain ⟨j, _, rfl⟩ := List.mem_map.1 hm
    simp only [List.mem_singleton] at hx hxm
    rw [← hx, ← hxm]
  · constructor
    · rintro ⟨l, hl, hx⟩
      obtain ⟨i, hi, rfl⟩ := List.mem_map.1 hl
      simp only [List.mem_singleton, List.mem_range] at hx hi
      omega
    · intro h
      exact ⟨[x], List.mem_map.2 ⟨x.toNat, List.mem_range.2 (by omega), by simp; omega⟩, by simp⟩
/-- Rings of which some go and others come. -/
theorem RInv.change {n : Nat} {f f' : Int → Int} {R N : List (List Int)} {x y : Int} (I : RInv n f R) (hx : 0 ≤ x ∧ x < n) (hy : 0 ≤ y ∧ y < n)
    (hf : ∀ l ∈ R, x ∉ l → y ∉ l → ∀ c ∈ l, f' c = f c) (hby : ∀ l ∈ N, ringBy f' l) (hnd : ∀ l ∈ N, l.Nodup) (hone : ∀ l ∈ N, ∀ m ∈ N, ∀ z, z ∈ l → z ∈ m → l = m)
    (hmem : ∀ z, (∃ l ∈ N, z ∈ l) ↔ z ∈ allR R x ∨ z ∈ allR R y) : RInv n f' (withoutR R x y ++ N) := by
  obtain ⟨s, es, _, _, lx, hlx, hxl, px⟩ := I.all hx
  obtain ⟨t, et, _, _, ly, hly, hyl, py⟩ := I.all hy
  rw [es, et] at hmem
  have hm : ∀ z, (∃ l ∈ N, z ∈ l) ↔ z ∈ lx ∨ z ∈ ly := fun z => by rw [hmem, px.mem_iff, py.mem_iff]
  have hapart : ∀ l ∈ withoutR R x y, ∀ m ∈ N, ∀ z, z ∈ l → z ∈ m → False := fun l hl m hmN z hz hzm => by
    obtain ⟨h1, h2, h3⟩ := mem_withoutR.1 hl
    rcases (hm z).1 ⟨m, hmN, hzm⟩ with h | h
    · exact h2 (I.one l h1 lx hlx z hz h ▸ hxl)
    · exact h3 (I.one l h1 ly hly z hz h ▸ hyl)
  refine ⟨fun l hl => ?_, fun l hl => ?_, fun l hl m hmm z hz hzm => ?_, fun z => ?_⟩
  · rcases List.mem_append.1 hl with h | h
    · obtain ⟨h1, h2, h3⟩ := mem_withoutR.1 h
      exact ring_congr (hf l h1 h2 h3) (I.by' l h1)
    · exact hby l h
  · rcases List.mem_append.1 hl with h | h
    · exact I.nodup l (mem_withoutR.1 h).1
    · exact hnd l h
  · rcases List.mem_append.1 hl with h | h <;> rcases List.mem_append.1 hmm with h2 | h2
    · exact I.one l (mem_withoutR.1 h).1 m (mem_withoutR.1 h2).1 z hz hzm
    · exact (hapart l h m h2 z hz hzm).elim
    · exact (hapart m h2 l h z hzm hz).elim
    · exact hone l h m h2 z hz hzm
  · rw [← I.mem z]
    constructor
    · rintro ⟨l, hl, hz⟩
      rcases List.mem_append.1 hl with h | h
      · exact ⟨l, (mem_withoutR.1 h).1, hz⟩
      · rcases (hm z).1 ⟨l, h, hz⟩ with h2 | h2
        · exact ⟨lx, hlx, h2⟩
        · exact ⟨ly, hly, h2⟩
    · rintro ⟨l, hl, hz⟩
      by_cases h1 : x ∈ l
      · obtain ⟨m, hmN, hzm⟩ := (hm z).2 (Or.inl (I.one l hl lx hlx x h1 hxl ▸ hz))
        exact ⟨m, List.mem_append.2 (Or.inr hmN), hzm⟩
      · by_cases h2 : y ∈ l
        · obtain ⟨m, hmN, hzm⟩ := (hm z).2 (Or.inr (I.one l hl ly hly y h2 hyl ▸ hz))
          exact ⟨m, List.mem_append.2 (Or.inr hmN), hzm⟩
        · exact ⟨l, List.mem_append.2 (Or.inl (mem_withoutR.2 ⟨hl, h1, h2⟩)), hz⟩
end Go.Proofs.Ytfngooaobjafjaa
