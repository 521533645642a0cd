/- Operations as lines, on lists and numbers alone: what the document asks of a record, its text, and two readers of it. -/
import Derived.Test.YtokfecbjkngpgaaDoorNum
namespace Go.Proofs.YtokfecbjkngpgaaDoor.Rec
open Go.Lib Go.Proofs.YtokfecbjkngpgaaDoor.Num

structure R where
  op : Int
  a : Int
  b : Int
  key : Int
deriving DecidableEq

def zero : R := ⟨0, 0, 0, 0⟩
def word : Nat → List UInt8
  | 0 => [98, 97, 100]
  | 1 => [110, 101, 119]
  | 2 => [105, 110, 115, 101, 114, 116]
  | 3 => [109, 105, 110]
  | 4 => [101, 120, 116, 114, 97, 99, 116]
  | 5 => [100, 101, 99, 114, 101, 97, 115, 101]
  | 6 => [100, 101, 108, 101, 116, 101]
  | 7 => [109, 101, 108, 100]
  | 8 => [108, 101, 110]
  | 9 => [107, 101, 121]
  | 10 => [104, 111, 109, 101]
  | _ => []
def hA (o : Nat) : Bool := decide (2 ≤ o)
def hB (o : Nat) : Bool := o == 5 || o == 6 || o == 7 || o == 9 || o == 10
def hK (o : Nat) : Bool := o == 2 || o == 5
def mk (o : Nat) : UInt8 := if o = 7 then 32 else 46
def cleanN (o : Nat) (r : R) : R := ⟨o, if hA o then r.a else 0, if hB o then r.b else 0, if hK o then r.key else 0⟩
def clean (r : R) : R := if 0 ≤ r.op ∧ r.op ≤ 10 then cleanN r.op.toNat r else zero
def right (r : R) : Bool := decide (clean r = r)
def txtN (o : Nat) (r : R) : List UInt8 := word o ++ ((if hA o then 32 :: itoa r.a else []) ++ ((if hB o then mk o :: itoa r.b else []) ++ (if hK o then 32 :: itoa r.key else [])))
def txt (r : R) : List UInt8 := if right r then txtN r.op.toNat r else []
def InR (r : R) : Prop := (0 ≤ r.a ∧ r.a < 4294967296) ∧ (0 ≤ r.b ∧ r.b < 4294967296) ∧ InI r.key

theorem clean_op {r : R} : 0 ≤ (clean r).op ∧ (clean r).op ≤ 10 := by
  unfold clean
  split
  · simp only [cleanN]; omega
  · simp [zero]
theorem clean_clean (r : R) : clean (clean r) = clean r := by
  rcases r with ⟨o, a, b, k⟩
  unfold clean
  by_cases h : 0 ≤ o ∧ o ≤ 10
  · simp only [if_pos h]
    have e : ((o.toNat : Nat) : Int) = o := by omega
    simp only [cleanN, e, if_pos h]
    congr 1 <;> (split <;> rfl)
  · simp only [if_neg h]
    rfl
theorem right_clean (r : R) : right (clean r) = true := by simp [right, clean_clean]
theorem right_iff {r : R} : right r = true ↔ clean r = r := by simp [right]
theorem clean_inR {r : R} (h : InR r) : InR (clean r) := by
  obtain ⟨h1, h2, h3⟩ := h
  unfold clean
  split
  · simp only [cleanN, InR]
    refine ⟨?_, ?_, ?_⟩ <;> split <;> (first | assumption | (constructor <;> omega))
  · exact ⟨by simp [zero], by simp [zero], by constructor <;> simp [zero]⟩

/-! ### Letters -/
theorem itoa_in (n : Int) : ∀ c ∈ itoa n, c = 45 ∨ (48 ≤ c.toNat ∧ c.toNat ≤ 57) := by
  intro c hc
  unfold itoa at hc
  split at hc
  · rcases List.mem_cons.1 hc with e | e
    · exact .inl e
    · exact .inr (dec_digit _ c e)
  · exact .inr (dec_digit _ c hc)
theorem itoa_no32 (n : Int) : (32 : UInt8) ∉ itoa n := fun h => by rcases itoa_in n 32 h with e | e <;> simp at e
theorem itoa_no46 (n : Int) : (46 : UInt8) ∉ itoa n := fun h => by rcases itoa_in n 46 h with e | e <;> simp at e
theorem itoa_ne (n : Int) : itoa n ≠ [] := by
  unfold itoa
  split
  · simp
  · exact decDigits_ne _
theorem mk_no (o : Nat) (n : Int) : mk o ∉ itoa n := by
  unfold mk
  split
  · exact itoa_no32 n
  · exact itoa_no46 n

/-! ### The first reader: cut once, read, write again -/
theorem index_at (c : UInt8) : ∀ (x y : List UInt8), c ∉ x → index (x ++ c :: y) [c] = (x.length : Int)
  | [], y, _ => by simp [index]
  | d :: x, y, h => by
    have hd : d ≠ c := fun e => h (by simp [e])
    have ih := index_at c x y (fun e => h (by simp [e]))
    have hp : ([c] : List UInt8).isPrefixOf (d :: (x ++ c :: y)) = false := by simp [List.isPrefixOf]; exact fun e => hd e.symm
    rw [List.cons_append, index, hp, ih]
    simp
theorem index_no (c : UInt8) : ∀ (x : List UInt8), c ∉ x → index x [c] = -1
  | [], _ => by simp [index]
  | d :: x, h => by
    have hd : d ≠ c := fun e => h (by simp [e])
    have ih := index_no c x (fun e => h (by simp [e]))
    have hp : ([c] : List UInt8).isPrefixOf (d :: x) = false := by simp [List.isPrefixOf]; exact fun e => hd e.symm
    rw [index, hp, ih]
    simp
theorem cut_at (c : UInt8) (x y : List UInt8) (h : c ∉ x) : cut (x ++ c :: y) [c] = (x, y, true) := by
  unfold cut
  rw [index_at c x y h, if_pos (by omega)]
  simp
theorem cut_no (c : UInt8) (x : List UInt8) (h : c ∉ x) : cut x [c] = (x, [], false) := by
  unfold cut
  rw [index_no c x h, if_neg (by omega)]

def low (l : List UInt8) : Int := (numE l).1 % 4294967296
def rd3 (o : Nat) (l : List UInt8) : R :=
  let x := if hK o then ((cut l [32]).1, (numE (cut l [32]).2.1).1) else (l, 0)
  let y := if hB o then ((cut x.1 [mk o]).1, low (cut x.1 [mk o]).2.1) else (x.1, 0)
  ⟨o, if hA o then low y.1 else 0, y.2, x.2⟩
def findW (l : List UInt8) : Option Nat := (List.range 11).find? fun o => word o == l
def bad : R × Int := (zero, 181)
def parE (l : List UInt8) : R × Int := match findW (cut l [32]).1 with
  | none => bad
  | some o => if txt (rd3 o (cut l [32]).2.1) = l then (rd3 o (cut l [32]).2.1, 0) else bad

theorem word_no32 : ∀ o, o ≤ 10 → (32 : UInt8) ∉ word o ∧ findW (word o) = some o ∧ word o ≠ [] := by decide
theorem numE_1 {n : Int} (h : InI n) : (numE (itoa n)).1 = n := by rw [numE_itoa h]
theorem low_itoa {n : Int} (h : 0 ≤ n ∧ n < 4294967296) : low (itoa n) = n := by
  unfold low
  rw [numE_1 (by constructor <;> omega)]
  omega
theorem txt_of {r : R} (h : right r = true) : txt r = txtN r.op.toNat r := by rw [txt, if_pos h]
theorem right_op {r : R} (h : right r = true) : 0 ≤ r.op ∧ r.op ≤ 10 := by
  rw [← right_iff.1 h]
  exact clean_op
theorem right_eq {r : R} (h : right r = true) : cleanN r.op.toNat r = r := by
  have h1 := right_iff.1 h
  rw [clean, if_pos (right_op h)] at h1
  exact h1

theorem rd3_clean (o : Nat) (ho : o ≤ 10) (l : List UInt8) : right (rd3 o l) = true := by
  rw [right_iff, clean, if_pos (by simp only [rd3]; omega)]
  unfold rd3 cleanN
  simp only [Int.toNat_natCast]
  congr 1
  · split <;> rfl
  · split <;> rfl
  · split <;> rfl
theorem cut_word (o : Nat) (ho : o ≤ 10) (t : List UInt8) : cut (word o ++ 32 :: t) [32] = (word o, t, true) := cut_at 32 _ _ (word_no32 o ho).1
theorem no32_pair (a b : Int) : (32 : UInt8) ∉ itoa a ++ 46 :: itoa b := by
  intro h
  rcases List.mem_append.1 h with h | h
  · exact itoa_no32 a h
  · rcases List.mem_cons.1 h with h | h
    · exact absurd h (by decide)
    · exact itoa_no32 b h

theorem rd3_text (o : Nat) (ho : o ≤ 10) (a b k : Int) (h : InR ⟨o, a, b, k⟩) :
    (cut (txtN o ⟨o, a, b, k⟩) [32]).1 = word o ∧ rd3 o (cut (txtN o ⟨o, a, b, k⟩) [32]).2.1 = cleanN o ⟨o, a, b, k⟩ := by
  obtain ⟨h1, h2, h3⟩ := h
  simp only at h1 h2 h3
  have l1 := low_itoa h1
  have l2 := low_itoa h2
  have l3 := numE_1 h3
  have n1 := itoa_no32 a
  have n3 := itoa_no32 b
  have n2 := itoa_no46 a
  have n4 := no32_pair a b
  by_cases hs : o = 0 ∨ o = 1
  · have e : txtN o ⟨o, a, b, k⟩ = word o := by rcases hs with rfl | rfl <;> simp [txtN, hA, hB, hK]
    rw [e, cut_no 32 _ (word_no32 o ho).1]
    refine ⟨rfl, ?_⟩
    rcases hs with rfl | rfl <;> rfl
  · obtain ⟨t, e⟩ : ∃ t, txtN o ⟨o, a, b, k⟩ = word o ++ 32 :: t ∧ t = itoa a ++ ((if hB o then mk o :: itoa b else []) ++ (if hK o then 32 :: itoa k else [])) := by
      refine ⟨_, ?_, rfl⟩
      simp only [txtN]
      rw [if_pos (by simp [hA]; omega)]
      simp
    obtain ⟨e, et⟩ := e
    rw [e, cut_word o ho]
    refine ⟨rfl, ?_⟩
    subst et
    simp only
    have ho' : o = 2 ∨ o = 3 ∨ o = 4 ∨ o = 5 ∨ o = 6 ∨ o = 7 ∨ o = 8 ∨ o = 9 ∨ o = 10 := by omega
    rcases ho' with rfl | rfl | rfl | rfl | rfl | rfl | rfl | rfl | rfl <;>
      simp [rd3, cleanN, hA, hB, hK, mk, l1, l2, l3, cut_at 32 (itoa a) _ n1, cut_at 46 (itoa a) _ n2]
    have e5 : itoa a ++ 46 :: (itoa b ++ 32 :: itoa k) = (itoa a ++ 46 :: itoa b) ++ 32 :: itoa k := by simp
    rw [e5, cut_at 32 _ _ n4]
    simp only
    rw [cut_at 46 (itoa a) _ n2]
    exact ⟨l1, l2, l3⟩

theorem parE_text {r : R} (h : right r = true) (hr : InR r) : parE (txt r) = (r, 0) := by
  have ho := right_op h
  have he := right_eq h
  rw [txt_of h]
  rcases r with ⟨o, a, b, k⟩
  simp only at ho he ⊢
  obtain ⟨n, rfl⟩ : ∃ n : Nat, o = (n : Int) := ⟨o.toNat, by omega⟩
  simp only [Int.toNat_natCast] at he ⊢
  obtain ⟨h1, h2⟩ := rd3_text n (by omega) a b k hr
  rw [he] at h2
  unfold parE
  rw [h1, (word_no32 n (by omega)).2.1]
  simp only [h2]
  rw [if_pos]
  rw [txt_of h]
  simp
theorem findW_le {l : List UInt8} {o : Nat} (h : findW l = some o) : o ≤ 10 ∧ word o = l := by
  unfold findW at h
  have h1 := List.mem_of_find?_eq_some h
  have h2 := List.find?_some h
  simp at h1 h2
  exact ⟨by omega, h2⟩
theorem numE_in (l : List UInt8) : InI (numE l).1 := by
  rcases numE_cases l with ⟨n, hn, _, e⟩ | e
  · rw [e]; exact hn
  · rw [e]; constructor <;> simp
theorem rd3_in (o : Nat) (l : List UInt8) : InR (rd3 o l) := by
  have hl : ∀ x, 0 ≤ low x ∧ low x < 4294967296 := fun x => by unfold low; omega
  have h0 : (0 : Int) ≤ 0 ∧ (0 : Int) < 4294967296 := by omega
  refine ⟨?_, ?_, ?_⟩
  · simp only [rd3]; split <;> first | exact hl _ | exact h0
  · simp only [rd3]; split <;> first | exact hl _ | exact h0
  · simp only [rd3]; split
    · exact numE_in _
    · constructor <;> simp
theorem parE_cases (l : List UInt8) : (∃ r, right r = true ∧ InR r ∧ txt r = l ∧ parE l = (r, 0)) ∨ parE l = bad := by
  unfold parE
  split
  · exact .inr rfl
  · rename_i o ho
    split
    · rename_i e
      exact .inl ⟨_, rd3_clean o (findW_le ho).1 _, rd3_in _ _, e, rfl⟩
    · exact .inr rfl
theorem txt_ne {r : R} (h : right r = true) : txt r ≠ [] := by
  rw [txt_of h]
  intro e
  have ho := right_op h
  have := (word_no32 r.op.toNat (by omega)).2.2
  simp only [txtN, List.append_eq_nil_iff] at e
  exact this e.1

/-! ### The document's reader: piece by piece -/
def splits (c : UInt8) : List UInt8 → List (List UInt8)
  | [] => [[]]
  | d :: l => if d = c then [] :: splits c l else match splits c l with
    | [] => [[d]]
    | x :: xs => (d :: x) :: xs
theorem splits_ne (c : UInt8) : ∀ l, splits c l ≠ []
  | [] => by simp [splits]
  | d :: l => by
    unfold splits
    split
    · simp
    · split <;> simp
theorem splits_join (c : UInt8) : ∀ (l : List UInt8) (x : List UInt8) (xs : List (List UInt8)), splits c l = x :: xs → l = x ++ xs.flatMap (c :: ·)
  | [], x, xs, h => by
    simp [splits] at h
    obtain ⟨rfl, rfl⟩ := h
    rfl
  | d :: l, x, xs, h => by
    unfold splits at h
    split at h
    · rename_i e
      injection h with h1 h2
      subst h1 h2 e
      rcases hs : splits d l with _ | ⟨y, ys⟩
      · exact absurd hs (splits_ne d l)
      · have := splits_join d l y ys hs
        simp [this]
    · split at h
      · rename_i hs
        exact absurd hs (splits_ne c l)
      · rename_i y ys hs
        injection h with h1 h2
        subst h1 h2
        have := splits_join c l y ys hs
        simp [this]
theorem splits_no (c : UInt8) : ∀ (l : List UInt8), c ∉ l → splits c l = [l]
  | [], _ => rfl
  | d :: l, h => by
    unfold splits
    rw [if_neg (fun e => h (by simp [e])), splits_no c l (fun e => h (by simp [e]))]
theorem splits_at (c : UInt8) : ∀ (x y : List UInt8), c ∉ x → splits c (x ++ c :: y) = x :: splits c y
  | [], y, _ => by simp [splits]
  | d :: x, y, h => by
    rw [List.cons_append, splits, if_neg (fun e => h (by simp [e])), splits_at c x y (fun e => h (by simp [e]))]
theorem splits_mem (c : UInt8) : ∀ (l : List UInt8), ∀ x ∈ splits c l, c ∉ x
  | [], x, h => by simp [splits] at h; subst h; simp
  | d :: l, x, h => by
    unfold splits at h
    split at h
    · rcases List.mem_cons.1 h with e | e
      · subst e; simp
      · exact splits_mem c l x e
    · rename_i hd
      split at h
      · rename_i hs
        exact absurd hs (splits_ne c l)
      · rename_i y ys hs
        rcases List.mem_cons.1 h with e | e
        · subst e
          have := splits_mem c l y (by rw [hs]; simp)
          simp [this]
          exact fun e => hd e.symm
        · exact splits_mem c l x (by rw [hs]; simp [e])

def small (l : List UInt8) : Int × Bool := if (numR l).2 = true ∧ 0 ≤ (numR l).1 ∧ (numR l).1 ≤ 4294967295 then ((numR l).1, true) else (0, false)
def has (o i : Nat) : Bool := if i = 0 then hA o else if i = 1 then hB o else hK o
def setI (i : Nat) (r : R) (l : List UInt8) : R := if i = 0 then { r with a := (small l).1 } else if i = 1 then { r with b := (small l).1 } else { r with key := (numR l).1 }
def okI (i : Nat) (l : List UInt8) : Bool := if i < 2 then (small l).2 else (numR l).2
/-- From the i-th number on: what is left to be read, and what was read. -/
def from3 (o : Nat) : Nat → Nat → R → List (List UInt8) → R × Int
  | 0, _, r, [] => (r, 0)
  | 0, _, _, _ :: _ => bad
  | n + 1, i, r, rest => if has o i = true then (match rest with
      | [] => bad
      | x :: t => if okI i x = true then from3 o n (i + 1) (setI i r x) t else bad) else from3 o n (i + 1) r rest
def handle (o : Nat) : Bool := hB o && o != 7
def pieces (o : Nat) (w : List (List UInt8)) : Option (List (List UInt8)) := match w with
  | [] => some []
  | x :: t => if handle o = true then (if (splits 46 x).length = 2 then some (splits 46 x ++ t) else none) else some (x :: t)
def parR (l : List UInt8) : R × Int := match splits 32 l with
  | [] => bad
  | w :: t => match findW w with
    | none => bad
    | some o => match pieces o t with
      | none => bad
      | some p => from3 o 3 0 ⟨o, 0, 0, 0⟩ p

theorem small_itoa {n : Int} (h : 0 ≤ n ∧ n < 4294967296) : small (itoa n) = (n, true) := by
  unfold small
  rw [numR_itoa (by constructor <;> omega)]
  rw [if_pos ⟨rfl, h.1, by simp only; omega⟩]
theorem small_cases (l : List UInt8) : (∃ n, (0 ≤ n ∧ n < 4294967296) ∧ l = itoa n ∧ small l = (n, true)) ∨ small l = (0, false) := by
  unfold small
  split
  · rename_i h
    rcases numR_cases l with ⟨n, hn, e, e'⟩ | e
    · rw [e'] at h ⊢
      exact .inl ⟨n, ⟨h.2.1, by have := h.2.2; simp only at this; omega⟩, e, rfl⟩
    · rw [e] at h; simp at h
  · exact .inr rfl

theorem parR_text {r : R} (h : right r = true) (hr : InR r) : parR (txt r) = (r, 0) := by
  have ho := right_op h
  have he := right_eq h
  rw [txt_of h]
  rcases r with ⟨o, a, b, k⟩
  simp only at ho he ⊢
  obtain ⟨n, rfl⟩ : ∃ n : Nat, o = (n : Int) := ⟨o.toNat, by omega⟩
  simp only [Int.toNat_natCast] at he ⊢
  obtain ⟨h1, h2, h3⟩ := hr
  simp only at h1 h2 h3
  suffices hh : parR (txtN n ⟨n, a, b, k⟩) = (cleanN n ⟨n, a, b, k⟩, 0) by rw [he] at hh; exact hh
  have s1 := small_itoa h1
  have s2 := small_itoa h2
  have s3 := numR_itoa h3
  have n1 := itoa_no32 a
  have n2 := itoa_no32 b
  have n3 := itoa_no32 k
  have m1 := itoa_no46 a
  have m2 := itoa_no46 b
  have m3 := no32_pair a b
  have hw := word_no32 n (by omega)
  by_cases hs : n = 0 ∨ n = 1
  · have e : txtN n ⟨n, a, b, k⟩ = word n := by rcases hs with rfl | rfl <;> simp [txtN, hA, hB, hK]
    unfold parR
    rw [e, splits_no 32 _ hw.1]
    simp only [hw.2.1]
    rcases hs with rfl | rfl <;> rfl
  · obtain ⟨t, e, et⟩ : ∃ t, txtN n ⟨n, a, b, k⟩ = word n ++ 32 :: t ∧ t = itoa a ++ ((if hB n then mk n :: itoa b else []) ++ (if hK n then 32 :: itoa k else [])) := by
      refine ⟨_, ?_, rfl⟩
      simp only [txtN]
      rw [if_pos (by simp [hA]; omega)]
      simp
    unfold parR
    rw [e, splits_at 32 _ _ hw.1]
    simp only [hw.2.1]
    subst et
    have ho' : n = 2 ∨ n = 3 ∨ n = 4 ∨ n = 5 ∨ n = 6 ∨ n = 7 ∨ n = 8 ∨ n = 9 ∨ n = 10 := by omega
    have p1 : itoa a ++ 46 :: (itoa b ++ 32 :: itoa k) = (itoa a ++ 46 :: itoa b) ++ 32 :: itoa k := by simp
    have hsp : splits 46 (itoa a ++ 46 :: itoa b) = [itoa a, itoa b] := by rw [splits_at 46 _ _ m1, splits_no 46 _ m2]
    have e5 : splits 32 (itoa a ++ 46 :: (itoa b ++ 32 :: itoa k)) = [itoa a ++ 46 :: itoa b, itoa k] := by rw [p1, splits_at 32 _ _ m3, splits_no 32 _ n3]
    rcases ho' with rfl | rfl | rfl | rfl | rfl | rfl | rfl | rfl | rfl <;>
      simp [hA, hB, hK, mk, e5, splits_at 32 (itoa a) _ n1, splits_no 32 _ n1, splits_no 32 _ n2, splits_no 32 _ n3, splits_at 32 _ _ m3, splits_no 32 _ m3, pieces, handle, hsp, from3, has, okI, setI, s1, s2, s3, cleanN]

theorem from3_has {o n i : Nat} {r q : R} {rest : List (List UInt8)} (hh : has o i = true) (h : from3 o (n + 1) i r rest = (q, 0)) : ∃ x t, rest = x :: t ∧ okI i x = true ∧ from3 o n (i + 1) (setI i r x) t = (q, 0) := by
  unfold from3 at h
  rw [if_pos hh] at h
  split at h
  · simp [bad] at h
  · rename_i x t
    split at h
    · rename_i hk
      exact ⟨x, t, rfl, hk, h⟩
    · simp [bad] at h
theorem from3_not {o n i : Nat} {r q : R} {rest : List (List UInt8)} (hh : has o i = false) (h : from3 o (n + 1) i r rest = (q, 0)) : from3 o n (i + 1) r rest = (q, 0) := by
  unfold from3 at h
  rw [if_neg (by rw [hh]; simp)] at h
  exact h
theorem from3_end {o i : Nat} {r q : R} {rest : List (List UInt8)} (h : from3 o 0 i r rest = (q, 0)) : rest = [] ∧ r = q := by
  cases rest with
  | nil => simp [from3] at h; exact ⟨rfl, h⟩
  | cons x t => simp [from3, bad] at h
theorem okI_small {i : Nat} {l : List UInt8} (hi : i < 2) (h : okI i l = true) : ∃ n, (0 ≤ n ∧ n < 4294967296) ∧ l = itoa n ∧ small l = (n, true) := by
  rw [okI, if_pos hi] at h
  rcases small_cases l with e | e
  · exact e
  · rw [e] at h; simp at h
theorem okI_num {l : List UInt8} (h : okI 2 l = true) : ∃ n, InI n ∧ l = itoa n ∧ numR l = (n, true) := by
  rw [okI, if_neg (by omega)] at h
  rcases numR_cases l with e | e
  · exact e
  · rw [e] at h; simp at h
/-- What is read of pieces, for any operation. -/
theorem from3_ok {o : Nat} {q : R} {p : List (List UInt8)} (h : from3 o 3 0 ⟨o, 0, 0, 0⟩ p = (q, 0)) :
    ∃ a b k : Int, InR ⟨o, a, b, k⟩ ∧ q = cleanN o ⟨o, a, b, k⟩ ∧ p = (if hA o then [itoa a] else []) ++ ((if hB o then [itoa b] else []) ++ (if hK o then [itoa k] else [])) := by
  have h0 : (0 : Int) ≤ 0 ∧ (0 : Int) < 4294967296 := by omega
  have hz : InI 0 := by constructor <;> omega
  obtain ⟨a, p1, ha, e1, g1⟩ : ∃ (a : Int) (p1 : List (List UInt8)), (0 ≤ a ∧ a < 4294967296) ∧ p = (if hA o then [itoa a] else []) ++ p1 ∧ from3 o 2 1 ⟨o, if hA o then a else 0, 0, 0⟩ p1 = (q, 0) := by
    cases hh : hA o with
    | false => exact ⟨0, p, h0, by simp, by simpa using from3_not (by rw [has, if_pos rfl]; exact hh) h⟩
    | true =>
      obtain ⟨x, t, rfl, hk, g⟩ := from3_has (by rw [has, if_pos rfl]; exact hh) h
      obtain ⟨n, hn, rfl, e⟩ := okI_small (by omega) hk
      exact ⟨n, t, hn, by simp, by simpa [setI, e] using g⟩
  obtain ⟨b, p2, hb, e2, g2⟩ : ∃ (b : Int) (p2 : List (List UInt8)), (0 ≤ b ∧ b < 4294967296) ∧ p1 = (if hB o then [itoa b] else []) ++ p2 ∧ from3 o 1 2 ⟨o, if hA o then a else 0, if hB o then b else 0, 0⟩ p2 = (q, 0) := by
    cases hh : hB o with
    | false => exact ⟨0, p1, h0, by simp, by simpa using from3_not (by rw [has, if_neg (by omega), if_pos rfl]; exact hh) g1⟩
    | true =>
      obtain ⟨x, t, rfl, hk, g⟩ := from3_has (by rw [has, if_neg (by omega), if_pos rfl]; exact hh) g1
      obtain ⟨n, hn, rfl, e⟩ := okI_small (by omega) hk
      exact ⟨n, t, hn, by simp, by simpa [setI, e] using g⟩
  obtain ⟨k, p3, hk, e3, g3⟩ : ∃ (k : Int) (p3 : List (List UInt8)), InI k ∧ p2 = (if hK o then [itoa k] else []) ++ p3 ∧ from3 o 0 3 ⟨o, if hA o then a else 0, if hB o then b else 0, if hK o then k else 0⟩ p3 = (q, 0) := by
    cases hh : hK o with
    | false => exact ⟨0, p2, hz, by simp, by simpa using from3_not (by rw [has, if_neg (by omega), if_neg (by omega)]; exact hh) g2⟩
    | true =>
      obtain ⟨x, t, rfl, hk, g⟩ := from3_has (by rw [has, if_neg (by omega), if_neg (by omega)]; exact hh) g2
      obtain ⟨n, hn, rfl, e⟩ := okI_num hk
      exact ⟨n, t, hn, by simp, by simpa [setI, e] using g⟩
  obtain ⟨rfl, rfl⟩ := from3_end g3
  refine ⟨a, b, k, ⟨ha, hb, hk⟩, rfl, ?_⟩
  rw [e1, e2, e3, List.append_nil]

theorem right_cleanN (o : Nat) (ho : o ≤ 10) (r : R) : right (cleanN o r) = true := by
  rw [right_iff, clean, if_pos (by simp only [cleanN]; omega)]
  simp only [cleanN, Int.toNat_natCast]
  congr 1 <;> (split <;> rfl)
theorem cleanN_in (o : Nat) {r : R} (h : InR r) : InR (cleanN o r) := by
  obtain ⟨h1, h2, h3⟩ := h
  simp only [cleanN, InR]
  refine ⟨?_, ?_, ?_⟩ <;> split <;> (first | assumption | (constructor <;> omega))
theorem txtN_clean (o : Nat) (r : R) : txtN o (cleanN o r) = txtN o r := by
  simp only [txtN, cleanN]
  congr 1
  congr 1
  · split <;> rfl
  · congr 1 <;> (split <;> rfl)

theorem parR_cases (l : List UInt8) : (∃ r, right r = true ∧ InR r ∧ txt r = l ∧ parR l = (r, 0)) ∨ parR l = bad := by
  rcases hp : parR l with ⟨q, e⟩
  by_cases he : e = 0
  · subst he
    left
    unfold parR at hp
    split at hp
    · simp [bad] at hp
    · rename_i w t hs
      have hj := splits_join 32 l w t hs
      split at hp
      · simp [bad] at hp
      · rename_i o ho
        obtain ⟨ho1, rfl⟩ := findW_le ho
        split at hp
        · simp [bad] at hp
        · rename_i p hpc
          obtain ⟨a, b, k, hin, rfl, ep⟩ := from3_ok hp
          refine ⟨_, right_cleanN o ho1 _, cleanN_in o hin, ?_, rfl⟩
          rw [txt_of (right_cleanN o ho1 _)]
          simp only [cleanN, Int.toNat_natCast]
          have := txtN_clean o ⟨o, a, b, k⟩
          simp only [cleanN] at this
          rw [this, hj]
          have ho' : o = 0 ∨ o = 1 ∨ o = 2 ∨ o = 3 ∨ o = 4 ∨ o = 5 ∨ o = 6 ∨ o = 7 ∨ o = 8 ∨ o = 9 ∨ o = 10 := by omega
          cases hh : handle o with
          | false =>
            have et : t = p := by
              unfold pieces at hpc
              split at hpc
              · simpa using hpc
              · rw [if_neg (by rw [hh]; simp)] at hpc
                simpa using hpc
            subst et
            rw [ep]
            rcases ho' with rfl | rfl | rfl | rfl | rfl | rfl | rfl | rfl | rfl | rfl | rfl <;> first | (exfalso; revert hh; decide) | (simp [txtN, hA, hB, hK, mk])
          | true =>
            unfold pieces at hpc
            split at hpc
            · injection hpc with hpc
              subst hpc
              exfalso
              rcases ho' with rfl | rfl | rfl | rfl | rfl | rfl | rfl | rfl | rfl | rfl | rfl <;> first | (exfalso; revert hh; decide) | (simp [hA, hB, hK] at ep)
            · rename_i x t'
              rw [if_pos hh] at hpc
              split at hpc
              · rename_i hl
                injection hpc with hpc
                rcases hx : splits 46 x with _ | ⟨y, _ | ⟨z, _ | ⟨u, v⟩⟩⟩
                · rw [hx] at hl; simp at hl
                · rw [hx] at hl; simp at hl
                · have hjx := splits_join 46 x y [z] hx
                  rw [hx] at hpc
                  rw [← hpc] at ep
                  rcases ho' with rfl | rfl | rfl | rfl | rfl | rfl | rfl | rfl | rfl | rfl | rfl <;> first | (exfalso; revert hh; decide) | (simp [hA, hB, hK] at ep; obtain ⟨rfl, rfl, rfl⟩ := ep; simp [txtN, hA, hB, hK, mk, hjx])
                · rw [hx] at hl; simp at hl
              · cases hpc
  · right
    rw [← hp]
    unfold parR at hp ⊢
    split at hp
    · rfl
    · split at hp
      · rename_i h2
        simp only [h2]
      · rename_i o ho
        split at hp
        · rename_i h3
          simp only [ho, h3]
        · rename_i p h3
          have hb : ∀ n i r p, (∃ q, from3 o n i r p = (q, 0)) ∨ from3 o n i r p = bad := by
            intro n
            induction n with
            | zero => intro i r p; cases p with
              | nil => exact .inl ⟨r, rfl⟩
              | cons x t => exact .inr rfl
            | succ n ih =>
              intro i r p
              unfold from3
              split
              · split
                · exact .inr rfl
                · split
                  · exact ih _ _ _
                  · exact .inr rfl
              · exact ih _ _ _
          rcases hb 3 0 ⟨o, 0, 0, 0⟩ p with ⟨q', hq⟩ | hq
          · rw [hq] at hp
            simp at hp
            exact absurd hp.2.symm he
          · rw [hq]
theorem par_same (l : List UInt8) : parE l = parR l := by
  rcases parE_cases l with ⟨r, h1, h2, h3, h4⟩ | h
  · rw [h4, ← h3, parR_text h1 h2]
  · rcases parR_cases l with ⟨r, h1, h2, h3, h4⟩ | h'
    · rw [← h3, parE_text h1 h2] at h
      simp [bad] at h
    · rw [h, h']
end Go.Proofs.YtokfecbjkngpgaaDoor.Rec
