/- Decimal numerals as lists of letters, and how they are read: facts on lists and numbers alone, no program. -/
import Derived.Lib.ItoaNum
import Derived.Lib.ItoaLen
import Derived.Lib.ParseIntB
import Derived.Lib.ParseIntBCases
import Derived.Lib.ParseIntBTie
import Derived.Lib.IndexMore
namespace Go.Proofs.YtokfecbjkngpgaaDoor.Num
open Go.Lib

/-! ### Round trip through the library's reader -/
theorem dig_toNat (d : Nat) (h : d < 10) : (UInt8.ofNat (48 + d)).toNat = 48 + d := by rw [UInt8.toNat_ofNat']; omega

theorem parseM_append (M : Nat) : ∀ (l1 l2 : List UInt8) (acc : Nat), (∃ a, parseUintM M acc l1 = .ok a ∧ parseUintM M acc (l1 ++ l2) = parseUintM M a l2) ∨ (parseUintM M acc l1 ≠ .ok 0 ∧ ∀ a, parseUintM M acc l1 ≠ .ok a)
  | [], l2, acc => .inl ⟨acc, rfl, rfl⟩
  | c :: r, l2, acc => by
    simp only [List.cons_append, parseUintM]
    split
    · split
      · exact .inr ⟨by simp, by simp⟩
      · split
        · exact .inr ⟨by simp, by simp⟩
        · exact parseM_append M r l2 _
    · exact .inr ⟨by simp, by simp⟩

theorem parseM_dec (M : Nat) (hM : M ≤ 18446744073709551615) (u : Nat) (hu : u ≤ M) : parseUintM M 0 (decDigits u) = .ok u := by
  induction u using Nat.strongRecOn with
  | _ u ih =>
    rw [decDigits]
    split
    · rename_i h
      simp only [parseUintM, dig_toNat u h]
      rw [if_pos (by omega), if_neg (by omega), if_neg (by omega)]
      congr 1
      omega
    · rename_i h
      have i1 := ih (u / 10) (by omega) (by omega)
      rcases parseM_append M (decDigits (u / 10)) [UInt8.ofNat (48 + u % 10)] 0 with ⟨a, h1, h2⟩ | ⟨_, h2⟩
      · rw [i1] at h1
        injection h1 with h1
        subst h1
        rw [h2]
        simp only [parseUintM, dig_toNat (u % 10) (by omega)]
        rw [if_pos (by omega), if_neg (by omega), if_neg (by omega)]
        congr 1
        omega
      · exact absurd i1 (h2 _)

theorem decDigits_ne (u : Nat) : decDigits u ≠ [] := by
  have h1 := decDigits_length u
  have h2 := nDigits_pos u
  intro h
  rw [h] at h1
  simp at h1
  omega

theorem parseU_dec (u : Nat) (hu : u ≤ 18446744073709551615) : parseUintB 64 (decDigits u) = .ok u := by
  unfold parseUintB
  rw [if_neg (decDigits_ne u)]
  exact parseM_dec _ (by omega) u (by omega)

/-- Every letter of a numeral is a digit. -/
theorem dec_digit (u : Nat) : ∀ c ∈ decDigits u, 48 ≤ c.toNat ∧ c.toNat ≤ 57 := by
  induction u using Nat.strongRecOn with
  | _ u ih =>
    rw [decDigits]
    split
    · rename_i h
      intro c hc
      simp only [List.mem_singleton] at hc
      subst hc
      rw [dig_toNat u h]
      omega
    · rename_i h
      intro c hc
      rcases List.mem_append.1 hc with hc | hc
      · exact ih (u / 10) (by omega) c hc
      · simp only [List.mem_singleton] at hc
        subst hc
        rw [dig_toNat _ (by omega)]
        omega

theorem parseI_itoa (n : Int) (h0 : -9223372036854775808 ≤ n) (h1 : n ≤ 9223372036854775807) : parseIntB 64 (itoa n) = .ok n := by
  unfold itoa
  split
  · rename_i h
    rw [parseIntB_minus, parseU_dec _ (by omega)]
    simp only [signedC]
    rw [if_neg (by omega)]
    congr 1
    omega
  · rename_i h
    have hp := parseU_dec n.toNat (by omega)
    have hd := dec_digit n.toNat
    cases hl : decDigits n.toNat with
    | nil => exact absurd hl (decDigits_ne _)
    | cons c r =>
      rw [hl] at hp hd
      have := hd c (by simp)
      rw [parseIntB_plain 64 c r (by omega) (by omega), hp]
      simp only [signlessC]
      rw [if_neg (by omega)]
      congr 1
      omega

theorem itoa_inj {a b : Int} (ha : -9223372036854775808 ≤ a ∧ a ≤ 9223372036854775807) (hb : -9223372036854775808 ≤ b ∧ b ≤ 9223372036854775807) (h : itoa a = itoa b) : a = b := by
  have h1 := parseI_itoa a ha.1 ha.2
  rw [h, parseI_itoa b hb.1 hb.2] at h1
  injection h1 with h1
  exact h1.symm
theorem dec_inj {a b : Nat} (ha : a ≤ 18446744073709551615) (hb : b ≤ 18446744073709551615) (h : decDigits a = decDigits b) : a = b := by
  have h1 := parseU_dec a ha
  rw [h, parseU_dec b hb] at h1
  injection h1 with h1
  exact h1.symm

/-! ### The document's reader of digits -/
def rdLoop (most : Nat) : List UInt8 → Nat → Option Nat
  | [], n => some n
  | c :: r, n => if 48 ≤ c.toNat ∧ c.toNat ≤ 57 then (if (most - (c.toNat - 48)) / 10 < n then none else rdLoop most r (n * 10 + (c.toNat - 48))) else none
def rd (most : Nat) (l : List UInt8) : Nat × Bool :=
  if l = [] ∨ 20 < l.length ∨ (1 < l.length ∧ l.head? = some 48) then (0, false) else match rdLoop most l 0 with
    | some n => (n, true)
    | none => (0, false)

theorem byte_of (c : UInt8) (d : Nat) (h : c.toNat = 48 + d) : c = UInt8.ofNat (48 + d) := by
  rw [← h]; simp

theorem dec_snoc (n d : Nat) (hn : 1 ≤ n) (hd : d < 10) : decDigits (n * 10 + d) = decDigits n ++ [UInt8.ofNat (48 + d)] := by
  rw [decDigits, dif_neg (by omega), show (n * 10 + d) / 10 = n by omega, show (n * 10 + d) % 10 = d by omega]

theorem rdLoop_some (most : Nat) (h9 : 9 ≤ most) : ∀ (r : List UInt8) (n u : Nat), 1 ≤ n → n ≤ most → rdLoop most r n = some u → decDigits u = decDigits n ++ r ∧ u ≤ most
  | [], n, u, _, h, e => by
    simp only [rdLoop, Option.some.injEq] at e
    subst e
    exact ⟨by simp, h⟩
  | c :: r, n, u, h1, h, e => by
    simp only [rdLoop] at e
    split at e
    · rename_i hc
      split at e
      · cases e
      · rename_i hn
        obtain ⟨d, hd⟩ : ∃ d, c.toNat = 48 + d := ⟨c.toNat - 48, by omega⟩
        rw [show c.toNat - 48 = d by omega] at e hn
        have := rdLoop_some most h9 r (n * 10 + d) u (by omega) (by omega) e
        rw [dec_snoc n d h1 (by omega), ← byte_of c d hd] at this
        exact ⟨by rw [this.1]; simp, this.2⟩
    · cases e

theorem dec_head {u : Nat} (h : 1 ≤ u) : (decDigits u).head? ≠ some 48 := by
  induction u using Nat.strongRecOn with
  | _ u ih =>
    rw [decDigits]
    split
    · rename_i hs
      simp only [List.head?_cons, ne_eq, Option.some.injEq]
      intro e
      have := dig_toNat u hs
      rw [e] at this
      simp at this
      omega
    · rename_i hs
      rw [List.head?_append]
      have hi := ih (u / 10) (by omega) (by omega)
      cases hl : (decDigits (u / 10)).head? with
      | none => rw [List.head?_eq_none_iff] at hl; exact absurd hl (decDigits_ne _)
      | some c => rw [hl] at hi; simpa using hi

theorem rdLoop_dec (most : Nat) (h9 : 9 ≤ most) (u : Nat) (hu : u ≤ most) : ∀ r, rdLoop most (decDigits u ++ r) 0 = rdLoop most r u := by
  induction u using Nat.strongRecOn with
  | _ u ih =>
    intro r
    rw [decDigits]
    split
    · rename_i h
      simp only [List.cons_append, List.nil_append, rdLoop, dig_toNat u h]
      rw [if_pos (by omega), if_neg (by omega)]
      congr 1
      omega
    · rename_i h
      rw [List.append_assoc, ih (u / 10) (by omega) (by omega)]
      simp only [List.cons_append, List.nil_append, rdLoop, dig_toNat (u % 10) (by omega)]
      rw [if_pos (by omega), if_neg (by omega)]
      congr 1
      omega

theorem rd_dec (most : Nat) (h9 : 9 ≤ most) (hm : most ≤ 18446744073709551615) (u : Nat) (hu : u ≤ most) : rd most (decDigits u) = (u, true) := by
  unfold rd
  rw [if_neg ?_]
  · have := rdLoop_dec most h9 u hu []
    rw [List.append_nil] at this
    rw [this]
    rfl
  · intro h
    rcases h with h | h | ⟨h, h'⟩
    · exact decDigits_ne _ h
    · have := nDigits_le20 u (by omega)
      rw [decDigits_length] at h
      omega
    · rcases Nat.eq_zero_or_pos u with e | e
      · subst e
        simp [decDigits] at h
      · exact dec_head e h'

theorem rd_cases (most : Nat) (h9 : 9 ≤ most) (l : List UInt8) : (∃ u, u ≤ most ∧ l = decDigits u ∧ rd most l = (u, true)) ∨ (rd most l = (0, false) ∧ (most ≤ 18446744073709551615 → ∀ u, u ≤ most → l ≠ decDigits u)) := by
  have key : ∀ u, rd most l = (u, true) → u ≤ most ∧ l = decDigits u := by
    intro u h
    unfold rd at h
    split at h
    · cases h
    · rename_i hne
      split at h
      · rename_i n hn
        injection h with h1 _
        subst h1
        cases l with
        | nil => simp at hne
        | cons c r =>
          simp only [rdLoop] at hn
          split at hn
          · rename_i hc
            rw [if_neg (by omega)] at hn
            obtain ⟨d, hd⟩ : ∃ d, c.toNat = 48 + d := ⟨c.toNat - 48, by omega⟩
            rw [show 0 * 10 + (c.toNat - 48) = d by omega] at hn
            have e1 : decDigits d = [c] := by rw [decDigits, dif_pos (by omega), ← byte_of c d hd]
            rcases Nat.eq_zero_or_pos d with e | e
            · subst e
              have : r = [] := by
                cases r with
                | nil => rfl
                | cons x y =>
                  exfalso
                  apply hne
                  right; right
                  refine ⟨by simp, ?_⟩
                  rw [List.head?_cons, byte_of c 0 hd]
                  rfl
              subst this
              simp only [rdLoop, Option.some.injEq] at hn
              subst hn
              exact ⟨by omega, e1.symm⟩
            · have := rdLoop_some most h9 r d n e (by omega) hn
              rw [e1] at this
              exact ⟨this.2, by rw [this.1]; simp⟩
          · cases hn
      · cases h
  rcases hr : rd most l with ⟨u, b⟩
  cases b with
  | true =>
    have := key u hr
    exact .inl ⟨u, this.1, this.2, rfl⟩
  | false =>
    right
    refine ⟨?_, fun hm u hu hl => ?_⟩
    · unfold rd at hr
      split at hr
      · exact hr.symm
      · split at hr
        · cases hr
        · exact hr.symm
    · rw [hl, rd_dec most h9 hm u hu] at hr
      cases hr

/-! ### Both readers of a number -/
def numE (l : List UInt8) : Int × Bool := match parseIntB 64 l with
  | .ok v => if itoa v = l then (v, true) else (0, false)
  | _ => (0, false)
def seqE (l : List UInt8) : Nat × Bool := match parseUintB 64 l with
  | .ok u => if decDigits u = l then (u, true) else (0, false)
  | _ => (0, false)
def least : List UInt8 := itoa (-9223372036854775808)
def numR (l : List UInt8) : Int × Bool :=
  if l = least then (-9223372036854775808, true)
  else if l.head? = some 45 then (if (rd 9223372036854775807 l.tail).2 = false ∨ (rd 9223372036854775807 l.tail).1 = 0 then (0, false) else (-((rd 9223372036854775807 l.tail).1 : Int), true))
  else (((rd 9223372036854775807 l).1 : Int), (rd 9223372036854775807 l).2)

abbrev InI (n : Int) : Prop := -9223372036854775808 ≤ n ∧ n ≤ 9223372036854775807

theorem numE_itoa {n : Int} (h : InI n) : numE (itoa n) = (n, true) := by
  unfold numE
  rw [parseI_itoa n h.1 h.2]
  simp
theorem numE_cases (l : List UInt8) : (∃ n, InI n ∧ l = itoa n ∧ numE l = (n, true)) ∨ numE l = (0, false) := by
  unfold numE
  split
  · rename_i v hv
    have hb := parseIntB_bounds hv
    split
    · rename_i e
      exact .inl ⟨v, by constructor <;> omega, e.symm, rfl⟩
    · exact .inr rfl
  · exact .inr rfl

theorem head_dec (u : Nat) : (decDigits u).head? ≠ some 45 := by
  intro h
  have := List.mem_of_mem_head? (Option.mem_def.2 h)
  have := dec_digit u 45 this
  simp at this

theorem numR_itoa {n : Int} (h : InI n) : numR (itoa n) = (n, true) := by
  unfold numR
  by_cases he : n = -9223372036854775808
  · subst he
    have e0 : itoa (-9223372036854775808) = least := rfl
    rw [if_pos e0]
  · rw [if_neg (show ¬ itoa n = least from fun e => he (itoa_inj h (by constructor <;> omega) e))]
    by_cases hn : n < 0
    · have e : itoa n = 45 :: decDigits n.natAbs := by unfold itoa; rw [if_pos hn]
      rw [e, List.head?_cons, if_pos rfl, List.tail_cons, rd_dec _ (by omega) (by omega) _ (by omega)]
      rw [if_neg (by simp; omega)]
      congr 1
      simp
      omega
    · have e : itoa n = decDigits n.toNat := by unfold itoa; rw [if_neg hn]
      rw [e, if_neg (head_dec _), rd_dec _ (by omega) (by omega) _ (by omega)]
      congr 1
      simp
      omega
theorem numR_cases (l : List UInt8) : (∃ n, InI n ∧ l = itoa n ∧ numR l = (n, true)) ∨ numR l = (0, false) := by
  unfold numR
  split
  · rename_i h
    exact .inl ⟨_, by constructor <;> omega, h, rfl⟩
  · split
    · rename_i h
      obtain ⟨r, rfl⟩ : ∃ r, l = 45 :: r := by
        cases l with
        | nil => cases h
        | cons c r => simp at h; exact ⟨r, by rw [h]⟩
      rw [List.tail_cons]
      rcases rd_cases 9223372036854775807 (by omega) r with ⟨u, hu, hr, he⟩ | ⟨he, _⟩
      · rw [he]
        split
        · exact .inr rfl
        · rename_i hx
          simp at hx
          refine .inl ⟨_, by constructor <;> omega, ?_, rfl⟩
          unfold itoa
          rw [if_pos (by omega), hr]
          simp
      · rw [he]
        exact .inr (by simp)
    · rcases rd_cases 9223372036854775807 (by omega) l with ⟨u, hu, hr, he⟩ | ⟨he, _⟩
      · rw [he]
        refine .inl ⟨(u : Int), by constructor <;> omega, ?_, rfl⟩
        unfold itoa
        rw [if_neg (by omega), hr]
        simp
      · rw [he]
        exact .inr rfl

theorem num_same (l : List UInt8) : numE l = numR l := by
  rcases numE_cases l with ⟨n, h, rfl, e⟩ | e
  · rw [numR_itoa h, e]
  · rcases numR_cases l with ⟨n, h, rfl, e'⟩ | e'
    · rw [numE_itoa h] at e; cases e
    · rw [e, e']

theorem seqE_dec {u : Nat} (h : u ≤ 18446744073709551615) : seqE (decDigits u) = (u, true) := by
  unfold seqE
  rw [parseU_dec u h]
  simp
theorem seqE_cases (l : List UInt8) : (∃ u, u ≤ 18446744073709551615 ∧ l = decDigits u ∧ seqE l = (u, true)) ∨ seqE l = (0, false) := by
  unfold seqE
  split
  · rename_i v hv
    have hb := parseUintB_le hv
    split
    · rename_i e
      exact .inl ⟨v, by omega, e.symm, rfl⟩
    · exact .inr rfl
  · exact .inr rfl
theorem seq_same (l : List UInt8) : seqE l = rd 18446744073709551615 l := by
  rcases seqE_cases l with ⟨n, h, rfl, e⟩ | e
  · rw [rd_dec _ (by omega) (by omega) _ h, e]
  · rcases rd_cases 18446744073709551615 (by omega) l with ⟨u, hu, rfl, _⟩ | ⟨e', _⟩
    · rw [seqE_dec hu] at e; cases e
    · rw [e, e']

/-! ### Both readers of an entry -/
def split35 : List UInt8 → Option (List UInt8 × List UInt8)
  | [] => none
  | c :: r => if c = 35 then some ([], r) else (split35 r).map fun x => (c :: x.1, x.2)

theorem cut_split : ∀ l : List UInt8, cut l [35] = match split35 l with | some (a, b) => (a, b, true) | none => (l, [], false)
  | [] => by simp [cut, index, split35]
  | c :: r => by
    have ih := cut_split r
    unfold cut at *
    simp only [split35]
    by_cases hc : c = 35
    · subst hc
      simp [index]
    · have hp : ([35] : List UInt8).isPrefixOf (c :: r) = false := by simp [List.isPrefixOf]; exact fun e => hc e.symm
      have hix : index (c :: r) [35] = if index r [35] = -1 then -1 else index r [35] + 1 := by simp [index, hp]
      rw [hix, if_neg hc]
      have hge := index_ge r [35]
      by_cases hi : index r [35] = -1
      · rw [hi] at ih
        rw [if_pos hi]
        simp at ih ⊢
        cases hs : split35 r with
        | none => simp
        | some x => rw [hs] at ih; simp at ih
      · have h0 : 0 ≤ index r [35] := by omega
        rw [if_pos h0] at ih
        rw [if_neg hi, if_pos (by omega)]
        cases hs : split35 r with
        | none => rw [hs] at ih; simp at ih
        | some x =>
          rw [hs] at ih
          simp only [Prod.mk.injEq, and_true] at ih
          obtain ⟨k, hk⟩ : ∃ k : Nat, index r [35] = k := ⟨(index r [35]).toNat, by omega⟩
          rw [hk] at ih ⊢
          have e1 : ((k : Int) + 1).toNat = k + 1 := by omega
          rw [e1]
          simp only [Int.toNat_natCast, List.length_singleton] at ih
          simp [List.take_succ_cons, ih.1, ih.2]

abbrev Res := (Int × Nat) × Int
def bad : Res := ((0, 0), 11)
def parE (l : List UInt8) : Res := if (numE (cut l [35]).1).2 = true ∧ (seqE (cut l [35]).2.1).2 = true then (((numE (cut l [35]).1).1, (seqE (cut l [35]).2.1).1), 0) else bad
def parR (pre : List UInt8) : List UInt8 → Res
  | [] => bad
  | c :: r => if c = 35 then (if (numR pre).2 = true ∧ (rd 18446744073709551615 r).2 = true then (((numR pre).1, (rd 18446744073709551615 r).1), 0) else parR (pre ++ [c]) r) else parR (pre ++ [c]) r

theorem itoa_no35 (n : Int) : (35 : UInt8) ∉ itoa n := by
  intro h
  have h35 : (35 : UInt8).toNat = 35 := rfl
  unfold itoa at h
  split at h
  · rcases List.mem_cons.1 h with h | h
    · cases h
    · have := dec_digit _ _ h; omega
  · have := dec_digit _ _ h; omega

theorem parR_has35 : ∀ (r pre : List UInt8), (35 : UInt8) ∈ pre → parR pre r = bad
  | [], _, _ => rfl
  | c :: r, pre, h => by
    have hn : (numR pre).2 = false := by
      rcases numR_cases pre with ⟨n, _, e, _⟩ | e
      · rw [e] at h; exact absurd h (itoa_no35 n)
      · rw [e]
    have hr := parR_has35 r (pre ++ [c]) (List.mem_append_left _ h)
    simp only [parR, hn, hr]
    simp

theorem parR_split : ∀ (r pre : List UInt8), parR pre r = match split35 r with
    | none => bad
    | some (a, b) => if (numR (pre ++ a)).2 = true ∧ (rd 18446744073709551615 b).2 = true then (((numR (pre ++ a)).1, (rd 18446744073709551615 b).1), 0) else bad
  | [], pre => rfl
  | c :: r, pre => by
    simp only [parR, split35]
    by_cases hc : c = 35
    · rw [if_pos hc, if_pos hc]
      simp only [List.append_nil]
      rw [parR_has35 r (pre ++ [c]) (by simp [hc])]
    · rw [if_neg hc, if_neg hc, parR_split r (pre ++ [c])]
      cases split35 r with
      | none => rfl
      | some x => simp

theorem parse_same (l : List UInt8) : parE l = parR [] l := by
  rw [parR_split]
  unfold parE
  rw [cut_split]
  cases split35 l with
  | none => simp [seqE, parseUintB]
  | some x => simp [num_same, seq_same]

/-- An entry's text comes back. -/
theorem parE_text (k : Int) (s : Nat) (hk : InI k) (hs : s ≤ 18446744073709551615) : parE (itoa k ++ 35 :: decDigits s) = ((k, s), 0) := by
  have hsp : ∀ (a b : List UInt8), (35 : UInt8) ∉ a → split35 (a ++ 35 :: b) = some (a, b) := by
    intro a
    induction a with
    | nil => intro b _; simp [split35]
    | cons c r ih =>
      intro b h
      simp only [List.mem_cons, not_or] at h
      simp only [List.cons_append, split35, if_neg (fun e => h.1 (Eq.symm e)), ih b h.2, Option.map_some]
  unfold parE
  rw [cut_split, hsp _ _ (itoa_no35 k)]
  simp [numE_itoa hk, seqE_dec hs]

/-- What is read is written so. -/
theorem parE_back (l : List UInt8) (k : Int) (s : Nat) (e : Int) (h : parE l = ((k, s), e)) : (e = 0 ∧ InI k ∧ s ≤ 18446744073709551615 ∧ l = itoa k ++ 35 :: decDigits s) ∨ (e = 11 ∧ k = 0 ∧ s = 0) := by
  unfold parE at h
  rw [cut_split] at h
  have hsp : ∀ (l a b : List UInt8), split35 l = some (a, b) → l = a ++ 35 :: b := by
    intro l
    induction l with
    | nil => intro a b h; cases h
    | cons c r ih =>
      intro a b h
      simp only [split35] at h
      split at h
      · rename_i hc
        simp only [Option.some.injEq, Prod.mk.injEq] at h
        rw [← h.1, ← h.2, hc]
        rfl
      · simp only [Option.map_eq_some_iff, Prod.mk.injEq] at h
        obtain ⟨x, hx, h1, h2⟩ := h
        rw [ih x.1 x.2 hx, ← h1, h2]
        rfl
  cases hs : split35 l with
  | none =>
    rw [hs] at h
    simp [seqE, parseUintB, bad] at h
    right
    exact ⟨h.2.symm, h.1.1.symm, h.1.2.symm⟩
  | some x =>
    rw [hs] at h
    simp only at h
    split at h
    · rename_i hh
      rcases numE_cases x.1 with ⟨n, hn, e1, e2⟩ | e2
      · rcases seqE_cases x.2 with ⟨u, hu, e3, e4⟩ | e4
        · rw [e2, e4] at h
          injection h with h1 h2
          injection h1 with h3 h4
          simp only at h3 h4
          left
          subst h3 h4
          refine ⟨h2.symm, hn, hu, ?_⟩
          rw [hsp l x.1 x.2 hs, ← e1, ← e3]
        · rw [e4] at hh; simp at hh
      · rw [e2] at hh; simp at hh
    · right
      unfold bad at h
      injection h with h1 h2
      injection h1 with h3 h4
      exact ⟨h2.symm, h3.symm, h4.symm⟩
end Go.Proofs.YtokfecbjkngpgaaDoor.Num
