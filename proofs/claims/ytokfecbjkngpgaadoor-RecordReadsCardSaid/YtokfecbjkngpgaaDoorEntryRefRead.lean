/- The document's readers of a number and of an entry return what 'numR' and 'parR' say of a text's letters; of what was in memory nothing is changed. -/
import Derived.Test.YtokfecbjkngpgaaDoorEntryRead
import Derived.Test.YtokfecbjkngpgaaDoorEntryRefText
import Derived.Lib.IndexBytes
namespace Go.Proofs.YtokfecbjkngpgaaDoor
open Go.RowKit Go.Sort Go.Lib

theorem rd_bad_len (most : Nat) {s : ByteArray} (h : 20 < s.size) : Num.rd most s.data.toList = (0, false) := by
  unfold Num.rd
  rw [if_pos (.inr (.inl h))]
theorem head_of {s : ByteArray} (h : 0 < s.size) : s.data.toList.head? = some s[0] := by
  have : s.data.toList[0]? = some s[0] := by rw [Array.getElem?_toList]; exact Array.getElem?_eq_getElem h
  rw [← this, List.head?_eq_getElem?]
theorem drop_at {s : ByteArray} {k : Nat} (h : k < s.size) : s.data.toList.drop k = s[k] :: s.data.toList.drop (k + 1) := by
  rw [List.drop_eq_getElem_cons (by simpa using h)]; rfl
theorem rd_loop {most : Nat} {s : ByteArray} (h0 : 0 < s.size) (h20 : s.size ≤ 20) (hz : ¬ (1 < s.size ∧ s[0] = 48)) :
    Num.rd most s.data.toList = match Num.rdLoop most s.data.toList 0 with | some n => (n, true) | none => (0, false) := by
  unfold Num.rd
  have hn : ¬ (s.data.toList = [] ∨ 20 < s.data.toList.length ∨ (1 < s.data.toList.length ∧ s.data.toList.head? = some 48)) := by
   intro h
   rcases h with h | h | ⟨h, h'⟩
   · have : s.data.toList.length = 0 := by rw [h]; rfl
     have e : s.data.toList.length = s.size := rfl
     omega
   · exact absurd h20 (Nat.not_le.2 h)
   · rw [head_of h0] at h'
     exact hz ⟨h, Option.some.inj h'⟩
  rw [if_neg hn]
  cases Num.rdLoop most s.data.toList 0 <;> rfl

def DigRel (most : Nat) (s : ByteArray) (nv iv : Value) : Prop := ∃ k n : Nat, k ≤ s.size ∧ iv = .int .i64 k ∧ nv = .int .u64 n ∧ n ≤ most ∧ Hid (Num.rdLoop most s.data.toList 0 = Num.rdLoop most (s.data.toList.drop k) n)

set_option maxHeartbeats 2000000 in
set_option maxRecDepth 100000 in
theorem rdigits_loop (s : ByteArray) (most : Nat) (h9 : 9 ≤ most) (hm : most ≤ 18446744073709551615) (w : World) (h0 : 0 < s.size) (h20 : s.size ≤ 20) (hz : ¬ (1 < s.size ∧ s[0] = 48)) :
    Calls Tryd.prog 49 #[.string s, .int .u64 most] w fun e w' => e = .returned (.tuple #[.int .u64 ((Num.rd most s.data.toList).1 : Nat), .bool (Num.rd most s.data.toList).2]) ∧ w = w' := by
  have HR := Lib.hid (rd_loop (most := most) h0 h20 hz)
  have e1 : s.toList.isEmpty = false := by
    rw [ByteArray.toList_eq]
    cases hl : s.data.toList with
    | nil => exact absurd (show s.size = 0 from by have : s.data.toList.length = s.size := rfl; rw [hl] at this; simpa using this.symm) (by omega)
    | cons c r => rfl
  have e2 : (s.size : Int) ≤ 20 := by omega
  have hstep : ∀ k (hk : k < s.size) n, Num.rdLoop most (s.data.toList.drop k) n = if 48 ≤ s[k].toNat ∧ s[k].toNat ≤ 57 then (if (most - (s[k].toNat - 48)) / 10 < n then none else Num.rdLoop most (s.data.toList.drop (k + 1)) (n * 10 + (s[k].toNat - 48))) else none := fun k hk n => by
    rw [drop_at hk]; rfl
  have HS := Lib.hid hstep
  clear hstep
  have hcase : (s.size = 1) ∨ (1 < s.size ∧ ((s[0].toNat : Int) == 48) = false) := by
    rcases Nat.lt_or_ge 1 s.size with h1 | h1
    · refine .inr ⟨h1, ?_⟩
      have hz' : ¬ s[0] = 48 := fun e => hz ⟨h1, e⟩
      have hz2 : ¬ ((s[0].toNat : Int) = 48) := fun e => hz' (by apply UInt8.toNat_inj.1; simpa using (by omega : s[0].toNat = 48))
      simpa using hz2
    · exact .inl (by omega)
  clear hz
  rcases hcase with h1 | ⟨h1, hz3⟩
  have h1' := Nat.le_of_eq h1
  clear h1
  all_goals
    go_enter Tryd.func49, Tryd.ntmps49
    go_wp2
    go_loop [6, 7] (fun nv iv => DigRel most s nv iv) (fun _ iv => s.size - (RowKit.intOf iv).toNat)
    case atStart => exact ⟨0, 0, Nat.zero_le _, rfl, rfl, Nat.zero_le _, by simp [Hid]⟩
    case round =>
      obtain ⟨k, n, hk, rfl, rfl, hn, HD⟩ := hrel
      by_cases hlt : k < s.size
      · have HK := Lib.hid (HD.out.trans (HS.out k hlt n))
        have hkk : (k : Int) < (s.size : Int) := by omega
        by_cases hc : 48 ≤ s[k].toNat ∧ s[k].toNat ≤ 57
        · have hc1 : (48 : Int) ≤ (s[k].toNat : Int) := by omega
          have hc2 : (s[k].toNat : Int) ≤ 57 := by omega
          by_cases hq : (most - (s[k].toNat - 48)) / 10 < n
          · have hq' : ((most : Int) - ((s[k].toNat : Int) - 48)) / 10 < (n : Int) := by omega
            have HF := Lib.hid (show Num.rd most s.data.toList = (0, false) by rw [HR.out, HK.out, if_pos hc, if_pos hq])
            clear hc hq
            go_wp2
            go_ret2
            exact ⟨by rw [HF.out]; rfl, rfl⟩
          · have hq' : (n : Int) ≤ ((most : Int) - ((s[k].toNat : Int) - 48)) / 10 := by omega
            have hnext : n * 10 + (s[k].toNat - 48) ≤ most := by omega
            have HF := Lib.hid (show Num.rdLoop most s.data.toList 0 = Num.rdLoop most (s.data.toList.drop (k + 1)) (n * 10 + (s[k].toNat - 48)) by rw [HK.out, if_pos hc, if_neg hq])
            clear hq
            go_wp2
            go_round
            case rel => exact ⟨k + 1, n * 10 + (s[k].toNat - 48), by omega, by go_num, by congr 1; omega, hnext, HF⟩
            case measure => simp [RowKit.intOf]; omega
        · have HF := Lib.hid (show Num.rd most s.data.toList = (0, false) by rw [HR.out, HK.out, if_neg hc])
          by_cases hl : s[k].toNat < 48
          · have hl' : (s[k].toNat : Int) < 48 := by omega
            clear hc
            go_wp2
            go_ret2
            exact ⟨by rw [HF.out]; rfl, rfl⟩
          · have hl' : (48 : Int) ≤ (s[k].toNat : Int) := by omega
            have hl2 : (57 : Int) < (s[k].toNat : Int) := by omega
            clear hc
            go_wp2
            go_ret2
            exact ⟨by rw [HF.out]; rfl, rfl⟩
      · have hks : (s.size : Int) ≤ (k : Int) := by omega
        go_wp2
        go_ret2
        have e : s.data.toList.drop k = [] := List.drop_eq_nil_of_le (show s.data.toList.length ≤ k from by have : s.data.toList.length = s.size := rfl; omega)
        have HF : Num.rd most s.data.toList = (n, true) := by rw [HR.out, HD.out, e]; rfl
        exact ⟨by rw [HF]; rfl, rfl⟩

set_option maxHeartbeats 2000000 in
set_option maxRecDepth 100000 in
theorem rdigits_any (s : ByteArray) (hs : s.size ≤ 281474976710656) (most : Nat) (h9 : 9 ≤ most) (hm : most ≤ 18446744073709551615) (w : World) :
    Calls Tryd.prog 49 #[.string s, .int .u64 most] w fun e w' => e = .returned (.tuple #[.int .u64 ((Num.rd most s.data.toList).1 : Nat), .bool (Num.rd most s.data.toList).2]) ∧ w = w' := by
  by_cases h0 : s.size = 0
  · obtain rfl : s = ⟨#[]⟩ := ByteArray.ext (Array.eq_empty_of_size_eq_zero h0)
    have HF := Lib.hid (show Num.rd most [] = (0, false) by unfold Num.rd; rw [if_pos (.inl rfl)])
    clear h0 hs
    go_enter Tryd.func49, Tryd.ntmps49
    go_wp2
    go_ret2
    exact ⟨by rw [HF.out]; rfl, rfl⟩
  · by_cases h20 : 20 < s.size
    · have HF := Lib.hid (rd_bad_len most h20)
      have e1 : (20 : Int) < (s.size : Int) := by omega
      have e2 : s.toList.isEmpty = false := by
        rw [ByteArray.toList_eq]
        cases hl : s.data.toList with
        | nil => exact absurd (show s.size = 0 from by have : s.data.toList.length = s.size := rfl; rw [hl] at this; simpa using this.symm) (by omega)
        | cons c r => rfl
      clear h0
      go_enter Tryd.func49, Tryd.ntmps49
      go_wp2
      go_ret2
      exact ⟨by rw [HF.out]; rfl, rfl⟩
    · by_cases hz : 1 < s.size ∧ s[0] = 48
      · obtain ⟨h1, hz⟩ := hz
        have HF := Lib.hid (show Num.rd most s.data.toList = (0, false) by
          unfold Num.rd
          rw [if_pos (.inr (.inr ⟨h1, by rw [head_of (by omega), hz]⟩))])
        have e1 : (s.size : Int) ≤ 20 := by omega
        have e3 : (1 : Int) < (s.size : Int) := by omega
        have e4 : (s[0].toNat : Int) = 48 := by rw [hz]; rfl
        have e5 : ((s[0].toNat : Int) == 48) = true := by simpa using e4
        have e2 : s.toList.isEmpty = false := by
          rw [ByteArray.toList_eq]
          cases hl : s.data.toList with
          | nil => exact absurd (show s.size = 0 from by have : s.data.toList.length = s.size := rfl; rw [hl] at this; simpa using this.symm) (by omega)
          | cons c r => rfl
        clear h0 hz e4
        go_enter Tryd.func49, Tryd.ntmps49
        go_wp2
        go_ret2
        exact ⟨by rw [HF.out]; rfl, rfl⟩
      · exact rdigits_loop s most h9 hm w (by omega) (by omega) hz

theorem rd_le (most : Nat) (h9 : 9 ≤ most) (l : List UInt8) : (Num.rd most l).1 ≤ most := by
  rcases Num.rd_cases most h9 l with ⟨u, hu, _, e⟩ | ⟨e, _⟩
  · rw [e]; exact hu
  · rw [e]; exact Nat.zero_le _

/-- The least number's text. -/
abbrev leastS : ByteArray := ⟨#[45, 57, 50, 50, 51, 51, 55, 50, 48, 51, 54, 56, 53, 52, 55, 55, 53, 56, 48, 56]⟩
theorem least_eq : Num.least = leastS.data.toList := by decide +kernel

set_option maxHeartbeats 2000000 in
set_option maxRecDepth 100000 in
theorem refNumber_any (s : ByteArray) (hs : s.size ≤ 281474976710656) (w : World) :
    Calls Tryd.prog 41 #[.string s] w fun e w' => e = .returned (.tuple #[.int .i64 (Num.numR s.data.toList).1, .bool (Num.numR s.data.toList).2]) ∧ w = w' := by
  by_cases hL : s = leastS
  · subst hL
    have HF := Lib.hid (show Num.numR leastS.data.toList = (-9223372036854775808, true) by unfold Num.numR; rw [if_pos least_eq.symm])
    clear hs
    go_enter Tryd.func41, Tryd.ntmps41
    go_wp2
    go_ret2
    exact ⟨by rw [HF.out]; rfl, rfl⟩
  · have hne : (s.toList == [45, 57, 50, 50, 51, 51, 55, 50, 48, 51, 54, 56, 53, 52, 55, 55, 53, 56, 48, 56]) = false := by
      rw [ByteArray.toList_eq, beq_eq_false_iff_ne]
      exact fun e => hL (ByteArray.ext (Array.toList_inj.1 e))
    have hl : ¬ s.data.toList = Num.least := fun e => hL (ByteArray.ext (Array.toList_inj.1 (e.trans least_eq)))
    by_cases h0 : 0 < s.size
    · have h0' : (0 : Int) < (s.size : Int) := by omega
      by_cases h45 : s[0] = 45
      · have e5 : ((s[0].toNat : Int) == 45) = true := by rw [h45]; rfl
        have HF := Lib.hid (show Num.numR s.data.toList = (if (Num.rd 9223372036854775807 s.data.toList.tail).2 = false ∨ (Num.rd 9223372036854775807 s.data.toList.tail).1 = 0 then (0, false) else (-((Num.rd 9223372036854775807 s.data.toList.tail).1 : Int), true)) by
          unfold Num.numR
          rw [if_neg hl, head_of h0, h45, if_pos rfl])
        obtain ⟨T, hT⟩ : ∃ T : ByteArray, T = s.extract 1 s.size := ⟨_, rfl⟩
        have eT : s.data.toList.tail = T.data.toList := by rw [hT, Lib.extract_to_end, List.drop_one]
        have sT : T.size ≤ 281474976710656 := by rw [hT]; simp; omega
        rw [eT] at HF
        have hd := rdigits_any T sT 9223372036854775807 (by omega) (by omega) w
        have hb : (Num.rd 9223372036854775807 T.data.toList).1 ≤ 9223372036854775807 := rd_le _ (by omega) _
        generalize Num.rd 9223372036854775807 T.data.toList = x at *
        obtain ⟨n, ok⟩ := x
        simp only at hb
        have HT := Lib.hid hT
        rw [hT] at hd
        have Hd := Lib.hid hd
        clear hl hL h45 hd hT eT sT
        cases ok
        · go_enter Tryd.func41, Tryd.ntmps41
          go_wp2_with fail
          refine Hd.out.mono ?_
          rintro e w1 ⟨rfl, rfl⟩
          go_wp2_with fail
          go_ret2
          exact ⟨by rw [HF.out]; simp, rfl⟩
        · by_cases hn : n = 0
          · subst hn
            go_enter Tryd.func41, Tryd.ntmps41
            go_wp2_with fail
            refine Hd.out.mono ?_
            rintro e w1 ⟨rfl, rfl⟩
            go_wp2_with fail
            go_ret2
            exact ⟨by rw [HF.out]; simp, rfl⟩
          · have hn' : ((n : Int) == 0) = false := by simpa using hn
            have hn2 : (n : Int) ≤ 9223372036854775807 := by omega
            have Hn := Lib.hid hn
            clear hn
            go_enter Tryd.func41, Tryd.ntmps41
            go_wp2_with fail
            refine Hd.out.mono ?_
            rintro e w1 ⟨rfl, rfl⟩
            go_wp2_with fail
            go_ret2
            exact ⟨by rw [HF.out]; simp [Hn.out], rfl⟩
      · have e5 : ((s[0].toNat : Int) == 45) = false := by
          simp only [beq_eq_false_iff_ne, ne_eq]
          exact fun e => h45 (by apply UInt8.toNat_inj.1; simpa using (by omega : s[0].toNat = 45))
        have HF := Lib.hid (show Num.numR s.data.toList = (((Num.rd 9223372036854775807 s.data.toList).1 : Int), (Num.rd 9223372036854775807 s.data.toList).2) by
          unfold Num.numR
          rw [if_neg hl, head_of h0, if_neg (fun e => h45 (Option.some.inj e))])
        have hd := rdigits_any s hs 9223372036854775807 (by omega) (by omega) w
        have hb : (Num.rd 9223372036854775807 s.data.toList).1 ≤ 9223372036854775807 := rd_le _ (by omega) _
        generalize Num.rd 9223372036854775807 s.data.toList = x at *
        obtain ⟨n, ok⟩ := x
        have Hd := Lib.hid hd
        clear hl hL h45 hd
        go_enter Tryd.func41, Tryd.ntmps41
        go_wp2_with fail
        refine Hd.out.mono ?_
        rintro e w1 ⟨rfl, rfl⟩
        go_wp2_with fail
        go_ret2
        exact ⟨by rw [HF.out]; rfl, rfl⟩
    · have hz : s.size = 0 := by omega
      obtain rfl : s = ⟨#[]⟩ := ByteArray.ext (Array.eq_empty_of_size_eq_zero hz)
      have HF := Lib.hid (show Num.numR [] = (0, false) by
        unfold Num.numR
        rw [if_neg hl, if_neg (by simp)]
        simp [Num.rd])
      have hd := rdigits_any ⟨#[]⟩ hs 9223372036854775807 (by omega) (by omega) w
      have e : Num.rd 9223372036854775807 (⟨#[]⟩ : ByteArray).data.toList = (0, false) := by simp [Num.rd]
      rw [e] at hd
      have Hd := Lib.hid hd
      clear hd e hz h0 hl hL hs hne
      go_enter Tryd.func41, Tryd.ntmps41
      go_wp2_with fail
      refine Hd.out.mono ?_
      rintro e w1 ⟨rfl, rfl⟩
      go_wp2_with fail
      go_ret2
      exact ⟨by rw [HF.out]; rfl, rfl⟩

def ParRel (s : ByteArray) (iv : Value) : Prop := ∃ k : Nat, k ≤ s.size ∧ iv = .int .i64 k ∧ Hid (Num.parR [] s.data.toList = Num.parR (s.data.toList.take k) (s.data.toList.drop k))
theorem take_at {s : ByteArray} {k : Nat} (h : k < s.size) : s.data.toList.take (k + 1) = s.data.toList.take k ++ [s[k]] := by
  rw [List.take_succ_eq_append_getElem (by simpa using h)]; rfl

end Go.Proofs.YtokfecbjkngpgaaDoor
