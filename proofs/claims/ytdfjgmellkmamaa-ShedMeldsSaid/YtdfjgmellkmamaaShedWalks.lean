/- The five statements on sheds, walked: each call returns true; of what was in memory nothing is changed. -/
import Derived.Test.YtdfjgmellkmamaaShedSteps
namespace Go.Proofs.Ytdfjgmellkmamaa
open Go.RowKit Go.Sort

section
variable {γ : Type} {O : WS → γ → Ob} {st : γ → Int} {R : WS → Int → Int → Int → γ → γ → Prop} {H : World → Prop} {T : TypeId} {v : Value} {f : NestFns}
theorem limits_num (N : Nests O st R H T v f) (kc dc : Int) (rows : Bool) (hst : ∀ {W g w F}, (O W g).holds w F → 0 ≤ st g ∧ st g ≤ 4611686018427387904) (hR : ∀ {W : WS} {k y x : Int} {g g' : γ}, W.Fit → R W k y x g g' → st g ≤ st g' ∧ st g' ≤ st g + mostW kc dc rows W k y x)
    (m : Nat) (hm : m ≤ 65536) (a0 : Option Addr) (n0 cap : Nat) (hcap : n0 ≤ cap ∧ cap ≤ 9223372036854775807) {g : γ} {W0 w : World} (hact : ActsAt W0 a0 n0) (hs : Stage (fun _ => False) W0 [O (newW m) g] w) :
    Calls Try.prog 14 #[.iface T v, .agg #[.int .i64 kc, .int .i64 dc], .int .i64 m, .bool rows, .slice a0 n0 cap] w fun e w' => e = .returned (.int .i64 1) ∧ Below W0.heap.size W0 w' := by
  obtain ⟨w1, hw1, hs1⟩ : ∃ w1, w.alloc (.cells #[.int .i64 kc, .int .i64 dc] 46) = w1 ∧ Stage (fun _ => False) W0 [O (newW m) g, Ob.box w.heap.size #[.int .i64 kc, .int .i64 dc] 46] w1 := ⟨_, rfl, hs.alloc _ _⟩
  have h := limits_any N kc dc rows hst hR m hm a0 n0 cap hcap hact (hs1.take 1)
  have c0 := hs1.cell 1 rfl (o := 0) rfl
  have c1 := hs1.cell 1 rfl (o := 1) rfl
  clear hs hs1 hact
  go_enter Try.func14, Try.ntmps14
  go_wp2_with fail
  refine h.mono ?_
  rintro e w2 ⟨rfl, hb⟩
  go_wp2_with fail
  refine (one_any w2).mono ?_
  rintro e w3 ⟨rfl, rfl⟩
  go_wp2_with fail
  go_ret
  exact ⟨rfl, hb⟩
theorem halves_num (N : Nests O st R H T v f) (L : List Int) (hn : L.length ≤ 65536) (a0 : Option Addr) (cap : Nat) (hcap : L.length ≤ cap ∧ cap ≤ 9223372036854775807) (hmin : ∀ n ∈ L, -9223372036854775808 ≤ n)
    (B : List Bool) (a1 : Option Addr) (cap1 : Nat) (hcap' : B.length ≤ cap1 ∧ cap1 ≤ 9223372036854775807) (low gone : Int) (hlow : inInt low) (hgone : inInt gone)
    {g : γ} {W0 w : World} (hkey : IntsAt W0 .i64 a0 L) (hbool : BoolsAt W0 a1 B) (hs : Stage (fun _ => False) W0 [O (newW L.length) g] w) :
    Calls Try.prog 17 #[.iface T v, .slice a0 L.length cap, .agg #[.slice a1 B.length cap1, .int .i64 low, .int .i64 gone]] w fun e w' => e = .returned (.int .i64 1) ∧ Below W0.heap.size W0 w' := by
  obtain ⟨w1, hw1, hs1⟩ : ∃ w1, w.alloc (.cells #[.slice a1 B.length cap1, .int .i64 low, .int .i64 gone] 53) = w1 ∧ Stage (fun _ => False) W0 [O (newW L.length) g, Ob.box w.heap.size #[.slice a1 B.length cap1, .int .i64 low, .int .i64 gone] 53] w1 := ⟨_, rfl, hs.alloc _ _⟩
  have h := halves_any N L hn a0 cap hcap hmin B a1 cap1 hcap' low gone hlow hgone hkey hbool (hs1.take 1)
  have c0 := hs1.cell 1 rfl (o := 0) rfl
  have c1 := hs1.cell 1 rfl (o := 1) rfl
  have c2 := hs1.cell 1 rfl (o := 2) rfl
  clear hs hs1 hkey hbool hmin
  generalize L.length = n at *
  generalize B.length = m at *
  go_enter Try.func17, Try.ntmps17
  go_wp2_with fail
  refine h.mono ?_
  rintro e w2 ⟨rfl, hb⟩
  go_wp2_with fail
  refine (one_any w2).mono ?_
  rintro e w3 ⟨rfl, rfl⟩
  go_wp2_with fail
  go_ret
  exact ⟨rfl, hb⟩
end
theorem config_any (w : World) : Calls Try.prog 15 #[] w fun e w' => e = .returned (.agg #[.int .i64 8, .int .i64 0]) ∧ Below w.heap.size w w' := by
  have hs := (Stage.start w).alloc #[.int .i64 0, .int .i64 0] 46
  have f0 := hs.free 0 rfl 0
  have f1 := hs.free 0 rfl 1
  have hs2 := (hs.store 0 rfl 0 (.int .i64 8)).store 0 rfl 1 (.int .i64 0)
  have k0 := hs2.cell 0 rfl (o := 0) rfl
  have k1 := hs2.cell 0 rfl (o := 1) rfl
  go_enter Try.func15, Try.ntmps15
  go_wp2_with fail
  exact bodyPost_ret (v := .agg #[.int .i64 8, .int .i64 0]) (by simp [results, Try.results15, go_sem, k0, k1]) rfl ⟨rfl, ((Stage.start w).alloc #[.int .i64 8, .int .i64 0] 46).below⟩
theorem shed_range {p c : Nat} {W : WS} {s : Int} {w : World} {F : Nat → Prop} (h : (Ob.shed p c W s).holds w F) : 0 ≤ s ∧ s ≤ 4611686018427387904 := by
  obtain ⟨_, _, _, _, _, _, _, h, _⟩ := h; exact h
set_option maxRecDepth 100000 in
theorem new_walk (n : Int) (w : World) : Calls Try.prog 3 #[.int .i64 n] w fun e w' => e = .returned (.bool true) ∧ Below w.heap.size w w' := by
  by_cases hn : 0 ≤ n ∧ n ≤ 65536
  · obtain ⟨k, rfl⟩ : ∃ k : Nat, n = k := ⟨n.toNat, by omega⟩
    have h1 : ¬ (k : Int) < 0 := by omega
    have h2 : ¬ (65536 : Int) < k := by omega
    go_enter Try.func3, Try.ntmps3
    go_wp2_with fail
    refine (alive_any w).mono ?_
    rintro e w1 ⟨rfl, hb⟩
    go_wp2_with fail
    refine (shed_start k (by omega) ((Stage.start w).later hb)).mono ?_
    rintro e w2 ⟨p, c, rfl, hs⟩
    have N := shed_nests p c
    have p0 := (hs.get (i := 0) rfl).elim fun _ ho => shed_there ho
    unfold shedH at p0
    have hC : Calls Try.prog 10 #[ptrV c] w2 fun e w' => e = .returned (.int .i64 k) ∧ Stage (fun _ => False) w [Ob.shed p c (newW k) 0] w' := by
      have := hs.askB 0 rfl (fun _ ho => N.cap ho)
      rw [show ((newW k).cells.length : Int) = k by simp [newW]] at this
      exact this
    go_wp2_with fail
    refine hC.mono ?_
    rintro e w3 ⟨rfl, hs3⟩
    clear hC hs p0
    have p0 := (hs3.get (i := 0) rfl).elim fun _ ho => shed_there ho
    unfold shedH at p0
    have hS : Calls Try.prog 11 #[ptrV c] w3 fun e w' => e = .returned (.int .i64 0) ∧ Stage (fun _ => False) w [Ob.shed p c (newW k) 0] w' := hs3.askB 0 rfl (fun _ ho => N.steps ho)
    go_wp2_with fail
    refine hS.mono ?_
    rintro e w4 ⟨rfl, hs4⟩
    clear hS hs3 p0
    have p0 := (hs4.get (i := 0) rfl).elim fun _ ho => shed_there ho
    unfold shedH at p0
    have hH : Calls Try.prog 12 #[ptrV c, .int .i64 1] w4 fun e w' => e = .returned (.bool false) ∧ Stage (fun _ => False) w [Ob.shed p c (newW k) 0] w' := hs4.askB 0 rfl (fun _ ho => N.has 1 ho)
    go_wp2_with fail
    refine hH.mono ?_
    rintro e w5 ⟨rfl, hs5⟩
    go_wp2_with fail
    go_ret
    exact ⟨rfl, hs5.below⟩
  · have hno := shed_no n
    go_enter Try.func3, Try.ntmps3
    go_wp2_with fail
    refine (alive_any w).mono ?_
    rintro e w1 ⟨rfl, hb⟩
    by_cases h1 : n < 0
    · go_wp2_with fail
      refine (hno w1 hn).mono ?_
      rintro e w2 ⟨rfl, rfl⟩
      go_wp2_with fail
      go_ret
      exact ⟨rfl, hb⟩
    · have h2 : (65536 : Int) < n := by omega
      go_wp2_with fail
      refine (hno w1 hn).mono ?_
      rintro e w2 ⟨rfl, rfl⟩
      go_wp2_with fail
      go_ret
      exact ⟨rfl, hb⟩
set_option maxRecDepth 100000 in
theorem runs_walk (C : Nat) (hC : C ≤ 255) (a0 : Option Addr) (n0 cap : Nat) (hcap : n0 ≤ cap ∧ cap ≤ 9223372036854775807) (w : World) (hact : ActsAt w a0 n0) :
    Calls Try.prog 4 #[.int .u8 C, .slice a0 n0 cap] w fun e w' => e = .returned (.bool true) ∧ Below w.heap.size w w' := by
  obtain ⟨m, hm⟩ : ∃ m, m = C % 30 := ⟨_, rfl⟩
  have hm30 : m < 30 := by omega
  have q1 : Int.tmod (C : Int) 30 = (m : Int) := by rw [hm]; exact (Int.ofNat_tmod C 30).symm
  clear hm
  go_enter Try.func4, Try.ntmps4
  go_wp2_with fail
  refine (alive_any w).mono ?_
  rintro e w1 ⟨rfl, hb⟩
  go_wp2_with fail
  refine (shed_start m (by omega) ((Stage.start w).later hb)).mono ?_
  rintro e w2 ⟨p, c, rfl, hs⟩
  by_cases h60 : (60 : Int) < n0
  · go_wp2_with fail
    go_ret
    exact ⟨rfl, hs.below⟩
  · have hR := runs_one (runs_any (shed_nests p c) m (by omega) a0 n0 cap hcap hact hs)
    go_wp2_with fail
    refine hR.mono ?_
    rintro e w3 ⟨rfl, hb3⟩
    go_wp2_with fail
    go_ret
    exact ⟨rfl, hb3⟩
set_option maxRecDepth 100000 in
theorem limits_walk (C : Nat) (hC : C ≤ 255) (a0 : Option Addr) (n0 cap : Nat) (hcap : n0 ≤ cap ∧ cap ≤ 9223372036854775807) (w : World) (hact : ActsAt w a0 n0) :
    Calls Try.prog 5 #[.int .u8 C, .slice a0 n0 cap] w fun e w' => e = .returned (.bool true) ∧ Below w.heap.size w w' := by
  obtain ⟨m, hm⟩ : ∃ m, m = C % 200 := ⟨_, rfl⟩
  have hm30 : m < 200 := by omega
  have q1 : Int.tmod (C : Int) 200 = (m : Int) := by rw [hm]; exact (Int.ofNat_tmod C 200).symm
  clear hm
  go_enter Try.func5, Try.ntmps5
  go_wp2_with fail
  refine (alive_any w).mono ?_
  rintro e w1 ⟨rfl, hb⟩
  go_wp2_with fail
  refine (shed_start m (by omega) ((Stage.start w).later hb)).mono ?_
  rintro e w2 ⟨p, c, rfl, hs⟩
  by_cases h60 : (300 : Int) < n0
  · go_wp2_with fail
    go_ret
    exact ⟨rfl, hs.below⟩
  · go_wp2_with fail
    refine (config_any w2).mono ?_
    rintro e w3 ⟨rfl, hb2⟩
    have hs3 := hs.later hb2
    have hR := limits_num (shed_nests p c) 8 0 true (fun h => shed_range h) (fun hf h => shed_limit hf h) m (by omega) a0 n0 cap hcap hact hs3
    go_wp2_with fail
    refine hR.mono ?_
    rintro e w4 ⟨rfl, hb3⟩
    go_wp2_with fail
    go_ret
    exact ⟨rfl, hb3⟩
set_option maxRecDepth 100000 in
theorem sorts_walk (L : List Int) (a0 : Option Addr) (cap : Nat) (hcap : L.length ≤ cap ∧ cap ≤ 9223372036854775807) (w : World) (hkey : IntsAt w .i64 a0 L) :
    Calls Try.prog 6 #[.slice a0 L.length cap] w fun e w' => e = .returned (.bool true) ∧ Below w.heap.size w w' := by
  by_cases h1 : L.length ≤ 65536
  · have hN := fun w1 (hb : Below w.heap.size w w1) => shed_start L.length h1 ((Stage.start w).later hb)
    have hS := fun p c w2 (hs : Stage (fun _ => False) w ([] ++ [Ob.shed p c (newW L.length) 0]) w2) => sorts_one (sorts_any (shed_nests p c) L h1 a0 cap hcap hkey hs)
    clear hkey
    generalize L.length = n at *
    go_enter Try.func6, Try.ntmps6
    go_wp2_with fail
    refine (alive_any w).mono ?_
    rintro e w1 ⟨rfl, hb⟩
    go_wp2_with fail
    refine (hN w1 hb).mono ?_
    rintro e w2 ⟨p, c, rfl, hs⟩
    have hR := hS p c w2 hs
    by_cases h2 : (200 : Int) < n
    · go_wp2_with fail
      go_ret
      exact ⟨rfl, hs.below⟩
    · go_wp2_with fail
      refine hR.mono ?_
      rintro e w3 ⟨rfl, hb3⟩
      go_wp2_with fail
      go_ret
      exact ⟨rfl, hb3⟩
  · have hno := shed_no (L.length : Int)
    have h2 : (200 : Int) < L.length := by omega
    clear hkey
    generalize L.length = n at *
    go_enter Try.func6, Try.ntmps6
    go_wp2_with fail
    refine (alive_any w).mono ?_
    rintro e w1 ⟨rfl, hb⟩
    go_wp2_with fail
    refine (hno w1 (by omega)).mono ?_
    rintro e w2 ⟨rfl, rfl⟩
    go_wp2_with fail
    go_ret
    exact ⟨rfl, hb⟩
set_option maxRecDepth 100000 in
theorem melds_walk (L : List Int) (a0 : Option Addr) (cap : Nat) (hcap : L.length ≤ cap ∧ cap ≤ 9223372036854775807) (hmin : ∀ n ∈ L, -9223372036854775808 ≤ n) (B : List Bool) (a1 : Option Addr) (cap1 : Nat) (hcap' : B.length ≤ cap1 ∧ cap1 ≤ 9223372036854775807) (low gone : Int) (hlow : inInt low) (hgone : inInt gone) (w : World) (hkey : IntsAt w .i64 a0 L) (hbool : BoolsAt w a1 B) :
    Calls Try.prog 7 #[.slice a0 L.length cap, .agg #[.slice a1 B.length cap1, .int .i64 low, .int .i64 gone]] w fun e w' => e = .returned (.bool true) ∧ Below w.heap.size w w' := by
  obtain ⟨w0, hw0, hs0⟩ : ∃ w0, w.alloc (.cells #[.slice a1 B.length cap1, .int .i64 low, .int .i64 gone] 53) = w0 ∧ Stage (fun _ => False) w [Ob.box w.heap.size #[.slice a1 B.length cap1, .int .i64 low, .int .i64 gone] 53] w0 := ⟨_, rfl, (Stage.start w).alloc _ _⟩
  by_cases h1 : L.length ≤ 65536
  · have hN := fun w1 (hb : Below w0.heap.size w0 w1) => shed_start L.length h1 (hs0.later hb)
    have hS := fun p c w2 (hs : Stage (fun _ => False) w [Ob.shed p c (newW L.length) 0] w2) => halves_num (shed_nests p c) L h1 a0 cap hcap hmin B a1 cap1 hcap' low gone hlow hgone hkey hbool hs
    clear hkey hbool hmin hs0
    generalize L.length = n at *
    generalize B.length = m at *
    go_enter Try.func7, Try.ntmps7
    go_wp2_with fail
    refine (alive_any w0).mono ?_
    rintro e w1 ⟨rfl, hb⟩
    clear hw0
    go_wp2_with fail
    refine (hN w1 hb).mono ?_
    rintro e w2 ⟨p, c, rfl, hs⟩
    have hR := hS p c w2 (hs.select [1] (by decide) rfl)
    by_cases h2 : (200 : Int) < n
    · go_wp2_with fail
      go_ret
      exact ⟨rfl, hs.below⟩
    · have c0 := hs.cell 0 rfl (o := 0) rfl
      have c1 := hs.cell 0 rfl (o := 1) rfl
      have c2 := hs.cell 0 rfl (o := 2) rfl
      go_wp2_with fail
      refine hR.mono ?_
      rintro e w3 ⟨rfl, hb3⟩
      go_wp2_with fail
      go_ret
      exact ⟨rfl, hb3⟩
  · have hno := shed_no (L.length : Int)
    have h2 : (200 : Int) < L.length := by omega
    clear hkey hbool hmin
    generalize L.length = n at *
    generalize B.length = m at *
    go_enter Try.func7, Try.ntmps7
    go_wp2_with fail
    refine (alive_any w0).mono ?_
    rintro e w1 ⟨rfl, hb⟩
    clear hw0
    go_wp2_with fail
    refine (hno w1 (by omega)).mono ?_
    rintro e w2 ⟨rfl, rfl⟩
    go_wp2_with fail
    go_ret
    exact ⟨rfl, (hs0.later hb).below⟩
end Go.Proofs.Ytdfjgmellkmamaa
