/- Root. -/
import Derived.Test.YtdipahkgfkoamaaNames2
import Derived.Deep.RegionLaw
namespace Go.Proofs.Ytdipahkgfkoamaa
open Go.RowKit Go.Sort

theorem root_none {B p : Nat} {F : Nat → Prop} {N : NS} {s : Int} {w : World} (hc : madeB N s = false) (h : NR w B p F N) :
    Calls Try.prog 43 #[.pointer (some ⟨p, 0, none⟩), .int .i64 s] w fun e w' => e = .returned (.tuple #[.int .i64 0, .bool false]) ∧ w = w' := by
  have hM := made_nm s h
  rw [hc] at hM
  clear hc h
  go_enter Try.func43, Try.ntmps43
  go_wp2_with fail
  refine hM.mono ?_
  rintro e w1 ⟨rfl, rfl⟩
  go_wp2
  go_ret2
  exact ⟨rfl, rfl⟩
theorem root_some {B p : Nat} {F : Nat → Prop} {N : NS} {s : Nat} {w : World} (hs : 1 ≤ s ∧ s < N.roots.length) (h : NR w B p F N) :
    Calls Try.prog 43 #[.pointer (some ⟨p, 0, none⟩), .int .i64 s] w (MovedPost w B p F N (.tuple #[.int .i64 (N.at s), .bool true])) := by
  have hM := made_nm (s : Int) h
  rw [show madeB N s = true by simp [madeB]; omega] at hM
  obtain ⟨hN, v, l, d, h, ht, rfl⟩ := h
  have hlen := hN.lenLe
  have hpos := hN.pos
  have htl := ht.len
  obtain ⟨g0, c0, hv, _⟩ := h.slice ht.len hN
  obtain ⟨R, hR⟩ : ∃ R, R = N.at s := ⟨_, rfl⟩
  rw [← hR]
  have hsl : s < l.length := by omega
  obtain ⟨n, hn⟩ : ∃ n, n = l.length := ⟨_, rfl⟩
  subst hv
  rw [← hn] at h hsl htl
  have hnl : n ≤ 65537 := by omega
  have hnr := Lib.hid htl
  clear htl hlen hpos
  go_enter Try.func43, Try.ntmps43
  go_wp2_with fail
  refine hM.mono ?_
  rintro e w1 ⟨rfl, rfl⟩
  clear hM
  go_wp2_with fail
  go_loopw [1] (fun v wr => ∃ (i : Nat) (l' : List Nat), i < n ∧ v = .int .i64 i ∧ N.at i = R ∧ l'.length = n ∧ NmAt wr B p (.slice (some ⟨g0, 0, none⟩) n c0) l' N ∧ Tree l' N d ∧ Keeps (nmF p (.slice (some ⟨g0, 0, none⟩) n c0)) w wr) (fun v _ => d (intOf v).toNat)
  case atStart => exact ⟨s, l, hsl, rfl, hR.symm, hn.symm, h, ht, Keeps.refl _ _⟩
  case round =>
    clear h ht hR hsl hs
    obtain ⟨i, l', hi, rfl, hiR, hll, h, ht, hk⟩ := hrel
    obtain ⟨g, c, hv, hlc, hcm, hgp, hg, hcell⟩ := h.slice ht.len hN
    rw [hll] at hv hlc
    cases hv
    have c1 := h.c1
    have ci := hcell i (by omega)
    have hx := ht.lt i (by omega)
    have cx := hcell _ hx
    have hrow := h.row
    rw [hll] at hrow
    have fi := hrow.frozenAt i
    unfold maxLen at hcm
    by_cases hlx : l'.getD i 0 = i
    · have hii := Lib.hid ((tree_at ht (by omega)).1 hlx)
      rw [hlx] at ci
      clear cx hlx hx hcell
      go_wp2_with fail
      go_ret2
      exact ⟨by rw [← hiR, hii.out]; rfl, _, ⟨hN, _, l', d, h, ht, rfl⟩, hk, fun k hk => Or.inl hk⟩
    · have ht2 := tree_half ht (by omega) hlx
      have hdx := ht.dep i (by omega) hlx
      have hdz : d (l'.getD (l'.getD i 0) 0) < d i := by
        by_cases e : l'.getD (l'.getD i 0) 0 = l'.getD i 0
        · rw [e]; exact hdx
        · have := ht.dep _ hx e; exact Nat.lt_trans this hdx
      have hRz : N.at (l'.getD (l'.getD i 0) 0) = R := by rw [ht.par _ hx, ht.par i (by omega)]; exact hiR
      have hne : ((l'.getD i 0 : Int) == i) = false := by simp only [beq_eq_false_iff_ne, ne_eq, Int.natCast_inj]; exact hlx
      have hz : l'.getD (l'.getD i 0) 0 < n := by have := ht.lt _ hx; omega
      rw [hll] at hx
      generalize l'.getD (l'.getD i 0) 0 = z at *
      generalize l'.getD i 0 = x at *
      clear hlx hdx hcell
      go_wp2_with fail
      go_region
      obtain ⟨w2, h2, k2, hw2⟩ : ∃ w2, NmAt w2 B p (.slice (some ⟨g0, 0, none⟩) n c0) (l'.set i z) N ∧ Keeps (nmF p (.slice (some ⟨g0, 0, none⟩) n c0)) w w2 ∧ (wr.setCell ⟨g0, i, none⟩ (.int .i64 z)).drew = w2 := by
        refine ⟨_, ⟨blk_drew (blk_set_other h.blk (a := ⟨g0, i, none⟩) hgp _), ?_, h.base, h.apart⟩, (hk.setCell ⟨g0, i, none⟩ (Or.inl (Or.inr rfl)) _).drew, rfl⟩
        have := (hrow.stored i (.int .i64 z)).1
        rw [cellsN_set] at this
        rw [List.length_set, hll]
        exact this.drew
      rw [hw2]
      have hc2 := (h2.slice (by rw [List.length_set, hll, ← hnr.out]) hN)
      obtain ⟨g2, c2, hv2, _, _, _, _, hcell2⟩ := hc2
      rw [List.length_set, hll] at hv2 hcell2
      cases hv2
      have d1 := h2.c1
      have di := hcell2 i hi
      rw [getD_set _ _ _ _ _ (by omega), if_pos rfl] at di
      clear hw2 hcell2 c1 ci cx fi h hrow ht hk
      go_wp2_with fail
      go_roundw
      case rel => exact ⟨z, l'.set i z, hz, rfl, hRz, by rw [List.length_set, hll], h2, ht2, k2⟩
      case measure => simpa [intOf] using hdz
/-- Root, of whatever names. -/
theorem root_nm {B p : Nat} {F : Nat → Prop} {N : NS} (s : Int) {w : World} (h : NR w B p F N) :
    Calls Try.prog 43 #[.pointer (some ⟨p, 0, none⟩), .int .i64 s] w (MovedPost w B p F N (.tuple #[.int .i64 (rootI N s), .bool (madeB N s)])) := by
  cases hc : madeB N s
  · refine (root_none hc h).mono fun e w' ⟨he, hw⟩ => ⟨?_, F, ?_, ?_⟩
    · rw [he]; simp [rootI, hc]
    · subst hw; exact h
    · subst hw; exact Moved.refl _ _
  · obtain ⟨i, rfl⟩ : ∃ i : Nat, s = i := ⟨s.toNat, by simp [madeB] at hc; omega⟩
    refine (root_some (by simp [madeB] at hc; omega) h).mono fun e w' ⟨he, hw⟩ => ⟨?_, hw⟩
    rw [he]; simp [rootI, hc]
end Go.Proofs.Ytdipahkgfkoamaa
