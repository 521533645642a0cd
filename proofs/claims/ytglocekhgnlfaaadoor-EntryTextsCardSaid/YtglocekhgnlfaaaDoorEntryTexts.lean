/- The statement EntryTexts, walked: for every entry and every number the call returns true, in every memory that holds the library's table; of what was in memory nothing is changed. -/
import Derived.Test.YtglocekhgnlfaaaDoorEntryAlive
import Derived.Test.YtglocekhgnlfaaaDoorEntryRefText
namespace Go.Proofs.YtglocekhgnlfaaaDoor
open Go.RowKit Go.Sort Go.Lib

set_option maxHeartbeats 4000000 in
set_option maxRecDepth 100000 in
theorem texts_nat (k : Int) (s : Nat) (n : Int) (hk : -9223372036854775808 ≤ k ∧ k ≤ 9223372036854775807) (hs : s < 18446744073709551616) (hn : -9223372036854775808 ≤ n ∧ n ≤ 9223372036854775807) (w : World) (htab : Tab w) :
    Calls Tryd.prog 5 #[.agg #[.int .i64 k, .int .u64 s], .int .i64 n] w fun e w' => e = .returned (.bool true) ∧ Below w.heap.size w w' := by
  have dA := text_any k s hk.1 hk.2 hs
  have dB := refText_any k s hk.1 hk.2 hs
  have dC := digits_any n hn.1 hn.2
  have dD := refDigits_any n hn.1 hn.2
  generalize (⟨(Lib.itoa n).toArray⟩ : ByteArray) = N at *
  generalize (⟨(entText k s).toArray⟩ : ByteArray) = T at *
  have HA := Lib.hid dA
  have HB := Lib.hid dB
  have HC := Lib.hid dC
  have HD := Lib.hid dD
  clear dA dB dC dD hk hs hn
  go_enter Tryd.func5, Tryd.ntmps5
  go_wp2_with fail
  have hb0 := (Below.refl w.heap.size w).alloc (Nat.le_refl _) (Obj.cells #[Value.int IntKind.i64 k, Value.int IntKind.u64 s] 24)
  have ht0 := tab_below htab hb0
  refine (alive_any _ ht0).mono ?_
  rintro e W ⟨rfl, hb1⟩
  have ht1 := tab_below ht0 hb1
  have c0 : W.cell? ⟨w.heap.size, 0, none⟩ = some (.int .i64 k) := by rw [hb1.cell (p := ⟨w.heap.size, 0, none⟩) (by simp)]; go_simp
  have c1 : W.cell? ⟨w.heap.size, 1, none⟩ = some (.int .u64 s) := by rw [hb1.cell (p := ⟨w.heap.size, 1, none⟩) (by simp)]; go_simp
  have hb := below_chain hb0 hb1
  clear hb0 hb1 ht0
  go_wp2_with fail
  have k0 := cell_regrown c0
  have k1 := cell_regrown c1
  have cA : ∀ d os, Calls Tryd.prog 16 #[.agg #[.int .i64 k, .int .u64 s]] (grow (redrawn W d) os) fun e w'' => e = .returned (.string T) ∧ ∃ p : Regrown, w'' = grow (redrawn W p.d) p.os := fun d os => Calls.regrown_of (HA.out _ (tab_below ht1 (below_regrown W d os)))
  have cB : ∀ d os, Calls Tryd.prog 17 #[.agg #[.int .i64 k, .int .u64 s]] (grow (redrawn W d) os) fun e w'' => e = .returned (.string T) ∧ ∃ p : Regrown, w'' = grow (redrawn W p.d) p.os := fun d os => Calls.regrown_of (HB.out _)
  have cC : ∀ d os, Calls Tryd.prog 18 #[.int .i64 n] (grow (redrawn W d) os) fun e w'' => e = .returned (.string N) ∧ ∃ p : Regrown, w'' = grow (redrawn W p.d) p.os := fun d os => Calls.regrown_of (HC.out _ (tab_below ht1 (below_regrown W d os)))
  have cD : ∀ d os, Calls Tryd.prog 19 #[.int .i64 n] (grow (redrawn W d) os) fun e w'' => e = .returned (.string N) ∧ ∃ p : Regrown, w'' = grow (redrawn W p.d) p.os := fun d os => Calls.regrown_of (HD.out _)
  refine wp_region_quiet_below (by kernel_rfl) (by kernel_rfl) ?_
  repeat (go_big_quiet_step (first | exact cA _ _ | exact cB _ _ | exact cC _ _ | exact cD _ _))
  refine wpQuiet_nil ?_
  intro W3 hw'
  have hb3 : Below W.heap.size W W3 := by
    obtain ⟨p, rfl⟩ := hw'
    exact below_regrown _ _ _
  go_wp2_with fail
  go_ret
  exact ⟨rfl, below_chain hb hb3⟩

theorem texts_walk (k s n : Int) (hk : -9223372036854775808 ≤ k ∧ k ≤ 9223372036854775807) (hs : 0 ≤ s ∧ s ≤ 18446744073709551615) (hn : -9223372036854775808 ≤ n ∧ n ≤ 9223372036854775807) (w : World) (htab : Tab w) :
    Calls Tryd.prog 5 #[.agg #[.int .i64 k, .int .u64 s], .int .i64 n] w fun e w' => e = .returned (.bool true) ∧ Below w.heap.size w w' := by
  obtain ⟨s, rfl⟩ : ∃ m : Nat, s = m := ⟨s.toNat, by omega⟩
  exact texts_nat k s n hk (by omega) hn w htab
end Go.Proofs.YtglocekhgnlfaaaDoor
