/- The statement ArenaRuns, of whatever numbers: an arena that can't be, or too many acts, end it at once. -/
import Derived.Test.YtahpalfdeghdmaaArenaRuns
namespace Go.Proofs.Ytahpalfdeghdmaa
open Go.RowKit Go.Sort

set_option maxRecDepth 100000 in
set_option maxHeartbeats 2000000 in
theorem runs_all (c m : Int) (hc : -9223372036854775808 ≤ c ∧ c ≤ 9223372036854775807) (hm : 0 ≤ m ∧ m ≤ 4294967295) (a : Option Addr) (n cap : Nat) (hcap : n ≤ cap ∧ cap ≤ 9223372036854775807) (w : World)
    (hact : ∀ k, k < n → ∃ b off x y z, a = some ⟨b, off, none⟩ ∧ w.cell? ⟨b, off + k * 3, none⟩ = some (.int .i64 x) ∧ w.cell? ⟨b, off + k * 3 + 1, none⟩ = some (.int .i64 y) ∧ w.cell? ⟨b, off + k * 3 + 2, none⟩ = some (.int .u32 z)) :
    Calls Try.prog 4 #[.int .i64 c, .int .u32 m, .slice a n cap] w fun e w' => e = .returned (.bool true) ∧ Below w.heap.size w w' := by
  obtain ⟨hc1, hc2⟩ := hc
  obtain ⟨hm1, hm2⟩ := hm
  obtain ⟨hcap1, hcap2⟩ := hcap
  by_cases h60 : 60 < n
  · go_enter Try.func4, Try.ntmps4
    go_wp2_with fail
    refine (alive_any _).mono ?_
    rintro e W ⟨rfl, hb⟩
    go_wp2_with fail
    go_ret
    exact ⟨rfl, hb⟩
  · by_cases h40 : 40 < c ∧ c ≤ 65536
    · obtain ⟨h1, h2⟩ := h40
      go_enter Try.func4, Try.ntmps4
      go_wp2_with fail
      refine (alive_any _).mono ?_
      rintro e W ⟨rfl, hb⟩
      go_wp2_with fail
      go_ret
      exact ⟨rfl, hb⟩
    · by_cases hv : 0 ≤ c ∧ c ≤ 65536 ∧ m ≠ 0
      · obtain ⟨cn, rfl⟩ : ∃ k : Nat, c = k := ⟨c.toNat, by omega⟩
        obtain ⟨mn, rfl⟩ : ∃ k : Nat, m = k := ⟨m.toNat, by omega⟩
        exact runs_walk cn mn (by omega) (by omega) a n cap (by omega) ⟨hcap1, hcap2⟩ w hact
      · have hN := fun w => new_any c m w hv
        have hR := fun w => refnew_none c m w hv
        clear hact
        by_cases h3 : 40 < c
        · have h4 : ¬ c ≤ 65536 := fun h => h40 ⟨h3, h⟩
          clear hv h40
          go_enter Try.func4, Try.ntmps4
          go_wp2_with fail
          refine (alive_any _).mono ?_
          rintro e W ⟨rfl, hb⟩
          go_wp2_with fail
          refine (hN _).mono ?_
          rintro e W1 ⟨rfl, rfl⟩
          go_wp2_with fail
          refine (hR _).mono ?_
          rintro e W2 ⟨rfl, hb2⟩
          clear hN hR
          go_wp2_with fail
          go_ret
          exact ⟨rfl, (below_chain hb hb2).alloc (Nat.le_trans hb.size hb2.size) _⟩
        · clear hv h40
          go_enter Try.func4, Try.ntmps4
          go_wp2_with fail
          refine (alive_any _).mono ?_
          rintro e W ⟨rfl, hb⟩
          go_wp2_with fail
          refine (hN _).mono ?_
          rintro e W1 ⟨rfl, rfl⟩
          go_wp2_with fail
          refine (hR _).mono ?_
          rintro e W2 ⟨rfl, hb2⟩
          clear hN hR
          go_wp2_with fail
          go_ret
          exact ⟨rfl, (below_chain hb hb2).alloc (Nat.le_trans hb.size hb2.size) _⟩
end Go.Proofs.Ytahpalfdeghdmaa
