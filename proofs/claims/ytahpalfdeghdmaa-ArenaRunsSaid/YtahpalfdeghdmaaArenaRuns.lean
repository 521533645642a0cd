/- The statement ArenaRuns, walked: the call returns true, in every memory; of what was in memory nothing is changed. -/
import Derived.Test.YtahpalfdeghdmaaArenaRef6
import Derived.Deep.CutBlock
namespace Go.Proofs.Ytahpalfdeghdmaa
open Go.RowKit Go.Sort

theorem hrow_keeps {F : Nat → Prop} {w w' : World} {B : Nat} {v : Value} {n : Nat} {l : List (Nat × Nat)} (h : HRow w B v n l) (k : Keeps F w w') (hn : ∀ b, rowF v b → ¬ F b) : HRow w' B v n l := ⟨owns_keeps h.1 k hn, h.2⟩
theorem sim_atV {A : AS} {T G : List (Nat × Nat)} (h : Sim A T G) (s : Int) : atV A s = atRV (atH T G s) := by
  rw [sim_at h, atV]
  split
  · rename_i hc
    simp only [hasB, Bool.and_eq_true, decide_eq_true_eq] at hc
    simp only [atRV, Hnd]
    rw [show ((s.toNat : Nat) : Int) = s by omega]
  · rfl
theorem sim_take_case {A A' : AS} {T G : List (Nat × Nat)} {s g : Nat} (h : Sim A T G) (ht : takeA A = some (s, g, A')) :
    (∃ r, waitsH A.most T G = s :: r ∧ g = lastH T s + 1 ∧ lastH T s < A.most) ∨ (waitsH A.most T G = [] ∧ freshH T < A.cap ∧ s = freshH T ∧ g = 1) := by
  rw [h.wait, h.fresh]
  rcases take_cases A with ⟨ws, k, hw, ht'⟩ | ⟨hw, hc', ht'⟩ | ⟨_, _, ht'⟩
  · rw [ht'] at ht
    simp only [Option.some.injEq, Prod.mk.injEq] at ht
    obtain ⟨rfl, rfl, _⟩ := ht
    have := h.fit.waits k (by rw [hw]; simp)
    exact Or.inl ⟨ws.reverse, by rw [hw]; simp, by rw [h.last], by rw [h.last]; exact this.2.2⟩
  · rw [ht'] at ht
    simp only [Option.some.injEq, Prod.mk.injEq] at ht
    obtain ⟨rfl, rfl, _⟩ := ht
    exact Or.inr ⟨by rw [hw]; rfl, hc', rfl, rfl⟩
  · rw [ht'] at ht; cases ht
theorem sim_take_full {A : AS} {T G : List (Nat × Nat)} (h : Sim A T G) (ht : takeA A = none) : waitsH A.most T G = [] ∧ A.cap ≤ freshH T := by
  rw [h.wait, h.fresh]
  rcases take_cases A with ⟨ws, k, hw, ht'⟩ | ⟨hw, hc', ht'⟩ | ⟨hw, hc, ht'⟩
  · rw [ht'] at ht; cases ht
  · rw [ht'] at ht; cases ht
  · exact ⟨by rw [hw]; rfl, hc⟩

/-- The arena, the document's beside it, and its rows. -/
structure RunPre (wr W : World) (b9 N M : Nat) (A : AS) (F : Nat → Prop) (T G : List (Nat × Nat)) (nt ng : Nat) (tv gv : Value) : Prop where
  ar : AR wr W.heap.size W.heap.size F A
  cap : A.cap = N
  most : A.most = M
  box : Box F wr b9 #[.int .i64 N, .int .u32 M, tv, gv] 34
  t : HRow wr W.heap.size tv nt T
  g : HRow wr W.heap.size gv ng G
  td : ∀ b, rowF tv b → ¬ F b ∧ b ≠ b9
  gd : ∀ b, rowF gv b → ¬ F b ∧ b ≠ b9
  b9 : W.heap.size ≤ b9
  below : Below W.heap.size W wr
theorem RunPre.later {wr W w' : World} {b9 N M : Nat} {A : AS} {F : Nat → Prop} {T G : List (Nat × Nat)} {nt ng : Nat} {tv gv : Value} (h : RunPre wr W b9 N M A F T G nt ng tv gv) (hb : Below wr.heap.size wr w') : RunPre w' W b9 N M A F T G nt ng tv gv :=
  ⟨h.ar.later hb, h.cap, h.most, h.box.later hb, h.t.later hb, h.g.later hb, h.td, h.gd, h.b9, below_chain h.below hb⟩
theorem RunPre.alloc {wr W : World} {b9 N M : Nat} {A : AS} {F : Nat → Prop} {T G : List (Nat × Nat)} {nt ng : Nat} {tv gv : Value} (h : RunPre wr W b9 N M A F T G nt ng tv gv) (o : Obj) : RunPre (wr.alloc o) W b9 N M A F T G nt ng tv gv := h.later ((Below.refl _ _).alloc (Nat.le_refl _) o)
theorem RunPre.moved {wr W w' : World} {b9 N M : Nat} {A A' : AS} {F F' : Nat → Prop} {T G : List (Nat × Nat)} {nt ng : Nat} {tv gv : Value} (h : RunPre wr W b9 N M A F T G nt ng tv gv) (har : AR w' W.heap.size W.heap.size F' A') (mv : Moved F F' wr w') (hc : A'.cap = N) (hm : A'.most = M) : RunPre w' W b9 N M A' F' T G nt ng tv gv :=
  ⟨har, hc, hm, h.box.moved mv, hrow_keeps h.t mv.keeps (fun b hb => (h.td b hb).1), hrow_keeps h.g mv.keeps (fun b hb => (h.gd b hb).1),
   fun b hb => ⟨fun hf => mv.apart (fun k hk => (h.t.1.lt k hk).2) (fun k hk hr => (h.td k hr).1 hk) b hf hb, (h.td b hb).2⟩,
   fun b hb => ⟨fun hf => mv.apart (fun k hk => (h.g.1.lt k hk).2) (fun k hk hr => (h.gd k hr).1 hk) b hf hb, (h.gd b hb).2⟩, h.b9, h.below.trans (mv.below_old h.ar.lt h.below.size)⟩
/-- The document's arena is written anew into its box. -/
theorem RunPre.put {wr W : World} {b9 N M : Nat} {A : AS} {F : Nat → Prop} {T G T' G' : List (Nat × Nat)} {nt ng nt' ng' : Nat} {tv gv tv' gv' : Value} (h : RunPre wr W b9 N M A F T G nt ng tv gv) (ht : HRow wr W.heap.size tv' nt' T') (hg : HRow wr W.heap.size gv' ng' G')
    (htd : ∀ b, rowF tv' b → ¬ F b ∧ b ≠ b9) (hgd : ∀ b, rowF gv' b → ¬ F b ∧ b ≠ b9) :
    RunPre ((((wr.setCell ⟨b9, 0, none⟩ (.int .i64 N)).setCell ⟨b9, 1, none⟩ (.int .u32 M)).setCell ⟨b9, 2, none⟩ tv').setCell ⟨b9, 3, none⟩ gv') W b9 N M A F T' G' nt' ng' tv' gv' := by
  have k : Keeps (· = b9) wr ((((wr.setCell ⟨b9, 0, none⟩ (.int .i64 N)).setCell ⟨b9, 1, none⟩ (.int .u32 M)).setCell ⟨b9, 2, none⟩ tv').setCell ⟨b9, 3, none⟩ gv') :=
    ((((Keeps.refl (· = b9) wr).setCell ⟨b9, 0, none⟩ (Or.inl rfl) _).setCell ⟨b9, 1, none⟩ (Or.inl rfl) _).setCell ⟨b9, 2, none⟩ (Or.inl rfl) _).setCell ⟨b9, 3, none⟩ (Or.inl rfl) _
  exact ⟨h.ar.keeps k (fun b hb e => h.box.off (e ▸ hb)), h.cap, h.most, ⟨blk_set (blk_set (blk_set (blk_set h.box.blk 0 _) 1 _) 2 _) 3 _, h.box.off⟩, hrow_keeps ht k (fun b hb e => (htd b hb).2 e), hrow_keeps hg k (fun b hb e => (hgd b hb).2 e), htd, hgd, h.b9,
    h.below.trans (k.below h.below.size (fun b e => by have := h.b9; omega))⟩
theorem RunPre.other {wr W : World} {b9 N M : Nat} {A : AS} {F : Nat → Prop} {T G : List (Nat × Nat)} {nt ng : Nat} {tv gv : Value} {a : Addr} (h : RunPre wr W b9 N M A F T G nt ng tv gv) (hF : ¬ F a.block) (h9 : a.block ≠ b9) (ht : ∀ b, rowF tv b → b ≠ a.block) (hg : ∀ b, rowF gv b → b ≠ a.block) (hW : W.heap.size ≤ a.block) (v : Value) :
    RunPre (wr.setCell a v) W b9 N M A F T G nt ng tv gv := by
  have k : Keeps (· = a.block) wr (wr.setCell a v) := (Keeps.refl (· = a.block) wr).setCell a (Or.inl rfl) _
  exact ⟨h.ar.keeps k (fun b hb e => hF (e ▸ hb)), h.cap, h.most, ⟨blk_set_other h.box.blk h9 _, h.box.off⟩, hrow_keeps h.t k (fun b hb e => ht b hb e), hrow_keeps h.g k (fun b hb e => hg b hb e), h.td, h.gd, h.b9, h.below.trans (k.below h.below.size (fun b e => by omega))⟩
theorem Box.put {F : Nat → Prop} {wr : World} {b9 b : Nat} {c : Array Value} {t : TypeId} {v0 v1 v2 v3 : Value} (h : Box F wr b c t) (hne : b9 ≠ b) : Box F ((((wr.setCell ⟨b9, 0, none⟩ v0).setCell ⟨b9, 1, none⟩ v1).setCell ⟨b9, 2, none⟩ v2).setCell ⟨b9, 3, none⟩ v3) b c t :=
  ⟨blk_set_other (a := ⟨b9, 3, none⟩) (blk_set_other (a := ⟨b9, 2, none⟩) (blk_set_other (a := ⟨b9, 1, none⟩) (blk_set_other (a := ⟨b9, 0, none⟩) h.blk hne _) hne _) hne _) hne _, h.off⟩
theorem hrow_low {w : World} {B B' : Nat} {v : Value} {n : Nat} {l : List (Nat × Nat)} (h : w.ownsRow B' 30 2 v n (cellsH l)) (hB : B ≤ B') (hl : l.length = n) (hn : n ≤ 60) : HRow w B v n l :=
  ⟨⟨h.1, h.2.imp id (fun ⟨g, cap, cur, hv, hb, r⟩ => ⟨g, cap, cur, hv, by omega, r⟩)⟩, hl, hn⟩
/-- At a round's head. -/
structure RunSt (wr W : World) (b9 k N M : Nat) (A : AS) (F : Nat → Prop) (T G : List (Nat × Nat)) (nt ng : Nat) (tv gv : Value) : Prop where
  pre : RunPre wr W b9 N M A F T G nt ng tv gv
  sim : Sim A T G
  nt : nt ≤ k
theorem RunSt.ar {wr W : World} {b9 k N M : Nat} {A : AS} {F : Nat → Prop} {T G : List (Nat × Nat)} {nt ng : Nat} {tv gv : Value} (h : RunSt wr W b9 k N M A F T G nt ng tv gv) : AR wr W.heap.size W.heap.size F A := h.pre.ar
theorem RunSt.cap {wr W : World} {b9 k N M : Nat} {A : AS} {F : Nat → Prop} {T G : List (Nat × Nat)} {nt ng : Nat} {tv gv : Value} (h : RunSt wr W b9 k N M A F T G nt ng tv gv) : A.cap = N := h.pre.cap
theorem RunSt.most {wr W : World} {b9 k N M : Nat} {A : AS} {F : Nat → Prop} {T G : List (Nat × Nat)} {nt ng : Nat} {tv gv : Value} (h : RunSt wr W b9 k N M A F T G nt ng tv gv) : A.most = M := h.pre.most
theorem RunSt.box {wr W : World} {b9 k N M : Nat} {A : AS} {F : Nat → Prop} {T G : List (Nat × Nat)} {nt ng : Nat} {tv gv : Value} (h : RunSt wr W b9 k N M A F T G nt ng tv gv) : Box F wr b9 #[.int .i64 N, .int .u32 M, tv, gv] 34 := h.pre.box
theorem RunSt.t {wr W : World} {b9 k N M : Nat} {A : AS} {F : Nat → Prop} {T G : List (Nat × Nat)} {nt ng : Nat} {tv gv : Value} (h : RunSt wr W b9 k N M A F T G nt ng tv gv) : HRow wr W.heap.size tv nt T := h.pre.t
theorem RunSt.g {wr W : World} {b9 k N M : Nat} {A : AS} {F : Nat → Prop} {T G : List (Nat × Nat)} {nt ng : Nat} {tv gv : Value} (h : RunSt wr W b9 k N M A F T G nt ng tv gv) : HRow wr W.heap.size gv ng G := h.pre.g
theorem RunSt.below {wr W : World} {b9 k N M : Nat} {A : AS} {F : Nat → Prop} {T G : List (Nat × Nat)} {nt ng : Nat} {tv gv : Value} (h : RunSt wr W b9 k N M A F T G nt ng tv gv) : Below W.heap.size W wr := h.pre.below
theorem RunSt.later {wr W w' : World} {b9 k N M : Nat} {A : AS} {F : Nat → Prop} {T G : List (Nat × Nat)} {nt ng : Nat} {tv gv : Value} (h : RunSt wr W b9 k N M A F T G nt ng tv gv) (hb : Below wr.heap.size wr w') : RunSt w' W b9 k N M A F T G nt ng tv gv := ⟨h.pre.later hb, h.sim, h.nt⟩
theorem RunSt.next {wr W : World} {b9 k N M : Nat} {A : AS} {F : Nat → Prop} {T G : List (Nat × Nat)} {nt ng : Nat} {tv gv : Value} (h : RunSt wr W b9 k N M A F T G nt ng tv gv) : RunSt wr W b9 (k + 1) N M A F T G nt ng tv gv := ⟨h.pre, h.sim, Nat.le_succ_of_le h.nt⟩

/-- Behind the switch. -/
def SwSt (W : World) (b9 b12 k N M : Nat) (x : Int) (wx : World) : Prop :=
  ∃ (A : AS) (F : Nat → Prop) (T G : List (Nat × Nat)) (nt ng : Nat) (tv gv : Value) (s g : Int), RunSt wx W b9 (k + 1) N M A F T G nt ng tv gv ∧ Box F wx b12 #[.int .i64 x, .int .i64 s, .int .u32 g] 38

set_option maxRecDepth 100000 in
set_option maxHeartbeats 8000000 in
theorem runs_walk (N M : Nat) (hN : N ≤ 40) (hM : 1 ≤ M ∧ M ≤ 4294967295) (a : Option Addr) (n cap : Nat) (hn : n ≤ 60) (hcap : n ≤ cap ∧ cap ≤ 9223372036854775807) (w : World)
    (hact : ∀ k, k < n → ∃ b off x y z, a = some ⟨b, off, none⟩ ∧ w.cell? ⟨b, off + k * 3, none⟩ = some (.int .i64 x) ∧ w.cell? ⟨b, off + k * 3 + 1, none⟩ = some (.int .i64 y) ∧ w.cell? ⟨b, off + k * 3 + 2, none⟩ = some (.int .u32 z)) :
    Calls Try.prog 4 #[.int .i64 N, .int .u32 M, .slice a n cap] w fun e w' => e = .returned (.bool true) ∧ Below w.heap.size w w' := by
  obtain ⟨hM1, hM2⟩ := hM
  obtain ⟨hcap1, hcap2⟩ := hcap
  go_enter Try.func4, Try.ntmps4
  go_wp2_with fail
  refine (alive_any _).mono ?_
  rintro e W ⟨rfl, hb⟩
  go_wp2_with fail
  refine (new_ar W.heap.size N M W (by omega) ⟨hM1, hM2⟩ (Nat.le_refl _)).mono ?_
  rintro e w1 ⟨rfl, F, h1, hF, hb1⟩
  go_wp2_with fail
  refine (refnew_ok N M w1 (by omega) hM1).mono ?_
  rintro e w2 ⟨rfl, hb2⟩
  have hst : RunSt (w2.alloc (.cells #[.int .i64 N, .int .u32 M, .slice none 0 0, .slice none 0 0] 34)) W w2.heap.size 0 N M ⟨N, M, [], [], 0⟩ F [] [] 0 0 (.slice none 0 0) (.slice none 0 0) :=
    ⟨⟨(h1.later hb2).alloc _, rfl, rfl, Box.new (fun k hk => ((h1.later hb2).lt k hk).2) _ _, ⟨World.ownsRow_nil _ _ _ _, rfl, by omega⟩, ⟨World.ownsRow_nil _ _ _ _, rfl, by omega⟩, fun b hb => by simp [rowF, Value.ownBlock] at hb, fun b hb => by simp [rowF, Value.ownBlock] at hb, Nat.le_trans hb1.size hb2.size, (below_chain hb1 hb2).alloc (Nat.le_trans hb1.size hb2.size) _⟩, sim_start N M (by omega) ⟨hM1, hM2⟩, Nat.le_refl _⟩
  clear h1 hF hb1 hb2
  go_wp2_with fail
  obtain ⟨w3, hw3⟩ : ∃ w3 : World, w3 = w2.alloc (.cells #[.int .i64 N, .int .u32 M, .slice none 0 0, .slice none 0 0] 34) := ⟨_, rfl⟩
  rw [← hw3]
  rw [← hw3] at hst
  generalize w2.heap.size = b9 at *
  clear hw3
  go_loopw [66] (fun i wr => ∃ (k : Nat) (A : AS) (F : Nat → Prop) (T G : List (Nat × Nat)) (nt ng : Nat) (tv gv : Value), k ≤ n ∧ i = .int .i64 k ∧ RunSt wr W b9 k N M A F T G nt ng tv gv) (fun i _ => n - (intOf i).toNat)
  case atStart => exact ⟨0, _, _, _, _, _, _, _, _, Nat.zero_le _, rfl, hst⟩
  case round =>
    clear hst
    obtain ⟨k, A, F, T, G, nt, ng, tv, gv, hk, rfl, hst⟩ := hrel
    by_cases hlt : k < n
    · have hki : (k : Int) < n := by omega
      obtain ⟨ba, offa, x, y, z, rfl, a0, a1, a2⟩ := hact k hlt
      replace a0 := later hst.below (later hb a0)
      replace a1 := later hst.below (later hb a1)
      replace a2 := later hst.below (later hb a2)
      go_upto_block 2 with fail
      have hst1 := hst.later ((Below.refl _ _).alloc (Nat.le_refl _) (.cells #[.int .i64 x, .int .i64 y, .int .u32 z] 38))
      have hb12 := Box.new (F := F) (fun b hb => (hst.ar.lt b hb).2) #[.int .i64 x, .int .i64 y, .int .u32 z] 38
      have hne12 : b9 ≠ wr.heap.size := by have := blk_lt hst.box.blk; omega
      have ht12 : ∀ b, rowF tv b → b ≠ wr.heap.size := fun b hb e => absurd (hst.t.1.lt b hb).2 (by omega)
      have hg12 : ∀ b, rowF gv b → b ≠ wr.heap.size := fun b hb e => absurd (hst.g.1.lt b hb).2 (by omega)
      have hW12 := hst.below.size
      obtain ⟨wr1, hwr1⟩ : ∃ w9 : World, w9 = wr.alloc (.cells #[.int .i64 x, .int .i64 y, .int .u32 z] 38) := ⟨_, rfl⟩
      rw [← hwr1]
      rw [← hwr1] at hst1 hb12
      clear hst a0 a1 a2
      generalize wr.heap.size = b12 at *
      clear hwr1
      go_cut [12] (fun s12 wx => s12 = .pointer (some ⟨b12, 0, none⟩) ∧ SwSt W b9 b12 k N M x wx)
      case first =>
        by_cases hx0 : x = 0
        · subst hx0
          go_wp2_with fail
          cases ht : takeA A with
          | none =>
            have hful := sim_take_full hst1.sim ht
            rw [hst1.cap, hst1.most] at hful
            have hsim' := hst1.sim
            have hnt := hst1.nt
            refine (take_none_ar ht hst1.pre.ar).mono ?_
            rintro e v1 ⟨rfl, hb1⟩
            unfold Hnd
            have l9a := blk_lt (hst1.box.later hb1).blk
            have hpre := (hst1.pre.later hb1).alloc (.cells #[.int .i64 0, .int .u32 0] 30)
            have x12 := (hb12.later hb1).alloc (.cells #[.int .i64 0, .int .u32 0] 30)
            have x13 := blk_new v1 #[.int .i64 0, .int .u32 0] 30
            clear ht hst1 hb12 hb1
            have d0 := hpre.box.cell (o := 0) (v := .int .i64 N) rfl
            have d1 := hpre.box.cell (o := 1) (v := .int .u32 M) rfl
            have d2 := hpre.box.cell (o := 2) (v := tv) rfl
            have d3 := hpre.box.cell (o := 3) (v := gv) rfl
            have hT := reftake_full W.heap.size N M tv gv nt ng T G hful.1 hful.2 _ hpre.t hpre.g
            clear hful
            obtain ⟨ta', tc', hte, _, _⟩ := hpre.t.form
            subst hte
            obtain ⟨ga', gc', hge, _, _⟩ := hpre.g.form
            subst hge
            go_wp2_with fail
            refine hT.mono ?_
            rintro e v2 ⟨rfl, hb2⟩
            have hpre2 := hpre.later hb2
            have x12' := x12.later hb2
            have x13' := later_blk hb2 x13
            clear d0 d1 d2 d3 hT x12 x13
            have hput := ((hpre2.put hpre2.t hpre2.g hpre2.td hpre2.gd).alloc (.cells #[.int .i64 N, .int .u32 M, .slice ta' nt tc', .slice ga' ng gc'] 34)).alloc (.cells #[.int .i64 0, .int .u32 0] 30)
            have hx12 := ((x12'.put (v0 := .int .i64 N) (v1 := .int .u32 M) (v2 := .slice ta' nt tc') (v3 := .slice ga' ng gc') hne12).alloc (.cells #[.int .i64 N, .int .u32 M, .slice ta' nt tc', .slice ga' ng gc'] 34)).alloc (.cells #[.int .i64 0, .int .u32 0] 30)
            have l9' := blk_lt hpre2.box.blk
            have l13' := blk_lt x13'
            have n13 : b9 ≠ v1.heap.size := by omega
            have q0 := hpre2.box.cell (o := 0) (v := .int .i64 N) rfl
            have q1 := hpre2.box.cell (o := 1) (v := .int .u32 M) rfl
            have q2 := hpre2.box.cell (o := 2) (v := .slice ta' nt tc') rfl
            have q3 := hpre2.box.cell (o := 3) (v := .slice ga' ng gc') rfl
            have f0 := blk_free hpre2.box.blk 0
            have f1 := blk_free hpre2.box.blk 1
            have f2 := blk_free hpre2.box.blk 2
            have f3 := blk_free hpre2.box.blk 3
            have r0 := blk_cell x13' (o := 0) (v := .int .i64 0) rfl
            have r1 := blk_cell x13' (o := 1) (v := .int .u32 0) rfl
            clear hpre hpre2 x12' x13' hb2
            go_wp2_with fail
            go_meet
            exact ⟨rfl, A, F, T, G, nt, ng, _, _, y, z, ⟨hput, hsim', by omega⟩, hx12⟩
          | some tk =>
            obtain ⟨s, g, A'⟩ := tk
            have htf := take_fit hst1.pre.ar.fit ht
            have hcase := sim_take_case hst1.sim ht
            have hsim' := sim_take hst1.sim ht
            have htl := Lib.hid hst1.t.2.1
            have hnt := hst1.nt
            rw [hst1.cap, hst1.most] at hcase
            refine (take_ar ht hst1.pre.ar).mono ?_
            rintro e v1 ⟨rfl, F', har', mv⟩
            unfold Hnd
            have l9a := blk_lt (hst1.box.moved mv).blk
            have hpre := (hst1.pre.moved har' mv (by rw [htf.2.1, hst1.cap]) (by rw [htf.2.2.1, hst1.most])).alloc (.cells #[.int .i64 s, .int .u32 g] 30)
            have x12 := (hb12.moved mv).alloc (.cells #[.int .i64 s, .int .u32 g] 30)
            have x13 := Box.new (F := F') (fun b hb => (har'.lt b hb).2) #[.int .i64 s, .int .u32 g] 30
            clear htf ht mv har' hst1 hb12
            have d0 := hpre.box.cell (o := 0) (v := .int .i64 N) rfl
            have d1 := hpre.box.cell (o := 1) (v := .int .u32 M) rfl
            have d2 := hpre.box.cell (o := 2) (v := tv) rfl
            have d3 := hpre.box.cell (o := 3) (v := gv) rfl
            have hT := reftake_some W.heap.size N M (by omega) tv gv nt ng T G s g hcase _ hpre.t hpre.g
            clear hcase
            go_wp2_with fail
            refine hT.mono ?_
            rintro e v2 ⟨tv', rfl, ho', hb2⟩
            have hpre2 := hpre.later hb2
            have x12' := x12.later hb2
            have x13' := x13.later hb2
            have hF13 := fun b hb => (hpre.ar.lt b hb).2
            have l9 := blk_lt hpre.box.blk
            have hlow := fun b hb => (ho'.lt b hb).1
            have hW2 := hpre.below.size
            obtain ⟨ta', tc', rfl, _, _⟩ := owns_form ho'
            obtain ⟨ga', gc', hge, _, _⟩ := hpre.g.form
            subst hge
            clear d0 d1 d2 d3 hT x12 x13
            have ht' : HRow v2 W.heap.size (.slice ta' (nt + 1) tc') (nt + 1) (T ++ [(s, g)]) := hrow_low ho' hW2 (by rw [List.length_append, htl.out]; rfl) (by omega)
            have htd' : ∀ b, rowF (.slice ta' (nt + 1) tc') b → ¬ F' b ∧ b ≠ b9 := fun b hb => ⟨fun hf => absurd (hF13 b hf) (by have := hlow b hb; omega), by have := hlow b hb; omega⟩
            have hput := ((hpre2.put ht' hpre2.g htd' hpre2.gd).alloc (.cells #[.int .i64 N, .int .u32 M, .slice ta' (nt + 1) tc', .slice ga' ng gc'] 34)).alloc (.cells #[.int .i64 s, .int .u32 g] 30)
            have hx12 := ((x12'.put (v0 := .int .i64 N) (v1 := .int .u32 M) (v2 := .slice ta' (nt + 1) tc') (v3 := .slice ga' ng gc') hne12).alloc (.cells #[.int .i64 N, .int .u32 M, .slice ta' (nt + 1) tc', .slice ga' ng gc'] 34)).alloc (.cells #[.int .i64 s, .int .u32 g] 30)
            have l9' := blk_lt hpre2.box.blk
            have l13' := blk_lt x13'.blk
            have n13 : b9 ≠ v1.heap.size := by omega
            have q0 := hpre2.box.cell (o := 0) (v := .int .i64 N) rfl
            have q1 := hpre2.box.cell (o := 1) (v := .int .u32 M) rfl
            have q2 := hpre2.box.cell (o := 2) (v := tv) rfl
            have q3 := hpre2.box.cell (o := 3) (v := .slice ga' ng gc') rfl
            have f0 := blk_free hpre2.box.blk 0
            have f1 := blk_free hpre2.box.blk 1
            have f2 := blk_free hpre2.box.blk 2
            have f3 := blk_free hpre2.box.blk 3
            have r0 := x13'.cell (o := 0) (v := .int .i64 s) rfl
            have r1 := x13'.cell (o := 1) (v := .int .u32 g) rfl
            clear hpre hpre2 ht' htd' ho' hlow hF13 x12' x13' hb2
            go_wp2_with fail
            go_meet
            exact ⟨rfl, A', F', T ++ [(s, g)], G, nt + 1, ng, _, _, y, z, ⟨hput, hsim', by omega⟩, hx12⟩
        · have hx0' : (x == 0) = false := by simpa using hx0
          clear hx0
          by_cases hx1 : x = 1
          · subst hx1
            have hAt := sim_atV hst1.sim y
            obtain ⟨p, q, r, hpq⟩ : ∃ (p q : Int) (r : Bool), atV A y = .tuple #[.agg #[.int .i64 p, .int .u32 q], .bool r] := by
              unfold atV Hnd
              split
              · exact ⟨_, _, _, rfl⟩
              · exact ⟨_, _, _, rfl⟩
            rw [hpq] at hAt
            have hA2 := fun w' h h2 => atref_any W.heap.size N M tv gv nt ng T G y w' h h2
            rw [← hAt] at hA2
            clear hAt hpq
            have l12 := blk_lt hb12.blk
            have c0 := hb12.cell (o := 0) (v := .int .i64 1) rfl
            have c1 := hb12.cell (o := 1) (v := .int .i64 y) rfl
            have c2 := hb12.cell (o := 2) (v := .int .u32 z) rfl
            have d0 := hst1.box.cell (o := 0) (v := .int .i64 N) rfl
            have d1 := hst1.box.cell (o := 1) (v := .int .u32 M) rfl
            have d2 := hst1.box.cell (o := 2) (v := tv) rfl
            have d3 := hst1.box.cell (o := 3) (v := gv) rfl
            go_wp2_with fail
            refine (hA2 _ hst1.t hst1.g).mono ?_
            rintro e v1 ⟨rfl, hb1⟩
            have hst := (hst1.later hb1).later ((Below.refl _ _).alloc (Nat.le_refl _) (.cells #[.int .i64 p, .int .u32 q] 30))
            have x12 := (hb12.later hb1).alloc (.cells #[.int .i64 p, .int .u32 q] 30)
            have x12b := hb12.later hb1
            have hstb := hst1.later hb1
            clear c0 c1 c2 d0 d1 d2 d3 hst1 hb12 hA2 hb1 l12
            cases r
            · clear hstb x12b
              have c0 := x12.cell (o := 0) (v := .int .i64 1) rfl
              have c1 := x12.cell (o := 1) (v := .int .i64 y) rfl
              have c2 := x12.cell (o := 2) (v := .int .u32 z) rfl
              cases hl : liveB A y z
              · have hl2 : (hasH T y z && !hasH G y z) = false := by rw [sim_live hst.sim]; exact hl
                have hS := stale_ar hl hst.ar
                have hR := fun w' h h2 => refgive_stale W.heap.size N M tv gv nt ng T G y z hl2 w' h h2
                obtain ⟨ta', tc', hte, _, _⟩ := hst.t.form
                subst hte
                obtain ⟨ga', gc', hge, _, _⟩ := hst.g.form
                subst hge
                clear hl hl2
                go_wp2_with fail
                refine hS.mono ?_
                rintro e u1 ⟨rfl, hbu⟩
                replace hst := hst.later hbu
                replace x12 := x12.later hbu
                clear c0 c1 c2 hS hbu
                have c0 := x12.cell (o := 0) (v := .int .i64 1) rfl
                have c1 := x12.cell (o := 1) (v := .int .i64 y) rfl
                have c2 := x12.cell (o := 2) (v := .int .u32 z) rfl
                have d0 := hst.box.cell (o := 0) (v := .int .i64 N) rfl
                have d1 := hst.box.cell (o := 1) (v := .int .u32 M) rfl
                have d2 := hst.box.cell (o := 2) (v := .slice ta' nt tc') rfl
                have d3 := hst.box.cell (o := 3) (v := .slice ga' ng gc') rfl
                go_wp2_with fail
                refine (hR _ hst.t hst.g).mono ?_
                rintro e u2 ⟨rfl, hbu⟩
                replace hst := hst.later hbu
                replace x12 := x12.later hbu
                clear c0 c1 c2 d0 d1 d2 d3 hR hbu
                have hput := (hst.pre.put hst.t hst.g hst.pre.td hst.pre.gd).alloc (.cells #[.int .i64 N, .int .u32 M, .slice ta' nt tc', .slice ga' ng gc'] 34)
                have hx12 := (x12.put (v0 := .int .i64 N) (v1 := .int .u32 M) (v2 := .slice ta' nt tc') (v3 := .slice ga' ng gc') hne12).alloc (.cells #[.int .i64 N, .int .u32 M, .slice ta' nt tc', .slice ga' ng gc'] 34)
                have hsim' := hst.sim
                have hnt := hst.nt
                have l9' := blk_lt hst.box.blk
                have q0 := hst.box.cell (o := 0) (v := .int .i64 N) rfl
                have q1 := hst.box.cell (o := 1) (v := .int .u32 M) rfl
                have q2 := hst.box.cell (o := 2) (v := .slice ta' nt tc') rfl
                have q3 := hst.box.cell (o := 3) (v := .slice ga' ng gc') rfl
                have f0 := blk_free hst.box.blk 0
                have f1 := blk_free hst.box.blk 1
                have f2 := blk_free hst.box.blk 2
                have f3 := blk_free hst.box.blk 3
                clear hst x12
                go_wp2_with fail
                go_meet
                exact ⟨rfl, A, F, T, G, nt, ng, _, _, _, _, ⟨hput, hsim', by omega⟩, hx12⟩
              · have hl2 : (hasH T y z && !hasH G y z) = true := by rw [sim_live hst.sim]; exact hl
                obtain ⟨i, kk, hi1, hi2, hui, hug⟩ := live_at hl
                subst hi1
                subst hi2
                have hS := give_ar hui hug hst.ar
                have hsim' := sim_give hst.sim hui hug
                have hgf := (give_fit hst.ar.fit hui hug).2.1
                have hcnt := hst.sim.cnt
                have hnt := hst.nt
                have hgl := Lib.hid hst.g.2.1
                have hng : ng + 1 ≤ 60 := by have := hst.t.2; have := hst.g.2; omega
                have hR := fun w' h h2 => refgive_live W.heap.size N M tv gv nt ng T G i kk hl2 w' h h2
                have hcN := Lib.hid hst.cap
                have hmM := Lib.hid hst.most
                obtain ⟨ta', tc', hte, _, _⟩ := hst.t.form
                subst hte
                clear hl hl2 hug hui hgf hcnt
                go_wp2_with fail
                refine hS.mono ?_
                rintro e u1 ⟨rfl, F', har', mv⟩
                have hpre := hst.pre.moved har' mv hcN.out hmM.out
                replace x12 := x12.moved mv
                clear c0 c1 c2 hS mv har' hst hcN hmM
                have c0 := x12.cell (o := 0) (v := .int .i64 1) rfl
                have c1 := x12.cell (o := 1) (v := .int .i64 i) rfl
                have c2 := x12.cell (o := 2) (v := .int .u32 kk) rfl
                have d0 := hpre.box.cell (o := 0) (v := .int .i64 N) rfl
                have d1 := hpre.box.cell (o := 1) (v := .int .u32 M) rfl
                have d2 := hpre.box.cell (o := 2) (v := .slice ta' nt tc') rfl
                have d3 := hpre.box.cell (o := 3) (v := gv) rfl
                go_wp2_with fail
                refine (hR _ hpre.t hpre.g).mono ?_
                rintro e u2 ⟨gv', rfl, ho', hbu⟩
                have hpre2 := hpre.later hbu
                have hF13 := fun b hb => (hpre.ar.lt b hb).2
                have l9 := blk_lt hpre.box.blk
                have hlow := fun b hb => (ho'.lt b hb).1
                have hW2 := hpre.below.size
                replace x12 := x12.later hbu
                clear c0 c1 c2 d0 d1 d2 d3 hR hbu
                obtain ⟨ga', gc', hge, _, _⟩ := owns_form ho'
                subst hge
                have hg' : HRow u2 W.heap.size (.slice ga' (ng + 1) gc') (ng + 1) (G ++ [(i, kk)]) := hrow_low ho' hW2 (by rw [List.length_append, hgl.out]; rfl) hng
                have hgd' : ∀ b, rowF (.slice ga' (ng + 1) gc') b → ¬ F' b ∧ b ≠ b9 := fun b hb => ⟨fun hf => absurd (hF13 b hf) (by have := hlow b hb; omega), by have := hlow b hb; omega⟩
                have hput := (hpre2.put hpre2.t hg' hpre2.td hgd').alloc (.cells #[.int .i64 N, .int .u32 M, .slice ta' nt tc', .slice ga' (ng + 1) gc'] 34)
                have hx12 := (x12.put (v0 := .int .i64 N) (v1 := .int .u32 M) (v2 := .slice ta' nt tc') (v3 := .slice ga' (ng + 1) gc') hne12).alloc (.cells #[.int .i64 N, .int .u32 M, .slice ta' nt tc', .slice ga' (ng + 1) gc'] 34)
                have l9' := blk_lt hpre2.box.blk
                have q0 := hpre2.box.cell (o := 0) (v := .int .i64 N) rfl
                have q1 := hpre2.box.cell (o := 1) (v := .int .u32 M) rfl
                have q2 := hpre2.box.cell (o := 2) (v := .slice ta' nt tc') rfl
                have q3 := hpre2.box.cell (o := 3) (v := gv) rfl
                have f0 := blk_free hpre2.box.blk 0
                have f1 := blk_free hpre2.box.blk 1
                have f2 := blk_free hpre2.box.blk 2
                have f3 := blk_free hpre2.box.blk 3
                obtain ⟨ga0, gc0, hg0, _, _⟩ := hpre2.g.form
                subst hg0
                clear hpre hpre2 hg' hgd' ho' hlow hF13 x12 hgl
                go_wp2_with fail
                go_meet
                exact ⟨rfl, giveA A i kk, F', T, G ++ [(i, kk)], nt, ng + 1, _, _, _, _, ⟨hput, hsim', by omega⟩, hx12⟩
            · clear hstb x12b
              have c0 := x12.cell (o := 0) (v := .int .i64 1) rfl
              have c1 := x12.cell (o := 1) (v := .int .i64 y) rfl
              have c2 := x12.cell (o := 2) (v := .int .u32 z) rfl
              cases hl : liveB A y z
              · have hl2 : (hasH T y z && !hasH G y z) = false := by rw [sim_live hst.sim]; exact hl
                have hS := stale_ar hl hst.ar
                have hR := fun w' h h2 => refgive_stale W.heap.size N M tv gv nt ng T G y z hl2 w' h h2
                obtain ⟨ta', tc', hte, _, _⟩ := hst.t.form
                subst hte
                obtain ⟨ga', gc', hge, _, _⟩ := hst.g.form
                subst hge
                clear hl hl2
                go_wp2_with fail
                refine hS.mono ?_
                rintro e u1 ⟨rfl, hbu⟩
                replace hst := hst.later hbu
                replace x12 := x12.later hbu
                clear c0 c1 c2 hS hbu
                have c0 := x12.cell (o := 0) (v := .int .i64 1) rfl
                have c1 := x12.cell (o := 1) (v := .int .i64 y) rfl
                have c2 := x12.cell (o := 2) (v := .int .u32 z) rfl
                have d0 := hst.box.cell (o := 0) (v := .int .i64 N) rfl
                have d1 := hst.box.cell (o := 1) (v := .int .u32 M) rfl
                have d2 := hst.box.cell (o := 2) (v := .slice ta' nt tc') rfl
                have d3 := hst.box.cell (o := 3) (v := .slice ga' ng gc') rfl
                go_wp2_with fail
                refine (hR _ hst.t hst.g).mono ?_
                rintro e u2 ⟨rfl, hbu⟩
                replace hst := hst.later hbu
                replace x12 := x12.later hbu
                clear c0 c1 c2 d0 d1 d2 d3 hR hbu
                have hput := (hst.pre.put hst.t hst.g hst.pre.td hst.pre.gd).alloc (.cells #[.int .i64 N, .int .u32 M, .slice ta' nt tc', .slice ga' ng gc'] 34)
                have hx12 := (x12.put (v0 := .int .i64 N) (v1 := .int .u32 M) (v2 := .slice ta' nt tc') (v3 := .slice ga' ng gc') hne12).alloc (.cells #[.int .i64 N, .int .u32 M, .slice ta' nt tc', .slice ga' ng gc'] 34)
                have hsim' := hst.sim
                have hnt := hst.nt
                have l9' := blk_lt hst.box.blk
                have q0 := hst.box.cell (o := 0) (v := .int .i64 N) rfl
                have q1 := hst.box.cell (o := 1) (v := .int .u32 M) rfl
                have q2 := hst.box.cell (o := 2) (v := .slice ta' nt tc') rfl
                have q3 := hst.box.cell (o := 3) (v := .slice ga' ng gc') rfl
                have f0 := blk_free hst.box.blk 0
                have f1 := blk_free hst.box.blk 1
                have f2 := blk_free hst.box.blk 2
                have f3 := blk_free hst.box.blk 3
                clear hst x12
                go_wp2_with fail
                go_meet
                exact ⟨rfl, A, F, T, G, nt, ng, _, _, _, _, ⟨hput, hsim', by omega⟩, hx12⟩
              · have hl2 : (hasH T y z && !hasH G y z) = true := by rw [sim_live hst.sim]; exact hl
                obtain ⟨i, kk, hi1, hi2, hui, hug⟩ := live_at hl
                subst hi1
                subst hi2
                have hS := give_ar hui hug hst.ar
                have hsim' := sim_give hst.sim hui hug
                have hgf := (give_fit hst.ar.fit hui hug).2.1
                have hcnt := hst.sim.cnt
                have hnt := hst.nt
                have hgl := Lib.hid hst.g.2.1
                have hng : ng + 1 ≤ 60 := by have := hst.t.2; have := hst.g.2; omega
                have hR := fun w' h h2 => refgive_live W.heap.size N M tv gv nt ng T G i kk hl2 w' h h2
                have hcN := Lib.hid hst.cap
                have hmM := Lib.hid hst.most
                obtain ⟨ta', tc', hte, _, _⟩ := hst.t.form
                subst hte
                clear hl hl2 hug hui hgf hcnt
                go_wp2_with fail
                refine hS.mono ?_
                rintro e u1 ⟨rfl, F', har', mv⟩
                have hpre := hst.pre.moved har' mv hcN.out hmM.out
                replace x12 := x12.moved mv
                clear c0 c1 c2 hS mv har' hst hcN hmM
                have c0 := x12.cell (o := 0) (v := .int .i64 1) rfl
                have c1 := x12.cell (o := 1) (v := .int .i64 i) rfl
                have c2 := x12.cell (o := 2) (v := .int .u32 kk) rfl
                have d0 := hpre.box.cell (o := 0) (v := .int .i64 N) rfl
                have d1 := hpre.box.cell (o := 1) (v := .int .u32 M) rfl
                have d2 := hpre.box.cell (o := 2) (v := .slice ta' nt tc') rfl
                have d3 := hpre.box.cell (o := 3) (v := gv) rfl
                go_wp2_with fail
                refine (hR _ hpre.t hpre.g).mono ?_
                rintro e u2 ⟨gv', rfl, ho', hbu⟩
                have hpre2 := hpre.later hbu
                have hF13 := fun b hb => (hpre.ar.lt b hb).2
                have l9 := blk_lt hpre.box.blk
                have hlow := fun b hb => (ho'.lt b hb).1
                have hW2 := hpre.below.size
                replace x12 := x12.later hbu
                clear c0 c1 c2 d0 d1 d2 d3 hR hbu
                obtain ⟨ga', gc', hge, _, _⟩ := owns_form ho'
                subst hge
                have hg' : HRow u2 W.heap.size (.slice ga' (ng + 1) gc') (ng + 1) (G ++ [(i, kk)]) := hrow_low ho' hW2 (by rw [List.length_append, hgl.out]; rfl) hng
                have hgd' : ∀ b, rowF (.slice ga' (ng + 1) gc') b → ¬ F' b ∧ b ≠ b9 := fun b hb => ⟨fun hf => absurd (hF13 b hf) (by have := hlow b hb; omega), by have := hlow b hb; omega⟩
                have hput := (hpre2.put hpre2.t hg' hpre2.td hgd').alloc (.cells #[.int .i64 N, .int .u32 M, .slice ta' nt tc', .slice ga' (ng + 1) gc'] 34)
                have hx12 := (x12.put (v0 := .int .i64 N) (v1 := .int .u32 M) (v2 := .slice ta' nt tc') (v3 := .slice ga' (ng + 1) gc') hne12).alloc (.cells #[.int .i64 N, .int .u32 M, .slice ta' nt tc', .slice ga' (ng + 1) gc'] 34)
                have l9' := blk_lt hpre2.box.blk
                have q0 := hpre2.box.cell (o := 0) (v := .int .i64 N) rfl
                have q1 := hpre2.box.cell (o := 1) (v := .int .u32 M) rfl
                have q2 := hpre2.box.cell (o := 2) (v := .slice ta' nt tc') rfl
                have q3 := hpre2.box.cell (o := 3) (v := gv) rfl
                have f0 := blk_free hpre2.box.blk 0
                have f1 := blk_free hpre2.box.blk 1
                have f2 := blk_free hpre2.box.blk 2
                have f3 := blk_free hpre2.box.blk 3
                obtain ⟨ga0, gc0, hg0, _, _⟩ := hpre2.g.form
                subst hg0
                clear hpre hpre2 hg' hgd' ho' hlow hF13 x12 hgl
                go_wp2_with fail
                go_meet
                exact ⟨rfl, giveA A i kk, F', T, G ++ [(i, kk)], nt, ng + 1, _, _, _, _, ⟨hput, hsim', by omega⟩, hx12⟩
          · have hx1' : (x == 1) = false := by simpa using hx1
            clear hx1
            by_cases hx2 : x = 2
            · subst hx2
              have hAt := sim_atV hst1.sim y
              obtain ⟨p, q, r, hpq⟩ : ∃ (p q : Int) (r : Bool), atV A y = .tuple #[.agg #[.int .i64 p, .int .u32 q], .bool r] := by
                unfold atV Hnd
                split
                · exact ⟨_, _, _, rfl⟩
                · exact ⟨_, _, _, rfl⟩
              rw [hpq] at hAt
              have hA2 := fun w' h h2 => atref_any W.heap.size N M tv gv nt ng T G y w' h h2
              rw [← hAt] at hA2
              clear hAt hpq
              have l12 := blk_lt hb12.blk
              have c0 := hb12.cell (o := 0) (v := .int .i64 2) rfl
              have c1 := hb12.cell (o := 1) (v := .int .i64 y) rfl
              have c2 := hb12.cell (o := 2) (v := .int .u32 z) rfl
              have d0 := hst1.box.cell (o := 0) (v := .int .i64 N) rfl
              have d1 := hst1.box.cell (o := 1) (v := .int .u32 M) rfl
              have d2 := hst1.box.cell (o := 2) (v := tv) rfl
              have d3 := hst1.box.cell (o := 3) (v := gv) rfl
              go_wp2_with fail
              refine (hA2 _ hst1.t hst1.g).mono ?_
              rintro e v1 ⟨rfl, hb1⟩
              have hst := (hst1.later hb1).later ((Below.refl _ _).alloc (Nat.le_refl _) (.cells #[.int .i64 p, .int .u32 q] 30))
              have x12 := (hb12.later hb1).alloc (.cells #[.int .i64 p, .int .u32 q] 30)
              have x12b := hb12.later hb1
              have hstb := hst1.later hb1
              clear c0 c1 c2 d0 d1 d2 d3 hst1 hb12 hA2 hb1 l12
              cases r
              · clear hstb x12b
                have c0 := x12.cell (o := 0) (v := .int .i64 2) rfl
                have c1 := x12.cell (o := 1) (v := .int .i64 y) rfl
                have c2 := x12.cell (o := 2) (v := .int .u32 z) rfl
                cases hl : liveB A y z
                · have hl2 : (hasH T y z && !hasH G y z) = false := by rw [sim_live hst.sim]; exact hl
                  have hS := stale_ar hl hst.ar
                  have hR := fun w' h h2 => refgive_stale W.heap.size N M tv gv nt ng T G y z hl2 w' h h2
                  obtain ⟨ta', tc', hte, _, _⟩ := hst.t.form
                  subst hte
                  obtain ⟨ga', gc', hge, _, _⟩ := hst.g.form
                  subst hge
                  clear hl hl2
                  go_wp2_with fail
                  refine hS.mono ?_
                  rintro e u1 ⟨rfl, hbu⟩
                  replace hst := hst.later hbu
                  replace x12 := x12.later hbu
                  clear c0 c1 c2 hS hbu
                  have c0 := x12.cell (o := 0) (v := .int .i64 2) rfl
                  have c1 := x12.cell (o := 1) (v := .int .i64 y) rfl
                  have c2 := x12.cell (o := 2) (v := .int .u32 z) rfl
                  have d0 := hst.box.cell (o := 0) (v := .int .i64 N) rfl
                  have d1 := hst.box.cell (o := 1) (v := .int .u32 M) rfl
                  have d2 := hst.box.cell (o := 2) (v := .slice ta' nt tc') rfl
                  have d3 := hst.box.cell (o := 3) (v := .slice ga' ng gc') rfl
                  go_wp2_with fail
                  refine (hR _ hst.t hst.g).mono ?_
                  rintro e u2 ⟨rfl, hbu⟩
                  replace hst := hst.later hbu
                  replace x12 := x12.later hbu
                  clear c0 c1 c2 d0 d1 d2 d3 hR hbu
                  have hput := (hst.pre.put hst.t hst.g hst.pre.td hst.pre.gd).alloc (.cells #[.int .i64 N, .int .u32 M, .slice ta' nt tc', .slice ga' ng gc'] 34)
                  have hx12 := (x12.put (v0 := .int .i64 N) (v1 := .int .u32 M) (v2 := .slice ta' nt tc') (v3 := .slice ga' ng gc') hne12).alloc (.cells #[.int .i64 N, .int .u32 M, .slice ta' nt tc', .slice ga' ng gc'] 34)
                  have hsim' := hst.sim
                  have hnt := hst.nt
                  have l9' := blk_lt hst.box.blk
                  have q0 := hst.box.cell (o := 0) (v := .int .i64 N) rfl
                  have q1 := hst.box.cell (o := 1) (v := .int .u32 M) rfl
                  have q2 := hst.box.cell (o := 2) (v := .slice ta' nt tc') rfl
                  have q3 := hst.box.cell (o := 3) (v := .slice ga' ng gc') rfl
                  have f0 := blk_free hst.box.blk 0
                  have f1 := blk_free hst.box.blk 1
                  have f2 := blk_free hst.box.blk 2
                  have f3 := blk_free hst.box.blk 3
                  clear hst x12
                  go_wp2_with fail
                  go_meet
                  exact ⟨rfl, A, F, T, G, nt, ng, _, _, _, _, ⟨hput, hsim', by omega⟩, hx12⟩
                · have hl2 : (hasH T y z && !hasH G y z) = true := by rw [sim_live hst.sim]; exact hl
                  obtain ⟨i, kk, hi1, hi2, hui, hug⟩ := live_at hl
                  subst hi1
                  subst hi2
                  have hS := give_ar hui hug hst.ar
                  have hsim' := sim_give hst.sim hui hug
                  have hgf := (give_fit hst.ar.fit hui hug).2.1
                  have hcnt := hst.sim.cnt
                  have hnt := hst.nt
                  have hgl := Lib.hid hst.g.2.1
                  have hng : ng + 1 ≤ 60 := by have := hst.t.2; have := hst.g.2; omega
                  have hR := fun w' h h2 => refgive_live W.heap.size N M tv gv nt ng T G i kk hl2 w' h h2
                  have hcN := Lib.hid hst.cap
                  have hmM := Lib.hid hst.most
                  obtain ⟨ta', tc', hte, _, _⟩ := hst.t.form
                  subst hte
                  clear hl hl2 hug hui hgf hcnt
                  go_wp2_with fail
                  refine hS.mono ?_
                  rintro e u1 ⟨rfl, F', har', mv⟩
                  have hpre := hst.pre.moved har' mv hcN.out hmM.out
                  replace x12 := x12.moved mv
                  clear c0 c1 c2 hS mv har' hst hcN hmM
                  have c0 := x12.cell (o := 0) (v := .int .i64 2) rfl
                  have c1 := x12.cell (o := 1) (v := .int .i64 i) rfl
                  have c2 := x12.cell (o := 2) (v := .int .u32 kk) rfl
                  have d0 := hpre.box.cell (o := 0) (v := .int .i64 N) rfl
                  have d1 := hpre.box.cell (o := 1) (v := .int .u32 M) rfl
                  have d2 := hpre.box.cell (o := 2) (v := .slice ta' nt tc') rfl
                  have d3 := hpre.box.cell (o := 3) (v := gv) rfl
                  go_wp2_with fail
                  refine (hR _ hpre.t hpre.g).mono ?_
                  rintro e u2 ⟨gv', rfl, ho', hbu⟩
                  have hpre2 := hpre.later hbu
                  have hF13 := fun b hb => (hpre.ar.lt b hb).2
                  have l9 := blk_lt hpre.box.blk
                  have hlow := fun b hb => (ho'.lt b hb).1
                  have hW2 := hpre.below.size
                  replace x12 := x12.later hbu
                  clear c0 c1 c2 d0 d1 d2 d3 hR hbu
                  obtain ⟨ga', gc', hge, _, _⟩ := owns_form ho'
                  subst hge
                  have hg' : HRow u2 W.heap.size (.slice ga' (ng + 1) gc') (ng + 1) (G ++ [(i, kk)]) := hrow_low ho' hW2 (by rw [List.length_append, hgl.out]; rfl) hng
                  have hgd' : ∀ b, rowF (.slice ga' (ng + 1) gc') b → ¬ F' b ∧ b ≠ b9 := fun b hb => ⟨fun hf => absurd (hF13 b hf) (by have := hlow b hb; omega), by have := hlow b hb; omega⟩
                  have hput := (hpre2.put hpre2.t hg' hpre2.td hgd').alloc (.cells #[.int .i64 N, .int .u32 M, .slice ta' nt tc', .slice ga' (ng + 1) gc'] 34)
                  have hx12 := (x12.put (v0 := .int .i64 N) (v1 := .int .u32 M) (v2 := .slice ta' nt tc') (v3 := .slice ga' (ng + 1) gc') hne12).alloc (.cells #[.int .i64 N, .int .u32 M, .slice ta' nt tc', .slice ga' (ng + 1) gc'] 34)
                  have l9' := blk_lt hpre2.box.blk
                  have q0 := hpre2.box.cell (o := 0) (v := .int .i64 N) rfl
                  have q1 := hpre2.box.cell (o := 1) (v := .int .u32 M) rfl
                  have q2 := hpre2.box.cell (o := 2) (v := .slice ta' nt tc') rfl
                  have q3 := hpre2.box.cell (o := 3) (v := gv) rfl
                  have f0 := blk_free hpre2.box.blk 0
                  have f1 := blk_free hpre2.box.blk 1
                  have f2 := blk_free hpre2.box.blk 2
                  have f3 := blk_free hpre2.box.blk 3
                  obtain ⟨ga0, gc0, hg0, _, _⟩ := hpre2.g.form
                  subst hg0
                  clear hpre hpre2 hg' hgd' ho' hlow hF13 x12 hgl
                  go_wp2_with fail
                  go_meet
                  exact ⟨rfl, giveA A i kk, F', T, G ++ [(i, kk)], nt, ng + 1, _, _, _, _, ⟨hput, hsim', by omega⟩, hx12⟩
              · clear hst x12
                have e0 := x12b.cell (o := 1) (v := .int .i64 y) rfl
                have e1 := x12b.cell (o := 2) (v := .int .u32 z) rfl
                have e2 := x12b.cell (o := 0) (v := .int .i64 2) rfl
                have l12 := blk_lt x12b.blk
                have g1 := blk_free x12b.blk 1
                have g2 := blk_free x12b.blk 2
                have hst : RunSt (((v1.setCell ⟨b12, 1, none⟩ (.int .i64 p)).setCell ⟨b12, 2, none⟩ (.int .u32 q)).alloc (.cells #[.int .i64 p, .int .u32 q] 30)) W b9 k N M A F T G nt ng tv gv := by
                  refine ⟨RunPre.alloc (RunPre.other (a := ⟨b12, 2, none⟩) (RunPre.other (a := ⟨b12, 1, none⟩) hstb.pre x12b.off hne12.symm ht12 hg12 hW12 _) x12b.off hne12.symm ht12 hg12 hW12 _) _, hstb.sim, hstb.nt⟩
                have x12 : Box F (((v1.setCell ⟨b12, 1, none⟩ (.int .i64 p)).setCell ⟨b12, 2, none⟩ (.int .u32 q)).alloc (.cells #[.int .i64 p, .int .u32 q] 30)) b12 #[.int .i64 2, .int .i64 p, .int .u32 q] 38 := Box.alloc ⟨blk_set (blk_set x12b.blk 1 (.int .i64 p)) 2 (.int .u32 q), x12b.off⟩ _
                clear hstb
                go_wp2_with fail
                clear x12b e0 e1 e2 l12 g1 g2
                have c0 := x12.cell (o := 0) (v := .int .i64 2) rfl
                have c1 := x12.cell (o := 1) (v := .int .i64 p) rfl
                have c2 := x12.cell (o := 2) (v := .int .u32 q) rfl
                cases hl : liveB A p q
                · have hl2 : (hasH T p q && !hasH G p q) = false := by rw [sim_live hst.sim]; exact hl
                  have hS := stale_ar hl hst.ar
                  have hR := fun w' h h2 => refgive_stale W.heap.size N M tv gv nt ng T G p q hl2 w' h h2
                  obtain ⟨ta', tc', hte, _, _⟩ := hst.t.form
                  subst hte
                  obtain ⟨ga', gc', hge, _, _⟩ := hst.g.form
                  subst hge
                  clear hl hl2
                  go_wp2_with fail
                  refine hS.mono ?_
                  rintro e u1 ⟨rfl, hbu⟩
                  replace hst := hst.later hbu
                  replace x12 := x12.later hbu
                  clear c0 c1 c2 hS hbu
                  have c0 := x12.cell (o := 0) (v := .int .i64 2) rfl
                  have c1 := x12.cell (o := 1) (v := .int .i64 p) rfl
                  have c2 := x12.cell (o := 2) (v := .int .u32 q) rfl
                  have d0 := hst.box.cell (o := 0) (v := .int .i64 N) rfl
                  have d1 := hst.box.cell (o := 1) (v := .int .u32 M) rfl
                  have d2 := hst.box.cell (o := 2) (v := .slice ta' nt tc') rfl
                  have d3 := hst.box.cell (o := 3) (v := .slice ga' ng gc') rfl
                  go_wp2_with fail
                  refine (hR _ hst.t hst.g).mono ?_
                  rintro e u2 ⟨rfl, hbu⟩
                  replace hst := hst.later hbu
                  replace x12 := x12.later hbu
                  clear c0 c1 c2 d0 d1 d2 d3 hR hbu
                  have hput := (hst.pre.put hst.t hst.g hst.pre.td hst.pre.gd).alloc (.cells #[.int .i64 N, .int .u32 M, .slice ta' nt tc', .slice ga' ng gc'] 34)
                  have hx12 := (x12.put (v0 := .int .i64 N) (v1 := .int .u32 M) (v2 := .slice ta' nt tc') (v3 := .slice ga' ng gc') hne12).alloc (.cells #[.int .i64 N, .int .u32 M, .slice ta' nt tc', .slice ga' ng gc'] 34)
                  have hsim' := hst.sim
                  have hnt := hst.nt
                  have l9' := blk_lt hst.box.blk
                  have q0 := hst.box.cell (o := 0) (v := .int .i64 N) rfl
                  have q1 := hst.box.cell (o := 1) (v := .int .u32 M) rfl
                  have q2 := hst.box.cell (o := 2) (v := .slice ta' nt tc') rfl
                  have q3 := hst.box.cell (o := 3) (v := .slice ga' ng gc') rfl
                  have f0 := blk_free hst.box.blk 0
                  have f1 := blk_free hst.box.blk 1
                  have f2 := blk_free hst.box.blk 2
                  have f3 := blk_free hst.box.blk 3
                  clear hst x12
                  go_wp2_with fail
                  go_meet
                  exact ⟨rfl, A, F, T, G, nt, ng, _, _, _, _, ⟨hput, hsim', by omega⟩, hx12⟩
                · have hl2 : (hasH T p q && !hasH G p q) = true := by rw [sim_live hst.sim]; exact hl
                  obtain ⟨i, kk, hi1, hi2, hui, hug⟩ := live_at hl
                  subst hi1
                  subst hi2
                  have hS := give_ar hui hug hst.ar
                  have hsim' := sim_give hst.sim hui hug
                  have hgf := (give_fit hst.ar.fit hui hug).2.1
                  have hcnt := hst.sim.cnt
                  have hnt := hst.nt
                  have hgl := Lib.hid hst.g.2.1
                  have hng : ng + 1 ≤ 60 := by have := hst.t.2; have := hst.g.2; omega
                  have hR := fun w' h h2 => refgive_live W.heap.size N M tv gv nt ng T G i kk hl2 w' h h2
                  have hcN := Lib.hid hst.cap
                  have hmM := Lib.hid hst.most
                  obtain ⟨ta', tc', hte, _, _⟩ := hst.t.form
                  subst hte
                  clear hl hl2 hug hui hgf hcnt
                  go_wp2_with fail
                  refine hS.mono ?_
                  rintro e u1 ⟨rfl, F', har', mv⟩
                  have hpre := hst.pre.moved har' mv hcN.out hmM.out
                  replace x12 := x12.moved mv
                  clear c0 c1 c2 hS mv har' hst hcN hmM
                  have c0 := x12.cell (o := 0) (v := .int .i64 2) rfl
                  have c1 := x12.cell (o := 1) (v := .int .i64 i) rfl
                  have c2 := x12.cell (o := 2) (v := .int .u32 kk) rfl
                  have d0 := hpre.box.cell (o := 0) (v := .int .i64 N) rfl
                  have d1 := hpre.box.cell (o := 1) (v := .int .u32 M) rfl
                  have d2 := hpre.box.cell (o := 2) (v := .slice ta' nt tc') rfl
                  have d3 := hpre.box.cell (o := 3) (v := gv) rfl
                  go_wp2_with fail
                  refine (hR _ hpre.t hpre.g).mono ?_
                  rintro e u2 ⟨gv', rfl, ho', hbu⟩
                  have hpre2 := hpre.later hbu
                  have hF13 := fun b hb => (hpre.ar.lt b hb).2
                  have l9 := blk_lt hpre.box.blk
                  have hlow := fun b hb => (ho'.lt b hb).1
                  have hW2 := hpre.below.size
                  replace x12 := x12.later hbu
                  clear c0 c1 c2 d0 d1 d2 d3 hR hbu
                  obtain ⟨ga', gc', hge, _, _⟩ := owns_form ho'
                  subst hge
                  have hg' : HRow u2 W.heap.size (.slice ga' (ng + 1) gc') (ng + 1) (G ++ [(i, kk)]) := hrow_low ho' hW2 (by rw [List.length_append, hgl.out]; rfl) hng
                  have hgd' : ∀ b, rowF (.slice ga' (ng + 1) gc') b → ¬ F' b ∧ b ≠ b9 := fun b hb => ⟨fun hf => absurd (hF13 b hf) (by have := hlow b hb; omega), by have := hlow b hb; omega⟩
                  have hput := (hpre2.put hpre2.t hg' hpre2.td hgd').alloc (.cells #[.int .i64 N, .int .u32 M, .slice ta' nt tc', .slice ga' (ng + 1) gc'] 34)
                  have hx12 := (x12.put (v0 := .int .i64 N) (v1 := .int .u32 M) (v2 := .slice ta' nt tc') (v3 := .slice ga' (ng + 1) gc') hne12).alloc (.cells #[.int .i64 N, .int .u32 M, .slice ta' nt tc', .slice ga' (ng + 1) gc'] 34)
                  have l9' := blk_lt hpre2.box.blk
                  have q0 := hpre2.box.cell (o := 0) (v := .int .i64 N) rfl
                  have q1 := hpre2.box.cell (o := 1) (v := .int .u32 M) rfl
                  have q2 := hpre2.box.cell (o := 2) (v := .slice ta' nt tc') rfl
                  have q3 := hpre2.box.cell (o := 3) (v := gv) rfl
                  have f0 := blk_free hpre2.box.blk 0
                  have f1 := blk_free hpre2.box.blk 1
                  have f2 := blk_free hpre2.box.blk 2
                  have f3 := blk_free hpre2.box.blk 3
                  obtain ⟨ga0, gc0, hg0, _, _⟩ := hpre2.g.form
                  subst hg0
                  clear hpre hpre2 hg' hgd' ho' hlow hF13 x12 hgl
                  go_wp2_with fail
                  go_meet
                  exact ⟨rfl, giveA A i kk, F', T, G ++ [(i, kk)], nt, ng + 1, _, _, _, _, ⟨hput, hsim', by omega⟩, hx12⟩
            · have hx2' : (x == 2) = false := by simpa using hx2
              clear hx2
              go_wp2_with fail
              go_meet
              exact ⟨rfl, A, F, T, G, nt, ng, tv, gv, y, z, hst1.next, hb12⟩
      case rest =>
        obtain ⟨rfl, A, F, T, G, nt, ng, tv, gv, s, g, hst, x12⟩ := hcut
        clear hst1 hb12
        have hsim := hst.sim
        have hAt := sim_atV hsim s
        obtain ⟨p, q, r, hpq⟩ : ∃ (p q : Int) (r : Bool), atV A s = .tuple #[.agg #[.int .i64 p, .int .u32 q], .bool r] := by
          unfold atV Hnd
          split
          · exact ⟨_, _, _, rfl⟩
          · exact ⟨_, _, _, rfl⟩
        rw [hpq] at hAt
        have hA1 := fun w' h => at_ar (B := W.heap.size) (p := W.heap.size) (F := F) (A := A) s (w := w') h
        rw [hpq] at hA1
        have hA2 := fun w' h h2 => atref_any W.heap.size N M tv gv nt ng T G s w' h h2
        rw [← hAt] at hA2
        have hl12 := blk_lt x12.blk
        have c0 := x12.cell (o := 0) (v := .int .i64 x) rfl
        have c1 := x12.cell (o := 1) (v := .int .i64 s) rfl
        have c2 := x12.cell (o := 2) (v := .int .u32 g) rfl
        clear hAt hpq
        go_wp2_with fail
        refine (hA1 _ hst.ar).mono ?_
        rintro e v1 ⟨rfl, hb1⟩
        replace hst := (hst.later hb1).later ((Below.refl _ _).alloc (Nat.le_refl _) (.cells #[.int .i64 p, .int .u32 q] 30))
        replace x12 := (x12.later hb1).alloc (.cells #[.int .i64 p, .int .u32 q] 30)
        have x23 := blk_new v1 #[.int .i64 p, .int .u32 q] 30
        clear hb1 c0 c1 c2 hA1 hl12
        obtain ⟨v2, hv2⟩ : ∃ w9 : World, w9 = v1.alloc (.cells #[.int .i64 p, .int .u32 q] 30) := ⟨_, rfl⟩
        have d0 := hst.box.cell (o := 0) (v := .int .i64 N) rfl
        have d1 := hst.box.cell (o := 1) (v := .int .u32 M) rfl
        have d2 := hst.box.cell (o := 2) (v := tv) rfl
        have d3 := hst.box.cell (o := 3) (v := gv) rfl
        have c0 := x12.cell (o := 0) (v := .int .i64 x) rfl
        have c1 := x12.cell (o := 1) (v := .int .i64 s) rfl
        have c2 := x12.cell (o := 2) (v := .int .u32 g) rfl
        go_wp2_with fail
        rw [← hv2]
        rw [← hv2] at hst x12 x23 d0 d1 d2 d3 c0 c1 c2
        generalize v1.heap.size = b23 at *
        clear hv2
        refine (hA2 _ hst.t hst.g).mono ?_
        rintro e v3 ⟨rfl, hb3⟩
        replace hst := (hst.later hb3).later ((Below.refl _ _).alloc (Nat.le_refl _) (.cells #[.int .i64 p, .int .u32 q] 30))
        replace x12 := (x12.later hb3).alloc (.cells #[.int .i64 p, .int .u32 q] 30)
        replace x23 := blk_alloc (later_blk hb3 x23) (.cells #[.int .i64 p, .int .u32 q] 30)
        have x25 := blk_new v3 #[.int .i64 p, .int .u32 q] 30
        clear d0 d1 d2 d3 c0 c1 c2 hA2 hb3
        go_wp2_with fail
        obtain ⟨v4, hv4⟩ : ∃ w9 : World, w9 = v3.alloc (.cells #[.int .i64 p, .int .u32 q] 30) := ⟨_, rfl⟩
        rw [← hv4]
        rw [← hv4] at hst x12 x23 x25
        generalize v3.heap.size = b25 at *
        clear hv4
        have har := hst.ar
        have hcapN := Lib.hid hst.cap
        have hmostM := Lib.hid hst.most
        have hlive := Lib.hid (sim_live hsim s g)
        have hcnt := Lib.hid hsim.cnt
        have hus := Lib.hid (sim_usable hsim)
        have hfu := Lib.hid hsim.fresh
        have e0 := cell_regrown (hst.box.cell (o := 0) (v := .int .i64 N) rfl)
        have e1 := cell_regrown (hst.box.cell (o := 1) (v := .int .u32 M) rfl)
        have e2 := cell_regrown (hst.box.cell (o := 2) (v := tv) rfl)
        have e3 := cell_regrown (hst.box.cell (o := 3) (v := gv) rfl)
        have e4 := cell_regrown (x12.cell (o := 1) (v := .int .i64 s) rfl)
        have e5 := cell_regrown (x12.cell (o := 2) (v := .int .u32 g) rfl)
        have e6 := cell_regrown (blk_cell x23 (o := 0) (v := .int .i64 p) rfl)
        have e7 := cell_regrown (blk_cell x23 (o := 1) (v := .int .u32 q) rfl)
        have e8 := cell_regrown (blk_cell x25 (o := 0) (v := .int .i64 p) rfl)
        have e9 := cell_regrown (blk_cell x25 (o := 1) (v := .int .u32 q) rfl)
        have hlv := live_le har
        have hul := usable_le har
        have hng : A.live ≤ nt := by have := hcnt.out; have := hst.t.2.1; omega
        have hcI : ((nt : Int) - ng) = A.live := by have := hcnt.out; have := hst.t.2.1; have := hst.g.2.1; omega
        have huI : (((waitsH M T G).length : Int) + N - freshH T) = usableN A := by have := hus.out; rw [hmostM.out, hcapN.out] at this; omega
        have cA : ∀ d' os, Calls Try.prog 17 #[.pointer (some ⟨W.heap.size, 0, none⟩), .agg #[.int .i64 s, .int .u32 g]] (grow (redrawn v4 d') os) fun e w'' => e = .returned (.bool (liveB A s g)) ∧ ∃ p : Regrown, w'' = grow (redrawn v4 p.d) p.os := fun d' os => Calls.regrown_of (live_ar s g (har.later (below_regrown _ d' os)))
        have cB : ∀ d' os, Calls Try.prog 18 #[RV N M tv gv, .agg #[.int .i64 s, .int .u32 g]] (grow (redrawn v4 d') os) fun e w'' => e = .returned (.bool (liveB A s g)) ∧ ∃ p : Regrown, w'' = grow (redrawn v4 p.d) p.os := fun d' os => Calls.regrown_of (by rw [← hlive.out]; exact liveref_any W.heap.size N M tv gv nt ng T G s g _ (hst.t.later (below_regrown _ d' os)) (hst.g.later (below_regrown _ d' os)))
        have cC : ∀ d' os, Calls Try.prog 19 #[.pointer (some ⟨W.heap.size, 0, none⟩)] (grow (redrawn v4 d') os) fun e w'' => e = .returned (.int .i64 A.live) ∧ ∃ p : Regrown, w'' = grow (redrawn v4 p.d) p.os := fun d' os => Calls.regrown_of ((count_ar (har.later (below_regrown _ d' os))).mono fun _ _ h => ⟨h.1, h.2 ▸ Below.refl _ _⟩)
        have cD : ∀ d' os, Calls Try.prog 20 #[RV N M tv gv] (grow (redrawn v4 d') os) fun e w'' => e = .returned (.int .i64 A.live) ∧ ∃ p : Regrown, w'' = grow (redrawn v4 p.d) p.os := fun d' os => Calls.regrown_of (by rw [← hcI]; exact refcount_any W.heap.size N M tv gv nt ng T G _ (hst.t.later (below_regrown _ d' os)) (hst.g.later (below_regrown _ d' os)))
        have cE : ∀ d' os, Calls Try.prog 21 #[.pointer (some ⟨W.heap.size, 0, none⟩)] (grow (redrawn v4 d') os) fun e w'' => e = .returned (.int .i64 (usableN A)) ∧ ∃ p : Regrown, w'' = grow (redrawn v4 p.d) p.os := fun d' os => Calls.regrown_of (usable_ar (har.later (below_regrown _ d' os)))
        have cF : ∀ d' os, Calls Try.prog 22 #[RV N M tv gv] (grow (redrawn v4 d') os) fun e w'' => e = .returned (.int .i64 (usableN A)) ∧ ∃ p : Regrown, w'' = grow (redrawn v4 p.d) p.os := fun d' os => Calls.regrown_of (by rw [← huI]; exact refusable_any W.heap.size N M (by omega) tv gv nt ng T G _ (hst.t.later (below_regrown _ d' os)) (hst.g.later (below_regrown _ d' os)))
        have cG : ∀ d' os, Calls Try.prog 23 #[.pointer (some ⟨W.heap.size, 0, none⟩)] (grow (redrawn v4 d') os) fun e w'' => e = .returned (.int .i64 N) ∧ ∃ p : Regrown, w'' = grow (redrawn v4 p.d) p.os := fun d' os => Calls.regrown_of (by rw [← hcapN.out]; exact (capacity_ar (har.later (below_regrown _ d' os))).mono fun _ _ h => ⟨h.1, h.2 ▸ Below.refl _ _⟩)
        clear hlive hcnt hus hfu hng hcI huI hcapN hmostM har x23 x25 hsim
        generalize liveB A s g = zl at *
        generalize hzc : A.live = zc at *
        generalize hzu : usableN A = zu at *
        clear hzc hzu
        refine wp_region_quiet_below (by kernel_rfl) (by kernel_rfl) ?_
        repeat (first | go_big_quiet_step (first | with_reducible exact cA _ _ | with_reducible exact cB _ _ | with_reducible exact cC _ _ | with_reducible exact cD _ _ | with_reducible exact cE _ _ | with_reducible exact cF _ _ | with_reducible exact cG _ _) | quiet_step (fail))
        refine wpQuiet_nil ?_
        intro W3 hw'
        replace hw' := below_regrown' hw'
        replace hst := hst.later hw'
        clear cA cB cC cD cE cF cG e0 e1 e2 e3 e4 e5 e6 e7 e8 e9 hw' x12
        go_wp2_with fail
        go_roundw
        case rel => exact ⟨k + 1, A, F, T, G, nt, ng, tv, gv, by omega, by go_num, hst⟩
        case measure => simp [intOf]; try omega
    · have hki : ¬ (k : Int) < n := by omega
      go_wp2_with fail
      go_ret
      exact ⟨rfl, below_chain hb hst.below⟩
end Go.Proofs.Ytahpalfdeghdmaa
