/- CellsRuns, walked: for every capacity and every list of acts the call returns true, in every memory; of what was in memory nothing is changed. (Written by gen_runs.py.) -/
import Derived.Test.YtdipahkgfkoamaaCellsLooks
import Derived.Deep.CutBlock
import Derived.Deep.DeepCutAuto
namespace Go.Proofs.Ytdipahkgfkoamaa
open Go.RowKit Go.Sort

namespace Stage
variable {F0 : Nat → Prop} {W0 w : World} {l : List Ob} {hv cv : Value} {W W' : WS}
/-- The document's nest becomes another one. -/
theorem nestCall {f : FuncId} {args : Array Value} {res : Value → Value} (h : Stage F0 W0 l w) (i : Nat) (hi : l[i]? = some (Ob.nest hv cv W)) (hc : Calls Try.prog f args w (NestPost w hv cv W' res)) :
    Calls Try.prog f args w fun e w' => ∃ a n c a' n' c', e = .returned (res (.agg #[.slice a n c, .slice a' n' c'])) ∧ Stage F0 W0 (l.set i (Ob.nest (.slice a n c) (.slice a' n' c') W')) w' :=
  hc.mono fun e w' ⟨hv', cv', he, hb, hN, hF⟩ => by
    obtain ⟨a, c, rfl, _, _⟩ := hN.hform
    obtain ⟨a', c', rfl, _, _⟩ := hN.cform
    refine ⟨_, _, _, _, _, _, he, h.moved hi fun F ⟨_, hF0⟩ => ⟨nestF _ _, ⟨hN, rfl⟩, ⟨Keeps.of_below_all hb F, ?_⟩⟩⟩
    subst hF0
    exact hF
theorem nestForms (h : Stage F0 W0 l w) (i : Nat) (hi : l[i]? = some (Ob.nest hv cv W)) : ∃ a n c a' n' c', hv = .slice a n c ∧ cv = .slice a' n' c' := by
  obtain ⟨a, c, h1, _, _⟩ := (h.nestAt i hi).hform
  obtain ⟨a', c', h2, _, _⟩ := (h.nestAt i hi).cform
  exact ⟨_, _, _, _, _, _, h1, h2⟩
end Stage
def RunSt (w0 : World) (p b8 bA : Nat) (x y z q r : Int) (k : Nat) (s9 s12 s13 : Value) (wx : World) : Prop :=
  ∃ (B : Bool) (W : WS) (s : Int) (a : Option Addr) (n c : Nat) (a' : Option Addr) (n' c' : Nat), s12 = .bool B ∧ s13 = .bool B ∧ s9 = .int .i64 s ∧ (0 ≤ s ∧ s ≤ k + 1) ∧
    Stage (fun _ => False) w0 [Ob.cells p (W) (s), Ob.nest (.slice a n c) (.slice a' n' c') (W), Ob.box b8 #[(.slice a n c), (.slice a' n' c')] 45, Ob.box bA #[.int .i64 x, .int .i64 y, .int .i64 z, .int .i64 q, .int .u64 r] 48] wx

set_option maxRecDepth 100000 in
set_option maxHeartbeats 8000000 in
theorem runs_walk (C : Nat) (hC : C ≤ 255) (a0 : Option Addr) (n0 cap : Nat) (hcap : n0 ≤ cap ∧ cap ≤ 9223372036854775807) (w : World)
    (hact : ∀ k, k < n0 → ∃ b off x y z q r, a0 = some ⟨b, off, none⟩ ∧ w.cell? ⟨b, off + k * 5, none⟩ = some (.int .i64 x) ∧ w.cell? ⟨b, off + k * 5 + 1, none⟩ = some (.int .i64 y) ∧ w.cell? ⟨b, off + k * 5 + 2, none⟩ = some (.int .i64 z) ∧ w.cell? ⟨b, off + k * 5 + 3, none⟩ = some (.int .i64 q) ∧ w.cell? ⟨b, off + k * 5 + 4, none⟩ = some (.int .u64 r) ∧ (-9223372036854775808 ≤ y ∧ y ≤ 9223372036854775807)) :
    Calls Try.prog 4 #[.int .u8 C, .slice a0 n0 cap] w fun e w' => e = .returned (.bool true) ∧ Below w.heap.size w w' := by
  obtain ⟨hcap1, hcap2⟩ := hcap
  obtain ⟨m, hm⟩ : ∃ m, m = C % 30 := ⟨_, rfl⟩
  have hm30 : m < 30 := by omega
  have q1 : Int.tmod (C : Int) 30 = (m : Int) := by rw [hm]; exact (Int.ofNat_tmod C 30).symm
  clear hm
  go_enter Try.func4, Try.ntmps4
  go_wp2_with fail
  refine (alive_any w).mono ?_
  rintro e w1 ⟨rfl, hb⟩
  by_cases h60 : (60 : Int) < n0
  · go_wp2_with fail
    go_ret
    exact ⟨rfl, hb⟩
  · have hn60 : n0 ≤ 60 := by omega
    go_wp2_with fail
    refine (((Stage.start w).later hb).newCells m (by omega)).mono ?_
    rintro e w2 ⟨p, rfl, hs1⟩
    simp only [List.nil_append] at hs1
    go_wp2_with fail
    refine (refnew_any m (by omega) w2).mono ?_
    rintro e w3 ⟨hv, cv, rfl, hb3, hN3, hF3⟩
    obtain ⟨ha, hc, rfl, _, _⟩ := hN3.hform
    obtain ⟨ca, cc, rfl, _, _⟩ := hN3.cform
    generalize hn1 : (newW m).heaps.length = n1 at *
    generalize hn2 : (newW m).cells.length = n2 at *
    have hs2 := (hs1.add (O := Ob.nest (.slice ha n1 hc) (.slice ca n2 cc) (newW m)) hb3 ⟨hN3, rfl⟩ hF3).alloc #[.slice ha n1 hc, .slice ca n2 cc] 45
    clear hs1 hb3 hN3 hF3 hn1 hn2
    obtain ⟨w4, hw4, hs⟩ : ∃ w4, w3.alloc (.cells #[.slice ha n1 hc, .slice ca n2 cc] 45) = w4 ∧ Stage (fun _ => False) w [Ob.cells p (newW m) 0, Ob.nest (.slice ha n1 hc) (.slice ca n2 cc) (newW m), Ob.box w3.heap.size #[.slice ha n1 hc, .slice ca n2 cc] 45] w4 := ⟨_, rfl, hs2⟩
    clear hs2
    go_wp2_with fail
    clear hw4
    generalize w3.heap.size = b8 at *
    generalize newW m = W0 at *
    go_loopw [9, 39] (fun st i wr => ∃ (k : Nat) (W : WS) (s : Int) (a : Option Addr) (n c : Nat) (a' : Option Addr) (n' c' : Nat), k ≤ n0 ∧ i = .int .i64 k ∧ st = .int .i64 s ∧ (0 ≤ s ∧ s ≤ k) ∧ Stage (fun _ => False) w [Ob.cells p W s, Ob.nest (.slice a n c) (.slice a' n' c') W, Ob.box b8 #[.slice a n c, .slice a' n' c'] 45] wr) (fun _ i _ => n0 - (intOf i).toNat)
    case atStart => exact ⟨0, W0, 0, ha, n1, hc, ca, n2, cc, Nat.zero_le _, rfl, rfl, by omega, hs⟩
    case round =>
      clear hs hb
      obtain ⟨k, W, s, a, n, c, a', n', c', hk, rfl, rfl, hsk, hs⟩ := hrel
      by_cases hlt : k < n0
      · have hki : (k : Int) < n0 := by omega
        obtain ⟨ba, offa, x, y, z, q, r, rfl, g0, g1, g2, g3, g4, hy⟩ := hact k hlt
        replace g0 := later hs.below g0
        replace g1 := later hs.below g1
        replace g2 := later hs.below g2
        replace g3 := later hs.below g3
        replace g4 := later hs.below g4
        obtain ⟨wr1, hwr1, hs0⟩ : ∃ w9 : World, wr.alloc (.cells #[.int .i64 x, .int .i64 y, .int .i64 z, .int .i64 q, .int .u64 r] 48) = w9 ∧ Stage (fun _ => False) w ([_, _, _] ++ [_]) w9 := ⟨_, rfl, hs.alloc #[.int .i64 x, .int .i64 y, .int .i64 z, .int .i64 q, .int .u64 r] 48⟩
        replace hs0 : Stage (fun _ => False) w [Ob.cells p W s, Ob.nest (.slice a n c) (.slice a' n' c') W, Ob.box b8 #[.slice a n c, .slice a' n' c'] 45, Ob.box wr.heap.size #[.int .i64 x, .int .i64 y, .int .i64 z, .int .i64 q, .int .u64 r] 48] wr1 := hs0
        have dd := hs0.cell 3 rfl (o := 0) rfl
        go_upto_block 2 with fail
        clear hwr1 g0 g1 g2 g3 g4 dd hs
        generalize wr.heap.size = bA at *
        have hs := hs0
        clear hs0
        go_cut [9, 12, 13] (fun s9 s12 s13 wx => RunSt w p b8 bA x y z q r k s9 s12 s13 wx)
        case first =>
          by_cases hx0 : x = 0
          · subst hx0
            have hR := hs.nestCall 1 rfl (refmake_any (hs.nestAt 1 rfl))
            have k0 := hs.cell 2 rfl (o := 0) rfl
            have k1 := hs.cell 2 rfl (o := 1) rfl
            have d0 := hs.cell 3 rfl (o := 0) rfl
            have d1 := hs.cell 3 rfl (o := 1) rfl
            have d2 := hs.cell 3 rfl (o := 2) rfl
            have d3 := hs.cell 3 rfl (o := 3) rfl
            have d4 := hs.cell 3 rfl (o := 4) rfl
            have f0 := hs.free 2 rfl 0
            have f1 := hs.free 2 rfl 1
            have l8 := hs.lt 2 rfl
            have lA := hs.lt 3 rfl
            have h8A := hs.ne 2 3 rfl rfl (by decide)
            go_wp2_with fail
            clear k0 k1 d0 d1 d2 d3 d4 f0 f1 l8 lA h8A
            refine hR.mono ?_
            rintro e v1 ⟨a2, n2, c2, a3, n3, c3, rfl, hs2⟩
            replace hs2 : Stage (fun _ => False) w [Ob.cells p W s, Ob.nest (.slice a2 n2 c2) (.slice a3 n3 c3) (makeW W), Ob.box b8 #[.slice a n c, .slice a' n' c'] 45, Ob.box bA #[.int .i64 0, .int .i64 y, .int .i64 z, .int .i64 q, .int .u64 r] 48] v1 := hs2
            clear hR
            have k0 := hs2.cell 2 rfl (o := 0) rfl
            have k1 := hs2.cell 2 rfl (o := 1) rfl
            have d0 := hs2.cell 3 rfl (o := 0) rfl
            have d1 := hs2.cell 3 rfl (o := 1) rfl
            have d2 := hs2.cell 3 rfl (o := 2) rfl
            have d3 := hs2.cell 3 rfl (o := 3) rfl
            have d4 := hs2.cell 3 rfl (o := 4) rfl
            have f0 := hs2.free 2 rfl 0
            have f1 := hs2.free 2 rfl 1
            have l8 := hs2.lt 2 rfl
            have lA := hs2.lt 3 rfl
            have h8A := hs2.ne 2 3 rfl rfl (by decide)
            obtain ⟨v2, hv2, hs3⟩ : ∃ v2, ((v1.setCell ⟨b8, 0, none⟩ (.slice a2 n2 c2)).setCell ⟨b8, 1, none⟩ (.slice a3 n3 c3)).alloc (.cells #[.slice a2 n2 c2, .slice a3 n3 c3] 45) = v2 ∧ Stage (fun _ => False) w [Ob.cells p (W) (s), Ob.nest (.slice a2 n2 c2) (.slice a3 n3 c3) (makeW W), Ob.box b8 #[.slice a2 n2 c2, .slice a3 n3 c3] 45, Ob.box bA #[.int .i64 0, .int .i64 y, .int .i64 z, .int .i64 q, .int .u64 r] 48] v2 := ⟨_, rfl, (((hs2.store 2 rfl 0 (.slice a2 n2 c2)).store 2 rfl 1 (.slice a3 n3 c3)).alloc _ _).take 4⟩
            have hC := hs3.call 0 rfl (fun _ ho => make_cl ho)
            have kk0 := hs3.cell 2 rfl (o := 0) rfl
            have kk1 := hs3.cell 2 rfl (o := 1) rfl
            have dd0 := hs3.cell 3 rfl (o := 0) rfl
            have dd1 := hs3.cell 3 rfl (o := 1) rfl
            have dd2 := hs3.cell 3 rfl (o := 2) rfl
            have dd3 := hs3.cell 3 rfl (o := 3) rfl
            have dd4 := hs3.cell 3 rfl (o := 4) rfl
            have ff0 := hs3.free 2 rfl 0
            have ff1 := hs3.free 2 rfl 1
            have ll8 := hs3.lt 2 rfl
            have llA := hs3.lt 3 rfl
            have hh8A := hs3.ne 2 3 rfl rfl (by decide)
            clear hs hs2
            go_wp2_with fail
            clear hv2 k0 k1 d0 d1 d2 d3 d4 f0 f1 l8 lA h8A kk0 kk1 dd0 dd1 dd2 dd3 dd4 ff0 ff1 ll8 llA hh8A
            refine hC.mono ?_
            rintro e v3 ⟨rfl, hs4⟩
            clear hC hs3
            go_wp2_with fail
            go_meet
            exact ⟨true, _, s, a2, n2, c2, a3, n3, c3, rfl, rfl, rfl, by omega, hs4⟩
          · have hx0' : (x == 0) = false := by simpa using hx0
            clear hx0
            by_cases hx1 : x = 1
            · subst hx1
              have hR := hs.nestCall 1 rfl (refput_any y z q r (hs.nestAt 1 rfl))
              have k0 := hs.cell 2 rfl (o := 0) rfl
              have k1 := hs.cell 2 rfl (o := 1) rfl
              have d0 := hs.cell 3 rfl (o := 0) rfl
              have d1 := hs.cell 3 rfl (o := 1) rfl
              have d2 := hs.cell 3 rfl (o := 2) rfl
              have d3 := hs.cell 3 rfl (o := 3) rfl
              have d4 := hs.cell 3 rfl (o := 4) rfl
              have f0 := hs.free 2 rfl 0
              have f1 := hs.free 2 rfl 1
              have l8 := hs.lt 2 rfl
              have lA := hs.lt 3 rfl
              have h8A := hs.ne 2 3 rfl rfl (by decide)
              go_wp2_with fail
              clear k0 k1 d0 d1 d2 d3 d4 f0 f1 l8 lA h8A
              refine hR.mono ?_
              rintro e v1 ⟨a2, n2, c2, a3, n3, c3, rfl, hs2⟩
              replace hs2 : Stage (fun _ => False) w [Ob.cells p W s, Ob.nest (.slice a2 n2 c2) (.slice a3 n3 c3) (putW W y z q r), Ob.box b8 #[.slice a n c, .slice a' n' c'] 45, Ob.box bA #[.int .i64 1, .int .i64 y, .int .i64 z, .int .i64 q, .int .u64 r] 48] v1 := hs2
              clear hR
              have k0 := hs2.cell 2 rfl (o := 0) rfl
              have k1 := hs2.cell 2 rfl (o := 1) rfl
              have d0 := hs2.cell 3 rfl (o := 0) rfl
              have d1 := hs2.cell 3 rfl (o := 1) rfl
              have d2 := hs2.cell 3 rfl (o := 2) rfl
              have d3 := hs2.cell 3 rfl (o := 3) rfl
              have d4 := hs2.cell 3 rfl (o := 4) rfl
              have f0 := hs2.free 2 rfl 0
              have f1 := hs2.free 2 rfl 1
              have l8 := hs2.lt 2 rfl
              have lA := hs2.lt 3 rfl
              have h8A := hs2.ne 2 3 rfl rfl (by decide)
              obtain ⟨v2, hv2, hs3⟩ : ∃ v2, ((v1.setCell ⟨b8, 0, none⟩ (.slice a2 n2 c2)).setCell ⟨b8, 1, none⟩ (.slice a3 n3 c3)) = v2 ∧ Stage (fun _ => False) w [Ob.cells p (W) (s), Ob.nest (.slice a2 n2 c2) (.slice a3 n3 c3) (putW W y z q r), Ob.box b8 #[.slice a2 n2 c2, .slice a3 n3 c3] 45, Ob.box bA #[.int .i64 1, .int .i64 y, .int .i64 z, .int .i64 q, .int .u64 r] 48] v2 := ⟨_, rfl, (hs2.store 2 rfl 0 (.slice a2 n2 c2)).store 2 rfl 1 (.slice a3 n3 c3)⟩
              have hC := hs3.call 0 rfl (fun _ ho => put_cl y z q r ho)
              have kk0 := hs3.cell 2 rfl (o := 0) rfl
              have kk1 := hs3.cell 2 rfl (o := 1) rfl
              have dd0 := hs3.cell 3 rfl (o := 0) rfl
              have dd1 := hs3.cell 3 rfl (o := 1) rfl
              have dd2 := hs3.cell 3 rfl (o := 2) rfl
              have dd3 := hs3.cell 3 rfl (o := 3) rfl
              have dd4 := hs3.cell 3 rfl (o := 4) rfl
              have ff0 := hs3.free 2 rfl 0
              have ff1 := hs3.free 2 rfl 1
              have ll8 := hs3.lt 2 rfl
              have llA := hs3.lt 3 rfl
              have hh8A := hs3.ne 2 3 rfl rfl (by decide)
              clear hs hs2
              go_wp2_with fail
              clear hv2 k0 k1 d0 d1 d2 d3 d4 f0 f1 l8 lA h8A kk0 kk1 dd0 dd1 dd2 dd3 dd4 ff0 ff1 ll8 llA hh8A
              refine hC.mono ?_
              rintro e v3 ⟨rfl, hs4⟩
              clear hC hs3
              go_wp2_with fail
              go_meet
              exact ⟨(putB W y z), _, s, a2, n2, c2, a3, n3, c3, rfl, rfl, rfl, by omega, hs4⟩
            · have hx1' : (x == 1) = false := by simpa using hx1
              clear hx1
              by_cases hx2 : x = 2
              · subst hx2
                have hR := hs.nestCall 1 rfl (refput_any y z q r (hs.nestAt 1 rfl))
                have k0 := hs.cell 2 rfl (o := 0) rfl
                have k1 := hs.cell 2 rfl (o := 1) rfl
                have d0 := hs.cell 3 rfl (o := 0) rfl
                have d1 := hs.cell 3 rfl (o := 1) rfl
                have d2 := hs.cell 3 rfl (o := 2) rfl
                have d3 := hs.cell 3 rfl (o := 3) rfl
                have d4 := hs.cell 3 rfl (o := 4) rfl
                have f0 := hs.free 2 rfl 0
                have f1 := hs.free 2 rfl 1
                have l8 := hs.lt 2 rfl
                have lA := hs.lt 3 rfl
                have h8A := hs.ne 2 3 rfl rfl (by decide)
                go_wp2_with fail
                clear k0 k1 d0 d1 d2 d3 d4 f0 f1 l8 lA h8A
                refine hR.mono ?_
                rintro e v1 ⟨a2, n2, c2, a3, n3, c3, rfl, hs2⟩
                replace hs2 : Stage (fun _ => False) w [Ob.cells p W s, Ob.nest (.slice a2 n2 c2) (.slice a3 n3 c3) (putW W y z q r), Ob.box b8 #[.slice a n c, .slice a' n' c'] 45, Ob.box bA #[.int .i64 2, .int .i64 y, .int .i64 z, .int .i64 q, .int .u64 r] 48] v1 := hs2
                clear hR
                have k0 := hs2.cell 2 rfl (o := 0) rfl
                have k1 := hs2.cell 2 rfl (o := 1) rfl
                have d0 := hs2.cell 3 rfl (o := 0) rfl
                have d1 := hs2.cell 3 rfl (o := 1) rfl
                have d2 := hs2.cell 3 rfl (o := 2) rfl
                have d3 := hs2.cell 3 rfl (o := 3) rfl
                have d4 := hs2.cell 3 rfl (o := 4) rfl
                have f0 := hs2.free 2 rfl 0
                have f1 := hs2.free 2 rfl 1
                have l8 := hs2.lt 2 rfl
                have lA := hs2.lt 3 rfl
                have h8A := hs2.ne 2 3 rfl rfl (by decide)
                obtain ⟨v2, hv2, hs3⟩ : ∃ v2, ((v1.setCell ⟨b8, 0, none⟩ (.slice a2 n2 c2)).setCell ⟨b8, 1, none⟩ (.slice a3 n3 c3)) = v2 ∧ Stage (fun _ => False) w [Ob.cells p (W) (s), Ob.nest (.slice a2 n2 c2) (.slice a3 n3 c3) (putW W y z q r), Ob.box b8 #[.slice a2 n2 c2, .slice a3 n3 c3] 45, Ob.box bA #[.int .i64 2, .int .i64 y, .int .i64 z, .int .i64 q, .int .u64 r] 48] v2 := ⟨_, rfl, (hs2.store 2 rfl 0 (.slice a2 n2 c2)).store 2 rfl 1 (.slice a3 n3 c3)⟩
                have hC := hs3.call 0 rfl (fun _ ho => put_cl y z q r ho)
                have kk0 := hs3.cell 2 rfl (o := 0) rfl
                have kk1 := hs3.cell 2 rfl (o := 1) rfl
                have dd0 := hs3.cell 3 rfl (o := 0) rfl
                have dd1 := hs3.cell 3 rfl (o := 1) rfl
                have dd2 := hs3.cell 3 rfl (o := 2) rfl
                have dd3 := hs3.cell 3 rfl (o := 3) rfl
                have dd4 := hs3.cell 3 rfl (o := 4) rfl
                have ff0 := hs3.free 2 rfl 0
                have ff1 := hs3.free 2 rfl 1
                have ll8 := hs3.lt 2 rfl
                have llA := hs3.lt 3 rfl
                have hh8A := hs3.ne 2 3 rfl rfl (by decide)
                clear hs hs2
                go_wp2_with fail
                clear hv2 k0 k1 d0 d1 d2 d3 d4 f0 f1 l8 lA h8A kk0 kk1 dd0 dd1 dd2 dd3 dd4 ff0 ff1 ll8 llA hh8A
                refine hC.mono ?_
                rintro e v3 ⟨rfl, hs4⟩
                clear hC hs3
                go_wp2_with fail
                go_meet
                exact ⟨(putB W y z), _, s, a2, n2, c2, a3, n3, c3, rfl, rfl, rfl, by omega, hs4⟩
              · have hx2' : (x == 2) = false := by simpa using hx2
                clear hx2
                by_cases hx3 : x = 3
                · subst hx3
                  have hR := hs.nestCall 1 rfl (reflower_any z q r (hs.nestAt 1 rfl))
                  have k0 := hs.cell 2 rfl (o := 0) rfl
                  have k1 := hs.cell 2 rfl (o := 1) rfl
                  have d0 := hs.cell 3 rfl (o := 0) rfl
                  have d1 := hs.cell 3 rfl (o := 1) rfl
                  have d2 := hs.cell 3 rfl (o := 2) rfl
                  have d3 := hs.cell 3 rfl (o := 3) rfl
                  have d4 := hs.cell 3 rfl (o := 4) rfl
                  have f0 := hs.free 2 rfl 0
                  have f1 := hs.free 2 rfl 1
                  have l8 := hs.lt 2 rfl
                  have lA := hs.lt 3 rfl
                  have h8A := hs.ne 2 3 rfl rfl (by decide)
                  go_wp2_with fail
                  clear k0 k1 d0 d1 d2 d3 d4 f0 f1 l8 lA h8A
                  refine hR.mono ?_
                  rintro e v1 ⟨a2, n2, c2, a3, n3, c3, rfl, hs2⟩
                  replace hs2 : Stage (fun _ => False) w [Ob.cells p W s, Ob.nest (.slice a2 n2 c2) (.slice a3 n3 c3) (lowerW W z q r), Ob.box b8 #[.slice a n c, .slice a' n' c'] 45, Ob.box bA #[.int .i64 3, .int .i64 y, .int .i64 z, .int .i64 q, .int .u64 r] 48] v1 := hs2
                  clear hR
                  have k0 := hs2.cell 2 rfl (o := 0) rfl
                  have k1 := hs2.cell 2 rfl (o := 1) rfl
                  have d0 := hs2.cell 3 rfl (o := 0) rfl
                  have d1 := hs2.cell 3 rfl (o := 1) rfl
                  have d2 := hs2.cell 3 rfl (o := 2) rfl
                  have d3 := hs2.cell 3 rfl (o := 3) rfl
                  have d4 := hs2.cell 3 rfl (o := 4) rfl
                  have f0 := hs2.free 2 rfl 0
                  have f1 := hs2.free 2 rfl 1
                  have l8 := hs2.lt 2 rfl
                  have lA := hs2.lt 3 rfl
                  have h8A := hs2.ne 2 3 rfl rfl (by decide)
                  obtain ⟨v2, hv2, hs3⟩ : ∃ v2, ((v1.setCell ⟨b8, 0, none⟩ (.slice a2 n2 c2)).setCell ⟨b8, 1, none⟩ (.slice a3 n3 c3)) = v2 ∧ Stage (fun _ => False) w [Ob.cells p (W) (s), Ob.nest (.slice a2 n2 c2) (.slice a3 n3 c3) (lowerW W z q r), Ob.box b8 #[.slice a2 n2 c2, .slice a3 n3 c3] 45, Ob.box bA #[.int .i64 3, .int .i64 y, .int .i64 z, .int .i64 q, .int .u64 r] 48] v2 := ⟨_, rfl, (hs2.store 2 rfl 0 (.slice a2 n2 c2)).store 2 rfl 1 (.slice a3 n3 c3)⟩
                  have hC := hs3.call 0 rfl (fun _ ho => lower_cl z q r ho)
                  have kk0 := hs3.cell 2 rfl (o := 0) rfl
                  have kk1 := hs3.cell 2 rfl (o := 1) rfl
                  have dd0 := hs3.cell 3 rfl (o := 0) rfl
                  have dd1 := hs3.cell 3 rfl (o := 1) rfl
                  have dd2 := hs3.cell 3 rfl (o := 2) rfl
                  have dd3 := hs3.cell 3 rfl (o := 3) rfl
                  have dd4 := hs3.cell 3 rfl (o := 4) rfl
                  have ff0 := hs3.free 2 rfl 0
                  have ff1 := hs3.free 2 rfl 1
                  have ll8 := hs3.lt 2 rfl
                  have llA := hs3.lt 3 rfl
                  have hh8A := hs3.ne 2 3 rfl rfl (by decide)
                  clear hs hs2
                  go_wp2_with fail
                  clear hv2 k0 k1 d0 d1 d2 d3 d4 f0 f1 l8 lA h8A kk0 kk1 dd0 dd1 dd2 dd3 dd4 ff0 ff1 ll8 llA hh8A
                  refine hC.mono ?_
                  rintro e v3 ⟨rfl, hs4⟩
                  clear hC hs3
                  go_wp2_with fail
                  go_meet
                  exact ⟨(lowerB W z q r), _, s, a2, n2, c2, a3, n3, c3, rfl, rfl, rfl, by omega, hs4⟩
                · have hx3' : (x == 3) = false := by simpa using hx3
                  clear hx3
                  by_cases hx4 : x = 4
                  · subst hx4
                    have hR := hs.nestCall 1 rfl (reflower_any z q r (hs.nestAt 1 rfl))
                    have k0 := hs.cell 2 rfl (o := 0) rfl
                    have k1 := hs.cell 2 rfl (o := 1) rfl
                    have d0 := hs.cell 3 rfl (o := 0) rfl
                    have d1 := hs.cell 3 rfl (o := 1) rfl
                    have d2 := hs.cell 3 rfl (o := 2) rfl
                    have d3 := hs.cell 3 rfl (o := 3) rfl
                    have d4 := hs.cell 3 rfl (o := 4) rfl
                    have f0 := hs.free 2 rfl 0
                    have f1 := hs.free 2 rfl 1
                    have l8 := hs.lt 2 rfl
                    have lA := hs.lt 3 rfl
                    have h8A := hs.ne 2 3 rfl rfl (by decide)
                    go_wp2_with fail
                    clear k0 k1 d0 d1 d2 d3 d4 f0 f1 l8 lA h8A
                    refine hR.mono ?_
                    rintro e v1 ⟨a2, n2, c2, a3, n3, c3, rfl, hs2⟩
                    replace hs2 : Stage (fun _ => False) w [Ob.cells p W s, Ob.nest (.slice a2 n2 c2) (.slice a3 n3 c3) (lowerW W z q r), Ob.box b8 #[.slice a n c, .slice a' n' c'] 45, Ob.box bA #[.int .i64 4, .int .i64 y, .int .i64 z, .int .i64 q, .int .u64 r] 48] v1 := hs2
                    clear hR
                    have k0 := hs2.cell 2 rfl (o := 0) rfl
                    have k1 := hs2.cell 2 rfl (o := 1) rfl
                    have d0 := hs2.cell 3 rfl (o := 0) rfl
                    have d1 := hs2.cell 3 rfl (o := 1) rfl
                    have d2 := hs2.cell 3 rfl (o := 2) rfl
                    have d3 := hs2.cell 3 rfl (o := 3) rfl
                    have d4 := hs2.cell 3 rfl (o := 4) rfl
                    have f0 := hs2.free 2 rfl 0
                    have f1 := hs2.free 2 rfl 1
                    have l8 := hs2.lt 2 rfl
                    have lA := hs2.lt 3 rfl
                    have h8A := hs2.ne 2 3 rfl rfl (by decide)
                    obtain ⟨v2, hv2, hs3⟩ : ∃ v2, ((v1.setCell ⟨b8, 0, none⟩ (.slice a2 n2 c2)).setCell ⟨b8, 1, none⟩ (.slice a3 n3 c3)) = v2 ∧ Stage (fun _ => False) w [Ob.cells p (W) (s), Ob.nest (.slice a2 n2 c2) (.slice a3 n3 c3) (lowerW W z q r), Ob.box b8 #[.slice a2 n2 c2, .slice a3 n3 c3] 45, Ob.box bA #[.int .i64 4, .int .i64 y, .int .i64 z, .int .i64 q, .int .u64 r] 48] v2 := ⟨_, rfl, (hs2.store 2 rfl 0 (.slice a2 n2 c2)).store 2 rfl 1 (.slice a3 n3 c3)⟩
                    have hC := hs3.call 0 rfl (fun _ ho => lower_cl z q r ho)
                    have kk0 := hs3.cell 2 rfl (o := 0) rfl
                    have kk1 := hs3.cell 2 rfl (o := 1) rfl
                    have dd0 := hs3.cell 3 rfl (o := 0) rfl
                    have dd1 := hs3.cell 3 rfl (o := 1) rfl
                    have dd2 := hs3.cell 3 rfl (o := 2) rfl
                    have dd3 := hs3.cell 3 rfl (o := 3) rfl
                    have dd4 := hs3.cell 3 rfl (o := 4) rfl
                    have ff0 := hs3.free 2 rfl 0
                    have ff1 := hs3.free 2 rfl 1
                    have ll8 := hs3.lt 2 rfl
                    have llA := hs3.lt 3 rfl
                    have hh8A := hs3.ne 2 3 rfl rfl (by decide)
                    clear hs hs2
                    go_wp2_with fail
                    clear hv2 k0 k1 d0 d1 d2 d3 d4 f0 f1 l8 lA h8A kk0 kk1 dd0 dd1 dd2 dd3 dd4 ff0 ff1 ll8 llA hh8A
                    refine hC.mono ?_
                    rintro e v3 ⟨rfl, hs4⟩
                    clear hC hs3
                    go_wp2_with fail
                    go_meet
                    exact ⟨(lowerB W z q r), _, s, a2, n2, c2, a3, n3, c3, rfl, rfl, rfl, by omega, hs4⟩
                  · have hx4' : (x == 4) = false := by simpa using hx4
                    clear hx4
                    by_cases hx5 : x = 5
                    · subst hx5
                      have hR := hs.nestCall 1 rfl (refdrop_any z (hs.nestAt 1 rfl))
                      have k0 := hs.cell 2 rfl (o := 0) rfl
                      have k1 := hs.cell 2 rfl (o := 1) rfl
                      have d0 := hs.cell 3 rfl (o := 0) rfl
                      have d1 := hs.cell 3 rfl (o := 1) rfl
                      have d2 := hs.cell 3 rfl (o := 2) rfl
                      have d3 := hs.cell 3 rfl (o := 3) rfl
                      have d4 := hs.cell 3 rfl (o := 4) rfl
                      have f0 := hs.free 2 rfl 0
                      have f1 := hs.free 2 rfl 1
                      have l8 := hs.lt 2 rfl
                      have lA := hs.lt 3 rfl
                      have h8A := hs.ne 2 3 rfl rfl (by decide)
                      go_wp2_with fail
                      clear k0 k1 d0 d1 d2 d3 d4 f0 f1 l8 lA h8A
                      refine hR.mono ?_
                      rintro e v1 ⟨a2, n2, c2, a3, n3, c3, rfl, hs2⟩
                      replace hs2 : Stage (fun _ => False) w [Ob.cells p W s, Ob.nest (.slice a2 n2 c2) (.slice a3 n3 c3) (dropW W z), Ob.box b8 #[.slice a n c, .slice a' n' c'] 45, Ob.box bA #[.int .i64 5, .int .i64 y, .int .i64 z, .int .i64 q, .int .u64 r] 48] v1 := hs2
                      clear hR
                      have k0 := hs2.cell 2 rfl (o := 0) rfl
                      have k1 := hs2.cell 2 rfl (o := 1) rfl
                      have d0 := hs2.cell 3 rfl (o := 0) rfl
                      have d1 := hs2.cell 3 rfl (o := 1) rfl
                      have d2 := hs2.cell 3 rfl (o := 2) rfl
                      have d3 := hs2.cell 3 rfl (o := 3) rfl
                      have d4 := hs2.cell 3 rfl (o := 4) rfl
                      have f0 := hs2.free 2 rfl 0
                      have f1 := hs2.free 2 rfl 1
                      have l8 := hs2.lt 2 rfl
                      have lA := hs2.lt 3 rfl
                      have h8A := hs2.ne 2 3 rfl rfl (by decide)
                      obtain ⟨v2, hv2, hs3⟩ : ∃ v2, ((v1.setCell ⟨b8, 0, none⟩ (.slice a2 n2 c2)).setCell ⟨b8, 1, none⟩ (.slice a3 n3 c3)) = v2 ∧ Stage (fun _ => False) w [Ob.cells p (W) (s), Ob.nest (.slice a2 n2 c2) (.slice a3 n3 c3) (dropW W z), Ob.box b8 #[.slice a2 n2 c2, .slice a3 n3 c3] 45, Ob.box bA #[.int .i64 5, .int .i64 y, .int .i64 z, .int .i64 q, .int .u64 r] 48] v2 := ⟨_, rfl, (hs2.store 2 rfl 0 (.slice a2 n2 c2)).store 2 rfl 1 (.slice a3 n3 c3)⟩
                      have hC := hs3.call 0 rfl (fun _ ho => drop_cl z ho)
                      have kk0 := hs3.cell 2 rfl (o := 0) rfl
                      have kk1 := hs3.cell 2 rfl (o := 1) rfl
                      have dd0 := hs3.cell 3 rfl (o := 0) rfl
                      have dd1 := hs3.cell 3 rfl (o := 1) rfl
                      have dd2 := hs3.cell 3 rfl (o := 2) rfl
                      have dd3 := hs3.cell 3 rfl (o := 3) rfl
                      have dd4 := hs3.cell 3 rfl (o := 4) rfl
                      have ff0 := hs3.free 2 rfl 0
                      have ff1 := hs3.free 2 rfl 1
                      have ll8 := hs3.lt 2 rfl
                      have llA := hs3.lt 3 rfl
                      have hh8A := hs3.ne 2 3 rfl rfl (by decide)
                      clear hs hs2
                      go_wp2_with fail
                      clear hv2 k0 k1 d0 d1 d2 d3 d4 f0 f1 l8 lA h8A kk0 kk1 dd0 dd1 dd2 dd3 dd4 ff0 ff1 ll8 llA hh8A
                      refine hC.mono ?_
                      rintro e v3 ⟨rfl, hs4⟩
                      clear hC hs3
                      go_wp2_with fail
                      go_meet
                      exact ⟨(inW W z), _, s, a2, n2, c2, a3, n3, c3, rfl, rfl, rfl, by omega, hs4⟩
                    · have hx5' : (x == 5) = false := by simpa using hx5
                      clear hx5
                      by_cases hx6 : x = 6
                      · subst hx6
                        have hR := hs.nestCall 1 rfl (refjoin_any y z (hs.nestAt 1 rfl))
                        have k0 := hs.cell 2 rfl (o := 0) rfl
                        have k1 := hs.cell 2 rfl (o := 1) rfl
                        have d0 := hs.cell 3 rfl (o := 0) rfl
                        have d1 := hs.cell 3 rfl (o := 1) rfl
                        have d2 := hs.cell 3 rfl (o := 2) rfl
                        have d3 := hs.cell 3 rfl (o := 3) rfl
                        have d4 := hs.cell 3 rfl (o := 4) rfl
                        have f0 := hs.free 2 rfl 0
                        have f1 := hs.free 2 rfl 1
                        have l8 := hs.lt 2 rfl
                        have lA := hs.lt 3 rfl
                        have h8A := hs.ne 2 3 rfl rfl (by decide)
                        go_wp2_with fail
                        clear k0 k1 d0 d1 d2 d3 d4 f0 f1 l8 lA h8A
                        refine hR.mono ?_
                        rintro e v1 ⟨a2, n2, c2, a3, n3, c3, rfl, hs2⟩
                        replace hs2 : Stage (fun _ => False) w [Ob.cells p W s, Ob.nest (.slice a2 n2 c2) (.slice a3 n3 c3) (joinW W y z), Ob.box b8 #[.slice a n c, .slice a' n' c'] 45, Ob.box bA #[.int .i64 6, .int .i64 y, .int .i64 z, .int .i64 q, .int .u64 r] 48] v1 := hs2
                        clear hR
                        have k0 := hs2.cell 2 rfl (o := 0) rfl
                        have k1 := hs2.cell 2 rfl (o := 1) rfl
                        have d0 := hs2.cell 3 rfl (o := 0) rfl
                        have d1 := hs2.cell 3 rfl (o := 1) rfl
                        have d2 := hs2.cell 3 rfl (o := 2) rfl
                        have d3 := hs2.cell 3 rfl (o := 3) rfl
                        have d4 := hs2.cell 3 rfl (o := 4) rfl
                        have f0 := hs2.free 2 rfl 0
                        have f1 := hs2.free 2 rfl 1
                        have l8 := hs2.lt 2 rfl
                        have lA := hs2.lt 3 rfl
                        have h8A := hs2.ne 2 3 rfl rfl (by decide)
                        obtain ⟨v2, hv2, hs3⟩ : ∃ v2, ((v1.setCell ⟨b8, 0, none⟩ (.slice a2 n2 c2)).setCell ⟨b8, 1, none⟩ (.slice a3 n3 c3)) = v2 ∧ Stage (fun _ => False) w [Ob.cells p (W) (s), Ob.nest (.slice a2 n2 c2) (.slice a3 n3 c3) (joinW W y z), Ob.box b8 #[.slice a2 n2 c2, .slice a3 n3 c3] 45, Ob.box bA #[.int .i64 6, .int .i64 y, .int .i64 z, .int .i64 q, .int .u64 r] 48] v2 := ⟨_, rfl, (hs2.store 2 rfl 0 (.slice a2 n2 c2)).store 2 rfl 1 (.slice a3 n3 c3)⟩
                        have hC := hs3.call 0 rfl (fun _ ho => join_cl y z ho)
                        have kk0 := hs3.cell 2 rfl (o := 0) rfl
                        have kk1 := hs3.cell 2 rfl (o := 1) rfl
                        have dd0 := hs3.cell 3 rfl (o := 0) rfl
                        have dd1 := hs3.cell 3 rfl (o := 1) rfl
                        have dd2 := hs3.cell 3 rfl (o := 2) rfl
                        have dd3 := hs3.cell 3 rfl (o := 3) rfl
                        have dd4 := hs3.cell 3 rfl (o := 4) rfl
                        have ff0 := hs3.free 2 rfl 0
                        have ff1 := hs3.free 2 rfl 1
                        have ll8 := hs3.lt 2 rfl
                        have llA := hs3.lt 3 rfl
                        have hh8A := hs3.ne 2 3 rfl rfl (by decide)
                        clear hs hs2
                        go_wp2_with fail
                        clear hv2 k0 k1 d0 d1 d2 d3 d4 f0 f1 l8 lA h8A kk0 kk1 dd0 dd1 dd2 dd3 dd4 ff0 ff1 ll8 llA hh8A
                        refine hC.mono ?_
                        rintro e v3 ⟨rfl, hs4⟩
                        clear hC hs3
                        go_wp2_with fail
                        go_meet
                        exact ⟨(joinBW W y z), _, s, a2, n2, c2, a3, n3, c3, rfl, rfl, rfl, by omega, hs4⟩
                      · have hx6' : (x == 6) = false := by simpa using hx6
                        clear hx6
                        have hR := refahead_any y z (hs.nestAt 1 rfl)
                        have k0 := hs.cell 2 rfl (o := 0) rfl
                        have k1 := hs.cell 2 rfl (o := 1) rfl
                        have d0 := hs.cell 3 rfl (o := 0) rfl
                        have d1 := hs.cell 3 rfl (o := 1) rfl
                        have d2 := hs.cell 3 rfl (o := 2) rfl
                        have d3 := hs.cell 3 rfl (o := 3) rfl
                        have d4 := hs.cell 3 rfl (o := 4) rfl
                        have f0 := hs.free 2 rfl 0
                        have f1 := hs.free 2 rfl 1
                        have l8 := hs.lt 2 rfl
                        have lA := hs.lt 3 rfl
                        have h8A := hs.ne 2 3 rfl rfl (by decide)
                        go_wp2_with fail
                        clear k0 k1 d0 d1 d2 d3 d4 f0 f1 l8 lA h8A
                        refine hR.mono ?_
                        rintro e v1 ⟨rfl, hb1⟩
                        have hs2 := hs.later hb1
                        clear hR hs hb1
                        have hC := hs2.call 0 rfl (fun _ ho => ahead_cl y z ho)
                        have k0 := hs2.cell 2 rfl (o := 0) rfl
                        have k1 := hs2.cell 2 rfl (o := 1) rfl
                        have d0 := hs2.cell 3 rfl (o := 0) rfl
                        have d1 := hs2.cell 3 rfl (o := 1) rfl
                        have d2 := hs2.cell 3 rfl (o := 2) rfl
                        have d3 := hs2.cell 3 rfl (o := 3) rfl
                        have d4 := hs2.cell 3 rfl (o := 4) rfl
                        have f0 := hs2.free 2 rfl 0
                        have f1 := hs2.free 2 rfl 1
                        have l8 := hs2.lt 2 rfl
                        have lA := hs2.lt 3 rfl
                        have h8A := hs2.ne 2 3 rfl rfl (by decide)
                        go_wp2_with fail
                        clear k0 k1 d0 d1 d2 d3 d4 f0 f1 l8 lA h8A
                        refine hC.mono ?_
                        rintro e v2 ⟨rfl, hs3⟩
                        replace hs3 : Stage (fun _ => False) w [Ob.cells p (W) (aheadS W s y z), Ob.nest (.slice a n c) (.slice a' n' c') (W), Ob.box b8 #[(.slice a n c), (.slice a' n' c')] 45, Ob.box bA #[.int .i64 x, .int .i64 y, .int .i64 z, .int .i64 q, .int .u64 r] 48] v2 := hs3
                        clear hC hs2
                        have hI := refin_any y (hs3.nestAt 1 rfl)
                        have k0 := hs3.cell 2 rfl (o := 0) rfl
                        have k1 := hs3.cell 2 rfl (o := 1) rfl
                        have d0 := hs3.cell 3 rfl (o := 0) rfl
                        have d1 := hs3.cell 3 rfl (o := 1) rfl
                        have d2 := hs3.cell 3 rfl (o := 2) rfl
                        have d3 := hs3.cell 3 rfl (o := 3) rfl
                        have d4 := hs3.cell 3 rfl (o := 4) rfl
                        have f0 := hs3.free 2 rfl 0
                        have f1 := hs3.free 2 rfl 1
                        have l8 := hs3.lt 2 rfl
                        have lA := hs3.lt 3 rfl
                        have h8A := hs3.ne 2 3 rfl rfl (by decide)
                        cases iy : inW W y
                        · rw [iy] at hI
                          have e2 : aheadS W s y z = s := by simp [aheadS, iy]
                          rw [e2] at hs3
                          go_wp2_with fail
                          clear k0 k1 d0 d1 d2 d3 d4 f0 f1 l8 lA h8A
                          refine hI.mono ?_
                          rintro e v3 ⟨rfl, hb3⟩
                          have hs4 := hs3.later hb3
                          clear hI hs3 hb3
                          go_wp2_with fail
                          go_meet
                          exact ⟨aheadW W y z, W, s, a, n, c, a', n', c', rfl, rfl, rfl, by omega, hs4⟩
                        · rw [iy] at hI
                          go_wp2_with fail
                          clear k0 k1 d0 d1 d2 d3 d4 f0 f1 l8 lA h8A
                          refine hI.mono ?_
                          rintro e v3 ⟨rfl, hb3⟩
                          have hs4 := hs3.later hb3
                          clear hI hs3 hb3
                          have hI := refin_any z (hs4.nestAt 1 rfl)
                          have k0 := hs4.cell 2 rfl (o := 0) rfl
                          have k1 := hs4.cell 2 rfl (o := 1) rfl
                          have d0 := hs4.cell 3 rfl (o := 0) rfl
                          have d1 := hs4.cell 3 rfl (o := 1) rfl
                          have d2 := hs4.cell 3 rfl (o := 2) rfl
                          have d3 := hs4.cell 3 rfl (o := 3) rfl
                          have d4 := hs4.cell 3 rfl (o := 4) rfl
                          have f0 := hs4.free 2 rfl 0
                          have f1 := hs4.free 2 rfl 1
                          have l8 := hs4.lt 2 rfl
                          have lA := hs4.lt 3 rfl
                          have h8A := hs4.ne 2 3 rfl rfl (by decide)
                          cases iz : inW W z
                          · rw [iz] at hI
                            have e2 : aheadS W s y z = s := by simp [aheadS, iz]
                            rw [e2] at hs4
                            go_wp2_with fail
                            clear k0 k1 d0 d1 d2 d3 d4 f0 f1 l8 lA h8A
                            refine hI.mono ?_
                            rintro e v4 ⟨rfl, hb4⟩
                            have hs5 := hs4.later hb4
                            clear hI hs4 hb4
                            go_wp2_with fail
                            go_meet
                            exact ⟨aheadW W y z, W, s, a, n, c, a', n', c', rfl, rfl, rfl, by omega, hs5⟩
                          · rw [iz] at hI
                            have e2 : aheadS W s y z = s + 1 := by simp only [aheadS, iy, iz]; exact add_one (by omega)
                            rw [e2] at hs4
                            have e3 : IntKind.i64.wrap (s + 1) = s + 1 := IntWalk.i64_in _ (by omega)
                            go_wp2_with fail
                            clear k0 k1 d0 d1 d2 d3 d4 f0 f1 l8 lA h8A
                            refine hI.mono ?_
                            rintro e v4 ⟨rfl, hb4⟩
                            have hs5 := hs4.later hb4
                            clear hI hs4 hb4
                            go_wp2_with fail
                            go_meet
                            exact ⟨aheadW W y z, W, s + 1, a, n, c, a', n', c', rfl, rfl, rfl, by omega, hs5⟩
        case rest =>
          obtain ⟨B, W2, s2, a2, n2, c2, a3, n3, c3, rfl, rfl, rfl, hs2b, hst⟩ := hcut
          clear hs
          have hS := hst.ask 0 rfl (fun _ ho => steps_cl ho)
          have hfit : W2.Fit := by obtain ⟨F, ho⟩ := hst.get (i := 0) rfl; exact Ob.cells.fit ho
          have hLk := Stage.frame (l := [Ob.cells p W2 s2, Ob.nest (.slice a2 n2 c2) (.slice a3 n3 c3) W2]) (r := [_, _]) hst (fun F hF hs => looks_any (tells_cells s2 hfit) (meth_entry p) (meth_home p) (meth_has p) (meth_len p) x y z q r hy hs)
          have k0 := hst.cell 2 rfl (o := 0) rfl
          have k1 := hst.cell 2 rfl (o := 1) rfl
          have d0 := hst.cell 3 rfl (o := 0) rfl
          have d1 := hst.cell 3 rfl (o := 1) rfl
          have d2 := hst.cell 3 rfl (o := 2) rfl
          have d3 := hst.cell 3 rfl (o := 3) rfl
          have d4 := hst.cell 3 rfl (o := 4) rfl
          have f0 := hst.free 2 rfl 0
          have f1 := hst.free 2 rfl 1
          have l8 := hst.lt 2 rfl
          have lA := hst.lt 3 rfl
          have h8A := hst.ne 2 3 rfl rfl (by decide)
          go_wp2_with fail
          refine hS.mono ?_
          rintro e v1 ⟨rfl, rfl⟩
          clear hS
          go_wp2_with fail
          clear k0 k1 d0 d1 d2 d3 d4 f0 f1 l8 lA h8A
          refine hLk.mono ?_
          rintro e v2 ⟨rfl, hs3⟩
          clear hLk hst
          go_wp2_with fail
          go_roundw
          case rel => exact ⟨k + 1, W2, s2, a2, n2, c2, a3, n3, c3, by omega, by go_num, rfl, by omega, hs3.take 3⟩
          case measure => simp [intOf]; omega
      · have hki : ¬ (k : Int) < n0 := by omega
        go_wp2_with fail
        go_ret
        exact ⟨rfl, hs.below⟩
end Go.Proofs.Ytdipahkgfkoamaa
