/- Do, of whatever nest, told so that what the document's nest was before is there, too. (NestDo's text, by program.) -/
import Derived.Test.YtcjjglaimfhofaaFiNest
import Derived.Deep.RegionHeld3
namespace Go.Proofs.Ytcjjglaimfhofaa
open Go.RowKit Go.Sort

/-- The document's nest, and what it was before: nobody writes either. -/
def Ob.nestK (o : Value × Value × WS) (hv cv : Value) (W : WS) : Ob where
  holds w F := (NestAt w o.1 o.2.1 o.2.2 ∧ NestAt w hv cv W) ∧ F = fun k => nestF o.1 o.2.1 k ∨ nestF hv cv k
  keeps := by
    rintro w w' F G ⟨⟨h1, h2⟩, rfl⟩ k hn
    exact ⟨⟨h1.keeps k fun b hb => hn b (Or.inl hb), h2.keeps k fun b hb => hn b (Or.inr hb)⟩, rfl⟩
  lt := by
    rintro w F ⟨⟨h1, h2⟩, rfl⟩ k hk
    exact hk.elim (h1.lt k) (h2.lt k)
namespace Stage
variable {F0 : Nat → Prop} {W w w' : World} {l : List Ob} {P : Program} {f : FuncId} {args : Array Value} {o : Value × Value × WS}
theorem nestAtK {hv cv : Value} {W0 : WS} (h : Stage F0 W l w) (i : Nat) (hi : l[i]? = some (Ob.nestK o hv cv W0)) : NestAt w hv cv W0 := by
  obtain ⟨_, h1, _⟩ := h.get hi; exact h1.2
theorem nestOld {hv cv : Value} {W0 : WS} (h : Stage F0 W l w) (i : Nat) (hi : l[i]? = some (Ob.nestK o hv cv W0)) : NestAt w o.1 o.2.1 o.2.2 := by
  obtain ⟨_, h1, _⟩ := h.get hi; exact h1.1
theorem nestFormsK {hv cv : Value} {W0 : WS} (h : Stage F0 W l w) (i : Nat) (hi : l[i]? = some (Ob.nestK o hv cv W0)) : ∃ a n c a' n' c', hv = .slice a n c ∧ cv = .slice a' n' c' := by
  obtain ⟨a, c, h1, _, _⟩ := (h.nestAtK i hi).hform
  obtain ⟨a', c', h2, _, _⟩ := (h.nestAtK i hi).cform
  exact ⟨_, _, _, _, _, _, h1, h2⟩
theorem nestCallK {hv cv : Value} {W0 W' : WS} {res : Value → Value} (h : Stage F0 W l w) (i : Nat) (hi : l[i]? = some (Ob.nestK o hv cv W0)) (hc : Calls Try.prog f args w (NestPost w hv cv W' res)) :
    Calls Try.prog f args w fun e w' => ∃ a n c a' n' c', e = .returned (res (.agg #[.slice a n c, .slice a' n' c'])) ∧ Stage F0 W (l.set i (Ob.nestK o (.slice a n c) (.slice a' n' c') W')) w' :=
  hc.mono fun e w' ⟨hv', cv', he, hb, hN, hF⟩ => by
    obtain ⟨a, c, rfl, _, _⟩ := hN.hform
    obtain ⟨a', c', rfl, _, _⟩ := hN.cform
    refine ⟨_, _, _, _, _, _, he, h.moved hi fun F ⟨⟨h1, _⟩, hF0⟩ => ⟨fun k => nestF o.1 o.2.1 k ∨ nestF _ _ k, ⟨⟨h1.later hb, hN⟩, rfl⟩, ⟨Keeps.of_below_all hb F, ?_⟩⟩⟩
    subst hF0
    intro k hk
    rcases hk with hk | hk
    · exact Or.inl (Or.inl hk)
    · exact (hF k hk).imp Or.inr id
/-- From here on it is what was before. -/
theorem nestKeep {hv cv : Value} {W0 : WS} (h : Stage F0 W l w) (i : Nat) (hi : l[i]? = some (Ob.nest hv cv W0)) : Stage F0 W (l.set i (Ob.nestK (hv, cv, W0) hv cv W0)) w :=
  h.weaken hi fun F ⟨h1, h2⟩ => ⟨⟨h1, h1⟩, by rw [h2]; funext k; exact propext ⟨Or.inl, fun e => e.elim id id⟩⟩
theorem nestDrop {hv cv : Value} {W0 : WS} (h : Stage F0 W l w) (i : Nat) (hi : l[i]? = some (Ob.nestK o hv cv W0)) : Stage F0 W (l.set i (Ob.nest hv cv W0)) w :=
  h.moved hi fun F ⟨⟨_, h1⟩, h2⟩ => ⟨nestF hv cv, ⟨h1, rfl⟩, ⟨Keeps.refl _ _, fun k hk => Or.inl (by rw [h2]; exact Or.inr hk)⟩⟩
end Stage

section
variable {γ : Type} {O : WS → γ → Ob} {st : γ → Int} {R : WS → Int → Int → Int → Int → Int → γ → γ → Prop} {H : World → Prop} {T : TypeId} {v : Value} {f : NestFns} {o9 : Value × Value × WS}
/-- Behind Do: both nests are what the act makes of them; the answers were the same. -/
def DoPostK (o9 : Value × Value × WS) {γ : Type} (O : WS → γ → Ob) (R : WS → Int → Int → Int → Int → Int → γ → γ → Prop) (F : Nat → Prop) (w : World) (W W' : WS) (g : γ) (k y x q r : Int) (e : Ending) (w' : World) : Prop :=
  ∃ a n c a' n' c' g', e = .returned (.tuple #[.agg #[.slice a n c, .slice a' n' c'], .bool true]) ∧ R W k y x q r g g' ∧ Stage F w [O W' g', Ob.nestK o9 (.slice a n c) (.slice a' n' c') W'] w'
set_option maxRecDepth 100000 in
set_option maxHeartbeats 4000000 in
theorem do_makeK (N : Nests O st R H T v f) {hv cv : Value} {W : WS} {g : γ} (y x q r : Int) (_hy : inInt y) (_hx : inInt x) {F : Nat → Prop} {w : World} (hs : Stage F w [O W g, Ob.nestK o9 hv cv W] w) :
    Calls Try.prog 25 #[.iface T v, .agg #[hv, cv], .agg #[.int .i64 0, .int .i64 y, .int .i64 x, .int .i64 q, .int .u64 r]] w (DoPostK o9 O R F w W (makeW W) g 0 y x q r) := by
  obtain ⟨a, n, c, a', n', c', rfl, rfl⟩ := hs.nestFormsK 1 rfl
  obtain ⟨V, hV, hs1⟩ : ∃ V, ((w.alloc (.cells #[.slice a n c, .slice a' n' c'] 59)).alloc (.cells #[.int .i64 0, .int .i64 y, .int .i64 x, .int .i64 q, .int .u64 r] 65)).alloc (.cells #[nestZ, nestZ] 59) = V ∧ Stage F w [O W g, Ob.nestK o9 (.slice a n c) (.slice a' n' c') (W), Ob.box w.heap.size #[.slice a n c, .slice a' n' c'] 59, Ob.box (w.heap.size + 1) #[.int .i64 0, .int .i64 y, .int .i64 x, .int .i64 q, .int .u64 r] 65, Ob.box (w.heap.size + 1 + 1) #[nestZ, nestZ] 59] V :=
    ⟨_, rfl, ((hs.alloc _ _).alloc' _ _ (size_alloc _ _)).alloc' _ _ (by rw [size_alloc, size_alloc])⟩
  clear hs
  have k0 := hs1.cell 2 rfl (o := 0) rfl
  have k1 := hs1.cell 2 rfl (o := 1) rfl
  have d0 := hs1.cell 3 rfl (o := 0) rfl
  have d1 := hs1.cell 3 rfl (o := 1) rfl
  have d2 := hs1.cell 3 rfl (o := 2) rfl
  have d3 := hs1.cell 3 rfl (o := 3) rfl
  have d4 := hs1.cell 3 rfl (o := 4) rfl
  have hR := hs1.nestCallK 1 rfl (refmake_any (hs1.nestAtK 1 rfl))
  go_enter Try.func25, Try.ntmps25
  go_wp2_with fail
  clear k0 k1 d0 d1 d2 d3 d4
  clear hV
  generalize w.heap.size = b4 at *
  refine hR.mono ?_
  rintro e v1 ⟨a2, n2, c2, a3, n3, c3, rfl, hs2⟩
  clear hR hs1
  obtain ⟨v2, hv2, hs3⟩ : ∃ v2, v1.alloc (.cells #[.slice a2 n2 c2, .slice a3 n3 c3] 59) = v2 ∧ Stage F w [O W g, Ob.nestK o9 (.slice a2 n2 c2) (.slice a3 n3 c3) (makeW W), Ob.box b4 #[.slice a n c, .slice a' n' c'] 59, Ob.box (b4 + 1) #[.int .i64 0, .int .i64 y, .int .i64 x, .int .i64 q, .int .u64 r] 65, Ob.box (b4 + 1 + 1) #[nestZ, nestZ] 59, Ob.box v1.heap.size #[.slice a2 n2 c2, .slice a3 n3 c3] 59] v2 := ⟨_, rfl, hs2.alloc _ _⟩
  clear hs2
  go_wp2_with fail
  clear hv2
  generalize v1.heap.size = b8 at *
  have hs4 := hs3.drew
  have hC := hs4.callEx 0 rfl (fun _ ho => N.make ho)
  have hH := (hs4.get (i := 0) rfl).elim fun _ h => N.there h
  have m1 := N.mMake.find _ hH
  have m2 := N.mMake.enter
  have n68 := hs3.ne 4 5 rfl rfl (by decide)
  have n65 := hs3.ne 4 3 rfl rfl (by decide)
  have k0 := hs3.cell 5 rfl (o := 0) rfl
  have k1 := hs3.cell 5 rfl (o := 1) rfl
  have d0 := hs3.cell 3 rfl (o := 0) rfl
  have d1 := hs3.cell 3 rfl (o := 1) rfl
  have d2 := hs3.cell 3 rfl (o := 2) rfl
  have d3 := hs3.cell 3 rfl (o := 3) rfl
  have d4 := hs3.cell 3 rfl (o := 4) rfl
  go_region_held3 (fun w' => w'.cell? ⟨b8, 0, none⟩ = some (.slice a2 n2 c2) ∧ w'.cell? ⟨b8, 1, none⟩ = some (.slice a3 n3 c3) ∧ w'.cell? ⟨b4 + 1, 0, none⟩ = some (.int .i64 0) ∧ w'.cell? ⟨b4 + 1, 1, none⟩ = some (.int .i64 y) ∧ w'.cell? ⟨b4 + 1, 2, none⟩ = some (.int .i64 x) ∧ w'.cell? ⟨b4 + 1, 3, none⟩ = some (.int .i64 q) ∧ w'.cell? ⟨b4 + 1, 4, none⟩ = some (.int .u64 r)) (first | exact ⟨k0, k1, d0, d1, d2, d3, d4⟩ | exact ⟨k0p, k1p, d0p, d1p, d2p, d3p, d4p⟩ | simp [*, World.cell?_setCell_far])
    ((with_reducible refine hC.mono ?_; rintro e v3 ⟨rfl, g', hR, hs5⟩; have k0p := hs5.cell 5 rfl (o := 0) rfl; have k1p := hs5.cell 5 rfl (o := 1) rfl; have d0p := hs5.cell 3 rfl (o := 0) rfl; have d1p := hs5.cell 3 rfl (o := 1) rfl; have d2p := hs5.cell 3 rfl (o := 2) rfl; have d3p := hs5.cell 3 rfl (o := 3) rfl; have d4p := hs5.cell 3 rfl (o := 4) rfl; have f0 := hs5.free 4 rfl 0; have f1 := hs5.free 4 rfl 1; have l4 := hs5.lt 4 rfl; have z0 := hs5.cell 4 rfl (o := 0) rfl; have z1 := hs5.cell 4 rfl (o := 1) rfl))
  have hs6 := (hs5.store 4 rfl 0 (.slice a2 n2 c2)).store 4 rfl 1 (.slice a3 n3 c3)
  have y0 := hs6.cell 4 rfl (o := 0) rfl
  have y1 := hs6.cell 4 rfl (o := 1) rfl
  go_wp2_with fail
  exact bodyPost_ret (v := .tuple #[.agg #[.slice a2 n2 c2, .slice a3 n3 c3], .bool true]) (by simp [results, Try.results25, go_sem, y0, y1]) rfl ⟨a2, n2, c2, a3, n3, c3, g', rfl, hR y x q r, hs6.take 2⟩
set_option maxRecDepth 100000 in
set_option maxHeartbeats 4000000 in
theorem do_insK (N : Nests O st R H T v f) {hv cv : Value} {W : WS} {g : γ} (y x q r : Int) (hy : inInt y) (hx : inInt x) {F : Nat → Prop} {w : World} (hs : Stage F w [O W g, Ob.nestK o9 hv cv W] w) :
    Calls Try.prog 25 #[.iface T v, .agg #[hv, cv], .agg #[.int .i64 1, .int .i64 y, .int .i64 x, .int .i64 q, .int .u64 r]] w (DoPostK o9 O R F w W (putW W y x q r) g 1 y x q r) := by
  obtain ⟨a, n, c, a', n', c', rfl, rfl⟩ := hs.nestFormsK 1 rfl
  obtain ⟨V, hV, hs1⟩ : ∃ V, ((w.alloc (.cells #[.slice a n c, .slice a' n' c'] 59)).alloc (.cells #[.int .i64 1, .int .i64 y, .int .i64 x, .int .i64 q, .int .u64 r] 65)).alloc (.cells #[nestZ, nestZ] 59) = V ∧ Stage F w [O W g, Ob.nestK o9 (.slice a n c) (.slice a' n' c') (W), Ob.box w.heap.size #[.slice a n c, .slice a' n' c'] 59, Ob.box (w.heap.size + 1) #[.int .i64 1, .int .i64 y, .int .i64 x, .int .i64 q, .int .u64 r] 65, Ob.box (w.heap.size + 1 + 1) #[nestZ, nestZ] 59] V :=
    ⟨_, rfl, ((hs.alloc _ _).alloc' _ _ (size_alloc _ _)).alloc' _ _ (by rw [size_alloc, size_alloc])⟩
  clear hs
  have k0 := hs1.cell 2 rfl (o := 0) rfl
  have k1 := hs1.cell 2 rfl (o := 1) rfl
  have d0 := hs1.cell 3 rfl (o := 0) rfl
  have d1 := hs1.cell 3 rfl (o := 1) rfl
  have d2 := hs1.cell 3 rfl (o := 2) rfl
  have d3 := hs1.cell 3 rfl (o := 3) rfl
  have d4 := hs1.cell 3 rfl (o := 4) rfl
  have hR := hs1.nestCallK 1 rfl (refput_any y x q r (hs1.nestAtK 1 rfl))
  go_enter Try.func25, Try.ntmps25
  go_wp2_with fail
  clear k0 k1 d0 d1 d2 d3 d4
  clear hV
  generalize w.heap.size = b4 at *
  refine hR.mono ?_
  rintro e v1 ⟨a2, n2, c2, a3, n3, c3, rfl, hs2⟩
  clear hR hs1
  obtain ⟨v2, hv2, hs3⟩ : ∃ v2, v1.alloc (.cells #[.slice a2 n2 c2, .slice a3 n3 c3] 59) = v2 ∧ Stage F w [O W g, Ob.nestK o9 (.slice a2 n2 c2) (.slice a3 n3 c3) (putW W y x q r), Ob.box b4 #[.slice a n c, .slice a' n' c'] 59, Ob.box (b4 + 1) #[.int .i64 1, .int .i64 y, .int .i64 x, .int .i64 q, .int .u64 r] 65, Ob.box (b4 + 1 + 1) #[nestZ, nestZ] 59, Ob.box v1.heap.size #[.slice a2 n2 c2, .slice a3 n3 c3] 59] v2 := ⟨_, rfl, hs2.alloc _ _⟩
  clear hs2
  go_wp2_with fail
  clear hv2
  generalize v1.heap.size = b8 at *
  have hs4 := hs3.drew
  have hC := hs4.callEx 0 rfl (fun _ ho => N.ins y x q r hy hx ho)
  have hH := (hs4.get (i := 0) rfl).elim fun _ h => N.there h
  have m1 := N.mIns.find _ hH
  have m2 := N.mIns.enter
  have n68 := hs3.ne 4 5 rfl rfl (by decide)
  have n65 := hs3.ne 4 3 rfl rfl (by decide)
  have k0 := hs3.cell 5 rfl (o := 0) rfl
  have k1 := hs3.cell 5 rfl (o := 1) rfl
  have d0 := hs3.cell 3 rfl (o := 0) rfl
  have d1 := hs3.cell 3 rfl (o := 1) rfl
  have d2 := hs3.cell 3 rfl (o := 2) rfl
  have d3 := hs3.cell 3 rfl (o := 3) rfl
  have d4 := hs3.cell 3 rfl (o := 4) rfl
  go_region_held3 (fun w' => w'.cell? ⟨b8, 0, none⟩ = some (.slice a2 n2 c2) ∧ w'.cell? ⟨b8, 1, none⟩ = some (.slice a3 n3 c3) ∧ w'.cell? ⟨b4 + 1, 0, none⟩ = some (.int .i64 1) ∧ w'.cell? ⟨b4 + 1, 1, none⟩ = some (.int .i64 y) ∧ w'.cell? ⟨b4 + 1, 2, none⟩ = some (.int .i64 x) ∧ w'.cell? ⟨b4 + 1, 3, none⟩ = some (.int .i64 q) ∧ w'.cell? ⟨b4 + 1, 4, none⟩ = some (.int .u64 r)) (first | exact ⟨k0, k1, d0, d1, d2, d3, d4⟩ | exact ⟨k0p, k1p, d0p, d1p, d2p, d3p, d4p⟩ | simp [*, World.cell?_setCell_far])
    ((with_reducible refine hC.mono ?_; rintro e v3 ⟨rfl, g', hR, hs5⟩; have k0p := hs5.cell 5 rfl (o := 0) rfl; have k1p := hs5.cell 5 rfl (o := 1) rfl; have d0p := hs5.cell 3 rfl (o := 0) rfl; have d1p := hs5.cell 3 rfl (o := 1) rfl; have d2p := hs5.cell 3 rfl (o := 2) rfl; have d3p := hs5.cell 3 rfl (o := 3) rfl; have d4p := hs5.cell 3 rfl (o := 4) rfl; have f0 := hs5.free 4 rfl 0; have f1 := hs5.free 4 rfl 1; have l4 := hs5.lt 4 rfl; have z0 := hs5.cell 4 rfl (o := 0) rfl; have z1 := hs5.cell 4 rfl (o := 1) rfl))
  have hs6 := (hs5.store 4 rfl 0 (.slice a2 n2 c2)).store 4 rfl 1 (.slice a3 n3 c3)
  have y0 := hs6.cell 4 rfl (o := 0) rfl
  have y1 := hs6.cell 4 rfl (o := 1) rfl
  go_wp2_with fail
  exact bodyPost_ret (v := .tuple #[.agg #[.slice a2 n2 c2, .slice a3 n3 c3], .bool true]) (by simp [results, Try.results25, go_sem, y0, y1]) rfl ⟨a2, n2, c2, a3, n3, c3, g', rfl, hR, hs6.take 2⟩
set_option maxRecDepth 100000 in
set_option maxHeartbeats 4000000 in
theorem do_decK (N : Nests O st R H T v f) {hv cv : Value} {W : WS} {g : γ} (y x q r : Int) (_hy : inInt y) (hx : inInt x) {F : Nat → Prop} {w : World} (hs : Stage F w [O W g, Ob.nestK o9 hv cv W] w) :
    Calls Try.prog 25 #[.iface T v, .agg #[hv, cv], .agg #[.int .i64 4, .int .i64 y, .int .i64 x, .int .i64 q, .int .u64 r]] w (DoPostK o9 O R F w W (lowerW W x q r) g 4 y x q r) := by
  obtain ⟨a, n, c, a', n', c', rfl, rfl⟩ := hs.nestFormsK 1 rfl
  obtain ⟨V, hV, hs1⟩ : ∃ V, ((w.alloc (.cells #[.slice a n c, .slice a' n' c'] 59)).alloc (.cells #[.int .i64 4, .int .i64 y, .int .i64 x, .int .i64 q, .int .u64 r] 65)).alloc (.cells #[nestZ, nestZ] 59) = V ∧ Stage F w [O W g, Ob.nestK o9 (.slice a n c) (.slice a' n' c') (W), Ob.box w.heap.size #[.slice a n c, .slice a' n' c'] 59, Ob.box (w.heap.size + 1) #[.int .i64 4, .int .i64 y, .int .i64 x, .int .i64 q, .int .u64 r] 65, Ob.box (w.heap.size + 1 + 1) #[nestZ, nestZ] 59] V :=
    ⟨_, rfl, ((hs.alloc _ _).alloc' _ _ (size_alloc _ _)).alloc' _ _ (by rw [size_alloc, size_alloc])⟩
  clear hs
  have k0 := hs1.cell 2 rfl (o := 0) rfl
  have k1 := hs1.cell 2 rfl (o := 1) rfl
  have d0 := hs1.cell 3 rfl (o := 0) rfl
  have d1 := hs1.cell 3 rfl (o := 1) rfl
  have d2 := hs1.cell 3 rfl (o := 2) rfl
  have d3 := hs1.cell 3 rfl (o := 3) rfl
  have d4 := hs1.cell 3 rfl (o := 4) rfl
  have hR := hs1.nestCallK 1 rfl (reflower_any x q r (hs1.nestAtK 1 rfl))
  go_enter Try.func25, Try.ntmps25
  go_wp2_with fail
  clear k0 k1 d0 d1 d2 d3 d4
  clear hV
  generalize w.heap.size = b4 at *
  refine hR.mono ?_
  rintro e v1 ⟨a2, n2, c2, a3, n3, c3, rfl, hs2⟩
  clear hR hs1
  obtain ⟨v2, hv2, hs3⟩ : ∃ v2, v1.alloc (.cells #[.slice a2 n2 c2, .slice a3 n3 c3] 59) = v2 ∧ Stage F w [O W g, Ob.nestK o9 (.slice a2 n2 c2) (.slice a3 n3 c3) (lowerW W x q r), Ob.box b4 #[.slice a n c, .slice a' n' c'] 59, Ob.box (b4 + 1) #[.int .i64 4, .int .i64 y, .int .i64 x, .int .i64 q, .int .u64 r] 65, Ob.box (b4 + 1 + 1) #[nestZ, nestZ] 59, Ob.box v1.heap.size #[.slice a2 n2 c2, .slice a3 n3 c3] 59] v2 := ⟨_, rfl, hs2.alloc _ _⟩
  clear hs2
  go_wp2_with fail
  clear hv2
  generalize v1.heap.size = b8 at *
  have hs4 := hs3.drew
  have hC := hs4.callEx 0 rfl (fun _ ho => N.dec x q r hx ho)
  have hH := (hs4.get (i := 0) rfl).elim fun _ h => N.there h
  have m1 := N.mDec.find _ hH
  have m2 := N.mDec.enter
  have n68 := hs3.ne 4 5 rfl rfl (by decide)
  have n65 := hs3.ne 4 3 rfl rfl (by decide)
  have k0 := hs3.cell 5 rfl (o := 0) rfl
  have k1 := hs3.cell 5 rfl (o := 1) rfl
  have d0 := hs3.cell 3 rfl (o := 0) rfl
  have d1 := hs3.cell 3 rfl (o := 1) rfl
  have d2 := hs3.cell 3 rfl (o := 2) rfl
  have d3 := hs3.cell 3 rfl (o := 3) rfl
  have d4 := hs3.cell 3 rfl (o := 4) rfl
  go_region_held3 (fun w' => w'.cell? ⟨b8, 0, none⟩ = some (.slice a2 n2 c2) ∧ w'.cell? ⟨b8, 1, none⟩ = some (.slice a3 n3 c3) ∧ w'.cell? ⟨b4 + 1, 0, none⟩ = some (.int .i64 4) ∧ w'.cell? ⟨b4 + 1, 1, none⟩ = some (.int .i64 y) ∧ w'.cell? ⟨b4 + 1, 2, none⟩ = some (.int .i64 x) ∧ w'.cell? ⟨b4 + 1, 3, none⟩ = some (.int .i64 q) ∧ w'.cell? ⟨b4 + 1, 4, none⟩ = some (.int .u64 r)) (first | exact ⟨k0, k1, d0, d1, d2, d3, d4⟩ | exact ⟨k0p, k1p, d0p, d1p, d2p, d3p, d4p⟩ | simp [*, World.cell?_setCell_far])
    ((with_reducible refine hC.mono ?_; rintro e v3 ⟨rfl, g', hR, hs5⟩; have k0p := hs5.cell 5 rfl (o := 0) rfl; have k1p := hs5.cell 5 rfl (o := 1) rfl; have d0p := hs5.cell 3 rfl (o := 0) rfl; have d1p := hs5.cell 3 rfl (o := 1) rfl; have d2p := hs5.cell 3 rfl (o := 2) rfl; have d3p := hs5.cell 3 rfl (o := 3) rfl; have d4p := hs5.cell 3 rfl (o := 4) rfl; have f0 := hs5.free 4 rfl 0; have f1 := hs5.free 4 rfl 1; have l4 := hs5.lt 4 rfl; have z0 := hs5.cell 4 rfl (o := 0) rfl; have z1 := hs5.cell 4 rfl (o := 1) rfl))
  have hs6 := (hs5.store 4 rfl 0 (.slice a2 n2 c2)).store 4 rfl 1 (.slice a3 n3 c3)
  have y0 := hs6.cell 4 rfl (o := 0) rfl
  have y1 := hs6.cell 4 rfl (o := 1) rfl
  go_wp2_with fail
  exact bodyPost_ret (v := .tuple #[.agg #[.slice a2 n2 c2, .slice a3 n3 c3], .bool true]) (by simp [results, Try.results25, go_sem, y0, y1]) rfl ⟨a2, n2, c2, a3, n3, c3, g', rfl, hR y, hs6.take 2⟩
set_option maxRecDepth 100000 in
set_option maxHeartbeats 4000000 in
theorem do_delK (N : Nests O st R H T v f) {hv cv : Value} {W : WS} {g : γ} (y x q r : Int) (_hy : inInt y) (hx : inInt x) {F : Nat → Prop} {w : World} (hs : Stage F w [O W g, Ob.nestK o9 hv cv W] w) :
    Calls Try.prog 25 #[.iface T v, .agg #[hv, cv], .agg #[.int .i64 5, .int .i64 y, .int .i64 x, .int .i64 q, .int .u64 r]] w (DoPostK o9 O R F w W (dropW W x) g 5 y x q r) := by
  obtain ⟨a, n, c, a', n', c', rfl, rfl⟩ := hs.nestFormsK 1 rfl
  obtain ⟨V, hV, hs1⟩ : ∃ V, ((w.alloc (.cells #[.slice a n c, .slice a' n' c'] 59)).alloc (.cells #[.int .i64 5, .int .i64 y, .int .i64 x, .int .i64 q, .int .u64 r] 65)).alloc (.cells #[nestZ, nestZ] 59) = V ∧ Stage F w [O W g, Ob.nestK o9 (.slice a n c) (.slice a' n' c') (W), Ob.box w.heap.size #[.slice a n c, .slice a' n' c'] 59, Ob.box (w.heap.size + 1) #[.int .i64 5, .int .i64 y, .int .i64 x, .int .i64 q, .int .u64 r] 65, Ob.box (w.heap.size + 1 + 1) #[nestZ, nestZ] 59] V :=
    ⟨_, rfl, ((hs.alloc _ _).alloc' _ _ (size_alloc _ _)).alloc' _ _ (by rw [size_alloc, size_alloc])⟩
  clear hs
  have k0 := hs1.cell 2 rfl (o := 0) rfl
  have k1 := hs1.cell 2 rfl (o := 1) rfl
  have d0 := hs1.cell 3 rfl (o := 0) rfl
  have d1 := hs1.cell 3 rfl (o := 1) rfl
  have d2 := hs1.cell 3 rfl (o := 2) rfl
  have d3 := hs1.cell 3 rfl (o := 3) rfl
  have d4 := hs1.cell 3 rfl (o := 4) rfl
  have hR := hs1.nestCallK 1 rfl (refdrop_any x (hs1.nestAtK 1 rfl))
  go_enter Try.func25, Try.ntmps25
  go_wp2_with fail
  clear k0 k1 d0 d1 d2 d3 d4
  clear hV
  generalize w.heap.size = b4 at *
  refine hR.mono ?_
  rintro e v1 ⟨a2, n2, c2, a3, n3, c3, rfl, hs2⟩
  clear hR hs1
  obtain ⟨v2, hv2, hs3⟩ : ∃ v2, v1.alloc (.cells #[.slice a2 n2 c2, .slice a3 n3 c3] 59) = v2 ∧ Stage F w [O W g, Ob.nestK o9 (.slice a2 n2 c2) (.slice a3 n3 c3) (dropW W x), Ob.box b4 #[.slice a n c, .slice a' n' c'] 59, Ob.box (b4 + 1) #[.int .i64 5, .int .i64 y, .int .i64 x, .int .i64 q, .int .u64 r] 65, Ob.box (b4 + 1 + 1) #[nestZ, nestZ] 59, Ob.box v1.heap.size #[.slice a2 n2 c2, .slice a3 n3 c3] 59] v2 := ⟨_, rfl, hs2.alloc _ _⟩
  clear hs2
  go_wp2_with fail
  clear hv2
  generalize v1.heap.size = b8 at *
  have hs4 := hs3.drew
  have hC := hs4.callEx 0 rfl (fun _ ho => N.del x hx ho)
  have hH := (hs4.get (i := 0) rfl).elim fun _ h => N.there h
  have m1 := N.mDel.find _ hH
  have m2 := N.mDel.enter
  have n68 := hs3.ne 4 5 rfl rfl (by decide)
  have n65 := hs3.ne 4 3 rfl rfl (by decide)
  have k0 := hs3.cell 5 rfl (o := 0) rfl
  have k1 := hs3.cell 5 rfl (o := 1) rfl
  have d0 := hs3.cell 3 rfl (o := 0) rfl
  have d1 := hs3.cell 3 rfl (o := 1) rfl
  have d2 := hs3.cell 3 rfl (o := 2) rfl
  have d3 := hs3.cell 3 rfl (o := 3) rfl
  have d4 := hs3.cell 3 rfl (o := 4) rfl
  go_region_held3 (fun w' => w'.cell? ⟨b8, 0, none⟩ = some (.slice a2 n2 c2) ∧ w'.cell? ⟨b8, 1, none⟩ = some (.slice a3 n3 c3) ∧ w'.cell? ⟨b4 + 1, 0, none⟩ = some (.int .i64 5) ∧ w'.cell? ⟨b4 + 1, 1, none⟩ = some (.int .i64 y) ∧ w'.cell? ⟨b4 + 1, 2, none⟩ = some (.int .i64 x) ∧ w'.cell? ⟨b4 + 1, 3, none⟩ = some (.int .i64 q) ∧ w'.cell? ⟨b4 + 1, 4, none⟩ = some (.int .u64 r)) (first | exact ⟨k0, k1, d0, d1, d2, d3, d4⟩ | exact ⟨k0p, k1p, d0p, d1p, d2p, d3p, d4p⟩ | simp [*, World.cell?_setCell_far])
    ((with_reducible refine hC.mono ?_; rintro e v3 ⟨rfl, g', hR, hs5⟩; have k0p := hs5.cell 5 rfl (o := 0) rfl; have k1p := hs5.cell 5 rfl (o := 1) rfl; have d0p := hs5.cell 3 rfl (o := 0) rfl; have d1p := hs5.cell 3 rfl (o := 1) rfl; have d2p := hs5.cell 3 rfl (o := 2) rfl; have d3p := hs5.cell 3 rfl (o := 3) rfl; have d4p := hs5.cell 3 rfl (o := 4) rfl; have f0 := hs5.free 4 rfl 0; have f1 := hs5.free 4 rfl 1; have l4 := hs5.lt 4 rfl; have z0 := hs5.cell 4 rfl (o := 0) rfl; have z1 := hs5.cell 4 rfl (o := 1) rfl))
  have hs6 := (hs5.store 4 rfl 0 (.slice a2 n2 c2)).store 4 rfl 1 (.slice a3 n3 c3)
  have y0 := hs6.cell 4 rfl (o := 0) rfl
  have y1 := hs6.cell 4 rfl (o := 1) rfl
  go_wp2_with fail
  exact bodyPost_ret (v := .tuple #[.agg #[.slice a2 n2 c2, .slice a3 n3 c3], .bool true]) (by simp [results, Try.results25, go_sem, y0, y1]) rfl ⟨a2, n2, c2, a3, n3, c3, g', rfl, hR y q r, hs6.take 2⟩
set_option maxRecDepth 100000 in
set_option maxHeartbeats 4000000 in
theorem do_meldK (N : Nests O st R H T v f) {hv cv : Value} {W : WS} {g : γ} (y x q r : Int) (hy : inInt y) (hx : inInt x) {F : Nat → Prop} {w : World} (hs : Stage F w [O W g, Ob.nestK o9 hv cv W] w) :
    Calls Try.prog 25 #[.iface T v, .agg #[hv, cv], .agg #[.int .i64 6, .int .i64 y, .int .i64 x, .int .i64 q, .int .u64 r]] w (DoPostK o9 O R F w W (joinW W y x) g 6 y x q r) := by
  obtain ⟨a, n, c, a', n', c', rfl, rfl⟩ := hs.nestFormsK 1 rfl
  obtain ⟨V, hV, hs1⟩ : ∃ V, ((w.alloc (.cells #[.slice a n c, .slice a' n' c'] 59)).alloc (.cells #[.int .i64 6, .int .i64 y, .int .i64 x, .int .i64 q, .int .u64 r] 65)).alloc (.cells #[nestZ, nestZ] 59) = V ∧ Stage F w [O W g, Ob.nestK o9 (.slice a n c) (.slice a' n' c') (W), Ob.box w.heap.size #[.slice a n c, .slice a' n' c'] 59, Ob.box (w.heap.size + 1) #[.int .i64 6, .int .i64 y, .int .i64 x, .int .i64 q, .int .u64 r] 65, Ob.box (w.heap.size + 1 + 1) #[nestZ, nestZ] 59] V :=
    ⟨_, rfl, ((hs.alloc _ _).alloc' _ _ (size_alloc _ _)).alloc' _ _ (by rw [size_alloc, size_alloc])⟩
  clear hs
  have k0 := hs1.cell 2 rfl (o := 0) rfl
  have k1 := hs1.cell 2 rfl (o := 1) rfl
  have d0 := hs1.cell 3 rfl (o := 0) rfl
  have d1 := hs1.cell 3 rfl (o := 1) rfl
  have d2 := hs1.cell 3 rfl (o := 2) rfl
  have d3 := hs1.cell 3 rfl (o := 3) rfl
  have d4 := hs1.cell 3 rfl (o := 4) rfl
  have hR := hs1.nestCallK 1 rfl (refjoin_any y x (hs1.nestAtK 1 rfl))
  go_enter Try.func25, Try.ntmps25
  go_wp2_with fail
  clear k0 k1 d0 d1 d2 d3 d4
  clear hV
  generalize w.heap.size = b4 at *
  refine hR.mono ?_
  rintro e v1 ⟨a2, n2, c2, a3, n3, c3, rfl, hs2⟩
  clear hR hs1
  obtain ⟨v2, hv2, hs3⟩ : ∃ v2, v1.alloc (.cells #[.slice a2 n2 c2, .slice a3 n3 c3] 59) = v2 ∧ Stage F w [O W g, Ob.nestK o9 (.slice a2 n2 c2) (.slice a3 n3 c3) (joinW W y x), Ob.box b4 #[.slice a n c, .slice a' n' c'] 59, Ob.box (b4 + 1) #[.int .i64 6, .int .i64 y, .int .i64 x, .int .i64 q, .int .u64 r] 65, Ob.box (b4 + 1 + 1) #[nestZ, nestZ] 59, Ob.box v1.heap.size #[.slice a2 n2 c2, .slice a3 n3 c3] 59] v2 := ⟨_, rfl, hs2.alloc _ _⟩
  clear hs2
  go_wp2_with fail
  clear hv2
  generalize v1.heap.size = b8 at *
  have hs4 := hs3.drew
  have hC := hs4.callEx 0 rfl (fun _ ho => N.meld y x hy hx ho)
  have hH := (hs4.get (i := 0) rfl).elim fun _ h => N.there h
  have m1 := N.mMeld.find _ hH
  have m2 := N.mMeld.enter
  have n68 := hs3.ne 4 5 rfl rfl (by decide)
  have n65 := hs3.ne 4 3 rfl rfl (by decide)
  have k0 := hs3.cell 5 rfl (o := 0) rfl
  have k1 := hs3.cell 5 rfl (o := 1) rfl
  have d0 := hs3.cell 3 rfl (o := 0) rfl
  have d1 := hs3.cell 3 rfl (o := 1) rfl
  have d2 := hs3.cell 3 rfl (o := 2) rfl
  have d3 := hs3.cell 3 rfl (o := 3) rfl
  have d4 := hs3.cell 3 rfl (o := 4) rfl
  go_region_held3 (fun w' => w'.cell? ⟨b8, 0, none⟩ = some (.slice a2 n2 c2) ∧ w'.cell? ⟨b8, 1, none⟩ = some (.slice a3 n3 c3) ∧ w'.cell? ⟨b4 + 1, 0, none⟩ = some (.int .i64 6) ∧ w'.cell? ⟨b4 + 1, 1, none⟩ = some (.int .i64 y) ∧ w'.cell? ⟨b4 + 1, 2, none⟩ = some (.int .i64 x) ∧ w'.cell? ⟨b4 + 1, 3, none⟩ = some (.int .i64 q) ∧ w'.cell? ⟨b4 + 1, 4, none⟩ = some (.int .u64 r)) (first | exact ⟨k0, k1, d0, d1, d2, d3, d4⟩ | exact ⟨k0p, k1p, d0p, d1p, d2p, d3p, d4p⟩ | simp [*, World.cell?_setCell_far])
    ((with_reducible refine hC.mono ?_; rintro e v3 ⟨rfl, g', hR, hs5⟩; have k0p := hs5.cell 5 rfl (o := 0) rfl; have k1p := hs5.cell 5 rfl (o := 1) rfl; have d0p := hs5.cell 3 rfl (o := 0) rfl; have d1p := hs5.cell 3 rfl (o := 1) rfl; have d2p := hs5.cell 3 rfl (o := 2) rfl; have d3p := hs5.cell 3 rfl (o := 3) rfl; have d4p := hs5.cell 3 rfl (o := 4) rfl; have f0 := hs5.free 4 rfl 0; have f1 := hs5.free 4 rfl 1; have l4 := hs5.lt 4 rfl; have z0 := hs5.cell 4 rfl (o := 0) rfl; have z1 := hs5.cell 4 rfl (o := 1) rfl))
  have hs6 := (hs5.store 4 rfl 0 (.slice a2 n2 c2)).store 4 rfl 1 (.slice a3 n3 c3)
  have y0 := hs6.cell 4 rfl (o := 0) rfl
  have y1 := hs6.cell 4 rfl (o := 1) rfl
  go_wp2_with fail
  exact bodyPost_ret (v := .tuple #[.agg #[.slice a2 n2 c2, .slice a3 n3 c3], .bool true]) (by simp [results, Try.results25, go_sem, y0, y1]) rfl ⟨a2, n2, c2, a3, n3, c3, g', rfl, hR q r, hs6.take 2⟩
set_option maxRecDepth 100000 in
set_option maxHeartbeats 4000000 in
theorem do_minK (N : Nests O st R H T v f) {hv cv : Value} {W : WS} {g : γ} (y x q r : Int) (hy : inInt y) (_hx : inInt x) {F : Nat → Prop} {w : World} (hs : Stage F w [O W g, Ob.nestK o9 hv cv W] w) :
    Calls Try.prog 25 #[.iface T v, .agg #[hv, cv], .agg #[.int .i64 2, .int .i64 y, .int .i64 x, .int .i64 q, .int .u64 r]] w (DoPostK o9 O R F w W (W) g 2 y x q r) := by
  obtain ⟨a, n, c, a', n', c', rfl, rfl⟩ := hs.nestFormsK 1 rfl
  obtain ⟨V, hV, hs1⟩ : ∃ V, ((w.alloc (.cells #[.slice a n c, .slice a' n' c'] 59)).alloc (.cells #[.int .i64 2, .int .i64 y, .int .i64 x, .int .i64 q, .int .u64 r] 65)).alloc (.cells #[nestZ, nestZ] 59) = V ∧ Stage F w [O W g, Ob.nestK o9 (.slice a n c) (.slice a' n' c') (W), Ob.box w.heap.size #[.slice a n c, .slice a' n' c'] 59, Ob.box (w.heap.size + 1) #[.int .i64 2, .int .i64 y, .int .i64 x, .int .i64 q, .int .u64 r] 65, Ob.box (w.heap.size + 1 + 1) #[nestZ, nestZ] 59] V :=
    ⟨_, rfl, ((hs.alloc _ _).alloc' _ _ (size_alloc _ _)).alloc' _ _ (by rw [size_alloc, size_alloc])⟩
  clear hs
  have k0 := hs1.cell 2 rfl (o := 0) rfl
  have k1 := hs1.cell 2 rfl (o := 1) rfl
  have d0 := hs1.cell 3 rfl (o := 0) rfl
  have d1 := hs1.cell 3 rfl (o := 1) rfl
  have d2 := hs1.cell 3 rfl (o := 2) rfl
  have d3 := hs1.cell 3 rfl (o := 3) rfl
  have d4 := hs1.cell 3 rfl (o := 4) rfl
  have hM := refmin_any y (hs1.nestAtK 1 rfl)
  go_enter Try.func25, Try.ntmps25
  go_wp2_with fail
  clear k0 k1 d0 d1 d2 d3 d4
  clear hV
  generalize w.heap.size = b4 at *
  refine hM.mono ?_
  rintro e v1 ⟨rfl, hb⟩
  have hs2 := hs1.later hb
  clear hM hs1 hb
  have k0 := hs2.cell 2 rfl (o := 0) rfl
  have k1 := hs2.cell 2 rfl (o := 1) rfl
  have d0 := hs2.cell 3 rfl (o := 0) rfl
  have d1 := hs2.cell 3 rfl (o := 1) rfl
  have d2 := hs2.cell 3 rfl (o := 2) rfl
  have d3 := hs2.cell 3 rfl (o := 3) rfl
  have d4 := hs2.cell 3 rfl (o := 4) rfl
  have hC := hs2.callEx 0 rfl (fun _ ho => N.min y hy ho)
  have hH := (hs2.get (i := 0) rfl).elim fun _ h => N.there h
  have m1 := N.mMin.find _ hH
  have m2 := N.mMin.enter
  go_wp2_with fail
  clear k0 k1 d0 d1 d2 d3 d4
  clear hs2 m1 m2 hH
  refine hC.mono ?_
  rintro e v2 ⟨rfl, g', hR, hs3⟩
  clear hC
  have k0 := hs3.cell 2 rfl (o := 0) rfl
  have k1 := hs3.cell 2 rfl (o := 1) rfl
  have d0 := hs3.cell 3 rfl (o := 0) rfl
  have d1 := hs3.cell 3 rfl (o := 1) rfl
  have d2 := hs3.cell 3 rfl (o := 2) rfl
  have d3 := hs3.cell 3 rfl (o := 3) rfl
  have d4 := hs3.cell 3 rfl (o := 4) rfl
  have f0 := hs3.free 4 rfl 0
  have f1 := hs3.free 4 rfl 1
  have l4 := hs3.lt 4 rfl
  have z0 := hs3.cell 4 rfl (o := 0) rfl
  have z1 := hs3.cell 4 rfl (o := 1) rfl
  have hsz := (hs3.store 4 rfl 0 (.slice a n c)).store 4 rfl 1 (.slice a' n' c')
  have y0 := hsz.cell 4 rfl (o := 0) rfl
  have y1 := hsz.cell 4 rfl (o := 1) rfl
  go_wp2_with fail
  exact bodyPost_ret (v := .tuple #[.agg #[.slice a n c, .slice a' n' c'], .bool true]) (by simp [results, Try.results25, go_sem, y0, y1]) rfl ⟨a, n, c, a', n', c', g', rfl, hR x q r, hsz.take 2⟩
set_option maxRecDepth 100000 in
set_option maxHeartbeats 4000000 in
theorem do_extK (N : Nests O st R H T v f) {hv cv : Value} {W : WS} {g : γ} (y x q r : Int) (hy : inInt y) (_hx : inInt x) {F : Nat → Prop} {w : World} (hs : Stage F w [O W g, Ob.nestK o9 hv cv W] w) :
    Calls Try.prog 25 #[.iface T v, .agg #[hv, cv], .agg #[.int .i64 3, .int .i64 y, .int .i64 x, .int .i64 q, .int .u64 r]] w (DoPostK o9 O R F w W (exW W y) g 3 y x q r) := by
  obtain ⟨a, n, c, a', n', c', rfl, rfl⟩ := hs.nestFormsK 1 rfl
  obtain ⟨V, hV, hs1⟩ : ∃ V, ((w.alloc (.cells #[.slice a n c, .slice a' n' c'] 59)).alloc (.cells #[.int .i64 3, .int .i64 y, .int .i64 x, .int .i64 q, .int .u64 r] 65)).alloc (.cells #[nestZ, nestZ] 59) = V ∧ Stage F w [O W g, Ob.nestK o9 (.slice a n c) (.slice a' n' c') (W), Ob.box w.heap.size #[.slice a n c, .slice a' n' c'] 59, Ob.box (w.heap.size + 1) #[.int .i64 3, .int .i64 y, .int .i64 x, .int .i64 q, .int .u64 r] 65, Ob.box (w.heap.size + 1 + 1) #[nestZ, nestZ] 59] V :=
    ⟨_, rfl, ((hs.alloc _ _).alloc' _ _ (size_alloc _ _)).alloc' _ _ (by rw [size_alloc, size_alloc])⟩
  clear hs
  have k0 := hs1.cell 2 rfl (o := 0) rfl
  have k1 := hs1.cell 2 rfl (o := 1) rfl
  have d0 := hs1.cell 3 rfl (o := 0) rfl
  have d1 := hs1.cell 3 rfl (o := 1) rfl
  have d2 := hs1.cell 3 rfl (o := 2) rfl
  have d3 := hs1.cell 3 rfl (o := 3) rfl
  have d4 := hs1.cell 3 rfl (o := 4) rfl
  have hM := refmin_any y (hs1.nestAtK 1 rfl)
  go_enter Try.func25, Try.ntmps25
  go_wp2_with fail
  clear k0 k1 d0 d1 d2 d3 d4
  clear hV
  generalize w.heap.size = b4 at *
  refine hM.mono ?_
  rintro e v1 ⟨rfl, hb⟩
  have hs2 := hs1.later hb
  clear hM hs1 hb
  have k0 := hs2.cell 2 rfl (o := 0) rfl
  have k1 := hs2.cell 2 rfl (o := 1) rfl
  have d0 := hs2.cell 3 rfl (o := 0) rfl
  have d1 := hs2.cell 3 rfl (o := 1) rfl
  have d2 := hs2.cell 3 rfl (o := 2) rfl
  have d3 := hs2.cell 3 rfl (o := 3) rfl
  have d4 := hs2.cell 3 rfl (o := 4) rfl
  have hC := hs2.callEx 0 rfl (fun _ ho => N.ext y hy ho)
  have hH := (hs2.get (i := 0) rfl).elim fun _ h => N.there h
  have m1 := N.mExt.find _ hH
  have m2 := N.mExt.enter
  go_wp2_with fail
  clear k0 k1 d0 d1 d2 d3 d4
  clear hs2 m1 m2 hH
  refine hC.mono ?_
  rintro e v2 ⟨rfl, g', hR, hs3⟩
  clear hC
  cases hm : minW W y with
  | none =>
    obtain ⟨q1, q2⟩ := minI_none hm
    have q3 : exW W y = W := by simp [exW, hm]
    rw [q1, q2]
    rw [q3] at hs3
    have k0 := hs3.cell 2 rfl (o := 0) rfl
    have k1 := hs3.cell 2 rfl (o := 1) rfl
    have d0 := hs3.cell 3 rfl (o := 0) rfl
    have d1 := hs3.cell 3 rfl (o := 1) rfl
    have d2 := hs3.cell 3 rfl (o := 2) rfl
    have d3 := hs3.cell 3 rfl (o := 3) rfl
    have d4 := hs3.cell 3 rfl (o := 4) rfl
    have f0 := hs3.free 4 rfl 0
    have f1 := hs3.free 4 rfl 1
    have l4 := hs3.lt 4 rfl
    have z0 := hs3.cell 4 rfl (o := 0) rfl
    have z1 := hs3.cell 4 rfl (o := 1) rfl
    have hsz := (hs3.store 4 rfl 0 (.slice a n c)).store 4 rfl 1 (.slice a' n' c')
    have y0 := hsz.cell 4 rfl (o := 0) rfl
    have y1 := hsz.cell 4 rfl (o := 1) rfl
    go_wp2_with fail
    exact bodyPost_ret (v := .tuple #[.agg #[.slice a n c, .slice a' n' c'], .bool true]) (by simp [results, Try.results25, go_sem, y0, y1]) rfl ⟨a, n, c, a', n', c', g', rfl, hR x q r, by rw [q3]; exact hsz.take 2⟩
  | some m =>
    obtain ⟨q1, q2⟩ := minI_some hm
    have q3 : exW W y = dropW W m := by simp [exW, hm]
    rw [q1, q2]
    rw [q3] at hs3
    have hD := hs3.nestCallK 1 rfl (refdrop_any m (hs3.nestAtK 1 rfl))
    have k0 := hs3.cell 2 rfl (o := 0) rfl
    have k1 := hs3.cell 2 rfl (o := 1) rfl
    have d0 := hs3.cell 3 rfl (o := 0) rfl
    have d1 := hs3.cell 3 rfl (o := 1) rfl
    have d2 := hs3.cell 3 rfl (o := 2) rfl
    have d3 := hs3.cell 3 rfl (o := 3) rfl
    have d4 := hs3.cell 3 rfl (o := 4) rfl
    go_wp2_with fail
    clear k0 k1 d0 d1 d2 d3 d4
    refine hD.mono ?_
    rintro e v3 ⟨a2, n2, c2, a3, n3, c3, rfl, hs4⟩
    clear hD hs3
    have g0 := hs4.free 2 rfl 0
    have g1 := hs4.free 2 rfl 1
    have l2 := hs4.lt 2 rfl
    have k0 := hs4.cell 2 rfl (o := 0) rfl
    have k1 := hs4.cell 2 rfl (o := 1) rfl
    have d0 := hs4.cell 3 rfl (o := 0) rfl
    have d1 := hs4.cell 3 rfl (o := 1) rfl
    have d2 := hs4.cell 3 rfl (o := 2) rfl
    have d3 := hs4.cell 3 rfl (o := 3) rfl
    have d4 := hs4.cell 3 rfl (o := 4) rfl
    obtain ⟨v4, hv4, hs5⟩ : ∃ v4, (v3.setCell ⟨b4, 0, none⟩ (.slice a2 n2 c2)).setCell ⟨b4, 1, none⟩ (.slice a3 n3 c3) = v4 ∧ Stage F w [O (dropW W m) g', Ob.nestK o9 (.slice a2 n2 c2) (.slice a3 n3 c3) (dropW W m), Ob.box b4 #[.slice a2 n2 c2, .slice a3 n3 c3] 59, Ob.box (b4 + 1) #[.int .i64 3, .int .i64 y, .int .i64 x, .int .i64 q, .int .u64 r] 65, Ob.box (b4 + 1 + 1) #[nestZ, nestZ] 59] v4 := ⟨_, rfl, (hs4.store 2 rfl 0 _).store 2 rfl 1 _⟩
    clear hs4
    have k0n := hs5.cell 2 rfl (o := 0) rfl
    have k1n := hs5.cell 2 rfl (o := 1) rfl
    have d0n := hs5.cell 3 rfl (o := 0) rfl
    have d1n := hs5.cell 3 rfl (o := 1) rfl
    have d2n := hs5.cell 3 rfl (o := 2) rfl
    have d3n := hs5.cell 3 rfl (o := 3) rfl
    have d4n := hs5.cell 3 rfl (o := 4) rfl
    have f0 := hs5.free 4 rfl 0
    have f1 := hs5.free 4 rfl 1
    have l4 := hs5.lt 4 rfl
    have z0 := hs5.cell 4 rfl (o := 0) rfl
    have z1 := hs5.cell 4 rfl (o := 1) rfl
    have hsz := (hs5.store 4 rfl 0 (.slice a2 n2 c2)).store 4 rfl 1 (.slice a3 n3 c3)
    have y0 := hsz.cell 4 rfl (o := 0) rfl
    have y1 := hsz.cell 4 rfl (o := 1) rfl
    go_wp2_with fail
    exact bodyPost_ret (v := .tuple #[.agg #[.slice a2 n2 c2, .slice a3 n3 c3], .bool true]) (by simp [results, Try.results25, go_sem, y0, y1]) rfl ⟨a2, n2, c2, a3, n3, c3, g', rfl, hR x q r, by rw [q3]; exact hsz.take 2⟩
set_option maxRecDepth 100000 in
set_option maxHeartbeats 4000000 in
theorem do_lookK (N : Nests O st R H T v f) {hv cv : Value} {W : WS} {g : γ} (k : Int) (hk0 : k ≠ 0) (hk1 : k ≠ 1) (hk2 : k ≠ 2) (hk3 : k ≠ 3) (hk4 : k ≠ 4) (hk5 : k ≠ 5) (hk6 : k ≠ 6) (y x q r : Int) (_hy : inInt y) (_hx : inInt x) {F : Nat → Prop} {w : World} (hs : Stage F w [O W g, Ob.nestK o9 hv cv W] w) :
    Calls Try.prog 25 #[.iface T v, .agg #[hv, cv], .agg #[.int .i64 k, .int .i64 y, .int .i64 x, .int .i64 q, .int .u64 r]] w (DoPostK o9 O R F w W (W) g k y x q r) := by
  obtain ⟨a, n, c, a', n', c', rfl, rfl⟩ := hs.nestFormsK 1 rfl
  obtain ⟨V, hV, hs1⟩ : ∃ V, ((w.alloc (.cells #[.slice a n c, .slice a' n' c'] 59)).alloc (.cells #[.int .i64 k, .int .i64 y, .int .i64 x, .int .i64 q, .int .u64 r] 65)).alloc (.cells #[nestZ, nestZ] 59) = V ∧ Stage F w [O W g, Ob.nestK o9 (.slice a n c) (.slice a' n' c') (W), Ob.box w.heap.size #[.slice a n c, .slice a' n' c'] 59, Ob.box (w.heap.size + 1) #[.int .i64 k, .int .i64 y, .int .i64 x, .int .i64 q, .int .u64 r] 65, Ob.box (w.heap.size + 1 + 1) #[nestZ, nestZ] 59] V :=
    ⟨_, rfl, ((hs.alloc _ _).alloc' _ _ (size_alloc _ _)).alloc' _ _ (by rw [size_alloc, size_alloc])⟩
  clear hs
  have k0 := hs1.cell 2 rfl (o := 0) rfl
  have k1 := hs1.cell 2 rfl (o := 1) rfl
  have d0 := hs1.cell 3 rfl (o := 0) rfl
  have d1 := hs1.cell 3 rfl (o := 1) rfl
  have d2 := hs1.cell 3 rfl (o := 2) rfl
  have d3 := hs1.cell 3 rfl (o := 3) rfl
  have d4 := hs1.cell 3 rfl (o := 4) rfl
  have e0 : (k == 0) = false := by simpa using hk0
  have e1 : (k == 1) = false := by simpa using hk1
  have e2 : (k == 2) = false := by simpa using hk2
  have e3 : (k == 3) = false := by simpa using hk3
  have e4 : (k == 4) = false := by simpa using hk4
  have e5 : (k == 5) = false := by simpa using hk5
  have e6 : (k == 6) = false := by simpa using hk6
  go_enter Try.func25, Try.ntmps25
  have f0 := hs1.free 4 rfl 0
  have f1 := hs1.free 4 rfl 1
  have l4 := hs1.lt 4 rfl
  have z0 := hs1.cell 4 rfl (o := 0) rfl
  have z1 := hs1.cell 4 rfl (o := 1) rfl
  have hsz := (hs1.store 4 rfl 0 (.slice a n c)).store 4 rfl 1 (.slice a' n' c')
  have y0 := hsz.cell 4 rfl (o := 0) rfl
  have y1 := hsz.cell 4 rfl (o := 1) rfl
  go_wp2_with fail
  exact bodyPost_ret (v := .tuple #[.agg #[.slice a n c, .slice a' n' c'], .bool true]) (by simp [results, Try.results25, go_sem, y0, y1]) rfl ⟨a, n, c, a', n', c', g, rfl, N.still W k y x q r g (by omega), hsz.take 2⟩
/-- Whatever the act is. -/
theorem do_anyK (N : Nests O st R H T v f) {hv cv : Value} {W : WS} {g : γ} (k y x q r : Int) (hy : inInt y) (hx : inInt x) {F : Nat → Prop} {w : World} (hs : Stage F w [O W g, Ob.nestK o9 hv cv W] w) :
    Calls Try.prog 25 #[.iface T v, .agg #[hv, cv], .agg #[.int .i64 k, .int .i64 y, .int .i64 x, .int .i64 q, .int .u64 r]] w (DoPostK o9 O R F w W (doW W k y x q r) g k y x q r) := by
  by_cases h0 : k = 0
  · subst h0; exact do_makeK N y x q r hy hx hs
  by_cases h1 : k = 1
  · subst h1; exact do_insK N y x q r hy hx hs
  by_cases h2 : k = 2
  · subst h2; exact do_minK N y x q r hy hx hs
  by_cases h3 : k = 3
  · subst h3; exact do_extK N y x q r hy hx hs
  by_cases h4 : k = 4
  · subst h4; exact do_decK N y x q r hy hx hs
  by_cases h5 : k = 5
  · subst h5; exact do_delK N y x q r hy hx hs
  by_cases h6 : k = 6
  · subst h6; exact do_meldK N y x q r hy hx hs
  · have e : doW W k y x q r = W := by simp [doW, h0, h1, h3, h4, h5, h6]
    rw [e]
    exact do_lookK N k h0 h1 h2 h3 h4 h5 h6 y x q r hy hx hs
end
section
variable {γ : Type} {O : WS → γ → Ob} {st : γ → Int} {R : WS → Int → Int → Int → Int → Int → γ → γ → Prop} {H : World → Prop} {T : TypeId} {v : Value} {f : NestFns} {o9 : Value × Value × WS}
theorem doK_st (N : Nests O st R H T v f) {hv cv : Value} {W : WS} {g : γ} {r : List Ob} {F0 : Nat → Prop} {W0 w : World} (k y x q s : Int) (hy : inInt y) (hx : inInt x) (hs : Stage F0 W0 ([O W g, Ob.nestK o9 hv cv W] ++ r) w) :
    Calls Try.prog 25 #[.iface T v, .agg #[hv, cv], .agg #[.int .i64 k, .int .i64 y, .int .i64 x, .int .i64 q, .int .u64 s]] w fun e w' =>
      ∃ a n c a' n' c' g', e = .returned (.tuple #[.agg #[.slice a n c, .slice a' n' c'], .bool true]) ∧ R W k y x q s g g' ∧ Stage F0 W0 ([O (doW W k y x q s) g', Ob.nestK o9 (.slice a n c) (.slice a' n' c') (doW W k y x q s)] ++ r) w' := by
  refine (hs.frameEx (α := Option Addr × Nat × Nat × Option Addr × Nat × Nat × γ) (Post := fun t e => e = .returned (.tuple #[.agg #[.slice t.1 t.2.1 t.2.2.1, .slice t.2.2.2.1 t.2.2.2.2.1 t.2.2.2.2.2.1], .bool true]) ∧ R W k y x q s g t.2.2.2.2.2.2)
    (l' := fun t => [O (doW W k y x q s) t.2.2.2.2.2.2, Ob.nestK o9 (.slice t.1 t.2.1 t.2.2.1) (.slice t.2.2.2.1 t.2.2.2.2.1 t.2.2.2.2.2.1) (doW W k y x q s)])
    fun F hF h => (do_anyK N k y x q s hy hx h).mono fun e w' ⟨a, n, c, a', n', c', g', h1, h2, h3⟩ => ⟨(a, n, c, a', n', c', g'), ⟨h1, h2⟩, h3⟩).mono ?_
  rintro e w' ⟨⟨a, n, c, a', n', c', g'⟩, ⟨h1, h2⟩, h3⟩
  exact ⟨a, n, c, a', n', c', g', h1, h2, h3⟩
end
end Go.Proofs.Ytcjjglaimfhofaa
