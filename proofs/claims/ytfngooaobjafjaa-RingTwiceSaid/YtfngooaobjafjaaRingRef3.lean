/- What the document's functions on rings return: without, New. -/
import Derived.Test.YtfngooaobjafjaaRingRef2
namespace Go.Proofs.Ytfngooaobjafjaa
open Go.RowKit Go.Sort

theorem info_ints : (Try.prog.info? 30).map (fun i => (i.zero, i.size, i.bytes)) = some (some (.slice none 0 0), 1, 24) := by kernel_rfl
namespace Stage
variable {F0 : Nat → Prop} {W w : World} {l : List Ob} {v : Value} {xs : List Value}
/-- 'append(row, x)' of one value of one cell, written out in a block just made. -/
theorem wp_appendOne {P : Program} {ops : Array Oper} {rest : List Oper} {o : Oper} {a : Act} {Q : Exit → Act → World → Prop} {e : TypeId} {b n : Nat} {u z : Value} {bytes : Nat} (hs : Stage F0 W l w) (i : Nat) (hi : l[i]? = some (Ob.row 0 e 1 v n xs)) (hb : w.heap.size = b) (hgd : o.guard = none) (s y : Operand) (t : TypeId)
    (ho : o.op = .call { callee := .builtin .append, args := #[s, y], argTypes := #[t, t] }) (ht : P.underlying t = some (.slice e)) (hinfo : (P.info? e).map (fun i => (i.zero, i.size, i.bytes)) = some (some z, 1, bytes)) (hz : z.cells.size = 1)
    (hv : a.eval s = v) (hx : a.eval y = .slice (some ⟨b, 0, none⟩) 1 1) (h1 : u.oneCell' = true) (h63 : n + 1 ≤ maxLen) (hby : (n + 1) * bytes ≤ 140737488355328)
    (hK : ∀ v' w', Stage F0 W (l.set i (Ob.row 0 e 1 v' (n + 1) (xs ++ [u]))) w' → wpList P ops Q rest (a.put o.dst v') w') : wpList P ops Q (o :: rest) a (w.alloc (.cells #[u] e)) := by
  subst hb
  have hA := hs.later ((Below.refl _ w).alloc (Nat.le_refl _) (.cells #[u] e))
  exact hA.wp_append i hi hgd s y t ho z bytes ht hinfo hz (by decide) (Nat.zero_le _) hv _ 1 [u] hx (reads_new w #[u] _ 1 1 _ rfl rfl) (by intro u' hu; simp at hu; subst hu; exact h1) h63 hby fun v' w' h1 _ => hK v' w' h1
end Stage
/-- Is neither of them in it? -/
def offB (x y : Int) (p : Value × List Int) : Bool := !p.2.contains x && !p.2.contains y
theorem without_rows {w : World} {F : Nat → Prop} {Z : List (Value × List Int)} {R : List (List Int)} (H : RowsAre w F Z R) (x y : Int) : RowsAre w F (Z.filter (offB x y)) (withoutR R x y) := by
  refine ⟨?_, fun p hp => H.read p (List.mem_filter.1 hp).1⟩
  rw [H.all]
  unfold withoutR
  rw [List.filter_map]
  rfl
theorem filter_step (x y : Int) (Z : List (Value × List Int)) (j : Nat) (hj : j < Z.length) : (Z.take (j + 1)).filter (offB x y) = (Z.take j).filter (offB x y) ++ (if offB x y (Z.getD j (.slice none 0 0, [])) = true then [Z.getD j (.slice none 0 0, [])] else []) := by
  rw [List.take_succ_eq_append_getElem hj, List.filter_append]
  congr 1
  have e : Z.getD j (.slice none 0 0, []) = Z[j] := by simp [List.getD_eq_getElem?_getD, hj]
  rw [e]
  simp only [List.filter_cons, List.filter_nil]
section
variable {w : World} {F : Nat → Prop} {v : Value} {R : List (List Int)}
/-- New rows in a row of one's own. -/
abbrev Ob.outer (u : Value) (Z : List (Value × List Int)) : Ob := Ob.row 0 30 1 u Z.length (Z.map Prod.fst)
set_option maxRecDepth 100000 in
set_option maxHeartbeats 2000000 in
theorem rWithout (hlen : R.length ≤ 65536) (h : DocL w F v R) {W : World} (hb0 : Below w.heap.size w W) (x y : Int) :
    Calls Try.prog 25 #[v, .int .i64 x, .int .i64 y] W fun e w' => ∃ u Z, e = .returned u ∧ RowsAre w F Z (withoutR R x y) ∧ Stage (fun _ => False) W [Ob.outer u Z] w' := by
  obtain ⟨a, c, rfl, hc1, hc2⟩ := h.form
  obtain ⟨Z, hZ, hv⟩ := h
  have hl : R.length = Z.length := by rw [hZ.all, List.length_map]
  have hA : ∀ (wr : World) (_ : Below w.heap.size w wr) (j : Nat), j < Z.length → ∃ g ka kc, a = some ⟨g, 0, none⟩ ∧ wr.cell? ⟨g, j, none⟩ = some (.slice ka (Z.getD j (.slice none 0 0, [])).2.length kc) ∧ (Z.getD j (.slice none 0 0, [])).1 = .slice ka (Z.getD j (.slice none 0 0, [])).2.length kc ∧ (Z.getD j (.slice none 0 0, [])).2.length ≤ kc ∧ kc ≤ 9223372036854775807 ∧ IntsAt wr .i64 ka (Z.getD j (.slice none 0 0, [])).2 := fun wr hb j hj => by
    rcases hv with ⟨_, h2⟩ | ⟨g, c', h2, _, _, _, h6⟩
    · rw [h2] at hj; simp at hj
    · have hm : Z.getD j (.slice none 0 0, []) ∈ Z := by simp [List.getD_eq_getElem?_getD, hj]
      obtain ⟨ka, kc, e1, e2, e3, e4⟩ := ((hZ.read _ hm).later hb).form
      have h7 := later hb (h6 j hj)
      rw [e1] at h7
      injection h2 with h2 _ _
      exact ⟨g, ka, kc, h2, h7, e1, e2, e3, e4⟩
  have hW := without_rows hZ x y
  have hfs := fun (j : Nat) (hj : j < Z.length) => filter_step x y Z j hj
  rw [hl] at hc1 hlen ⊢
  clear hv hZ hl
  have hs0 : Stage (fun _ => False) W [Ob.outer (.slice (some ⟨W.heap.size, 0, none⟩) 0 0) ((Z.take 0).filter (offB x y))] (W.alloc (.cells #[] 30)) := (Stage.start W).emptyRow' 30 1 rfl
  go_enter Try.func25, Try.ntmps25
  go_wp2_with fail
  go_loopw [7, 13] (fun out i wr => ∃ j : Nat, i = .int .i64 j ∧ j ≤ Z.length ∧ Stage (fun _ => False) W [Ob.outer out ((Z.take j).filter (offB x y))] wr) (fun _ i _ => Z.length - (intOf i).toNat)
  case atStart => exact ⟨0, rfl, Nat.zero_le _, hs0⟩
  case round =>
    clear hs0
    obtain ⟨j, rfl, hj, hs⟩ := hrel
    by_cases hjm : j < Z.length
    · have hji : (j : Int) < Z.length := by omega
      obtain ⟨g, ka, kc, rfl, u0, hval, hk1, hk2, hI⟩ := hA wr (hb0.trans (hs.below.mono hb0.size)) j hjm
      have hPx := rPlace _ ka kc ⟨hk1, hk2⟩ hI x
      have hPy := rPlace _ ka kc ⟨hk1, hk2⟩ hI y
      have hst := hfs j hjm
      have hone : (Z.getD j (.slice none 0 0, [])).1.oneCell' = true := by rw [hval]; rfl
      have hlt : ((Z.take j).filter (offB x y)).length ≤ 65536 := Nat.le_trans (List.length_filter_le _ _) (by rw [List.length_take]; omega)
      obtain ⟨_, co, eo, _, _⟩ := owns_form (hs.owns 0 rfl)
      clear hA hfs hI hW
      rw [eo] at hs
      subst eo
      by_cases hx : x ∈ (Z.getD j (.slice none 0 0, [])).2
      · obtain ⟨q, hq⟩ : ∃ q : Nat, placeI (Z.getD j (.slice none 0 0, [])).2 x = q := ⟨_, by unfold placeI; rw [if_pos hx]⟩
        have hoff : offB x y (Z.getD j (.slice none 0 0, [])) = false := by
          unfold offB
          rw [show (Z.getD j (.slice none 0 0, [])).2.contains x = true by simpa using hx]; rfl
        rw [hoff] at hst
        simp only [Bool.false_eq_true, if_false, List.append_nil] at hst
        rw [hq] at hPx
        have hq0 : decide ((q : Int) < 0) = false := by simp
        have hst' := Lib.hid hst
        clear hst hPy hval hone hoff hx hq
        generalize (Z.getD j (.slice none 0 0, [])).2.length = lz at *
        go_wp2_with fail
        refine hPx.mono ?_
        rintro e w2 ⟨rfl, rfl⟩
        go_wp2_with fail
        go_roundw
        case rel => exact ⟨j + 1, by go_num, by omega, by rw [hst'.out]; exact hs⟩
        case measure => simp [intOf]; omega
      · have hqx : placeI (Z.getD j (.slice none 0 0, [])).2 x = -1 := by unfold placeI; rw [if_neg hx]
        rw [hqx] at hPx
        by_cases hy : y ∈ (Z.getD j (.slice none 0 0, [])).2
        · obtain ⟨q, hq⟩ : ∃ q : Nat, placeI (Z.getD j (.slice none 0 0, [])).2 y = q := ⟨_, by unfold placeI; rw [if_pos hy]⟩
          have hoff : offB x y (Z.getD j (.slice none 0 0, [])) = false := by
            unfold offB
            rw [show (Z.getD j (.slice none 0 0, [])).2.contains y = true by simpa using hy]; simp
          rw [hoff] at hst
          simp only [Bool.false_eq_true, if_false, List.append_nil] at hst
          rw [hq] at hPy
          have hq0 : decide ((q : Int) < 0) = false := by simp
          have hst' := Lib.hid hst
          clear hst hval hone hoff hx hy hq hqx
          generalize (Z.getD j (.slice none 0 0, [])).2.length = lz at *
          go_wp2_with fail
          refine hPx.mono ?_
          rintro e w2 ⟨rfl, rfl⟩
          clear hPx
          go_wp2_with fail
          refine hPy.mono ?_
          rintro e w2 ⟨rfl, rfl⟩
          go_wp2_with fail
          go_roundw
          case rel => exact ⟨j + 1, by go_num, by omega, by rw [hst'.out]; exact hs⟩
          case measure => simp [intOf]; omega
        · have hqy : placeI (Z.getD j (.slice none 0 0, [])).2 y = -1 := by unfold placeI; rw [if_neg hy]
          rw [hqy] at hPy
          have hoff : offB x y (Z.getD j (.slice none 0 0, [])) = true := by
            unfold offB
            rw [show (Z.getD j (.slice none 0 0, [])).2.contains x = false by simpa using hx, show (Z.getD j (.slice none 0 0, [])).2.contains y = false by simpa using hy]; rfl
          rw [hoff] at hst
          simp only [if_true] at hst
          have hnx : ∀ v' w', Stage (fun _ => False) W [Ob.row 0 30 1 v' (((Z.take j).filter (offB x y)).length + 1) (((Z.take j).filter (offB x y)).map Prod.fst ++ [.slice ka (Z.getD j (.slice none 0 0, [])).2.length kc])] w' → Stage (fun _ => False) W [Ob.outer v' ((Z.take (j + 1)).filter (offB x y))] w' := fun v' w' h => by
            unfold Ob.outer
            rw [hst, List.length_append, List.map_append, List.map_cons, List.map_nil, hval]
            exact h
          clear hst hval hone hoff hx hy hqx hqy
          generalize (Z.getD j (.slice none 0 0, [])).2.length = lz at *
          unfold Ob.outer at hs
          generalize hfl : ((Z.take j).filter (offB x y)).length = fl at *
          replace hfl := Lib.hid hfl
          go_wp2_with fail
          refine hPx.mono ?_
          rintro e w2 ⟨rfl, rfl⟩
          clear hPx
          go_wp2_with fail
          refine hPy.mono ?_
          rintro e w2 ⟨rfl, rfl⟩
          clear hPy
          go_wp2_with (at_builtin; refine hs.wp_appendOne (u := .slice ka lz kc) 0 rfl rfl rfl _ _ 34 rfl Try.underlying34 info_ints rfl rfl rfl rfl (by unfold maxLen; omega) (by omega) ?_)
          intro v2 w2 hs2
          have hs3 := hnx v2 w2 hs2
          clear hs hs2 hnx
          go_wp2_with fail
          go_roundw
          case rel => exact ⟨j + 1, by go_num, by omega, hs3⟩
          case measure => simp [intOf]; omega
    · obtain rfl : j = Z.length := by omega
      rw [List.take_length] at hs
      go_wp2_with fail
      go_ret
      exact ⟨_, _, rfl, hW, hs⟩
end
end Go.Proofs.Ytfngooaobjafjaa
