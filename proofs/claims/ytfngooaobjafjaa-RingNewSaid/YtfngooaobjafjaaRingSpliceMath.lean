/- Rings that are spliced and parted, as plain data: what follows what then. No program is named here. -/
import Derived.Test.YtfngooaobjafjaaRingMath
namespace Go.Proofs.Ytfngooaobjafjaa

section
variable {n : Nat} {f : Int → Int} {R : List (List Int)} {x y : Int}
/-- Two of one ring: it is parted. -/
theorem splice_one (I : RInv n f R) (hx : 0 ≤ x ∧ x < n) (hy : 0 ≤ y ∧ y < n) (hne : x ≠ y) (h : y ∈ allR R x) : RInv n (swapN f x y) (spliceR R x y) := by
  obtain ⟨s, es, ps, ns, lx, hlx, hxl, px⟩ := I.all hx
  obtain ⟨t, et, _, _, ly, hly, hyl, py⟩ := I.all hy
  have hc : (allR R x).contains y = true := by simpa using h
  have hsp := split_at h
  rw [es] at h hsp
  cases hu : (x :: s).take ((x :: s).idxOf y) with
  | nil =>
    rw [hu] at hsp
    injection hsp with e
    exact absurd e.symm hne
  | cons c u =>
    rw [hu] at hsp
    injection hsp with e1 e2
    subst e1
    generalize hv : (c :: s).drop ((c :: s).idxOf y + 1) = v at e2
    have e : spliceR R c y = withoutR R c y ++ [c :: v, y :: u] := by
      unfold spliceR
      rw [if_neg (by rw [es, et]; simp [hne]), if_pos hc, es, hu, hv]
      rfl
    rw [e]
    obtain rfl : s = u ++ y :: v := e2.symm
    obtain ⟨p1, p2⟩ := path_append.1 ps
    have hnd := ns
    simp only [List.nodup_cons, List.mem_append, List.mem_cons, not_or, List.nodup_append] at hnd
    obtain ⟨⟨cu, cy, cv⟩, nu, ⟨yv, nv⟩, huv⟩ := hnd
    have yu : y ∉ u := fun hm => huv y hm y (Or.inl rfl) rfl
    have hsame : ly = lx := I.one ly hly lx hlx y hyl (px.mem_iff.1 h)
    refine I.change hx hy (fun l hl h1 h2 c' hc' => ?_) (fun l hl => ?_) (fun l hl => ?_) (fun l hl m hm z hz hzm => ?_) (fun z => ?_)
    · unfold swapN
      rw [if_neg (fun e : c' = c => h1 (by rw [← e]; exact hc')), if_neg (fun e : c' = y => h2 (by rw [← e]; exact hc'))]
    · have hf : ∀ a, a ≠ c → a ≠ y → swapN f c y a = f a := fun a h1 h2 => by unfold swapN; rw [if_neg h1, if_neg h2]
      simp only [List.mem_cons, List.not_mem_nil, or_false] at hl
      rcases hl with rfl | rfl
      · exact path_head (y := y) (by unfold swapN; rw [if_pos rfl]) (fun a ha => hf a (fun e => cv (e ▸ ha)) (fun e => yv (e ▸ ha))) p2
      · exact path_head (y := c) (by unfold swapN; rw [if_neg (fun e => hne e.symm), if_pos rfl]) (fun a ha => hf a (fun e => cu (e ▸ ha)) (fun e => yu (e ▸ ha))) p1
    · simp only [List.mem_cons, List.not_mem_nil, or_false] at hl
      rcases hl with rfl | rfl
      · exact List.nodup_cons.2 ⟨cv, nv⟩
      · exact List.nodup_cons.2 ⟨yu, nu⟩
    · have hdis : ∀ z, z ∈ c :: v → z ∈ y :: u → False := fun z h1 h2 => by
        rcases List.mem_cons.1 h1 with rfl | h1 <;> rcases List.mem_cons.1 h2 with h2 | h2
        · exact cy h2
        · exact cu h2
        · subst h2; exact yv h1
        · exact huv z h2 z (Or.inr h1) rfl
      simp only [List.mem_cons, List.not_mem_nil, or_false] at hl hm
      rcases hl with rfl | rfl <;> rcases hm with rfl | rfl
      · rfl
      · exact (hdis z hz hzm).elim
      · exact (hdis z hzm hz).elim
      · rfl
    · rw [es, et]
      have hz : z ∈ y :: t ↔ z ∈ c :: (u ++ y :: v) := by rw [py.mem_iff, px.mem_iff, hsame]
      rw [hz, or_self]
      constructor
      · rintro ⟨l, hl, hzl⟩
        simp only [List.mem_cons, List.not_mem_nil, or_false] at hl
        rcases hl with rfl | rfl
        · rcases List.mem_cons.1 hzl with rfl | h1
          · simp
          · simp [h1]
        · rcases List.mem_cons.1 hzl with rfl | h1
          · simp
          · simp [h1]
      · intro h1
        simp only [List.mem_cons, List.mem_append] at h1
        rcases h1 with rfl | h1 | rfl | h1
        · exact ⟨z :: v, by simp, by simp⟩
        · exact ⟨y :: u, by simp, by simp [h1]⟩
        · exact ⟨z :: u, by simp, by simp⟩
        · exact ⟨c :: v, by simp, by simp [h1]⟩
/-- Two of two rings: they become one. -/
theorem splice_two (I : RInv n f R) (hx : 0 ≤ x ∧ x < n) (hy : 0 ≤ y ∧ y < n) (h : y ∉ allR R x) : RInv n (swapN f x y) (spliceR R x y) := by
  obtain ⟨s, es, ps, ns, lx, hlx, hxl, px⟩ := I.all hx
  obtain ⟨t, et, pt, nt, ly, hly, hyl, py⟩ := I.all hy
  have hne : x ≠ y := fun e => h (by rw [es, ← e]; simp)
  have hc : ¬ (allR R x).contains y = true := by simpa using h
  have e : spliceR R x y = withoutR R x y ++ [(x :: t) ++ [y] ++ s] := by
    unfold spliceR
    rw [if_neg (by rw [es, et]; simp [hne]), if_neg hc, es, et]
    rfl
  rw [e]
  rw [es] at h
  have hdis : ∀ z, z ∈ x :: s → z ∈ y :: t → False := fun z h1 h2 => by
    have := I.one lx hlx ly hly z (px.mem_iff.1 h1) (py.mem_iff.1 h2)
    subst this
    exact h (px.mem_iff.2 hyl)
  have xt : x ∉ y :: t := fun hm => hdis x (by simp) hm
  have hf : ∀ a, a ≠ x → a ≠ y → swapN f x y a = f a := fun a h1 h2 => by unfold swapN; rw [if_neg h1, if_neg h2]
  obtain ⟨xs, ns'⟩ := List.nodup_cons.1 ns
  obtain ⟨yt, nt'⟩ := List.nodup_cons.1 nt
  have ys : y ∉ s := fun hm => h (by simp [hm])
  have e3 : (x :: t) ++ [y] ++ s = x :: (t ++ y :: s) := by simp
  rw [e3]
  refine I.change hx hy (fun l hl h1 h2 c' hc' => hf c' (fun e => h1 (e ▸ hc')) (fun e => h2 (e ▸ hc'))) (fun l hl => ?_) (fun l hl => ?_) (fun l hl m hm z _ _ => ?_) (fun z => ?_)
  · rw [List.mem_singleton.1 hl]
    refine path_append.2 ⟨path_head (y := y) (by unfold swapN; rw [if_pos rfl]) (fun a ha => hf a (fun e => xt (by simp [← e, ha])) (fun e => yt (e ▸ ha))) pt, path_head (y := x) (by unfold swapN; rw [if_neg (fun e => hne e.symm), if_pos rfl]) (fun a ha => hf a (fun e => xs (e ▸ ha)) (fun e => ys (e ▸ ha))) ps⟩
  · rw [List.mem_singleton.1 hl]
    rw [List.nodup_cons, List.nodup_append]
    refine ⟨fun hm => ?_, nt', List.nodup_cons.2 ⟨ys, ns'⟩, fun a ha b hb e => ?_⟩
    · rcases List.mem_append.1 hm with h1 | h1
      · exact xt (by simp [h1])
      · rcases List.mem_cons.1 h1 with h1 | h1
        · exact hne h1
        · exact xs h1
    · subst e
      rcases List.mem_cons.1 hb with h1 | h1
      · exact yt (h1 ▸ ha)
      · exact hdis a (by simp [h1]) (by simp [ha])
  · rw [List.mem_singleton.1 hl, List.mem_singleton.1 hm]
  · rw [es, et]
    simp only [List.mem_singleton, exists_eq_left, List.mem_cons, List.mem_append]
    grind
theorem splice_inv (I : RInv n f R) (hx : 0 ≤ x ∧ x < n) (hy : 0 ≤ y ∧ y < n) (hne : x ≠ y) : RInv n (swapN f x y) (spliceR R x y) := by
  by_cases h : y ∈ allR R x
  · exact splice_one I hx hy hne h
  · exact splice_two I hx hy h
/-- A thing comes out of its ring. -/
def partF (f : Int → Int) (x : Int) : Int → Int := fun z => if z = x then x else if f z = x then f x else f z
theorem part_inv (I : RInv n f R) (hx : 0 ≤ x ∧ x < n) : RInv n (partF f x) (partR R x) := by
  obtain ⟨s, es, ps, ns, lx, hlx, hxl, px⟩ := I.all hx
  obtain ⟨xs, ns'⟩ := List.nodup_cons.1 ns
  cases s with
  | nil =>
    have hfx : f x = x := ps
    have e : partR R x = R := by unfold partR; rw [if_pos (by rw [es]; simp)]
    have e2 : partF f x = f := by
      funext z
      unfold partF
      by_cases h1 : z = x
      · rw [if_pos h1, h1, hfx]
      · rw [if_neg h1]
        by_cases h2 : f z = x
        · rw [if_pos h2, hfx, h2]
        · rw [if_neg h2]
    rw [e, e2]; exact I
  | cons a s =>
    have e : partR R x = withoutR R x x ++ [[x], a :: s] := by
      unfold partR; rw [if_neg (by rw [es]; simp), es]; rfl
    rw [e]
    have hfx : f x = a := ps.1
    have hxx : partF f x x = x := by unfold partF; rw [if_pos rfl]
    refine I.change hx hx (fun l hl h1 _ c hc => ?_) (fun l hl => ?_) (fun l hl => ?_) (fun l hl m hm z hz hzm => ?_) (fun z => ?_)
    · unfold partF
      rw [if_neg (fun e : c = x => h1 (by rw [← e]; exact hc)), if_neg (fun e : f c = x => h1 (by rw [← e]; exact ring_in (I.by' l hl) hc))]
    · simp only [List.mem_cons, List.not_mem_nil, or_false] at hl
      rcases hl with rfl | rfl
      · exact hxx
      · refine path_end (x := x) (b := a) (fun h => xs (by simp [h])) (fun c hc => ?_) ps.2
        have hcx : c ≠ x := fun e => xs (by
          rcases hc with h | h
          · rw [← e, h]; simp
          · rw [← e]; simp [h])
        unfold partF
        rw [if_neg hcx, hfx]
    · simp only [List.mem_cons, List.not_mem_nil, or_false] at hl
      rcases hl with rfl | rfl
      · simp
      · exact ns'
    · simp only [List.mem_cons, List.not_mem_nil, or_false] at hl hm
      rcases hl with rfl | rfl <;> rcases hm with rfl | rfl
      · rfl
      · rw [List.mem_singleton.1 hz] at hzm; exact absurd hzm xs
      · rw [List.mem_singleton.1 hzm] at hz; exact absurd hz xs
      · rfl
    · rw [es, or_self]
      simp
end
/-! ### there and back: each thing is followed by one, and follows one -/
/-- g goes back where f goes on. -/
structure Back (n : Nat) (f g : Int → Int) : Prop where
  inF : ∀ x, 0 ≤ x ∧ x < (n : Int) → 0 ≤ f x ∧ f x < n
  inG : ∀ x, 0 ≤ x ∧ x < (n : Int) → 0 ≤ g x ∧ g x < n
  gf : ∀ x, 0 ≤ x ∧ x < (n : Int) → g (f x) = x
  fg : ∀ x, 0 ≤ x ∧ x < (n : Int) → f (g x) = x
theorem back_id (n : Nat) : Back n id id := ⟨fun _ h => h, fun _ h => h, fun _ _ => rfl, fun _ _ => rfl⟩
/-- What precedes what, where x and y change what follows them. -/
def swapB (f g : Int → Int) (x y : Int) : Int → Int := fun z => if z = f y then x else if z = f x then y else g z
theorem back_swap {n : Nat} {f g : Int → Int} (B : Back n f g) {x y : Int} (hx : 0 ≤ x ∧ x < (n : Int)) (hy : 0 ≤ y ∧ y < (n : Int)) (hne : x ≠ y) : Back n (swapN f x y) (swapB f g x y) := by
  have inj : ∀ a b, 0 ≤ a ∧ a < (n : Int) → 0 ≤ b ∧ b < (n : Int) → f a = f b → a = b := fun a b ha hb e => by rw [← B.gf a ha, e, B.gf b hb]
  have hfne : f x ≠ f y := fun e => hne (inj x y hx hy e)
  refine ⟨fun z hz => ?_, fun z hz => ?_, fun z hz => ?_, fun z hz => ?_⟩
  · unfold swapN; split
    · exact B.inF y hy
    · split
      · exact B.inF x hx
      · exact B.inF z hz
  · unfold swapB; split
    · exact hx
    · split
      · exact hy
      · exact B.inG z hz
  · unfold swapN
    by_cases h1 : z = x
    · rw [if_pos h1, h1]; unfold swapB; rw [if_pos rfl]
    · rw [if_neg h1]
      by_cases h2 : z = y
      · rw [if_pos h2, h2]; unfold swapB; rw [if_neg hfne, if_pos rfl]
      · rw [if_neg h2]; unfold swapB
        rw [if_neg (fun e => h2 (inj z y hz hy e)), if_neg (fun e => h1 (inj z x hz hx e)), B.gf z hz]
  · unfold swapB
    by_cases h1 : z = f y
    · rw [if_pos h1]; unfold swapN; rw [if_pos rfl, h1]
    · rw [if_neg h1]
      by_cases h2 : z = f x
      · rw [if_pos h2]; unfold swapN; rw [if_neg (fun e => hne e.symm), if_pos rfl, h2]
      · rw [if_neg h2]
        unfold swapN
        have h3 := B.fg z hz
        rw [if_neg (fun e => h2 (by rw [← h3, e])), if_neg (fun e => h1 (by rw [← h3, e])), h3]
/-- What precedes a thing is the last one of its ring, from it on. -/
theorem back_last {n : Nat} {f g : Int → Int} (B : Back n f g) {x : Int} {s : List Int} (hp : path f x s x) (hin : ∀ z ∈ x :: s, 0 ≤ z ∧ z < (n : Int)) : (x :: s).getLast (by simp) = g x := by
  have h1 := path_last hp
  have h2 := B.gf _ (hin _ (List.getLast_mem (by simp)))
  rw [h1] at h2
  exact h2.symm
end Go.Proofs.Ytfngooaobjafjaa
