/- Names as things of a scene. -/
import Derived.Test.YtjpehcpkhbfjaaaNames4
import Derived.Test.YtjpehcpkhbfjaaaScene
namespace Go.Proofs.Ytjpehcpkhbfjaaa
open Go.RowKit Go.Sort

/-- At p lie the names N. -/
def Ob.names (B p : Nat) (N : NS) : Ob where
  holds w F := NR w B p F N
  keeps h k hn := NR.keeps h k hn
  lt h k hk := (NR.lt h k hk).2
namespace Scene
variable {W w : World} {l : List Ob} {B p : Nat} {N : NS}
theorem fit (h : Scene W l w) (i : Nat) (hi : l[i]? = some (Ob.names B p N)) : N.Fit := by
  obtain ⟨F, ho⟩ := h.get hi; exact NR.fit ho
theorem newNames (h : Scene W l w) (n : Nat) (hn : n ≤ 65536) : Calls Try.prog 8 #[.int .i64 n] w fun e w' => e = .returned (.tuple #[.pointer (some ⟨w.heap.size + 1, 0, none⟩), .int .i64 0]) ∧ Scene W (l ++ [Ob.names W.heap.size (w.heap.size + 1) (newN n)]) w' :=
  (new_nm W.heap.size n w hn h.size).mono fun _ _ ⟨he, _, hn, hF, hb⟩ => ⟨he, h.add hb hn hF⟩
theorem make (h : Scene W l w) (i : Nat) (hi : l[i]? = some (Ob.names B p N)) : Calls Try.prog 13 #[.pointer (some ⟨p, 0, none⟩)] w fun e w' => e = .returned (.tuple #[.int .i64 (madeI N), .bool (canMake N)]) ∧ Scene W (l.set i (Ob.names B p (afterM N))) w' :=
  h.call i hi fun _ ho => make_nm ho
theorem join (h : Scene W l w) (i : Nat) (hi : l[i]? = some (Ob.names B p N)) (a b : Int) : Calls Try.prog 16 #[.pointer (some ⟨p, 0, none⟩), .int .i64 a, .int .i64 b] w fun e w' => e = .returned (.bool (joinB N a b)) ∧ Scene W (l.set i (Ob.names B p (afterJ N a b))) w' :=
  h.call i hi fun _ ho => join_nm a b ho
theorem root (h : Scene W l w) (i : Nat) (hi : l[i]? = some (Ob.names B p N)) (s : Int) : Calls Try.prog 17 #[.pointer (some ⟨p, 0, none⟩), .int .i64 s] w fun e w' => e = .returned (.tuple #[.int .i64 (rootI N s), .bool (madeB N s)]) ∧ Scene W (l.set i (Ob.names B p N)) w' :=
  h.call i hi fun _ ho => root_nm s ho
theorem has (h : Scene W l w) (i : Nat) (hi : l[i]? = some (Ob.names B p N)) (s : Int) : Calls Try.prog 12 #[.pointer (some ⟨p, 0, none⟩), .int .i64 s] w fun e w' => e = .returned (.bool (hasB N s)) ∧ w = w' :=
  h.ask i hi fun _ ho => has_nm s ho
theorem last (h : Scene W l w) (i : Nat) (hi : l[i]? = some (Ob.names B p N)) : Calls Try.prog 10 #[.pointer (some ⟨p, 0, none⟩)] w fun e w' => e = .returned (.int .i64 ((N.roots.length : Int) - 1)) ∧ w = w' :=
  h.ask i hi fun _ ho => last_nm ho
theorem count (h : Scene W l w) (i : Nat) (hi : l[i]? = some (Ob.names B p N)) : Calls Try.prog 11 #[.pointer (some ⟨p, 0, none⟩)] w fun e w' => e = .returned (.int .i64 N.count) ∧ w = w' :=
  h.ask i hi fun _ ho => count_nm ho
end Scene
end Go.Proofs.Ytjpehcpkhbfjaaa
