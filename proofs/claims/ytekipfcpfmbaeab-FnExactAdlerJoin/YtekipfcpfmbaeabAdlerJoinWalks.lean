/-
  The walks of AdlerJoin, in the document's model and in the program.
-/
import Derived.Test.YtekipfcpfmbaeabRows
import Derived.Test.YtekipfcpfmbaeabBase
import Derived.Test.YtekipfcpfmbaeabAdlerMath
import Derived.Test.YtekipfcpfmbaeabAdlerSum
import Derived.Test.YtekipfcpfmbaeabInWalks
import Derived.WalkKit
import Derived.ProofKit
import Derived.WalkLawsBesides
import Derived.Lib.SmallJoins
namespace Go.Proofs.Ytekipfcpfmbaeab
open Go.RowKit Go.Joins AdlerMath

theorem ret_u {a b : Int} (h : a = b) : Ending.returned (.int .u32 a) = .returned (.int .u32 b) := by rw [h]

theorem block_at {b : Nat} (w : World) (o : Obj) (h : b = w.heap.size) : (w.alloc o).heap[b]? = some o := by
  subst h
  show (w.heap.push _)[w.heap.size]? = _
  simp

/-- What the join comes to. -/
def joined (a b n : Int) : Int :=
  (a / 65536 % 65521 + b / 65536 % 65521 + n * (a % 65536 % 65521 + 65520)) % 65521 * 65536 + (a % 65536 % 65521 + b % 65536 % 65521 + 65520) % 65521

theorem mul_bd (n p : Int) (h0 : 0 ≤ n) (h1 : n ≤ 12000) (h2 : 0 ≤ p) (h3 : p ≤ 200000) : 0 ≤ n * p ∧ n * p ≤ 2400000000 := by
  constructor
  · exact Int.mul_nonneg h0 h2
  · have k1 : n * p ≤ 12000 * p := Int.mul_le_mul_of_nonneg_right h1 h2
    omega

set_option maxHeartbeats 400000 in
theorem specJoin_yes (a b n : Int) (w : World) (ha0 : 0 ≤ a) (ha1 : a ≤ 4294967295) (hb0 : 0 ≤ b) (hb1 : b ≤ 4294967295) (h0 : 0 ≤ n) (h1 : n ≤ 12000) :
    Calls Try.prog 4 #[.int .u32 a, .int .u32 b, .int .i64 n] w fun e w' => e = .returned (.int .u32 (joined a b n)) ∧ w' = w := by
  have hm := mul_bd n (a % 65536 % 65521 + 65520) h0 h1 (by omega) (by omega)
  go_enter Try.func4, Try.ntmps4
  go_wp2_with fail
  refine (in_yes _ _ _ _ (by omega) (by omega)).mono ?_
  rintro e w1 ⟨rfl, rfl⟩
  go_wp2_with fail
  go_ret
  exact ⟨rfl, rfl⟩

theorem specJoin_no (a b n : Int) (w : World) (h : ¬ (0 ≤ n ∧ n ≤ 12000)) :
    Calls Try.prog 4 #[.int .u32 a, .int .u32 b, .int .i64 n] w fun e w' => e = .returned (.int .u32 0) ∧ w' = w := by
  have H : Hid (¬ (0 ≤ n ∧ n ≤ 12000)) := h
  clear h
  go_enter Try.func4, Try.ntmps4
  go_wp2_with fail
  refine (in_no _ _ _ _ H.out).mono ?_
  rintro e w1 ⟨rfl, rfl⟩
  go_wp2_with fail
  go_ret
  exact ⟨rfl, rfl⟩

theorem joinSize_yes (x : Int) (w : World) (h1 : 0 ≤ x) (h2 : x ≤ 12000) :
    Calls Try.prog 7 #[.int .i64 x] w fun e w' => e = .returned (.bool true) ∧ w' = w := by
  go_enter Try.func7, Try.ntmps7
  go_wp2
  go_ret
  exact ⟨rfl, rfl⟩

theorem joinSize_no (x : Int) (w : World) (h : ¬ (0 ≤ x ∧ x ≤ 12000)) :
    Calls Try.prog 7 #[.int .i64 x] w fun e w' => e = .returned (.bool false) ∧ w' = w := by
  by_cases h1 : 0 ≤ x
  · have h2 : ¬ x ≤ 12000 := fun k => h ⟨h1, k⟩
    clear h
    go_enter Try.func7, Try.ntmps7
    go_wp2
    go_ret
    exact ⟨rfl, rfl⟩
  · clear h
    go_enter Try.func7, Try.ntmps7
    go_wp2
    go_ret
    exact ⟨rfl, rfl⟩

theorem implJoin_no (a b n : Int) (w : World) (h : ¬ (0 ≤ n ∧ n ≤ 12000)) :
    Calls Try.prog 5 #[.int .u32 a, .int .u32 b, .int .i64 n] w fun e w' => e = .returned (.int .u32 0) ∧ Below w.heap.size w w' := by
  have H : Hid (¬ (0 ≤ n ∧ n ≤ 12000)) := h
  clear h
  go_enter Try.func5, Try.ntmps5
  go_wp2_with fail
  refine (joinSize_no _ _ H.out).mono ?_
  rintro e w1 ⟨rfl, rfl⟩
  go_wp2_with fail
  go_ret
  exact ⟨rfl, Below.refl _ _⟩

set_option maxHeartbeats 400000 in
theorem implJoin_yes (a b n : Int) (w : World) (ha0 : 0 ≤ a) (ha1 : a ≤ 4294967295) (hb0 : 0 ≤ b) (hb1 : b ≤ 4294967295) (h0 : 0 ≤ n) (h1 : n ≤ 12000) :
    Calls Try.prog 5 #[.int .u32 a, .int .u32 b, .int .i64 n] w fun e w' => e = .returned (.int .u32 (joined a b n)) ∧ Below w.heap.size w w' := by
  have nA := fun w => newAdler_any a w ha0 ha1
  have nB := fun w => newAdler_any b w hb0 hb1
  unfold joined
  have p0 : 0 ≤ a % 65536 % 65521 := by omega
  have p1 : a % 65536 % 65521 < 65521 := by omega
  have q0 : 0 ≤ a / 65536 % 65521 := by omega
  have q1 : a / 65536 % 65521 < 65521 := by omega
  have r0 : 0 ≤ b % 65536 % 65521 := by omega
  have r1 : b % 65536 % 65521 < 65521 := by omega
  have s0 : 0 ≤ b / 65536 % 65521 := by omega
  have s1 : b / 65536 % 65521 < 65521 := by omega
  generalize a % 65536 % 65521 = p at nA p0 p1 ⊢
  generalize a / 65536 % 65521 = q at nA q0 q1 ⊢
  generalize b % 65536 % 65521 = r at nB r0 r1 ⊢
  generalize b / 65536 % 65521 = s at nB s0 s1 ⊢
  have hm := mul_bd n (p + 65521 - 1) h0 h1 (by omega) (by omega)
  have NA : Hid (∀ w : World, Calls Try.prog 8 #[.int .u32 a] w fun e w' => e = .returned (.agg #[.int .i64 p, .int .i64 q]) ∧ Below w.heap.size w w') := nA
  have NB : Hid (∀ w : World, Calls Try.prog 8 #[.int .u32 b] w fun e w' => e = .returned (.agg #[.int .i64 r, .int .i64 s]) ∧ Below w.heap.size w w') := nB
  clear nA nB
  go_enter Try.func5, Try.ntmps5
  go_wp2_with fail
  refine (joinSize_yes _ _ h0 h1).mono ?_
  rintro e w1 ⟨rfl, rfl⟩
  go_wp2_with fail
  refine (NA.out _).mono ?_
  rintro e w1 ⟨rfl, k1⟩
  go_wp2_with fail
  refine (NB.out _).mono ?_
  rintro e w2 ⟨rfl, k2⟩
  go_wp2_with fail
  refine (adlerWord _ _ _ _ (block_at _ _ (by simp)) (by omega) (by omega) (by omega) (by omega)).mono ?_
  rintro e w3 ⟨rfl, k3⟩
  go_wp2_with fail
  go_ret
  refine ⟨ret_u (by rw [show p + 65521 - 1 + r = p + r + 65520 by omega, show p + 65521 - 1 = p + 65520 by omega]), bnext (bal (bal (bal (bnext k1 k2) _) _) _) k3⟩

end Go.Proofs.Ytekipfcpfmbaeab
