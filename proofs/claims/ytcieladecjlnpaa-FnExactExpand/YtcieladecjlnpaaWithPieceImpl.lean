/-
  The walk of the program's function that puts what a piece makes behind a text.
-/
import Derived.Test.YtcieladecjlnpaaRows
import Derived.Test.YtcieladecjlnpaaBase
import Derived.Test.YtcieladecjlnpaaOwnLib
import Derived.Test.YtcieladecjlnpaaTokMath
import Derived.Test.YtcieladecjlnpaaByteLib
import Derived.WalkKit
import Derived.ProofKit
import Derived.WalkLawsBesides
import Derived.Below
import Derived.Deep.LoopGhost
import Derived.Lib.SmallJoins
namespace Go.Proofs.Ytcieladecjlnpaa
open Go.RowKit Go.Joins TokMath

theorem below_grown1 {base : Nat} {w w1 : World} {g n cap : Nat} {O : List Int} (h : BOwn w base g n cap O) {w0 : World} (h0 : Below base w0 w) (hg : w.grownBy w1 (some g)) : Below base w0 w1 := by
  have h1 := h.base_le
  have h2 := h.lt
  exact h0.grown hg (by omega) (fun k hk => by cases hk; exact h1)

theorem as_literal (v : Value) (w : World) : (Instr.typeAssert (.iface 72 v) 57 72 true).run Try.prog w = .ok (.tuple #[v, .bool true]) w := by
  simp [Instr.typeAssert, run_underlying Try.underlying72]
theorem no_literal (v : Value) (w : World) : (Instr.typeAssert (.iface 74 v) 57 72 true).run Try.prog w = .ok (.tuple #[.int .u8 0, .bool false]) w := by
  simp [Instr.typeAssert, run_underlying Try.underlying72]
theorem as_repeat (v : Value) (w : World) : (Instr.typeAssert (.iface 74 v) 57 74 true).run Try.prog w = .ok (.tuple #[v, .bool true]) w := by
  simp [Instr.typeAssert, run_underlying Try.underlying74]

set_option maxHeartbeats 1600000 in
theorem with_byte (base g n cap : Nat) (O : List Int) (x : Int) (w : World) (hO : BOwn w base g n cap O) (hn : n ≤ 1000000) :
    Calls Try.prog 38 #[.slice (some ⟨g, 0, none⟩) n cap, .iface 72 (.int .u8 x)] w fun e w' => ∃ g' cap', e = .returned (.tuple #[.slice (some ⟨g', 0, none⟩) (n + 1) cap', .bool true]) ∧ BOwn w' base g' (n + 1) cap' (O ++ [x]) ∧ Below base w w' := by
  have HO := hid_of hO
  have t1 := as_literal
  clear hO
  go_enter Try.func38, Try.ntmps38
  go_wp2_with (at_builtin; refine bytes_append (base := base) (O := O) rfl _ _ rfl rfl (HO.out.called (bstart _ _)) w.heap.size 1 x rfl (by simp) (by omega) ?_)
  intro g1 cap1 w5 y1 y2 y3
  have HN : Hid (BOwn w5 base g1 (n + 1) cap1 (O ++ [x]) ∧ Below base w w5) := by
    have q1 := HO.out.base_le
    have q2 := HO.out.lt
    exact ⟨y1, below_grown1 (HO.out.called (bstart w _)) ((Below.refl base w).alloc (by omega) _) y3⟩
  clear y1 y2 y3 HO
  go_wp2_with fail
  go_ret2
  exact ⟨g1, cap1, rfl, HN.out⟩

theorem with_far (g n cap : Nat) (y z : Int) (w : World) (hz : (n : Int) < z) :
    Calls Try.prog 38 #[.slice (some ⟨g, 0, none⟩) n cap, .iface 74 (.agg #[.int .i64 y, .int .i64 z])] w fun e w' => e = .returned (.tuple #[.slice none 0 0, .bool false]) ∧ Below w.heap.size w w' := by
  have t1 := no_literal
  have t2 := as_repeat
  have d : decide ((n : Int) < z) = true := decide_eq_true hz
  go_enter Try.func38, Try.ntmps38
  go_wp2_with fail
  go_ret2
  exact ⟨rfl, bstart _ _⟩

/-- What the ring has at hand: the text so far, and the piece's box. -/
def WpS (base : Nat) (w w' : World) (tb : Nat) (y z : Int) (g n cap : Nat) (O : List Int) : Prop := BOwn w' base g n cap O ∧ Below base w w' ∧ w'.heap[tb]? = some (.cells #[.int .i64 y, .int .i64 z] 74 (0, 0)) ∧ tb ≠ g
theorem wp_next {base : Nat} {w w' w1 : World} {tb : Nat} {y z q : Int} {g n cap g1 cap1 : Nat} {O : List Int} {o : Obj} (h : WpS base w w' tb y z g n cap O) (hO : BOwn w1 base g1 (n + 1) cap1 (O ++ [q])) (hg : g1 = g ∨ w'.heap.size + 1 ≤ g1) (hgr : (w'.alloc o).grownBy w1 (some g)) : WpS base w w1 tb y z g1 (n + 1) cap1 (O ++ [q]) := by
  obtain ⟨h1, h2, h3, h4⟩ := h
  have ht := block_lt h3
  have hb := h1.base_le
  have hl := h1.lt
  refine ⟨hO, below_grown1 (h1.called (bstart w' o)) (h2.alloc (by omega) o) hgr, ?_, ?_⟩
  · exact (hgr.block tb (by simp; omega) (fun e => h4 (Option.some.inj e))).trans (((bstart w' o).block tb ht).trans h3)
  · rcases hg with e | e
    · rw [e]; exact h4
    · omega

set_option maxHeartbeats 3200000 in
theorem with_repeat (base g n cap T d : Nat) (O : List Int) (w : World) (hO : BOwn w base g n cap O) (hn : n ≤ 1000000) (hT : T ≤ 258) (hd1 : 1 ≤ d) (hdn : d ≤ n) :
    Calls Try.prog 38 #[.slice (some ⟨g, 0, none⟩) n cap, .iface 74 (.agg #[.int .i64 (T : Int), .int .i64 (d : Int)])] w fun e w' => ∃ g' n' cap', e = .returned (.tuple #[.slice (some ⟨g', 0, none⟩) n' cap', .bool true]) ∧ BOwn w' base g' n' cap' (copyN d T O) ∧ Below base w w' := by
  have t1 := no_literal
  have t2 := as_repeat
  have d1 : decide ((n : Int) < (d : Int)) = false := decide_eq_false (by omega)
  have d2 : decide (n < d) = false := decide_eq_false (by omega)
  have H0 : Hid (WpS base w (w.alloc (.cells #[.int .i64 (T : Int), .int .i64 (d : Int)] 74)) w.heap.size (T : Int) (d : Int) g n cap (copyN d 0 O)) := by
    have q1 := hO.base_le
    have q2 := hO.lt
    exact ⟨hO.called (bstart _ _), (Below.refl base w).alloc (by omega) _, heap_alloc_new w _, by omega⟩
  clear hO
  go_enter Try.func38, Try.ntmps38
  go_wp2_with fail
  go_loopg [0, 26] (T + 1) (fun gk v y w' => ∃ (j g2 n2 cp2 : Nat), v = .slice (some ⟨g2, 0, none⟩) n2 cp2 ∧ j ≤ T ∧ y = .int .i64 j ∧ T - j ≤ gk ∧ n ≤ n2 ∧ n2 ≤ n + 258 ∧ Hid (n2 = n + j ∧ WpS base w w' w.heap.size (T : Int) (d : Int) g2 n2 cp2 (copyN d j O)))
  case atStart => exact ⟨0, g, n, cap, rfl, Nat.zero_le _, rfl, by omega, Nat.le_refl _, by omega, rfl, H0.out⟩
  case round =>
    clear H0
    obtain ⟨j, g2, n2, cp2, rfl, hj, rfl, hgk2, hn2, hn3, hS2⟩ := hrel
    have m1 := cell_of_block hS2.out.2.2.2.1 0
    have m2 := cell_of_block hS2.out.2.2.2.1 1
    have mt := block_lt hS2.out.2.2.2.1
    have mg := hS2.out.2.1.lt
    by_cases hjt : j < T
    · have dj : decide ((j : Int) < (T : Int)) = true := decide_eq_true (by omega)
      have k1 : ((n2 : Int) - (d : Int)).toNat = n2 - d := by omega
      have k2 : (0 : Int) ≤ (n2 : Int) - (d : Int) := by omega
      have k3 : (n2 : Int) - (d : Int) < (n2 : Int) := by omega
      have k4 : n2 - d < n2 := by omega
      have cq := hS2.out.2.1.cell (n2 - d) (by omega)
      obtain ⟨q, hq⟩ : ∃ q, q = (copyN d j O).getD (n2 - d) 0 := ⟨_, rfl⟩
      rw [← hq] at cq
      have HQ : Hid (copyN d (j + 1) O = copyN d j O ++ [q]) := by
        show copyN d (j + 1) O = copyN d j O ++ [q]
        rw [copy_snoc, ← hS2.out.2.1.1, hq]
      clear hq
      go_wp2_with (at_builtin; refine bytes_append (base := base) (O := copyN d j O) rfl _ _ rfl rfl (hS2.out.2.1.called (bstart _ _)) wr.heap.size 1 q rfl (by simp) (by omega) ?_)
      intro g1 cap1 w5 y1 y2 y3
      have HC5 : Hid (WpS base w w5 w.heap.size (T : Int) (d : Int) g1 (n2 + 1) cap1 (copyN d (j + 1) O)) := by
        rw [HQ.out]
        exact wp_next hS2.out.2 y1 (by simpa using y2) y3
      clear y1 y2 y3
      go_wp2_with fail
      go_roundg (T - (j + 1))
      case measure => omega
      case rel => exact ⟨j + 1, g1, n2 + 1, cap1, rfl, by omega, by go_num, Nat.le_refl _, by omega, by have := hS2.out.1; omega, by have := hS2.out.1; omega, HC5.out⟩
    · obtain rfl : j = T := by omega
      have dj : decide ((j : Int) < (j : Int)) = false := decide_eq_false (by omega)
      have HZ : Hid (BOwn wr base g2 n2 cp2 (copyN d j O) ∧ Below base w wr) := ⟨hS2.out.2.1, hS2.out.2.2.1⟩
      go_wp2_with fail
      go_ret2
      exact ⟨g2, n2, cp2, rfl, HZ.out⟩

end Go.Proofs.Ytcieladecjlnpaa
