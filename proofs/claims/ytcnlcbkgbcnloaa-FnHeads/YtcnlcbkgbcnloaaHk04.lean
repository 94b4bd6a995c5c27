/-
  The walks of the model's cursor over the bytes of a draw: it is made, gives bytes, numbers below a bound, picks. What it gives is whatever; told is only within which bounds it lies.
  Plain facts on numbers for bits that are put; nothing here speaks of the program.
-/
import Derived.Test.YtcnlcbkgbcnloaaRows
import Derived.Test.YtcnlcbkgbcnloaaHk01
import Derived.WalkKit
import Derived.ProofKit
import Derived.WalkLawsBesides
import Derived.Deep.QuietTactic
import Derived.BigQuiet
import Derived.OpenShut
import Derived.Lib.SmallJoins
import Derived.Laws.BitsAllLaws
namespace Go.Proofs.Ytcnlcbkgbcnloaa
open Go.RowKit Go.Joins

/-- Block b is a cursor over bytes that lie below 'base'. -/
def Cur (w : World) (base b : Nat) : Prop :=
  ∃ a len cap i h, w.heap[b]? = some (.cells #[.slice a len cap, .int .i64 i, .int .i64 h] 89 (0, 0)) ∧ base ≤ b ∧ 0 ≤ i ∧ i ≤ len ∧ len ≤ 1048576 ∧ CodeAt w base a len

theorem Cur.lt {w : World} {base b : Nat} (h : Cur w base b) : b < w.heap.size := by
  obtain ⟨a, len, cap, i, h, hb, _⟩ := h
  rcases Nat.lt_or_ge b w.heap.size with k | k
  · exact k
  · rw [Array.getElem?_eq_none k] at hb; cases hb
theorem Cur.base_le {w : World} {base b : Nat} (h : Cur w base b) : base ≤ b := by
  obtain ⟨a, len, cap, i, h, _, hb, _⟩ := h
  exact hb
/-- A cursor stays one where its block and all below 'base' stay. -/
theorem Cur.keep {w w' : World} {base b : Nat} (h : Cur w base b) (hk : w'.heap[b]? = w.heap[b]?) (hb : Below base w w') : Cur w' base b := by
  obtain ⟨a, len, cap, i, h, h1, h2, h3, h4, h5, h6⟩ := h
  exact ⟨a, len, cap, i, h, hk.trans h1, h2, h3, h4, h5, h6.below hb⟩
theorem Cur.alloc {w : World} {base b : Nat} (h : Cur w base b) (o : Obj) : Cur (w.alloc o) base b :=
  h.keep (Below.heap_alloc w o b h.lt) ((Below.refl _ _).alloc (by have := h.lt; have := h.base_le; omega) o)
theorem Cur.setCell {w : World} {base b : Nat} (h : Cur w base b) (p : Addr) (v : Value) (hne : p.block ≠ b) (hp : base ≤ p.block) : Cur (w.setCell p v) base b :=
  h.keep (Below.heap_setCell w p v b (Ne.symm hne)) ((Below.refl _ _).setCell hp v)
theorem Cur.grown {w w' : World} {base b : Nat} {row : Option Nat} (h : Cur w base b) (hg : w.grownBy w' row) (hne : row ≠ some b) (hr : ∀ k, row = some k → base ≤ k) : Cur w' base b :=
  h.keep (hg.block b h.lt (Ne.symm hne)) ((Below.refl _ _).grown hg (by have := h.lt; have := h.base_le; omega) hr)

theorem grown_refl (w : World) (row : Option Nat) : w.grownBy w row := ⟨rfl, rfl, rfl, Nat.le_refl _, fun _ _ _ => rfl⟩
theorem grown_trans {a b c : World} {row : Option Nat} (h : a.grownBy b row) (k : b.grownBy c row) : a.grownBy c row :=
  ⟨k.os.trans h.os, k.tape.trans h.tape, k.output.trans h.output, Nat.le_trans h.size k.size, fun i hi hne => (k.block i (Nat.lt_of_lt_of_le hi h.size) hne).trans (h.block i hi hne)⟩
theorem grown_drewN {a b : World} {row : Option Nat} (h : a.grownBy b row) (n : Nat) : a.grownBy (b.drewN n) row := ⟨h.os, h.tape, h.output, h.size, h.block⟩
theorem grown_set {a b : World} {g : Nat} (h : a.grownBy b (some g)) (i : Nat) (v : Value) : a.grownBy (b.setCell ⟨g, i, none⟩ v) (some g) :=
  ⟨h.os, h.tape, h.output, by simpa using h.size, fun k hk hne => (Below.heap_setCell b _ v k (by simpa using hne)).trans (h.block k hk hne)⟩
theorem below_of_grown {w w' : World} {base b : Nat} (h : w.grownBy w' (some b)) (h1 : base ≤ b) (h2 : b < w.heap.size) : Below base w w' :=
  (Below.refl _ _).grown h (by omega) (fun k hk => by cases hk; exact h1)

theorem grown_of_below {w w' : World} (h : Below w.heap.size w w') (row : Option Nat) : w.grownBy w' row := ⟨h.os, h.tape, h.output, h.size, fun k hk _ => h.block k hk⟩
theorem grown_alloc {a b : World} {row : Option Nat} (h : a.grownBy b row) (o : Obj) : a.grownBy (b.alloc o) row :=
  ⟨h.os, h.tape, h.output, by have := h.size; simp; omega, fun k hk hne => (Below.heap_alloc b o k (Nat.lt_of_lt_of_le hk h.size)).trans (h.block k hk hne)⟩
theorem Cur.drew {w : World} {base b : Nat} (h : Cur w base b) : Cur w.drew base b := h.keep rfl ⟨rfl, rfl, rfl, Nat.le_refl _, fun _ _ => rfl⟩

theorem and255 (x : Int) : 0 ≤ bits .and .i64 x 255 ∧ bits .and .i64 x 255 ≤ 255 := by
  have h2 : (BitVec.ofInt 64 (255 : Int)).toNat = 255 := by decide
  have e : bits .and .i64 x 255 = IntKind.i64.wrap ((BitVec.ofInt 64 x &&& BitVec.ofInt 64 (255 : Int)).toNat : Int) := rfl
  rw [e, BitVec.toNat_and, h2, IntKind.wrap_i64]
  have : (BitVec.ofInt 64 x).toNat &&& 255 ≤ 255 := Nat.and_le_right
  omega

section
variable {w : World} {base b : Nat} {a : Option Addr} {len cap : Nat} {i h : Int}
theorem cur_next {n : Nat} (hb : w.heap[b]? = some (.cells #[.slice a len cap, .int .i64 n, .int .i64 h] 89 (0, 0))) (hk : CodeAt w base a len) (hbase : base ≤ b) (hn : n + 1 ≤ len) (hlen : len ≤ 1048576) (z : Int) (q : Nat) :
    Cur (((w.setCell ⟨b, 2, none⟩ (.int .i64 z)).drewN q).setCell ⟨b, 1, none⟩ (.int .i64 ((n : Int) + 1))) base b := by
  have h1 := block_setCell (i := 2) hb (.int .i64 z)
  have h2 := block_setCell (w := (w.setCell ⟨b, 2, none⟩ (.int .i64 z)).drewN q) (i := 1) h1 (.int .i64 ((n : Int) + 1))
  refine ⟨a, len, cap, (n : Int) + 1, z, ?_, hbase, by omega, by omega, hlen, ?_⟩
  · simp at h2
    exact h2
  · exact hk.below ((((Below.refl base w).setCell (p := ⟨b, 2, none⟩) hbase _).trans (below_draws _ _ _)).setCell hbase _)
theorem cur_stay (hb : w.heap[b]? = some (.cells #[.slice a len cap, .int .i64 i, .int .i64 h] 89 (0, 0))) (hk : CodeAt w base a len) (hbase : base ≤ b) (h0 : 0 ≤ i) (hi : i ≤ len) (hlen : len ≤ 1048576) (z : Int) (q q' : Nat) :
    Cur (((w.setCell ⟨b, 2, none⟩ (.int .i64 z)).drewN q).drewN q') base b := by
  have h1 := block_setCell (i := 2) hb (.int .i64 z)
  refine ⟨a, len, cap, i, z, ?_, hbase, h0, hi, hlen, ?_⟩
  · simp at h1
    exact h1
  · exact hk.below (((Below.refl base w).setCell (p := ⟨b, 2, none⟩) hbase _).trans ((below_draws _ _ _).trans (below_draws _ _ _)))
end

set_option maxHeartbeats 800000 in
theorem draw_byte (base b : Nat) (w : World) (hC : Cur w base b) :
    Calls Try.prog 73 #[.pointer (some ⟨b, 0, none⟩)] w fun e w' => ∃ x : Int, e = .returned (.int .i64 x) ∧ 0 ≤ x ∧ x ≤ 255 ∧ Cur w' base b ∧ w.grownBy w' (some b) := by
  obtain ⟨a, len, cap, i, h, hb, hbase, hi0, hil, hlen, hcode⟩ := id hC
  have c0 : w.cell? ⟨b, 0, none⟩ = some (.slice a len cap) := cell_of_block hb 0
  have c1 : w.cell? ⟨b, 1, none⟩ = some (.int .i64 i) := cell_of_block hb 1
  have c2 : w.cell? ⟨b, 2, none⟩ = some (.int .i64 h) := cell_of_block hb 2
  have cf : ∀ j, w.frozen? ⟨b, j, none⟩ = false := unfrozen_of_block hb
  have HC : Hid (Cur w base b) := hC
  have HB : Hid (w.heap[b]? = some (.cells #[.slice a len cap, .int .i64 i, .int .i64 h] 89 (0, 0))) := hb
  have HK : Hid (CodeAt w base a len) := hcode
  clear hC hb hcode
  by_cases hlt : i < (len : Int)
  · obtain ⟨n, rfl⟩ := Int.eq_ofNat_of_zero_le hi0
    rcases HK.out with h0 | ⟨bc, off, rfl, hbc, hcs⟩
    · omega
    · obtain ⟨y, hy, hy0, hy1⟩ := hcs n (by omega)
      have hne : ¬ bc = b := by omega
      have d : decide ((n : Int) < (len : Int)) = true := by simpa using hlt
      clear hcs
      go_enter Try.func73, Try.ntmps73
      go_wp2
      go_quiet (fail)
      go_wp2
      go_quiet (fail)
      go_wp2
      go_quiet (fail)
      go_wp2
      go_ret
      refine ⟨_, rfl, (and255 _).1, (and255 _).2, cur_next HB.out HK.out hbase (by omega) hlen _ _, ?_⟩
      exact grown_set (grown_drewN (grown_set (grown_refl _ _) _ _) _) _ _
  · have d : decide (i < (len : Int)) = false := by simpa using hlt
    go_enter Try.func73, Try.ntmps73
    go_wp2
    go_quiet (fail)
    go_wp2
    go_quiet (fail)
    go_wp2
    go_ret
    refine ⟨_, rfl, (and255 _).1, (and255 _).2, cur_stay HB.out HK.out hbase hi0 hil hlen _ _ _, ?_⟩
    exact grown_drewN (grown_drewN (grown_set (grown_refl _ _) _ _) _) _

/-- A drawn number: in 0 .. n - 1; 0 where n is not above 0. -/
def InBelow (x n : Int) : Prop := 0 ≤ x ∧ (0 < n → x < n) ∧ (n ≤ 0 → x = 0)

theorem rem_bd (x n : Int) (hn : 0 < n) : InBelow (x % n) n := by
  exact ⟨Int.emod_nonneg _ (by omega), fun _ => Int.emod_lt_of_pos _ hn, fun h => by omega⟩

set_option maxHeartbeats 800000 in
theorem draw_below (base b : Nat) (n : Int) (w : World) (hC : Cur w base b) :
    Calls Try.prog 61 #[.pointer (some ⟨b, 0, none⟩), .int .i64 n] w fun e w' => ∃ x : Int, e = .returned (.int .i64 x) ∧ InBelow x n ∧ Cur w' base b ∧ w.grownBy w' (some b) := by
  have HC : Hid (Cur w base b) := hC
  clear hC
  by_cases h0 : n ≤ 0
  · go_enter Try.func61, Try.ntmps61
    go_wp2_with fail
    go_ret
    exact ⟨0, rfl, ⟨Int.le_refl _, fun h => by omega, fun _ => rfl⟩, HC.out, grown_refl _ _⟩
  · by_cases h1 : n ≤ 256
    · have hn : ¬ n = 0 := by omega
      go_enter Try.func61, Try.ntmps61
      go_wp2_with fail
      refine (draw_byte base b _ HC.out).mono ?_
      rintro e w1 ⟨x, rfl, hx0, hx1, hC1, hg1⟩
      have HC1 : Hid (Cur w1 base b) := hC1
      clear hC1
      go_wp2_with fail
      go_ret
      exact ⟨_, rfl, rem_bd _ n (by omega), HC1.out, hg1⟩
    · have hn : ¬ n = 0 := by omega
      go_enter Try.func61, Try.ntmps61
      go_wp2_with fail
      refine (draw_byte base b _ HC.out).mono ?_
      rintro e w1 ⟨x1, rfl, hx0, hx1, hC1, hg1⟩
      have HC1 : Hid (Cur w1 base b) := hC1
      clear hC1
      go_wp2_with fail
      refine (draw_byte base b _ HC1.out).mono ?_
      rintro e w2 ⟨x2, rfl, hy0, hy1, hC2, hg2⟩
      have HC2 : Hid (Cur w2 base b) := hC2
      clear hC2
      go_wp2_with fail
      refine (draw_byte base b _ HC2.out).mono ?_
      rintro e w3 ⟨x3, rfl, hz0, hz1, hC3, hg3⟩
      have HC3 : Hid (Cur w3 base b) := hC3
      clear hC3
      go_wp2_with fail
      refine (draw_byte base b _ HC3.out).mono ?_
      rintro e w4 ⟨x4, rfl, hu0, hu1, hC4, hg4⟩
      have HC4 : Hid (Cur w4 base b) := hC4
      clear hC4
      go_wp2_with fail
      go_ret
      exact ⟨_, rfl, rem_bd _ n (by omega), HC4.out, grown_trans (grown_trans (grown_trans hg1 hg2) hg3) hg4⟩

set_option maxHeartbeats 800000 in
theorem draw_new (a : Option Addr) (len cap : Nat) (base : Nat) (w : World) (hK : CodeAt w base a len) (hlen : len ≤ 1048576) (hbase : base ≤ w.heap.size) :
    Calls Try.prog 35 #[.slice a len cap] w fun e w' => e = .returned (.pointer (some ⟨w.heap.size, 0, none⟩)) ∧ Cur w' base w.heap.size ∧ (∃ o, w' = w.alloc o) := by
  have HK : Hid (CodeAt w base a len) := hK
  clear hK
  go_enter Try.func35, Try.ntmps35
  go_wp2_with fail
  go_loop [3, 4] (fun h i => ∃ (z : Int) (j : Nat), j ≤ len ∧ i = .int .i64 j ∧ h = .int .i64 z) (fun _ i => len - (intOf i).toNat)
  case atStart => exact ⟨_, 0, Nat.zero_le _, rfl, rfl⟩
  case round =>
    obtain ⟨z, j, hj, rfl, rfl⟩ := hrel
    by_cases hlt : j < len
    · rcases HK.out with h0 | ⟨bc, off, rfl, hbc, hcs⟩
      · omega
      · obtain ⟨y, hy, hy0, hy1⟩ := hcs j hlt
        have d1 : decide ((j : Int) < (len : Int)) = true := by simp; omega
        clear hcs
        by_cases h4 : (j : Int) < 4000
        · go_wp2_with fail
          go_round
          case rel => exact ⟨_, j + 1, by omega, by go_num, rfl⟩
          case measure => simp [intOf]; omega
        · go_wp2_with fail
          go_ret
          exact ⟨rfl, ⟨_, len, cap, 0, _, heap_alloc_new w _, hbase, by omega, by omega, hlen, HK.out.below ((Below.refl _ _).alloc hbase _)⟩, _, rfl⟩
    · have d1 : decide ((j : Int) < (len : Int)) = false := by simp; omega
      go_wp2_with fail
      go_ret
      exact ⟨rfl, ⟨_, len, cap, 0, _, heap_alloc_new w _, hbase, by omega, by omega, hlen, HK.out.below ((Below.refl _ _).alloc hbase _)⟩, _, rfl⟩

theorem big_no (a : Option Addr) (len cap : Nat) (w : World) (h : (len : Int) ≤ 1048576) :
    Calls Try.prog 9 #[.slice a len cap] w fun e w' => e = .returned (.bool false) ∧ w' = w := by
  have d : decide ((1048576 : Int) < (len : Int)) = false := by simp; omega
  go_enter Try.func9, Try.ntmps9
  go_wp2
  go_ret
  exact ⟨rfl, rfl⟩

theorem big_yes (a : Option Addr) (len cap : Nat) (w : World) (h : (1048576 : Int) < len) (_h63 : (len : Int) ≤ 9223372036854775807) :
    Calls Try.prog 9 #[.slice a len cap] w fun e w' => e = .returned (.bool true) ∧ w' = w := by
  have d : decide ((1048576 : Int) < (len : Int)) = true := by simpa using h
  go_enter Try.func9, Try.ntmps9
  go_wp2
  go_ret
  exact ⟨rfl, rfl⟩
end Go.Proofs.Ytcnlcbkgbcnloaa

namespace Go.Proofs.Ytcnlcbkgbcnloaa
namespace OutMath

/-- Two to the power n, behind a name. -/
def p2 (n : Nat) : Int := 2 ^ n
theorem p2_zero : p2 0 = 1 := by simp [p2]
theorem p2_succ (n : Nat) : p2 (n + 1) = 2 * p2 n := by unfold p2; rw [Int.pow_succ]; omega
theorem p2_pos : ∀ n, 1 ≤ p2 n
  | 0 => by simp [p2]
  | n + 1 => by have := p2_pos n; rw [p2_succ]; omega
theorem p2_mono (n : Nat) : ∀ m, p2 n ≤ p2 (n + m)
  | 0 => by simp
  | m + 1 => by have := p2_mono n m; have h := p2_pos (n + m); rw [← Nat.add_assoc, p2_succ]; omega
theorem p2_le {n m : Nat} (h : n ≤ m) : p2 n ≤ p2 m := by
  obtain ⟨k, rfl⟩ := Nat.exists_eq_add_of_le h
  exact p2_mono n k
theorem p2_61 {n : Nat} (h : n ≤ 61) : p2 n ≤ 2305843009213693952 := by
  have h1 := p2_le h
  have h2 : p2 61 = 2305843009213693952 := by decide +kernel
  omega
theorem p2_nat (n : Nat) : p2 n = ((2 ^ n : Nat) : Int) := by unfold p2; simp

/-- The last byte, 0 of an empty text. -/
def last (s : ByteArray) : Nat := (s.data[s.size - 1]?.getD 0).toNat
end OutMath
end Go.Proofs.Ytcnlcbkgbcnloaa
