/-
  Plain facts on the first code of each length; nothing here speaks of the program.
  The question which kind of piece a value is.
  What the walks over lengths and distances share. Nothing here speaks of the program.
  The symbols of lengths and distances as the program tells them: by the number's own bits. Nothing here speaks of the program.
  The walks of the program's symbols of numbers: how many bits a number has, the symbol and its extra bits.
  What the program is to answer of a length.
  The walk of the program's symbols of lengths.
  What the program is to answer of a distance.
  The walk of the program's symbols of distances.
-/
import Derived.Test.YtbcnlggkoidmmaaGreatDoorPk01
import Derived.Test.YtbcnlggkoidmmaaGreatDoorPk02
import Derived.Test.YtbcnlggkoidmmaaGreatDoorPk08
import Derived.Test.YtbcnlggkoidmmaaGreatDoorRows
import Derived.WalkKit
import Derived.ProofKit
import Derived.WalkLawsBesides
import Derived.Lib.BitFns
import Derived.RegionTactic
import Derived.Lib.SmallJoins
import Derived.Lib.Strings
import Derived.Lib.Slices
import Derived.Lib.Small
import Derived.Lib.Walk
import Derived.Below
import Derived.Deep.QuietTactic
import Derived.BigQuiet
namespace Go.Proofs.YtbcnlggkoidmmaaGreatDoor
namespace CodeMath
open OutMath

/-- The first code of length s, by the counts g. -/
def first (g : Nat → Int) : Nat → Int
  | 0 => 0
  | 1 => 0
  | s + 2 => 2 * (first g (s + 1) + g (s + 1))
theorem first_nx (f : Nat → Int) (n : Nat) : ∀ s, 1 ≤ s → first (cs f n) s = 2 * nx f n (s - 1)
  | 0, h => by omega
  | 1, _ => rfl
  | s + 2, _ => by
    show 2 * (first (cs f n) (s + 1) + cs f n (s + 1)) = 2 * nx f n (s + 1)
    rw [first_nx f n (s + 1) (by omega)]
    show 2 * (2 * nx f n s + cs f n (s + 1)) = 2 * (2 * nx f n s + cntS f ((s + 1 : Nat) : Int) n)
    unfold cs
    rw [if_neg (by omega)]
theorem first_step (g : Nat → Int) (t : Nat) (h : 2 ≤ t) : first g t = 2 * (first g (t - 1) + g (t - 1)) := by
  obtain ⟨s, rfl⟩ : ∃ s, t = s + 2 := ⟨t - 2, by omega⟩
  rfl
theorem first_bd (g : Nat → Int) (hg : ∀ s, 0 ≤ g s ∧ g s ≤ 288) : ∀ s, 0 ≤ first g s ∧ first g s + 576 ≤ 576 * p2 s
  | 0 => by rw [p2_zero]; exact ⟨Int.le_refl _, by show (0 : Int) + 576 ≤ _; omega⟩
  | 1 => by
    have e : p2 1 = 2 := by decide +kernel
    rw [e]
    exact ⟨Int.le_refl _, by show (0 : Int) + 576 ≤ _; omega⟩
  | s + 2 => by
    have ih := first_bd g hg (s + 1)
    have h := hg (s + 1)
    show 0 ≤ 2 * (first g (s + 1) + g (s + 1)) ∧ 2 * (first g (s + 1) + g (s + 1)) + 576 ≤ _
    rw [p2_succ]
    omega
theorem first_lt (g : Nat → Int) (hg : ∀ s, 0 ≤ g s ∧ g s ≤ 288) (s : Nat) (hs : s ≤ 15) : 0 ≤ first g s ∧ first g s ≤ 18874368 := by
  have h := first_bd g hg s
  have h2 := p2_le hs
  have e : p2 15 = 32768 := by decide +kernel
  omega
/-- The first codes of the lengths below t. -/
def firstTo (g : Nat → Int) (t : Nat) : Nat → Int := fun s => if s < t then first g s else 0
theorem firstTo_start (g : Nat → Int) (s : Nat) : firstTo g 2 s = 0 := by
  unfold firstTo
  split
  · rename_i h
    rcases (show s = 0 ∨ s = 1 by omega) with rfl | rfl <;> rfl
  · rfl
/-- The next code of each length when the first i symbols have theirs. -/
def nextAt (f : Nat → Int) (n i : Nat) : Nat → Int := fun s => if s = 0 then 0 else 2 * nx f n (s - 1) + cntS f s i
theorem nextAt_start (f : Nat → Int) (n s : Nat) : first (cs f n) s = nextAt f n 0 s := by
  unfold nextAt
  by_cases h : s = 0
  · subst h; rfl
  · rw [if_neg h, first_nx f n s (by omega)]
    show _ = _ + 0
    omega
theorem nextAt_bd (f : Nat → Int) (n : Nat) (hn : n ≤ 288) (i : Nat) (hi : i ≤ n) (s : Nat) (hs : s ≤ 15) : 0 ≤ nextAt f n i s ∧ nextAt f n i s ≤ 20000000 := by
  unfold nextAt
  split
  · omega
  · have h := nx_lt f n hn (s - 1) (by omega)
    have c := cntS_bd f s i
    omega
theorem nextAt_code (f : Nat → Int) (n i s : Nat) (hs : 1 ≤ s) (e : f i = (s : Int)) : nextAt f n i s = codeOf f n i := by
  unfold nextAt codeOf
  rw [if_neg (by omega), if_neg (by omega), e, Int.toNat_natCast]
/-- What is written when the first i symbols have their codes. -/
def wrote (f : Nat → Int) (n i : Nat) : Nat → Int := fun j => if j < i then codeOf f n j else 0

end CodeMath
end Go.Proofs.YtbcnlggkoidmmaaGreatDoor

namespace Go.Proofs.YtbcnlggkoidmmaaGreatDoor
open Go.RowKit Go.Joins

theorem as_literal (v : Value) (w : World) : (Instr.typeAssert (.iface 172 v) 170 172 true).run Tryz.prog w = .ok (.tuple #[v, .bool true]) w := by
  simp [Instr.typeAssert, run_underlying Tryz.underlying172]
theorem no_literal (v : Value) (w : World) : (Instr.typeAssert (.iface 174 v) 170 172 true).run Tryz.prog w = .ok (.tuple #[.int .u8 0, .bool false]) w := by
  simp [Instr.typeAssert, run_underlying Tryz.underlying172]
theorem as_repeat (v : Value) (w : World) : (Instr.typeAssert (.iface 174 v) 170 174 true).run Tryz.prog w = .ok (.tuple #[v, .bool true]) w := by
  simp [Instr.typeAssert, run_underlying Tryz.underlying174]
theorem nil_literal (w : World) : (Instr.typeAssert .nilIface 170 172 true).run Tryz.prog w = .ok (.tuple #[.int .u8 0, .bool false]) w := by
  simp [Instr.typeAssert, run_underlying Tryz.underlying172]
theorem nil_repeat (w : World) : (Instr.typeAssert .nilIface 170 174 true).run Tryz.prog w = .ok (.tuple #[.agg #[.int .i64 0, .int .i64 0], .bool false]) w := by
  simp [Instr.typeAssert, run_underlying Tryz.underlying174]
end Go.Proofs.YtbcnlggkoidmmaaGreatDoor

namespace Go.Proofs.YtbcnlggkoidmmaaGreatDoor
open Go.RowKit OutMath StepMath

theorem p2_pow (m : Nat) : p2 m = ((2 ^ m : Nat) : Int) := (pow_cast m).symm
theorem from_next (c k j : Nat) : ((fromN c k (j + 1) : Nat) : Int) = ((fromN c k j : Nat) : Int) + p2 (bitsN k j) := by
  rw [p2_pow, ← Int.natCast_add]
  rfl
theorem ret_ii {k : IntKind} {a b c d : Int} (h : a = b) (h' : c = d) : Ending.returned (.tuple #[.int k a, .int k c]) = .returned (.tuple #[.int k b, .int k d]) := by rw [h, h']
theorem ret_iii {k : IntKind} {a b c d x y : Int} (h : a = b) (h' : c = d) (h2 : x = y) : Ending.returned (.tuple #[.int k a, .int k c, .int k x]) = .returned (.tuple #[.int k b, .int k d, .int k y]) := by rw [h, h', h2]
end Go.Proofs.YtbcnlggkoidmmaaGreatDoor

namespace Go.Proofs.YtbcnlggkoidmmaaGreatDoor
open Go.Proofs StepMath

theorem bit_len_of {n c : Nat} (h1 : 2 ^ (c + 1) ≤ n) (h2 : n < 2 ^ (c + 2)) (h : n < 18446744073709551616) : Lib.bitLen n = c + 2 := by
  rw [Lib.bitLen_shift (c + 1) n h1 h]
  have hp := Nat.two_pow_pos (c + 1)
  have e : n / 2 ^ (c + 1) = 1 := by
    rw [Nat.pow_succ 2 (c + 1)] at h2
    exact Nat.div_eq_of_lt_le (by omega) (by omega)
  rw [e]
  rfl
theorem len_sym : ∀ n, n < 255 → lenCode (n + 3) = (257 + ((Lib.bitLen n - 3) * 4 + n / 2 ^ (Lib.bitLen n - 3)), Lib.bitLen n - 3, n % 2 ^ (Lib.bitLen n - 3)) ∧ Lib.bitLen n ≤ 8 := by decide +kernel
theorem dist_first : ∀ n, n < 4 → distCode (n + 1) = ((Lib.bitLen n - 2) * 2 + n / 2 ^ (Lib.bitLen n - 2), Lib.bitLen n - 2, n % 2 ^ (Lib.bitLen n - 2)) ∧ Lib.bitLen n ≤ 15 := by decide +kernel
theorem dist_from : ∀ c, c < 14 → fromN 1 2 (c * 2 + 2) = 1 + 2 * 2 ^ c ∧ fromN 1 2 (c * 2 + 3) = 1 + 3 * 2 ^ c ∧ fromN 1 2 (c * 2 + 4) = 1 + 4 * 2 ^ c ∧ bitsN 2 (c * 2 + 2) = c ∧ bitsN 2 (c * 2 + 3) = c := by decide +kernel
theorem dist_more {n c : Nat} (hc : c < 14) (h1 : 2 ^ (c + 1) ≤ n) (h2 : n < 2 ^ (c + 2)) : distCode (n + 1) = (c * 2 + n / 2 ^ c, c, n % 2 ^ c) := by
  obtain ⟨f2, f3, f4, b2, b3⟩ := dist_from c hc
  have e1 : 2 ^ (c + 1) = 2 * 2 ^ c := by rw [Nat.pow_succ, Nat.mul_comm]
  have e2 : 2 ^ (c + 2) = 4 * 2 ^ c := by rw [Nat.pow_succ, Nat.pow_succ]; omega
  rw [e1] at h1
  rw [e2] at h2
  have hp := Nat.two_pow_pos c
  have hm := Nat.div_add_mod n (2 ^ c)
  have hl := Nat.mod_lt n hp
  generalize 2 ^ c = p at *
  unfold distCode
  rcases Nat.lt_or_ge n (3 * p) with h | h
  · have hq : n / p = 2 := Nat.div_eq_of_lt_le (by omega) (by omega)
    rw [hq] at hm ⊢
    rw [find_told (j := c * 2 + 2) (by omega) (by show n + 1 < fromN 1 2 (c * 2 + 3); omega) (by omega) (by omega), b2, f2]
    congr 2
    omega
  · have hq : n / p = 3 := Nat.div_eq_of_lt_le (by omega) (by omega)
    rw [hq] at hm ⊢
    rw [find_told (j := c * 2 + 3) (by omega) (by show n + 1 < fromN 1 2 (c * 2 + 4); omega) (by omega) (by omega), b3, f3]
    congr 2
    omega
theorem dist_sym {n : Nat} (h : n < 32768) : distCode (n + 1) = ((Lib.bitLen n - 2) * 2 + n / 2 ^ (Lib.bitLen n - 2), Lib.bitLen n - 2, n % 2 ^ (Lib.bitLen n - 2)) ∧ Lib.bitLen n ≤ 15 := by
  rcases Nat.lt_or_ge n 4 with h4 | h4
  · exact dist_first n h4
  · have key : ∃ c, c < 14 ∧ 2 ^ (c + 1) ≤ n ∧ n < 2 ^ (c + 2) := by
      have : ∀ k, k < 14 → n < 2 ^ (k + 2) → ∃ c, c < 14 ∧ 2 ^ (c + 1) ≤ n ∧ n < 2 ^ (c + 2) := by
        intro k
        induction k with
        | zero => intro _ h; exact absurd h (by omega)
        | succ k ih =>
          intro hk hn
          rcases Nat.lt_or_ge n (2 ^ (k + 2)) with q | q
          · exact ih (by omega) q
          · exact ⟨k + 1, hk, q, hn⟩
      exact this 13 (by omega) h
    obtain ⟨c, hc, h1, h2⟩ := key
    have e := bit_len_of h1 h2 (by omega)
    have ec : Lib.bitLen n - 2 = c := by omega
    rw [ec]
    exact ⟨dist_more hc h1 h2, by omega⟩
end Go.Proofs.YtbcnlggkoidmmaaGreatDoor

namespace Go.Proofs.YtbcnlggkoidmmaaGreatDoor
open Go.RowKit Go.Joins OutMath StepMath

theorem tab_size : Lib.len8tab.size = 256 := by decide +kernel
theorem tab_at : ∀ n : Fin Lib.len8tab.size, (Lib.len8tab[n.val]'n.isLt).toNat = Lib.bitLen n.val ∧ Lib.bitLen n.val ≤ 8 := by decide +kernel
set_option maxHeartbeats 4000000 in
set_option maxRecDepth 100000 in
theorem len64_any (x : Int) (w : World) (h0 : 0 ≤ x) (h1 : x ≤ 65535) :
    Calls Tryz.prog 173 #[.int .u64 x] w fun e w' => e = .returned (.int .i64 ((Lib.bitLen x.toNat : Nat) : Int)) ∧ w' = w := by
  have d0 : decide ((4294967296 : Int) ≤ x) = false := decide_eq_false (by omega)
  have d1 : decide ((65536 : Int) ≤ x) = false := decide_eq_false (by omega)
  have hz : (Lib.len8tab.size : Int) = 256 := by rw [tab_size]; rfl
  by_cases h8 : x < 256
  · have d2 : decide ((256 : Int) ≤ x) = false := decide_eq_false (by omega)
    go_enter Tryz.func173, Tryz.ntmps173
    go_wp2
    · go_ret
      refine ⟨ret_i ?_, rfl⟩
      have e := tab_at ⟨x.toNat, by rw [tab_size]; omega⟩
      simp only at e
      rw [e.1]
      have e2 := e.2
      clear e
      unfold wrap64
      omega
    all_goals omega
  · have d2 : decide ((256 : Int) ≤ x) = true := decide_eq_true (by omega)
    go_enter Tryz.func173, Tryz.ntmps173
    go_wp2
    · go_ret
      refine ⟨ret_i ?_, rfl⟩
      have e := tab_at ⟨(x / 256).toNat, by rw [tab_size]; omega⟩
      simp only at e
      rw [e.1, Lib.bitLen_shift8 x.toNat (by omega) (by omega), show x.toNat / 256 = (x / 256).toNat by omega]
      have e2 := e.2
      clear e
      unfold wrap64
      omega
    all_goals omega
theorem len_any (x : Int) (w : World) (h0 : 0 ≤ x) (h1 : x ≤ 65535) :
    Calls Tryz.prog 162 #[.int .u64 x] w fun e w' => e = .returned (.int .i64 ((Lib.bitLen x.toNat : Nat) : Int)) ∧ w' = w := by
  go_enter Tryz.func162, Tryz.ntmps162
  go_wp2_with fail
  refine (len64_any x _ h0 h1).mono ?_
  rintro e w' ⟨rfl, rfl⟩
  go_wp2_with fail
  go_ret
  exact ⟨rfl, rfl⟩

theorem symc_first (c p n : Nat) (hp : p ≤ 2) (hc : c ≤ 14) (h : n < 32768) : wrap64 (wrap64 ((c : Int) * 2 ^ p) + (n : Int) / 2 ^ c) = ((c * 2 ^ p + n / 2 ^ c : Nat) : Int) := by
  have e1 : (c : Int) * 2 ^ p = ((c * 2 ^ p : Nat) : Int) := by rw [Int.natCast_mul, pow_cast]
  have e2 : (n : Int) / 2 ^ c = ((n / 2 ^ c : Nat) : Int) := by rw [Int.natCast_ediv, pow_cast]
  have h1 : 2 ^ p ≤ 4 := Nat.pow_le_pow_right (n := 2) (by omega) hp
  have h2 : c * 2 ^ p ≤ 14 * 4 := Nat.mul_le_mul hc h1
  have h3 := Nat.div_le_self n (2 ^ c)
  rw [e1, e2]
  generalize c * 2 ^ p = q at *
  generalize n / 2 ^ c = r at *
  unfold wrap64
  omega
theorem symc_pow (c : Nat) (hc : c ≤ 14) : 1 ≤ 2 ^ c ∧ 2 ^ c ≤ 16384 := ⟨Nat.one_le_two_pow, Nat.pow_le_pow_right (n := 2) (j := 14) (by omega) hc⟩
theorem sym_extra (c n : Nat) (hc : c ≤ 14) (h : n < 32768) : bits .and .i64 (n : Int) (wrap64 (wrap64 (2 ^ c) - 1)) = ((n % 2 ^ c : Nat) : Int) := by
  obtain ⟨h1, h2⟩ := symc_pow c hc
  have e1 : wrap64 (wrap64 ((2 : Int) ^ c) - 1) = ((2 ^ c - 1 : Nat) : Int) := by
    rw [← pow_cast]
    generalize 2 ^ c = q at *
    unfold wrap64
    omega
  rw [e1, PutMath.i64_and_nat _ _ (by omega) (by omega), Nat.and_two_pow_sub_one_eq_mod]
set_option maxHeartbeats 800000 in
theorem symbolOf_any (p n : Nat) (w : World) (hp : p ≤ 2) (h : n < 32768) (hB : Lib.bitLen n ≤ 15) :
    Calls Tryz.prog 138 #[.int .i64 (n : Int), .int .i64 (p : Int)] w fun e w' => e = .returned (.tuple #[.int .i64 (((Lib.bitLen n - (p + 1)) * 2 ^ p + n / 2 ^ (Lib.bitLen n - (p + 1)) : Nat) : Int), .int .i64 ((Lib.bitLen n - (p + 1) : Nat) : Int), .int .i64 ((n % 2 ^ (Lib.bitLen n - (p + 1)) : Nat) : Int)]) ∧ Below w.heap.size w w' := by
  obtain ⟨c, hc⟩ : ∃ c, c = Lib.bitLen n - (p + 1) := ⟨_, rfl⟩
  rw [← hc]
  have hc15 : c ≤ 14 := by omega
  go_enter Tryz.func138, Tryz.ntmps138
  go_wp2_with fail
  refine (len_any (n : Int) _ (by omega) (by omega)).mono ?_
  rintro e w' ⟨rfl, rfl⟩
  rw [Int.toNat_natCast]
  have hm : max 0 ((Lib.bitLen n : Int) - (p : Int) - 1) = (c : Int) := by omega
  clear hc
  go_wp2_with fail
  go_region
  go_wp2_with fail
  go_ret3
  exact ⟨ret_iii (symc_first c p n hp hc15 h) rfl (sym_extra c n hc15 h), (Below.refl _ _).drew⟩

end Go.Proofs.YtbcnlggkoidmmaaGreatDoor

namespace Go.Proofs.YtbcnlggkoidmmaaGreatDoor
open Go.RowKit StepMath

def LengthCodeAnswer : Prop := ∀ (n : Int) (w : World), (Lit.int .i64 n).wf = true → Calls Tryz.prog 104 #[.int .i64 n] w fun e w' => e = .returned (.tuple #[.int .i64 (LengthCodeOf n).1, .int .i64 (LengthCodeOf n).2.1, .int .i64 (LengthCodeOf n).2.2]) ∧ Below w.heap.size w w'

end Go.Proofs.YtbcnlggkoidmmaaGreatDoor

namespace Go.Proofs.YtbcnlggkoidmmaaGreatDoor
open Go.RowKit Go.Joins OutMath StepMath

theorem isLength_any (x : Int) (w : World) :
    Calls Tryz.prog 136 #[.int .i64 x] w fun e w' => e = .returned (.bool (decide (3 ≤ x ∧ x ≤ 258))) ∧ w' = w := by
  by_cases h : 3 ≤ x
  · have d : decide ((3 : Int) ≤ x) = true := decide_eq_true h
    have d2 : decide ((3 : Int) ≤ x ∧ x ≤ 258) = decide (x ≤ 258) := by simp [h]
    rw [d2]
    clear d2
    go_enter Tryz.func136, Tryz.ntmps136
    go_wp2_with fail
    go_ret
    exact ⟨rfl, rfl⟩
  · have d : decide ((3 : Int) ≤ x) = false := decide_eq_false h
    have d2 : decide ((3 : Int) ≤ x ∧ x ≤ 258) = false := decide_eq_false (fun q => h q.1)
    rw [d2]
    clear d2
    go_enter Tryz.func136, Tryz.ntmps136
    go_wp2_with fail
    go_ret
    exact ⟨rfl, rfl⟩
theorem isLength_yes (x : Int) (w : World) (h : 3 ≤ x ∧ x ≤ 258) :
    Calls Tryz.prog 136 #[.int .i64 x] w fun e w' => e = .returned (.bool true) ∧ w' = w := by
  have := isLength_any x w
  rwa [decide_eq_true h] at this
theorem isLength_no (x : Int) (w : World) (h : ¬ (3 ≤ x ∧ x ≤ 258)) :
    Calls Tryz.prog 136 #[.int .i64 x] w fun e w' => e = .returned (.bool false) ∧ w' = w := by
  have := isLength_any x w
  rwa [decide_eq_false h] at this

set_option maxHeartbeats 800000 in
theorem lengthCode_answer : LengthCodeAnswer := by
  intro n w _
  by_cases h : 3 ≤ n ∧ n ≤ 258
  · obtain ⟨h3, h258⟩ := h
    obtain ⟨m, rfl⟩ : ∃ m : Nat, n = (m : Int) + 3 := ⟨(n - 3).toNat, by omega⟩
    unfold LengthCodeOf
    rw [if_pos ⟨h3, h258⟩, show ((m : Int) + 3).toNat = m + 3 by omega]
    by_cases he : m = 255
    · subst he
      go_enter Tryz.func104, Tryz.ntmps104
      go_wp2_with fail
      refine (isLength_yes _ _ (by omega)).mono ?_
      rintro e w' ⟨rfl, rfl⟩
      go_wp2_with fail
      go_ret3
      exact ⟨rfl, Below.refl _ _⟩
    · have hl := len_sym m (by omega)
      have hs := fun w => symbolOf_any 2 m w (by omega) (by omega) (by omega)
      rw [hl.1]
      have hB := hl.2
      clear hl
      obtain ⟨c, hc⟩ : ∃ c, c = Lib.bitLen m - 3 := ⟨_, rfl⟩
      simp only [show 2 + 1 = 3 from rfl, ← hc] at hs
      rw [← hc]
      have hq := Nat.div_le_self m (2 ^ c)
      have hcl : c ≤ 5 := by omega
      have d : ((m : Int) + 3 == 258) = false := by simp; omega
      have hq2 : (((c * 2 ^ 2 + m / 2 ^ c : Nat) : Int) = ((c * 4 + m / 2 ^ c : Nat) : Int)) := rfl
      rw [hq2] at hs
      clear hc hB hq2
      generalize m / 2 ^ c = q at *
      generalize m % 2 ^ c = r at *
      obtain ⟨s, hsm⟩ : ∃ s, s = c * 4 + q := ⟨_, rfl⟩
      rw [← hsm] at hs ⊢
      have hsl : s ≤ 300 := by omega
      clear hsm
      go_enter Tryz.func104, Tryz.ntmps104
      go_wp2_with fail
      refine (isLength_yes _ _ (by omega)).mono ?_
      rintro e w' ⟨rfl, rfl⟩
      go_wp2_with fail
      refine (hs _).mono ?_
      rintro e w1 ⟨rfl, hB1⟩
      have HB := hid_of hB1
      clear hB1 hs
      go_wp2_with fail
      go_ret3
      exact ⟨ret_iii (by omega) rfl rfl, HB.out⟩
  · unfold LengthCodeOf
    rw [if_neg h]
    go_enter Tryz.func104, Tryz.ntmps104
    go_wp2_with fail
    refine (isLength_no _ _ h).mono ?_
    rintro e w' ⟨rfl, rfl⟩
    go_wp2_with fail
    go_ret3
    exact ⟨rfl, Below.refl _ _⟩

end Go.Proofs.YtbcnlggkoidmmaaGreatDoor

namespace Go.Proofs.YtbcnlggkoidmmaaGreatDoor
open Go.RowKit StepMath

def DistCodeAnswer : Prop := ∀ (n : Int) (w : World), (Lit.int .i64 n).wf = true → Calls Tryz.prog 105 #[.int .i64 n] w fun e w' => e = .returned (.tuple #[.int .i64 (DistCodeOf n).1, .int .i64 (DistCodeOf n).2.1, .int .i64 (DistCodeOf n).2.2]) ∧ Below w.heap.size w w'

end Go.Proofs.YtbcnlggkoidmmaaGreatDoor

namespace Go.Proofs.YtbcnlggkoidmmaaGreatDoor
open Go.RowKit Go.Joins OutMath StepMath

theorem isDist_any (x : Int) (w : World) :
    Calls Tryz.prog 137 #[.int .i64 x] w fun e w' => e = .returned (.bool (decide (1 ≤ x ∧ x ≤ 32768))) ∧ w' = w := by
  by_cases h : 1 ≤ x
  · have d : decide ((1 : Int) ≤ x) = true := decide_eq_true h
    have d2 : decide ((1 : Int) ≤ x ∧ x ≤ 32768) = decide (x ≤ 32768) := by simp [h]
    rw [d2]
    clear d2
    go_enter Tryz.func137, Tryz.ntmps137
    go_wp2_with fail
    go_ret
    exact ⟨rfl, rfl⟩
  · have d : decide ((1 : Int) ≤ x) = false := decide_eq_false h
    have d2 : decide ((1 : Int) ≤ x ∧ x ≤ 32768) = false := decide_eq_false (fun q => h q.1)
    rw [d2]
    clear d2
    go_enter Tryz.func137, Tryz.ntmps137
    go_wp2_with fail
    go_ret
    exact ⟨rfl, rfl⟩
theorem isDist_yes (x : Int) (w : World) (h : 1 ≤ x ∧ x ≤ 32768) :
    Calls Tryz.prog 137 #[.int .i64 x] w fun e w' => e = .returned (.bool true) ∧ w' = w := by
  have := isDist_any x w
  rwa [decide_eq_true h] at this
theorem isDist_no (x : Int) (w : World) (h : ¬ (1 ≤ x ∧ x ≤ 32768)) :
    Calls Tryz.prog 137 #[.int .i64 x] w fun e w' => e = .returned (.bool false) ∧ w' = w := by
  have := isDist_any x w
  rwa [decide_eq_false h] at this
set_option maxHeartbeats 800000 in
theorem distCode_answer : DistCodeAnswer := by
  intro n w _
  by_cases h : 1 ≤ n ∧ n ≤ 32768
  · obtain ⟨h3, h258⟩ := h
    obtain ⟨m, rfl⟩ : ∃ m : Nat, n = (m : Int) + 1 := ⟨(n - 1).toNat, by omega⟩
    unfold DistCodeOf
    rw [if_pos ⟨h3, h258⟩, show ((m : Int) + 1).toNat = m + 1 by omega]
    have hl := dist_sym (n := m) (by omega)
    have hs := fun w => symbolOf_any 1 m w (by omega) (by omega) hl.2
    rw [hl.1]
    have hB := hl.2
    clear hl
    obtain ⟨c, hc⟩ : ∃ c, c = Lib.bitLen m - 2 := ⟨_, rfl⟩
    simp only [show 1 + 1 = 2 from rfl, ← hc] at hs
    rw [← hc]
    have hq2 : (((c * 2 ^ 1 + m / 2 ^ c : Nat) : Int) = ((c * 2 + m / 2 ^ c : Nat) : Int)) := rfl
    rw [hq2] at hs
    clear hc hB hq2
    generalize c * 2 + m / 2 ^ c = q at *
    generalize m % 2 ^ c = r at *
    go_enter Tryz.func105, Tryz.ntmps105
    go_wp2_with fail
    refine (isDist_yes _ _ (by omega)).mono ?_
    rintro e w' ⟨rfl, rfl⟩
    go_wp2_with fail
    refine (hs _).mono ?_
    rintro e w1 ⟨rfl, hB1⟩
    have HB := hid_of hB1
    clear hB1 hs
    go_wp2_with fail
    go_ret3
    exact ⟨rfl, HB.out⟩
  · unfold DistCodeOf
    rw [if_neg h]
    go_enter Tryz.func105, Tryz.ntmps105
    go_wp2_with fail
    refine (isDist_no _ _ h).mono ?_
    rintro e w' ⟨rfl, rfl⟩
    go_wp2_with fail
    go_ret3
    exact ⟨rfl, Below.refl _ _⟩

end Go.Proofs.YtbcnlggkoidmmaaGreatDoor
