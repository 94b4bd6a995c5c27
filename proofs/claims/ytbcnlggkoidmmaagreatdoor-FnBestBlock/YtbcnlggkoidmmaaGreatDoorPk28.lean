/-
  The symbols of lengths and distances as the program tells them: by the number's own bits. Nothing here speaks of the program.
  The walks of the program's symbols of numbers: how many bits a number has, the symbol and its extra bits.
  What the program is to answer of a length.
  The walk of the program's symbols of lengths.
  What the program is to answer of a distance.
  The walk of the program's symbols of distances.
  The walks of what a token stands for, and of the program's TokenOk.
  The question which kind of piece a value is.
  What the program's tellSymbols hands on: a symbol with its extra bits; what stays where nothing is told.
  Plain facts on the counts of lengths, and on what they are full to; nothing here speaks of the program.
-/
import Derived.Test.YtbcnlggkoidmmaaGreatDoorPk05
import Derived.Test.YtbcnlggkoidmmaaGreatDoorRows
import Derived.Test.YtbcnlggkoidmmaaGreatDoorPk01
import Derived.Test.YtbcnlggkoidmmaaGreatDoorPk04
import Derived.Test.YtbcnlggkoidmmaaGreatDoorPk19
import Derived.Test.YtbcnlggkoidmmaaGreatDoorPk07
import Derived.Test.YtbcnlggkoidmmaaGreatDoorPk11
import Derived.Test.YtbcnlggkoidmmaaGreatDoorPk02
import Derived.Lib.BitFns
import Derived.WalkKit
import Derived.ProofKit
import Derived.WalkLawsBesides
import Derived.RegionTactic
import Derived.Lib.SmallJoins
import Derived.Lib.Strings
import Derived.Lib.Slices
import Derived.Lib.Small
import Derived.Lib.Walk
import Derived.Below
import Derived.Deep.QuietTactic
import Derived.BigQuiet
import Derived.Deep.LoopGhost
namespace Go.Proofs.YtbcnlggkoidmmaaGreatDoor
open Go.Proofs StepMath

theorem bit_len_of {n c : Nat} (h1 : 2 ^ (c + 1) ≤ n) (h2 : n < 2 ^ (c + 2)) (h : n < 18446744073709551616) : Lib.bitLen n = c + 2 := by
  rw [Lib.bitLen_shift (c + 1) n h1 h]
  have hp := Nat.two_pow_pos (c + 1)
  have e : n / 2 ^ (c + 1) = 1 := by
    rw [Nat.pow_succ 2 (c + 1)] at h2
    exact Nat.div_eq_of_lt_le (by omega) (by omega)
  rw [e]
  rfl
theorem len_sym : ∀ n, n < 255 → lenCode (n + 3) = (257 + ((Lib.bitLen n - 3) * 4 + n / 2 ^ (Lib.bitLen n - 3)), Lib.bitLen n - 3, n % 2 ^ (Lib.bitLen n - 3)) ∧ Lib.bitLen n ≤ 8 := by decide +kernel
theorem dist_first : ∀ n, n < 4 → distCode (n + 1) = ((Lib.bitLen n - 2) * 2 + n / 2 ^ (Lib.bitLen n - 2), Lib.bitLen n - 2, n % 2 ^ (Lib.bitLen n - 2)) ∧ Lib.bitLen n ≤ 15 := by decide +kernel
theorem dist_from : ∀ c, c < 14 → fromN 1 2 (c * 2 + 2) = 1 + 2 * 2 ^ c ∧ fromN 1 2 (c * 2 + 3) = 1 + 3 * 2 ^ c ∧ fromN 1 2 (c * 2 + 4) = 1 + 4 * 2 ^ c ∧ bitsN 2 (c * 2 + 2) = c ∧ bitsN 2 (c * 2 + 3) = c := by decide +kernel
theorem dist_more {n c : Nat} (hc : c < 14) (h1 : 2 ^ (c + 1) ≤ n) (h2 : n < 2 ^ (c + 2)) : distCode (n + 1) = (c * 2 + n / 2 ^ c, c, n % 2 ^ c) := by
  obtain ⟨f2, f3, f4, b2, b3⟩ := dist_from c hc
  have e1 : 2 ^ (c + 1) = 2 * 2 ^ c := by rw [Nat.pow_succ, Nat.mul_comm]
  have e2 : 2 ^ (c + 2) = 4 * 2 ^ c := by rw [Nat.pow_succ, Nat.pow_succ]; omega
  rw [e1] at h1
  rw [e2] at h2
  have hp := Nat.two_pow_pos c
  have hm := Nat.div_add_mod n (2 ^ c)
  have hl := Nat.mod_lt n hp
  generalize 2 ^ c = p at *
  unfold distCode
  rcases Nat.lt_or_ge n (3 * p) with h | h
  · have hq : n / p = 2 := Nat.div_eq_of_lt_le (by omega) (by omega)
    rw [hq] at hm ⊢
    rw [find_told (j := c * 2 + 2) (by omega) (by show n + 1 < fromN 1 2 (c * 2 + 3); omega) (by omega) (by omega), b2, f2]
    congr 2
    omega
  · have hq : n / p = 3 := Nat.div_eq_of_lt_le (by omega) (by omega)
    rw [hq] at hm ⊢
    rw [find_told (j := c * 2 + 3) (by omega) (by show n + 1 < fromN 1 2 (c * 2 + 4); omega) (by omega) (by omega), b3, f3]
    congr 2
    omega
theorem dist_sym {n : Nat} (h : n < 32768) : distCode (n + 1) = ((Lib.bitLen n - 2) * 2 + n / 2 ^ (Lib.bitLen n - 2), Lib.bitLen n - 2, n % 2 ^ (Lib.bitLen n - 2)) ∧ Lib.bitLen n ≤ 15 := by
  rcases Nat.lt_or_ge n 4 with h4 | h4
  · exact dist_first n h4
  · have key : ∃ c, c < 14 ∧ 2 ^ (c + 1) ≤ n ∧ n < 2 ^ (c + 2) := by
      have : ∀ k, k < 14 → n < 2 ^ (k + 2) → ∃ c, c < 14 ∧ 2 ^ (c + 1) ≤ n ∧ n < 2 ^ (c + 2) := by
        intro k
        induction k with
        | zero => intro _ h; exact absurd h (by omega)
        | succ k ih =>
          intro hk hn
          rcases Nat.lt_or_ge n (2 ^ (k + 2)) with q | q
          · exact ih (by omega) q
          · exact ⟨k + 1, hk, q, hn⟩
      exact this 13 (by omega) h
    obtain ⟨c, hc, h1, h2⟩ := key
    have e := bit_len_of h1 h2 (by omega)
    have ec : Lib.bitLen n - 2 = c := by omega
    rw [ec]
    exact ⟨dist_more hc h1 h2, by omega⟩
end Go.Proofs.YtbcnlggkoidmmaaGreatDoor

namespace Go.Proofs.YtbcnlggkoidmmaaGreatDoor
open Go.RowKit Go.Joins OutMath StepMath

theorem tab_size : Lib.len8tab.size = 256 := by decide +kernel
theorem tab_at : ∀ n : Fin Lib.len8tab.size, (Lib.len8tab[n.val]'n.isLt).toNat = Lib.bitLen n.val ∧ Lib.bitLen n.val ≤ 8 := by decide +kernel
set_option maxHeartbeats 4000000 in
set_option maxRecDepth 100000 in
theorem len64_any (x : Int) (w : World) (h0 : 0 ≤ x) (h1 : x ≤ 65535) :
    Calls Tryz.prog 173 #[.int .u64 x] w fun e w' => e = .returned (.int .i64 ((Lib.bitLen x.toNat : Nat) : Int)) ∧ w' = w := by
  have d0 : decide ((4294967296 : Int) ≤ x) = false := decide_eq_false (by omega)
  have d1 : decide ((65536 : Int) ≤ x) = false := decide_eq_false (by omega)
  have hz : (Lib.len8tab.size : Int) = 256 := by rw [tab_size]; rfl
  by_cases h8 : x < 256
  · have d2 : decide ((256 : Int) ≤ x) = false := decide_eq_false (by omega)
    go_enter Tryz.func173, Tryz.ntmps173
    go_wp2
    · go_ret
      refine ⟨ret_i ?_, rfl⟩
      have e := tab_at ⟨x.toNat, by rw [tab_size]; omega⟩
      simp only at e
      rw [e.1]
      have e2 := e.2
      clear e
      unfold wrap64
      omega
    all_goals omega
  · have d2 : decide ((256 : Int) ≤ x) = true := decide_eq_true (by omega)
    go_enter Tryz.func173, Tryz.ntmps173
    go_wp2
    · go_ret
      refine ⟨ret_i ?_, rfl⟩
      have e := tab_at ⟨(x / 256).toNat, by rw [tab_size]; omega⟩
      simp only at e
      rw [e.1, Lib.bitLen_shift8 x.toNat (by omega) (by omega), show x.toNat / 256 = (x / 256).toNat by omega]
      have e2 := e.2
      clear e
      unfold wrap64
      omega
    all_goals omega
theorem len_any (x : Int) (w : World) (h0 : 0 ≤ x) (h1 : x ≤ 65535) :
    Calls Tryz.prog 162 #[.int .u64 x] w fun e w' => e = .returned (.int .i64 ((Lib.bitLen x.toNat : Nat) : Int)) ∧ w' = w := by
  go_enter Tryz.func162, Tryz.ntmps162
  go_wp2_with fail
  refine (len64_any x _ h0 h1).mono ?_
  rintro e w' ⟨rfl, rfl⟩
  go_wp2_with fail
  go_ret
  exact ⟨rfl, rfl⟩

theorem symc_first (c p n : Nat) (hp : p ≤ 2) (hc : c ≤ 14) (h : n < 32768) : wrap64 (wrap64 ((c : Int) * 2 ^ p) + (n : Int) / 2 ^ c) = ((c * 2 ^ p + n / 2 ^ c : Nat) : Int) := by
  have e1 : (c : Int) * 2 ^ p = ((c * 2 ^ p : Nat) : Int) := by rw [Int.natCast_mul, pow_cast]
  have e2 : (n : Int) / 2 ^ c = ((n / 2 ^ c : Nat) : Int) := by rw [Int.natCast_ediv, pow_cast]
  have h1 : 2 ^ p ≤ 4 := Nat.pow_le_pow_right (n := 2) (by omega) hp
  have h2 : c * 2 ^ p ≤ 14 * 4 := Nat.mul_le_mul hc h1
  have h3 := Nat.div_le_self n (2 ^ c)
  rw [e1, e2]
  generalize c * 2 ^ p = q at *
  generalize n / 2 ^ c = r at *
  unfold wrap64
  omega
theorem symc_pow (c : Nat) (hc : c ≤ 14) : 1 ≤ 2 ^ c ∧ 2 ^ c ≤ 16384 := ⟨Nat.one_le_two_pow, Nat.pow_le_pow_right (n := 2) (j := 14) (by omega) hc⟩
theorem sym_extra (c n : Nat) (hc : c ≤ 14) (h : n < 32768) : bits .and .i64 (n : Int) (wrap64 (wrap64 (2 ^ c) - 1)) = ((n % 2 ^ c : Nat) : Int) := by
  obtain ⟨h1, h2⟩ := symc_pow c hc
  have e1 : wrap64 (wrap64 ((2 : Int) ^ c) - 1) = ((2 ^ c - 1 : Nat) : Int) := by
    rw [← pow_cast]
    generalize 2 ^ c = q at *
    unfold wrap64
    omega
  rw [e1, PutMath.i64_and_nat _ _ (by omega) (by omega), Nat.and_two_pow_sub_one_eq_mod]
set_option maxHeartbeats 800000 in
theorem symbolOf_any (p n : Nat) (w : World) (hp : p ≤ 2) (h : n < 32768) (hB : Lib.bitLen n ≤ 15) :
    Calls Tryz.prog 138 #[.int .i64 (n : Int), .int .i64 (p : Int)] w fun e w' => e = .returned (.tuple #[.int .i64 (((Lib.bitLen n - (p + 1)) * 2 ^ p + n / 2 ^ (Lib.bitLen n - (p + 1)) : Nat) : Int), .int .i64 ((Lib.bitLen n - (p + 1) : Nat) : Int), .int .i64 ((n % 2 ^ (Lib.bitLen n - (p + 1)) : Nat) : Int)]) ∧ Below w.heap.size w w' := by
  obtain ⟨c, hc⟩ : ∃ c, c = Lib.bitLen n - (p + 1) := ⟨_, rfl⟩
  rw [← hc]
  have hc15 : c ≤ 14 := by omega
  go_enter Tryz.func138, Tryz.ntmps138
  go_wp2_with fail
  refine (len_any (n : Int) _ (by omega) (by omega)).mono ?_
  rintro e w' ⟨rfl, rfl⟩
  rw [Int.toNat_natCast]
  have hm : max 0 ((Lib.bitLen n : Int) - (p : Int) - 1) = (c : Int) := by omega
  clear hc
  go_wp2_with fail
  go_region
  go_wp2_with fail
  go_ret3
  exact ⟨ret_iii (symc_first c p n hp hc15 h) rfl (sym_extra c n hc15 h), (Below.refl _ _).drew⟩

end Go.Proofs.YtbcnlggkoidmmaaGreatDoor

namespace Go.Proofs.YtbcnlggkoidmmaaGreatDoor
open Go.RowKit StepMath

def LengthCodeAnswer : Prop := ∀ (n : Int) (w : World), (Lit.int .i64 n).wf = true → Calls Tryz.prog 104 #[.int .i64 n] w fun e w' => e = .returned (.tuple #[.int .i64 (LengthCodeOf n).1, .int .i64 (LengthCodeOf n).2.1, .int .i64 (LengthCodeOf n).2.2]) ∧ Below w.heap.size w w'

end Go.Proofs.YtbcnlggkoidmmaaGreatDoor

namespace Go.Proofs.YtbcnlggkoidmmaaGreatDoor
open Go.RowKit Go.Joins OutMath StepMath

theorem isLength_any (x : Int) (w : World) :
    Calls Tryz.prog 136 #[.int .i64 x] w fun e w' => e = .returned (.bool (decide (3 ≤ x ∧ x ≤ 258))) ∧ w' = w := by
  by_cases h : 3 ≤ x
  · have d : decide ((3 : Int) ≤ x) = true := decide_eq_true h
    have d2 : decide ((3 : Int) ≤ x ∧ x ≤ 258) = decide (x ≤ 258) := by simp [h]
    rw [d2]
    clear d2
    go_enter Tryz.func136, Tryz.ntmps136
    go_wp2_with fail
    go_ret
    exact ⟨rfl, rfl⟩
  · have d : decide ((3 : Int) ≤ x) = false := decide_eq_false h
    have d2 : decide ((3 : Int) ≤ x ∧ x ≤ 258) = false := decide_eq_false (fun q => h q.1)
    rw [d2]
    clear d2
    go_enter Tryz.func136, Tryz.ntmps136
    go_wp2_with fail
    go_ret
    exact ⟨rfl, rfl⟩
theorem isLength_yes (x : Int) (w : World) (h : 3 ≤ x ∧ x ≤ 258) :
    Calls Tryz.prog 136 #[.int .i64 x] w fun e w' => e = .returned (.bool true) ∧ w' = w := by
  have := isLength_any x w
  rwa [decide_eq_true h] at this
theorem isLength_no (x : Int) (w : World) (h : ¬ (3 ≤ x ∧ x ≤ 258)) :
    Calls Tryz.prog 136 #[.int .i64 x] w fun e w' => e = .returned (.bool false) ∧ w' = w := by
  have := isLength_any x w
  rwa [decide_eq_false h] at this

set_option maxHeartbeats 800000 in
theorem lengthCode_answer : LengthCodeAnswer := by
  intro n w _
  by_cases h : 3 ≤ n ∧ n ≤ 258
  · obtain ⟨h3, h258⟩ := h
    obtain ⟨m, rfl⟩ : ∃ m : Nat, n = (m : Int) + 3 := ⟨(n - 3).toNat, by omega⟩
    unfold LengthCodeOf
    rw [if_pos ⟨h3, h258⟩, show ((m : Int) + 3).toNat = m + 3 by omega]
    by_cases he : m = 255
    · subst he
      go_enter Tryz.func104, Tryz.ntmps104
      go_wp2_with fail
      refine (isLength_yes _ _ (by omega)).mono ?_
      rintro e w' ⟨rfl, rfl⟩
      go_wp2_with fail
      go_ret3
      exact ⟨rfl, Below.refl _ _⟩
    · have hl := len_sym m (by omega)
      have hs := fun w => symbolOf_any 2 m w (by omega) (by omega) (by omega)
      rw [hl.1]
      have hB := hl.2
      clear hl
      obtain ⟨c, hc⟩ : ∃ c, c = Lib.bitLen m - 3 := ⟨_, rfl⟩
      simp only [show 2 + 1 = 3 from rfl, ← hc] at hs
      rw [← hc]
      have hq := Nat.div_le_self m (2 ^ c)
      have hcl : c ≤ 5 := by omega
      have d : ((m : Int) + 3 == 258) = false := by simp; omega
      have hq2 : (((c * 2 ^ 2 + m / 2 ^ c : Nat) : Int) = ((c * 4 + m / 2 ^ c : Nat) : Int)) := rfl
      rw [hq2] at hs
      clear hc hB hq2
      generalize m / 2 ^ c = q at *
      generalize m % 2 ^ c = r at *
      obtain ⟨s, hsm⟩ : ∃ s, s = c * 4 + q := ⟨_, rfl⟩
      rw [← hsm] at hs ⊢
      have hsl : s ≤ 300 := by omega
      clear hsm
      go_enter Tryz.func104, Tryz.ntmps104
      go_wp2_with fail
      refine (isLength_yes _ _ (by omega)).mono ?_
      rintro e w' ⟨rfl, rfl⟩
      go_wp2_with fail
      refine (hs _).mono ?_
      rintro e w1 ⟨rfl, hB1⟩
      have HB := hid_of hB1
      clear hB1 hs
      go_wp2_with fail
      go_ret3
      exact ⟨ret_iii (by omega) rfl rfl, HB.out⟩
  · unfold LengthCodeOf
    rw [if_neg h]
    go_enter Tryz.func104, Tryz.ntmps104
    go_wp2_with fail
    refine (isLength_no _ _ h).mono ?_
    rintro e w' ⟨rfl, rfl⟩
    go_wp2_with fail
    go_ret3
    exact ⟨rfl, Below.refl _ _⟩

end Go.Proofs.YtbcnlggkoidmmaaGreatDoor

namespace Go.Proofs.YtbcnlggkoidmmaaGreatDoor
open Go.RowKit StepMath

def DistCodeAnswer : Prop := ∀ (n : Int) (w : World), (Lit.int .i64 n).wf = true → Calls Tryz.prog 105 #[.int .i64 n] w fun e w' => e = .returned (.tuple #[.int .i64 (DistCodeOf n).1, .int .i64 (DistCodeOf n).2.1, .int .i64 (DistCodeOf n).2.2]) ∧ Below w.heap.size w w'

end Go.Proofs.YtbcnlggkoidmmaaGreatDoor

namespace Go.Proofs.YtbcnlggkoidmmaaGreatDoor
open Go.RowKit Go.Joins OutMath StepMath

theorem isDist_any (x : Int) (w : World) :
    Calls Tryz.prog 137 #[.int .i64 x] w fun e w' => e = .returned (.bool (decide (1 ≤ x ∧ x ≤ 32768))) ∧ w' = w := by
  by_cases h : 1 ≤ x
  · have d : decide ((1 : Int) ≤ x) = true := decide_eq_true h
    have d2 : decide ((1 : Int) ≤ x ∧ x ≤ 32768) = decide (x ≤ 32768) := by simp [h]
    rw [d2]
    clear d2
    go_enter Tryz.func137, Tryz.ntmps137
    go_wp2_with fail
    go_ret
    exact ⟨rfl, rfl⟩
  · have d : decide ((1 : Int) ≤ x) = false := decide_eq_false h
    have d2 : decide ((1 : Int) ≤ x ∧ x ≤ 32768) = false := decide_eq_false (fun q => h q.1)
    rw [d2]
    clear d2
    go_enter Tryz.func137, Tryz.ntmps137
    go_wp2_with fail
    go_ret
    exact ⟨rfl, rfl⟩
theorem isDist_yes (x : Int) (w : World) (h : 1 ≤ x ∧ x ≤ 32768) :
    Calls Tryz.prog 137 #[.int .i64 x] w fun e w' => e = .returned (.bool true) ∧ w' = w := by
  have := isDist_any x w
  rwa [decide_eq_true h] at this
theorem isDist_no (x : Int) (w : World) (h : ¬ (1 ≤ x ∧ x ≤ 32768)) :
    Calls Tryz.prog 137 #[.int .i64 x] w fun e w' => e = .returned (.bool false) ∧ w' = w := by
  have := isDist_any x w
  rwa [decide_eq_false h] at this
set_option maxHeartbeats 800000 in
theorem distCode_answer : DistCodeAnswer := by
  intro n w _
  by_cases h : 1 ≤ n ∧ n ≤ 32768
  · obtain ⟨h3, h258⟩ := h
    obtain ⟨m, rfl⟩ : ∃ m : Nat, n = (m : Int) + 1 := ⟨(n - 1).toNat, by omega⟩
    unfold DistCodeOf
    rw [if_pos ⟨h3, h258⟩, show ((m : Int) + 1).toNat = m + 1 by omega]
    have hl := dist_sym (n := m) (by omega)
    have hs := fun w => symbolOf_any 1 m w (by omega) (by omega) hl.2
    rw [hl.1]
    have hB := hl.2
    clear hl
    obtain ⟨c, hc⟩ : ∃ c, c = Lib.bitLen m - 2 := ⟨_, rfl⟩
    simp only [show 1 + 1 = 2 from rfl, ← hc] at hs
    rw [← hc]
    have hq2 : (((c * 2 ^ 1 + m / 2 ^ c : Nat) : Int) = ((c * 2 + m / 2 ^ c : Nat) : Int)) := rfl
    rw [hq2] at hs
    clear hc hB hq2
    generalize c * 2 + m / 2 ^ c = q at *
    generalize m % 2 ^ c = r at *
    go_enter Tryz.func105, Tryz.ntmps105
    go_wp2_with fail
    refine (isDist_yes _ _ (by omega)).mono ?_
    rintro e w' ⟨rfl, rfl⟩
    go_wp2_with fail
    refine (hs _).mono ?_
    rintro e w1 ⟨rfl, hB1⟩
    have HB := hid_of hB1
    clear hB1 hs
    go_wp2_with fail
    go_ret3
    exact ⟨rfl, HB.out⟩
  · unfold DistCodeOf
    rw [if_neg h]
    go_enter Tryz.func105, Tryz.ntmps105
    go_wp2_with fail
    refine (isDist_no _ _ h).mono ?_
    rintro e w' ⟨rfl, rfl⟩
    go_wp2_with fail
    go_ret3
    exact ⟨rfl, Below.refl _ _⟩

end Go.Proofs.YtbcnlggkoidmmaaGreatDoor

namespace Go.Proofs.YtbcnlggkoidmmaaGreatDoor
open Go.RowKit Go.Joins TokMath

/-- What stands for a token. -/
def pieceV (t : Tok) : Value := if TokRight t then (if t.2.1 = 0 then .iface 172 (.int .u8 t.1) else .iface 174 (.agg #[.int .i64 t.2.1, .int .i64 t.2.2])) else .nilIface
theorem piece_byte {x : Int} (h0 : 0 ≤ x) (h1 : x ≤ 255) : pieceV (x, 0, 0) = .iface 172 (.int .u8 x) := by
  unfold pieceV
  rw [if_pos (show TokRight (x, 0, 0) from ⟨⟨h0, h1⟩, rfl⟩), if_pos rfl]
theorem piece_repeat {y z : Int} (hy : 3 ≤ y ∧ y ≤ 258) (hz : 1 ≤ z ∧ z ≤ 32768) : pieceV (0, y, z) = .iface 174 (.agg #[.int .i64 y, .int .i64 z]) := by
  have hn : ¬ y = 0 := by omega
  unfold pieceV
  rw [if_pos (show TokRight (0, y, z) by unfold TokRight; rw [if_neg hn]; exact ⟨rfl, hy, hz⟩), if_neg hn]
theorem piece_none {t : Tok} (h : ¬ TokRight t) : pieceV t = .nilIface := by
  unfold pieceV
  rw [if_neg h]

set_option maxHeartbeats 1600000 in
theorem pieceOf_any (x y z : Int) (w : World) :
    Calls Tryz.prog 103 #[.agg #[.int .i64 x, .int .i64 y, .int .i64 z]] w fun e w' => e = .returned (pieceV (x, y, z)) ∧ Below w.heap.size w w' := by
  have HB := hid_of (bstart w (.cells #[.int .i64 x, .int .i64 y, .int .i64 z] 57))
  by_cases hy : y = 0
  · subst hy
    by_cases hz : z = 0
    · subst hz
      by_cases hx : 0 ≤ x ∧ x ≤ 255
      · have d0 : decide ((0 : Int) ≤ x) = true := decide_eq_true hx.1
        have d1 : decide (x ≤ 255) = true := decide_eq_true hx.2
        have hx0 := hx.1
        have hx1 := hx.2
        rw [piece_byte hx.1 hx.2]
        clear hx
        go_enter Tryz.func103, Tryz.ntmps103
        go_wp2_with fail
        go_ret
        exact ⟨rfl, HB.out⟩
      · have hn : ¬ TokRight (x, 0, 0) := fun h => hx h.1
        have d2 : (x == 0) = false := by
          simp
          omega
        rw [piece_none hn]
        by_cases hx0 : 0 ≤ x
        · have d0 : decide ((0 : Int) ≤ x) = true := decide_eq_true hx0
          have d1 : decide (x ≤ 255) = false := decide_eq_false (by omega)
          go_enter Tryz.func103, Tryz.ntmps103
          go_wp2_with fail
          go_ret
          exact ⟨rfl, HB.out⟩
        · have d0 : decide ((0 : Int) ≤ x) = false := decide_eq_false hx0
          go_enter Tryz.func103, Tryz.ntmps103
          go_wp2_with fail
          go_ret
          exact ⟨rfl, HB.out⟩
    · have hn : ¬ TokRight (x, 0, z) := fun h => hz h.2
      have dz : (z == 0) = false := by
        simp
        omega
      rw [piece_none hn]
      by_cases hx : x = 0
      · subst hx
        have dn := fun w => isLength_no 0 w (by omega)
        go_enter Tryz.func103, Tryz.ntmps103
        go_wp2_with fail
        refine (dn _).mono ?_
        rintro e w1 ⟨rfl, rfl⟩
        go_wp2_with fail
        go_ret
        exact ⟨rfl, HB.out⟩
      · have dx : (x == 0) = false := by
          simp
          omega
        go_enter Tryz.func103, Tryz.ntmps103
        go_wp2_with fail
        go_ret
        exact ⟨rfl, HB.out⟩
  · have dy : (y == 0) = false := by
      simp
      omega
    by_cases hx : x = 0
    · subst hx
      by_cases h1 : 3 ≤ y ∧ y ≤ 258
      · have dl := fun w => isLength_yes y w h1
        by_cases h2 : 1 ≤ z ∧ z ≤ 32768
        · have dd := fun w => isDist_yes z w h2
          rw [piece_repeat h1 h2]
          go_enter Tryz.func103, Tryz.ntmps103
          go_wp2_with fail
          refine (dl _).mono ?_
          rintro e w1 ⟨rfl, rfl⟩
          go_wp2_with fail
          refine (dd _).mono ?_
          rintro e w2 ⟨rfl, rfl⟩
          go_wp2_with fail
          go_ret
          exact ⟨rfl, HB.out⟩
        · have dd := fun w => isDist_no z w h2
          have hn : ¬ TokRight (0, y, z) := fun h => by
            unfold TokRight at h
            rw [if_neg hy] at h
            exact h2 h.2.2
          rw [piece_none hn]
          go_enter Tryz.func103, Tryz.ntmps103
          go_wp2_with fail
          refine (dl _).mono ?_
          rintro e w1 ⟨rfl, rfl⟩
          go_wp2_with fail
          refine (dd _).mono ?_
          rintro e w2 ⟨rfl, rfl⟩
          go_wp2_with fail
          go_ret
          exact ⟨rfl, HB.out⟩
      · have dl := fun w => isLength_no y w h1
        have hn : ¬ TokRight (0, y, z) := fun h => by
          unfold TokRight at h
          rw [if_neg hy] at h
          exact h1 h.2.1
        rw [piece_none hn]
        go_enter Tryz.func103, Tryz.ntmps103
        go_wp2_with fail
        refine (dl _).mono ?_
        rintro e w1 ⟨rfl, rfl⟩
        go_wp2_with fail
        go_ret
        exact ⟨rfl, HB.out⟩
    · have dx : (x == 0) = false := by
        simp
        omega
      have hn : ¬ TokRight (x, y, z) := fun h => by
        unfold TokRight at h
        rw [if_neg hy] at h
        exact hx h.1
      rw [piece_none hn]
      go_enter Tryz.func103, Tryz.ntmps103
      go_wp2_with fail
      go_ret
      exact ⟨rfl, HB.out⟩

end Go.Proofs.YtbcnlggkoidmmaaGreatDoor

namespace Go.Proofs.YtbcnlggkoidmmaaGreatDoor
open Go.RowKit Go.Joins

theorem as_literal (v : Value) (w : World) : (Instr.typeAssert (.iface 172 v) 170 172 true).run Tryz.prog w = .ok (.tuple #[v, .bool true]) w := by
  simp [Instr.typeAssert, run_underlying Tryz.underlying172]
theorem no_literal (v : Value) (w : World) : (Instr.typeAssert (.iface 174 v) 170 172 true).run Tryz.prog w = .ok (.tuple #[.int .u8 0, .bool false]) w := by
  simp [Instr.typeAssert, run_underlying Tryz.underlying172]
theorem as_repeat (v : Value) (w : World) : (Instr.typeAssert (.iface 174 v) 170 174 true).run Tryz.prog w = .ok (.tuple #[v, .bool true]) w := by
  simp [Instr.typeAssert, run_underlying Tryz.underlying174]
theorem nil_literal (w : World) : (Instr.typeAssert .nilIface 170 172 true).run Tryz.prog w = .ok (.tuple #[.int .u8 0, .bool false]) w := by
  simp [Instr.typeAssert, run_underlying Tryz.underlying172]
theorem nil_repeat (w : World) : (Instr.typeAssert .nilIface 170 174 true).run Tryz.prog w = .ok (.tuple #[.agg #[.int .i64 0, .int .i64 0], .bool false]) w := by
  simp [Instr.typeAssert, run_underlying Tryz.underlying174]
end Go.Proofs.YtbcnlggkoidmmaaGreatDoor

namespace Go.Proofs.YtbcnlggkoidmmaaGreatDoor
open Go.RowKit Go.Joins TokMath StepMath TellMath

theorem wf_small (x : Int) (h0 : -9223372036854775808 ≤ x) (h1 : x ≤ 9223372036854775807) : (Lit.int .i64 x).wf = true := by
  show (decide (IntKind.i64.min ≤ x) && decide (x ≤ IntKind.i64.max)) = true
  rw [show IntKind.i64.min = -9223372036854775808 from rfl, show IntKind.i64.max = 9223372036854775807 from rfl, decide_eq_true h0, decide_eq_true h1]
  rfl
def codV (s : Cod) : Value := .agg #[.int .i64 s.1, .int .i64 s.2.1, .int .i64 s.2.2]

set_option maxHeartbeats 400000 in
theorem newCoded_any (x y z : Int) (w : World) :
    Calls Tryz.prog 79 #[.int .i64 x, .int .i64 y, .int .i64 z] w fun e w' => e = .returned (codV (x, y, z)) ∧ Below w.heap.size w w' := by
  go_enter Tryz.func79, Tryz.ntmps79
  go_wp2_with fail
  refine bodyPost_ret (v := codV (x, y, z)) ?_ rfl ⟨rfl, ?_⟩
  · simp [results, Tryz.results79, go_sem, codV]
  · exact bstart _ _

/-- What is kept where neither is called. -/
structure Stays (w0 : World) (I : World → List (Bool × Cod) → Prop) (T : World → Nat → Prop) : Prop where
  called : ∀ {w w' S}, I w S → Below w.heap.size w w' → I w' S ∧ ∀ g, T w' g → T w g
  lt : ∀ {w S g}, I w S → T w g → g < w.heap.size
  below : ∀ {w S}, I w S → Below w0.heap.size w0 w

end Go.Proofs.YtbcnlggkoidmmaaGreatDoor

namespace Go.Proofs.YtbcnlggkoidmmaaGreatDoor
namespace CodeMath
open OutMath

/-- How many codes have the length s, of the first k symbols. -/
def cs (f : Nat → Int) (k : Nat) : Nat → Int := fun s => if s = 0 then 0 else cntS f s k
theorem cs_start (f : Nat → Int) (s : Nat) : cs f 0 s = 0 := by unfold cs; split <;> rfl
theorem cs_step (f : Nat → Int) (k : Nat) (h : 0 ≤ f k) (s : Nat) : cs f (k + 1) s = cs f k s + (if 0 < f k ∧ s = (f k).toNat then 1 else 0) := by
  unfold cs
  by_cases h0 : s = 0
  · subst h0
    rw [if_pos rfl, if_pos rfl, if_neg (by omega)]
    omega
  · rw [if_neg h0, if_neg h0]
    show cntS f s k + (if f k = s then 1 else 0) = _
    by_cases h1 : f k = s
    · rw [if_pos h1, if_pos (by omega)]
    · rw [if_neg h1, if_neg (by omega)]
theorem cs_bd (f : Nat → Int) (k s : Nat) : 0 ≤ cs f k s ∧ cs f k s ≤ k := by
  unfold cs
  split
  · omega
  · exact cntS_bd f s k

/-- What the counts of the lengths below k are full to. -/
def fullS (g : Nat → Int) : Nat → Int
  | 0 => 0
  | k + 1 => fullS g k + g k * p2 (15 - k)
theorem fullS_step (f : Nat → Int) (n : Nat) (h : 0 ≤ f n) : ∀ k, k ≤ 16 → fullS (cs f (n + 1)) k = fullS (cs f n) k + (if 0 < f n ∧ f n < k then p2 (15 - f n).toNat else 0)
  | 0, _ => by
    rw [if_neg (by omega)]
    rfl
  | k + 1, hk => by
    have ih := fullS_step f n h k (by omega)
    show fullS (cs f (n + 1)) k + cs f (n + 1) k * p2 (15 - k) = fullS (cs f n) k + cs f n k * p2 (15 - k) + _
    rw [ih, cs_step f n h k, Int.add_mul]
    by_cases h1 : 0 < f n
    · by_cases h2 : k = (f n).toNat
      · rw [if_neg (by omega), if_pos ⟨h1, h2⟩, if_pos (by omega), show (15 - f n).toNat = 15 - k by omega]
        omega
      · rw [if_neg (show ¬ (0 < f n ∧ k = (f n).toNat) by omega)]
        by_cases h3 : f n < k
        · rw [if_pos (by omega), if_pos (by omega)]
          omega
        · rw [if_neg (by omega), if_neg (by omega)]
          omega
    · rw [if_neg (by omega), if_neg (by omega), if_neg (by omega)]
      omega
theorem fullS_zero : ∀ k, fullS (fun _ => 0) k = 0
  | 0 => rfl
  | k + 1 => by
    show fullS (fun _ => 0) k + 0 * p2 (15 - k) = 0
    rw [fullS_zero k, Int.zero_mul]
    rfl
theorem fullS_congr {g g' : Nat → Int} (h : ∀ s, g s = g' s) : ∀ k, fullS g k = fullS g' k
  | 0 => rfl
  | k + 1 => by
    show fullS g k + g k * p2 (15 - k) = fullS g' k + g' k * p2 (15 - k)
    rw [fullS_congr h k, h k]
theorem full_room (f : Nat → Int) : ∀ n, OkLens f n → fullS (cs f n) 16 = room f n
  | 0, _ => by rw [fullS_congr (cs_start f), fullS_zero]; rfl
  | n + 1, h => by
    have hn := h n (by omega)
    rw [fullS_step f n hn.1 16 (by omega), full_room f n (fun i hi => h i (by omega))]
    show _ = room f n + (if 0 < f n then p2 (15 - f n).toNat else 0)
    by_cases h1 : 0 < f n
    · rw [if_pos (by omega), if_pos h1]
    · rw [if_neg (by omega), if_neg h1]
theorem fullS_bd (g : Nat → Int) (hg : ∀ s, 0 ≤ g s ∧ g s ≤ 288) : ∀ k, 0 ≤ fullS g k ∧ fullS g k ≤ 9437184 * k
  | 0 => by simp [fullS]
  | k + 1 => by
    have ih := fullS_bd g hg k
    have h := hg k
    have hp := p2_pos (15 - k)
    have hq := p2_le (show 15 - k ≤ 15 by omega)
    have e : p2 15 = 32768 := by decide +kernel
    have a : 0 ≤ g k * p2 (15 - k) := Int.mul_nonneg h.1 (by omega)
    have b : g k * p2 (15 - k) ≤ 288 * p2 (15 - k) := Int.mul_le_mul_of_nonneg_right h.2 (by omega)
    show 0 ≤ fullS g k + g k * p2 (15 - k) ∧ fullS g k + g k * p2 (15 - k) ≤ _
    omega
theorem shl_part (g : Nat → Int) (hg : ∀ s, 0 ≤ g s ∧ g s ≤ 288) (k : Nat) : 0 ≤ g k * p2 (15 - k) ∧ g k * p2 (15 - k) ≤ 9437184 := by
  have h := hg k
  have hp := p2_pos (15 - k)
  have hq := p2_le (show 15 - k ≤ 15 by omega)
  have e : p2 15 = 32768 := by decide +kernel
  have a : 0 ≤ g k * p2 (15 - k) := Int.mul_nonneg h.1 (by omega)
  have b : g k * p2 (15 - k) ≤ 288 * p2 (15 - k) := Int.mul_le_mul_of_nonneg_right h.2 (by omega)
  omega

/-- All counts are 0 just where no length is above 0. -/
theorem cnt_step (f : Nat → Int) (k : Nat) : cnt f (k + 1) = cnt f k + (if 0 < f k then 1 else 0) := rfl
/-- The sum of the counts. -/
def sumS (g : Nat → Int) : Nat → Int
  | 0 => 0
  | k + 1 => sumS g k + g k
theorem sumS_step (f : Nat → Int) (n : Nat) (h : 0 ≤ f n) : ∀ k, k ≤ 16 → sumS (cs f (n + 1)) k = sumS (cs f n) k + (if 0 < f n ∧ f n < k then 1 else 0)
  | 0, _ => by rw [if_neg (by omega)]; rfl
  | k + 1, hk => by
    have ih := sumS_step f n h k (by omega)
    show sumS (cs f (n + 1)) k + cs f (n + 1) k = sumS (cs f n) k + cs f n k + _
    rw [ih, cs_step f n h k]
    by_cases h1 : 0 < f n
    · by_cases h2 : k = (f n).toNat
      · rw [if_neg (by omega), if_pos ⟨h1, h2⟩, if_pos (by omega)]
        omega
      · rw [if_neg (show ¬ (0 < f n ∧ k = (f n).toNat) by omega)]
        by_cases h3 : f n < k
        · rw [if_pos (by omega), if_pos (by omega)]
          omega
        · rw [if_neg (by omega), if_neg (by omega)]
          omega
    · rw [if_neg (by omega), if_neg (by omega), if_neg (by omega)]
      omega
theorem sum_cnt (f : Nat → Int) : ∀ n, OkLens f n → sumS (cs f n) 16 = cnt f n
  | 0, _ => by
    have : ∀ k, sumS (cs f 0) k = 0 := by
      intro k
      induction k with
      | zero => rfl
      | succ k ih => show sumS (cs f 0) k + cs f 0 k = 0; rw [ih, cs_start]; rfl
    rw [this]
    rfl
  | n + 1, h => by
    have hn := h n (by omega)
    rw [sumS_step f n hn.1 16 (by omega), sum_cnt f n (fun i hi => h i (by omega)), cnt_step]
    by_cases h1 : 0 < f n
    · rw [if_pos (by omega), if_pos h1]
    · rw [if_neg (by omega), if_neg h1]

/-- Just one code, of length 1. -/
def one1 : Nat → Int := fun s => if s = 1 then 1 else 0
theorem cs_none {f : Nat → Int} {n : Nat} (h : OkLens f n) : cnt f n = 0 ↔ ∀ s, s < 16 → cs f n s = 0 := by
  rw [← sum_cnt f n h]
  have b := fun s => (cs_bd f n s).1
  generalize cs f n = g at b
  constructor
  · intro e
    have key : ∀ k, k ≤ 16 → sumS g k ≤ sumS g 16 ∧ 0 ≤ sumS g k := by
      have mono : ∀ d k, sumS g k ≤ sumS g (k + d) := by
        intro d k
        induction d with
        | zero => exact Int.le_refl _
        | succ d ih => show _ ≤ sumS g (k + d) + g (k + d); have := b (k + d); omega
      intro k hk
      have m := mono (16 - k) k
      have z := mono k 0
      rw [show k + (16 - k) = 16 by omega] at m
      rw [Nat.zero_add] at z
      exact ⟨m, z⟩
    intro s hs
    have k1 := key s (by omega)
    have k2 := key (s + 1) (by omega)
    have e2 : sumS g (s + 1) = sumS g s + g s := rfl
    have := b s
    omega
  · intro e
    have key : ∀ k, k ≤ 16 → sumS g k = 0 := by
      intro k
      induction k with
      | zero => intro _; rfl
      | succ k ih => intro hk; show sumS g k + g k = 0; rw [ih (by omega), e k (by omega)]; rfl
    exact key 16 (by omega)
theorem cs_single {f : Nat → Int} {n : Nat} (h : OkLens f n) : (cnt f n = 1 ∧ room f n = 16384) ↔ ∀ s, s < 16 → cs f n s = one1 s := by
  rw [← sum_cnt f n h, ← full_room f n h]
  have b := fun s => (cs_bd f n s).1
  have z : cs f n 0 = 0 := rfl
  generalize cs f n = g at b z
  have e1 : sumS g 16 = g 0 + g 1 + g 2 + g 3 + g 4 + g 5 + g 6 + g 7 + g 8 + g 9 + g 10 + g 11 + g 12 + g 13 + g 14 + g 15 := by
    simp only [sumS]; omega
  have e2 : fullS g 16 = g 0 * 32768 + g 1 * 16384 + g 2 * 8192 + g 3 * 4096 + g 4 * 2048 + g 5 * 1024 + g 6 * 512 + g 7 * 256 + g 8 * 128 + g 9 * 64 + g 10 * 32 + g 11 * 16 + g 12 * 8 + g 13 * 4 + g 14 * 2 + g 15 := by
    simp only [fullS, p2]; omega
  rw [e1, e2]
  have b1 := b 1
  have b2 := b 2
  have b3 := b 3
  have b4 := b 4
  have b5 := b 5
  have b6 := b 6
  have b7 := b 7
  have b8 := b 8
  have b9 := b 9
  have b10 := b 10
  have b11 := b 11
  have b12 := b 12
  have b13 := b 13
  have b14 := b 14
  have b15 := b 15
  constructor
  · rintro ⟨p, q⟩ s hs
    have r : 8192 * (g 2 + g 3 + g 4 + g 5 + g 6 + g 7 + g 8 + g 9 + g 10 + g 11 + g 12 + g 13 + g 14 + g 15) ≤ 0 := by omega
    have hz : ∀ t, t < 16 → t ≠ 1 → g t = 0 := by
      intro t ht h1
      rcases (show t = 0 ∨ t = 2 ∨ t = 3 ∨ t = 4 ∨ t = 5 ∨ t = 6 ∨ t = 7 ∨ t = 8 ∨ t = 9 ∨ t = 10 ∨ t = 11 ∨ t = 12 ∨ t = 13 ∨ t = 14 ∨ t = 15 by omega) with rfl | rfl | rfl | rfl | rfl | rfl | rfl | rfl | rfl | rfl | rfl | rfl | rfl | rfl | rfl <;> omega
    unfold one1
    by_cases h1 : s = 1
    · subst h1
      rw [if_pos rfl]
      omega
    · rw [if_neg h1, hz s hs h1]
  · intro e
    have c := fun s (hs : s < 16) => e s hs
    rw [c 0 (by omega), c 1 (by omega), c 2 (by omega), c 3 (by omega), c 4 (by omega), c 5 (by omega), c 6 (by omega), c 7 (by omega), c 8 (by omega), c 9 (by omega), c 10 (by omega), c 11 (by omega), c 12 (by omega), c 13 (by omega), c 14 (by omega), c 15 (by omega)]
    decide +kernel

end CodeMath
end Go.Proofs.YtbcnlggkoidmmaaGreatDoor
