/-
  The program's reader beside an unpacking under way: bits are taken, whole bytes are passed to.
  Plain facts on the counts of lengths, and on what they are full to; nothing here speaks of the program.
  Plain facts on the first code of each length; nothing here speaks of the program.
  A book of codes, in plain numbers: the symbols of each length, in order; how a code is met bit by bit. Nothing here speaks of the program.
  Plain facts on a code read bit by bit; nothing here speaks of the program.
-/
import Derived.Test.YtbcnlggkoidmmaaGreatDoorQk13
import Derived.Test.YtbcnlggkoidmmaaGreatDoorQk04
import Derived.Test.YtbcnlggkoidmmaaGreatDoorQk06
import Derived.Test.YtbcnlggkoidmmaaGreatDoorQk05
import Derived.WalkKit
import Derived.ProofKit
import Derived.WalkLawsBesides
import Derived.RegionTactic
import Derived.Deep.QuietTactic
import Derived.OwnWalk
import Derived.BigQuiet
import Derived.Lib.SmallJoins
namespace Go.Proofs.YtbcnlggkoidmmaaGreatDoor
open Go.RowKit Go.Joins OutMath TakeMath InfMath

theorem grown_draws (w : World) (n : Nat) (row : Option Nat) : w.grownBy (w.drewN n) row := ⟨rfl, rfl, rfl, Nat.le_refl _, fun _ _ _ => rfl⟩
set_option maxHeartbeats 400000 in
theorem takeBit_own (s : ByteArray) (a : Nat) (b : Nat) (w : World) (hR : Rd w b s a) (hs : s.size ≤ 12000) (ha : a < 8 * s.size) :
    Calls Tryz.prog 166 #[.pointer (some ⟨b, 0, none⟩)] w fun e w' => e = .returned (.int .i64 (bit s a)) ∧ Rd w' b s ((a + 1 : Nat) : Int) ∧ w.grownBy w' (some b) := by
  have c0 := hR.c0
  have c1 := hR.c1
  have hlt := hR.lt
  have f0 := hR.f
  have hset := fun (n : Nat) => Rd.set (w := w.drewN n) hR ((a : Int) + 1)
  have HS : Hid (∀ n : Nat, Rd ((w.drewN n).setCell ⟨b, 1, none⟩ (.int .i64 ((a : Int) + 1))) b s ((a : Int) + 1)) := hset
  clear hR hset
  have d : decide (8 * (s.size : Int) ≤ (a : Int)) = false := by simp; omega
  have hix := index_byteI s ((a : Int) / 8) (a / 8) (by omega) (by omega)
  have hy := byteAt_lt s (a / 8)
  have HB : Hid (bits .and .i64 (wrap64 ((byteAt s (a / 8) : Int) / 2 ^ (a % 8))) 1 = bit s a) := bit_and s a
  have q1 : (a : Int).tdiv 8 = (a : Int) / 8 := Int.tdiv_eq_ediv_of_nonneg (by omega)
  have q2 : (a : Int).tmod 8 = (a : Int) % 8 := Int.tmod_eq_emod_of_nonneg (by omega)
  have q3 : IntKind.i64.wrap ((a : Int) / 8) = (a : Int) / 8 := by rw [IntKind.wrap_i64]; omega
  go_enter Tryz.func166, Tryz.ntmps166
  go_wp2
  go_quiet (fail)
  go_wp2
  go_quiet (fail)
  go_wp2
  go_ret
  exact ⟨ret_i HB.out, HS.out _, (grown_draws _ _ _).trans (grown_cell _ _ _ _)⟩

set_option maxHeartbeats 400000 in
theorem takeNumber_own (s : ByteArray) (a n : Nat) (b : Nat) (w : World) (hR : Rd w b s a) (hs : s.size ≤ 12000) (hn : n ≤ 24) (ha : a + n ≤ 8 * s.size) :
    Calls Tryz.prog 148 #[.pointer (some ⟨b, 0, none⟩), .int .i64 n] w fun e w' => e = .returned (.int .i64 (num s a n)) ∧ Rd w' b s ((a + n : Nat) : Int) ∧ w.grownBy w' (some b) := by
  have d1 : decide ((n : Int) < 0) = false := by simp
  have d2 : decide ((24 : Int) < n) = false := by simp; omega
  have HR : Hid (Rd w b s a) := hR
  clear hR
  go_enter Tryz.func148, Tryz.ntmps148
  go_wp2_with fail
  go_loopw [5, 16] (fun x k w' => ∃ j : Nat, j ≤ n ∧ k = .int .i64 j ∧ x = .int .i64 (num s a j) ∧ Hid (Rd w' b s ((a + j : Nat) : Int)) ∧ Hid (w.grownBy w' (some b))) (fun _ k _ => n - (intOf k).toNat)
  case atStart => exact ⟨0, Nat.zero_le _, rfl, rfl, HR.out, grown_draws w 0 _⟩
  case round =>
    obtain ⟨j, hj, rfl, rfl, hR, hB⟩ := hrel
    have hb := num_bd s a j
    have hp := p2_pos j
    by_cases hlt : j < n
    · have hp4 := p2_24 (n := j) (by omega)
      have h01 := bit_01 s (a + j)
      have hm := mul01 _ _ h01.1 h01.2 hp
      have HO : Hid (bits .or .i64 (num s a j) (wrap64 (bit s (a + j) * 2 ^ j)) = num s a (j + 1)) := or_bitW _ _ _ (by omega) hb.1 hb.2 h01.1 h01.2
      go_wp2_with fail
      refine (takeBit_own s (a + j) b _ hR.out hs (by omega)).mono ?_
      rintro e w1 ⟨rfl, hR1, hB1⟩
      have HR1 : Hid (Rd w1 b s ((a + (j + 1) : Nat) : Int)) := hR1
      have HB1 := hid_of (hB.out.trans hB1)
      clear hR1 hB1
      go_wp2_with fail
      go_roundw
      case rel => exact ⟨j + 1, by omega, by go_num, by rw [HO.out], HR1, HB1⟩
      case measure => simp [intOf]; omega
    · obtain rfl : j = n := by omega
      go_wp2_with fail
      go_ret
      exact ⟨rfl, hR.out, hB.out⟩

set_option maxHeartbeats 400000 in
theorem bytesFor_small (x : Nat) (w : World) (h : x ≤ 1000000) :
    Calls Tryz.prog 41 #[.int .i64 (x : Int)] w fun e w' => e = .returned (.int .i64 (((x + 7) / 8 : Nat) : Int)) ∧ w' = w := by
  have q1 : ((x : Int) + 7).tdiv 8 = (((x + 7) / 8 : Nat) : Int) := by
    rw [Int.tdiv_eq_ediv_of_nonneg (by omega)]
    omega
  go_enter Tryz.func41, Tryz.ntmps41
  go_wp2
  go_ret
  exact ⟨ret_i (by omega), rfl⟩
set_option maxHeartbeats 400000 in
theorem passToByte_own (s : ByteArray) (a : Nat) (b : Nat) (w : World) (hR : Rd w b s a) (ha : a ≤ 100000) :
    Calls Tryz.prog 149 #[.pointer (some ⟨b, 0, none⟩)] w fun e w' => e = .returned (.tuple #[]) ∧ Rd w' b s ((8 * ((a + 7) / 8) : Nat) : Int) ∧ w.grownBy w' (some b) := by
  have c0 := hR.c0
  have c1 := hR.c1
  have hlt := hR.lt
  have f0 := hR.f
  have HS : Hid (∀ x : Int, Rd (w.setCell ⟨b, 1, none⟩ (.int .i64 x)) b s x) := fun x => Rd.set hR x
  clear hR
  have hbf := bytesFor_small a w (by omega)
  have hq : ((a + 7) / 8 : Nat) ≤ 100000 := by omega
  generalize hqq : (a + 7) / 8 = q at hbf hq
  clear hqq
  go_enter Tryz.func149, Tryz.ntmps149
  go_wp2_with fail
  refine hbf.mono ?_
  rintro e w1 ⟨rfl, rfl⟩
  clear hbf
  go_wp2_with fail
  go_end0
  exact ⟨rfl, by have := HS.out (8 * (q : Int)); rw [show ((8 * q : Nat) : Int) = 8 * (q : Int) by omega]; exact this, grown_cell _ _ _ _⟩

section
variable (B : Nat) (w : World) (fb rb : Nat) (s : ByteArray) (p : Nat) (O : List Int) (most : Nat) (Ty : List Int) (vo vt : Value)
set_option maxHeartbeats 400000 in
theorem take_yes (h : PS B w fb rb s p O most Ty vo vt) (hs : s.size ≤ 12000) (n : Nat) (hn : n ≤ 24) (ha : p + n ≤ 8 * s.size) :
    Calls Tryz.prog 114 #[.pointer (some ⟨fb, 0, none⟩), .int .i64 (n : Int)] w fun e w' => e = .returned (.tuple #[.int .i64 (num s p n), .nilIface]) ∧ PS B w' fb rb s (p + n) O most Ty vo vt ∧ w.grownBy w' (some rb) := by
  have HH := hid_of h
  have c0 := h.1.cells.1
  have r0 := h.2.1.c0
  have r1 := h.2.1.c1
  have hl := h.ltf
  have hl2 := h.ltr
  have htk := fun (w : World) (hR : Rd w rb s (p : Int)) => takeNumber_own s p n rb w hR hs hn ha
  have HR : Hid (∀ k, Rd (w.drewN k) rb s (p : Int)) := fun k => h.2.1
  clear h
  have d1 : decide (8 * (s.size : Int) < (p : Int) + (n : Int)) = false := decide_eq_false (by omega)
  go_enter Tryz.func114, Tryz.ntmps114
  go_wp2_with fail
  go_quiet (fail)
  go_wp2_with fail
  refine (htk _ (HR.out _)).mono ?_
  rintro e w1 ⟨rfl, hR1, hg1⟩
  have HE := hid_of (And.intro (HH.out.read hR1 ((grown_draws _ _ _).trans hg1)) ((grown_draws w _ _).trans hg1))
  clear htk hR1 hg1 HR HH
  go_wp2_with fail
  go_ret2
  exact ⟨rfl, HE.out⟩
set_option maxHeartbeats 400000 in
theorem take_no (h : PS B w fb rb s p O most Ty vo vt) (hs : s.size ≤ 12000) (hp : p ≤ 8 * s.size) (n : Nat) (hn : n ≤ 24) (ha : ¬ p + n ≤ 8 * s.size) :
    Calls Tryz.prog 114 #[.pointer (some ⟨fb, 0, none⟩), .int .i64 (n : Int)] w fun e w' => e = .returned (.tuple #[.int .i64 0, errV 2]) ∧ PS B w' fb rb s p O most Ty vo vt ∧ w.grownBy w' (some rb) := by
  have HH : Hid (∀ k, PS B (w.drewN k) fb rb s p O most Ty vo vt) := fun k => h.called ⟨rfl, rfl, rfl, Nat.le_refl _, fun _ _ => rfl⟩
  have c0 := h.1.cells.1
  have r0 := h.2.1.c0
  have r1 := h.2.1.c1
  have hl := h.ltf
  have hl2 := h.ltr
  clear h
  have d1 : decide (8 * (s.size : Int) < (p : Int) + (n : Int)) = true := decide_eq_true (by omega)
  go_enter Tryz.func114, Tryz.ntmps114
  go_wp2_with fail
  go_quiet (fail)
  go_wp2_with fail
  go_ret2
  exact ⟨rfl, HH.out _, grown_draws _ _ _⟩
end
end Go.Proofs.YtbcnlggkoidmmaaGreatDoor

namespace Go.Proofs.YtbcnlggkoidmmaaGreatDoor
namespace CodeMath
open OutMath

/-- How many codes have the length s, of the first k symbols. -/
def cs (f : Nat → Int) (k : Nat) : Nat → Int := fun s => if s = 0 then 0 else cntS f s k
theorem cs_start (f : Nat → Int) (s : Nat) : cs f 0 s = 0 := by unfold cs; split <;> rfl
theorem cs_step (f : Nat → Int) (k : Nat) (h : 0 ≤ f k) (s : Nat) : cs f (k + 1) s = cs f k s + (if 0 < f k ∧ s = (f k).toNat then 1 else 0) := by
  unfold cs
  by_cases h0 : s = 0
  · subst h0
    rw [if_pos rfl, if_pos rfl, if_neg (by omega)]
    omega
  · rw [if_neg h0, if_neg h0]
    show cntS f s k + (if f k = s then 1 else 0) = _
    by_cases h1 : f k = s
    · rw [if_pos h1, if_pos (by omega)]
    · rw [if_neg h1, if_neg (by omega)]
theorem cs_bd (f : Nat → Int) (k s : Nat) : 0 ≤ cs f k s ∧ cs f k s ≤ k := by
  unfold cs
  split
  · omega
  · exact cntS_bd f s k

/-- What the counts of the lengths below k are full to. -/
def fullS (g : Nat → Int) : Nat → Int
  | 0 => 0
  | k + 1 => fullS g k + g k * p2 (15 - k)
theorem fullS_step (f : Nat → Int) (n : Nat) (h : 0 ≤ f n) : ∀ k, k ≤ 16 → fullS (cs f (n + 1)) k = fullS (cs f n) k + (if 0 < f n ∧ f n < k then p2 (15 - f n).toNat else 0)
  | 0, _ => by
    rw [if_neg (by omega)]
    rfl
  | k + 1, hk => by
    have ih := fullS_step f n h k (by omega)
    show fullS (cs f (n + 1)) k + cs f (n + 1) k * p2 (15 - k) = fullS (cs f n) k + cs f n k * p2 (15 - k) + _
    rw [ih, cs_step f n h k, Int.add_mul]
    by_cases h1 : 0 < f n
    · by_cases h2 : k = (f n).toNat
      · rw [if_neg (by omega), if_pos ⟨h1, h2⟩, if_pos (by omega), show (15 - f n).toNat = 15 - k by omega]
        omega
      · rw [if_neg (show ¬ (0 < f n ∧ k = (f n).toNat) by omega)]
        by_cases h3 : f n < k
        · rw [if_pos (by omega), if_pos (by omega)]
          omega
        · rw [if_neg (by omega), if_neg (by omega)]
          omega
    · rw [if_neg (by omega), if_neg (by omega), if_neg (by omega)]
      omega
theorem fullS_zero : ∀ k, fullS (fun _ => 0) k = 0
  | 0 => rfl
  | k + 1 => by
    show fullS (fun _ => 0) k + 0 * p2 (15 - k) = 0
    rw [fullS_zero k, Int.zero_mul]
    rfl
theorem fullS_congr {g g' : Nat → Int} (h : ∀ s, g s = g' s) : ∀ k, fullS g k = fullS g' k
  | 0 => rfl
  | k + 1 => by
    show fullS g k + g k * p2 (15 - k) = fullS g' k + g' k * p2 (15 - k)
    rw [fullS_congr h k, h k]
theorem full_room (f : Nat → Int) : ∀ n, OkLens f n → fullS (cs f n) 16 = room f n
  | 0, _ => by rw [fullS_congr (cs_start f), fullS_zero]; rfl
  | n + 1, h => by
    have hn := h n (by omega)
    rw [fullS_step f n hn.1 16 (by omega), full_room f n (fun i hi => h i (by omega))]
    show _ = room f n + (if 0 < f n then p2 (15 - f n).toNat else 0)
    by_cases h1 : 0 < f n
    · rw [if_pos (by omega), if_pos h1]
    · rw [if_neg (by omega), if_neg h1]
theorem fullS_bd (g : Nat → Int) (hg : ∀ s, 0 ≤ g s ∧ g s ≤ 288) : ∀ k, 0 ≤ fullS g k ∧ fullS g k ≤ 9437184 * k
  | 0 => by simp [fullS]
  | k + 1 => by
    have ih := fullS_bd g hg k
    have h := hg k
    have hp := p2_pos (15 - k)
    have hq := p2_le (show 15 - k ≤ 15 by omega)
    have e : p2 15 = 32768 := by decide +kernel
    have a : 0 ≤ g k * p2 (15 - k) := Int.mul_nonneg h.1 (by omega)
    have b : g k * p2 (15 - k) ≤ 288 * p2 (15 - k) := Int.mul_le_mul_of_nonneg_right h.2 (by omega)
    show 0 ≤ fullS g k + g k * p2 (15 - k) ∧ fullS g k + g k * p2 (15 - k) ≤ _
    omega
theorem shl_part (g : Nat → Int) (hg : ∀ s, 0 ≤ g s ∧ g s ≤ 288) (k : Nat) : 0 ≤ g k * p2 (15 - k) ∧ g k * p2 (15 - k) ≤ 9437184 := by
  have h := hg k
  have hp := p2_pos (15 - k)
  have hq := p2_le (show 15 - k ≤ 15 by omega)
  have e : p2 15 = 32768 := by decide +kernel
  have a : 0 ≤ g k * p2 (15 - k) := Int.mul_nonneg h.1 (by omega)
  have b : g k * p2 (15 - k) ≤ 288 * p2 (15 - k) := Int.mul_le_mul_of_nonneg_right h.2 (by omega)
  omega

/-- All counts are 0 just where no length is above 0. -/
theorem cnt_step (f : Nat → Int) (k : Nat) : cnt f (k + 1) = cnt f k + (if 0 < f k then 1 else 0) := rfl
/-- The sum of the counts. -/
def sumS (g : Nat → Int) : Nat → Int
  | 0 => 0
  | k + 1 => sumS g k + g k
theorem sumS_step (f : Nat → Int) (n : Nat) (h : 0 ≤ f n) : ∀ k, k ≤ 16 → sumS (cs f (n + 1)) k = sumS (cs f n) k + (if 0 < f n ∧ f n < k then 1 else 0)
  | 0, _ => by rw [if_neg (by omega)]; rfl
  | k + 1, hk => by
    have ih := sumS_step f n h k (by omega)
    show sumS (cs f (n + 1)) k + cs f (n + 1) k = sumS (cs f n) k + cs f n k + _
    rw [ih, cs_step f n h k]
    by_cases h1 : 0 < f n
    · by_cases h2 : k = (f n).toNat
      · rw [if_neg (by omega), if_pos ⟨h1, h2⟩, if_pos (by omega)]
        omega
      · rw [if_neg (show ¬ (0 < f n ∧ k = (f n).toNat) by omega)]
        by_cases h3 : f n < k
        · rw [if_pos (by omega), if_pos (by omega)]
          omega
        · rw [if_neg (by omega), if_neg (by omega)]
          omega
    · rw [if_neg (by omega), if_neg (by omega), if_neg (by omega)]
      omega
theorem sum_cnt (f : Nat → Int) : ∀ n, OkLens f n → sumS (cs f n) 16 = cnt f n
  | 0, _ => by
    have : ∀ k, sumS (cs f 0) k = 0 := by
      intro k
      induction k with
      | zero => rfl
      | succ k ih => show sumS (cs f 0) k + cs f 0 k = 0; rw [ih, cs_start]; rfl
    rw [this]
    rfl
  | n + 1, h => by
    have hn := h n (by omega)
    rw [sumS_step f n hn.1 16 (by omega), sum_cnt f n (fun i hi => h i (by omega)), cnt_step]
    by_cases h1 : 0 < f n
    · rw [if_pos (by omega), if_pos h1]
    · rw [if_neg (by omega), if_neg h1]

/-- Just one code, of length 1. -/
def one1 : Nat → Int := fun s => if s = 1 then 1 else 0
theorem cs_none {f : Nat → Int} {n : Nat} (h : OkLens f n) : cnt f n = 0 ↔ ∀ s, s < 16 → cs f n s = 0 := by
  rw [← sum_cnt f n h]
  have b := fun s => (cs_bd f n s).1
  generalize cs f n = g at b
  constructor
  · intro e
    have key : ∀ k, k ≤ 16 → sumS g k ≤ sumS g 16 ∧ 0 ≤ sumS g k := by
      have mono : ∀ d k, sumS g k ≤ sumS g (k + d) := by
        intro d k
        induction d with
        | zero => exact Int.le_refl _
        | succ d ih => show _ ≤ sumS g (k + d) + g (k + d); have := b (k + d); omega
      intro k hk
      have m := mono (16 - k) k
      have z := mono k 0
      rw [show k + (16 - k) = 16 by omega] at m
      rw [Nat.zero_add] at z
      exact ⟨m, z⟩
    intro s hs
    have k1 := key s (by omega)
    have k2 := key (s + 1) (by omega)
    have e2 : sumS g (s + 1) = sumS g s + g s := rfl
    have := b s
    omega
  · intro e
    have key : ∀ k, k ≤ 16 → sumS g k = 0 := by
      intro k
      induction k with
      | zero => intro _; rfl
      | succ k ih => intro hk; show sumS g k + g k = 0; rw [ih (by omega), e k (by omega)]; rfl
    exact key 16 (by omega)
theorem cs_single {f : Nat → Int} {n : Nat} (h : OkLens f n) : (cnt f n = 1 ∧ room f n = 16384) ↔ ∀ s, s < 16 → cs f n s = one1 s := by
  rw [← sum_cnt f n h, ← full_room f n h]
  have b := fun s => (cs_bd f n s).1
  have z : cs f n 0 = 0 := rfl
  generalize cs f n = g at b z
  have e1 : sumS g 16 = g 0 + g 1 + g 2 + g 3 + g 4 + g 5 + g 6 + g 7 + g 8 + g 9 + g 10 + g 11 + g 12 + g 13 + g 14 + g 15 := by
    simp only [sumS]; omega
  have e2 : fullS g 16 = g 0 * 32768 + g 1 * 16384 + g 2 * 8192 + g 3 * 4096 + g 4 * 2048 + g 5 * 1024 + g 6 * 512 + g 7 * 256 + g 8 * 128 + g 9 * 64 + g 10 * 32 + g 11 * 16 + g 12 * 8 + g 13 * 4 + g 14 * 2 + g 15 := by
    simp only [fullS, p2]; omega
  rw [e1, e2]
  have b1 := b 1
  have b2 := b 2
  have b3 := b 3
  have b4 := b 4
  have b5 := b 5
  have b6 := b 6
  have b7 := b 7
  have b8 := b 8
  have b9 := b 9
  have b10 := b 10
  have b11 := b 11
  have b12 := b 12
  have b13 := b 13
  have b14 := b 14
  have b15 := b 15
  constructor
  · rintro ⟨p, q⟩ s hs
    have r : 8192 * (g 2 + g 3 + g 4 + g 5 + g 6 + g 7 + g 8 + g 9 + g 10 + g 11 + g 12 + g 13 + g 14 + g 15) ≤ 0 := by omega
    have hz : ∀ t, t < 16 → t ≠ 1 → g t = 0 := by
      intro t ht h1
      rcases (show t = 0 ∨ t = 2 ∨ t = 3 ∨ t = 4 ∨ t = 5 ∨ t = 6 ∨ t = 7 ∨ t = 8 ∨ t = 9 ∨ t = 10 ∨ t = 11 ∨ t = 12 ∨ t = 13 ∨ t = 14 ∨ t = 15 by omega) with rfl | rfl | rfl | rfl | rfl | rfl | rfl | rfl | rfl | rfl | rfl | rfl | rfl | rfl | rfl <;> omega
    unfold one1
    by_cases h1 : s = 1
    · subst h1
      rw [if_pos rfl]
      omega
    · rw [if_neg h1, hz s hs h1]
  · intro e
    have c := fun s (hs : s < 16) => e s hs
    rw [c 0 (by omega), c 1 (by omega), c 2 (by omega), c 3 (by omega), c 4 (by omega), c 5 (by omega), c 6 (by omega), c 7 (by omega), c 8 (by omega), c 9 (by omega), c 10 (by omega), c 11 (by omega), c 12 (by omega), c 13 (by omega), c 14 (by omega), c 15 (by omega)]
    decide +kernel

end CodeMath
end Go.Proofs.YtbcnlggkoidmmaaGreatDoor

namespace Go.Proofs.YtbcnlggkoidmmaaGreatDoor
namespace CodeMath
open OutMath

/-- The first code of length s, by the counts g. -/
def first (g : Nat → Int) : Nat → Int
  | 0 => 0
  | 1 => 0
  | s + 2 => 2 * (first g (s + 1) + g (s + 1))
theorem first_nx (f : Nat → Int) (n : Nat) : ∀ s, 1 ≤ s → first (cs f n) s = 2 * nx f n (s - 1)
  | 0, h => by omega
  | 1, _ => rfl
  | s + 2, _ => by
    show 2 * (first (cs f n) (s + 1) + cs f n (s + 1)) = 2 * nx f n (s + 1)
    rw [first_nx f n (s + 1) (by omega)]
    show 2 * (2 * nx f n s + cs f n (s + 1)) = 2 * (2 * nx f n s + cntS f ((s + 1 : Nat) : Int) n)
    unfold cs
    rw [if_neg (by omega)]
theorem first_step (g : Nat → Int) (t : Nat) (h : 2 ≤ t) : first g t = 2 * (first g (t - 1) + g (t - 1)) := by
  obtain ⟨s, rfl⟩ : ∃ s, t = s + 2 := ⟨t - 2, by omega⟩
  rfl
theorem first_bd (g : Nat → Int) (hg : ∀ s, 0 ≤ g s ∧ g s ≤ 288) : ∀ s, 0 ≤ first g s ∧ first g s + 576 ≤ 576 * p2 s
  | 0 => by rw [p2_zero]; exact ⟨Int.le_refl _, by show (0 : Int) + 576 ≤ _; omega⟩
  | 1 => by
    have e : p2 1 = 2 := by decide +kernel
    rw [e]
    exact ⟨Int.le_refl _, by show (0 : Int) + 576 ≤ _; omega⟩
  | s + 2 => by
    have ih := first_bd g hg (s + 1)
    have h := hg (s + 1)
    show 0 ≤ 2 * (first g (s + 1) + g (s + 1)) ∧ 2 * (first g (s + 1) + g (s + 1)) + 576 ≤ _
    rw [p2_succ]
    omega
theorem first_lt (g : Nat → Int) (hg : ∀ s, 0 ≤ g s ∧ g s ≤ 288) (s : Nat) (hs : s ≤ 15) : 0 ≤ first g s ∧ first g s ≤ 18874368 := by
  have h := first_bd g hg s
  have h2 := p2_le hs
  have e : p2 15 = 32768 := by decide +kernel
  omega
/-- The first codes of the lengths below t. -/
def firstTo (g : Nat → Int) (t : Nat) : Nat → Int := fun s => if s < t then first g s else 0
theorem firstTo_start (g : Nat → Int) (s : Nat) : firstTo g 2 s = 0 := by
  unfold firstTo
  split
  · rename_i h
    rcases (show s = 0 ∨ s = 1 by omega) with rfl | rfl <;> rfl
  · rfl
/-- The next code of each length when the first i symbols have theirs. -/
def nextAt (f : Nat → Int) (n i : Nat) : Nat → Int := fun s => if s = 0 then 0 else 2 * nx f n (s - 1) + cntS f s i
theorem nextAt_start (f : Nat → Int) (n s : Nat) : first (cs f n) s = nextAt f n 0 s := by
  unfold nextAt
  by_cases h : s = 0
  · subst h; rfl
  · rw [if_neg h, first_nx f n s (by omega)]
    show _ = _ + 0
    omega
theorem nextAt_bd (f : Nat → Int) (n : Nat) (hn : n ≤ 288) (i : Nat) (hi : i ≤ n) (s : Nat) (hs : s ≤ 15) : 0 ≤ nextAt f n i s ∧ nextAt f n i s ≤ 20000000 := by
  unfold nextAt
  split
  · omega
  · have h := nx_lt f n hn (s - 1) (by omega)
    have c := cntS_bd f s i
    omega
theorem nextAt_code (f : Nat → Int) (n i s : Nat) (hs : 1 ≤ s) (e : f i = (s : Int)) : nextAt f n i s = codeOf f n i := by
  unfold nextAt codeOf
  rw [if_neg (by omega), if_neg (by omega), e, Int.toNat_natCast]
/-- What is written when the first i symbols have their codes. -/
def wrote (f : Nat → Int) (n i : Nat) : Nat → Int := fun j => if j < i then codeOf f n j else 0

end CodeMath
end Go.Proofs.YtbcnlggkoidmmaaGreatDoor

namespace Go.Proofs.YtbcnlggkoidmmaaGreatDoor.BookMath
open OutMath CodeMath TakeMath HitMath WayMath

/-- Of the first k symbols those of length t. -/
def symsTo (f : Nat → Int) (t : Nat) : Nat → List Int
  | 0 => []
  | k + 1 => if 0 < f k ∧ f k = (t : Int) then symsTo f t k ++ [(k : Int)] else symsTo f t k
theorem symsTo_here {f : Nat → Int} {t k : Nat} (h : 0 < f k) (e : f k = (t : Int)) : symsTo f t (k + 1) = symsTo f t k ++ [(k : Int)] := by
  rw [symsTo, if_pos ⟨h, e⟩]
theorem symsTo_skip {f : Nat → Int} {t k : Nat} (h : ¬ (0 < f k ∧ f k = (t : Int))) : symsTo f t (k + 1) = symsTo f t k := by
  rw [symsTo, if_neg h]
theorem symsTo_zero (f : Nat → Int) : ∀ k, symsTo f 0 k = []
  | 0 => rfl
  | k + 1 => by rw [symsTo_skip (by omega), symsTo_zero f k]
theorem symsTo_le (f : Nat → Int) (t : Nat) : ∀ k, (symsTo f t k).length ≤ k
  | 0 => Nat.le_refl _
  | k + 1 => by
    have ih := symsTo_le f t k
    by_cases h : 0 < f k ∧ f k = (t : Int)
    · rw [symsTo_here h.1 h.2, List.length_append]
      simp
      omega
    · rw [symsTo_skip h]
      omega
theorem symsTo_length (f : Nat → Int) (t : Nat) (ht : 1 ≤ t) : ∀ k, ((symsTo f t k).length : Int) = cntS f (t : Int) k
  | 0 => rfl
  | k + 1 => by
    have ih := symsTo_length f t ht k
    by_cases h : 0 < f k ∧ f k = (t : Int)
    · rw [symsTo_here h.1 h.2, List.length_append, cntS, if_pos h.2]
      simp
      omega
    · rw [symsTo_skip h, cntS, if_neg (fun e => h ⟨by omega, e⟩)]
      omega
/-- The j-th symbol of length t. -/
theorem symsTo_get (f : Nat → Int) (t : Nat) : ∀ k j, j < (symsTo f t k).length → ∃ i : Nat, (symsTo f t k).getD j 0 = (i : Int) ∧ i < k ∧ f i = (t : Int) ∧ cntS f (t : Int) i = (j : Int)
  | 0, j, h => by simp [symsTo] at h
  | k + 1, j, h => by
    by_cases hk : 0 < f k ∧ f k = (t : Int)
    · rw [symsTo_here hk.1 hk.2] at h ⊢
      rw [List.length_append] at h
      simp at h
      by_cases hj : j < (symsTo f t k).length
      · obtain ⟨i, h1, h2, h3⟩ := symsTo_get f t k j hj
        refine ⟨i, ?_, by omega, h3⟩
        rw [List.getD_eq_getElem?_getD, List.getElem?_append_left hj, ← List.getD_eq_getElem?_getD]
        exact h1
      · have e : j = (symsTo f t k).length := by omega
        refine ⟨k, ?_, by omega, hk.2, ?_⟩
        · rw [List.getD_eq_getElem?_getD, List.getElem?_append_right (by omega), e]
          simp
        · rw [e, symsTo_length f t (by omega) k]
    · rw [symsTo_skip hk] at h ⊢
      obtain ⟨i, h1, h2, h3⟩ := symsTo_get f t k j h
      exact ⟨i, h1, by omega, h3⟩
section
variable {f : Nat → Int} {n : Nat} {s : ByteArray} {p : Nat}
theorem nx_succ (f : Nat → Int) (n k : Nat) : nx f n (k + 1) = 2 * nx f n k + cntS f ((k + 1 : Nat) : Int) n := rfl
/-- No code of k bits or fewer is met. -/
def Passed (f : Nat → Int) (n : Nat) (s : ByteArray) (p k : Nat) : Prop := ∀ j, j < k → nx f n j ≤ hi s p j
theorem passed_start : Passed f n s p 0 := fun j h => by omega
theorem passed_next {k : Nat} (h : Passed f n s p k) (hk : nx f n k ≤ hi s p k) : Passed f n s p (k + 1) := fun j hj => by
  rcases (show j < k ∨ j = k by omega) with q | rfl
  · exact h j q
  · exact hk
theorem first_le {k : Nat} (h : Passed f n s p k) : first (cs f n) k ≤ hi s p k := by
  cases k with
  | zero => exact Int.le_refl 0
  | succ k =>
    rw [first_nx f n (k + 1) (by omega)]
    have h1 := h k (by omega)
    show 2 * nx f n k ≤ 2 * hi s p k + bit s (p + k)
    have h2 := bit_01 s (p + k)
    omega
/-- The symbol that the book finds is what comes next. -/
theorem find_hit {k j : Nat} (hp : p + k ≤ 8 * s.size) (hj : j < (symsTo f k n).length) (e : hi s p k = first (cs f n) k + (j : Int)) : ∃ i : Nat, (symsTo f k n).getD j 0 = (i : Int) ∧ Hit f n s p i k := by
  have hk : 1 ≤ k := by
    rcases Nat.eq_zero_or_pos k with h | h
    · subst h
      rw [symsTo_zero] at hj
      simp at hj
    · exact h
  obtain ⟨i, h1, h2, h3, h4⟩ := symsTo_get f k n j hj
  refine ⟨i, h1, h2, hk, h3, ?_, hp⟩
  rw [e, first_nx f n k hk, ← h4]
  unfold codeOf
  rw [if_neg (by omega), h3, Int.toNat_natCast]
/-- Where it finds none, none of so many bits is met. -/
theorem find_none {k : Nat} (h : ¬ hi s p k - first (cs f n) k < ((symsTo f k n).length : Int)) : nx f n k ≤ hi s p k := by
  cases k with
  | zero =>
    show (0 : Int) ≤ _
    exact (hi_bd s p 0).1
  | succ k =>
    rw [symsTo_length f (k + 1) (by omega), first_nx f n (k + 1) (by omega)] at h
    rw [nx_succ]
    have : k + 1 - 1 = k := rfl
    rw [this] at h
    omega
theorem no_short {i k j : Nat} (h : Passed f n s p k) (hj : j < k) : ¬ Hit f n s p i j := fun ⟨h1, h2, h3, h4, _⟩ => by
  have q := (code_in h1 h2 h3).2
  have := h j hj
  omega
theorem code_nonneg (hn : n ≤ 288) (i : Nat) : 0 ≤ codeOf f n i := by
  unfold codeOf
  split
  · exact Int.le_refl _
  · have h1 := (nx_bd f n hn ((f i).toNat - 1)).1
    have h2 := (cntS_bd f (f i) i).1
    omega
/-- No code begins so. -/
theorem over_none {k : Nat} (hok : OkLens f n) (hk : k ≤ 15) (hp : p + k ≤ 8 * s.size) (h : Passed f n s p k) (hb : ¬ hi s p k * p2 (15 - k) < nx f n 15) : NoneBegins f n s p := by
  have hnb : ¬ Begins f n s p k := by
    rintro ⟨i, h1, h2, h3, h4⟩
    have hi15 := hok i h1
    obtain ⟨m, hm⟩ : ∃ m : Nat, f i = (m : Int) := ⟨(f i).toNat, by omega⟩
    have hm1 : 1 ≤ m := by omega
    have q := (code_in h1 hm1 hm).2
    obtain ⟨d, hd⟩ : ∃ d, m = k + d := ⟨m - k, by omega⟩
    have e1 : (f i - (k : Int)).toNat = d := by omega
    rw [e1] at h4
    have q2 := nx_ge f n m (15 - m)
    rw [show m + (15 - m) = 15 by omega] at q2
    have e2 : p2 (15 - k) = p2 d * p2 (15 - m) := by rw [← p2_add]; congr 1; omega
    apply hb
    have hd0 := p2_pos d
    have hm0 := p2_pos (15 - m)
    have q3 : hi s p k * p2 d ≤ codeOf f n i := by
      rw [← h4]
      exact Int.ediv_mul_le _ (by omega)
    have q4 : hi s p k * p2 d * p2 (15 - m) ≤ codeOf f n i * p2 (15 - m) := Int.mul_le_mul_of_nonneg_right q3 (by omega)
    have q5 : codeOf f n i * p2 (15 - m) < nx f n m * p2 (15 - m) := Int.mul_lt_mul_of_pos_right q hm0
    rw [e2, ← Int.mul_assoc]
    rw [Int.mul_comm (p2 (15 - m))] at q2
    omega
  refine ⟨fun i j hit => ?_, k, hp, hnb⟩
  rcases Nat.lt_or_ge j k with q | q
  · exact no_short h q hit
  · exact hnb (hit_begins hit q)
/-- Every number from the first to behind the last one is a code. -/
theorem code_of_count (f : Nat → Int) (t : Nat) (ht : 1 ≤ t) : ∀ n (c : Int), 0 ≤ c → c < cntS f (t : Int) n → ∃ i, i < n ∧ f i = (t : Int) ∧ cntS f (t : Int) i = c
  | 0, c, h0, h => by
    have : cntS f (t : Int) 0 = 0 := rfl
    omega
  | n + 1, c, h0, h => by
    by_cases hc : c < cntS f (t : Int) n
    · obtain ⟨i, h1, h2⟩ := code_of_count f t ht n c h0 hc
      exact ⟨i, by omega, h2⟩
    · rw [cntS] at h
      by_cases e : f n = (t : Int)
      · rw [if_pos e] at h
        exact ⟨n, by omega, e, by omega⟩
      · rw [if_neg e] at h
        omega
theorem climb {x : Int} {k : Nat} : ∀ d, nx f n k ≤ x → x * p2 d < nx f n (k + d) → ∃ m, k < m ∧ m ≤ k + d ∧ 2 * nx f n (m - 1) ≤ x * p2 (m - k) ∧ x * p2 (m - k) < nx f n m
  | 0, h, h2 => by
    rw [p2_zero, Nat.add_zero] at h2
    omega
  | d + 1, h, h2 => by
    by_cases hd : x * p2 d < nx f n (k + d)
    · obtain ⟨m, h3, h4, h5⟩ := climb d h hd
      exact ⟨m, h3, by omega, h5⟩
    · refine ⟨k + d + 1, by omega, by omega, ?_, ?_⟩
      · rw [show k + d + 1 - 1 = k + d by omega, show k + d + 1 - k = d + 1 by omega, p2_succ]
        have e : x * (2 * p2 d) = 2 * (x * p2 d) := by rw [← Int.mul_assoc, Int.mul_comm x 2, Int.mul_assoc]
        omega
      · rw [show k + d + 1 - k = d + 1 by omega]
        exact h2
theorem begins_of {k : Nat} (hk : k ≤ 15) (h : nx f n k ≤ hi s p k) (hb : hi s p k * p2 (15 - k) < nx f n 15) : Begins f n s p k := by
  obtain ⟨m, h1, h2, h3, h4⟩ := climb (15 - k) h (by rw [show k + (15 - k) = 15 by omega]; exact hb)
  have e : nx f n m = 2 * nx f n (m - 1) + cntS f (m : Int) n := (nx_step f n m (by omega)).symm
  obtain ⟨i, q1, q2, q3⟩ := code_of_count f m (by omega) n (hi s p k * p2 (m - k) - 2 * nx f n (m - 1)) (by omega) (by omega)
  refine ⟨i, q1, by omega, by omega, ?_⟩
  have ec : codeOf f n i = hi s p k * p2 (m - k) := by
    unfold codeOf
    rw [if_neg (by omega), q2, Int.toNat_natCast, q3]
    omega
  have ed : (f i - (k : Int)).toNat = m - k := by omega
  rw [ec, ed]
  exact Int.mul_ediv_cancel _ (by have := p2_pos (m - k); omega)
/-- The bits run out. -/
theorem out_of {k : Nat} (hn : n ≤ 288) (hk : k ≤ 15) (hp : p + k = 8 * s.size) (h : Passed f n s p (k + 1)) (hb : hi s p k * p2 (15 - k) < nx f n 15) : RunsOut f n s p := by
  refine ⟨fun i j hit => ?_, k, hp, fun j hj => begins_less (begins_of hk (h k (by omega)) hb) hj (code_nonneg hn)⟩
  rcases Nat.lt_or_ge j (k + 1) with q | q
  · exact no_short h q hit
  · have := hit.2.2.2.2
    omega
end
end Go.Proofs.YtbcnlggkoidmmaaGreatDoor.BookMath

namespace Go.Proofs.YtbcnlggkoidmmaaGreatDoor
namespace HitMath
open OutMath CodeMath TakeMath

theorem or_low (x b : Int) (h0 : 0 ≤ x) (h1 : x ≤ 65536) (b0 : 0 ≤ b) (b1 : b ≤ 1) : bits .or .i64 (2 * x) b = 2 * x + b := by
  obtain ⟨n, rfl⟩ := Int.eq_ofNat_of_zero_le h0
  obtain ⟨m, rfl⟩ := Int.eq_ofNat_of_zero_le b0
  have k := i64_or_nat (2 * n) m (by omega) (by omega)
  have j := Nat.two_pow_add_eq_or_of_lt (i := 1) (b := m) (by omega) n
  rw [show (2 : Nat) ^ 1 = 2 from rfl] at j
  rw [← j] at k
  rw [show (2 : Int) * (n : Int) = ((2 * n : Nat) : Int) by omega, k]
  omega
theorem hi_lt (s : ByteArray) (a k : Nat) (hk : k ≤ 15) : 0 ≤ hi s a k ∧ hi s a k ≤ 32768 := by
  have h := hi_bd s a k
  have h2 := p2_le hk
  have e : p2 15 = 32768 := by decide +kernel
  omega

end HitMath
end Go.Proofs.YtbcnlggkoidmmaaGreatDoor
