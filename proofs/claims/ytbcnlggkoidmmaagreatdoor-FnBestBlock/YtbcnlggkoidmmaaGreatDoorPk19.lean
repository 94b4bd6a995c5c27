/-
  The model's Inflate, where it ends well.
  Plain facts on bits that are put into bytes, the lowest of each byte first; nothing here speaks of the program.
  What may be put, and what putting comes to; nothing here speaks of the program.
  Bits that are put are taken again, in the same order; nothing here speaks of the program.
  Blocks as bits: an Out under way, and bits that come behind it, all at once or part by part; the fill to a whole byte; whole bytes. Nothing here speaks of the program.
  What a block is to be, in bits, and what is told to the caller. Nothing here speaks of the program.
  A list's length when what is 0 at its end is left out; tokens that are all right. Nothing here speaks of the program.
  How often each symbol of tokens is met (chapter 9). Nothing here speaks of the program.
  The symbols of tokens, in order: each by the first code or the second, with its extra bits. Nothing here speaks of the program.
  Parts of a block: numbers and codes, each in so many bits; the bits of a list of parts. Nothing here speaks of the program.
-/
import Derived.Test.YtbcnlggkoidmmaaGreatDoorRows
import Derived.Test.YtbcnlggkoidmmaaGreatDoorPk01
import Derived.Test.YtbcnlggkoidmmaaGreatDoorPk02
import Derived.Test.YtbcnlggkoidmmaaGreatDoorPk06
import Derived.Test.YtbcnlggkoidmmaaGreatDoorPk09
import Derived.Test.YtbcnlggkoidmmaaGreatDoorPk18
import Derived.Test.YtbcnlggkoidmmaaGreatDoorPk04
import Derived.Test.YtbcnlggkoidmmaaGreatDoorPk05
import Derived.WalkKit
import Derived.ProofKit
import Derived.WalkLawsBesides
import Derived.RegionTactic
import Derived.Deep.QuietTactic
import Derived.Below
import Derived.Laws.BytesArg
import Derived.Lib.SmallJoins
import Derived.Laws.BitsAllLaws
namespace Go.Proofs.YtbcnlggkoidmmaaGreatDoor
open Go.RowKit Go.Joins TokMath InfMath

theorem or_text {w : World} {base : Nat} {vo : Value} {O : List Int} (h : OR w base vo O) (W : World) (hW : ∀ g, g < w.heap.size → W.heap[g]? = w.heap[g]?) : (convert 22 9 vo).run Tryz.prog W = .ok (.string (strOfNums O)) W := by
  rcases h.2 with ⟨rfl, h0⟩ | ⟨g, cap, cur, rfl, hb, hg, hc, hm, hs, ht⟩
  · obtain rfl : O = [] := List.eq_nil_of_length_eq_zero h0
    exact run_convert_bytes_nil W 22 5 Tryz.underlying22 Tryz.underlying5 0 0 9 Tryz.underlying9
  · refine run_convert_bytes_arg W 22 5 Tryz.underlying22 Tryz.underlying5 g 0 O.length cap O rfl (fun i hi => ?_) 9 Tryz.underlying9
    rw [Nat.zero_add, World.cell?_of_block (a := ⟨g, i, none⟩) (hW g (block_lt hg)), h.cellAt i (by omega)]
    unfold u8l
    rw [List.getElem?_map, List.getElem?_eq_getElem hi, List.getD_eq_getElem?_getD, List.getElem?_eq_getElem hi]
    rfl
set_option maxRecDepth 100000 in
set_option maxHeartbeats 1600000 in
theorem specInflate_ok (s : ByteArray) (most : Int) (O : List Int) (p : Nat) (Ty : List Int) (w : World) (hs : s.size ≤ 12000) (h : inflateE s most = .ok (O, p, Ty)) :
    Calls Tryz.prog 17 #[.string s, .int .i64 most] w fun e w' => e = .returned (.tuple #[.string (strOfNums O), .int .i64 (((p + 7) / 8 : Nat) : Int), .int .i64 0]) ∧ Below w.heap.size w w' := by
  go_enter Tryz.func17, Tryz.ntmps17
  go_wp2_with fail
  refine (l08Inflate_any s most w (by omega)).mono ?_
  rintro e w1 ⟨p', vo, vt, c, rfl, ⟨⟨ao, no, co, rfl⟩, ⟨at', nt, ct, rfl⟩⟩, hB, hcase⟩
  rcases hcase with ⟨rfl, hp8, O', Ty', hO, _, _, _, _, htgt⟩ | ⟨_, _, htgt⟩
  · rw [h] at htgt
    cases htgt
    have hbx := heap_alloc_new w1 (.cells #[.string s, .int .i64 (p : Int), .slice ao no co, .int .i64 most, .int .i64 0, .slice at' nt ct] 89)
    have hbY := bstart w1 (.cells #[.string s, .int .i64 (p : Int), .slice ao no co, .int .i64 most, .int .i64 0, .slice at' nt ct] 89)
    have hcv := or_text hO ((w1.alloc (.cells #[.string s, .int .i64 (p : Int), .slice ao no co, .int .i64 most, .int .i64 0, .slice at' nt ct] 89)).drew) (fun g hg => (bstart w1 _).block g hg)
    have HBB : Hid (Below w.heap.size w (w1.alloc (.cells #[.string s, .int .i64 (p : Int), .slice ao no co, .int .i64 most, .int .i64 0, .slice at' nt ct] 89))) := bal hB _
    clear hO hB
    have hsz : 8 * s.size ≤ 96000 := by omega
    have hw7 : IntKind.i64.wrap ((p : Int) + 7) = (p : Int) + 7 := by rw [IntKind.wrap_i64]; omega
    have hq8 : ((p : Int) + 7).tdiv 8 = (((p + 7) / 8 : Nat) : Int) := by rw [Int.tdiv_eq_ediv_of_nonneg (by omega)]; omega
    have hw8 : IntKind.i64.wrap ((((p + 7) / 8 : Nat) : Int)) = (((p + 7) / 8 : Nat) : Int) := by rw [IntKind.wrap_i64]; omega
    have b1 := (cell_of_block hbx 1).trans (show _ = some (Value.int .i64 (p : Int)) from rfl)
    have b2 := (cell_of_block hbx 2).trans (show _ = some (Value.slice ao no co) from rfl)
    have bl := block_lt hbx
    go_wp2_with fail
    generalize w1.alloc _ = Y at *
    generalize w1.heap.size = yb at *
    clear hbx hbY
    go_region
    all_goals
      go_wp2_with fail
      refine bodyPost_ret (v := .tuple #[.string (strOfNums O), .int .i64 (((p + 7) / 8 : Nat) : Int), .int .i64 0]) ?_ rfl ⟨rfl, ?_⟩
      · simp [results, Tryz.results17, go_sem]
      · first | exact HBB.out | exact HBB.out.drew
  · rw [h] at htgt
    cases htgt
end Go.Proofs.YtbcnlggkoidmmaaGreatDoor

namespace Go.Proofs.YtbcnlggkoidmmaaGreatDoor
namespace PutMath
open OutMath

/-- The bytes with room for one bit more. -/
def pre (xs : List Int) (c : Nat) : List Int := if c % 8 = 0 then xs ++ [0] else xs
/-- The bytes with one bit more, the bit c. -/
def bstep (xs : List Int) (c : Nat) (b : Int) : List Int := (pre xs c).set (c / 8) ((pre xs c).getD (c / 8) 0 + b * p2 (c % 8))
/-- As many bytes as c bits need, those of the last that were not put being 0. -/
def Inv (xs : List Int) (c : Nat) : Prop := xs.length = (c + 7) / 8 ∧ (c % 8 ≠ 0 → 0 ≤ xs.getD (c / 8) 0 ∧ xs.getD (c / 8) 0 < p2 (c % 8))

theorem pre_len {xs : List Int} {c : Nat} (h : Inv xs c) : (pre xs c).length = c / 8 + 1 := by
  obtain ⟨h1, h2⟩ := h
  unfold pre
  split
  · rw [List.length_append, h1]; simp; omega
  · rw [h1]; omega
theorem pre_last {xs : List Int} {c : Nat} (h : Inv xs c) : 0 ≤ (pre xs c).getD (c / 8) 0 ∧ (pre xs c).getD (c / 8) 0 < p2 (c % 8) := by
  obtain ⟨h1, h2⟩ := h
  unfold pre
  split
  · rename_i h0
    have e : xs.length = c / 8 := by omega
    rw [h0, p2_zero, List.getD_eq_getElem?_getD, List.getElem?_append_right (by omega), e]
    simp
  · rename_i h0
    exact h2 h0
theorem mul01 (b q : Int) (h0 : 0 ≤ b) (h1 : b ≤ 1) (hq : 1 ≤ q) : 0 ≤ b * q ∧ b * q ≤ q := by
  have : b = 0 ∨ b = 1 := by omega
  rcases this with rfl | rfl <;> omega
theorem bstep_len {xs : List Int} {c : Nat} (b : Int) (h : Inv xs c) : (bstep xs c b).length = c / 8 + 1 := by
  unfold bstep
  rw [List.length_set, pre_len h]
theorem inv_step {xs : List Int} {c : Nat} {b : Int} (h : Inv xs c) (h0 : 0 ≤ b) (h1 : b ≤ 1) : Inv (bstep xs c b) (c + 1) := by
  have hl := pre_len h
  have hp := pre_last h
  refine ⟨by rw [bstep_len b h]; omega, fun hc => ?_⟩
  have e1 : (c + 1) / 8 = c / 8 := by omega
  have e2 : (c + 1) % 8 = c % 8 + 1 := by omega
  have hm := mul01 b (p2 (c % 8)) h0 h1 (p2_pos _)
  rw [e1, e2, p2_succ]
  unfold bstep
  have e3 : ((pre xs c).set (c / 8) ((pre xs c).getD (c / 8) 0 + b * p2 (c % 8))).getD (c / 8) 0 = (pre xs c).getD (c / 8) 0 + b * p2 (c % 8) := by
    rw [List.getD_eq_getElem?_getD, List.getElem?_set_self (by omega)]
    rfl
  rw [e3]
  omega

/-- The bytes behind k bits, of which f tells each. -/
def puts (xs : List Int) (c : Nat) (f : Nat → Int) : Nat → List Int
  | 0 => xs
  | k + 1 => bstep (puts xs c f k) (c + k) (f k)
theorem inv_puts {xs : List Int} {c : Nat} {f : Nat → Int} (h : Inv xs c) (hf : ∀ k, 0 ≤ f k ∧ f k ≤ 1) : ∀ k, Inv (puts xs c f k) (c + k)
  | 0 => h
  | k + 1 => inv_step (inv_puts h hf k) (hf k).1 (hf k).2

theorem p2_8 {r : Nat} (h : r < 8) : p2 r ≤ 128 := by
  have h1 := p2_le (show r ≤ 7 by omega)
  have h2 : p2 7 = 128 := by decide +kernel
  omega

/-- A bit of a number. -/
def bitOf (x : Int) (k : Nat) : Int := x / p2 k % 2
theorem bitOf_01 (x : Int) (k : Nat) : 0 ≤ bitOf x k ∧ bitOf x k ≤ 1 := by unfold bitOf; omega
/-- Below two to the r a byte, and a bit at r: 'or' is plus. -/
theorem or_put (y b : Int) (r : Nat) (hr : r < 8) (h0 : 0 ≤ y) (h1 : y < p2 r) (b0 : 0 ≤ b) (b1 : b ≤ 1) : bits .or .u8 y (Go.RowKit.wrap64 (b * 2 ^ r) % 256) = y + b * p2 r := by
  have hm := mul01 b (p2 r) b0 b1 (p2_pos r)
  have hp := p2_8 hr
  have e : Go.RowKit.wrap64 (b * 2 ^ r) % 256 = b * p2 r := by
    show Go.RowKit.wrap64 (b * p2 r) % 256 = _
    unfold Go.RowKit.wrap64; omega
  rw [e]
  obtain ⟨n, rfl⟩ := Int.eq_ofNat_of_zero_le h0
  obtain ⟨m, rfl⟩ := Int.eq_ofNat_of_zero_le b0
  rw [p2_nat] at h1 hm hp ⊢
  rw [show ((m : Int) * ((2 ^ r : Nat) : Int)) = ((m * 2 ^ r : Nat) : Int) from (Int.natCast_mul _ _).symm] at hm ⊢
  rw [u8_or_nat _ _ (by omega) (by omega), Nat.or_comm, nat_join r (m * 2 ^ r) n (by simp) (by omega)]
  omega

theorem i64_and_nat (a b : Nat) (ha : a < 9223372036854775808) (hb : b < 9223372036854775808) : bits .and .i64 (a : Int) (b : Int) = ((a &&& b : Nat) : Int) := by
  have h1 : (BitVec.ofInt 64 (a : Int)).toNat = a := by
    rw [BitVec.ofInt_natCast, BitVec.toNat_ofNat]; exact Nat.mod_eq_of_lt (by omega)
  have h2 : (BitVec.ofInt 64 (b : Int)).toNat = b := by
    rw [BitVec.ofInt_natCast, BitVec.toNat_ofNat]; exact Nat.mod_eq_of_lt (by omega)
  have hx : a &&& b < 2 ^ 63 := Nat.and_lt_two_pow _ (by omega)
  show IntKind.i64.wrap ((BitVec.ofInt 64 (a : Int) &&& BitVec.ofInt 64 (b : Int)).toNat : Int) = _
  rw [BitVec.toNat_and, h1, h2, IntKind.wrap_i64]
  omega
theorem bit_shr (x : Int) (k : Nat) (h0 : 0 ≤ x) (h1 : x ≤ 16777216) (_hk : k ≤ 24) : bits .and .i64 (x / 2 ^ k) 1 = bitOf x k := by
  have a := Int.ediv_nonneg h0 (show 0 ≤ p2 k by have := p2_pos k; omega)
  have b := Int.ediv_le_self (p2 k) h0
  show bits .and .i64 (x / p2 k) 1 = x / p2 k % 2
  generalize x / p2 k = y at *
  obtain ⟨n, rfl⟩ := Int.eq_ofNat_of_zero_le a
  have := i64_and_nat n 1 (by omega) (by omega)
  rw [nat_mask1] at this
  rw [show ((1 : Nat) : Int) = 1 from rfl] at this
  rw [this]
  omega

end PutMath
end Go.Proofs.YtbcnlggkoidmmaaGreatDoor

namespace Go.Proofs.YtbcnlggkoidmmaaGreatDoor
open OutMath PutMath

theorem bytes_inv (s : ByteArray) (c : Nat) (h : outB s c = true) : Inv (s.data.toList.map fun b => (b.toNat : Int)) c := by
  have hf := fits_of_outB s c h
  obtain ⟨q1, q2, q3, q4⟩ := hf
  refine ⟨by simp; omega, fun h8 => ?_⟩
  have hc : ¬ (c : Int) % 8 = 0 := by omega
  rw [outB_fit1 s c (fits_of_outB s c h) hc] at h
  unfold lastOk at h
  have h' := of_decide_eq_true h
  rw [show ((c : Int) % 8).toNat = c % 8 by omega] at h'
  have hl : c / 8 = s.size - 1 := by omega
  have e : (s.data.toList.map fun b => (b.toNat : Int)).getD (c / 8) 0 = (last s : Int) := by
    rw [hl]
    unfold last
    have hlt : s.size - 1 < s.data.size := by have : s.data.size = s.size := rfl; omega
    rw [List.getD_eq_getElem?_getD, List.getElem?_map, Array.getElem?_toList, Array.getElem?_eq_getElem hlt]
    rfl
  rw [e]
  exact ⟨by omega, h'⟩

end Go.Proofs.YtbcnlggkoidmmaaGreatDoor

namespace Go.Proofs.YtbcnlggkoidmmaaGreatDoor
namespace BitsMath
open OutMath PutMath TakeMath

theorem p2_add (a : Nat) : ∀ b, p2 (a + b) = p2 a * p2 b
  | 0 => by rw [p2_zero, Nat.add_zero]; omega
  | b + 1 => by rw [← Nat.add_assoc, p2_succ, p2_add a b, p2_succ, ← Int.mul_assoc, ← Int.mul_assoc, Int.mul_comm 2 (p2 a)]

/-- Bytes: each in 0 .. 255. -/
def AllB (xs : List Int) : Prop := ∀ i, 0 ≤ xs.getD i 0 ∧ xs.getD i 0 < 256
/-- Bit i of a list of bytes. -/
def bitAt (xs : List Int) (i : Nat) : Int := xs.getD (i / 8) 0 / p2 (i % 8) % 2

theorem pre_getD (xs : List Int) (c i : Nat) : (pre xs c).getD i 0 = xs.getD i 0 := by
  unfold pre
  split
  · rw [List.getD_eq_getElem?_getD, List.getD_eq_getElem?_getD]
    rcases Nat.lt_trichotomy i xs.length with h | h | h
    · rw [List.getElem?_append_left h]
    · subst h
      rw [List.getElem?_append_right (Nat.le_refl _)]
      simp
    · rw [List.getElem?_append_right (by omega), List.getElem?_eq_none (by simp; omega), List.getElem?_eq_none (by omega)]
  · rfl
theorem bstep_getD {xs : List Int} {c : Nat} (b : Int) (h : Inv xs c) (i : Nat) : (bstep xs c b).getD i 0 = if i = c / 8 then xs.getD (c / 8) 0 + b * p2 (c % 8) else xs.getD i 0 := by
  have hl := pre_len h
  unfold bstep
  by_cases hi : i = c / 8
  · rw [if_pos hi, hi, List.getD_eq_getElem?_getD, List.getElem?_set_self (by omega)]
    show (pre xs c).getD (c / 8) 0 + _ = _
    rw [pre_getD]
  · rw [if_neg hi, List.getD_eq_getElem?_getD, List.getElem?_set_ne (by omega), ← List.getD_eq_getElem?_getD, pre_getD]
theorem last_lt {xs : List Int} {c : Nat} (h : Inv xs c) : 0 ≤ xs.getD (c / 8) 0 ∧ xs.getD (c / 8) 0 < p2 (c % 8) := by
  have := pre_last h
  rwa [pre_getD] at this
theorem allB_bstep {xs : List Int} {c : Nat} {b : Int} (h : Inv xs c) (ha : AllB xs) (h0 : 0 ≤ b) (h1 : b ≤ 1) : AllB (bstep xs c b) := by
  intro i
  rw [bstep_getD b h]
  split
  · have hl := last_lt h
    have hp := PutMath.p2_8 (r := c % 8) (by omega)
    have hm := PutMath.mul01 b (p2 (c % 8)) h0 h1 (p2_pos _)
    omega
  · exact ha i
theorem bitAt_old {xs : List Int} {c : Nat} (b : Int) (h : Inv xs c) (i : Nat) (hi : i < c) : bitAt (bstep xs c b) i = bitAt xs i := by
  unfold bitAt
  rw [bstep_getD b h]
  split
  · rename_i e
    have hq : i % 8 < c % 8 := by omega
    obtain ⟨d, hd⟩ : ∃ d, c % 8 = i % 8 + (d + 1) := ⟨c % 8 - i % 8 - 1, by omega⟩
    have hp := p2_pos (i % 8)
    have e2 : b * p2 (c % 8) = (b * p2 d * 2) * p2 (i % 8) := by
      rw [hd, p2_add, p2_succ]
      rw [Int.mul_comm (p2 (i % 8)), ← Int.mul_assoc, ← Int.mul_assoc, Int.mul_comm b 2, Int.mul_assoc 2 b, Int.mul_comm 2]
    rw [e2, e, Int.add_mul_ediv_right _ _ (by omega)]
    generalize xs.getD (c / 8) 0 / p2 (i % 8) = u
    generalize b * p2 d = v
    omega
  · rfl
theorem bitAt_new {xs : List Int} {c : Nat} {b : Int} (h : Inv xs c) (h0 : 0 ≤ b) (h1 : b ≤ 1) : bitAt (bstep xs c b) c = b := by
  unfold bitAt
  rw [bstep_getD b h, if_pos rfl]
  have hl := last_lt h
  have hp := p2_pos (c % 8)
  rw [Int.add_mul_ediv_right _ _ (by omega), Int.ediv_eq_zero_of_lt hl.1 hl.2]
  omega

section
variable {xs : List Int} {c : Nat} {f : Nat → Int}
theorem allB_puts (h : Inv xs c) (ha : AllB xs) (hf : ∀ k, 0 ≤ f k ∧ f k ≤ 1) : ∀ k, AllB (puts xs c f k)
  | 0 => ha
  | k + 1 => allB_bstep (inv_puts h hf k) (allB_puts h ha hf k) (hf k).1 (hf k).2
theorem puts_old (h : Inv xs c) (hf : ∀ k, 0 ≤ f k ∧ f k ≤ 1) (i : Nat) (hi : i < c) : ∀ k, bitAt (puts xs c f k) i = bitAt xs i
  | 0 => rfl
  | k + 1 => (bitAt_old (f k) (inv_puts h hf k) i (by omega)).trans (puts_old h hf i hi k)
theorem puts_new (h : Inv xs c) (hf : ∀ k, 0 ≤ f k ∧ f k ≤ 1) (i : Nat) : ∀ k, i < k → bitAt (puts xs c f k) (c + i) = f i
  | 0, hi => by omega
  | k + 1, hi => by
    by_cases e : i = k
    · subst e
      exact bitAt_new (inv_puts h hf i) (hf i).1 (hf i).2
    · exact (bitAt_old (f k) (inv_puts h hf k) (c + i) (by omega)).trans (puts_new h hf i k (by omega))
end

theorem byteAt_str {ys : List Int} (ha : AllB ys) (i : Nat) : ((byteAt (strOfNums ys) i : Nat) : Int) = ys.getD i 0 := by
  have hb := ha i
  unfold byteAt
  have e : (strOfNums ys).data[i]? = (ys[i]?).map fun n => UInt8.ofNat n.toNat := by simp [strOfNums]
  rw [e]
  rw [List.getD_eq_getElem?_getD] at hb ⊢
  cases h : ys[i]? with
  | none => simp
  | some y =>
    rw [h] at hb
    simp only [Option.map_some, Option.getD_some] at hb ⊢
    rw [UInt8.toNat_ofNat']
    omega
theorem bit_str {ys : List Int} (ha : AllB ys) (i : Nat) : bit (strOfNums ys) i = bitAt ys i := by
  unfold bit bitAt
  rw [byteAt_str ha]
theorem nums_back {ys : List Int} (ha : AllB ys) : ((strOfNums ys).data.toList.map fun b => (b.toNat : Int)) = ys := by
  apply List.ext_getElem?
  intro i
  have hb := ha i
  have e : (strOfNums ys).data.toList = ys.map fun n => UInt8.ofNat n.toNat := rfl
  rw [e, List.map_map, List.getElem?_map]
  rw [List.getD_eq_getElem?_getD] at hb
  cases h : ys[i]? with
  | none => rfl
  | some y =>
    rw [h] at hb
    simp only [Option.getD_some] at hb
    simp only [Option.map_some, Function.comp]
    rw [UInt8.toNat_ofNat']
    congr 1
    omega

theorem outB_of_inv {ys : List Int} {c : Nat} (h : Inv ys c) (ha : AllB ys) (hc : c ≤ 96000) : outB (strOfNums ys) c = true := by
  have hs : (strOfNums ys).size = (c + 7) / 8 := (strOfNums_size ys).trans h.1
  have hf : Fits (strOfNums ys) c := by
    unfold Fits
    rw [hs]
    omega
  by_cases h8 : (c : Int) % 8 = 0
  · exact outB_fit0 _ _ hf h8
  · rw [outB_fit1 _ _ hf h8]
    unfold lastOk
    have e : last (strOfNums ys) = byteAt (strOfNums ys) (c / 8) := by
      unfold last byteAt
      rw [hs, show (c + 7) / 8 - 1 = c / 8 by omega]
    rw [e, byteAt_str ha, show ((c : Int) % 8).toNat = c % 8 by omega]
    exact decide_eq_true (last_lt h).2

theorem mod_split (x q : Int) (hq : 1 ≤ q) : x % (2 * q) = x % q + x / q % 2 * q := by
  have h1 := Int.emod_nonneg x (show q ≠ 0 by omega)
  have h2 := Int.emod_lt_of_pos x (show 0 < q by omega)
  have h3 := Int.mul_ediv_add_emod x q
  have hm := PutMath.mul01 (x / q % 2) q (by omega) (by omega) hq
  have e : x = (x % q + x / q % 2 * q) + (2 * q) * (x / q / 2) := by
    have h4 : x / q = 2 * (x / q / 2) + x / q % 2 := by omega
    have h5 : q * (x / q) = 2 * q * (x / q / 2) + x / q % 2 * q := by
      conv => lhs; rw [h4]
      rw [Int.mul_add, ← Int.mul_assoc, Int.mul_comm q 2, Int.mul_comm q]
    omega
  conv => lhs; rw [e]
  rw [Int.add_mul_emod_self_left]
  exact Int.emod_eq_of_lt (by omega) (by omega)

/-- A number is told by its bits. -/
theorem num_of (s : ByteArray) (a : Nat) (x : Int) : ∀ k, (∀ i, i < k → bit s (a + i) = bitOf x i) → num s a k = x % p2 k
  | 0, _ => by rw [p2_zero]; show (0 : Int) = _; omega
  | k + 1, h => by
    show num s a k + bit s (a + k) * p2 k = _
    rw [num_of s a x k (fun i hi => h i (by omega)), h k (by omega), p2_succ, mod_split x (p2 k) (p2_pos k)]
    rfl

section
variable {v : Nat → Int} {n : Nat → Nat}
end

theorem code_step (x : Int) (n k : Nat) (hk : k < n) : 2 * (x / p2 (n - k)) + bitOf x (n - 1 - k) = x / p2 (n - (k + 1)) := by
  have e : n - k = n - (k + 1) + 1 := by omega
  have e2 : n - 1 - k = n - (k + 1) := by omega
  unfold bitOf
  rw [e, e2, p2_succ, Int.mul_comm 2 (p2 _), ← Int.ediv_ediv_of_nonneg (by have := p2_pos (n - (k + 1)); omega)]
  generalize x / p2 (n - (k + 1)) = u
  omega
end BitsMath
end Go.Proofs.YtbcnlggkoidmmaaGreatDoor

namespace Go.Proofs.YtbcnlggkoidmmaaGreatDoor
namespace BlockMath
open OutMath PutMath BitsMath

/-- A text's bytes, as numbers. -/
def numsOf (s : ByteArray) : List Int := s.data.toList.map fun b => (b.toNat : Int)
theorem numsOf_length (s : ByteArray) : (numsOf s).length = s.size := by simp [numsOf]
theorem numsOf_allB (s : ByteArray) : AllB (numsOf s) := fun i => by
  unfold numsOf
  rw [List.getD_eq_getElem?_getD, List.getElem?_map]
  cases h : s.data.toList[i]? with
  | none => simp
  | some y =>
    have := UInt8.toNat_lt y
    simp only [Option.map_some, Option.getD_some]
    omega

theorem puts_congr {xs : List Int} {c : Nat} {f g : Nat → Int} : ∀ k, (∀ i, i < k → f i = g i) → puts xs c f k = puts xs c g k
  | 0, _ => rfl
  | k + 1, h => by
    show bstep _ _ _ = bstep _ _ _
    rw [puts_congr k (fun i hi => h i (by omega)), h k (by omega)]
theorem puts_add (xs : List Int) (c : Nat) (f : Nat → Int) (m : Nat) : ∀ k, puts xs c f (m + k) = puts (puts xs c f m) (c + m) (fun i => f (m + i)) k
  | 0 => rfl
  | k + 1 => by
    show bstep (puts xs c f (m + k)) (c + (m + k)) (f (m + k)) = bstep _ (c + m + k) (f (m + k))
    rw [puts_add xs c f m k, Nat.add_assoc]

/-- The bytes when bits come behind the first c. -/
def putB (xs : List Int) (c : Nat) (bs : List Int) : List Int := puts xs c (fun i => bs.getD i 0) bs.length
def Bits01 (bs : List Int) : Prop := ∀ i, 0 ≤ bs.getD i 0 ∧ bs.getD i 0 ≤ 1
theorem Bits01.append {a b : List Int} (ha : Bits01 a) (hb : Bits01 b) : Bits01 (a ++ b) := fun i => by
  rw [List.getD_eq_getElem?_getD]
  by_cases h : i < a.length
  · rw [List.getElem?_append_left h, ← List.getD_eq_getElem?_getD]
    exact ha i
  · rw [List.getElem?_append_right (by omega), ← List.getD_eq_getElem?_getD]
    exact hb _
theorem putB_append (xs : List Int) (c : Nat) (a b : List Int) : putB xs c (a ++ b) = putB (putB xs c a) (c + a.length) b := by
  unfold putB
  rw [List.length_append, puts_add]
  have e1 : puts xs c (fun i => (a ++ b).getD i 0) a.length = puts xs c (fun i => a.getD i 0) a.length := puts_congr _ fun i hi => by
    show (a ++ b).getD i 0 = a.getD i 0
    rw [List.getD_eq_getElem?_getD, List.getElem?_append_left hi, ← List.getD_eq_getElem?_getD]
  rw [e1]
  refine puts_congr _ fun i _ => ?_
  show (a ++ b).getD (a.length + i) 0 = b.getD i 0
  rw [List.getD_eq_getElem?_getD, List.getElem?_append_right (by omega), ← List.getD_eq_getElem?_getD, Nat.add_sub_cancel_left]
theorem putB_inv {xs : List Int} {c : Nat} {bs : List Int} (h : Inv xs c) (h01 : Bits01 bs) : Inv (putB xs c bs) (c + bs.length) := inv_puts h h01 _
theorem putB_allB {xs : List Int} {c : Nat} {bs : List Int} (h : Inv xs c) (ha : AllB xs) (h01 : Bits01 bs) : AllB (putB xs c bs) := allB_puts h ha h01 _

/-- An Out with bits behind it: none where the Out isn't right, or they become too many. -/
def bitsOut (o : ByteArray × Nat) (bs : List Int) : Option (ByteArray × Nat) :=
  if outB o.1 o.2 = true ∧ o.2 + bs.length ≤ 96000 then some (strOfNums (putB (numsOf o.1) o.2 bs), o.2 + bs.length) else none
theorem bitsOut_some {s : ByteArray} {c : Nat} {bs : List Int} (h : outB s c = true) (hc : c + bs.length ≤ 96000) : bitsOut (s, c) bs = some (strOfNums (putB (numsOf s) c bs), c + bs.length) := if_pos ⟨h, hc⟩
theorem bitsOut_none {s : ByteArray} {c : Nat} {bs : List Int} (h : ¬ (outB s c = true ∧ c + bs.length ≤ 96000)) : bitsOut (s, c) bs = none := if_neg h
/-- What comes out is a right Out again, and its bytes are those numbers. -/
theorem bitsOut_right {o o' : ByteArray × Nat} {bs : List Int} (h : bitsOut o bs = some o') (h01 : Bits01 bs) : outB o'.1 o'.2 = true ∧ o'.2 = o.2 + bs.length ∧ o'.2 ≤ 96000 ∧ numsOf o'.1 = putB (numsOf o.1) o.2 bs ∧ o'.1 = strOfNums (putB (numsOf o.1) o.2 bs) ∧ outB o.1 o.2 = true := by
  unfold bitsOut at h
  split at h
  · rename_i hh
    cases h
    have hi := bytes_inv o.1 o.2 hh.1
    have hA := putB_allB hi (numsOf_allB o.1) h01
    exact ⟨outB_of_inv (putB_inv hi h01) hA hh.2, rfl, hh.2, nums_back hA, rfl, hh.1⟩
  · cases h
/-- A number's bits, the lowest first, or the highest first. -/
def pieceBits (x : Int) (n : Nat) (high : Bool) : List Int := (List.range n).map fun k => bitOf x (if high then n - 1 - k else k)
theorem pieceBits_length (x : Int) (n : Nat) (high : Bool) : (pieceBits x n high).length = n := by simp [pieceBits]
theorem pieceBits_getD (x : Int) (n : Nat) (high : Bool) {k : Nat} (h : k < n) : (pieceBits x n high).getD k 0 = bitOf x (if high then n - 1 - k else k) := by
  unfold pieceBits
  rw [List.getD_eq_getElem?_getD, List.getElem?_map, List.getElem?_range h]
  rfl
theorem pieceBits_01 (x : Int) (n : Nat) (high : Bool) : Bits01 (pieceBits x n high) := fun i => by
  by_cases h : i < n
  · rw [pieceBits_getD x n high h]
    exact bitOf_01 _ _
  · rw [List.getD_eq_getElem?_getD, List.getElem?_eq_none (by rw [pieceBits_length]; omega)]
    simp
def fillBits (c : Nat) : List Int := List.replicate ((8 - c % 8) % 8) 0
theorem fillBits_length (c : Nat) : (fillBits c).length = (8 - c % 8) % 8 := by simp [fillBits]
theorem zeros_getD (n i : Nat) : (List.replicate n (0 : Int)).getD i 0 = 0 := by
  rw [List.getD_eq_getElem?_getD, List.getElem?_replicate]
  split <;> rfl
theorem fillBits_01 (c : Nat) : Bits01 (fillBits c) := fun i => by
  unfold fillBits
  rw [zeros_getD]
  omega
/-- Whole bytes behind whole bytes. -/
def byteBits : List Int → List Int
  | [] => []
  | y :: ys => pieceBits y 8 false ++ byteBits ys
theorem byteBits_length : ∀ ys : List Int, (byteBits ys).length = 8 * ys.length
  | [] => rfl
  | y :: ys => by
    show (pieceBits y 8 false ++ byteBits ys).length = _
    rw [List.length_append, pieceBits_length, byteBits_length ys, List.length_cons]
    omega
theorem byteBits_01 : ∀ ys : List Int, Bits01 (byteBits ys)
  | [] => fun i => by rw [show (byteBits []) = [] from rfl]; simp
  | y :: ys => (pieceBits_01 y 8 false).append (byteBits_01 ys)
end BlockMath
end Go.Proofs.YtbcnlggkoidmmaaGreatDoor

namespace Go.Proofs.YtbcnlggkoidmmaaGreatDoor
open Go.RowKit OutMath PutMath BitsMath BlockMath

/-- An Out as what is told by it. -/
def outSt (s : ByteArray) (c : Int) : Option (ByteArray × Nat) := if outB s c = true then some (s, c.toNat) else none
/-- A block's three first bits. -/
def headBits (kind : Nat) (last : Bool) : List Int := pieceBits (if last then 1 else 0) 1 false ++ pieceBits (kind : Int) 2 false
theorem headBits_01 (kind : Nat) (last : Bool) : Bits01 (headBits kind last) := (pieceBits_01 _ _ _).append (pieceBits_01 _ _ _)
theorem headBits_length (kind : Nat) (last : Bool) : (headBits kind last).length = 3 := by
  unfold headBits
  rw [List.length_append, pieceBits_length, pieceBits_length]
/-- The bits of a block of type 0 behind the first three: the fill, both numbers, the text. -/
def storedBits (c : Nat) (t : ByteArray) : List Int := fillBits c ++ (pieceBits (t.size : Int) 16 false ++ (pieceBits (65535 - (t.size : Int)) 16 false ++ byteBits (numsOf t)))
/-- What StoredBlock comes to. -/
def storedOut (s : ByteArray) (c : Int) (t : ByteArray) (last : Bool) : Option (ByteArray × Nat) :=
  if t.size ≤ 2600 then (outSt s c).bind fun o => bitsOut o (headBits 0 last ++ storedBits (o.2 + 3) t) else none

/-- What is told to the caller. -/
def blkAns : Option (ByteArray × Nat) → Value
  | some o => .tuple #[.agg #[.string o.1, .int .i64 (o.2 : Int)], .bool true]
  | none => .tuple #[.agg #[.string ⟨#[]⟩, .int .i64 0], .bool false]

theorem blkAns_form (o : Option (ByteArray × Nat)) : ∃ t n b, blkAns o = .tuple #[.agg #[.string t, .int .i64 n], .bool b] := by
  cases o with
  | none => exact ⟨_, _, _, rfl⟩
  | some o => exact ⟨_, _, _, rfl⟩
end Go.Proofs.YtbcnlggkoidmmaaGreatDoor

namespace Go.Proofs.YtbcnlggkoidmmaaGreatDoor
namespace TrimMath
open TokMath

/-- What is left when what is 0 at the end is left out, but the first least ones. -/
def trimN (f : Nat → Int) (least : Nat) : Nat → Nat
  | 0 => 0
  | n + 1 => if least < n + 1 ∧ f n = 0 then trimN f least n else n + 1
theorem trimN_zero {f : Nat → Int} {least n : Nat} (h : least < n + 1) (h0 : f n = 0) : trimN f least (n + 1) = trimN f least n := if_pos ⟨h, h0⟩
theorem trimN_keep {f : Nat → Int} {least n : Nat} (h0 : f n ≠ 0) : trimN f least (n + 1) = n + 1 := if_neg fun h => h0 h.2
theorem trimN_least {f : Nat → Int} {least : Nat} : ∀ {n : Nat}, n ≤ least → trimN f least n = n
  | 0, _ => rfl
  | _ + 1, h => if_neg fun q => by omega
theorem trimN_le (f : Nat → Int) (least : Nat) : ∀ n, trimN f least n ≤ n
  | 0 => Nat.le_refl _
  | n + 1 => by
    unfold trimN
    split
    · have := trimN_le f least n
      omega
    · exact Nat.le_refl _
theorem trimN_ge (f : Nat → Int) (least : Nat) : ∀ n, least ≤ n → least ≤ trimN f least n
  | 0, h => h
  | n + 1, h => by
    unfold trimN
    split
    · exact trimN_ge f least n (by omega)
    · exact h
/-- What is left out is 0. -/
theorem trimN_out (f : Nat → Int) (least : Nat) : ∀ n i, trimN f least n ≤ i → i < n → f i = 0
  | 0, i, _, h => by omega
  | n + 1, i, h1, h2 => by
    unfold trimN at h1
    split at h1
    · rename_i q
      by_cases e : i = n
      · rw [e]; exact q.2
      · exact trimN_out f least n i h1 (by omega)
    · omega

/-- Tokens that are all right, and not too many. -/
def TokensRight (L : List Tok) : Prop := L.length ≤ 12000 ∧ ∀ t ∈ L, TokRight t
instance (L : List Tok) : Decidable (TokensRight L) := by unfold TokensRight; exact inferInstance
end TrimMath
end Go.Proofs.YtbcnlggkoidmmaaGreatDoor

namespace Go.Proofs.YtbcnlggkoidmmaaGreatDoor
namespace TokLenMath
open TokMath StepMath

/-- A token's symbol of the first code, and, of a token that repeats, of the second. -/
def sym1 (t : Tok) : Nat := if t.2.1 = 0 then t.1.toNat else (LengthCodeOf t.2.1).1.toNat
def sym2 (t : Tok) : Nat := (DistCodeOf t.2.2).1.toNat
/-- How often each symbol is met; the end of the block once. -/
def cntA (L : List Tok) (i : Nat) : Int := (if i = 256 then 1 else 0) + ((L.filter fun t => decide (sym1 t = i)).length : Int)
def cntB (L : List Tok) (i : Nat) : Int := ((L.filter fun t => decide (t.2.1 ≠ 0 ∧ sym2 t = i)).length : Int)
theorem sym1_byte {x z : Int} : sym1 (x, 0, z) = x.toNat := if_pos rfl
theorem sym1_rep {x y z : Int} (h : y ≠ 0) : sym1 (x, y, z) = (LengthCodeOf y).1.toNat := if_neg h
theorem len_range {y : Int} (h : 3 ≤ y ∧ y ≤ 258) : 257 ≤ (LengthCodeOf y).1 ∧ (LengthCodeOf y).1 ≤ 285 := by
  unfold LengthCodeOf
  rw [if_pos h]
  unfold lenCode
  split
  · have := (len_fact (n := y.toNat) (by omega) (by omega)).1
    simp only []
    omega
  · simp only []
    omega
theorem dist_range {z : Int} (h : 1 ≤ z ∧ z ≤ 32768) : 0 ≤ (DistCodeOf z).1 ∧ (DistCodeOf z).1 ≤ 29 := by
  unfold DistCodeOf
  rw [if_pos h]
  unfold distCode
  have := (dist_fact (n := z.toNat) (by omega) (by omega)).1
  simp only []
  omega
theorem sym1_lt {t : Tok} (h : TokRight t) : sym1 t < 286 ∧ sym1 t ≠ 256 := by
  obtain ⟨x, y, z⟩ := t
  unfold TokRight at h
  by_cases e : y = 0
  · subst e
    rw [if_pos rfl] at h
    rw [sym1_byte]
    simp only [] at h
    omega
  · rw [if_neg e] at h
    rw [sym1_rep e]
    have := len_range (y := y) h.2.1
    omega
theorem cnt_le (L : List Tok) (p : Tok → Bool) : (L.filter p).length ≤ L.length := List.length_filter_le p L
/-- Counts that may be limited: each is at most the number of the tokens, but for the end of the block. -/
theorem cntA_le {L : List Tok} (h : ∀ t ∈ L, TokRight t) (hL : L.length ≤ 12000) (i : Nat) : 0 ≤ cntA L i ∧ cntA L i ≤ 12000 := by
  unfold cntA
  by_cases e : i = 256
  · have h0 : (L.filter fun t => decide (sym1 t = i)) = [] := List.filter_eq_nil_iff.mpr fun t ht => by
      have := (sym1_lt (h t ht)).2
      simp only [decide_eq_true_eq]
      omega
    rw [h0, if_pos e]
    simp
  · rw [if_neg e]
    have := cnt_le L (fun t => decide (sym1 t = i))
    omega
theorem cntB_le {L : List Tok} (hL : L.length ≤ 12000) (i : Nat) : 0 ≤ cntB L i ∧ cntB L i ≤ 12000 := by
  unfold cntB
  have := cnt_le L (fun t => decide (t.2.1 ≠ 0 ∧ sym2 t = i))
  omega
end TokLenMath
end Go.Proofs.YtbcnlggkoidmmaaGreatDoor

namespace Go.Proofs.YtbcnlggkoidmmaaGreatDoor
namespace TellMath
open TokMath StepMath

/-- A symbol, how many extra bits it has, and these. -/
abbrev Cod := Int × Int × Int
def symsT (t : Tok) : List (Bool × Cod) := if t.2.1 = 0 then [(false, (t.1, 0, 0))] else [(false, LengthCodeOf t.2.1), (true, DistCodeOf t.2.2)]
def symsL (L : List Tok) : List (Bool × Cod) := L.flatMap symsT
theorem symsT_byte (x z : Int) : symsT (x, 0, z) = [(false, (x, 0, 0))] := if_pos rfl
theorem symsT_rep (x : Int) {y : Int} (z : Int) (h : y ≠ 0) : symsT (x, y, z) = [(false, LengthCodeOf y), (true, DistCodeOf z)] := if_neg h
theorem symsL_snoc {L : List Tok} {j : Nat} (h : j < L.length) : symsL (L.take (j + 1)) = symsL (L.take j) ++ symsT (L.getD j (0, 0, 0)) := by
  unfold symsL
  rw [List.take_add_one, List.getElem?_eq_getElem h, List.flatMap_append, List.getD_eq_getElem?_getD, List.getElem?_eq_getElem h]
  simp
theorem symsT_length (t : Tok) : (symsT t).length ≤ 2 := by
  unfold symsT
  split <;> simp
theorem symsL_length : ∀ L : List Tok, (symsL L).length ≤ 2 * L.length
  | [] => Nat.le_refl _
  | t :: L => by
    have h1 := symsL_length L
    have h2 := symsT_length t
    show (symsT t ++ symsL L).length ≤ _
    rw [List.length_append, List.length_cons]
    omega
end TellMath
end Go.Proofs.YtbcnlggkoidmmaaGreatDoor

namespace Go.Proofs.YtbcnlggkoidmmaaGreatDoor
namespace PartMath
open OutMath PutMath BlockMath

/-- A part: its number, in how many bits, whether the highest one comes first. -/
abbrev Part := Int × Nat × Bool
def bitsP (p : Part) : List Int := pieceBits p.1 p.2.1 p.2.2
/-- The bits of parts, in order. -/
def partBits : List Part → List Int
  | [] => []
  | p :: l => bitsP p ++ partBits l
theorem partBits_app : ∀ a b : List Part, partBits (a ++ b) = partBits a ++ partBits b
  | [], _ => rfl
  | p :: l, b => by
    show bitsP p ++ partBits (l ++ b) = (bitsP p ++ partBits l) ++ partBits b
    rw [partBits_app l b, List.append_assoc]
theorem bits01_nil : Bits01 [] := fun i => by simp
theorem partBits_01 : ∀ l : List Part, Bits01 (partBits l)
  | [] => bits01_nil
  | _ :: l => (pieceBits_01 _ _ _).append (partBits_01 l)
theorem bitsP_length (p : Part) : (bitsP p).length = p.2.1 := pieceBits_length _ _ _
/-- A part that can be put. -/
def Right (p : Part) : Prop := 0 ≤ p.1 ∧ p.1 ≤ 16777216 ∧ p.2.1 ≤ 24
theorem partBits_le : ∀ l : List Part, (∀ p ∈ l, Right p) → (partBits l).length ≤ 24 * l.length
  | [], _ => Nat.le_refl _
  | p :: l, h => by
    have h1 := partBits_le l fun q hq => h q (List.mem_cons_of_mem _ hq)
    have h2 := (h p (List.mem_cons_self ..)).2.2
    show (bitsP p ++ partBits l).length ≤ _
    rw [List.length_append, bitsP_length, List.length_cons]
    omega
theorem partBits_take {l : List Part} {j : Nat} (h : j < l.length) : partBits (l.take (j + 1)) = partBits (l.take j) ++ bitsP (l.getD j (0, 0, false)) := by
  rw [List.take_add_one, List.getElem?_eq_getElem h, partBits_app, List.getD_eq_getElem?_getD, List.getElem?_eq_getElem h]
  show _ ++ (bitsP _ ++ []) = _
  rw [List.append_nil]
  rfl
/-- The first parts have no more bits than all. -/
theorem partBits_take_le : ∀ (l : List Part) (j : Nat), (partBits (l.take j)).length ≤ (partBits l).length
  | [], _ => by simp
  | _ :: _, 0 => Nat.zero_le _
  | p :: l, j + 1 => by
    show (bitsP p ++ partBits (l.take j)).length ≤ (bitsP p ++ partBits l).length
    have := partBits_take_le l j
    rw [List.length_append, List.length_append]
    omega
theorem putB_nil (xs : List Int) (c : Nat) : putB xs c [] = xs := rfl
/-- A part of no bits tells nothing. -/
theorem bitsP_none (x : Int) (h : Bool) : bitsP (x, 0, h) = [] := rfl
end PartMath
end Go.Proofs.YtbcnlggkoidmmaaGreatDoor
