/-
  Unpacking, in plain numbers: what comes of a packed text, or which code is met first. Nothing here speaks of the program.
  What is handed back, by its number. Nothing here speaks of the program.
  The walk of the model's powers of two.
  A byte of a text, read.
  The walk of TakeBits in the document's model.
-/
import Derived.Test.YtedbmhelmenknaaDoorPk05
import Derived.Test.YtedbmhelmenknaaDoorPk06
import Derived.Test.YtedbmhelmenknaaDoorPk03
import Derived.Test.YtedbmhelmenknaaDoorPk01
import Derived.Test.YtedbmhelmenknaaDoorRows
import Derived.Test.YtedbmhelmenknaaDoorPk02
import Derived.WalkKit
import Derived.ProofKit
import Derived.WalkLawsBesides
import Derived.Deep.QuietTactic
import Derived.BigQuiet
import Derived.Lib.SmallJoins
import Derived.RegionTactic
namespace Go.Proofs.YtedbmhelmenknaaDoor.InfMath
open OutMath CodeMath TakeMath HitMath WayMath StepMath TokMath RunsMath

section
variable (s : ByteArray) (most : Nat)
/-- The next n bits, and the place behind them. -/
def takeE (p n : Nat) : Except Nat (Int × Nat) := if p + n ≤ 8 * s.size then .ok (num s p n, p + n) else .error 2
/-- The next symbol of a code, and the place behind it. -/
noncomputable def symE (f : Nat → Int) (n p : Nat) : Except Nat (Nat × Nat) := if (symW f n s p).2.2 = 0 then .ok ((symW f n s p).1, p + (symW f n s p).2.1) else if (symW f n s p).2.2 = 2 then .error 2 else .error 6
def bytesAt (p n : Nat) : List Int := (List.range n).map fun i => num s (p + 8 * i) 8
/-- The next whole byte. -/
def wholeAt (p : Nat) : Nat := 8 * ((p + 7) / 8)
/-- A block of type 0. -/
def storedE (p : Nat) (O : List Int) : Except Nat (List Int × Nat) :=
  if wholeAt p + 32 ≤ 8 * s.size then
    (if num s (wholeAt p) 16 + num s (wholeAt p + 16) 16 ≠ 65535 then .error 4
     else if (most : Int) - O.length < num s (wholeAt p) 16 then .error 8
     else if wholeAt p + 32 + 8 * (num s (wholeAt p) 16).toNat ≤ 8 * s.size then .ok (O ++ bytesAt s (wholeAt p + 32) (num s (wholeAt p) 16).toNat, wholeAt p + 32 + 8 * (num s (wholeAt p) 16).toNat)
     else .error 2)
  else .error 2
/-- In which order the lengths of the third code come. -/
def orderL : List Nat := [16, 17, 18, 0, 8, 7, 9, 6, 10, 5, 11, 4, 12, 3, 13, 2, 14, 1, 15]
/-- The third code's lengths, when k have come. -/
def thirdF (p k : Nat) : Nat → Int := fun i => if orderL.idxOf i < k then num s (p + 3 * orderL.idxOf i) 3 else 0
/-- Runs by the third code, up to N lengths. -/
noncomputable def allF (f3 : Nat → Int) (N : Nat) : Nat → Nat → List Int → Except Nat (List Int × Nat)
  | 0, _, _ => .error 9
  | m + 1, p, L => if L.length < N then
      match symE s f3 19 p with
      | .error x => .error x
      | .ok (y, p1) => match takeE s p1 (bitsOf (y : Int)) with
        | .error x => .error x
        | .ok (x, p2) => match tell L ((y : Int), x) with
          | none => .error 5
          | some more => if L.length + more.length ≤ N then allF f3 N m p2 (L ++ more) else .error 5
    else .ok (L, p)
/-- What the lengths must be. -/
def TabRight (n : Nat) (L : List Int) : Prop := (kindOf (fun i => L.getD i 0) n = 2 ∨ kindOf (fun i => L.getD i 0) n = 3) ∧ L.getD 256 0 ≠ 0 ∧ (kindOf (fun i => (L.drop n).getD i 0) (L.length - n) = 1 ∨ kindOf (fun i => (L.drop n).getD i 0) (L.length - n) = 2 ∨ kindOf (fun i => (L.drop n).getD i 0) (L.length - n) = 3)
instance (n : Nat) (L : List Int) : Decidable (TabRight n L) := by unfold TabRight; exact inferInstance
/-- The lengths of both codes of a block of type 2, one behind the other; how many the first has; the place behind them. -/
noncomputable def tablesE (p : Nat) : Except Nat (List Int × Nat × Nat) :=
  if p + 14 ≤ 8 * s.size then
    (if 29 < num s p 5 ∨ 29 < num s (p + 5) 5 then .error 5
     else if p + 14 + 3 * (num s (p + 10) 4 + 4).toNat ≤ 8 * s.size then
       (if kindOf (thirdF s (p + 14) (num s (p + 10) 4 + 4).toNat) 19 ≠ 2 then .error 5
        else match allF s (thirdF s (p + 14) (num s (p + 10) 4 + 4).toNat) ((num s p 5 + 257).toNat + (num s (p + 5) 5 + 1).toNat) (8 * s.size + 1) (p + 14 + 3 * (num s (p + 10) 4 + 4).toNat) [] with
          | .error x => .error x
          | .ok (L, p2) => if TabRight (num s p 5 + 257).toNat L then .ok (L, (num s p 5 + 257).toNat, p2) else .error 5)
     else .error 2)
  else .error 2
/-- The symbols of a block. -/
noncomputable def symbolsF (f1 : Nat → Int) (n1 : Nat) (f2 : Nat → Int) (n2 : Nat) : Nat → Nat → List Int → Except Nat (List Int × Nat)
  | 0, _, _ => .error 9
  | m + 1, p, O => match symE s f1 n1 p with
    | .error x => .error x
    | .ok (y, p1) =>
      if y = 256 then .ok (O, p1)
      else if y < 256 then (if O.length = most then .error 8 else symbolsF f1 n1 f2 n2 m p1 (O ++ [(y : Int)]))
      else if 285 < y then .error 6
      else match takeE s p1 (lenBits y).1 with
        | .error x => .error x
        | .ok (x, p2) => match symE s f2 n2 p2 with
          | .error x => .error x
          | .ok (q, p3) =>
            if 29 < q then .error 6
            else match takeE s p3 (distBits q).1 with
              | .error x => .error x
              | .ok (z, p4) =>
                if (O.length : Int) < (distBits q).2 + z then .error 7
                else if (most : Int) - O.length < (lenBits y).2 + x then .error 8
                else symbolsF f1 n1 f2 n2 m p4 (copyN ((distBits q).2 + z).toNat ((lenBits y).2 + x).toNat O)
/-- The lengths of type 1. -/
def fixed1 (i : Nat) : Int := if i < 144 then 8 else if i < 256 then 9 else if i < 280 then 7 else 8
def fixed2 (_ : Nat) : Int := 5
/-- What stands in a block, behind its first three bits. -/
noncomputable def blockE (kind : Int) (p : Nat) (O : List Int) : Except Nat (List Int × Nat) :=
  if kind = 0 then storedE s most p O
  else if kind = 1 then symbolsF s most fixed1 288 fixed2 32 (8 * s.size + 1) p O
  else if kind = 2 then (match tablesE s p with
    | .error x => .error x
    | .ok (L, n, p2) => symbolsF s most (fun i => L.getD i 0) n (fun i => (L.drop n).getD i 0) (L.length - n) (8 * s.size + 1) p2 O)
  else .error 3
/-- The blocks. -/
noncomputable def blocksF : Nat → Nat → List Int → List Int → Except Nat (List Int × Nat × List Int)
  | 0, _, _, _ => .error 9
  | m + 1, p, O, Ty => if p + 3 ≤ 8 * s.size then
      match blockE s most (num s (p + 1) 2) (p + 3) O with
      | .error x => .error x
      | .ok (O', p') => if num s p 1 = 0 then blocksF m p' O' (Ty ++ [num s (p + 1) 2]) else .ok (O', p', Ty ++ [num s (p + 1) 2])
    else .error 2
end
/-- What is asked of Inflate. -/
noncomputable def inflateE (s : ByteArray) (most : Int) : Except Nat (List Int × Nat × List Int) := if s.size ≤ 12000 ∧ 0 ≤ most ∧ most ≤ 12000 then blocksF s most.toNat (8 * s.size + 1) 0 [] [] else .error 1

end Go.Proofs.YtedbmhelmenknaaDoor.InfMath

namespace Go.Proofs.YtedbmhelmenknaaDoor
open Go.RowKit

theorem ret_i {k : IntKind} {a b : Int} (h : a = b) : Ending.returned (.int k a) = .returned (.int k b) := by rw [h]
theorem ret_b {a b : Bool} (h : a = b) : Ending.returned (.bool a) = .returned (.bool b) := by rw [h]

end Go.Proofs.YtedbmhelmenknaaDoor

namespace Go.Proofs.YtedbmhelmenknaaDoor
open Go.RowKit Go.Joins OutMath

set_option maxHeartbeats 400000 in
theorem pow_any (n : Nat) (w : World) (h : n ≤ 61) :
    Calls Tryd.prog 45 #[.int .i64 n] w fun e w' => e = .returned (.int .i64 (p2 n)) ∧ w' = w := by
  go_enter Tryd.func45, Tryd.ntmps45
  go_wp2
  go_loop [3, 4] (fun x i => ∃ j : Nat, j ≤ n ∧ i = .int .i64 j ∧ x = .int .i64 (p2 j)) (fun _ i => n - (intOf i).toNat)
  case atStart => exact ⟨0, Nat.zero_le _, rfl, by rw [p2_zero]⟩
  case round =>
    obtain ⟨j, hj, rfl, rfl⟩ := hrel
    have hp := p2_pos j
    have hq := p2_61 (n := j) (by omega)
    by_cases hlt : j < n
    · go_wp2
      go_round
      case rel => exact ⟨j + 1, by omega, by go_num, by rw [p2_succ]⟩
      case measure => simp [intOf]; omega
    · go_wp2
      go_ret
      exact ⟨ret_i (by rw [show j = n by omega]), rfl⟩

theorem pow_int (n : Int) (w : World) (h0 : 0 ≤ n) (h : n ≤ 61) :
    Calls Tryd.prog 45 #[.int .i64 n] w fun e w' => e = .returned (.int .i64 (p2 n.toNat)) ∧ w' = w := by
  obtain ⟨m, rfl⟩ := Int.eq_ofNat_of_zero_le h0
  exact pow_any m w (by omega)

end Go.Proofs.YtedbmhelmenknaaDoor

namespace Go.Proofs.YtedbmhelmenknaaDoor
open Go.RowKit Go.Joins TakeMath

theorem index_byte (s : ByteArray) (i : Nat) (h : i < s.size) (w : World) : (Instr.index 9 (.string s) (.int .i64 i)).run Tryd.prog w = .ok (.int .u8 (byteAt s i)) w := by
  rw [run_index_string w 9 s .i64 _ Tryd.underlying9, dif_pos ⟨by omega, by omega⟩]
  have e : ((i : Int)).toNat = i := by omega
  simp only [e]
  rw [byteAt_get]

theorem index_byteI (s : ByteArray) (x : Int) (i : Nat) (hx : x = i) (h : i < s.size) (w : World) : (Instr.index 9 (.string s) (.int .i64 x)).run Tryd.prog w = .ok (.int .u8 (byteAt s i)) w := by
  subst hx
  exact index_byte s i h w

end Go.Proofs.YtedbmhelmenknaaDoor

namespace Go.Proofs.YtedbmhelmenknaaDoor
open Go.RowKit Go.Joins OutMath TakeMath

set_option maxHeartbeats 400000 in
theorem specTake_yes (s : ByteArray) (a n : Nat) (w : World) (h1 : s.size ≤ 12000) (h2 : n ≤ 24) (h3 : a + n ≤ 8 * s.size) :
    Calls Tryd.prog 24 #[.agg #[.string s, .int .i64 a], .int .i64 n] w fun e w' => e = .returned (.tuple #[.int .i64 (num s a n), .agg #[.string s, .int .i64 (a + n)], .bool true]) ∧ Below w.heap.size w w' := by
  have d1 : decide ((12000 : Int) < s.size) = false := by simp; omega
  have d2 : decide ((a : Int) < 0) = false := by simp
  have d3 : decide (8 * (s.size : Int) - (n : Int) < (a : Int)) = false := by simp; omega
  go_enter Tryd.func24, Tryd.ntmps24
  go_wp2_with fail
  refine (in_yes _ _ _ _ (by omega) (by omega)).mono ?_
  rintro e w1 ⟨rfl, rfl⟩
  go_wp2_with fail
  have hB0 : Below w.heap.size w ((w.alloc (.cells #[.string s, .int .i64 a] 31)).alloc (.cells #[.string ⟨#[]⟩, .int .i64 0] 31)) := bal (bstart _ _) _
  go_loopw [7, 8] (fun x k w' => ∃ j : Nat, j ≤ n ∧ k = .int .i64 j ∧ x = .int .i64 (num s a j) ∧ Below ((w.alloc (.cells #[.string s, .int .i64 a] 31)).alloc (.cells #[.string ⟨#[]⟩, .int .i64 0] 31)).heap.size ((w.alloc (.cells #[.string s, .int .i64 a] 31)).alloc (.cells #[.string ⟨#[]⟩, .int .i64 0] 31)) w') (fun _ k _ => n - (intOf k).toNat)
  case atStart => exact ⟨0, Nat.zero_le _, rfl, rfl, Below.refl _ _⟩
  case round =>
    obtain ⟨j, hj, rfl, rfl, hB⟩ := hrel
    obtain ⟨k1, f1⟩ := bcell hB
    have hz : w.heap.size + 1 < wr.heap.size := by have := hB.size; simp at this; omega
    have hb := num_bd s a j
    have hp := p2_pos j
    have hp4 := p2_24 (n := j) (by omega)
    by_cases hlt : j < n
    · have hix := index_byteI s (((a : Int) + (j : Int)) / 8) ((a + j) / 8) (by omega) (by omega)
      have hy := byteAt_lt s ((a + j) / 8)
      have q1 : ((a : Int) + (j : Int)).tdiv 8 = ((a : Int) + (j : Int)) / 8 := Int.tdiv_eq_ediv_of_nonneg (by omega)
      have q2 : ((a : Int) + (j : Int)).tmod 8 = ((a : Int) + (j : Int)) % 8 := Int.tmod_eq_emod_of_nonneg (by omega)
      have q3 : IntKind.i64.wrap (((a : Int) + (j : Int)) / 8) = ((a : Int) + (j : Int)) / 8 := by rw [IntKind.wrap_i64]; omega
      have hq := p2_pos (((a : Int) + (j : Int)) % 8).toNat
      have hw := bit_walk s (a + j)
      have hm := mul01 _ _ (bit_01 s (a + j)).1 (bit_01 s (a + j)).2 hp
      have HN : Hid (num s a (j + 1) = num s a j + bit s (a + j) * p2 j) := rfl
      go_wp2_with fail
      go_quiet ((go_at_call 45; exact Calls.quiet_of_same (pow_int _ _ (by omega) (by omega))))
      go_wp2_with fail
      refine (pow_any j _ (by omega)).mono ?_
      rintro e w1 ⟨rfl, rfl⟩
      go_wp2_with fail
      go_roundw
      case rel => exact ⟨j + 1, by omega, by go_num, by rw [HN.out], bdraws hB _⟩
      case measure => simp [intOf]; omega
    · obtain rfl : j = n := by omega
      have hw8 : IntKind.i64.wrap ((a : Int) + (j : Int)) = (a : Int) + (j : Int) := by rw [IntKind.wrap_i64]; omega
      have hBB : Below w.heap.size w wr := bnext hB0 hB
      go_wp2_with fail
      go_region
      all_goals
        go_wp2
        refine bodyPost_ret (v := .tuple #[.int .i64 (num s a j), .agg #[.string s, .int .i64 (a + j)], .bool true]) (by simp [results, Tryd.results24, go_sem, k1]) rfl ⟨rfl, ?_⟩
        refine Below.drew (Below.setCell (Below.setCell hBB ?_ _) ?_ _)
        · simp
        · simp

set_option maxHeartbeats 400000 in
theorem specTake_no (s : ByteArray) (a n : Int) (w : World) (hs : s.size ≤ maxLen) (h : ¬ (0 ≤ n ∧ n ≤ 24 ∧ s.size ≤ 12000 ∧ 0 ≤ a ∧ a + n ≤ 8 * s.size)) :
    Calls Tryd.prog 24 #[.agg #[.string s, .int .i64 a], .int .i64 n] w fun e w' => e = .returned (.tuple #[.int .i64 0, .agg #[.string ⟨#[]⟩, .int .i64 0], .bool false]) ∧ Below w.heap.size w w' := by
  unfold maxLen at hs
  by_cases h0 : 0 ≤ n ∧ n ≤ 24
  · obtain ⟨h1, h2⟩ := h0
    by_cases h3 : (12000 : Int) < s.size
    · clear h
      go_enter Tryd.func24, Tryd.ntmps24
      go_wp2_with fail
      refine (in_yes _ _ _ _ (by omega) (by omega)).mono ?_
      rintro e w1 ⟨rfl, rfl⟩
      go_wp2_with fail
      refine bodyPost_ret (v := .tuple #[.int .i64 0, .agg #[.string ⟨#[]⟩, .int .i64 0], .bool false]) (by simp [results, Tryd.results24, go_sem]) rfl ⟨rfl, bal (bstart _ _) _⟩
    · have d1 : decide ((12000 : Int) < s.size) = false := by simpa using h3
      by_cases h4 : a < 0
      · clear h
        go_enter Tryd.func24, Tryd.ntmps24
        go_wp2_with fail
        refine (in_yes _ _ _ _ (by omega) (by omega)).mono ?_
        rintro e w1 ⟨rfl, rfl⟩
        go_wp2_with fail
        refine bodyPost_ret (v := .tuple #[.int .i64 0, .agg #[.string ⟨#[]⟩, .int .i64 0], .bool false]) (by simp [results, Tryd.results24, go_sem]) rfl ⟨rfl, bal (bstart _ _) _⟩
      · have d2 : decide (a < 0) = false := by simpa using h4
        have d3 : 8 * (s.size : Int) - n < a := by omega
        clear h
        go_enter Tryd.func24, Tryd.ntmps24
        go_wp2_with fail
        refine (in_yes _ _ _ _ (by omega) (by omega)).mono ?_
        rintro e w1 ⟨rfl, rfl⟩
        go_wp2_with fail
        refine bodyPost_ret (v := .tuple #[.int .i64 0, .agg #[.string ⟨#[]⟩, .int .i64 0], .bool false]) (by simp [results, Tryd.results24, go_sem]) rfl ⟨rfl, bal (bstart _ _) _⟩
  · have H : Hid (¬ (0 ≤ n ∧ n ≤ 24)) := h0
    clear h h0
    go_enter Tryd.func24, Tryd.ntmps24
    go_wp2_with fail
    refine (in_no _ _ _ _ H.out).mono ?_
    rintro e w1 ⟨rfl, rfl⟩
    go_wp2_with fail
    refine bodyPost_ret (v := .tuple #[.int .i64 0, .agg #[.string ⟨#[]⟩, .int .i64 0], .bool false]) (by simp [results, Tryd.results24, go_sem]) rfl ⟨rfl, bal (bstart _ _) _⟩
end Go.Proofs.YtedbmhelmenknaaDoor
