/-
  The walks of the document's model of the symbols of distances.
  The walks of the document's model of distances: their symbols and extra bits.
  What the symbols of a block come to, by cases; the bits of a length and of a distance in the model.
-/
import Derived.Test.YtedbmhelmenknaaDoorRows
import Derived.Test.YtedbmhelmenknaaDoorPk01
import Derived.Test.YtedbmhelmenknaaDoorPk05
import Derived.Test.YtedbmhelmenknaaDoorPk07
import Derived.Test.YtedbmhelmenknaaDoorPk02
import Derived.Test.YtedbmhelmenknaaDoorPk06
import Derived.Test.YtedbmhelmenknaaDoorPk14
import Derived.Test.YtedbmhelmenknaaDoorPk10
import Derived.Test.YtedbmhelmenknaaDoorPk15
import Derived.Test.YtedbmhelmenknaaDoorPk16
import Derived.Test.YtedbmhelmenknaaDoorPk17
import Derived.WalkKit
import Derived.ProofKit
import Derived.WalkLawsBesides
import Derived.Lib.SmallJoins
import Derived.OwnWalk
import Derived.BigQuiet
import Derived.Deep.LoopGhost
import Derived.Deep.AppendLies
import Derived.Below
namespace Go.Proofs.YtedbmhelmenknaaDoor
open Go.RowKit Go.Joins OutMath StepMath

theorem bits2 {j : Nat} (h : 2 ≤ j) : ((j : Int) - 2).tdiv 2 = ((bitsN 2 j : Nat) : Int) := by
  rw [Int.tdiv_eq_ediv_of_nonneg (by omega)]
  unfold bitsN
  omega

set_option maxHeartbeats 800000 in
theorem specDistBits (j : Nat) (w : World) (h : j < 30) :
    Calls Tryd.prog 30 #[.int .i64 (j : Int)] w fun e w' => e = .returned (.tuple #[.int .i64 ((bitsN 2 j : Nat) : Int), .int .i64 ((fromN 1 2 j : Nat) : Int)]) ∧ w' = w := by
  by_cases h4 : j < 4
  · have e1 := (dist_small j (by omega)).1
    have e2 := (dist_bits j h).2 h4
    rw [e1, e2]
    have d : decide ((j : Int) < 4) = true := decide_eq_true (by omega)
    go_enter Tryd.func30, Tryd.ntmps30
    go_wp2_with fail
    go_ret2
    exact ⟨ret_ii rfl (by omega), rfl⟩
  · have d : decide ((j : Int) < 4) = false := decide_eq_false (by omega)
    have hq := bits2 (show 2 ≤ j by omega)
    have hb := (dist_bits j h).1
    go_enter Tryd.func30, Tryd.ntmps30
    go_wp2_with fail
    go_loop [4, 5] (fun x i => ∃ q : Nat, 4 ≤ q ∧ q ≤ j ∧ i = .int .i64 (q : Int) ∧ x = .int .i64 ((fromN 1 2 q : Nat) : Int)) (fun _ i => 300 - (intOf i).toNat)
    case atStart => exact ⟨4, by omega, by omega, rfl, by rw [dist_4]; rfl⟩
    case round =>
      obtain ⟨q, hq1, hq2, rfl, rfl⟩ := hrel
      have hf := from_le (c := 1) (k := 2) (show q ≤ 30 by omega)
      rw [dist_30] at hf
      by_cases hlt : q < j
      · have g3 := bits2 (show 2 ≤ q by omega)
        have g4 := (dist_bits q (by omega)).1
        have g5 := p2_le (show bitsN 2 q ≤ 13 by omega)
        have g6 : p2 13 = 8192 := by decide +kernel
        have g7 := p2_pos (bitsN 2 q)
        have HN := hid_of (from_next 1 2 q)
        go_wp2_with fail
        refine (pow_any _ _ (by omega)).mono ?_
        rintro e w1 ⟨rfl, rfl⟩
        go_wp2_with fail
        go_round
        case rel => exact ⟨q + 1, by omega, by omega, by go_num, by rw [HN.out]⟩
        case measure => simp [intOf]; omega
      · obtain rfl : q = j := by omega
        go_wp2_with fail
        go_ret2
        exact ⟨rfl, rfl⟩

/-- What the ring of DistCode has at hand: symbol, bits, least distance. -/
def distSt (n q : Nat) : Nat × Nat × Nat := (findN 1 2 n q, bitsN 2 (findN 1 2 n q), fromN 1 2 (findN 1 2 n q))
theorem distSt_hit {n q : Nat} (h : fromN 1 2 q ≤ n) : distSt n (q + 1) = (q, bitsN 2 q, fromN 1 2 q) := by
  unfold distSt
  rw [find_step, if_pos h]
theorem distSt_miss {n q : Nat} (h : ¬ fromN 1 2 q ≤ n) : distSt n (q + 1) = distSt n q := by
  unfold distSt
  rw [find_step, if_neg h]
theorem distSt_zero (n : Nat) : distSt n 0 = (0, 0, 1) := by
  show (0, bitsN 2 0, 1) = _
  rw [show bitsN 2 0 = 0 by decide]
theorem distSt_done {n : Nat} : distSt n 30 = (findN 1 2 n 30, bitsN 2 (findN 1 2 n 30), fromN 1 2 (findN 1 2 n 30)) := rfl

end Go.Proofs.YtedbmhelmenknaaDoor

namespace Go.Proofs.YtedbmhelmenknaaDoor
open Go.RowKit Go.Joins OutMath StepMath

theorem specDistOf_out (s x : Int) (w : World) (h : ¬ (0 ≤ s ∧ s ≤ 29)) :
    Calls Tryd.prog 31 #[.int .i64 s, .int .i64 x] w fun e w' => e = .returned (.tuple #[.int .i64 0, .bool false]) ∧ w' = w := by
  go_enter Tryd.func31, Tryd.ntmps31
  go_wp2_with fail
  refine (in_no _ _ _ _ h).mono ?_
  rintro e w1 ⟨rfl, rfl⟩
  go_wp2_with fail
  go_ret2
  exact ⟨rfl, rfl⟩
set_option maxHeartbeats 800000 in
theorem specDistOf_at (s x : Int) (m z : Nat) (w : World) (h1 : 0 ≤ s) (h2 : s ≤ 29) (hb : ∀ W, Calls Tryd.prog 30 #[.int .i64 s] W fun e w' => e = .returned (.tuple #[.int .i64 ((m : Nat) : Int), .int .i64 ((z : Nat) : Int)]) ∧ w' = W) (hm : m ≤ 13) (hz : z ≤ 32768) :
    Calls Tryd.prog 31 #[.int .i64 s, .int .i64 x] w fun e w' => e = .returned (.tuple #[.int .i64 (if 0 ≤ x ∧ x < 2 ^ m then (z : Int) + x else 0), .bool (decide (0 ≤ x ∧ x < 2 ^ m))]) ∧ w' = w := by
  have hp : p2 m = 2 ^ m := rfl
  have hp1 := p2_pos m
  have hp2 := p2_le hm
  have hp3 : p2 13 = 8192 := by decide +kernel
  rw [← hp]
  clear hp
  by_cases hx : 0 ≤ x ∧ x < p2 m
  · rw [if_pos hx, decide_eq_true hx]
    go_enter Tryd.func31, Tryd.ntmps31
    go_wp2_with fail
    refine (in_yes _ _ _ _ h1 h2).mono ?_
    rintro e w1 ⟨rfl, rfl⟩
    go_wp2_with fail
    refine (hb _).mono ?_
    rintro e w2 ⟨rfl, rfl⟩
    go_wp2_with fail
    refine (pow_any _ _ (by omega)).mono ?_
    rintro e w3 ⟨rfl, rfl⟩
    go_wp2_with fail
    refine (in_yes _ _ _ _ (by omega) (by omega)).mono ?_
    rintro e w4 ⟨rfl, rfl⟩
    go_wp2_with fail
    go_ret2
    exact ⟨rfl, rfl⟩
  · rw [if_neg hx, decide_eq_false hx]
    go_enter Tryd.func31, Tryd.ntmps31
    go_wp2_with fail
    refine (in_yes _ _ _ _ h1 h2).mono ?_
    rintro e w1 ⟨rfl, rfl⟩
    go_wp2_with fail
    refine (hb _).mono ?_
    rintro e w2 ⟨rfl, rfl⟩
    go_wp2_with fail
    refine (pow_any _ _ (by omega)).mono ?_
    rintro e w3 ⟨rfl, rfl⟩
    go_wp2_with fail
    refine (in_no _ _ _ _ (by omega)).mono ?_
    rintro e w4 ⟨rfl, rfl⟩
    go_wp2_with fail
    go_ret2
    exact ⟨rfl, rfl⟩
theorem specDistOf (s x : Int) (w : World) :
    Calls Tryd.prog 31 #[.int .i64 s, .int .i64 x] w fun e w' => e = .returned (.tuple #[.int .i64 (DistOfR s x).1, .bool (DistOfR s x).2]) ∧ w' = w := by
  by_cases h : 0 ≤ s ∧ s ≤ 29
  · obtain ⟨j, rfl⟩ := Int.eq_ofNat_of_zero_le (show 0 ≤ s by omega)
    have hj30 : j < 30 := by omega
    have g1 := (dist_bits j hj30).1
    have g2 := from_le (c := 1) (k := 2) (show j ≤ 29 by omega)
    have g3 : fromN 1 2 29 = 24577 := by decide
    refine (specDistOf_at (j : Int) x (bitsN 2 j) (fromN 1 2 j) w h.1 h.2 (fun W => specDistBits j W hj30) g1 (by omega)).mono ?_
    rintro e w' ⟨rfl, rfl⟩
    refine ⟨?_, rfl⟩
    unfold DistOfR distBits
    rw [Int.toNat_natCast]
    by_cases q : 0 ≤ x ∧ x < 2 ^ bitsN 2 j
    · rw [if_pos q, decide_eq_true q, if_pos ⟨h, q⟩]
    · rw [if_neg q, decide_eq_false q, if_neg (fun k => q k.2)]
  · have e : DistOfR s x = (0, false) := by
      unfold DistOfR
      rw [if_neg (fun k => h k.1)]
    rw [e]
    exact specDistOf_out s x w h

end Go.Proofs.YtedbmhelmenknaaDoor

namespace Go.Proofs.YtedbmhelmenknaaDoor
open Go.RowKit Go.Joins OutMath CodeMath TakeMath HitMath WayMath StepMath TokMath InfMath

theorem sym_cases (f : Nat → Int) (n : Nat) (s : ByteArray) (p : Nat) : (∃ y k, 1 ≤ k ∧ y < n ∧ p + k ≤ 8 * s.size ∧ symR f n s p 0 = (y, p + k, 0) ∧ symE s f n p = .ok (y, p + k)) ∨ (∃ c, (c = 2 ∨ c = 6) ∧ symR f n s p 0 = (0, p, c) ∧ symE s f n p = .error c) := by
  have h := symW_small (f := f) (n := n) (s := s) (a := p)
  unfold symR symE
  rw [if_neg (fun h => h rfl)]
  generalize symW f n s p = W at h
  obtain ⟨y, k, x⟩ := W
  rcases h with ⟨hx, hit⟩ | ⟨hx, _⟩ | hx
  · have hx' : x = 0 := hx
    subst hx'
    have hit' : Hit f n s p y k := hit
    refine .inl ⟨y, k, ?_, hit'.1, hit'.2.2.2.2, by simp, by simp⟩
    have h0 := hit'.2.1
    have h1 := hit'.2.2.1
    omega
  · have hx' : x = 2 := hx
    subst hx'
    exact .inr ⟨2, .inl rfl, by simp, by simp⟩
  · have hx' : x = 1 := hx
    subst hx'
    exact .inr ⟨6, .inr rfl, by simp, by simp⟩
theorem symR_bad {f : Nat → Int} {n : Nat} {s : ByteArray} {p c : Nat} (h : c ≠ 0) : symR f n s p c = (0, p, c) := by
  unfold symR
  rw [if_pos h]
theorem bits_cases (s : ByteArray) (p n : Nat) : (p + n ≤ 8 * s.size ∧ bitsR s p 0 n = (num s p n, p + n, 0) ∧ takeE s p n = .ok (num s p n, p + n) ∧ 0 ≤ num s p n ∧ num s p n < 2 ^ n) ∨ (bitsR s p 0 n = (0, p, 2) ∧ takeE s p n = .error 2) := by
  by_cases h : p + n ≤ 8 * s.size
  · have hb := num_bd s p n
    refine .inl ⟨h, bitsR_ok h, by unfold takeE; rw [if_pos h], hb.1, ?_⟩
    exact hb.2
  · exact .inr ⟨bitsR_end h, by unfold takeE; rw [if_neg h]⟩
theorem lenBits_small {y : Nat} (h1 : 257 ≤ y) (h2 : y ≤ 285) : (lenBits y).1 ≤ 5 ∧ 1 ≤ (lenBits y).2 ∧ ((lenBits y).2 : Int) + 2 ^ (lenBits y).1 ≤ 300 := by
  obtain ⟨j, rfl⟩ := Nat.le.dest h1
  have hj : j < 29 := by omega
  clear h1 h2
  revert hj j
  decide +kernel
theorem distBits_small {q : Nat} (h : q ≤ 29) : (distBits q).1 ≤ 13 ∧ 1 ≤ (distBits q).2 ∧ ((distBits q).2 : Int) + 2 ^ (distBits q).1 ≤ 40000 := by
  have hj : q < 30 := by omega
  clear h
  revert hj q
  decide +kernel
theorem specLenBits_any (y : Nat) (w : World) (h1 : 257 ≤ y) (h2 : y ≤ 285) :
    Calls Tryd.prog 28 #[.int .i64 (y : Int)] w fun e w' => e = .returned (.tuple #[.int .i64 ((lenBits y).1 : Nat), .int .i64 ((lenBits y).2 : Nat)]) ∧ w' = w := by
  by_cases h : y = 285
  · subst h
    have h := specLenBits_last w
    have e1 : ((285 : Nat) : Int) = 285 := rfl
    have e2 : (((lenBits 285).1 : Nat) : Int) = 0 := rfl
    have e3 : (((lenBits 285).2 : Nat) : Int) = 258 := rfl
    rw [e1, e2, e3]
    exact h
  · have hk := specLenBits (y - 257) w (by omega)
    rw [show (257 : Int) + ((y - 257 : Nat) : Int) = (y : Int) by omega] at hk
    have e : lenBits y = (bitsN 4 (y - 257), fromN 3 4 (y - 257)) := by
      unfold lenBits
      rw [if_neg h]
    rw [e]
    dsimp only
    exact hk
theorem len_of {y : Nat} {x : Int} (h1 : 257 ≤ y) (h2 : y ≤ 285) (h3 : 0 ≤ x) (h4 : x < 2 ^ (lenBits y).1) : LengthOfR (y : Int) x = ((lenBits y).2 + x, true) := by
  unfold LengthOfR
  rw [Int.toNat_natCast, if_pos ⟨⟨by omega, by omega⟩, h3, h4⟩]
theorem dist_of {q : Nat} {x : Int} (h2 : q ≤ 29) (h3 : 0 ≤ x) (h4 : x < 2 ^ (distBits q).1) : DistOfR (q : Int) x = ((distBits q).2 + x, true) := by
  unfold DistOfR
  rw [Int.toNat_natCast, if_pos ⟨⟨by omega, by omega⟩, h3, h4⟩]

section
variable {s : ByteArray} {most : Nat} {f1 : Nat → Int} {n1 : Nat} {f2 : Nat → Int} {n2 : Nat} {m p : Nat} {O : List Int}
theorem syms_err {c : Nat} (h : symE s f1 n1 p = .error c) : symbolsF s most f1 n1 f2 n2 (m + 1) p O = .error c := by
  rw [symbolsF, h]
theorem syms_end {p1 : Nat} (h : symE s f1 n1 p = .ok (256, p1)) : symbolsF s most f1 n1 f2 n2 (m + 1) p O = .ok (O, p1) := by
  rw [symbolsF, h]
  rfl
theorem syms_byte {y p1 : Nat} (h : symE s f1 n1 p = .ok (y, p1)) (hy : y < 256) : symbolsF s most f1 n1 f2 n2 (m + 1) p O = if O.length = most then .error 8 else symbolsF s most f1 n1 f2 n2 m p1 (O ++ [(y : Int)]) := by
  rw [symbolsF, h]
  show (if y = 256 then _ else if y < 256 then _ else _) = _
  rw [if_neg (by omega), if_pos hy]
theorem syms_over {y p1 : Nat} (h : symE s f1 n1 p = .ok (y, p1)) (hy : 285 < y) : symbolsF s most f1 n1 f2 n2 (m + 1) p O = .error 6 := by
  rw [symbolsF, h]
  show (if y = 256 then _ else if y < 256 then _ else if 285 < y then _ else _) = _
  rw [if_neg (by omega), if_neg (by omega), if_pos hy]
/-- What is left behind a symbol of a length. -/
noncomputable def farE (s : ByteArray) (most : Nat) (f1 : Nat → Int) (n1 : Nat) (f2 : Nat → Int) (n2 m y p1 : Nat) (O : List Int) : Except Nat (List Int × Nat) :=
  match takeE s p1 (lenBits y).1 with
        | .error x => .error x
        | .ok (x, p2) => match symE s f2 n2 p2 with
          | .error x => .error x
          | .ok (q, p3) =>
            if 29 < q then .error 6
            else match takeE s p3 (distBits q).1 with
              | .error x => .error x
              | .ok (z, p4) =>
                if (O.length : Int) < (distBits q).2 + z then .error 7
                else if (most : Int) - O.length < (lenBits y).2 + x then .error 8
                else symbolsF s most f1 n1 f2 n2 m p4 (copyN ((distBits q).2 + z).toNat ((lenBits y).2 + x).toNat O)
theorem syms_far {y p1 : Nat} (h : symE s f1 n1 p = .ok (y, p1)) (h1 : 257 ≤ y) (h2 : y ≤ 285) : symbolsF s most f1 n1 f2 n2 (m + 1) p O = farE s most f1 n1 f2 n2 m y p1 O := by
  rw [symbolsF, h]
  show (if y = 256 then _ else if y < 256 then _ else if 285 < y then _ else _) = _
  rw [if_neg (by omega), if_neg (by omega), if_neg (by omega)]
  rfl
theorem far_err {y p1 c : Nat} (h : takeE s p1 (lenBits y).1 = .error c) : farE s most f1 n1 f2 n2 m y p1 O = .error c := by
  rw [farE, h]
theorem far_err2 {y p1 p2 c : Nat} {x : Int} (h : takeE s p1 (lenBits y).1 = .ok (x, p2)) (h2 : symE s f2 n2 p2 = .error c) : farE s most f1 n1 f2 n2 m y p1 O = .error c := by
  rw [farE, h]
  simp only [h2]
theorem far_over {y p1 p2 q p3 : Nat} {x : Int} (h : takeE s p1 (lenBits y).1 = .ok (x, p2)) (h2 : symE s f2 n2 p2 = .ok (q, p3)) (hq : 29 < q) : farE s most f1 n1 f2 n2 m y p1 O = .error 6 := by
  rw [farE, h]
  simp only [h2]
  rw [if_pos hq]
theorem far_err3 {y p1 p2 q p3 c : Nat} {x : Int} (h : takeE s p1 (lenBits y).1 = .ok (x, p2)) (h2 : symE s f2 n2 p2 = .ok (q, p3)) (hq : ¬ 29 < q) (h3 : takeE s p3 (distBits q).1 = .error c) : farE s most f1 n1 f2 n2 m y p1 O = .error c := by
  rw [farE, h]
  simp only [h2]
  rw [if_neg hq, h3]
theorem far_go {y p1 p2 q p3 p4 : Nat} {x z : Int} (h : takeE s p1 (lenBits y).1 = .ok (x, p2)) (h2 : symE s f2 n2 p2 = .ok (q, p3)) (hq : ¬ 29 < q) (h3 : takeE s p3 (distBits q).1 = .ok (z, p4)) : farE s most f1 n1 f2 n2 m y p1 O = if (O.length : Int) < (distBits q).2 + z then .error 7 else if (most : Int) - O.length < (lenBits y).2 + x then .error 8 else symbolsF s most f1 n1 f2 n2 m p4 (copyN ((distBits q).2 + z).toNat ((lenBits y).2 + x).toNat O) := by
  rw [farE, h]
  simp only [h2]
  rw [if_neg hq, h3]
end
end Go.Proofs.YtedbmhelmenknaaDoor
