/-
  The walks of the document's model of distances: their symbols and extra bits.
  What the symbols of a block come to, by cases; the bits of a length and of a distance in the model.
-/
import Derived.Test.YtbcnlggkoidmmaaGreatDoorRows
import Derived.Test.YtbcnlggkoidmmaaGreatDoorPk01
import Derived.Test.YtbcnlggkoidmmaaGreatDoorPk04
import Derived.Test.YtbcnlggkoidmmaaGreatDoorPk07
import Derived.Test.YtbcnlggkoidmmaaGreatDoorPk03
import Derived.Test.YtbcnlggkoidmmaaGreatDoorPk05
import Derived.Test.YtbcnlggkoidmmaaGreatDoorPk11
import Derived.Test.YtbcnlggkoidmmaaGreatDoorPk02
import Derived.Test.YtbcnlggkoidmmaaGreatDoorPk06
import Derived.Test.YtbcnlggkoidmmaaGreatDoorPk09
import Derived.Test.YtbcnlggkoidmmaaGreatDoorPk10
import Derived.WalkKit
import Derived.ProofKit
import Derived.WalkLawsBesides
import Derived.Lib.SmallJoins
import Derived.OwnWalk
import Derived.BigQuiet
import Derived.Deep.LoopGhost
import Derived.Deep.AppendLies
import Derived.Below
namespace Go.Proofs.YtbcnlggkoidmmaaGreatDoor
open Go.RowKit Go.Joins OutMath StepMath

theorem specDistOf_out (s x : Int) (w : World) (h : ¬ (0 ≤ s ∧ s ≤ 29)) :
    Calls Tryz.prog 129 #[.int .i64 s, .int .i64 x] w fun e w' => e = .returned (.tuple #[.int .i64 0, .bool false]) ∧ w' = w := by
  go_enter Tryz.func129, Tryz.ntmps129
  go_wp2_with fail
  refine (in_no _ _ _ _ h).mono ?_
  rintro e w1 ⟨rfl, rfl⟩
  go_wp2_with fail
  go_ret2
  exact ⟨rfl, rfl⟩
set_option maxHeartbeats 800000 in
theorem specDistOf_at (s x : Int) (m z : Nat) (w : World) (h1 : 0 ≤ s) (h2 : s ≤ 29) (hb : ∀ W, Calls Tryz.prog 128 #[.int .i64 s] W fun e w' => e = .returned (.tuple #[.int .i64 ((m : Nat) : Int), .int .i64 ((z : Nat) : Int)]) ∧ w' = W) (hm : m ≤ 13) (hz : z ≤ 32768) :
    Calls Tryz.prog 129 #[.int .i64 s, .int .i64 x] w fun e w' => e = .returned (.tuple #[.int .i64 (if 0 ≤ x ∧ x < 2 ^ m then (z : Int) + x else 0), .bool (decide (0 ≤ x ∧ x < 2 ^ m))]) ∧ w' = w := by
  have hp : p2 m = 2 ^ m := rfl
  have hp1 := p2_pos m
  have hp2 := p2_le hm
  have hp3 : p2 13 = 8192 := by decide +kernel
  rw [← hp]
  clear hp
  by_cases hx : 0 ≤ x ∧ x < p2 m
  · rw [if_pos hx, decide_eq_true hx]
    go_enter Tryz.func129, Tryz.ntmps129
    go_wp2_with fail
    refine (in_yes _ _ _ _ h1 h2).mono ?_
    rintro e w1 ⟨rfl, rfl⟩
    go_wp2_with fail
    refine (hb _).mono ?_
    rintro e w2 ⟨rfl, rfl⟩
    go_wp2_with fail
    refine (pow_any _ _ (by omega)).mono ?_
    rintro e w3 ⟨rfl, rfl⟩
    go_wp2_with fail
    refine (in_yes _ _ _ _ (by omega) (by omega)).mono ?_
    rintro e w4 ⟨rfl, rfl⟩
    go_wp2_with fail
    go_ret2
    exact ⟨rfl, rfl⟩
  · rw [if_neg hx, decide_eq_false hx]
    go_enter Tryz.func129, Tryz.ntmps129
    go_wp2_with fail
    refine (in_yes _ _ _ _ h1 h2).mono ?_
    rintro e w1 ⟨rfl, rfl⟩
    go_wp2_with fail
    refine (hb _).mono ?_
    rintro e w2 ⟨rfl, rfl⟩
    go_wp2_with fail
    refine (pow_any _ _ (by omega)).mono ?_
    rintro e w3 ⟨rfl, rfl⟩
    go_wp2_with fail
    refine (in_no _ _ _ _ (by omega)).mono ?_
    rintro e w4 ⟨rfl, rfl⟩
    go_wp2_with fail
    go_ret2
    exact ⟨rfl, rfl⟩
theorem specDistOf (s x : Int) (w : World) :
    Calls Tryz.prog 129 #[.int .i64 s, .int .i64 x] w fun e w' => e = .returned (.tuple #[.int .i64 (DistOfR s x).1, .bool (DistOfR s x).2]) ∧ w' = w := by
  by_cases h : 0 ≤ s ∧ s ≤ 29
  · obtain ⟨j, rfl⟩ := Int.eq_ofNat_of_zero_le (show 0 ≤ s by omega)
    have hj30 : j < 30 := by omega
    have g1 := (dist_bits j hj30).1
    have g2 := from_le (c := 1) (k := 2) (show j ≤ 29 by omega)
    have g3 : fromN 1 2 29 = 24577 := by decide
    refine (specDistOf_at (j : Int) x (bitsN 2 j) (fromN 1 2 j) w h.1 h.2 (fun W => specDistBits j W hj30) g1 (by omega)).mono ?_
    rintro e w' ⟨rfl, rfl⟩
    refine ⟨?_, rfl⟩
    unfold DistOfR distBits
    rw [Int.toNat_natCast]
    by_cases q : 0 ≤ x ∧ x < 2 ^ bitsN 2 j
    · rw [if_pos q, decide_eq_true q, if_pos ⟨h, q⟩]
    · rw [if_neg q, decide_eq_false q, if_neg (fun k => q k.2)]
  · have e : DistOfR s x = (0, false) := by
      unfold DistOfR
      rw [if_neg (fun k => h k.1)]
    rw [e]
    exact specDistOf_out s x w h

end Go.Proofs.YtbcnlggkoidmmaaGreatDoor

namespace Go.Proofs.YtbcnlggkoidmmaaGreatDoor
open Go.RowKit Go.Joins OutMath CodeMath TakeMath HitMath WayMath StepMath TokMath InfMath

theorem sym_cases (f : Nat → Int) (n : Nat) (s : ByteArray) (p : Nat) : (∃ y k, 1 ≤ k ∧ y < n ∧ p + k ≤ 8 * s.size ∧ symR f n s p 0 = (y, p + k, 0) ∧ symE s f n p = .ok (y, p + k)) ∨ (∃ c, (c = 2 ∨ c = 6) ∧ symR f n s p 0 = (0, p, c) ∧ symE s f n p = .error c) := by
  have h := symW_small (f := f) (n := n) (s := s) (a := p)
  unfold symR symE
  rw [if_neg (fun h => h rfl)]
  generalize symW f n s p = W at h
  obtain ⟨y, k, x⟩ := W
  rcases h with ⟨hx, hit⟩ | ⟨hx, _⟩ | hx
  · have hx' : x = 0 := hx
    subst hx'
    have hit' : Hit f n s p y k := hit
    refine .inl ⟨y, k, ?_, hit'.1, hit'.2.2.2.2, by simp, by simp⟩
    have h0 := hit'.2.1
    have h1 := hit'.2.2.1
    omega
  · have hx' : x = 2 := hx
    subst hx'
    exact .inr ⟨2, .inl rfl, by simp, by simp⟩
  · have hx' : x = 1 := hx
    subst hx'
    exact .inr ⟨6, .inr rfl, by simp, by simp⟩
theorem symR_bad {f : Nat → Int} {n : Nat} {s : ByteArray} {p c : Nat} (h : c ≠ 0) : symR f n s p c = (0, p, c) := by
  unfold symR
  rw [if_pos h]
theorem bits_cases (s : ByteArray) (p n : Nat) : (p + n ≤ 8 * s.size ∧ bitsR s p 0 n = (num s p n, p + n, 0) ∧ takeE s p n = .ok (num s p n, p + n) ∧ 0 ≤ num s p n ∧ num s p n < 2 ^ n) ∨ (bitsR s p 0 n = (0, p, 2) ∧ takeE s p n = .error 2) := by
  by_cases h : p + n ≤ 8 * s.size
  · have hb := num_bd s p n
    refine .inl ⟨h, bitsR_ok h, by unfold takeE; rw [if_pos h], hb.1, ?_⟩
    exact hb.2
  · exact .inr ⟨bitsR_end h, by unfold takeE; rw [if_neg h]⟩
theorem lenBits_small {y : Nat} (h1 : 257 ≤ y) (h2 : y ≤ 285) : (lenBits y).1 ≤ 5 ∧ 1 ≤ (lenBits y).2 ∧ ((lenBits y).2 : Int) + 2 ^ (lenBits y).1 ≤ 300 := by
  obtain ⟨j, rfl⟩ := Nat.le.dest h1
  have hj : j < 29 := by omega
  clear h1 h2
  revert hj j
  decide +kernel
theorem distBits_small {q : Nat} (h : q ≤ 29) : (distBits q).1 ≤ 13 ∧ 1 ≤ (distBits q).2 ∧ ((distBits q).2 : Int) + 2 ^ (distBits q).1 ≤ 40000 := by
  have hj : q < 30 := by omega
  clear h
  revert hj q
  decide +kernel
theorem specLenBits_any (y : Nat) (w : World) (h1 : 257 ≤ y) (h2 : y ≤ 285) :
    Calls Tryz.prog 126 #[.int .i64 (y : Int)] w fun e w' => e = .returned (.tuple #[.int .i64 ((lenBits y).1 : Nat), .int .i64 ((lenBits y).2 : Nat)]) ∧ w' = w := by
  by_cases h : y = 285
  · subst h
    have h := specLenBits_last w
    have e1 : ((285 : Nat) : Int) = 285 := rfl
    have e2 : (((lenBits 285).1 : Nat) : Int) = 0 := rfl
    have e3 : (((lenBits 285).2 : Nat) : Int) = 258 := rfl
    rw [e1, e2, e3]
    exact h
  · have hk := specLenBits (y - 257) w (by omega)
    rw [show (257 : Int) + ((y - 257 : Nat) : Int) = (y : Int) by omega] at hk
    have e : lenBits y = (bitsN 4 (y - 257), fromN 3 4 (y - 257)) := by
      unfold lenBits
      rw [if_neg h]
    rw [e]
    dsimp only
    exact hk
theorem len_of {y : Nat} {x : Int} (h1 : 257 ≤ y) (h2 : y ≤ 285) (h3 : 0 ≤ x) (h4 : x < 2 ^ (lenBits y).1) : LengthOfR (y : Int) x = ((lenBits y).2 + x, true) := by
  unfold LengthOfR
  rw [Int.toNat_natCast, if_pos ⟨⟨by omega, by omega⟩, h3, h4⟩]
theorem dist_of {q : Nat} {x : Int} (h2 : q ≤ 29) (h3 : 0 ≤ x) (h4 : x < 2 ^ (distBits q).1) : DistOfR (q : Int) x = ((distBits q).2 + x, true) := by
  unfold DistOfR
  rw [Int.toNat_natCast, if_pos ⟨⟨by omega, by omega⟩, h3, h4⟩]

section
variable {s : ByteArray} {most : Nat} {f1 : Nat → Int} {n1 : Nat} {f2 : Nat → Int} {n2 : Nat} {m p : Nat} {O : List Int}
theorem syms_err {c : Nat} (h : symE s f1 n1 p = .error c) : symbolsF s most f1 n1 f2 n2 (m + 1) p O = .error c := by
  rw [symbolsF, h]
theorem syms_end {p1 : Nat} (h : symE s f1 n1 p = .ok (256, p1)) : symbolsF s most f1 n1 f2 n2 (m + 1) p O = .ok (O, p1) := by
  rw [symbolsF, h]
  rfl
theorem syms_byte {y p1 : Nat} (h : symE s f1 n1 p = .ok (y, p1)) (hy : y < 256) : symbolsF s most f1 n1 f2 n2 (m + 1) p O = if O.length = most then .error 8 else symbolsF s most f1 n1 f2 n2 m p1 (O ++ [(y : Int)]) := by
  rw [symbolsF, h]
  show (if y = 256 then _ else if y < 256 then _ else _) = _
  rw [if_neg (by omega), if_pos hy]
theorem syms_over {y p1 : Nat} (h : symE s f1 n1 p = .ok (y, p1)) (hy : 285 < y) : symbolsF s most f1 n1 f2 n2 (m + 1) p O = .error 6 := by
  rw [symbolsF, h]
  show (if y = 256 then _ else if y < 256 then _ else if 285 < y then _ else _) = _
  rw [if_neg (by omega), if_neg (by omega), if_pos hy]
/-- What is left behind a symbol of a length. -/
noncomputable def farE (s : ByteArray) (most : Nat) (f1 : Nat → Int) (n1 : Nat) (f2 : Nat → Int) (n2 m y p1 : Nat) (O : List Int) : Except Nat (List Int × Nat) :=
  match takeE s p1 (lenBits y).1 with
        | .error x => .error x
        | .ok (x, p2) => match symE s f2 n2 p2 with
          | .error x => .error x
          | .ok (q, p3) =>
            if 29 < q then .error 6
            else match takeE s p3 (distBits q).1 with
              | .error x => .error x
              | .ok (z, p4) =>
                if (O.length : Int) < (distBits q).2 + z then .error 7
                else if (most : Int) - O.length < (lenBits y).2 + x then .error 8
                else symbolsF s most f1 n1 f2 n2 m p4 (copyN ((distBits q).2 + z).toNat ((lenBits y).2 + x).toNat O)
theorem syms_far {y p1 : Nat} (h : symE s f1 n1 p = .ok (y, p1)) (h1 : 257 ≤ y) (h2 : y ≤ 285) : symbolsF s most f1 n1 f2 n2 (m + 1) p O = farE s most f1 n1 f2 n2 m y p1 O := by
  rw [symbolsF, h]
  show (if y = 256 then _ else if y < 256 then _ else if 285 < y then _ else _) = _
  rw [if_neg (by omega), if_neg (by omega), if_neg (by omega)]
  rfl
theorem far_err {y p1 c : Nat} (h : takeE s p1 (lenBits y).1 = .error c) : farE s most f1 n1 f2 n2 m y p1 O = .error c := by
  rw [farE, h]
theorem far_err2 {y p1 p2 c : Nat} {x : Int} (h : takeE s p1 (lenBits y).1 = .ok (x, p2)) (h2 : symE s f2 n2 p2 = .error c) : farE s most f1 n1 f2 n2 m y p1 O = .error c := by
  rw [farE, h]
  simp only [h2]
theorem far_over {y p1 p2 q p3 : Nat} {x : Int} (h : takeE s p1 (lenBits y).1 = .ok (x, p2)) (h2 : symE s f2 n2 p2 = .ok (q, p3)) (hq : 29 < q) : farE s most f1 n1 f2 n2 m y p1 O = .error 6 := by
  rw [farE, h]
  simp only [h2]
  rw [if_pos hq]
theorem far_err3 {y p1 p2 q p3 c : Nat} {x : Int} (h : takeE s p1 (lenBits y).1 = .ok (x, p2)) (h2 : symE s f2 n2 p2 = .ok (q, p3)) (hq : ¬ 29 < q) (h3 : takeE s p3 (distBits q).1 = .error c) : farE s most f1 n1 f2 n2 m y p1 O = .error c := by
  rw [farE, h]
  simp only [h2]
  rw [if_neg hq, h3]
theorem far_go {y p1 p2 q p3 p4 : Nat} {x z : Int} (h : takeE s p1 (lenBits y).1 = .ok (x, p2)) (h2 : symE s f2 n2 p2 = .ok (q, p3)) (hq : ¬ 29 < q) (h3 : takeE s p3 (distBits q).1 = .ok (z, p4)) : farE s most f1 n1 f2 n2 m y p1 O = if (O.length : Int) < (distBits q).2 + z then .error 7 else if (most : Int) - O.length < (lenBits y).2 + x then .error 8 else symbolsF s most f1 n1 f2 n2 m p4 (copyN ((distBits q).2 + z).toNat ((lenBits y).2 + x).toNat O) := by
  rw [farE, h]
  simp only [h2]
  rw [if_neg hq, h3]
end
end Go.Proofs.YtbcnlggkoidmmaaGreatDoor
