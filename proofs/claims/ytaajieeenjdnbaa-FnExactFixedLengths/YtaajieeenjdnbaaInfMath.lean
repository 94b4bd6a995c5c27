/-
  Unpacking, in plain numbers: what comes of a packed text, or which code is met first. Nothing here speaks of the program.
-/
import Derived.Test.YtaajieeenjdnbaaOutMath
import Derived.Test.YtaajieeenjdnbaaCodeMath
import Derived.Test.YtaajieeenjdnbaaTakeMath
import Derived.Test.YtaajieeenjdnbaaHitMath
import Derived.Test.YtaajieeenjdnbaaWayMath
import Derived.Test.YtaajieeenjdnbaaRunsMath
import Derived.Test.YtaajieeenjdnbaaStepMath
import Derived.Test.YtaajieeenjdnbaaTokMath
namespace Go.Proofs.Ytaajieeenjdnbaa.InfMath
open OutMath CodeMath TakeMath HitMath WayMath StepMath TokMath RunsMath

section
variable (s : ByteArray) (most : Nat)
/-- The next n bits, and the place behind them. -/
def takeE (p n : Nat) : Except Nat (Int × Nat) := if p + n ≤ 8 * s.size then .ok (num s p n, p + n) else .error 2
/-- The next symbol of a code, and the place behind it. -/
noncomputable def symE (f : Nat → Int) (n p : Nat) : Except Nat (Nat × Nat) := if (symW f n s p).2.2 = 0 then .ok ((symW f n s p).1, p + (symW f n s p).2.1) else if (symW f n s p).2.2 = 2 then .error 2 else .error 6
def bytesAt (p n : Nat) : List Int := (List.range n).map fun i => num s (p + 8 * i) 8
/-- The next whole byte. -/
def wholeAt (p : Nat) : Nat := 8 * ((p + 7) / 8)
/-- A block of type 0. -/
def storedE (p : Nat) (O : List Int) : Except Nat (List Int × Nat) :=
  if wholeAt p + 32 ≤ 8 * s.size then
    (if num s (wholeAt p) 16 + num s (wholeAt p + 16) 16 ≠ 65535 then .error 4
     else if (most : Int) - O.length < num s (wholeAt p) 16 then .error 8
     else if wholeAt p + 32 + 8 * (num s (wholeAt p) 16).toNat ≤ 8 * s.size then .ok (O ++ bytesAt s (wholeAt p + 32) (num s (wholeAt p) 16).toNat, wholeAt p + 32 + 8 * (num s (wholeAt p) 16).toNat)
     else .error 2)
  else .error 2
/-- In which order the lengths of the third code come. -/
def orderL : List Nat := [16, 17, 18, 0, 8, 7, 9, 6, 10, 5, 11, 4, 12, 3, 13, 2, 14, 1, 15]
/-- The third code's lengths, when k have come. -/
def thirdF (p k : Nat) : Nat → Int := fun i => if orderL.idxOf i < k then num s (p + 3 * orderL.idxOf i) 3 else 0
/-- Runs by the third code, up to N lengths. -/
noncomputable def allF (f3 : Nat → Int) (N : Nat) : Nat → Nat → List Int → Except Nat (List Int × Nat)
  | 0, _, _ => .error 9
  | m + 1, p, L => if L.length < N then
      match symE s f3 19 p with
      | .error x => .error x
      | .ok (y, p1) => match takeE s p1 (bitsOf (y : Int)) with
        | .error x => .error x
        | .ok (x, p2) => match tell L ((y : Int), x) with
          | none => .error 5
          | some more => if L.length + more.length ≤ N then allF f3 N m p2 (L ++ more) else .error 5
    else .ok (L, p)
/-- What the lengths must be. -/
def TabRight (n : Nat) (L : List Int) : Prop := (kindOf (fun i => L.getD i 0) n = 2 ∨ kindOf (fun i => L.getD i 0) n = 3) ∧ L.getD 256 0 ≠ 0 ∧ (kindOf (fun i => (L.drop n).getD i 0) (L.length - n) = 1 ∨ kindOf (fun i => (L.drop n).getD i 0) (L.length - n) = 2 ∨ kindOf (fun i => (L.drop n).getD i 0) (L.length - n) = 3)
instance (n : Nat) (L : List Int) : Decidable (TabRight n L) := by unfold TabRight; exact inferInstance
/-- The lengths of both codes of a block of type 2, one behind the other; how many the first has; the place behind them. -/
noncomputable def tablesE (p : Nat) : Except Nat (List Int × Nat × Nat) :=
  if p + 14 ≤ 8 * s.size then
    (if 29 < num s p 5 ∨ 29 < num s (p + 5) 5 then .error 5
     else if p + 14 + 3 * (num s (p + 10) 4 + 4).toNat ≤ 8 * s.size then
       (if kindOf (thirdF s (p + 14) (num s (p + 10) 4 + 4).toNat) 19 ≠ 2 then .error 5
        else match allF s (thirdF s (p + 14) (num s (p + 10) 4 + 4).toNat) ((num s p 5 + 257).toNat + (num s (p + 5) 5 + 1).toNat) (8 * s.size + 1) (p + 14 + 3 * (num s (p + 10) 4 + 4).toNat) [] with
          | .error x => .error x
          | .ok (L, p2) => if TabRight (num s p 5 + 257).toNat L then .ok (L, (num s p 5 + 257).toNat, p2) else .error 5)
     else .error 2)
  else .error 2
/-- The symbols of a block. -/
noncomputable def symbolsF (f1 : Nat → Int) (n1 : Nat) (f2 : Nat → Int) (n2 : Nat) : Nat → Nat → List Int → Except Nat (List Int × Nat)
  | 0, _, _ => .error 9
  | m + 1, p, O => match symE s f1 n1 p with
    | .error x => .error x
    | .ok (y, p1) =>
      if y = 256 then .ok (O, p1)
      else if y < 256 then (if O.length = most then .error 8 else symbolsF f1 n1 f2 n2 m p1 (O ++ [(y : Int)]))
      else if 285 < y then .error 6
      else match takeE s p1 (lenBits y).1 with
        | .error x => .error x
        | .ok (x, p2) => match symE s f2 n2 p2 with
          | .error x => .error x
          | .ok (q, p3) =>
            if 29 < q then .error 6
            else match takeE s p3 (distBits q).1 with
              | .error x => .error x
              | .ok (z, p4) =>
                if (O.length : Int) < (distBits q).2 + z then .error 7
                else if (most : Int) - O.length < (lenBits y).2 + x then .error 8
                else symbolsF f1 n1 f2 n2 m p4 (copyN ((distBits q).2 + z).toNat ((lenBits y).2 + x).toNat O)
/-- The lengths of type 1. -/
def fixed1 (i : Nat) : Int := if i < 144 then 8 else if i < 256 then 9 else if i < 280 then 7 else 8
def fixed2 (_ : Nat) : Int := 5
/-- What stands in a block, behind its first three bits. -/
noncomputable def blockE (kind : Int) (p : Nat) (O : List Int) : Except Nat (List Int × Nat) :=
  if kind = 0 then storedE s most p O
  else if kind = 1 then symbolsF s most fixed1 288 fixed2 32 (8 * s.size + 1) p O
  else if kind = 2 then (match tablesE s p with
    | .error x => .error x
    | .ok (L, n, p2) => symbolsF s most (fun i => L.getD i 0) n (fun i => (L.drop n).getD i 0) (L.length - n) (8 * s.size + 1) p2 O)
  else .error 3
/-- The blocks. -/
noncomputable def blocksF : Nat → Nat → List Int → List Int → Except Nat (List Int × Nat × List Int)
  | 0, _, _, _ => .error 9
  | m + 1, p, O, Ty => if p + 3 ≤ 8 * s.size then
      match blockE s most (num s (p + 1) 2) (p + 3) O with
      | .error x => .error x
      | .ok (O', p') => if num s p 1 = 0 then blocksF m p' O' (Ty ++ [num s (p + 1) 2]) else .ok (O', p', Ty ++ [num s (p + 1) 2])
    else .error 2
end
/-- What is asked of Inflate. -/
noncomputable def inflateE (s : ByteArray) (most : Int) : Except Nat (List Int × Nat × List Int) := if s.size ≤ 12000 ∧ 0 ≤ most ∧ most ≤ 12000 then blocksF s most.toNat (8 * s.size + 1) 0 [] [] else .error 1

end Go.Proofs.Ytaajieeenjdnbaa.InfMath
