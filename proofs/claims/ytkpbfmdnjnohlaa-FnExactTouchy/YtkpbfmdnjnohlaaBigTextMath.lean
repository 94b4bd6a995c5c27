/-
  Plain facts on the bytes of a number, the highest first; nothing here speaks of the program.
-/
import Derived.WalkKit
import Derived.Laws.BitsAllLaws
import Derived.Laws.BytesArg
import Derived.Laws.Concat
namespace Go.Proofs.Ytkpbfmdnjnohlaa
namespace BigTextMath

/-- 256 to the power n, behind a name. -/
def q256 : Nat → Int
  | 0 => 1
  | n + 1 => q256 n * 256
theorem q256_pos : ∀ n, 1 ≤ q256 n
  | 0 => by simp [q256]
  | n + 1 => by have := q256_pos n; unfold q256; omega

/-- The k lowest bytes of n, the highest first. -/
def low (n : Int) : Nat → List Int
  | 0 => []
  | k + 1 => (n / q256 k % 256) :: low n k
theorem low_length (n : Int) : ∀ k, (low n k).length = k
  | 0 => rfl
  | k + 1 => by simp [low, low_length n k]

theorem strOfNums_cons (x : Int) (xs : List Int) : strOfNums [x] ++ strOfNums xs = strOfNums (x :: xs) := by
  show ByteArray.mk (List.toArray _) ++ ByteArray.mk (List.toArray _) = _
  rw [ByteArray.mk_append_mk]
  rfl

theorem div_succ (n : Int) (k : Nat) : n / q256 k / 256 = n / q256 (k + 1) := by
  rw [Int.ediv_ediv_of_nonneg (by have := q256_pos k; omega)]
  rfl
theorem div_nonneg (n : Int) (h : 0 ≤ n) (k : Nat) : 0 ≤ n / q256 k := Int.ediv_nonneg h (by have := q256_pos k; omega)
theorem div_le (n : Int) (h : 0 ≤ n) (k : Nat) : n / q256 k ≤ n := Int.ediv_le_self _ h

theorem low1 (n : Int) (h0 : 0 ≤ n) (h : n < 256) : low n 1 = [n] := by simp [low, q256]; omega
theorem low2 (n : Int) (h0 : 0 ≤ n) (h : n < 65536) : low n 2 = [n / 256, n % 256] := by simp [low, q256]; omega
theorem low3 (n : Int) (h0 : 0 ≤ n) (h : n < 16777216) : low n 3 = [n / 65536, n / 256 % 256, n % 256] := by simp [low, q256]; omega
theorem low4 (n : Int) (h0 : 0 ≤ n) (h : n < 4294967296) : low n 4 = [n / 16777216, n / 65536 % 256, n / 256 % 256, n % 256] := by simp [low, q256]; omega

end BigTextMath
end Go.Proofs.Ytkpbfmdnjnohlaa
