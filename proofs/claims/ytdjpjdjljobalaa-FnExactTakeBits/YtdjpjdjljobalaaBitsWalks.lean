/-
  The walks of what the laws do with Bits, and of the document's model of NextByte.
-/
import Derived.Test.YtdjpjdjljobalaaRows
import Derived.Test.YtdjpjdjljobalaaBase
import Derived.Test.YtdjpjdjljobalaaOutMath
import Derived.Test.YtdjpjdjljobalaaInWalks
import Derived.WalkKit
import Derived.ProofKit
import Derived.WalkLawsBesides
import Derived.Deep.QuietTactic
import Derived.BigQuiet
import Derived.Lib.SmallJoins
namespace Go.Proofs.Ytdjpjdjljobalaa
open Go.RowKit Go.Joins OutMath

theorem szBits_ok (s : ByteArray) (c x : Int) (w : World) (h0 : 0 ≤ x) (h1 : x ≤ 1048576) (h : (s.size : Int) ≤ x) :
    Calls Try.prog 22 #[.agg #[.string s, .int .i64 c], .int .i64 x] w fun e w' => e = .returned (.int .i64 (x - s.size)) ∧ Below w.heap.size w w' := by
  have d : ¬ x - (s.size : Int) < 0 := by omega
  go_enter Try.func22, Try.ntmps22
  go_wp2
  go_ret
  exact ⟨rfl, (Below.refl _ _).alloc (Nat.le_refl _) _⟩

theorem szBits_no (s : ByteArray) (c x : Int) (w : World) (hs : s.size ≤ maxLen) (h0 : 0 ≤ x) (h1 : x ≤ 1048576) (h : x < (s.size : Int)) :
    Calls Try.prog 22 #[.agg #[.string s, .int .i64 c], .int .i64 x] w fun e w' => e = .returned (.int .i64 (-1)) ∧ Below w.heap.size w w' := by
  unfold maxLen at hs
  have d : x - (s.size : Int) < 0 := by omega
  go_enter Try.func22, Try.ntmps22
  go_wp2
  go_ret
  exact ⟨rfl, (Below.refl _ _).alloc (Nat.le_refl _) _⟩

theorem toBits_any (s : ByteArray) (c : Int) (w : World) :
    Calls Try.prog 24 #[.agg #[.string s, .int .i64 c]] w fun e w' => e = .returned (.agg #[.string s, .int .i64 c]) ∧ Below w.heap.size w w' := by
  go_enter Try.func24, Try.ntmps24
  go_wp2
  exact bodyPost_ret (v := .agg #[.string s, .int .i64 c]) (by simp [results, Try.results24, go_sem]) rfl ⟨rfl, below_alloc3 _ _ _ _⟩

theorem eqBits_same (s : ByteArray) (c : Int) (w : World) :
    Calls Try.prog 25 #[.agg #[.string s, .int .i64 c], .agg #[.string s, .int .i64 c]] w fun e w' => e = .returned (.bool true) ∧ Below w.heap.size w w' := by
  go_enter Try.func25, Try.ntmps25
  go_wp2
  go_ret
  exact ⟨rfl, below_alloc2 _ _ _⟩


set_option maxHeartbeats 400000 in
theorem specNext_yes (s : ByteArray) (a : Int) (w : World) (h1 : s.size ≤ 12000) (h2 : 0 ≤ a) (h3 : a ≤ 8 * s.size) :
    Calls Try.prog 26 #[.agg #[.string s, .int .i64 a]] w fun e w' => e = .returned (.tuple #[.agg #[.string s, .int .i64 (8 * ((a + 7) / 8))], .bool true]) ∧ Below w.heap.size w w' := by
  have d1 : decide ((12000 : Int) < s.size) = false := by simp; omega
  have ec : (a + 7) / 8 * 8 = 8 * ((a + 7) / 8) := Int.mul_comm _ _
  go_enter Try.func26, Try.ntmps26
  go_wp2_with fail
  refine (in_yes _ _ _ _ (by omega) (by omega)).mono ?_
  rintro e w1 ⟨rfl, rfl⟩
  go_wp2_with fail
  refine bodyPost_ret (v := .tuple #[.agg #[.string s, .int .i64 (8 * ((a + 7) / 8))], .bool true]) (by simp [results, Try.results26, go_sem]) rfl ⟨rfl, bal (bstart _ _) _⟩

set_option maxHeartbeats 400000 in
theorem specNext_no (s : ByteArray) (a : Int) (w : World) (hs : s.size ≤ maxLen) (h : ¬ (s.size ≤ 12000 ∧ 0 ≤ a ∧ a ≤ 8 * s.size)) :
    Calls Try.prog 26 #[.agg #[.string s, .int .i64 a]] w fun e w' => e = .returned (.tuple #[.agg #[.string ⟨#[]⟩, .int .i64 0], .bool false]) ∧ Below w.heap.size w w' := by
  unfold maxLen at hs
  by_cases h1 : (12000 : Int) < s.size
  · clear h
    go_enter Try.func26, Try.ntmps26
    go_wp2
    refine bodyPost_ret (v := .tuple #[.agg #[.string ⟨#[]⟩, .int .i64 0], .bool false]) (by simp [results, Try.results26, go_sem]) rfl ⟨rfl, bal (bstart _ _) _⟩
  · have d1 : decide ((12000 : Int) < s.size) = false := by simpa using h1
    have H : Hid (¬ (0 ≤ a ∧ a ≤ 8 * (s.size : Int))) := by intro k; exact h ⟨by omega, k⟩
    clear h
    go_enter Try.func26, Try.ntmps26
    go_wp2_with fail
    refine (in_no _ _ _ _ H.out).mono ?_
    rintro e w1 ⟨rfl, rfl⟩
    go_wp2_with fail
    refine bodyPost_ret (v := .tuple #[.agg #[.string ⟨#[]⟩, .int .i64 0], .bool false]) (by simp [results, Try.results26, go_sem]) rfl ⟨rfl, bal (bstart _ _) _⟩
end Go.Proofs.Ytdjpjdjljobalaa
