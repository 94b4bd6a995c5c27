/-
  Texts of the proof, put together.
-/
import Derived.Test.YtkpbfmdnjnohlaaRows
import Derived.ProofKit
import Derived.WalkLawsBesides
namespace Go.Proofs.Ytkpbfmdnjnohlaa
open Go.RowKit
theorem in_yes (x a b:Int) (w:World) (h1:a≤x) (h2:x≤b):
  Calls Try.prog 89 #[.int .i64 x,.int .i64 a,.int .i64 b] w fun e w'=>e=.returned (.bool true)∧w'=w:=by
 go_enter Try.func89,Try.ntmps89
 go_wp2
 go_ret
 exact⟨rfl,rfl⟩
theorem in_no (x a b:Int) (w:World) (h:¬ (a≤x∧x≤b)):
  Calls Try.prog 89 #[.int .i64 x,.int .i64 a,.int .i64 b] w fun e w'=>e=.returned (.bool false)∧w'=w:=by
 by_cases h1:a≤x
 ·have h2:¬ x≤b:=fun k=>h ⟨h1,k⟩
  clear h
  go_enter Try.func89,Try.ntmps89
  go_wp2
  go_ret
  exact⟨rfl,rfl⟩
 ·clear h
  go_enter Try.func89,Try.ntmps89
  go_wp2
  go_ret
  exact⟨rfl,rfl⟩
end Go.Proofs.Ytkpbfmdnjnohlaa
