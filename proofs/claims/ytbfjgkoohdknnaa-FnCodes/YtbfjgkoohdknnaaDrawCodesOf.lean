/-
  The walk of the model's draw for the codes of lengths.
-/
import Derived.Test.YtbfjgkoohdknnaaRows
import Derived.Test.YtbfjgkoohdknnaaBase
import Derived.Test.YtbfjgkoohdknnaaOwnLib
import Derived.Test.YtbfjgkoohdknnaaIntsLib
import Derived.Test.YtbfjgkoohdknnaaDrawLib
import Derived.Test.YtbfjgkoohdknnaaDrawLengths
import Derived.WalkKit
import Derived.ProofKit
import Derived.WalkLawsBesides
import Derived.Lib.SmallJoins
namespace Go.Proofs.Ytbfjgkoohdknnaa
open Go.RowKit Go.Joins

theorem draw_codesOf (a : Option Addr) (len cap : Nat) (base : Nat) (w : World) (hK : CodeAt w base a len) (hlen : len ≤ 1048576) (hbase : base ≤ w.heap.size) :
    Calls Try.prog 14 #[.slice a len cap] w fun e w' => ∃ (g n cap : Nat) (f : Nat → Int), e = .returned (.slice (some ⟨g, 0, none⟩) n cap) ∧ 1 ≤ n ∧ n ≤ 300 ∧ IOwn w' base g n cap f ∧ (∀ i, i < n → -100 ≤ f i ∧ f i ≤ 100) ∧ Below base w w' := by
  have HK : Hid (CodeAt w base a len) := hK
  clear hK
  go_enter Try.func14, Try.ntmps14
  go_wp2_with fail
  refine (draw_new a len cap base w HK.out hlen hbase).mono ?_
  rintro e w1 ⟨rfl, hC1, o, rfl⟩
  have HB1 : Hid (Below base w (w.alloc o)) := (Below.refl base w).alloc hbase o
  have HC1 : Hid (Cur (w.alloc o) base w.heap.size) := hC1
  clear hC1
  go_wp2_with fail
  refine (draw_lengths base _ _ HC1.out).mono ?_
  rintro e w2 ⟨g, n, c, f, rfl, hn1, hn2, hO, hf, hB⟩
  go_wp2_with fail
  go_ret
  exact ⟨g, n, c, f, rfl, hn1, hn2, hO, hf, HB1.out.trans hB⟩

end Go.Proofs.Ytbfjgkoohdknnaa
