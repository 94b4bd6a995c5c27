/-
  The walk of the model's draw out of a list of numbers.
-/
import Derived.Test.YtpocfmopeaajaaaRows
import Derived.Test.YtpocfmopeaajaaaBase
import Derived.Test.YtpocfmopeaajaaaDrawLib
import Derived.WalkKit
import Derived.ProofKit
import Derived.WalkLawsBesides
import Derived.Deep.QuietTactic
import Derived.BigQuiet
import Derived.OpenShut
import Derived.Lib.SmallJoins
namespace Go.Proofs.Ytpocfmopeaajaaa
open Go.RowKit Go.Joins

theorem draw_pickInt (base b g n cap : Nat) (p : Int → Prop) (w : World) (hC : Cur w base b) (hn : 0 < n) (hne : g ≠ b) (hg : g < w.heap.size) (hl : ∀ j, j < n → ∃ x : Int, w.cell? ⟨g, j, none⟩ = some (.int .i64 x) ∧ p x) :
    Calls Try.prog 20 #[.pointer (some ⟨b, 0, none⟩), .slice (some ⟨g, 0, none⟩) n cap] w fun e w' => ∃ x : Int, e = .returned (.int .i64 x) ∧ p x ∧ Cur w' base b ∧ w.grownBy w' (some b) := by
  have HC : Hid (Cur w base b) := hC
  have HL : Hid (∀ j, j < n → ∃ x : Int, w.cell? ⟨g, j, none⟩ = some (.int .i64 x) ∧ p x) := hl
  clear hC hl
  go_enter Try.func20, Try.ntmps20
  go_wp2_with fail
  refine (draw_below base b n _ HC.out).mono ?_
  rintro e w1 ⟨x, rfl, hx, hC1, hg1⟩
  have HC1 : Hid (Cur w1 base b) := hC1
  obtain ⟨hx0, hx1, _⟩ := hx
  have hx2 := hx1 (by omega)
  obtain ⟨j, rfl⟩ := Int.eq_ofNat_of_zero_le hx0
  obtain ⟨y, hy, hp⟩ := HL.out j (by omega)
  have hy1 : w1.cell? ⟨g, j, none⟩ = some (.int .i64 y) := (World.cell?_of_block (a := ⟨g, j, none⟩) (hg1.block g hg (by simpa using hne))).trans hy
  have HP : Hid (p y) := hp
  clear hC1 hx1 hp
  go_wp2_with fail
  go_ret
  exact ⟨_, rfl, HP.out, HC1.out, hg1⟩

end Go.Proofs.Ytpocfmopeaajaaa
