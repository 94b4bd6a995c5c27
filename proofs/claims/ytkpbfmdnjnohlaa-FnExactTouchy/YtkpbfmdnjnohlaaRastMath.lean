/-
  Channels, depths and rows of rasters, in plain numbers. Nothing here speaks of the program.
-/
import Derived.WalkKit
namespace Go.Proofs.Ytkpbfmdnjnohlaa
namespace RastMath

/-- How many channels a color has. -/
def chan (c : Int) : Int := if c = 0 ∨ c = 3 then 1 else if c = 2 then 3 else if c = 4 then 2 else if c = 6 then 4 else 0
/-- The five depths. -/
abbrev Five (d : Int) : Prop := d = 1 ∨ d = 2 ∨ d = 4 ∨ d = 8 ∨ d = 16
/-- Is it a depth of the color? -/
abbrev DepthR (c d : Int) : Prop := (c = 0 ∧ Five d) ∨ (c = 3 ∧ Five d ∧ d ≠ 16) ∨ ((c = 2 ∨ c = 4 ∨ c = 6) ∧ (d = 8 ∨ d = 16))
abbrev SideR (n : Int) : Prop := 1 ≤ n ∧ n ≤ 24
/-- How many bytes a row has. -/
def rowB (w c d : Int) : Int := if SideR w ∧ DepthR c d then (w * chan c * d + 7) / 8 else 0
theorem chan_range (c : Int) : 0 ≤ chan c ∧ chan c ≤ 4 := by
  unfold chan
  repeat' split
  all_goals omega
theorem chan_pos {c d : Int} (h : DepthR c d) : 1 ≤ chan c := by
  unfold chan
  rcases h with ⟨rfl, _⟩ | ⟨rfl, _⟩ | ⟨rfl | rfl | rfl, _⟩ <;> decide
theorem depth_five {c d : Int} (h : DepthR c d) : Five d := by
  rcases h with ⟨_, h⟩ | ⟨_, h, _⟩ | ⟨_, h⟩
  · exact h
  · exact h
  · exact .inr (.inr (.inr h))
theorem five_range {d : Int} (h : Five d) : 1 ≤ d ∧ d ≤ 16 := by
  unfold Five at h
  omega
end RastMath
end Go.Proofs.Ytkpbfmdnjnohlaa
