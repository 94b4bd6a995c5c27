/-
  The walk of the program's BestFilter.
-/
import Derived.Test.YtholkigomokimaaRows
import Derived.Test.YtholkigomokimaaBase
import Derived.Test.YtholkigomokimaaOwnLib
import Derived.Test.YtholkigomokimaaByteDef
import Derived.Test.YtholkigomokimaaByteLib
import Derived.Test.YtholkigomokimaaByteBlk
import Derived.Test.YtholkigomokimaaFiltMath
import Derived.Test.YtholkigomokimaaFiltVal
import Derived.Test.YtholkigomokimaaFiltAns
import Derived.Test.YtholkigomokimaaFiltSmall
import Derived.Test.YtholkigomokimaaFiltWeigh
import Derived.WalkKit
import Derived.ProofKit
import Derived.WalkLawsBesides
import Derived.Below
import Derived.Lib.SmallJoins
namespace Go.Proofs.Ytholkigomokimaa
open Go.RowKit Go.Joins TakeMath FiltMath TokMath

/-- The weight of what a kind tells. -/
theorem wk_wsum (row above : ByteArray) (unit k : Nat) (h : row.size ≤ 200) : wk row above unit k = wsum (filtB (k : Int) (bts row) (bts above) unit) row.size := by
  unfold wk weight
  rw [filtT_size, if_pos h]
  refine wsum_congr _ fun i hi => ?_
  unfold filtT
  rw [bts_str (fun x hx => by
    obtain ⟨m, -, rfl⟩ := List.mem_map.mp hx
    exact filtB_byte _ _ _ _ _) i (by rw [filtL_length]; exact hi), filtL_get _ _ _ _ _ _ hi]
set_option maxHeartbeats 1600000 in
theorem implBest_in (row above : ByteArray) (unit : Nat) (w : World) (h : FiltR 0 row above (unit : Int)) :
    Calls Try.prog 19 #[.string row, .string above, .int .i64 (unit : Int)] w fun e w' => e = .returned (.tuple #[.int .i64 ((least (wk row above unit) 4 : Nat) : Int), .bool true]) ∧ Below w.heap.size w w' := by
  have hcan := fun W => canFilter_any row above (unit : Int) W
  rw [decide_eq_true h] at hcan
  obtain ⟨-, hu, hs, hn⟩ := h
  have HS := hid_of hs
  have hwk : (fun k : Nat => wsum (filtB (k : Int) (bts row) (bts above) unit) row.size) = wk row above unit := funext fun k => (wk_wsum row above unit k hn).symm
  have ha : above.size ≤ 200 := by omega
  clear hs
  go_enter Try.func19, Try.ntmps19
  go_wp2_with fail
  refine (hcan _).mono ?_
  rintro e w2 ⟨rfl, rfl⟩
  clear hcan
  obtain ⟨W4, c4, hcv4, hO4, hB4⟩ := bown_of_text w2 row (by omega)
  obtain ⟨W5, c5, hcv5, hO5, hB5⟩ := bown_of_text W4 above (by omega)
  have hO5' : BAt W5 W4.heap.size row.size (bts above) := by rw [HS.out]; exact hO5.bytes
  have hp := lightest_any (bts row) (bts above) unit row.size w2.heap.size c4 W4.heap.size c5 W5 (by omega) hn (bts_byte row) (bts_byte above) (hO4.bytes.called hB5) hO5'
  rw [hwk] at hp
  obtain ⟨f, hf⟩ : ∃ f, f = wk row above unit := ⟨_, rfl⟩
  rw [← hf] at hp
  have HWK := hid_of hf
  have HB5 : Hid (Below w2.heap.size w2 W5) := bnext hB4 hB5
  rw [← HS.out] at hcv5
  have hz : above.size = row.size := HS.out.symm
  clear hO4 hO5 hO5' hB4 hB5 hwk HS hf
  generalize W4.heap.size = G4 at hcv5 hp
  go_wp2_with fail
  refine hp.mono ?_
  rintro e w6 ⟨rfl, hB⟩
  have HBE : Hid (Below w2.heap.size w2 w6) := bnext HB5.out hB
  clear hB hp hcv4 hcv5
  go_wp2_with fail
  refine bodyPost_ret (v := .tuple #[.int .i64 ((least f 4 : Nat) : Int), .bool true]) ?_ rfl ⟨by rw [HWK.out], HBE.out⟩
  simp [results, Try.results19, go_sem]
theorem implBest_out (row above : ByteArray) (unit : Int) (w : World) (h : ¬ FiltR 0 row above unit) :
    Calls Try.prog 19 #[.string row, .string above, .int .i64 unit] w fun e w' => e = .returned (.tuple #[.int .i64 0, .bool false]) ∧ Below w.heap.size w w' := by
  have hcan := fun W => canFilter_any row above unit W
  rw [decide_eq_false h] at hcan
  clear h
  go_enter Try.func19, Try.ntmps19
  go_wp2_with fail
  refine (hcan _).mono ?_
  rintro e w1 ⟨rfl, rfl⟩
  go_wp2_with fail
  refine bodyPost_ret (v := .tuple #[.int .i64 0, .bool false]) ?_ rfl ⟨rfl, Below.refl _ _⟩
  simp [results, Try.results19, go_sem]
theorem bestF_answer : BestFAnswer := by
  intro row above unit w hu h1 h2
  unfold bestV
  by_cases h : FiltR 0 row above unit
  · rw [if_pos h, decide_eq_true h]
    obtain ⟨u, rfl⟩ : ∃ u : Nat, unit = (u : Int) := ⟨unit.toNat, by have := h.2.1; omega⟩
    exact implBest_in row above u w h
  · rw [if_neg h, decide_eq_false h]
    exact implBest_out row above unit w h
end Go.Proofs.Ytholkigomokimaa
