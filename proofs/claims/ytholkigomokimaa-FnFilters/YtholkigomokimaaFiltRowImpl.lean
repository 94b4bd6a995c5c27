/-
  The walks of the program's FilterRow and UnfilterRow.
-/
import Derived.Test.YtholkigomokimaaRows
import Derived.Test.YtholkigomokimaaBase
import Derived.Test.YtholkigomokimaaOwnLib
import Derived.Test.YtholkigomokimaaByteDef
import Derived.Test.YtholkigomokimaaByteLib
import Derived.Test.YtholkigomokimaaBytesFn
import Derived.Test.YtholkigomokimaaByteBlk
import Derived.Test.YtholkigomokimaaPartLen12
import Derived.Test.YtholkigomokimaaFiltMath
import Derived.Test.YtholkigomokimaaFiltVal
import Derived.Test.YtholkigomokimaaFiltAns
import Derived.Test.YtholkigomokimaaFiltSmall
import Derived.Test.YtholkigomokimaaFiltInto
import Derived.Test.YtholkigomokimaaUnfInto
import Derived.WalkKit
import Derived.ProofKit
import Derived.WalkLawsBesides
import Derived.Below
import Derived.Lib.SmallJoins
namespace Go.Proofs.Ytholkigomokimaa
open Go.RowKit Go.Joins TakeMath FiltMath TokMath

set_option maxHeartbeats 1600000 in
theorem implFilter_in (k : Int) (row above : ByteArray) (unit : Nat) (w : World) (h : FiltR k row above (unit : Int)) :
    Calls Try.prog 20 #[.int .i64 k, .string row, .string above, .int .i64 (unit : Int)] w fun e w' => e = .returned (.tuple #[.string (filtT k row above unit), .bool true]) ∧ Below w.heap.size w w' := by
  have hcan := fun W => canFilter_any row above (unit : Int) W
  rw [decide_eq_true (h.kind (j := 0) (by omega))] at hcan
  obtain ⟨hk, hu, hs, hn⟩ := h
  have hik := fun W => isFilterKind_any k W
  rw [decide_eq_true hk] at hik
  have HS := hid_of hs
  have ha : above.size ≤ 200 := by omega
  clear hs
  go_enter Try.func20, Try.ntmps20
  go_wp2_with fail
  refine (hik _).mono ?_
  rintro e w1 ⟨rfl, rfl⟩
  go_wp2_with fail
  refine (hcan _).mono ?_
  rintro e w2 ⟨rfl, rfl⟩
  clear hcan hik
  have hmk := make_bytes12 w2 row.size (by omega)
  have hO3 : BFn (w2.alloc (.cells (madeCells #[Value.int .u8 0] row.size) 5)) w2.heap.size w2.heap.size row.size row.size (fun _ => 0) := BFn.made (base := w2.heap.size) w2 row.size (by unfold maxLen; omega) (Nat.le_refl _)
  have hB3 := bstart w2 (.cells (madeCells #[Value.int .u8 0] row.size) 5)
  generalize w2.alloc (.cells (madeCells #[Value.int .u8 0] row.size) 5) = w3 at hmk hO3 hB3
  obtain ⟨G, hG⟩ : ∃ G, G = w2.heap.size := ⟨_, rfl⟩
  rw [← hG] at hmk
  have hO3' : BFn w3 w2.heap.size G row.size row.size (fun _ => 0) := by rw [hG]; exact hO3
  obtain ⟨W4, c4, hcv4, hO4, hB4⟩ := bown_of_text w3 row (by omega)
  obtain ⟨W5, c5, hcv5, hO5, hB5⟩ := bown_of_text W4 above (by omega)
  have hO5' : BAt W5 W4.heap.size row.size (bts above) := by rw [HS.out]; exact hO5.bytes
  have hGl : G < w3.heap.size := Own.lt hO3'
  have hp := filterInto_any k hk (bts row) (bts above) (fun _ => 0) unit row.size w2.heap.size G row.size row.size 0 row.size w3.heap.size c4 W4.heap.size c5 W5 (by omega) hn (bts_byte row) (bts_byte above) ((hO3'.called hB4).called hB5) (by omega) (hO4.bytes.called hB5) hO5' (by omega) (by have := hB4.size; omega)
  have HB5 : Hid (Below w2.heap.size w2 W5) := bnext (bnext hB3 hB4) hB5
  have HGG : Hid (w2.heap.size ≤ G) := by rw [hG]; exact Nat.le_refl _
  rw [← HS.out] at hcv5
  have hz : above.size = row.size := HS.out.symm
  clear hO3 hO3' hO4 hO5 hO5' hB3 hB4 hB5 hG hGl HS
  generalize w3.heap.size = G3 at hcv4 hp
  generalize W4.heap.size = G4 at hcv5 hp
  go_wp2_with fail
  refine hp.mono ?_
  rintro e w6 ⟨rfl, h, hO, hh, -, hBB⟩
  have hcv := hO.text (filtL k (bts row) (bts above) unit row.size) (filtL_length _ _ _ _ _) (fun i hi => by
    have := hh i hi
    rw [Nat.zero_add] at this
    rw [filtL_get _ _ _ _ _ _ hi, this])
  have HBE : Hid (Below w2.heap.size w2 w6) := hBB.below HB5.out HGG.out HB5.out.size
  clear hO hh hBB hp hcv4 hcv5 hmk
  go_wp2_with fail
  refine bodyPost_ret (v := .tuple #[.string (strOfNums (filtL k (bts row) (bts above) unit row.size)), .bool true]) ?_ rfl ⟨rfl, HBE.out⟩
  simp [results, Try.results20, go_sem]
set_option maxHeartbeats 1600000 in
theorem implUnfilter_in (k : Int) (row above : ByteArray) (unit : Nat) (w : World) (h : FiltR k row above (unit : Int)) :
    Calls Try.prog 21 #[.int .i64 k, .string row, .string above, .int .i64 (unit : Int)] w fun e w' => e = .returned (.tuple #[.string (unfT k row above unit), .bool true]) ∧ Below w.heap.size w w' := by
  have hcan := fun W => canFilter_any row above (unit : Int) W
  rw [decide_eq_true (h.kind (j := 0) (by omega))] at hcan
  obtain ⟨hk, hu, hs, hn⟩ := h
  have hik := fun W => isFilterKind_any k W
  rw [decide_eq_true hk] at hik
  have HS := hid_of hs
  have ha : above.size ≤ 200 := by omega
  clear hs
  go_enter Try.func21, Try.ntmps21
  go_wp2_with fail
  refine (hik _).mono ?_
  rintro e w1 ⟨rfl, rfl⟩
  go_wp2_with fail
  refine (hcan _).mono ?_
  rintro e w2 ⟨rfl, rfl⟩
  clear hcan hik
  obtain ⟨W4, c4, hcv4, hO4, hB4⟩ := bown_of_text w2 row (by omega)
  obtain ⟨W5, c5, hcv5, hO5, hB5⟩ := bown_of_text W4 above (by omega)
  have hO5' : BAt W5 W4.heap.size row.size (bts above) := by rw [HS.out]; exact hO5.bytes
  have hp := unfilter_any k hk (bts row) (bts above) unit row.size w2.heap.size w2.heap.size c4 W4.heap.size c5 W5 (by omega) hn (bts_byte row) (bts_byte above) (hO4.fn.called hB5) hO5' (by have := hO4.lt; omega)
  have HB5 : Hid (Below w2.heap.size w2 W5) := bnext hB4 hB5
  obtain ⟨G, hG⟩ : ∃ G, G = w2.heap.size := ⟨_, rfl⟩
  have HGG : Hid (G = w2.heap.size) := hG
  rw [← HS.out] at hcv5
  have hz : above.size = row.size := HS.out.symm
  clear hO4 hO5 hO5' hB4 hB5 hG HS
  generalize W4.heap.size = G4 at hcv5 hp
  go_wp2_with fail
  refine hp.mono ?_
  rintro e w6 ⟨rfl, h, hO, hh, -, -, hBB⟩
  have hcv := hO.text (unfL k (bts row) (bts above) unit row.size) (unfL_length _ _ _ _ _) (fun i hi => (hh i hi).symm)
  have HBE : Hid (Below w2.heap.size w2 w6) := hBB.below HB5.out (Nat.le_refl _) HB5.out.size
  clear hO hh hBB hp hcv4 hcv5
  go_wp2_with fail
  refine bodyPost_ret (v := .tuple #[.string (strOfNums (unfL k (bts row) (bts above) unit row.size)), .bool true]) ?_ rfl ⟨rfl, HBE.out⟩
  simp [results, Try.results21, go_sem]
theorem implFilter_out (k : Int) (row above : ByteArray) (unit : Int) (w : World) (h : ¬ FiltR k row above unit) :
    Calls Try.prog 20 #[.int .i64 k, .string row, .string above, .int .i64 unit] w fun e w' => e = .returned (.tuple #[.string ⟨#[]⟩, .bool false]) ∧ Below w.heap.size w w' := by
  have hik := fun W => isFilterKind_any k W
  by_cases hk : 0 ≤ k ∧ k ≤ 4
  · rw [decide_eq_true hk] at hik
    have hcan := fun W => canFilter_any row above unit W
    rw [decide_eq_false (fun hc => h (hc.kind hk))] at hcan
    clear h
    go_enter Try.func20, Try.ntmps20
    go_wp2_with fail
    refine (hik _).mono ?_
    rintro e w1 ⟨rfl, rfl⟩
    go_wp2_with fail
    refine (hcan _).mono ?_
    rintro e w2 ⟨rfl, rfl⟩
    go_wp2_with fail
    refine bodyPost_ret (v := .tuple #[.string ⟨#[]⟩, .bool false]) ?_ rfl ⟨rfl, Below.refl _ _⟩
    simp [results, Try.results20, go_sem]
  · rw [decide_eq_false hk] at hik
    clear h
    go_enter Try.func20, Try.ntmps20
    go_wp2_with fail
    refine (hik _).mono ?_
    rintro e w1 ⟨rfl, rfl⟩
    go_wp2_with fail
    refine bodyPost_ret (v := .tuple #[.string ⟨#[]⟩, .bool false]) ?_ rfl ⟨rfl, Below.refl _ _⟩
    simp [results, Try.results20, go_sem]
theorem implUnfilter_out (k : Int) (row above : ByteArray) (unit : Int) (w : World) (h : ¬ FiltR k row above unit) :
    Calls Try.prog 21 #[.int .i64 k, .string row, .string above, .int .i64 unit] w fun e w' => e = .returned (.tuple #[.string ⟨#[]⟩, .bool false]) ∧ Below w.heap.size w w' := by
  have hik := fun W => isFilterKind_any k W
  by_cases hk : 0 ≤ k ∧ k ≤ 4
  · rw [decide_eq_true hk] at hik
    have hcan := fun W => canFilter_any row above unit W
    rw [decide_eq_false (fun hc => h (hc.kind hk))] at hcan
    clear h
    go_enter Try.func21, Try.ntmps21
    go_wp2_with fail
    refine (hik _).mono ?_
    rintro e w1 ⟨rfl, rfl⟩
    go_wp2_with fail
    refine (hcan _).mono ?_
    rintro e w2 ⟨rfl, rfl⟩
    go_wp2_with fail
    refine bodyPost_ret (v := .tuple #[.string ⟨#[]⟩, .bool false]) ?_ rfl ⟨rfl, Below.refl _ _⟩
    simp [results, Try.results21, go_sem]
  · rw [decide_eq_false hk] at hik
    clear h
    go_enter Try.func21, Try.ntmps21
    go_wp2_with fail
    refine (hik _).mono ?_
    rintro e w1 ⟨rfl, rfl⟩
    go_wp2_with fail
    refine bodyPost_ret (v := .tuple #[.string ⟨#[]⟩, .bool false]) ?_ rfl ⟨rfl, Below.refl _ _⟩
    simp [results, Try.results21, go_sem]
theorem filter_answer : FilterAnswer := by
  intro k row above unit w hk hu h1 h2
  unfold filtV
  by_cases h : FiltR k row above unit
  · rw [if_pos h, decide_eq_true h]
    obtain ⟨u, rfl⟩ : ∃ u : Nat, unit = (u : Int) := ⟨unit.toNat, by have := h.2.1; omega⟩
    exact implFilter_in k row above u w h
  · rw [if_neg h, decide_eq_false h]
    exact implFilter_out k row above unit w h
theorem unfilter_answer : UnfilterAnswer := by
  intro k row above unit w hk hu h1 h2
  unfold unfV
  by_cases h : FiltR k row above unit
  · rw [if_pos h, decide_eq_true h]
    obtain ⟨u, rfl⟩ : ∃ u : Nat, unit = (u : Int) := ⟨unit.toNat, by have := h.2.1; omega⟩
    exact implUnfilter_in k row above u w h
  · rw [if_neg h, decide_eq_false h]
    exact implUnfilter_out k row above unit w h
end Go.Proofs.Ytholkigomokimaa
