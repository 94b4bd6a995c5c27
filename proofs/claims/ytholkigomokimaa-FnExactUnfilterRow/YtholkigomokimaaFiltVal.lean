/-
  Filters in plain numbers: each function's answer as one value. Nothing here speaks of the program.
-/
import Derived.Test.YtholkigomokimaaTakeMath
import Derived.Test.YtholkigomokimaaFiltMath
import Derived.WalkKit
namespace Go.Proofs.Ytholkigomokimaa
namespace FiltMath
open TakeMath

def filtV (k : Int) (row above : ByteArray) (unit : Int) : ByteArray := if FiltR k row above unit then filtT k row above unit.toNat else ⟨#[]⟩
def unfV (k : Int) (row above : ByteArray) (unit : Int) : ByteArray := if FiltR k row above unit then unfT k row above unit.toNat else ⟨#[]⟩
theorem filtT_size (k : Int) (row above : ByteArray) (unit : Nat) : (filtT k row above unit).size = row.size := (strOfNums_size _).trans (filtL_length _ _ _ _ _)
theorem FiltR.kind {k j : Int} {row above : ByteArray} {unit : Int} (h : FiltR k row above unit) (hj : 0 ≤ j ∧ j ≤ 4) : FiltR j row above unit := ⟨hj, h.2⟩
/-- How much a row weighs by each kind, and the lightest one. -/
def wk (row above : ByteArray) (unit : Nat) (k : Nat) : Int := weight (filtT (k : Int) row above unit)
def bestV (row above : ByteArray) (unit : Int) : Int := if FiltR 0 row above unit then (least (wk row above unit.toNat) 4 : Nat) else 0
theorem weight_range (s : ByteArray) (h : s.size ≤ 200) : 0 ≤ weight s ∧ weight s ≤ 25600 := by
  unfold weight
  rw [if_pos h]
  have := wsum_range (bts_byte s) s.size
  omega
theorem wk_range (row above : ByteArray) (unit k : Nat) (h : row.size ≤ 200) : 0 ≤ wk row above unit k ∧ wk row above unit k ≤ 25600 := weight_range _ (by rw [filtT_size]; exact h)
theorem bts_str {L : List Int} (h : ∀ x ∈ L, 0 ≤ x ∧ x < 256) (i : Nat) (hi : i < L.length) : bts (strOfNums L) i = L.getD i 0 := by
  have hx := h _ (List.getElem_mem hi)
  unfold bts byteAt
  have e : (strOfNums L).data[i]? = some (UInt8.ofNat (L[i]).toNat) := by
    rw [← Array.getElem?_toList, strOfNums_data, List.getElem?_map, List.getElem?_eq_getElem hi]
    rfl
  rw [e, List.getD_eq_getElem?_getD, List.getElem?_eq_getElem hi]
  show ((UInt8.ofNat (L[i]).toNat).toNat : Int) = L[i]
  rw [UInt8.toNat_ofNat', Nat.mod_eq_of_lt (by omega)]
  omega
theorem str_bts (s : ByteArray) : strOfNums ((List.range s.size).map (bts s)) = s := by
  obtain ⟨d⟩ := s
  have e : (((List.range (ByteArray.size ⟨d⟩)).map (bts ⟨d⟩)).map fun n => UInt8.ofNat n.toNat) = d.toList := by
    apply List.ext_getElem?
    intro i
    rw [List.map_map, List.getElem?_map, Array.getElem?_toList (xs := d)]
    by_cases h : i < d.size
    · rw [List.getElem?_range (show i < ByteArray.size ⟨d⟩ from h), Array.getElem?_eq_getElem h]
      show some (UInt8.ofNat (bts ⟨d⟩ i).toNat) = some d[i]
      unfold bts byteAt
      rw [Array.getElem?_eq_getElem h]
      show some (UInt8.ofNat ((d[i].toNat : Int)).toNat) = _
      rw [Int.toNat_natCast, UInt8.ofNat_toNat]
    · rw [List.getElem?_eq_none (by rw [List.length_range]; exact Nat.le_of_not_lt h), Array.getElem?_eq_none (by omega)]
      rfl
  unfold strOfNums
  rw [e]
/-- P13: what is filtered may be brought back, and is the row again. -/
theorem back_right {k : Int} {row above : ByteArray} {unit : Int} (h : FiltR k row above unit) : FiltR k (filtV k row above unit) above unit ∧ unfV k (filtV k row above unit) above unit = row := by
  have e1 : filtV k row above unit = filtT k row above unit.toNat := if_pos h
  have h2 : FiltR k (filtT k row above unit.toNat) above unit := ⟨h.1, h.2.1, by rw [filtT_size]; exact h.2.2.1, by rw [filtT_size]; exact h.2.2.2⟩
  rw [e1]
  refine ⟨h2, ?_⟩
  unfold unfV
  rw [if_pos h2]
  unfold unfT
  rw [filtT_size]
  have hu : 1 ≤ unit.toNat := by have := h.2.1; omega
  rw [unfL_congr k (r' := filtB k (bts row) (bts above) unit.toNat) (u' := bts above) unit.toNat row.size (fun i hi => ?_) (fun _ _ => rfl), unf_filt k hu (bts_byte row) (bts_byte above) row.size]
  · exact str_bts row
  · unfold filtT
    rw [bts_str (fun x hx => ?_) i (by rw [filtL_length]; exact hi), filtL_get _ _ _ _ _ _ hi]
    obtain ⟨j, _, rfl⟩ := List.mem_map.1 hx
    exact filtB_byte _ _ _ _ _
end FiltMath
end Go.Proofs.Ytholkigomokimaa
