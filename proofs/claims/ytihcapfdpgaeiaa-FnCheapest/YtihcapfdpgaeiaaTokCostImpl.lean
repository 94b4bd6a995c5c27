/-
  The walk of the program's TokensCost.
-/
import Derived.Test.YtihcapfdpgaeiaaRows
import Derived.Test.YtihcapfdpgaeiaaBase
import Derived.Test.YtihcapfdpgaeiaaTokMath
import Derived.Test.YtihcapfdpgaeiaaTriLib
import Derived.Test.YtihcapfdpgaeiaaCheapMath
import Derived.Test.YtihcapfdpgaeiaaTokCostAns
import Derived.Test.YtihcapfdpgaeiaaTokOkAns
import Derived.Test.YtihcapfdpgaeiaaPieceImpl
import Derived.Test.YtihcapfdpgaeiaaPriceImpl
import Derived.WalkKit
import Derived.ProofKit
import Derived.WalkLawsBesides
import Derived.Below
import Derived.Deep.LoopGhost
import Derived.Lib.SmallJoins
namespace Go.Proofs.Ytihcapfdpgaeiaa
open Go.RowKit Go.Joins TokMath CheapMath

set_option maxHeartbeats 1600000 in
theorem tokCost_answer : TokCostAnswer := by
  intro a c L w hC hcap hn hwf
  have HC := hid_of hC
  have HWF := hid_of hwf
  clear hC hwf
  by_cases h12 : L.length ≤ 12000
  · have d : decide ((12000 : Int) < (L.length : Int)) = false := decide_eq_false (by omega)
    have d' : decide (12000 < L.length) = false := decide_eq_false (by omega)
    go_enter Try.func16, Try.ntmps16
    go_wp2_with fail
    go_loopg [4, 12] (L.length + 1) (fun gk v i w' => ∃ (j : Nat) (z : Int), j ≤ L.length ∧ L.length - j ≤ gk ∧ i = .int .i64 j ∧ v = .int .i64 z ∧ 0 ≤ z ∧ z ≤ 31 * (j : Int) ∧ Hid (Below w.heap.size w w' ∧ z = sumC (L.take j) ∧ ∀ t ∈ L.take j, TokRight t))
    case atStart => exact ⟨0, 0, Nat.zero_le _, by omega, rfl, rfl, by omega, by omega, Below.refl _ _, rfl, fun t ht => by cases ht⟩
    case round =>
      obtain ⟨j, z, hj, hgk, rfl, rfl, hz0, hz1, hS⟩ := hrel
      by_cases hlt : j < L.length
      · have dl : decide ((j : Int) < (L.length : Int)) = true := decide_eq_true (by omega)
        rcases HC.out with q | ⟨g, off, rfl, hg, hc⟩
        · omega
        obtain ⟨c0, c1, c2⟩ : w.cell? ⟨g, off + j * 3, none⟩ = some (.int .i64 (L.getD j (0, 0, 0)).1) ∧ w.cell? ⟨g, off + j * 3 + 1, none⟩ = some (.int .i64 (L.getD j (0, 0, 0)).2.1) ∧ w.cell? ⟨g, off + j * 3 + 2, none⟩ = some (.int .i64 (L.getD j (0, 0, 0)).2.2) := hc j hlt
        have HST := hid_of (sumC_take hlt)
        have HMEM : Hid (∀ t ∈ L.take (j + 1), t ∈ L.take j ∨ t = L.getD j (0, 0, 0)) := fun t ht => by
          rw [List.take_add_one, List.getElem?_eq_getElem hlt] at ht
          rcases List.mem_append.mp ht with q | q
          · exact .inl q
          · right
            rw [List.getD_eq_getElem?_getD, List.getElem?_eq_getElem hlt]
            exact List.mem_singleton.mp q
        have hin : L.getD j (0, 0, 0) ∈ L := by
          rw [List.getD_eq_getElem?_getD, List.getElem?_eq_getElem hlt]
          exact List.getElem_mem hlt
        have hw3 := HWF.out _ hin
        have HIN := hid_of hin
        clear hin
        obtain ⟨⟨x, y, q⟩, hr⟩ : ∃ r, r = L.getD j (0, 0, 0) := ⟨_, rfl⟩
        rw [← hr] at c0 c1 c2 HST HMEM HIN hw3
        obtain ⟨wx, wy, wq⟩ := hw3
        have f0 : wr.cell? ⟨g, off + j * 3, none⟩ = some (.int .i64 x) := (hS.out.1.cell (p := ⟨g, off + j * 3, none⟩) hg).trans c0
        have f1 : wr.cell? ⟨g, off + j * 3 + 1, none⟩ = some (.int .i64 y) := (hS.out.1.cell (p := ⟨g, off + j * 3 + 1, none⟩) hg).trans c1
        have f2 : wr.cell? ⟨g, off + j * 3 + 2, none⟩ = some (.int .i64 q) := (hS.out.1.cell (p := ⟨g, off + j * 3 + 2, none⟩) hg).trans c2
        have hl2 : g < wr.heap.size := Nat.lt_of_lt_of_le hg hS.out.1.size
        have htk := fun w => token_answer x y q w wx wy wq
        have hcs := fun w => price_any x y q w wy wq
        have hcr := cost_range (x, y, q)
        have HA : Hid (Below w.heap.size w (wr.alloc (.cells #[.int .i64 x, .int .i64 y, .int .i64 q] 51))) := bal hS.out.1 _
        clear hc c0 c1 c2 hr wx wy wq
        by_cases hright : TokRight (x, y, q)
        · have HR := hid_of hright
          go_wp2_with fail
          refine (htk _).mono ?_
          rintro e w2 ⟨rfl, hB2⟩
          rw [decide_eq_true hright]
          clear htk hright
          have k0 : w2.cell? ⟨wr.heap.size, 0, none⟩ = some (.int .i64 x) := (hB2.cell (p := ⟨wr.heap.size, 0, none⟩) (by simp)).trans (by simp)
          have k1 : w2.cell? ⟨wr.heap.size, 1, none⟩ = some (.int .i64 y) := (hB2.cell (p := ⟨wr.heap.size, 1, none⟩) (by simp)).trans (by simp)
          have k2 : w2.cell? ⟨wr.heap.size, 2, none⟩ = some (.int .i64 q) := (hB2.cell (p := ⟨wr.heap.size, 2, none⟩) (by simp)).trans (by simp)
          have HB2 := hid_of (bnext HA.out hB2)
          clear f0 f1 f2 hB2
          obtain ⟨T, hT⟩ : ∃ T, T = costT (x, y, q) := ⟨_, rfl⟩
          rw [← hT] at hcs hcr HST
          clear hT
          go_wp2_with fail
          refine (hcs _).mono ?_
          rintro e w3 ⟨rfl, hB3⟩
          clear hcs
          have HNX : Hid (Below w.heap.size w w3 ∧ z + T = sumC (L.take (j + 1)) ∧ ∀ t ∈ L.take (j + 1), TokRight t) := by
            refine ⟨bnext HB2.out hB3, ?_, fun t ht => ?_⟩
            · rw [HST.out, hS.out.2.1]
            · rcases HMEM.out t ht with q | q
              · exact hS.out.2.2 t q
              · rw [q]
                exact HR.out
          clear hB3
          go_wp2_with fail
          go_roundg (L.length - (j + 1))
          case measure => omega
          case rel => exact ⟨j + 1, z + T, by omega, Nat.le_refl _, by go_num, rfl, by omega, by omega, HNX⟩
        · have HNX : Hid (tokCost L = (0, false)) := by
            show tokCost L = (0, false)
            unfold tokCost
            rw [if_neg (fun k => hright (k.2 _ HIN.out))]
          go_wp2_with fail
          refine (htk _).mono ?_
          rintro e w2 ⟨rfl, hB2⟩
          rw [decide_eq_false hright]
          have HB2 := hid_of (bnext HA.out hB2)
          clear htk hright hB2
          go_wp2_with fail
          go_ret2
          rw [HNX.out]
          exact ⟨rfl, HB2.out⟩
      · obtain rfl : j = L.length := by omega
        have dl : decide ((L.length : Int) < (L.length : Int)) = false := decide_eq_false (by omega)
        have HZ : Hid (Below w.heap.size w wr ∧ tokCost L = (z, true)) := by
          refine ⟨hS.out.1, ?_⟩
          have h := hS.out.2
          rw [List.take_length] at h
          unfold tokCost
          rw [if_pos ⟨h12, h.2⟩, h.1]
        go_wp2_with fail
        go_ret2
        have hq := HZ.out.2
        rw [hq]
        exact ⟨rfl, HZ.out.1⟩
  · have e0 : tokCost L = (0, false) := by
      unfold tokCost
      rw [if_neg (fun k => h12 k.1)]
    rw [e0]
    have d : decide ((12000 : Int) < (L.length : Int)) = true := decide_eq_true (by omega)
    have d' : decide (12000 < L.length) = true := decide_eq_true (by omega)
    go_enter Try.func16, Try.ntmps16
    go_wp2_with fail
    go_ret2
    exact ⟨rfl, Below.refl _ _⟩

end Go.Proofs.Ytihcapfdpgaeiaa
