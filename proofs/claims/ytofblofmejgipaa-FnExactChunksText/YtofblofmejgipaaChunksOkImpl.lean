/-
  The walks of the program's chunksOk and ChunksText. (Printed by tools/mkchunkimpl.py.)
-/
import Derived.Test.YtofblofmejgipaaRows
import Derived.Test.YtofblofmejgipaaBase
import Derived.Test.YtofblofmejgipaaOutMath
import Derived.Test.YtofblofmejgipaaCrcMath
import Derived.Test.YtofblofmejgipaaSumsMath
import Derived.Test.YtofblofmejgipaaBigTextMath
import Derived.Test.YtofblofmejgipaaBigTextWalks
import Derived.Test.YtofblofmejgipaaCrcImpl
import Derived.Test.YtofblofmejgipaaCrcOneImpl
import Derived.Test.YtofblofmejgipaaChunkMath
import Derived.Test.YtofblofmejgipaaPartLen12
import Derived.Test.YtofblofmejgipaaChunkFile
import Derived.Test.YtofblofmejgipaaChkLib
import Derived.Test.YtofblofmejgipaaChkWalks
import Derived.Test.YtofblofmejgipaaNameImpl
import Derived.Test.YtofblofmejgipaaByteDef
import Derived.Test.YtofblofmejgipaaByteLib
import Derived.Test.YtofblofmejgipaaByteRow12
import Derived.Test.YtofblofmejgipaaChunkImpl
import Derived.Deep.LoopGhost
import Derived.WalkKit
import Derived.ProofKit
import Derived.WalkLawsBesides
import Derived.Below
import Derived.Deep.RegionHeld3
import Derived.Lib.AppendStr
import Derived.Lib.SmallJoins
namespace Go.Proofs.Ytofblofmejgipaa
open Go.RowKit Go.Joins OutMath ChunkMath CrcMath BigTextMath

set_option maxHeartbeats 3200000 in
theorem implChunksOk (a : Option Addr) (n c : Nat) (L : List Chk) (w : World) (hn : n = L.length) (hC : KCame w a n (fun j => L.getD j noChk)) (hm : ∀ i, i < n → (L.getD i noChk).1.size ≤ 1048576 ∧ (L.getD i noChk).2.size ≤ 1048576) (hN : n ≤ 1048576) :
    Calls Try.prog 28 #[.slice a n c] w fun e w' => (∃ t : Bool, e = .returned (.bool t) ∧ (t = true ↔ FileR L)) ∧ Below w.heap.size w w' := by
  by_cases h40 : n ≤ 40
  · have d40 : decide ((n : Int) > 40) = false := decide_eq_false (by omega)
    have HC := hid_of hC
    have HM := hid_of hm
    have HNL := hid_of hn
    clear hC hm hn
    go_enter Try.func28, Try.ntmps28
    go_wp2_with fail
    go_loopg [3, 11] (n + 1) (fun gk s i w' => ∃ (j k : Nat), j ≤ n ∧ n - j ≤ gk ∧ s = .int .i64 (k : Int) ∧ i = .int .i64 (j : Int) ∧ k ≤ 12000 ∧ Hid (k = (preT L j).size) ∧ Hid (Below w.heap.size w w') ∧ Hid (∀ i, i < j → NameR (L.getD i noChk).1))
    case atStart => exact ⟨0, 8, Nat.zero_le _, by omega, rfl, rfl, by omega, rfl, Below.refl _ _, fun i hi => absurd hi (Nat.not_lt_zero i)⟩
    case round =>
      obtain ⟨j, k, hj, hgk, rfl, rfl, hk, hK, hB, hNm⟩ := hrel
      by_cases hlt : j < n
      · have dl : decide ((j : Int) < (n : Int)) = true := decide_eq_true (by omega)
        rcases HC.out with h0 | ⟨ga, off, rfl, hg, hc⟩
        · omega
        · have c0 : wr.cell? ⟨ga, off + j * 2, none⟩ = some (.string (L.getD j noChk).1) := (hB.out.cell (p := ⟨ga, off + j * 2, none⟩) hg).trans (hc j hlt).1
          have c1 : wr.cell? ⟨ga, off + j * 2 + 1, none⟩ = some (.string (L.getD j noChk).2) := (hB.out.cell (p := ⟨ga, off + j * 2 + 1, none⟩) hg).trans (hc j hlt).2
          have hl2 : ga < wr.heap.size := Nat.lt_of_lt_of_le hg hB.out.size
          have hsx := (HM.out j hlt).1
          have hsy := (HM.out j hlt).2
          have HPS := hid_of (preT_size_succ L j (by rw [← HNL.out]; exact hlt))
          clear hc
          obtain ⟨x, hx⟩ : ∃ x, x = (L.getD j noChk).1 := ⟨_, rfl⟩
          obtain ⟨y, hy⟩ : ∃ y, y = (L.getD j noChk).2 := ⟨_, rfl⟩
          rw [← hx] at c0 hsx
          rw [← hy] at c1 hsy
          have HXY := hid_of (And.intro hx hy)
          clear hx hy
          go_wp2_with fail
          have HB2 := hid_of (bnext hB.out (bstart wr (.cells #[.string x, .string y] 35)))
          have q0 : (wr.alloc (.cells #[.string x, .string y] 35)).cell? ⟨wr.heap.size, 0, none⟩ = some (.string x) := (cell_of_block (heap_alloc_new wr _) 0).trans rfl
          have q1 : (wr.alloc (.cells #[.string x, .string y] 35)).cell? ⟨wr.heap.size, 1, none⟩ = some (.string y) := (cell_of_block (heap_alloc_new wr _) 1).trans rfl
          have ql : wr.heap.size < (wr.alloc (.cells #[.string x, .string y] 35)).heap.size := by simp
          generalize wr.alloc (.cells #[.string x, .string y] 35) = W2 at HB2 q0 q1 ql ⊢
          generalize wr.heap.size = bx at *
          clear c0 c1 hB hl2
          refine (implChunkSize x y W2 hsy).mono ?_
          rintro e w3 ⟨rfl, hB3⟩
          have HB3 := hid_of (bnext HB2.out hB3)
          have j0 := (hB3.cell (p := ⟨bx, 0, none⟩) ql).trans q0
          have j1 := (hB3.cell (p := ⟨bx, 1, none⟩) ql).trans q1
          have jl : bx < w3.heap.size := Nat.lt_of_lt_of_le ql hB3.size
          clear hB3 q0 q1 ql HB2
          go_wp2_with fail
          refine (implName x w3).mono ?_
          rintro e w4 ⟨rfl, q⟩
          have q' := q.symm
          subst q'
          clear q
          by_cases hnm : NameR x
          · have hx4 := hnm.1
            rw [decide_eq_true hnm]
            have HNX := hid_of hnm
            clear hnm
            have HK1 : Hid (k + (12 + y.size) = (preT L (j + 1)).size) := by
              show _ = _
              rw [HPS.out, ← HXY.out.1, ← HXY.out.2, hx4, hK.out]
              omega
            by_cases hsz : k + (12 + y.size) ≤ 12000
            · have dz : decide ((k : Int) + (12 + (y.size : Int)) > 12000) = false := decide_eq_false (by omega)
              have HN : Hid (∀ i, i < j + 1 → NameR (L.getD i noChk).1) := fun i hi => by
                by_cases e : i = j
                · rw [e, ← HXY.out.1]; exact HNX.out
                · exact hNm.out i (by omega)
              clear hK HPS
              go_wp2_with fail
              go_roundg (n - (j + 1))
              case measure => omega
              case rel => exact ⟨j + 1, k + (12 + y.size), by omega, Nat.le_refl _, by first | rfl | (congr 1; done) | (congr 1; omega), by go_num, hsz, HK1, HB3, HN⟩
            · have dz : decide ((k : Int) + (12 + (y.size : Int)) > 12000) = true := decide_eq_true (by omega)
              have HX : Hid (¬ FileR L) := file_bad_size L (j + 1) (by rw [← HNL.out]; omega) (by rw [← HK1.out]; omega)
              clear hK HPS
              go_wp2_with fail
              go_ret
              exact ⟨⟨false, rfl, ⟨fun q => (by cases q), fun q => absurd q HX.out⟩⟩, HB3.out⟩
          · rw [decide_eq_false hnm]
            have HX : Hid (¬ FileR L) := file_bad_name L j (by rw [← HNL.out]; exact hlt) (by rw [← HXY.out.1]; exact hnm)
            clear hnm hK HPS
            go_wp2_with fail
            go_ret
            exact ⟨⟨false, rfl, ⟨fun q => (by cases q), fun q => absurd q HX.out⟩⟩, HB3.out⟩
      · obtain rfl : j = n := by omega
        have HX : Hid (FileR L) := file_good L (by rw [← HNL.out]; exact h40) (by rw [← HNL.out]; exact hNm.out) (by rw [← HNL.out, ← hK.out]; exact hk)
        go_wp2_with fail
        go_ret
        exact ⟨⟨true, rfl, ⟨fun _ => HX.out, fun _ => rfl⟩⟩, hB.out⟩
  · have d40 : decide ((n : Int) > 40) = true := decide_eq_true (by omega)
    have HX : Hid (¬ FileR L) := fun q => by have := q.1; omega
    clear hC hm
    go_enter Try.func28, Try.ntmps28
    go_wp2_with fail
    go_ret
    exact ⟨⟨false, rfl, ⟨fun q => (by cases q), fun q => absurd q HX.out⟩⟩, Below.refl _ _⟩

end Go.Proofs.Ytofblofmejgipaa
