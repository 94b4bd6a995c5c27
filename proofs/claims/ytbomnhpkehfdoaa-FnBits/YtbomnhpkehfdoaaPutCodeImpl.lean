/-
  The walks of PutCode in the program.
-/
import Derived.Test.YtbomnhpkehfdoaaRows
import Derived.Test.YtbomnhpkehfdoaaBase
import Derived.Test.YtbomnhpkehfdoaaOutMath
import Derived.Test.YtbomnhpkehfdoaaOutWalks
import Derived.Test.YtbomnhpkehfdoaaMayWalks
import Derived.Test.YtbomnhpkehfdoaaPutMath
import Derived.Test.YtbomnhpkehfdoaaOwnLib
import Derived.Test.YtbomnhpkehfdoaaPutSpec
import Derived.Test.YtbomnhpkehfdoaaPlacesWalks
import Derived.Test.YtbomnhpkehfdoaaWriterWalks
import Derived.Test.YtbomnhpkehfdoaaWriterCode
import Derived.WalkKit
import Derived.ProofKit
import Derived.WalkLawsBesides
import Derived.Lib.SmallJoins
namespace Go.Proofs.Ytbomnhpkehfdoaa
open Go.RowKit Go.Joins OutMath PutMath

set_option maxHeartbeats 800000 in
theorem implPutCode_yes (s : ByteArray) (c : Nat) (x : Int) (n : Nat) (w : World) (h : May s c x n) :
    Calls Try.prog 10 #[.agg #[.string s, .int .i64 c], .int .i64 x, .int .i64 n] w fun e w' => e = .returned (.tuple #[.agg #[.string (putOut s c x (fun j => n - 1 - j) n), .int .i64 ((c + n : Nat) : Int)], .bool true]) ∧ Below w.heap.size w w' := by
  obtain ⟨h1, h2, h3, h4, h5, h6⟩ := id h
  obtain ⟨q1, q2, q3, q4⟩ := fits_of_outB s c h1
  have HI : Hid (Inv (s.data.toList.map fun b => (b.toNat : Int)) c) := bytes_inv s c h1
  have hp : p2 n ≤ 16777216 := by
    have h1 := p2_le (show n ≤ 24 by omega)
    have h2 : p2 24 = 16777216 := by decide +kernel
    omega
  have hx : x ≤ 16777216 := by rw [Int.toNat_natCast] at h5; omega
  have HM : Hid (May s c x n) := h
  clear q4 h1 h5 h
  go_enter Try.func10, Try.ntmps10
  go_wp2_with fail
  refine (canPut_yes s c x n _ (by unfold maxLen; omega) (by omega) (by omega) HM.out).mono ?_
  rintro e w1 ⟨rfl, hb1⟩
  obtain ⟨W, hW⟩ : ∃ W, W = (w.alloc (.cells #[.string s, .int .i64 c] 28)).alloc (.cells #[.string ⟨#[]⟩, .int .i64 0] 28) := ⟨_, rfl⟩
  rw [← hW] at hb1
  have hWs : W.heap.size = w.heap.size + 1 + 1 := by rw [hW]; simp
  have hBW : Below w.heap.size w W := by rw [hW]; exact bal (bstart _ _) _
  have hcW : W.cell? ⟨w.heap.size, 0, none⟩ = some (.string s) ∧ W.cell? ⟨w.heap.size, 1, none⟩ = some (.int .i64 c) ∧ W.cell? ⟨w.heap.size + 1, 0, none⟩ = some (.string ⟨#[]⟩) ∧ W.cell? ⟨w.heap.size + 1, 1, none⟩ = some (.int .i64 0) ∧ ∀ j, W.frozen? ⟨w.heap.size + 1, j, none⟩ = false := by rw [hW]; simp
  clear hW
  rw [hWs] at hb1
  have hz1 := hb1.size
  have k0 : w1.cell? ⟨w.heap.size, 0, none⟩ = some (.string s) := (hb1.cell (p := ⟨w.heap.size, 0, none⟩) (by simp; omega)).trans hcW.1
  have k1 : w1.cell? ⟨w.heap.size, 1, none⟩ = some (.int .i64 c) := (hb1.cell (p := ⟨w.heap.size, 1, none⟩) (by simp; omega)).trans hcW.2.1
  go_wp2_with fail
  refine (newWriter s c _ q1).mono ?_
  rintro e w2 ⟨b, g0, cap0, rfl, hW2, hb2⟩
  have HW2 : Hid (Wr w2 w1.heap.size b g0 s.size cap0 (s.data.toList.map fun b => (b.toNat : Int)) c) := hW2
  have hB2 : Below (w.heap.size + 1 + 1) W w2 := hb1.trans (hb2.mono (by omega))
  clear hW2
  go_wp2_with fail
  refine (putCode_any x n b g0 s.size cap0 _ c w1.heap.size _ HW2.out HI.out h4 hx (by omega) (by omega)).mono ?_
  rintro e w4 ⟨g', L', cap', rfl, hW4, hb4⟩
  have hB4 : Below (w.heap.size + 1 + 1) W w4 := hB2.trans (hb4.mono (by omega))
  clear HW2
  go_wp2_with fail
  refine (writerOut b g' L' cap' _ _ w1.heap.size _ hW4).mono ?_
  rintro e w3 ⟨rfl, hb3⟩
  have hBs := hB4.size
  have hB3 : Below (w.heap.size + 1 + 1) W w3 := hB4.trans (hb3.mono (by omega))
  have r0 : w3.cell? ⟨w.heap.size + 1, 0, none⟩ = some (.string ⟨#[]⟩) := (hB3.cell (p := ⟨w.heap.size + 1, 0, none⟩) (by simp)).trans hcW.2.2.1
  have r1 : w3.cell? ⟨w.heap.size + 1, 1, none⟩ = some (.int .i64 0) := (hB3.cell (p := ⟨w.heap.size + 1, 1, none⟩) (by simp)).trans hcW.2.2.2.1
  have rf : ∀ i, w3.frozen? ⟨w.heap.size + 1, i, none⟩ = false := fun i => (hB3.frozen (p := ⟨w.heap.size + 1, i, none⟩) (by simp)).trans (hcW.2.2.2.2 i)
  have hBB : Below w.heap.size w w3 := hBW.trans (hB3.mono (by omega))
  go_wp2_with fail
  refine bodyPost_ret (v := .tuple #[.agg #[.string (putOut s c x (fun j => n - 1 - j) n), .int .i64 ((c + n : Nat) : Int)], .bool true]) ?_ rfl ⟨rfl, ?_⟩
  · simp [results, Try.results10, go_sem, r0, r1, putOut]
  · refine Below.setCell (Below.setCell hBB ?_ _) ?_ _
    · simp
    · simp

set_option maxHeartbeats 400000 in
theorem implPutCode_no (s : ByteArray) (c x n : Int) (w : World) (hs : s.size ≤ maxLen) (hc1 : -9223372036854775808 ≤ c) (hc2 : c ≤ 9223372036854775807) (h : ¬ May s c x n) :
    Calls Try.prog 10 #[.agg #[.string s, .int .i64 c], .int .i64 x, .int .i64 n] w fun e w' => e = .returned (.tuple #[.agg #[.string ⟨#[]⟩, .int .i64 0], .bool false]) ∧ Below w.heap.size w w' := by
  have H : Hid (¬ May s c x n) := h
  clear h
  go_enter Try.func10, Try.ntmps10
  go_wp2_with fail
  refine (canPut_no s c x n _ hs hc1 hc2 H.out).mono ?_
  rintro e w1 ⟨rfl, hb1⟩
  obtain ⟨k1, f1⟩ := bcell hb1
  have hz : w.heap.size + 1 < w1.heap.size := by have := hb1.size; simp at this; omega
  have hB : Below w.heap.size w w1 := bnext (bal (bstart _ _) _) hb1
  go_wp2_with fail
  refine bodyPost_ret (v := .tuple #[.agg #[.string ⟨#[]⟩, .int .i64 0], .bool false]) (by simp [results, Try.results10, go_sem, k1]) rfl ⟨rfl, ?_⟩
  refine Below.setCell (Below.setCell hB ?_ _) ?_ _
  · simp
  · simp
end Go.Proofs.Ytbomnhpkehfdoaa
