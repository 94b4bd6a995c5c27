/-
  The walk of the program's ChunksText.
-/
import Derived.Test.YtofblofmejgipaaRows
import Derived.Test.YtofblofmejgipaaBase
import Derived.Test.YtofblofmejgipaaOutMath
import Derived.Test.YtofblofmejgipaaCrcMath
import Derived.Test.YtofblofmejgipaaBigTextMath
import Derived.Test.YtofblofmejgipaaChunkMath
import Derived.Test.YtofblofmejgipaaChunkFile
import Derived.Test.YtofblofmejgipaaChkLib
import Derived.Test.YtofblofmejgipaaChkWalks
import Derived.Test.YtofblofmejgipaaByteDef
import Derived.Test.YtofblofmejgipaaByteLib
import Derived.Test.YtofblofmejgipaaOwnLib
import Derived.Test.YtofblofmejgipaaOwnApp
import Derived.Test.YtofblofmejgipaaChunkImpl
import Derived.Test.YtofblofmejgipaaChunksOkImpl
import Derived.Deep.LoopGhost
import Derived.WalkKit
import Derived.ProofKit
import Derived.WalkLawsBesides
import Derived.Below
import Derived.Lib.AppendStr
import Derived.Lib.SlBytesConst
import Derived.Lib.SmallJoins
namespace Go.Proofs.Ytofblofmejgipaa
open Go.RowKit Go.Joins OutMath ChunkMath CrcMath BigTextMath
open Go.Lib (strCells strCells_length run_convert_bytes_const)

/-- The bytes under way. -/
def ItI (w w' : World) (g : Nat) (v : Value) (k : Nat) (t : ByteArray) : Prop := Own 5 w' w.heap.size g v (strCells t) ∧ k = t.size ∧ Below w.heap.size w w'
theorem ItI.called {w w' w2 : World} {g : Nat} {v : Value} {k : Nat} {t : ByteArray} (h : ItI w w' g v k t) (hb : Below w'.heap.size w' w2) : ItI w w2 g v k t :=
  ⟨h.1.keep (hb.block _ h.1.lt), h.2.1, bnext h.2.2 hb⟩
theorem strCells_app (s t : ByteArray) : strCells (s ++ t) = strCells s ++ strCells t := by
  unfold strCells
  rw [bx_app, List.map_append]
theorem ItI.app {w w' w2 : World} {g g' : Nat} {v v' : Value} {k : Nat} {t s : ByteArray} (h : ItI w w' g v k t) (h2 : Own 5 w2 w.heap.size g' v' (strCells t ++ strCells s)) (hg : w'.grownBy w2 (some g)) : ItI w w2 g' v' (k + s.size) (t ++ s) := by
  refine ⟨by rw [strCells_app]; exact h2, by rw [bx_size, h.2.1], ?_⟩
  have hb := h.2.2
  have hgl := h.1.base_le
  exact ⟨hg.os.trans hb.os, hg.tape.trans hb.tape, hg.output.trans hb.output, Nat.le_trans hb.size hg.size, fun b hb1 => (hg.block b (Nat.lt_of_lt_of_le hb1 hb.size) (fun q => by have := Option.some.inj q; omega)).trans (hb.block b hb1)⟩
theorem conv_sign (w : World) : (convert 22 22 (.slice (some ⟨w.heap.size, 0, none⟩) 8 8)).run Try.prog (w.alloc (.cells #[.int .u8 137, .int .u8 80, .int .u8 78, .int .u8 71, .int .u8 13, .int .u8 10, .int .u8 26, .int .u8 10] 5)) = .ok (.slice (some ⟨w.heap.size, 0, none⟩) 8 8) (w.alloc (.cells #[.int .u8 137, .int .u8 80, .int .u8 78, .int .u8 71, .int .u8 13, .int .u8 10, .int .u8 26, .int .u8 10] 5 (8, 9))) :=
  run_convert_bytes_const w 22 5 #[.int .u8 137, .int .u8 80, .int .u8 78, .int .u8 71, .int .u8 13, .int .u8 10, .int .u8 26, .int .u8 10] 8 8 Try.underlying22 Try.underlying5
theorem it_start {w w1 : World} (hb : Below w.heap.size w w1) : ItI w (w1.alloc (.cells #[.int .u8 137, .int .u8 80, .int .u8 78, .int .u8 71, .int .u8 13, .int .u8 10, .int .u8 26, .int .u8 10] 5 (8, 9))) w1.heap.size (.slice (some ⟨w1.heap.size, 0, none⟩) 8 8) 8 signT :=
  ⟨⟨8, _, (8, 9), rfl, hb.size, heap_alloc_new w1 _, .inr (Nat.le_refl _), Nat.le_refl _, by unfold maxLen; omega, rfl, rfl⟩, rfl, bal hb _⟩
theorem ItI.text {w w' : World} {g : Nat} {v : Value} {k : Nat} {t : ByteArray} (h : ItI w w' g v k t) : (convert 22 9 v).run Try.prog w' = .ok (.string t) w' := by
  have he : strCells t = (bytesOf t).map (Value.int .u8) := by
    unfold strCells bytesOf
    rw [List.map_map]
    rfl
  obtain ⟨h1, _, _⟩ := h
  rw [he] at h1
  have := own_string (P := Try.prog) (bytesOf t) 22 9 Try.underlying22 Try.underlying5 Try.underlying9 h1
  rw [str_back] at this
  exact this
set_option maxRecDepth 100000 in
set_option maxHeartbeats 3200000 in
theorem implChunks (a : Option Addr) (n c : Nat) (L : List Chk) (w : World) (hn : n = L.length) (hC : KCame w a n (fun j => L.getD j noChk)) (hm : ∀ i, i < n → (L.getD i noChk).1.size ≤ 1048576 ∧ (L.getD i noChk).2.size ≤ 1048576) (hN : n ≤ 1048576) :
    Calls Try.prog 11 #[.slice a n c] w fun e w' => e = .returned (chAns L) ∧ Below w.heap.size w w' := by
  have hok := implChunksOk a n c L w hn hC hm hN
  have HC := hid_of hC
  have HM := hid_of hm
  have HNL := hid_of hn
  clear hC hm hn
  go_enter Try.func11, Try.ntmps11
  go_wp2_with fail
  refine hok.mono ?_
  rintro e w1 ⟨⟨t, rfl, ht⟩, hB1⟩
  have HB1 := hid_of hB1
  have HT := hid_of ht
  clear hB1 ht hok
  cases t with
  | false =>
    have HX : Hid (¬ FileR L) := fun q => by cases HT.out.2 q
    go_wp2_with fail
    refine bodyPost_ret (v := .tuple #[.string ⟨#[]⟩, .bool false]) ?_ rfl ⟨?_, HB1.out⟩
    · simp [results, Try.results11, go_sem]
    · unfold chAns
      rw [if_neg HX.out]
  | true =>
    have HX : Hid (FileR L) := HT.out.1 rfl
    clear HT
    have kcs := conv_sign w1
    have H0 := hid_of (it_start HB1.out)
    go_wp2_with fail
    clear kcs
    generalize w1.alloc (.cells #[.int .u8 137, .int .u8 80, .int .u8 78, .int .u8 71, .int .u8 13, .int .u8 10, .int .u8 26, .int .u8 10] 5 (8, 9)) = W2 at H0 ⊢
    go_loopg [4, 14] (n + 1) (fun gk o i w' => ∃ (j k g cap : Nat), j ≤ n ∧ n - j ≤ gk ∧ o = .slice (some ⟨g, 0, none⟩) k cap ∧ i = .int .i64 (j : Int) ∧ Hid (ItI w w' g (.slice (some ⟨g, 0, none⟩) k cap) k (preT L j)))
    case atStart => exact ⟨0, 8, _, _, Nat.zero_le _, by omega, rfl, rfl, H0⟩
    case round =>
      clear H0 HB1
      obtain ⟨j, k, g, cap, hj, hgk, rfl, rfl, hI⟩ := hrel
      by_cases hlt : j < n
      · have dl : decide ((j : Int) < (n : Int)) = true := decide_eq_true (by omega)
        rcases HC.out with h0 | ⟨ga, off, rfl, hg, hc⟩
        · omega
        · have c0 : wr.cell? ⟨ga, off + j * 2, none⟩ = some (.string (L.getD j noChk).1) := (hI.out.2.2.cell (p := ⟨ga, off + j * 2, none⟩) hg).trans (hc j hlt).1
          have c1 : wr.cell? ⟨ga, off + j * 2 + 1, none⟩ = some (.string (L.getD j noChk).2) := (hI.out.2.2.cell (p := ⟨ga, off + j * 2 + 1, none⟩) hg).trans (hc j hlt).2
          have hl2 : ga < wr.heap.size := Nat.lt_of_lt_of_le hg hI.out.2.2.size
          have hsx := (HM.out j hlt).1
          have hsy := (HM.out j hlt).2
          have HPS := hid_of (preT_succ L j (by rw [← HNL.out]; exact hlt))
          have HPM : Hid ((preT L (j + 1)).size ≤ 12000) := Nat.le_trans (preT_mono L (j + 1) (by rw [← HNL.out]; omega)) HX.out.2.2
          clear hc
          obtain ⟨x, hx⟩ : ∃ x, x = (L.getD j noChk).1 := ⟨_, rfl⟩
          obtain ⟨y, hy⟩ : ∃ y, y = (L.getD j noChk).2 := ⟨_, rfl⟩
          rw [← hx] at c0 hsx
          rw [← hy] at c1 hsy
          have HXY := hid_of (And.intro hx hy)
          clear hx hy
          go_wp2_with fail
          have HI2 := hid_of (hI.out.called (bstart wr (.cells #[.string x, .string y] 35)))
          generalize wr.alloc (.cells #[.string x, .string y] 35) = W2 at HI2 ⊢
          clear c0 c1 hI hl2
          refine (implChunkText x y W2 hsx hsy).mono ?_
          rintro e w3 ⟨rfl, hB3⟩
          have HI3 := hid_of (HI2.out.called hB3)
          clear hB3 HI2
          have HCT : Hid (chunkT (x, y) = chunkT (L.getD j noChk)) := by
            show _ = _
            rw [HXY.out.1, HXY.out.2]
          rw [HCT.out]
          rw [show preT L (j + 1) = _ from HPS.out] at HPM
          generalize chunkT (L.getD j noChk) = CT at *
          have hcz : k + CT.size ≤ 12000 := by
            have h1 := HPM.out
            rw [bx_size] at h1
            have h2 := HI3.out.2.1
            omega
          obtain ⟨i0, hi0, hz0, hz1, hz2⟩ := info_parts info_byte
          have HI0 := hid_of (And.intro hi0 (And.intro hz0 (And.intro hz1 hz2)))
          clear hi0 hz0 hz1 hz2
          have hkl : (strCells (preT L j)).length = k := by rw [strCells_length, HI3.out.2.1]
          have HKL := hid_of hkl
          clear hkl
          go_wp2_with (at_builtin; refine wpList_appendS (base := w.heap.size) rfl _ _ _ _ rfl i0 Try.underlying22 Try.underlying9 HI0.out.1 HI0.out.2.1 HI0.out.2.2.1 HI0.out.2.2.2 rfl HI3.out.1 CT rfl (by rw [HKL.out]; unfold maxLen; omega) (by rw [HKL.out]; omega) ?_)
          intro g4 v4 w4 hO4 _ hg4
          obtain ⟨cap4, hv4⟩ := hO4.form
          rw [List.length_append, HKL.out, strCells_length] at hv4
          subst hv4
          have HI4 := hid_of (HI3.out.app hO4 hg4)
          rw [← HPS.out] at HI4
          clear hO4 hg4 HI3
          go_wp2_with fail
          go_roundg (n - (j + 1))
          case measure => omega
          case rel => exact ⟨j + 1, k + CT.size, g4, cap4, by omega, Nat.le_refl _, rfl, by go_num, HI4⟩
      · obtain rfl : j = n := by omega
        have kc := hI.out.text
        have HP : Hid (preT L j = fileT L) := by
          show _ = _
          rw [HNL.out, preT_all]
        rw [HP.out] at kc
        go_wp2_with fail
        refine bodyPost_ret (v := .tuple #[.string (fileT L), .bool true]) ?_ rfl ⟨?_, hI.out.2.2⟩
        · simp [results, Try.results11, go_sem]
        · unfold chAns
          rw [if_pos HX.out]
end Go.Proofs.Ytofblofmejgipaa
