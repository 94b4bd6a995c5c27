/-
  The walks of the program's chunk: its size, its sum, its text. (Printed by tools/mkchunkimpl.py.)
-/
import Derived.Test.YtofblofmejgipaaRows
import Derived.Test.YtofblofmejgipaaBase
import Derived.Test.YtofblofmejgipaaOutMath
import Derived.Test.YtofblofmejgipaaCrcMath
import Derived.Test.YtofblofmejgipaaSumsMath
import Derived.Test.YtofblofmejgipaaBigTextMath
import Derived.Test.YtofblofmejgipaaBigTextWalks
import Derived.Test.YtofblofmejgipaaCrcImpl
import Derived.Test.YtofblofmejgipaaCrcOneImpl
import Derived.Test.YtofblofmejgipaaChunkMath
import Derived.Test.YtofblofmejgipaaPartLen12
import Derived.WalkKit
import Derived.ProofKit
import Derived.WalkLawsBesides
import Derived.Below
import Derived.Deep.RegionHeld3
import Derived.Lib.AppendStr
import Derived.Lib.SmallJoins
namespace Go.Proofs.Ytofblofmejgipaa
open Go.RowKit Go.Joins OutMath ChunkMath CrcMath BigTextMath

theorem crc_app (a b : ByteArray) : crc (crc 0 a) b = crc 0 (a ++ b) := by
  refine SumsMath.crc_on (k := a.size) (m := b.size) ⟨rfl, rfl, bx_size a b, fun i hi => ?_, fun i hi => ?_⟩
  · rw [bx_nth, bx_nth, bx_app, List.getElem?_append_left (by rw [bx_len]; exact hi)]
  · rw [bx_nth, bx_nth, bx_app, List.getElem?_append_right (by rw [bx_len]; omega), bx_len, Nat.add_sub_cancel_left]

theorem implChunkSize (x y : ByteArray) (w : World) (hy : y.size ≤ 1048576) :
    Calls Try.prog 49 #[.agg #[.string x, .string y]] w fun e w' => e = .returned (.int .i64 (12 + (y.size : Int))) ∧ Below w.heap.size w w' := by
  go_enter Try.func49, Try.ntmps49
  go_wp2_with fail
  go_ret
  exact ⟨rfl, bstart _ _⟩

set_option maxRecDepth 100000 in
set_option maxHeartbeats 1600000 in
theorem implChunkSum (x y : ByteArray) (w : World) (hx : x.size ≤ 1048576) (hy : y.size ≤ 1048576) :
    Calls Try.prog 51 #[.agg #[.string x, .string y]] w fun e w' => e = .returned (.int .i64 (crc 0 (x ++ y) : Int)) ∧ Below w.heap.size w w' := by
  have hcrc := fun W => implCrc x W hx
  have hmore := fun W => implCrcMore (crc 0 x) y W (crc_lt (x := 0) x (by omega)) hy
  rw [crc_app] at hmore
  have hz := crc_lt (x := 0) (x ++ y) (by omega)
  generalize crc 0 (x ++ y) = CR at *
  generalize crc 0 x = CX at *
  have hwr : IntKind.i64.wrap (CR : Int) = (CR : Int) := by rw [IntKind.wrap_i64]; omega
  have HB0 := hid_of (bstart w (.cells #[.string x, .string y] 35))
  have q0 : (w.alloc (.cells #[.string x, .string y] 35)).cell? ⟨w.heap.size, 0, none⟩ = some (.string x) := (cell_of_block (heap_alloc_new w _) 0).trans rfl
  have q1 : (w.alloc (.cells #[.string x, .string y] 35)).cell? ⟨w.heap.size, 1, none⟩ = some (.string y) := (cell_of_block (heap_alloc_new w _) 1).trans rfl
  have ql : w.heap.size < (w.alloc (.cells #[.string x, .string y] 35)).heap.size := by simp
  go_enter Try.func51, Try.ntmps51
  go_wp2_with fail
  generalize w.alloc (.cells #[.string x, .string y] 35) = W2 at HB0 q0 q1 ql ⊢
  refine wp_region_held (S := fun u => u.cell? ⟨w.heap.size, 0, none⟩ = some (.string x) ∧ u.cell? ⟨w.heap.size, 1, none⟩ = some (.string y)) (by kernel_rfl) ?_
  show wpAnyH _ _ _ _ _ _ _ _ W2.drew
  have HS : W2.drew.cell? ⟨w.heap.size, 0, none⟩ = some (.string x) ∧ W2.drew.cell? ⟨w.heap.size, 1, none⟩ = some (.string y) := ⟨q0, q1⟩
  refine wpAnyH_take (i := 0) (v := .pointer (some ⟨w.heap.size, 0, none⟩)) rfl (by kernel_rfl) (by kernel_rfl) (by kernel_rfl) (fun _ _ _ h => h) (Or.inl ⟨by rfl, ?_⟩) HS ?_
  · intro w' hS
    obtain ⟨s0, s1⟩ := hS
    go_simp
  simp only [Act.put, List.getElem_toArray, List.getElem_cons_zero, List.setIfInBounds_toArray, List.set_cons_zero, List.set_cons_succ]
  refine wpAnyH_take (i := 1) (v := .string x) rfl (by kernel_rfl) (by kernel_rfl) (by kernel_rfl) (fun _ _ _ h => h) (Or.inl ⟨by rfl, ?_⟩) HS ?_
  · intro w' hS
    obtain ⟨s0, s1⟩ := hS
    go_simp
  simp only [Act.put, List.getElem_toArray, List.getElem_cons_zero, List.getElem_cons_succ, List.setIfInBounds_toArray, List.set_cons_zero, List.set_cons_succ]
  refine wpAnyH_take (i := 3) (v := .pointer (some ⟨w.heap.size, 1, none⟩)) rfl (by kernel_rfl) (by kernel_rfl) (by kernel_rfl) (fun _ _ _ h => h) (Or.inl ⟨by rfl, ?_⟩) HS ?_
  · intro w' hS
    obtain ⟨s0, s1⟩ := hS
    go_simp
  simp only [Act.put, List.getElem_toArray, List.getElem_cons_zero, List.getElem_cons_succ, List.setIfInBounds_toArray, List.set_cons_zero, List.set_cons_succ]
  refine wpAnyH_take (i := 4) (v := .string y) rfl (by kernel_rfl) (by kernel_rfl) (by kernel_rfl) (fun _ _ _ h => h) (Or.inl ⟨by rfl, ?_⟩) HS ?_
  · intro w' hS
    obtain ⟨s0, s1⟩ := hS
    go_simp
  simp only [Act.put, List.getElem_toArray, List.getElem_cons_zero, List.getElem_cons_succ, List.setIfInBounds_toArray, List.set_cons_zero, List.set_cons_succ]
  refine wpAnyH_ready (rs := [2]) (by kernel_rfl) (by simp) ?_
  refine AllReadyH.cons rfl (fun K hK => ?_) AllReadyH.nil
  refine if_wanted (wanted_none rfl) ?_
  simp only [List.getElem_toArray, List.getElem_cons_zero, List.getElem_cons_succ]
  go_simp
  refine (hcrc _).mono ?_
  rintro e w3 ⟨rfl, hB3⟩
  have HB3 : Hid (Below w.heap.size w w3) := bnext HB0.out ⟨hB3.1, hB3.2, hB3.3, hB3.4, hB3.5⟩
  have j0 := (hB3.cell (p := ⟨w.heap.size, 0, none⟩) ql).trans q0
  have j1 := (hB3.cell (p := ⟨w.heap.size, 1, none⟩) ql).trans q1
  have jl : w.heap.size < w3.heap.size := Nat.lt_of_lt_of_le ql hB3.size
  clear hB3
  refine hK.out _ _ ⟨j0, j1⟩ (fun HS3 => ?_)
  clear hK HS q0 q1 ql
  refine wpAnyH_ready (rs := [5]) (by kernel_rfl) (by simp) ?_
  refine AllReadyH.cons rfl (fun K hK => ?_) AllReadyH.nil
  refine if_wanted (wanted_none rfl) ?_
  simp only [List.getElem_toArray, List.getElem_cons_zero, List.getElem_cons_succ]
  go_simp
  refine (hmore _).mono ?_
  rintro e w4 ⟨rfl, hB4⟩
  have HB4 := hid_of (bnext HB3.out hB4)
  have l0 := (hB4.cell (p := ⟨w.heap.size, 0, none⟩) jl).trans j0
  have l1 := (hB4.cell (p := ⟨w.heap.size, 1, none⟩) jl).trans j1
  clear hB4
  refine hK.out _ _ ⟨l0, l1⟩ (fun HS4 => ?_)
  clear hK HS3 j0 j1 jl
  refine wpAnyH_take (i := 6) (v := .int .i64 (CR : Int)) rfl (by kernel_rfl) (by kernel_rfl) (by kernel_rfl) (fun _ _ _ h => h) (Or.inl ⟨by rfl, ?_⟩) HS4 ?_
  · intro w' hS
    obtain ⟨s0, s1⟩ := hS
    go_simp
  simp only [Act.put, List.getElem_toArray, List.getElem_cons_zero, List.getElem_cons_succ, List.setIfInBounds_toArray, List.set_cons_zero, List.set_cons_succ]
  refine wpAnyH_take (i := 7) (v := .int .i64 (CR : Int)) rfl (by kernel_rfl) (by kernel_rfl) (by kernel_rfl) (fun _ _ _ h => h) (Or.inl ⟨by rfl, ?_⟩) HS4 ?_
  · intro w' hS
    obtain ⟨s0, s1⟩ := hS
    go_simp
  simp only [Act.put, List.getElem_toArray, List.getElem_cons_zero, List.getElem_cons_succ, List.setIfInBounds_toArray, List.set_cons_zero, List.set_cons_succ]
  refine wpAnyH_done (by kernel_rfl) ?_ _
  go_wp2_with fail
  go_ret
  exact ⟨rfl, HB4.out⟩

set_option maxHeartbeats 1600000 in
theorem implChunkText (x y : ByteArray) (w : World) (hx : x.size ≤ 1048576) (hy : y.size ≤ 1048576) :
    Calls Try.prog 29 #[.agg #[.string x, .string y]] w fun e w' => e = .returned (.string (chunkT (x, y))) ∧ Below w.heap.size w w' := by
  have hz := crc_lt (x := 0) (x ++ y) (by omega)
  have hb1 := fun W => implBig_yes4 (y.size : Int) W (by omega) (by omega)
  have hb2 := fun W => implBig_yes4 (crc 0 (x ++ y) : Int) W (by omega) (by omega)
  have hsum := fun W => implChunkSum x y W hx hy
  have HCT : Hid (chunkT (x, y) = big4 (y.size : Int) ++ x ++ y ++ big4 (crc 0 (x ++ y) : Int)) := rfl
  have kbs := big4_size (y.size : Int)
  have kss := big4_size (crc 0 (x ++ y) : Int)
  have kb : ∀ n : Int, strOfNums (low n 4) = big4 n := fun n => rfl
  rw [kb] at hb1 hb2
  clear kb
  generalize big4 (y.size : Int) = BL at *
  generalize crc 0 (x ++ y) = CR at *
  generalize big4 (CR : Int) = SM at *
  have ks1 := bx_size BL x
  have ks2 := bx_size (BL ++ x) y
  have ks3 := bx_size (BL ++ x ++ y) SM
  have HB0 := hid_of (bstart w (.cells #[.string x, .string y] 35))
  have q0 : (w.alloc (.cells #[.string x, .string y] 35)).cell? ⟨w.heap.size, 0, none⟩ = some (.string x) := (cell_of_block (heap_alloc_new w _) 0).trans rfl
  have q1 : (w.alloc (.cells #[.string x, .string y] 35)).cell? ⟨w.heap.size, 1, none⟩ = some (.string y) := (cell_of_block (heap_alloc_new w _) 1).trans rfl
  have ql : w.heap.size < (w.alloc (.cells #[.string x, .string y] 35)).heap.size := by simp
  rw [HCT.out]
  go_enter Try.func29, Try.ntmps29
  go_wp2_with fail
  generalize w.alloc (.cells #[.string x, .string y] 35) = W2 at HB0 q0 q1 ql ⊢
  refine (hb1 _).mono ?_
  rintro e w3 ⟨rfl, hB3⟩
  have HB3 := hid_of (bnext HB0.out hB3)
  have j0 := (hB3.cell (p := ⟨w.heap.size, 0, none⟩) ql).trans q0
  have j1 := (hB3.cell (p := ⟨w.heap.size, 1, none⟩) ql).trans q1
  have jl : w.heap.size < w3.heap.size := Nat.lt_of_lt_of_le ql hB3.size
  clear hB3 q0 q1 ql
  go_wp2_with fail
  refine (hsum _).mono ?_
  rintro e w4 ⟨rfl, hB4⟩
  have HB4 := hid_of (bnext HB3.out hB4)
  have l0 := (hB4.cell (p := ⟨w.heap.size, 0, none⟩) jl).trans j0
  have l1 := (hB4.cell (p := ⟨w.heap.size, 1, none⟩) jl).trans j1
  have ll : w.heap.size < w4.heap.size := Nat.lt_of_lt_of_le jl hB4.size
  clear hB4 j0 j1 jl
  go_wp2_with fail
  refine (hb2 _).mono ?_
  rintro e w5 ⟨rfl, hB5⟩
  have HB5 := hid_of (bnext HB4.out hB5)
  have m0 := (hB5.cell (p := ⟨w.heap.size, 0, none⟩) ll).trans l0
  have m1 := (hB5.cell (p := ⟨w.heap.size, 1, none⟩) ll).trans l1
  have ml : w.heap.size < w5.heap.size := Nat.lt_of_lt_of_le ll hB5.size
  clear hB5 l0 l1 ll
  go_wp2_with fail
  go_ret
  exact ⟨rfl, HB5.out⟩

end Go.Proofs.Ytofblofmejgipaa
