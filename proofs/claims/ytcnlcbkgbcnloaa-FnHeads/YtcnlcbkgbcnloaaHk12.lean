/-
  The walks of the program's heads.
-/
import Derived.Test.YtcnlcbkgbcnloaaRows
import Derived.Test.YtcnlcbkgbcnloaaHk01
import Derived.Test.YtcnlcbkgbcnloaaHk05
import Derived.Test.YtcnlcbkgbcnloaaHk10
import Derived.Test.YtcnlcbkgbcnloaaHk11
import Derived.Test.YtcnlcbkgbcnloaaHk06
import Derived.WalkKit
import Derived.ProofKit
import Derived.WalkLawsBesides
import Derived.BigQuiet
import Derived.Deep.RegionHeld3
import Derived.Below
import Derived.Lib.SmallJoins
namespace Go.Proofs.Ytcnlcbkgbcnloaa
open Go.RowKit Go.Joins OutMath RastMath BigMath BigTextMath HeadMath

theorem inFile_any (x y d c : Int) (l : Bool) (w : World) (h : HeadR x y d c) :
    Calls Try.prog 36 #[.agg #[.int .i64 x, .int .i64 y, .int .i64 d, .int .i64 c, .bool l]] w fun e w' => e = .returned (.agg #[.int .i64 x, .int .i64 y, .int .u8 d, .int .u8 c, .int .u8 0, .int .u8 0, .int .u8 (laceN l)]) ∧ Below w.heap.size w w' := by
  obtain ⟨-, -, hdp⟩ := h
  have h5 := five_range (depth_five hdp)
  have hcr : 0 ≤ c ∧ c ≤ 6 := by
    rcases hdp with ⟨rfl, _⟩ | ⟨rfl, _⟩ | ⟨rfl | rfl | rfl, _⟩ <;> decide
  clear hdp
  have w1 : IntKind.u8.wrap d = d := by show d % 256 = d; omega
  have w2 : IntKind.u8.wrap c = c := by show c % 256 = c; omega
  have w3 : d % 256 = d := by omega
  have w4 : c % 256 = c := by omega
  cases l
  · go_enter Try.func36, Try.ntmps36
    go_wp2_with fail
    refine bodyPost_ret (v := .agg #[.int .i64 x, .int .i64 y, .int .u8 d, .int .u8 c, .int .u8 0, .int .u8 0, .int .u8 0]) ?_ rfl ⟨rfl, ?_⟩
    · simp [results, Try.results36, go_sem]
    · exact bal (bal (bstart _ _) _) _
  · go_enter Try.func36, Try.ntmps36
    go_wp2_with fail
    refine bodyPost_ret (v := .agg #[.int .i64 x, .int .i64 y, .int .u8 d, .int .u8 c, .int .u8 0, .int .u8 0, .int .u8 1]) ?_ rfl ⟨rfl, ?_⟩
    · simp [results, Try.results36, go_sem]
    · exact bal (bal (bstart _ _) _) _
theorem file_cells {w : World} {b : Nat} {x y d c p f z : Int} (h : w.heap[b]? = some (.cells #[.int .i64 x, .int .i64 y, .int .u8 d, .int .u8 c, .int .u8 p, .int .u8 f, .int .u8 z] 61 (0, 0))) : w.cell? ⟨b, 0, none⟩ = some (.int .i64 x) ∧ w.cell? ⟨b, 1, none⟩ = some (.int .i64 y) ∧ w.cell? ⟨b, 2, none⟩ = some (.int .u8 d) ∧ w.cell? ⟨b, 3, none⟩ = some (.int .u8 c) ∧ w.cell? ⟨b, 4, none⟩ = some (.int .u8 p) ∧ w.cell? ⟨b, 5, none⟩ = some (.int .u8 f) ∧ w.cell? ⟨b, 6, none⟩ = some (.int .u8 z) :=
  ⟨(cell_of_block h 0).trans rfl, (cell_of_block h 1).trans rfl, (cell_of_block h 2).trans rfl, (cell_of_block h 3).trans rfl, (cell_of_block h 4).trans rfl, (cell_of_block h 5).trans rfl, (cell_of_block h 6).trans rfl⟩
set_option maxHeartbeats 1600000 in
theorem fileText_any (x y d c z : Int) (w : World) (hx : 0 ≤ x ∧ x < 4294967296) (hy : 0 ≤ y ∧ y < 4294967296) :
    Calls Try.prog 37 #[.agg #[.int .i64 x, .int .i64 y, .int .u8 d, .int .u8 c, .int .u8 0, .int .u8 0, .int .u8 z]] w fun e w' => e = .returned (.string (strOfNums (low x 4) ++ strOfNums (low y 4) ++ strOfNums [d, c, 0, 0, z])) ∧ Below w.heap.size w w' := by
  have k4 : ((4 : Nat) : Int) = 4 := rfl
  have p32 : p2 (8 * 4) = 4294967296 := by decide +kernel
  have hbx := fun W => implBig_yes x 4 W hx.1 (by omega) (by omega) (by rw [p32]; exact hx.2)
  have hby := fun W => implBig_yes y 4 W hy.1 (by omega) (by omega) (by rw [p32]; exact hy.2)
  rw [k4] at hbx hby
  have zA : (strOfNums (low x 4)).size = 4 := (strOfNums_size _).trans (low_length x 4)
  have zB : (strOfNums (low y 4)).size = 4 := (strOfNums_size _).trans (low_length y 4)
  have zT : (strOfNums [d, c, 0, 0, z]).size = 5 := strOfNums_size _
  generalize strOfNums (low x 4) = tA at hbx zA ⊢
  generalize strOfNums (low y 4) = tB at hby zB ⊢
  generalize htT : strOfNums [d, c, 0, 0, z] = tT at zT ⊢
  have HX : Hid ((w.alloc (.cells #[.int .i64 x, .int .i64 y, .int .u8 d, .int .u8 c, .int .u8 0, .int .u8 0, .int .u8 z] 61)).heap[w.heap.size]? = some (.cells #[.int .i64 x, .int .i64 y, .int .u8 d, .int .u8 c, .int .u8 0, .int .u8 0, .int .u8 z] 61 (0, 0))) := heap_alloc_new w _
  have HB := hid_of (bstart w (.cells #[.int .i64 x, .int .i64 y, .int .u8 d, .int .u8 c, .int .u8 0, .int .u8 0, .int .u8 z] 61))
  clear k4 p32 hx hy
  go_enter Try.func37, Try.ntmps37
  go_wp2_with fail
  refine (hbx _).mono ?_
  rintro e w1 ⟨rfl, hB1⟩
  have HX1 := hid_of ((hB1.block _ (block_lt HX.out)).trans HX.out)
  have HB1 := hid_of (bnext HB.out hB1)
  clear hB1 HX HB
  obtain ⟨k0, k1, k2, k3, k4, k5, k6⟩ := file_cells HX1.out
  have lx := block_lt HX1.out
  go_wp2_with fail
  refine (hby _).mono ?_
  rintro e w2 ⟨rfl, hB2⟩
  have HX2 := hid_of ((hB2.block _ (block_lt HX1.out)).trans HX1.out)
  have HB2 := hid_of (bnext HB1.out hB2)
  clear hB2 HX1 HB1 k0 k1 k2 k3 k4 k5 k6 lx
  obtain ⟨k0, k1, k2, k3, k4, k5, k6⟩ := file_cells HX2.out
  have lx := block_lt HX2.out
  have kc := conv5 (heap_alloc_new w2 (.cells #[.int .u8 d, .int .u8 c, .int .u8 0, .int .u8 0, .int .u8 z] 5))
  rw [htT] at kc
  go_wp2_with fail
  go_ret
  exact ⟨rfl, bal HB2.out _⟩
set_option maxHeartbeats 1600000 in
theorem implHeadText (x y d c : Int) (l : Bool) (w : World) :
    Calls Try.prog 11 #[.agg #[.int .i64 x, .int .i64 y, .int .i64 d, .int .i64 c, .bool l]] w fun e w' => e = headAns x y d c l ∧ Below w.heap.size w w' := by
  have hk := implHeadOk x y d c l
  have HX : Hid ((w.alloc (.cells #[.int .i64 x, .int .i64 y, .int .i64 d, .int .i64 c, .bool l] 25)).heap[w.heap.size]? = some (.cells #[.int .i64 x, .int .i64 y, .int .i64 d, .int .i64 c, .bool l] 25 (0, 0))) := heap_alloc_new w _
  have HB := hid_of (bstart w (.cells #[.int .i64 x, .int .i64 y, .int .i64 d, .int .i64 c, .bool l] 25))
  unfold headAns
  by_cases h : HeadR x y d c
  · rw [decide_eq_true h] at hk
    rw [if_pos h]
    have hf := fun W => inFile_any x y d c l W h
    have ht := fun W => fileText_any x y d c (laceN l) W (by have := h.1; omega) (by have := h.2.1; omega)
    have HE : Hid (strOfNums (low x 4) ++ strOfNums (low y 4) ++ strOfNums [d, c, 0, 0, laceN l] = headT x y d c l) := rfl
    generalize strOfNums (low x 4) ++ strOfNums (low y 4) ++ strOfNums [d, c, 0, 0, laceN l] = T at ht HE
    generalize laceN l = z at hf ht
    clear h
    go_enter Try.func11, Try.ntmps11
    go_wp2_with fail
    refine (hk _).mono ?_
    rintro e w1 ⟨rfl, hB1⟩
    have HX1 := hid_of ((hB1.block _ (block_lt HX.out)).trans HX.out)
    have HB1 := hid_of (bnext HB.out hB1)
    clear hB1 HX HB
    obtain ⟨k0, k1, k2, k3, k4⟩ := head_cells HX1.out
    have lx := block_lt HX1.out
    go_wp2_with fail
    refine (hf _).mono ?_
    rintro e w2 ⟨rfl, hB2⟩
    have HB2 := hid_of (bnext HB1.out hB2)
    clear hB2 HX1 HB1 k0 k1 k2 k3 k4 lx
    go_wp2_with fail
    refine (ht _).mono ?_
    rintro e w3 ⟨rfl, hB3⟩
    have HB3 := hid_of (bnext HB2.out hB3)
    clear hB3 HB2
    go_wp2_with fail
    refine bodyPost_ret (v := .tuple #[.string T, .bool true]) (by simp [results, Try.results11, go_sem]) rfl ⟨by rw [HE.out], HB3.out⟩
  · rw [decide_eq_false h] at hk
    rw [if_neg h]
    clear h
    go_enter Try.func11, Try.ntmps11
    go_wp2_with fail
    refine (hk _).mono ?_
    rintro e w1 ⟨rfl, hB1⟩
    have HB1 := hid_of (bnext HB.out hB1)
    clear hB1
    go_wp2_with fail
    exact bodyPost_ret (v := .tuple #[.string ⟨#[]⟩, .bool false]) (by simp [results, Try.results11, go_sem]) rfl ⟨rfl, HB1.out⟩
theorem tb_cut (t : ByteArray) (a b i : Nat) (h : a + i < b) : tb (t.extract a b) i = tb t (a + i) := by
  unfold tb
  rw [ChunkMath.bx_get, ChunkMath.bx_get, ChunkMath.bx_cut, List.getElem?_take, if_pos (by omega), List.getElem?_drop]
set_option maxHeartbeats 1600000 in
theorem readFile_any (t : ByteArray) (w : World) (h13 : t.size = 13) :
    Calls Try.prog 40 #[.string t] w fun e w' => e = .returned (.agg #[.int .i64 (hx t), .int .i64 (hy t), .int .u8 (tb t 8), .int .u8 (tb t 9), .int .u8 (tb t 10), .int .u8 (tb t 11), .int .u8 (tb t 12)]) ∧ Below w.heap.size w w' := by
  have k4 : ((4 : Nat) : Int) = 4 := rfl
  have k0 : ((0 : Nat) : Int) = 0 := rfl
  have hr0 := fun W => implRead_yes t 0 4 W (by omega) (by omega) (by omega) (by omega)
  have hr4 := fun W => implRead_yes t 4 4 W (by omega) (by omega) (by omega) (by omega)
  rw [k0, k4] at hr0
  rw [k4] at hr4
  have ex : rb t 0 4 = hx t := rfl
  have ey : rb t 4 4 = hy t := rfl
  rw [ex] at hr0
  rw [ey] at hr4
  have hi : (t.size : Int) = 13 := by omega
  clear ex ey k0 k4
  have zx : (t.extract 8 13).size = 5 := ChunkMath.bx_cutsize t 8 13 (by omega) (by omega)
  have z0 : 0 < (t.extract 8 13).size := by omega
  have z1 : 1 < (t.extract 8 13).size := by omega
  have z2 : 2 < (t.extract 8 13).size := by omega
  have z3 : 3 < (t.extract 8 13).size := by omega
  have z4 : 4 < (t.extract 8 13).size := by omega
  have q0 : ((t.extract 8 13)[0]'z0).toNat = tb t 8 := (tb_at _ 0 z0).trans (tb_cut t 8 13 0 (by omega))
  have q1 : ((t.extract 8 13)[1]'z1).toNat = tb t 9 := (tb_at _ 1 z1).trans (tb_cut t 8 13 1 (by omega))
  have q2 : ((t.extract 8 13)[2]'z2).toNat = tb t 10 := (tb_at _ 2 z2).trans (tb_cut t 8 13 2 (by omega))
  have q3 : ((t.extract 8 13)[3]'z3).toNat = tb t 11 := (tb_at _ 3 z3).trans (tb_cut t 8 13 3 (by omega))
  have q4 : ((t.extract 8 13)[4]'z4).toNat = tb t 12 := (tb_at _ 4 z4).trans (tb_cut t 8 13 4 (by omega))
  go_enter Try.func40, Try.ntmps40
  go_wp2_with fail
  refine (hr0 _).mono ?_
  rintro e w1 ⟨rfl, rfl⟩
  go_wp2_with fail
  refine (hr4 _).mono ?_
  rintro e w1 ⟨rfl, rfl⟩
  go_wp2_with fail
  clear hr0 hr4 h13 hi
  generalize t.extract 8 13 = X at zx z0 z1 z2 z3 z4 q0 q1 q2 q3 q4 ⊢
  go_region
  go_wp2_with fail
  refine bodyPost_ret (v := .agg #[.int .i64 (hx t), .int .i64 (hy t), .int .u8 (tb t 8), .int .u8 (tb t 9), .int .u8 (tb t 10), .int .u8 (tb t 11), .int .u8 (tb t 12)]) ?_ rfl ⟨rfl, ?_⟩
  · simp [results, Try.results40, go_sem, *]
  · exact bdraws (bstart _ _) 1
theorem fileHead_any (x y d c p f z : Int) (w : World) (hd : 0 ≤ d ∧ d < 256) (hc : 0 ≤ c ∧ c < 256) :
    Calls Try.prog 41 #[.agg #[.int .i64 x, .int .i64 y, .int .u8 d, .int .u8 c, .int .u8 p, .int .u8 f, .int .u8 z]] w fun e w' => e = .returned (.agg #[.int .i64 x, .int .i64 y, .int .i64 d, .int .i64 c, .bool (z == 1)]) ∧ Below w.heap.size w w' := by
  have w1 : IntKind.i64.wrap d = d := by rw [IntKind.wrap_i64]; omega
  have w2 : IntKind.i64.wrap c = c := by rw [IntKind.wrap_i64]; omega
  go_enter Try.func41, Try.ntmps41
  go_wp2_with fail
  refine bodyPost_ret (v := .agg #[.int .i64 x, .int .i64 y, .int .i64 d, .int .i64 c, .bool (z == 1)]) ?_ rfl ⟨rfl, ?_⟩
  · simp [results, Try.results41, go_sem, *]
  · exact bal (bstart _ _) _
end Go.Proofs.Ytcnlcbkgbcnloaa
