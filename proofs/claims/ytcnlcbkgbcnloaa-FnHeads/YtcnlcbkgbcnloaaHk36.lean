/-
  The walks of the document's model where it draws heads, tables and what is clear out of a code.
-/
import Derived.Test.YtcnlcbkgbcnloaaRows
import Derived.Test.YtcnlcbkgbcnloaaHk01
import Derived.Test.YtcnlcbkgbcnloaaHk02
import Derived.Test.YtcnlcbkgbcnloaaHk03
import Derived.Test.YtcnlcbkgbcnloaaHk04
import Derived.Test.YtcnlcbkgbcnloaaHk06
import Derived.Test.YtcnlcbkgbcnloaaHk14
import Derived.Test.YtcnlcbkgbcnloaaHk32
import Derived.Test.YtcnlcbkgbcnloaaHk33
import Derived.Test.YtcnlcbkgbcnloaaHk35
import Derived.WalkKit
import Derived.ProofKit
import Derived.WalkLawsBesides
import Derived.Below
import Derived.Lib.SmallJoins
namespace Go.Proofs.Ytcnlcbkgbcnloaa
open Go.RowKit Go.Joins HeadMath

set_option maxHeartbeats 1600000 in
theorem draw_headText (a : Option Addr) (len cap : Nat) (base : Nat) (w : World) (hK : CodeAt w base a len) (hlen : len ≤ 1048576) (hbase : base ≤ w.heap.size) :
    Calls Try.prog 10 #[.slice a len cap] w fun e w' => (∃ (x y d c : Int) (l : Bool), e = .returned (.agg #[.int .i64 x, .int .i64 y, .int .i64 d, .int .i64 c, .bool l])) ∧ Below base w w' := by
  have hK1 : CodeAt (w.alloc zeroH) base a len := hK.below ((Below.refl _ _).alloc hbase _)
  have HK := hid_of hK1
  have HZ : Hid ((w.alloc zeroH).heap[w.heap.size]? = some (.cells #[.int .i64 0, .int .i64 0, .int .i64 0, .int .i64 0, .bool false] 25 (0, 0))) := heap_alloc_new w _
  have HB : Hid (Below base w (w.alloc zeroH)) := (Below.refl _ _).alloc hbase _
  have hbase2 : base ≤ (w.alloc zeroH).heap.size := by simp; omega
  clear hK hK1
  go_enter Try.func10, Try.ntmps10
  go_wp2_with fail
  generalize w.alloc zeroH = W0 at HK HZ HB hbase2 ⊢
  refine (draw_new a len cap base W0 HK.out hlen hbase2).mono ?_
  rintro e w1 ⟨rfl, hC1, o, rfl⟩
  have HZ1 : Hid ((W0.alloc o).heap[w.heap.size]? = some (.cells #[.int .i64 0, .int .i64 0, .int .i64 0, .int .i64 0, .bool false] 25 (0, 0))) := (Below.heap_alloc _ _ _ (block_lt HZ.out)).trans HZ.out
  have HB1 : Hid (Below base w (W0.alloc o)) := HB.out.alloc (by omega) _
  have hne : w.heap.size ≠ W0.heap.size := by have := block_lt HZ.out; omega
  obtain ⟨b, hb⟩ : ∃ b, b = W0.heap.size := ⟨_, rfl⟩
  have HC1 : Hid (Cur (W0.alloc o) base b) := by rw [hb]; exact hC1
  rw [← hb] at hne
  clear hC1 HZ HB
  generalize W0.alloc o = w2 at *
  rw [← hb]
  clear hb hbase2 HK
  go_wp2_with fail
  refine (draw_head17 base b w2 HC1.out).mono ?_
  rintro e w3 ⟨x, y, d, c, l, rfl, hC3, hg3⟩
  have hz3 := (hg3.block _ (block_lt HZ1.out) (fun e => hne (Option.some.inj e))).trans HZ1.out
  obtain ⟨z0, z1, z2, z3, z4⟩ := head_cells hz3
  have lz := block_lt hz3
  have fz : ∀ q, w3.frozen? ⟨w.heap.size, q, none⟩ = false := fun q => by simp [World.frozen?, hz3]
  have HB3 : Hid (Below base w w3) := HB1.out.trans (below_of_grown hg3 HC1.out.base_le HC1.out.lt)
  clear hz3 hC3 hg3 HZ1 HC1 HB1
  go_wp2_with fail
  refine bodyPost_ret (v := .agg #[.int .i64 x, .int .i64 y, .int .i64 d, .int .i64 c, .bool l]) ?_ rfl ⟨⟨x, y, d, c, l, rfl⟩, ?_⟩
  · simp [results, Try.results10, go_sem, *]
  · repeat' refine Below.setCell ?_ (by first | exact hbase | (simp; omega)) _
    exact HB3.out
set_option maxHeartbeats 1600000 in
theorem draw_tableText (a : Option Addr) (len cap : Nat) (base : Nat) (w : World) (hK : CodeAt w base a len) (hlen : len ≤ 1048576) (hbase : base ≤ w.heap.size) :
    Calls Try.prog 14 #[.slice a len cap] w (TableDrawn base w) := by
  have HK := hid_of hK
  clear hK
  go_enter Try.func14, Try.ntmps14
  go_wp2_with fail
  refine (draw_new a len cap base w HK.out hlen hbase).mono ?_
  rintro e w1 ⟨rfl, hC1, o, rfl⟩
  have HB1 : Hid (Below base w (w.alloc o)) := (Below.refl base w).alloc hbase o
  obtain ⟨b, hb⟩ : ∃ b, b = w.heap.size := ⟨_, rfl⟩
  have HC1 : Hid (Cur (w.alloc o) base b) := by rw [hb]; exact hC1
  clear hC1
  rw [← hb]
  generalize w.alloc o = w2 at HB1 HC1 ⊢
  clear hb
  go_wp2_with fail
  refine (draw_table17 base b w2 HC1.out).mono ?_
  rintro e w3 ⟨a', n, cap', F, rfl, hn, hR, hB⟩
  have HE : Hid (TableDrawn base w (.returned (.slice a' n cap')) w3) := ⟨a', n, cap', F, rfl, hn, hR, HB1.out.trans hB⟩
  clear hR hB HC1 HB1
  go_wp2_with fail
  go_ret
  exact HE.out
set_option maxHeartbeats 1600000 in
theorem draw_clearText (a : Option Addr) (len cap : Nat) (base : Nat) (w : World) (hK : CodeAt w base a len) (hlen : len ≤ 1048576) (hbase : base ≤ w.heap.size) :
    Calls Try.prog 17 #[.slice a len cap] w fun e w' => (∃ (x y d c table : Int) (l : Bool) (g n cap : Nat) (f : Nat → Int), e = .returned (.tuple #[.agg #[.int .i64 x, .int .i64 y, .int .i64 d, .int .i64 c, .bool l], .int .i64 table, .slice (some ⟨g, 0, none⟩) n cap]) ∧ n ≤ 40 ∧ Came w' (some ⟨g, 0, none⟩) n f) ∧ Below base w w' := by
  have hK1 : CodeAt (w.alloc zeroH) base a len := hK.below ((Below.refl _ _).alloc hbase _)
  have HK := hid_of hK1
  have HZ : Hid ((w.alloc zeroH).heap[w.heap.size]? = some (.cells #[.int .i64 0, .int .i64 0, .int .i64 0, .int .i64 0, .bool false] 25 (0, 0))) := heap_alloc_new w _
  have HB : Hid (Below base w (w.alloc zeroH)) := (Below.refl _ _).alloc hbase _
  have hbase2 : base ≤ (w.alloc zeroH).heap.size := by simp; omega
  clear hK hK1
  go_enter Try.func17, Try.ntmps17
  go_wp2_with fail
  generalize w.alloc zeroH = W0 at HK HZ HB hbase2 ⊢
  refine (draw_new a len cap base W0 HK.out hlen hbase2).mono ?_
  rintro e w1 ⟨rfl, hC1, o, rfl⟩
  have HZ1 : Hid ((W0.alloc o).heap[w.heap.size]? = some (.cells #[.int .i64 0, .int .i64 0, .int .i64 0, .int .i64 0, .bool false] 25 (0, 0))) := (Below.heap_alloc _ _ _ (block_lt HZ.out)).trans HZ.out
  have HB1 : Hid (Below base w (W0.alloc o)) := HB.out.alloc (by omega) _
  have hne : w.heap.size ≠ W0.heap.size := by have := block_lt HZ.out; omega
  obtain ⟨b, hb⟩ : ∃ b, b = W0.heap.size := ⟨_, rfl⟩
  have HC1 : Hid (Cur (W0.alloc o) base b) := by rw [hb]; exact hC1
  rw [← hb] at hne
  clear hC1 HZ HB
  generalize W0.alloc o = w2 at *
  rw [← hb]
  clear hb hbase2 HK
  go_wp2_with fail
  refine (draw_head17 base b w2 HC1.out).mono ?_
  rintro e w3 ⟨x, y, d, c, l, rfl, hC3, hg3⟩
  have hz3 := (hg3.block _ (block_lt HZ1.out) (fun e => hne (Option.some.inj e))).trans HZ1.out
  have HB3 : Hid (Below base w w3) := HB1.out.trans (below_of_grown hg3 HC1.out.base_le HC1.out.lt)
  have HZ4 : Hid ((w3.alloc (.cells #[.int .i64 x, .int .i64 y, .int .i64 d, .int .i64 c, .bool l] 25)).heap[w.heap.size]? = some (.cells #[.int .i64 0, .int .i64 0, .int .i64 0, .int .i64 0, .bool false] 25 (0, 0))) := (Below.heap_alloc _ _ _ (block_lt hz3)).trans hz3
  have HX4 : Hid ((w3.alloc (.cells #[.int .i64 x, .int .i64 y, .int .i64 d, .int .i64 c, .bool l] 25)).heap[w3.heap.size]? = some (.cells #[.int .i64 x, .int .i64 y, .int .i64 d, .int .i64 c, .bool l] 25 (0, 0))) := heap_alloc_new w3 _
  have HC4 : Hid (Cur (w3.alloc (.cells #[.int .i64 x, .int .i64 y, .int .i64 d, .int .i64 c, .bool l] 25)) base b) := hC3.alloc _
  have HB4 : Hid (Below base w (w3.alloc (.cells #[.int .i64 x, .int .i64 y, .int .i64 d, .int .i64 c, .bool l] 25))) := HB3.out.alloc (by have := HB3.out.size; omega) _
  have hbx : b ≠ w3.heap.size := by have := hC3.lt; omega
  clear hz3 hC3 hg3 HZ1 HC1 HB1 HB3
  go_wp2_with fail
  generalize w3.alloc (.cells #[.int .i64 x, .int .i64 y, .int .i64 d, .int .i64 c, .bool l] 25) = W4 at HZ4 HX4 HC4 HB4 ⊢
  generalize w3.heap.size = X at HX4 hbx ⊢
  refine (draw_clear17 base b x y d c l W4 HC4.out).mono ?_
  rintro e w5 ⟨table, g, n, cap', f, rfl, hn, hO, hg5⟩
  have hz5 := (hg5.block _ (block_lt HZ4.out) (fun e => hne (Option.some.inj e))).trans HZ4.out
  have hx5 := (hg5.block _ (block_lt HX4.out) (fun e => hbx (Option.some.inj e).symm)).trans HX4.out
  obtain ⟨z0, z1, z2, z3, z4⟩ := head_cells hz5
  obtain ⟨k0, k1, k2, k3, k4⟩ := head_cells hx5
  have lz := block_lt hz5
  have lx := block_lt hx5
  have fz : ∀ q, w5.frozen? ⟨w.heap.size, q, none⟩ = false := fun q => by simp [World.frozen?, hz5]
  have hgr : ¬ g = w.heap.size := fun e => by
    obtain ⟨cp, cur, fq, _, _, hgc, _⟩ := hO
    rw [e, hz5] at hgc
    cases hgc
  have HB5 : Hid (Below base w w5) := HB4.out.trans (below_of_grown hg5 HC4.out.base_le HC4.out.lt)
  have HO5 := hid_of hO
  have HGR := hid_of hgr
  clear hz5 hx5 hO hg5 HZ4 HX4 HC4 HB4 hgr
  go_wp2_with fail
  refine bodyPost_ret (v := .tuple #[.agg #[.int .i64 x, .int .i64 y, .int .i64 d, .int .i64 c, .bool l], .int .i64 table, .slice (some ⟨g, 0, none⟩) n cap']) ?_ rfl ⟨⟨x, y, d, c, table, l, g, n, cap', f, rfl, hn, ?_⟩, ?_⟩
  · simp [results, Try.results17, go_sem, *]
  · refine (IOwn.keep HO5.out ?_).sl.came
    repeat' rw [Below.heap_setCell _ _ _ _ (by exact HGR.out)]
  · repeat' refine Below.setCell ?_ (by first | exact hbase | (simp; omega)) _
    exact HB5.out
end Go.Proofs.Ytcnlcbkgbcnloaa
