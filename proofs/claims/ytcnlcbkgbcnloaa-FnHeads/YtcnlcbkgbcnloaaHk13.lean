/-
  The walk of the program's ReadHead.
-/
import Derived.Test.YtcnlcbkgbcnloaaRows
import Derived.Test.YtcnlcbkgbcnloaaHk01
import Derived.Test.YtcnlcbkgbcnloaaHk05
import Derived.Test.YtcnlcbkgbcnloaaHk06
import Derived.Test.YtcnlcbkgbcnloaaHk12
import Derived.Test.YtcnlcbkgbcnloaaHk08
import Derived.WalkKit
import Derived.ProofKit
import Derived.WalkLawsBesides
import Derived.Laws.StructEq
import Derived.Deep.RegionHeld3
import Derived.Below
import Derived.Lib.SmallJoins
namespace Go.Proofs.Ytcnlcbkgbcnloaa
open Go.RowKit Go.Joins OutMath RastMath BigMath BigTextMath HeadMath

theorem wanted_yes {o : Oper} {y : Nat → Option Bool} {i : Nat} {b : Bool} (h : o.guard = some (i, b)) (hy : y i = some b) : Region.wanted o y = true := by simp [Region.wanted, h, hy]
theorem lace_told (t : ByteArray) : laceN ((tb t 12 : Int) == 1) = (tb t 12 : Int) ↔ tb t 12 ≤ 1 := by
  unfold laceN
  by_cases h : tb t 12 = 1
  · rw [h]
    exact ⟨fun _ => by omega, fun _ => rfl⟩
  · rw [show ((tb t 12 : Int) == 1) = false by simp only [beq_eq_false_iff_ne, ne_eq]; omega, if_neg (by simp)]
    omega
/-- While ReadHead looks whether the head is told so: the result, what stands in the file, and the head lie in their boxes. -/
def RhS (t : ByteArray) (w : World) (F X : Nat) (u : World) : Prop :=
  u.heap[w.heap.size]? = some (.cells #[.int .i64 0, .int .i64 0, .int .i64 0, .int .i64 0, .bool false] 25 (0, 0)) ∧ u.heap[F]? = some (.cells #[.int .i64 (hx t), .int .i64 (hy t), .int .u8 (tb t 8), .int .u8 (tb t 9), .int .u8 (tb t 10), .int .u8 (tb t 11), .int .u8 (tb t 12)] 61 (0, 0)) ∧ u.heap[X]? = some (.cells #[.int .i64 (hx t), .int .i64 (hy t), .int .i64 (tb t 8), .int .i64 (tb t 9), .bool ((tb t 12 : Int) == 1)] 25 (0, 0)) ∧ Below w.heap.size w u
theorem RhS.called {t : ByteArray} {w u u' : World} {F X : Nat} (h : RhS t w F X u) (hb : Below u.heap.size u u') : RhS t w F X u' :=
  ⟨(hb.block _ (block_lt h.1)).trans h.1, (hb.block _ (block_lt h.2.1)).trans h.2.1, (hb.block _ (block_lt h.2.2.1)).trans h.2.2.1, bnext h.2.2.2 hb⟩
set_option maxRecDepth 100000 in
set_option maxHeartbeats 3200000 in
theorem implReadHead (t : ByteArray) (w : World) (_ht : t.size ≤ 1048576) :
    Calls Try.prog 13 #[.string t] w fun e w' => e = readHAns t ∧ Below w.heap.size w w' := by
  have HB := hid_of (bstart w (.cells #[.int .i64 0, .int .i64 0, .int .i64 0, .int .i64 0, .bool false] 25))
  by_cases h13 : t.size = 13
  · have n13 : ((t.size : Int) != 13) = false := by rw [h13]; rfl
    have H13 := hid_of h13
    have hr := fun W => readFile_any t W h13
    have b8 := tb_lt t 8
    have b9 := tb_lt t 9
    have hh := fun W => fileHead_any (hx t) (hy t) (tb t 8) (tb t 9) (tb t 10) (tb t 11) (tb t 12) W (by omega) (by omega)
    have hk := implHeadOk (hx t) (hy t) (tb t 8) (tb t 9) ((tb t 12 : Int) == 1)
    have HZ : Hid ((w.alloc (.cells #[.int .i64 0, .int .i64 0, .int .i64 0, .int .i64 0, .bool false] 25)).heap[w.heap.size]? = some (.cells #[.int .i64 0, .int .i64 0, .int .i64 0, .int .i64 0, .bool false] 25 (0, 0))) := heap_alloc_new w _
    clear h13
    go_enter Try.func13, Try.ntmps13
    go_wp2_with fail
    generalize w.alloc (.cells #[.int .i64 0, .int .i64 0, .int .i64 0, .int .i64 0, .bool false] 25) = W1 at HB HZ ⊢
    refine (hr W1).mono ?_
    rintro e w1 ⟨rfl, hB1⟩
    have HZ1 := hid_of ((hB1.block _ (block_lt HZ.out)).trans HZ.out)
    have HB1 := hid_of (bnext HB.out hB1)
    have HF1 : Hid ((w1.alloc (.cells #[.int .i64 (hx t), .int .i64 (hy t), .int .u8 (tb t 8), .int .u8 (tb t 9), .int .u8 (tb t 10), .int .u8 (tb t 11), .int .u8 (tb t 12)] 61)).heap[w1.heap.size]? = some (.cells #[.int .i64 (hx t), .int .i64 (hy t), .int .u8 (tb t 8), .int .u8 (tb t 9), .int .u8 (tb t 10), .int .u8 (tb t 11), .int .u8 (tb t 12)] 61 (0, 0))) := heap_alloc_new w1 _
    clear hB1 HZ HB hr
    go_wp2_with fail
    have HB2 : Hid (Below w1.heap.size w1 (w1.alloc (.cells #[.int .i64 (hx t), .int .i64 (hy t), .int .u8 (tb t 8), .int .u8 (tb t 9), .int .u8 (tb t 10), .int .u8 (tb t 11), .int .u8 (tb t 12)] 61))) := bstart _ _
    generalize w1.alloc (.cells #[.int .i64 (hx t), .int .i64 (hy t), .int .u8 (tb t 8), .int .u8 (tb t 9), .int .u8 (tb t 10), .int .u8 (tb t 11), .int .u8 (tb t 12)] 61) = W2 at HF1 HB2 ⊢
    have HZ2 := hid_of ((HB2.out.block _ (block_lt HZ1.out)).trans HZ1.out)
    have HD2 := hid_of (bnext HB1.out HB2.out)
    generalize w1.heap.size = F at HF1 ⊢
    clear HZ1 HB1 HB2
    refine (hh W2).mono ?_
    rintro e w3 ⟨rfl, hB3⟩
    have HZ3 := hid_of ((hB3.block _ (block_lt HZ2.out)).trans HZ2.out)
    have HF3 := hid_of ((hB3.block _ (block_lt HF1.out)).trans HF1.out)
    have HB3 := hid_of (bnext HD2.out hB3)
    have HH4 : Hid ((w3.alloc (.cells #[.int .i64 (hx t), .int .i64 (hy t), .int .i64 (tb t 8), .int .i64 (tb t 9), .bool ((tb t 12 : Int) == 1)] 25)).heap[w3.heap.size]? = some (.cells #[.int .i64 (hx t), .int .i64 (hy t), .int .i64 (tb t 8), .int .i64 (tb t 9), .bool ((tb t 12 : Int) == 1)] 25 (0, 0))) := heap_alloc_new w3 _
    have HB4 : Hid (Below w3.heap.size w3 (w3.alloc (.cells #[.int .i64 (hx t), .int .i64 (hy t), .int .i64 (tb t 8), .int .i64 (tb t 9), .bool ((tb t 12 : Int) == 1)] 25))) := bstart _ _
    clear hB3 HZ2 HF1 HD2 hh
    go_wp2_with fail
    generalize w3.alloc (.cells #[.int .i64 (hx t), .int .i64 (hy t), .int .i64 (tb t 8), .int .i64 (tb t 9), .bool ((tb t 12 : Int) == 1)] 25) = W4 at HH4 HB4 ⊢
    have HZ4 := hid_of ((HB4.out.block _ (block_lt HZ3.out)).trans HZ3.out)
    have HF4 := hid_of ((HB4.out.block _ (block_lt HF3.out)).trans HF3.out)
    have HD4 := hid_of (bnext HB3.out HB4.out)
    generalize w3.heap.size = X at HH4 ⊢
    clear HZ3 HF3 HB3 HB4
    have HS0 : RhS t w F X W4.drew := ⟨HZ4.out, HF4.out, HH4.out, bdraws HD4.out 1⟩
    clear HZ4 HF4 HH4 HD4
    refine wp_region_held (S := RhS t w F X) (by kernel_rfl) ?_
    show wpAnyH _ _ _ _ _ _ _ _ W4.drew
    generalize W4.drew = u0 at HS0 ⊢
    -- the region
    by_cases hR : HeadR (hx t) (hy t) (tb t 8) (tb t 9)
    · have hf := fun W => inFile_any (hx t) (hy t) (tb t 8) (tb t 9) ((tb t 12 : Int) == 1) W hR
      rw [decide_eq_true hR] at hk
      refine wpAnyH_take (i := 0) (v := .agg #[.int .i64 (hx t), .int .i64 (hy t), .int .i64 (tb t 8), .int .i64 (tb t 9), .bool ((tb t 12 : Int) == 1)]) rfl (by kernel_rfl) (by kernel_rfl) (by kernel_rfl) (fun _ _ _ h => h) (Or.inl ⟨by rfl, ?_⟩) HS0 ?_
      · intro w' hS
        obtain ⟨s0, s1, s2, s3, s4⟩ := head_cells hS.2.2.1
        go_simp
      simp only [Act.put, List.getElem_toArray, List.getElem_cons_zero, List.setIfInBounds_toArray, List.set_cons_zero, List.set_cons_succ]
      refine wpAnyH_ready (rs := [1]) (by kernel_rfl) (by simp) ?_
      refine AllReadyH.cons rfl (fun K hK => ?_) AllReadyH.nil
      refine if_wanted (wanted_none rfl) ?_
      simp only [List.getElem_toArray, List.getElem_cons_zero, List.getElem_cons_succ]
      go_simp
      refine (hk _).mono ?_
      rintro e u1 ⟨rfl, hb⟩
      have HT := HS0.called hb
      refine hK.out _ _ HT (fun HS1 => ?_)
      clear hK K hb HT
      refine wpAnyH_take (i := 2) (v := .bool false) rfl (by kernel_rfl) (by kernel_rfl) (by kernel_rfl) (fun _ _ _ h => h) (Or.inl ⟨by rfl, ?_⟩) HS1 ?_
      · intro w' hS
        go_simp
      simp only [Act.put, List.getElem_toArray, List.getElem_cons_zero, List.getElem_cons_succ, List.setIfInBounds_toArray, List.set_cons_zero, List.set_cons_succ]
      refine wpAnyH_take (i := 3) (v := .bool false) rfl (by kernel_rfl) (by kernel_rfl) (by kernel_rfl) (fun _ _ _ h => h) (Or.inl ⟨by rfl, ?_⟩) HS1 ?_
      · intro w' hS
        go_simp
      simp only [Act.put, List.getElem_toArray, List.getElem_cons_zero, List.getElem_cons_succ, List.setIfInBounds_toArray, List.set_cons_zero, List.set_cons_succ]
      refine wpAnyH_take (i := 4) (v := .agg #[.int .i64 (hx t), .int .i64 (hy t), .int .i64 (tb t 8), .int .i64 (tb t 9), .bool ((tb t 12 : Int) == 1)]) rfl (by kernel_rfl) (by kernel_rfl) (by kernel_rfl) (fun _ _ _ h => h) (Or.inl ⟨by rfl, ?_⟩) HS1 ?_
      · intro w' hS
        obtain ⟨s0, s1, s2, s3, s4⟩ := head_cells hS.2.2.1
        go_simp
      simp only [Act.put, List.getElem_toArray, List.getElem_cons_zero, List.getElem_cons_succ, List.setIfInBounds_toArray, List.set_cons_zero, List.set_cons_succ]
      refine wpAnyH_take (i := 6) (v := .agg #[.int .i64 (hx t), .int .i64 (hy t), .int .u8 (tb t 8), .int .u8 (tb t 9), .int .u8 (tb t 10), .int .u8 (tb t 11), .int .u8 (tb t 12)]) rfl (by kernel_rfl) (by kernel_rfl) (by kernel_rfl) (fun _ _ _ h => h) (Or.inl ⟨by rfl, ?_⟩) HS1 ?_
      · intro w' hS
        obtain ⟨s0, s1, s2, s3, s4, s5, s6⟩ := file_cells hS.2.1
        go_simp
      simp only [Act.put, List.getElem_toArray, List.getElem_cons_zero, List.getElem_cons_succ, List.setIfInBounds_toArray, List.set_cons_zero, List.set_cons_succ]
      refine wpAnyH_ready (rs := [5]) (by kernel_rfl) (by simp) ?_
      refine AllReadyH.cons rfl (fun K hK => ?_) AllReadyH.nil
      refine if_wanted (wanted_yes rfl rfl) ?_
      simp only [List.getElem_toArray, List.getElem_cons_zero, List.getElem_cons_succ]
      go_simp
      refine (hf _).mono ?_
      rintro e u2 ⟨rfl, hb⟩
      have HT := HS1.called hb
      refine hK.out _ _ HT (fun HS2 => ?_)
      clear hK K hb HT
      have hcs : ((tb t 10 : Int) = 0 ∧ (tb t 11 : Int) = 0 ∧ laceN ((tb t 12 : Int) == 1) = (tb t 12 : Int)) ∨ ¬ (tb t 10 : Int) = 0 ∨ ((tb t 10 : Int) = 0 ∧ ¬ (tb t 11 : Int) = 0) ∨ ((tb t 10 : Int) = 0 ∧ (tb t 11 : Int) = 0 ∧ ¬ laceN ((tb t 12 : Int) == 1) = (tb t 12 : Int)) := by omega
      have hlc : laceN ((tb t 12 : Int) == 1) = (tb t 12 : Int) ↔ tb t 12 ≤ 1 := lace_told t
      rcases hcs with ⟨p0, p1, p2⟩ | p0 | ⟨p0, p1⟩ | ⟨p0, p1, p2⟩
      · have HI : Hid (HeadIn t) := ⟨H13.out, hR, by omega, by omega, hlc.mp p2⟩
        have m0 : ((0 : Int) == (tb t 10 : Int)) = true := by rw [p0]; rfl
        have m1 : ((0 : Int) == (tb t 11 : Int)) = true := by rw [p1]; rfl
        have m2 : (laceN ((tb t 12 : Int) == 1) == (tb t 12 : Int)) = true := by rw [p2]; simp
        clear p0 p1 p2 hlc hR
        generalize hLL : laceN ((tb t 12 : Int) == 1) = LL at m2 ⊢
        clear hLL
        refine wpAnyH_take (i := 7) (v := .bool false) rfl (by kernel_rfl) (by kernel_rfl) (by kernel_rfl) (fun _ _ _ h => h) (Or.inl ⟨by rfl, ?_⟩) HS2 ?_
        · intro w' hS
          go_simp
        simp only [Act.put, List.getElem_toArray, List.getElem_cons_zero, List.getElem_cons_succ, List.setIfInBounds_toArray, List.set_cons_zero, List.set_cons_succ]
        refine wpAnyH_take (i := 8) (v := .bool false) rfl (by kernel_rfl) (by kernel_rfl) (by kernel_rfl) (fun _ _ _ h => h) (Or.inl ⟨by rfl, ?_⟩) HS2 ?_
        · intro w' hS
          go_simp
        simp only [Act.put, List.getElem_toArray, List.getElem_cons_zero, List.getElem_cons_succ, List.setIfInBounds_toArray, List.set_cons_zero, List.set_cons_succ]
        refine wpAnyH_done (by kernel_rfl) ?_ _
        have HE := hid_of HS2.2.2.2
        obtain ⟨a0, a1, a2, a3, a4⟩ := head_cells HS2.1
        obtain ⟨c0, c1, c2, c3, c4⟩ := head_cells HS2.2.2.1
        have lz := block_lt HS2.1
        have lh := block_lt HS2.2.2.1
        have fz : ∀ q, u2.frozen? ⟨w.heap.size, q, none⟩ = false := fun q => by simp [World.frozen?, HS2.1]
        clear HS2
        go_wp2_with fail
        refine bodyPost_ret (v := .tuple #[.agg #[.int .i64 (hx t), .int .i64 (hy t), .int .i64 (tb t 8), .int .i64 (tb t 9), .bool ((tb t 12 : Int) == 1)], .bool true]) ?_ rfl ⟨(readHAns_yes HI.out).symm, ?_⟩
        · simp [results, Try.results13, go_sem, *]
        · repeat' refine Below.setCell ?_ (by first | (simp; done) | (simp; omega)) _
          exact HE.out
      · have HI : Hid (¬ HeadIn t) := fun h => p0 (by have := h.2.2.1; omega)
        have m0 : ((0 : Int) == (tb t 10 : Int)) = false := by simp only [beq_eq_false_iff_ne, ne_eq]; omega
        clear p0 hlc hR
        generalize hLL : laceN ((tb t 12 : Int) == 1) = LL
        clear hLL
        refine wpAnyH_take (i := 7) (v := .bool true) rfl (by kernel_rfl) (by kernel_rfl) (by kernel_rfl) (fun _ _ _ h => h) (Or.inl ⟨by rfl, ?_⟩) HS2 ?_
        · intro w' hS
          go_simp
        simp only [Act.put, List.getElem_toArray, List.getElem_cons_zero, List.getElem_cons_succ, List.setIfInBounds_toArray, List.set_cons_zero, List.set_cons_succ]
        refine wpAnyH_take (i := 8) (v := .bool true) rfl (by kernel_rfl) (by kernel_rfl) (by kernel_rfl) (fun _ _ _ h => h) (Or.inl ⟨by rfl, ?_⟩) HS2 ?_
        · intro w' hS
          go_simp
        simp only [Act.put, List.getElem_toArray, List.getElem_cons_zero, List.getElem_cons_succ, List.setIfInBounds_toArray, List.set_cons_zero, List.set_cons_succ]
        refine wpAnyH_done (by kernel_rfl) ?_ _
        have HE := hid_of HS2.2.2.2
        obtain ⟨a0, a1, a2, a3, a4⟩ := head_cells HS2.1
        obtain ⟨c0, c1, c2, c3, c4⟩ := head_cells HS2.2.2.1
        have lz := block_lt HS2.1
        have lh := block_lt HS2.2.2.1
        have fz : ∀ q, u2.frozen? ⟨w.heap.size, q, none⟩ = false := fun q => by simp [World.frozen?, HS2.1]
        clear HS2
        go_wp2_with fail
        refine bodyPost_ret (v := .tuple #[.agg #[.int .i64 0, .int .i64 0, .int .i64 0, .int .i64 0, .bool false], .bool false]) ?_ rfl ⟨(readHAns_no HI.out).symm, ?_⟩
        · simp [results, Try.results13, go_sem, *]
        · repeat' refine Below.setCell ?_ (by first | (simp; done) | (simp; omega)) _
          exact HE.out
      · have HI : Hid (¬ HeadIn t) := fun h => p1 (by have := h.2.2.2.1; omega)
        have m0 : ((0 : Int) == (tb t 10 : Int)) = true := by rw [p0]; rfl
        have m1 : ((0 : Int) == (tb t 11 : Int)) = false := by simp only [beq_eq_false_iff_ne, ne_eq]; omega
        clear p0 p1 hlc hR
        generalize hLL : laceN ((tb t 12 : Int) == 1) = LL
        clear hLL
        refine wpAnyH_take (i := 7) (v := .bool true) rfl (by kernel_rfl) (by kernel_rfl) (by kernel_rfl) (fun _ _ _ h => h) (Or.inl ⟨by rfl, ?_⟩) HS2 ?_
        · intro w' hS
          go_simp
        simp only [Act.put, List.getElem_toArray, List.getElem_cons_zero, List.getElem_cons_succ, List.setIfInBounds_toArray, List.set_cons_zero, List.set_cons_succ]
        refine wpAnyH_take (i := 8) (v := .bool true) rfl (by kernel_rfl) (by kernel_rfl) (by kernel_rfl) (fun _ _ _ h => h) (Or.inl ⟨by rfl, ?_⟩) HS2 ?_
        · intro w' hS
          go_simp
        simp only [Act.put, List.getElem_toArray, List.getElem_cons_zero, List.getElem_cons_succ, List.setIfInBounds_toArray, List.set_cons_zero, List.set_cons_succ]
        refine wpAnyH_done (by kernel_rfl) ?_ _
        have HE := hid_of HS2.2.2.2
        obtain ⟨a0, a1, a2, a3, a4⟩ := head_cells HS2.1
        obtain ⟨c0, c1, c2, c3, c4⟩ := head_cells HS2.2.2.1
        have lz := block_lt HS2.1
        have lh := block_lt HS2.2.2.1
        have fz : ∀ q, u2.frozen? ⟨w.heap.size, q, none⟩ = false := fun q => by simp [World.frozen?, HS2.1]
        clear HS2
        go_wp2_with fail
        refine bodyPost_ret (v := .tuple #[.agg #[.int .i64 0, .int .i64 0, .int .i64 0, .int .i64 0, .bool false], .bool false]) ?_ rfl ⟨(readHAns_no HI.out).symm, ?_⟩
        · simp [results, Try.results13, go_sem, *]
        · repeat' refine Below.setCell ?_ (by first | (simp; done) | (simp; omega)) _
          exact HE.out
      · have HI : Hid (¬ HeadIn t) := fun h => p2 (hlc.mpr h.2.2.2.2)
        have m0 : ((0 : Int) == (tb t 10 : Int)) = true := by rw [p0]; rfl
        have m1 : ((0 : Int) == (tb t 11 : Int)) = true := by rw [p1]; rfl
        have m2 : (laceN ((tb t 12 : Int) == 1) == (tb t 12 : Int)) = false := by simp only [beq_eq_false_iff_ne, ne_eq]; exact p2
        clear p0 p1 p2 hlc hR
        generalize hLL : laceN ((tb t 12 : Int) == 1) = LL at m2 ⊢
        clear hLL
        refine wpAnyH_take (i := 7) (v := .bool true) rfl (by kernel_rfl) (by kernel_rfl) (by kernel_rfl) (fun _ _ _ h => h) (Or.inl ⟨by rfl, ?_⟩) HS2 ?_
        · intro w' hS
          go_simp
        simp only [Act.put, List.getElem_toArray, List.getElem_cons_zero, List.getElem_cons_succ, List.setIfInBounds_toArray, List.set_cons_zero, List.set_cons_succ]
        refine wpAnyH_take (i := 8) (v := .bool true) rfl (by kernel_rfl) (by kernel_rfl) (by kernel_rfl) (fun _ _ _ h => h) (Or.inl ⟨by rfl, ?_⟩) HS2 ?_
        · intro w' hS
          go_simp
        simp only [Act.put, List.getElem_toArray, List.getElem_cons_zero, List.getElem_cons_succ, List.setIfInBounds_toArray, List.set_cons_zero, List.set_cons_succ]
        refine wpAnyH_done (by kernel_rfl) ?_ _
        have HE := hid_of HS2.2.2.2
        obtain ⟨a0, a1, a2, a3, a4⟩ := head_cells HS2.1
        obtain ⟨c0, c1, c2, c3, c4⟩ := head_cells HS2.2.2.1
        have lz := block_lt HS2.1
        have lh := block_lt HS2.2.2.1
        have fz : ∀ q, u2.frozen? ⟨w.heap.size, q, none⟩ = false := fun q => by simp [World.frozen?, HS2.1]
        clear HS2
        go_wp2_with fail
        refine bodyPost_ret (v := .tuple #[.agg #[.int .i64 0, .int .i64 0, .int .i64 0, .int .i64 0, .bool false], .bool false]) ?_ rfl ⟨(readHAns_no HI.out).symm, ?_⟩
        · simp [results, Try.results13, go_sem, *]
        · repeat' refine Below.setCell ?_ (by first | (simp; done) | (simp; omega)) _
          exact HE.out
    · have HI : Hid (¬ HeadIn t) := fun h => hR h.2.1
      rw [decide_eq_false hR] at hk
      clear hR
      refine wpAnyH_take (i := 0) (v := .agg #[.int .i64 (hx t), .int .i64 (hy t), .int .i64 (tb t 8), .int .i64 (tb t 9), .bool ((tb t 12 : Int) == 1)]) rfl (by kernel_rfl) (by kernel_rfl) (by kernel_rfl) (fun _ _ _ h => h) (Or.inl ⟨by rfl, ?_⟩) HS0 ?_
      · intro w' hS
        obtain ⟨s0, s1, s2, s3, s4⟩ := head_cells hS.2.2.1
        go_simp
      simp only [Act.put, List.getElem_toArray, List.getElem_cons_zero, List.setIfInBounds_toArray, List.set_cons_zero, List.set_cons_succ]
      refine wpAnyH_ready (rs := [1]) (by kernel_rfl) (by simp) ?_
      refine AllReadyH.cons rfl (fun K hK => ?_) AllReadyH.nil
      refine if_wanted (wanted_none rfl) ?_
      simp only [List.getElem_toArray, List.getElem_cons_zero, List.getElem_cons_succ]
      go_simp
      refine (hk _).mono ?_
      rintro e u1 ⟨rfl, hb⟩
      have HT := HS0.called hb
      refine hK.out _ _ HT (fun HS1 => ?_)
      clear hK K hb HT
      refine wpAnyH_take (i := 2) (v := .bool true) rfl (by kernel_rfl) (by kernel_rfl) (by kernel_rfl) (fun _ _ _ h => h) (Or.inl ⟨by rfl, ?_⟩) HS1 ?_
      · intro w' hS
        go_simp
      simp only [Act.put, List.getElem_toArray, List.getElem_cons_zero, List.getElem_cons_succ, List.setIfInBounds_toArray, List.set_cons_zero, List.set_cons_succ]
      refine wpAnyH_take (i := 3) (v := .bool true) rfl (by kernel_rfl) (by kernel_rfl) (by kernel_rfl) (fun _ _ _ h => h) (Or.inl ⟨by rfl, ?_⟩) HS1 ?_
      · intro w' hS
        go_simp
      simp only [Act.put, List.getElem_toArray, List.getElem_cons_zero, List.getElem_cons_succ, List.setIfInBounds_toArray, List.set_cons_zero, List.set_cons_succ]
      refine wpAnyH_take (i := 4) (v := undef) rfl (by kernel_rfl) (by kernel_rfl) (by kernel_rfl) (fun _ _ _ h => h) (Or.inr ⟨by rfl, rfl⟩) HS1 ?_
      simp only [Act.put, List.getElem_toArray, List.getElem_cons_zero, List.getElem_cons_succ, List.setIfInBounds_toArray, List.set_cons_zero, List.set_cons_succ]
      refine wpAnyH_take (i := 5) (v := undef) rfl (by kernel_rfl) (by kernel_rfl) (by kernel_rfl) (fun _ _ _ h => h) (Or.inr ⟨by rfl, rfl⟩) HS1 ?_
      simp only [Act.put, List.getElem_toArray, List.getElem_cons_zero, List.getElem_cons_succ, List.setIfInBounds_toArray, List.set_cons_zero, List.set_cons_succ]
      refine wpAnyH_take (i := 6) (v := undef) rfl (by kernel_rfl) (by kernel_rfl) (by kernel_rfl) (fun _ _ _ h => h) (Or.inr ⟨by rfl, rfl⟩) HS1 ?_
      simp only [Act.put, List.getElem_toArray, List.getElem_cons_zero, List.getElem_cons_succ, List.setIfInBounds_toArray, List.set_cons_zero, List.set_cons_succ]
      refine wpAnyH_take (i := 7) (v := undef) rfl (by kernel_rfl) (by kernel_rfl) (by kernel_rfl) (fun _ _ _ h => h) (Or.inr ⟨by rfl, rfl⟩) HS1 ?_
      simp only [Act.put, List.getElem_toArray, List.getElem_cons_zero, List.getElem_cons_succ, List.setIfInBounds_toArray, List.set_cons_zero, List.set_cons_succ]
      refine wpAnyH_take (i := 8) (v := .bool true) rfl (by kernel_rfl) (by kernel_rfl) (by kernel_rfl) (fun _ _ _ h => h) (Or.inl ⟨by rfl, ?_⟩) HS1 ?_
      · intro w' hS
        go_simp
      simp only [Act.put, List.getElem_toArray, List.getElem_cons_zero, List.getElem_cons_succ, List.setIfInBounds_toArray, List.set_cons_zero, List.set_cons_succ]
      refine wpAnyH_done (by kernel_rfl) ?_ _
      have HE := hid_of HS1.2.2.2
      obtain ⟨a0, a1, a2, a3, a4⟩ := head_cells HS1.1
      obtain ⟨c0, c1, c2, c3, c4⟩ := head_cells HS1.2.2.1
      have lz := block_lt HS1.1
      have lh := block_lt HS1.2.2.1
      have fz : ∀ q, u1.frozen? ⟨w.heap.size, q, none⟩ = false := fun q => by simp [World.frozen?, HS1.1]
      clear HS1
      go_wp2_with fail
      refine bodyPost_ret (v := .tuple #[.agg #[.int .i64 0, .int .i64 0, .int .i64 0, .int .i64 0, .bool false], .bool false]) ?_ rfl ⟨(readHAns_no HI.out).symm, ?_⟩
      · simp [results, Try.results13, go_sem, *]
      · repeat' refine Below.setCell ?_ (by first | (simp; done) | (simp; omega)) _
        exact HE.out
    -- its end
  · have n13 : ((t.size : Int) != 13) = true := by simp; omega
    have HN : Hid (¬ HeadIn t) := fun h => h13 h.1
    clear h13
    go_enter Try.func13, Try.ntmps13
    go_wp2_with fail
    refine bodyPost_ret (v := .tuple #[.agg #[.int .i64 0, .int .i64 0, .int .i64 0, .int .i64 0, .bool false], .bool false]) ?_ rfl ⟨(readHAns_no HN.out).symm, ?_⟩
    · simp [results, Try.results13, go_sem]
    · repeat' refine Below.setCell ?_ (by first | (simp; done) | (simp; omega)) _
      exact HB.out
end Go.Proofs.Ytcnlcbkgbcnloaa
