/-
  The walk of the law FnBlocks, over what the program's functions answer.
-/
import Derived.Test.YtbcnlggkoidmmaaGreatDoorQk29
import Derived.Test.YtbcnlggkoidmmaaGreatDoorRows
import Derived.Test.YtbcnlggkoidmmaaGreatDoorQk01
import Derived.Test.YtbcnlggkoidmmaaGreatDoorQk02
import Derived.Test.YtbcnlggkoidmmaaGreatDoorQk03
import Derived.Test.YtbcnlggkoidmmaaGreatDoorQk04
import Derived.Test.YtbcnlggkoidmmaaGreatDoorQk10
import Derived.Test.YtbcnlggkoidmmaaGreatDoorQk12
import Derived.WalkKit
import Derived.ProofKit
import Derived.WalkLawsBesides
import Derived.RegionTactic
import Derived.Deep.LoopGhost
import Derived.Below
import Derived.Lib.SmallJoins
namespace Go.Proofs.YtbcnlggkoidmmaaGreatDoor
open Go.RowKit Go.Joins OutMath TokMath TrimMath InfMath BlockMath StandMath

set_option maxRecDepth 100000 in
set_option maxHeartbeats 12800000 in
theorem FnBlocks_at (hSt : StoredAnswer) (hFi : FixedAnswer) (hWv : WovenAnswer) (a : Option Addr) (len cap : Nat) (w : World) (hD : CodeAt w w.heap.size a len) (hlen : (len : Int) ≤ 1048576) (hG : OrderG w) :
    Calls Tryz.prog 3 #[.slice a len cap] w fun e w' => e = .returned (.bool true) ∧ Below w.heap.size w w' := by
  have HD := hid_of hD
  have HG := hid_of hG
  have HA := hid_of (And.intro hSt (And.intro hFi hWv))
  clear hD hG hSt hFi hWv
  go_enter Tryz.func3, Tryz.ntmps3
  go_wp2_with fail
  refine (big_no a len cap _ hlen).mono ?_
  rintro e w0 ⟨rfl, rfl⟩
  go_wp2_with fail
  refine (draw_drawTokens a len cap w0.heap.size w0 HD.out (by omega) (Nat.le_refl _)).mono ?_
  rintro e w1 ⟨k, hk, g, cp, L, F, rfl, hkl, hO, hB, hR, hF⟩
  have hT : k ≤ cp ∧ TCame w1 (some ⟨g, 0, none⟩) L.length (fun j => L.getD j (0, 0, 0)) ∧ cp ≤ maxLen := by
    subst hkl
    obtain ⟨a', c', hv, hcl, hcm, _, hT, _⟩ := tcame_of_own hO rfl
    cases hv
    exact ⟨hcl, hT, hcm⟩
  obtain ⟨hcl, hTC, hcm⟩ := hT
  unfold maxLen at hcm
  have HT := hid_of hTC
  have HB := hid_of hB
  have HR := hid_of hR
  have HKL := hid_of hkl
  have hF12 : F.length ≤ 12000 := by omega
  have HD1 : Hid (CodeAt w1 w1.heap.size a len) := by
    rcases HD.out.below HB.out with h | ⟨bc, off, ha, hlt, hc⟩
    · exact .inl h
    · exact .inr ⟨bc, off, ha, Nat.lt_of_lt_of_le hlt HB.out.size, hc⟩
  clear hO hB hR hkl hTC HD
  go_wp2_with fail
  refine (draw_places a len cap w1.heap.size w1 HD1.out (by omega) (Nat.le_refl _)).mono ?_
  rintro e w2 ⟨gp, c, zs, rfl, hz, hzb, hOp, hB2⟩
  have hzc : ∀ i, i < 12 → w2.cell? ⟨gp, i, none⟩ = some (.int .i64 (zs.getD i 0)) ∧ 0 ≤ zs.getD i 0 ∧ zs.getD i 0 < 10000 := fun i hi => by
    have hj' : i < (i64s zs).length := by rw [i64s_length]; omega
    refine ⟨by rw [hOp.cell i hj', i64s_get], hzb _ ?_⟩
    rw [List.getD_eq_getElem?_getD, List.getElem?_eq_getElem (by omega)]
    exact List.getElem_mem _
  obtain ⟨c0, p0, p0'⟩ := hzc 0 (by omega)
  obtain ⟨c1, p1, p1'⟩ := hzc 1 (by omega)
  obtain ⟨c2, p2, p2'⟩ := hzc 2 (by omega)
  have hgl := hOp.lt
  generalize zs.getD 0 0 = z0 at c0 p0 p0'
  generalize zs.getD 1 0 = z1 at c1 p1 p1'
  generalize zs.getD 2 0 = z2 at c2 p2 p2'
  obtain ⟨m, em, hmk⟩ : ∃ m : Nat, z0.tmod ((k : Int) + 1) = (m : Int) ∧ m ≤ k := by
    have q0 := Int.emod_nonneg z0 (show ((k : Int) + 1) ≠ 0 by omega)
    have q1 := Int.emod_lt_of_pos z0 (show (0 : Int) < (k : Int) + 1 by omega)
    exact ⟨(z0 % ((k : Int) + 1)).toNat, by rw [Int.tmod_eq_emod_of_nonneg p0]; omega, by omega⟩
  obtain ⟨k1, e1, hk1⟩ : ∃ m : Nat, z1.tmod 3 = (m : Int) ∧ m ≤ 2 := ⟨(z1 % 3).toNat, by rw [Int.tmod_eq_emod_of_nonneg p1]; omega, by omega⟩
  obtain ⟨k2, e2, hk2⟩ : ∃ m : Nat, z2.tmod 3 = (m : Int) ∧ m ≤ 2 := ⟨(z2 % 3).toNat, by rw [Int.tmod_eq_emod_of_nonneg p2]; omega, by omega⟩
  have HB2 := hid_of (bnext HB.out hB2)
  have HT2 := hid_of (HT.out.called hB2)
  clear hz hzb hOp hB2 hzc HB HT HD1
  obtain ⟨A, M, hA, hM, hFM⟩ := run_cut HR.out m
  have hmL : m ≤ L.length := by rw [← HKL.out]; exact hmk
  have hyA := run_bytes8 (fun x hx => by cases hx) hA
  have hyF := run_bytes8 hyA hM
  have hyM : Bytes M := fun x hx => hyF x (List.mem_append_right _ hx)
  have hRL := run_right HR.out
  have hl40 : L.length ≤ 40 := by rw [← HKL.out]; exact hk
  have hRA : TokensRight (L.take m) := ⟨by rw [List.length_take]; omega, fun t ht => hRL t (List.mem_of_mem_take ht)⟩
  have hRB : TokensRight (L.drop m) := ⟨by rw [List.length_drop]; omega, fun t ht => hRL t (List.mem_of_mem_drop ht)⟩
  have hAM : (A ++ M).length ≤ 12000 := by rw [← hFM]; exact hF12
  have hA12 : A.length ≤ 12000 := by rw [List.length_append] at hAM; omega
  have el1 : (L.take m).length = m := by rw [List.length_take]; omega
  have el2 : (L.drop m).length = k - m := by rw [List.length_drop, ← HKL.out]
  have HC1 : Hid (∀ W, TCame W (some ⟨g, 0, none⟩) L.length (fun j => L.getD j (0, 0, 0)) → Calls Tryz.prog 9 #[.string ⟨#[]⟩, .slice (some ⟨g, 0, none⟩) m cp] W fun e w' => e = .returned (.tuple #[.string (strOfNums A), .bool true]) ∧ Below W.heap.size W w') := fun W hC => by
    have h := specExpand ⟨#[]⟩ (some ⟨g, 0, none⟩) cp (L.take m) W (tcame_take8 hC hmL) (by omega) (show 0 ≤ 1048576 by omega)
    rw [el1] at h
    refine h.mono ?_
    intro e w' h
    have e1 : expandOf ⟨#[]⟩ (L.take m) = some A := by
      unfold expandOf
      rw [if_pos (show (⟨#[]⟩ : ByteArray).size ≤ 12000 by decide)]
      have := expand_run (F := A) 0 hA (by omega)
      rw [List.drop_zero] at this
      exact this
    rw [e1] at h
    exact ⟨h.2, h.1⟩
  have hE2 : expandOf (strOfNums A) (L.drop m) = some M := by
    unfold expandOf
    rw [strOfNums_size, if_pos hA12, bytesOf_str hyA]
    have := expand_run (F := A ++ M) A.length hM (by omega)
    rw [List.drop_left] at this
    exact this
  by_cases hmcp : m < cp
  · have HLT : Hid ((∀ W, TCame W (some ⟨g, 0, none⟩) L.length (fun j => L.getD j (0, 0, 0)) → TCame W (some ⟨g, 0, none⟩) (L.take m).length (fun j => (L.take m).getD j (0, 0, 0))) ∧ ∀ W, TCame W (some ⟨g, 0, none⟩) L.length (fun j => L.getD j (0, 0, 0)) → TCame W (some ⟨g, m * 3, none⟩) (L.drop m).length (fun j => (L.drop m).getD j (0, 0, 0))) := ⟨fun W hC => tcame_take8 hC hmL, fun W hC => by have h := tcame_drop8 hC hmL; rw [Nat.zero_add] at h; exact h⟩
    have HC2 : Hid (∀ W, TCame W (some ⟨g, 0, none⟩) L.length (fun j => L.getD j (0, 0, 0)) → Calls Tryz.prog 9 #[.string (strOfNums A), .slice (some ⟨g, m * 3, none⟩) (k - m) (cp - m)] W fun e w' => e = .returned (.tuple #[.string (strOfNums M), .bool true]) ∧ Below W.heap.size W w') := fun W hC => by
      have h := specExpand (strOfNums A) (some ⟨g, m * 3, none⟩) (cp - m) (L.drop m) W (HLT.out.2 W hC) (by omega) (by rw [strOfNums_size]; omega)
      rw [el2] at h
      refine h.mono ?_
      intro e w' h
      rw [hE2] at h
      exact ⟨h.2, h.1⟩
    obtain ⟨BK0, hBK0⟩ : ∃ f : ByteArray → Nat → Option (ByteArray × Nat), f = fun (os : ByteArray) (oc : Nat) => blkOut k1 os (oc : Int) (strOfNums A) (L.take m) false := ⟨_, rfl⟩
    obtain ⟨BK1, hBK1⟩ : ∃ f : ByteArray → Nat → Option (ByteArray × Nat), f = fun (os : ByteArray) (oc : Nat) => blkOut k2 os (oc : Int) (strOfNums M) (L.drop m) true := ⟨_, rfl⟩
    have u0 : ∀ os oc, BK0 os oc = blkOut k1 os (oc : Int) (strOfNums A) (L.take m) false := fun os oc => by rw [hBK0]
    have u1 : ∀ os oc, BK1 os oc = blkOut k2 os (oc : Int) (strOfNums M) (L.drop m) true := fun os oc => by rw [hBK1]
    have h40A : (L.take m).length ≤ 40 := by omega
    have h40B : (L.drop m).length ≤ 40 := by omega
    have hout1 : ∀ os oc, BK0 ⟨#[]⟩ 0 = some (os, oc) → outB os (oc : Int) = true ∧ oc ≤ 30003 ∧ os.size ≤ 12000 := fun os oc h => by
      have h' := h
      rw [u0] at h'
      obtain ⟨o, q1, q2, q3⟩ := blk_some (s := ⟨#[]⟩) (c := 0) (t := strOfNums A) (last := false) hk1 empty_ok (by omega) hRA h40A (blk_small h')
      have h'' : blkOut k1 ⟨#[]⟩ ((0 : Nat) : Int) (strOfNums A) (L.take m) false = some (os, oc) := h'
      rw [h''] at q1
      cases q1
      exact ⟨q2, by simpa using q3, (fits_of_outB _ _ q2).1⟩
    have HEND : Hid (∀ os oc, StF BK0 BK1 2 os oc → ∃ p, os.size ≤ 12000 ∧ oc ≤ 96000 ∧ inflateE os 12000 = .ok (A ++ M, p, [(k1 : Int), (k2 : Int)]) ∧ (p + 7) / 8 = os.size ∧ p ≤ 96000) := by
      intro os oc h
      obtain ⟨o1, a1, a2⟩ : ∃ o1, BK0 ⟨#[]⟩ 0 = some o1 ∧ BK1 o1.1 o1.2 = some (os, oc) := h
      rw [u0] at a1
      rw [u1] at a2
      obtain ⟨o1', o2', p, b1, b2, b3, b4, b5, b6, b7, b8, b9⟩ := two_unpack hk1 hk2 hRA hRB h40A h40B hA hM hAM hyA hyM (fun h => by have := blk_small a1 h; rw [strOfNums_size] at this; exact this) (fun h => by have := blk_small a2 h; rw [strOfNums_size] at this; exact this)
      have a1' : blkOut k1 ⟨#[]⟩ 0 (strOfNums A) (L.take m) false = some o1 := a1
      rw [b1] at a1'
      cases a1'
      rw [a2] at b2
      cases b2
      refine ⟨p, b6, ?_, b7, b8, b9⟩
      obtain ⟨o, q1, q2, q3⟩ := blk_some (s := o1.1) (c := o1.2) (t := strOfNums M) (last := true) hk2 b3 (by have := (hout1 o1.1 o1.2 (by rw [u0]; exact a1)).2.1; omega) hRB h40B (blk_small a2)
      rw [a2] at q1
      cases q1
      have := (hout1 o1.1 o1.2 (by rw [u0]; exact a1)).2.1
      simp only [] at q3
      omega
    have HOS : Hid (∀ i, i ≤ 1 → ∀ os oc, StF BK0 BK1 i os oc → os.size ≤ 12000 ∧ oc ≤ 96000) := by
      intro i hi os oc h
      rcases (show i = 0 ∨ i = 1 by omega) with rfl | rfl
      · obtain ⟨rfl, rfl⟩ : os = ⟨#[]⟩ ∧ oc = 0 := h
        exact ⟨by decide, by omega⟩
      · have h' : BK0 ⟨#[]⟩ 0 = some (os, oc) := h
        have := hout1 os oc h'
        exact ⟨this.2.2, by omega⟩
    have HNX0 : Hid (∀ os oc, StF BK0 BK1 0 os oc → (BK0 os oc = none → decide ((2600 : Int) < ((strOfNums A).size : Int)) = true) ∧ ∀ s9 c9, BK0 os oc = some (s9, c9) → StF BK0 BK1 1 s9 c9) := by
      intro os oc h
      obtain ⟨rfl, rfl⟩ : os = ⟨#[]⟩ ∧ oc = 0 := h
      refine ⟨fun h => ?_, fun s9 c9 h => h⟩
      rw [u0] at h
      have := blk_none (c := 0) hk1 empty_ok (by omega) hRA h40A h
      exact decide_eq_true (by omega)
    have HNX1 : Hid (∀ os oc, StF BK0 BK1 1 os oc → (BK1 os oc = none → decide ((2600 : Int) < ((strOfNums M).size : Int)) = true) ∧ ∀ s9 c9, BK1 os oc = some (s9, c9) → StF BK0 BK1 2 s9 c9) := by
      intro os oc h
      have h' : BK0 ⟨#[]⟩ 0 = some (os, oc) := h
      have ho := hout1 os oc h'
      refine ⟨fun h => ?_, fun s9 c9 h => ⟨(os, oc), h', h⟩⟩
      rw [u1] at h
      have := blk_none hk2 ho.1 (by omega) hRB h40B h
      exact decide_eq_true (by omega)
    have HS0 : Hid (k1 = 0 → ∀ (W : World) os oc, os.size ≤ 12000 ∧ oc ≤ 96000 → Calls Tryz.prog 10 #[.agg #[.string os, .int .i64 ((oc : Nat) : Int)], .string (strOfNums A), .bool false] W fun e w' => e = .returned (.tuple #[.agg #[.string (blkS (BK0 os oc)), .int .i64 (blkN (BK0 os oc))], .bool (blkB (BK0 os oc))]) ∧ Below W.heap.size W w') := by
      rintro rfl W os oc hoc
      rw [← blkAns_parts, u0]
      exact HA.out.1 os oc (strOfNums A) false W (by omega) (by omega) (by omega) (by rw [strOfNums_size]; rw [List.length_append] at hAM; omega)
    have HF0 : Hid (k1 = 1 → ∀ (W : World) os oc, os.size ≤ 12000 ∧ oc ≤ 96000 → TCame W (some ⟨g, 0, none⟩) (L.take m).length (fun j => (L.take m).getD j (0, 0, 0)) → Calls Tryz.prog 11 #[.agg #[.string os, .int .i64 ((oc : Nat) : Int)], .slice (some ⟨g, 0, none⟩) m cp, .bool false] W fun e w' => e = .returned (.tuple #[.agg #[.string (blkS (BK0 os oc)), .int .i64 (blkN (BK0 os oc))], .bool (blkB (BK0 os oc))]) ∧ Below W.heap.size W w') := by
      rintro rfl W os oc hoc hC
      rw [← blkAns_parts, u0]
      have h := HA.out.2.1 os oc (some ⟨g, 0, none⟩) cp (L.take m) false W (by omega) (by omega) (by omega) hC (by omega)
      rw [el1] at h
      exact h
    have HW0 : Hid (k1 = 2 → ∀ (W : World) os oc, os.size ≤ 12000 ∧ oc ≤ 96000 → TCame W (some ⟨g, 0, none⟩) (L.take m).length (fun j => (L.take m).getD j (0, 0, 0)) → OrderG W → Calls Tryz.prog 12 #[.agg #[.string os, .int .i64 ((oc : Nat) : Int)], .slice (some ⟨g, 0, none⟩) m cp, .bool false] W fun e w' => e = .returned (.tuple #[.agg #[.string (blkS (BK0 os oc)), .int .i64 (blkN (BK0 os oc))], .bool (blkB (BK0 os oc))]) ∧ Below W.heap.size W w') := by
      rintro rfl W os oc hoc hC hGW
      rw [← blkAns_parts, u0]
      have h := HA.out.2.2 os oc (some ⟨g, 0, none⟩) cp (L.take m) false W (by omega) (by omega) (by omega) hC (by omega) hGW
      rw [el1] at h
      exact h
    have HS1 : Hid (k2 = 0 → ∀ (W : World) os oc, os.size ≤ 12000 ∧ oc ≤ 96000 → Calls Tryz.prog 10 #[.agg #[.string os, .int .i64 ((oc : Nat) : Int)], .string (strOfNums M), .bool true] W fun e w' => e = .returned (.tuple #[.agg #[.string (blkS (BK1 os oc)), .int .i64 (blkN (BK1 os oc))], .bool (blkB (BK1 os oc))]) ∧ Below W.heap.size W w') := by
      rintro rfl W os oc hoc
      rw [← blkAns_parts, u1]
      exact HA.out.1 os oc (strOfNums M) true W (by omega) (by omega) (by omega) (by rw [strOfNums_size]; rw [List.length_append] at hAM; omega)
    have HF1 : Hid (k2 = 1 → ∀ (W : World) os oc, os.size ≤ 12000 ∧ oc ≤ 96000 → TCame W (some ⟨g, m * 3, none⟩) (L.drop m).length (fun j => (L.drop m).getD j (0, 0, 0)) → Calls Tryz.prog 11 #[.agg #[.string os, .int .i64 ((oc : Nat) : Int)], .slice (some ⟨g, m * 3, none⟩) (k - m) (cp - m), .bool true] W fun e w' => e = .returned (.tuple #[.agg #[.string (blkS (BK1 os oc)), .int .i64 (blkN (BK1 os oc))], .bool (blkB (BK1 os oc))]) ∧ Below W.heap.size W w') := by
      rintro rfl W os oc hoc hC
      rw [← blkAns_parts, u1]
      have h := HA.out.2.1 os oc (some ⟨g, m * 3, none⟩) (cp - m) (L.drop m) true W (by omega) (by omega) (by omega) hC (by omega)
      rw [el2] at h
      exact h
    have HW1 : Hid (k2 = 2 → ∀ (W : World) os oc, os.size ≤ 12000 ∧ oc ≤ 96000 → TCame W (some ⟨g, m * 3, none⟩) (L.drop m).length (fun j => (L.drop m).getD j (0, 0, 0)) → OrderG W → Calls Tryz.prog 12 #[.agg #[.string os, .int .i64 ((oc : Nat) : Int)], .slice (some ⟨g, m * 3, none⟩) (k - m) (cp - m), .bool true] W fun e w' => e = .returned (.tuple #[.agg #[.string (blkS (BK1 os oc)), .int .i64 (blkN (BK1 os oc))], .bool (blkB (BK1 os oc))]) ∧ Below W.heap.size W w') := by
      rintro rfl W os oc hoc hC hGW
      rw [← blkAns_parts, u1]
      have h := HA.out.2.2 os oc (some ⟨g, m * 3, none⟩) (cp - m) (L.drop m) true W (by omega) (by omega) (by omega) hC (by omega) hGW
      rw [el2] at h
      exact h
    have HAS : Hid (strOfNums A ++ strOfNums M = strOfNums (A ++ M)) := str_app8 A M
    have hsA : (strOfNums A).size ≤ 12000 := by rw [strOfNums_size]; exact hA12
    have hsM : (strOfNums M).size ≤ 12000 := by rw [strOfNums_size]; rw [List.length_append] at hAM; omega
    clear hBK0 hBK1 u0 u1 hout1 hE2 hA hM hAM hyA hyF hyM hRL hRA hRB hFM HA el1 el2 h40A h40B
    go_wp2_with fail
    refine (HC1.out w2 HT2.out).mono ?_
    rintro e w3 ⟨rfl, hB3⟩
    have HB3 := hid_of (bnext HB2.out hB3)
    have HT3 := hid_of (HT2.out.called hB3)
    have d0 : w3.cell? ⟨gp, 1, none⟩ = some (.int .i64 z1) := (hB3.cell (p := ⟨gp, 1, none⟩) hgl).trans c1
    have d2' : w3.cell? ⟨gp, 2, none⟩ = some (.int .i64 z2) := (hB3.cell (p := ⟨gp, 2, none⟩) hgl).trans c2
    have dgl : gp < w3.heap.size := Nat.lt_of_lt_of_le hgl hB3.size
    clear hB3 HB2 HT2 HC1 c0 c1 c2 hgl em
    go_wp2_with fail
    refine (HC2.out w3 HT3.out).mono ?_
    rintro e w4 ⟨rfl, hB4⟩
    have HB4 := hid_of (bnext HB3.out hB4)
    have HT4 := hid_of (HT3.out.called hB4)
    have HG4 := hid_of (HG.out.below HB4.out HG.out.1)
    have f1 : w4.cell? ⟨gp, 1, none⟩ = some (.int .i64 z1) := (hB4.cell (p := ⟨gp, 1, none⟩) dgl).trans d0
    have f2 : w4.cell? ⟨gp, 2, none⟩ = some (.int .i64 z2) := (hB4.cell (p := ⟨gp, 2, none⟩) dgl).trans d2'
    have fl : gp < w4.heap.size := Nat.lt_of_lt_of_le dgl hB4.size
    clear hB4 HB3 HT3 HC2 HG d0 d2' dgl
    generalize strOfNums A = SA at *
    generalize strOfNums M = SB at *
    have H0 : Hid (FbS w4 ((w4.alloc (.cells #[.string ⟨#[]⟩, .int .i64 0] 31)).alloc (.cells #[.int .i64 (k1 : Int), .int .i64 (k2 : Int)] 3)) k1 k2 ⟨#[]⟩ 0 ∧ StF BK0 BK1 0 ⟨#[]⟩ 0) := ⟨⟨bal (bstart _ _) _, ((bstart _ _).block _ (by simp)).trans (heap_alloc_new w4 _), by
      have h := heap_alloc_new (w4.alloc (.cells #[.string ⟨#[]⟩, .int .i64 0] 31)) (.cells #[.int .i64 (k1 : Int), .int .i64 (k2 : Int)] 3)
      rw [show (w4.alloc (.cells #[.string ⟨#[]⟩, .int .i64 0] 31)).heap.size = w4.heap.size + 1 by simp] at h
      exact h⟩, rfl, rfl⟩
    go_wp2_with fail
    go_region
    go_wp2_with fail
    have H00 : Hid (FbS w4 (((w4.alloc (.cells #[.string ⟨#[]⟩, .int .i64 0] 31)).alloc (.cells #[.int .i64 (k1 : Int), .int .i64 (k2 : Int)] 3)).drew) k1 k2 ⟨#[]⟩ 0 ∧ StF BK0 BK1 0 ⟨#[]⟩ 0) := ⟨⟨H0.out.1.1.drew, H0.out.1.2.1, H0.out.1.2.2⟩, H0.out.2⟩
    clear H0 e1 e2 f1 f2 fl
    generalize ((w4.alloc _).alloc _).drew = X0 at H00 ⊢
    go_loopg [12] 3 (fun gk iv w' => ∃ i : Nat, i ≤ 2 ∧ 2 - i ≤ gk ∧ iv = .int .i64 i ∧ ∃ os oc, Hid (FbS w4 w' k1 k2 os oc ∧ StF BK0 BK1 i os oc))
    case atStart => exact ⟨0, by omega, by omega, rfl, ⟨#[]⟩, 0, H00.out⟩
    case round =>
      clear H00
      obtain ⟨i, hi, hgk, rfl, os, oc, hS⟩ := hrel
      rcases (show i = 0 ∨ i = 1 ∨ i = 2 by omega) with rfl | rfl | rfl
      · rcases (show k1 = 0 ∨ k1 = 1 ∨ k1 = 2 by omega) with rfl | rfl | rfl
        · obtain ⟨x0, x1, xl⟩ : wr.cell? ⟨w4.heap.size, 0, none⟩ = some (.string os) ∧ wr.cell? ⟨w4.heap.size, 1, none⟩ = some (.int .i64 (oc : Int)) ∧ w4.heap.size < wr.heap.size := ⟨(cell_of_block hS.out.1.2.1 0).trans rfl, (cell_of_block hS.out.1.2.1 1).trans rfl, block_lt hS.out.1.2.1⟩
          have kc : wr.cell? ⟨w4.heap.size + 1, 0, none⟩ = some (.int .i64 0) := (cell_of_block hS.out.1.2.2 0).trans rfl
          have kl := block_lt hS.out.1.2.2
          have hrb : w4.heap.size + 2 ≤ wr.heap.size := kl
          have hoS := HOS.out 0 (by omega) os oc hS.out.2
          have HSO := hid_of (HNX0.out os oc hS.out.2)
          go_wp2_with fail
          refine (HS0.out (by first | exact rfl | exact trivial) _ os oc hoS).mono ?_
          rintro e w6 ⟨rfl, b6⟩
          have HX6 := hid_of ((hS.out.1.called (bstart _ _)).called b6)
          have hrx : w6.heap[wr.heap.size]? = some (.cells #[.string ⟨#[]⟩, .int .i64 0] 31 (0, 0)) := (b6.block _ (by simp)).trans (heap_alloc_new wr _)
          clear b6 x0 x1 xl kc kl hS hoS
          generalize wr.heap.size = rb at *
          have r0 : w6.cell? ⟨rb, 0, none⟩ = some (.string ⟨#[]⟩) := (cell_of_block hrx 0).trans rfl
          have r1 : w6.cell? ⟨rb, 1, none⟩ = some (.int .i64 0) := (cell_of_block hrx 1).trans rfl
          have rf : ∀ q, w6.frozen? ⟨rb, q, none⟩ = false := fun q => by simp [World.frozen?, hrx]
          have rl := block_lt hrx
          have hb := HX6.out.2.1
          have y0 : w6.cell? ⟨w4.heap.size, 0, none⟩ = some (.string os) := (cell_of_block hb 0).trans rfl
          have y1 : w6.cell? ⟨w4.heap.size, 1, none⟩ = some (.int .i64 (oc : Int)) := (cell_of_block hb 1).trans rfl
          have yf : ∀ q, w6.frozen? ⟨w4.heap.size, q, none⟩ = false := fun q => by simp [World.frozen?, hb]
          have yl := block_lt hb
          have hne : rb ≠ w4.heap.size := by omega
          have hne2 : w4.heap.size ≠ rb := by omega
          clear hrx hb
          generalize BK0 os oc = nn at HSO ⊢
          cases nn with
          | none =>
            simp only [blkB, blkS, blkN]
            have dt := HSO.out.1 rfl
            have HBB := hid_of (bnext HB4.out HX6.out.1)
            clear HSO HX6
            go_wp2_with fail
            go_ret
            exact ⟨rfl, two_below HBB.out (by have := HB4.out.size; omega) _ _⟩
          | some oo =>
            obtain ⟨s9, c9⟩ := oo
            simp only [blkB, blkS, blkN]
            have HN := hid_of (HX6.out.put hrb (.string s9) (.int .i64 (c9 : Int)) s9 c9)
            have HO1 := hid_of (HSO.out.2 s9 c9 rfl)
            clear HSO HX6
            go_wp2_with fail
            go_roundg (2 - (0 + 1))
            case measure => omega
            case rel => exact ⟨1, by omega, Nat.le_refl _, by go_num, s9, c9, HN.out, HO1.out⟩
        · obtain ⟨x0, x1, xl⟩ : wr.cell? ⟨w4.heap.size, 0, none⟩ = some (.string os) ∧ wr.cell? ⟨w4.heap.size, 1, none⟩ = some (.int .i64 (oc : Int)) ∧ w4.heap.size < wr.heap.size := ⟨(cell_of_block hS.out.1.2.1 0).trans rfl, (cell_of_block hS.out.1.2.1 1).trans rfl, block_lt hS.out.1.2.1⟩
          have kc : wr.cell? ⟨w4.heap.size + 1, 0, none⟩ = some (.int .i64 1) := (cell_of_block hS.out.1.2.2 0).trans rfl
          have kl := block_lt hS.out.1.2.2
          have hrb : w4.heap.size + 2 ≤ wr.heap.size := kl
          have hoS := HOS.out 0 (by omega) os oc hS.out.2
          have HSO := hid_of (HNX0.out os oc hS.out.2)
          go_wp2_with fail
          refine (HF0.out (by first | exact rfl | exact trivial) _ os oc hoS (HLT.out.1 _ ((HT4.out.called hS.out.1.1).called (bstart _ _)))).mono ?_
          rintro e w6 ⟨rfl, b6⟩
          have HX6 := hid_of ((hS.out.1.called (bstart _ _)).called b6)
          have hrx : w6.heap[wr.heap.size]? = some (.cells #[.string ⟨#[]⟩, .int .i64 0] 31 (0, 0)) := (b6.block _ (by simp)).trans (heap_alloc_new wr _)
          clear b6 x0 x1 xl kc kl hS hoS
          generalize wr.heap.size = rb at *
          have r0 : w6.cell? ⟨rb, 0, none⟩ = some (.string ⟨#[]⟩) := (cell_of_block hrx 0).trans rfl
          have r1 : w6.cell? ⟨rb, 1, none⟩ = some (.int .i64 0) := (cell_of_block hrx 1).trans rfl
          have rf : ∀ q, w6.frozen? ⟨rb, q, none⟩ = false := fun q => by simp [World.frozen?, hrx]
          have rl := block_lt hrx
          have hb := HX6.out.2.1
          have y0 : w6.cell? ⟨w4.heap.size, 0, none⟩ = some (.string os) := (cell_of_block hb 0).trans rfl
          have y1 : w6.cell? ⟨w4.heap.size, 1, none⟩ = some (.int .i64 (oc : Int)) := (cell_of_block hb 1).trans rfl
          have yf : ∀ q, w6.frozen? ⟨w4.heap.size, q, none⟩ = false := fun q => by simp [World.frozen?, hb]
          have yl := block_lt hb
          have hne : rb ≠ w4.heap.size := by omega
          have hne2 : w4.heap.size ≠ rb := by omega
          clear hrx hb
          generalize BK0 os oc = nn at HSO ⊢
          cases nn with
          | none =>
            simp only [blkB, blkS, blkN]
            have dt := HSO.out.1 rfl
            have HBB := hid_of (bnext HB4.out HX6.out.1)
            clear HSO HX6
            go_wp2_with fail
            go_ret
            exact ⟨rfl, two_below HBB.out (by have := HB4.out.size; omega) _ _⟩
          | some oo =>
            obtain ⟨s9, c9⟩ := oo
            simp only [blkB, blkS, blkN]
            have HN := hid_of (HX6.out.put hrb (.string s9) (.int .i64 (c9 : Int)) s9 c9)
            have HO1 := hid_of (HSO.out.2 s9 c9 rfl)
            clear HSO HX6
            go_wp2_with fail
            go_roundg (2 - (0 + 1))
            case measure => omega
            case rel => exact ⟨1, by omega, Nat.le_refl _, by go_num, s9, c9, HN.out, HO1.out⟩
        · obtain ⟨x0, x1, xl⟩ : wr.cell? ⟨w4.heap.size, 0, none⟩ = some (.string os) ∧ wr.cell? ⟨w4.heap.size, 1, none⟩ = some (.int .i64 (oc : Int)) ∧ w4.heap.size < wr.heap.size := ⟨(cell_of_block hS.out.1.2.1 0).trans rfl, (cell_of_block hS.out.1.2.1 1).trans rfl, block_lt hS.out.1.2.1⟩
          have kc : wr.cell? ⟨w4.heap.size + 1, 0, none⟩ = some (.int .i64 2) := (cell_of_block hS.out.1.2.2 0).trans rfl
          have kl := block_lt hS.out.1.2.2
          have hrb : w4.heap.size + 2 ≤ wr.heap.size := kl
          have hoS := HOS.out 0 (by omega) os oc hS.out.2
          have HSO := hid_of (HNX0.out os oc hS.out.2)
          go_wp2_with fail
          refine (HW0.out (by first | exact rfl | exact trivial) _ os oc hoS (HLT.out.1 _ ((HT4.out.called hS.out.1.1).called (bstart _ _))) (HG4.out.below (bnext hS.out.1.1 (bstart _ _)) HG4.out.1)).mono ?_
          rintro e w6 ⟨rfl, b6⟩
          have HX6 := hid_of ((hS.out.1.called (bstart _ _)).called b6)
          have hrx : w6.heap[wr.heap.size]? = some (.cells #[.string ⟨#[]⟩, .int .i64 0] 31 (0, 0)) := (b6.block _ (by simp)).trans (heap_alloc_new wr _)
          clear b6 x0 x1 xl kc kl hS hoS
          generalize wr.heap.size = rb at *
          have r0 : w6.cell? ⟨rb, 0, none⟩ = some (.string ⟨#[]⟩) := (cell_of_block hrx 0).trans rfl
          have r1 : w6.cell? ⟨rb, 1, none⟩ = some (.int .i64 0) := (cell_of_block hrx 1).trans rfl
          have rf : ∀ q, w6.frozen? ⟨rb, q, none⟩ = false := fun q => by simp [World.frozen?, hrx]
          have rl := block_lt hrx
          have hb := HX6.out.2.1
          have y0 : w6.cell? ⟨w4.heap.size, 0, none⟩ = some (.string os) := (cell_of_block hb 0).trans rfl
          have y1 : w6.cell? ⟨w4.heap.size, 1, none⟩ = some (.int .i64 (oc : Int)) := (cell_of_block hb 1).trans rfl
          have yf : ∀ q, w6.frozen? ⟨w4.heap.size, q, none⟩ = false := fun q => by simp [World.frozen?, hb]
          have yl := block_lt hb
          have hne : rb ≠ w4.heap.size := by omega
          have hne2 : w4.heap.size ≠ rb := by omega
          clear hrx hb
          generalize BK0 os oc = nn at HSO ⊢
          cases nn with
          | none =>
            simp only [blkB, blkS, blkN]
            have dt := HSO.out.1 rfl
            have HBB := hid_of (bnext HB4.out HX6.out.1)
            clear HSO HX6
            go_wp2_with fail
            go_ret
            exact ⟨rfl, two_below HBB.out (by have := HB4.out.size; omega) _ _⟩
          | some oo =>
            obtain ⟨s9, c9⟩ := oo
            simp only [blkB, blkS, blkN]
            have HN := hid_of (HX6.out.put hrb (.string s9) (.int .i64 (c9 : Int)) s9 c9)
            have HO1 := hid_of (HSO.out.2 s9 c9 rfl)
            clear HSO HX6
            go_wp2_with fail
            go_roundg (2 - (0 + 1))
            case measure => omega
            case rel => exact ⟨1, by omega, Nat.le_refl _, by go_num, s9, c9, HN.out, HO1.out⟩
      · rcases (show k2 = 0 ∨ k2 = 1 ∨ k2 = 2 by omega) with rfl | rfl | rfl
        · obtain ⟨x0, x1, xl⟩ : wr.cell? ⟨w4.heap.size, 0, none⟩ = some (.string os) ∧ wr.cell? ⟨w4.heap.size, 1, none⟩ = some (.int .i64 (oc : Int)) ∧ w4.heap.size < wr.heap.size := ⟨(cell_of_block hS.out.1.2.1 0).trans rfl, (cell_of_block hS.out.1.2.1 1).trans rfl, block_lt hS.out.1.2.1⟩
          have kc : wr.cell? ⟨w4.heap.size + 1, 1, none⟩ = some (.int .i64 0) := (cell_of_block hS.out.1.2.2 1).trans rfl
          have kl := block_lt hS.out.1.2.2
          have hrb : w4.heap.size + 2 ≤ wr.heap.size := kl
          have hoS := HOS.out 1 (by omega) os oc hS.out.2
          have HSO := hid_of (HNX1.out os oc hS.out.2)
          go_wp2_with fail
          refine (HS1.out (by first | exact rfl | exact trivial) _ os oc hoS).mono ?_
          rintro e w6 ⟨rfl, b6⟩
          have HX6 := hid_of ((hS.out.1.called (bstart _ _)).called b6)
          have hrx : w6.heap[wr.heap.size]? = some (.cells #[.string ⟨#[]⟩, .int .i64 0] 31 (0, 0)) := (b6.block _ (by simp)).trans (heap_alloc_new wr _)
          clear b6 x0 x1 xl kc kl hS hoS
          generalize wr.heap.size = rb at *
          have r0 : w6.cell? ⟨rb, 0, none⟩ = some (.string ⟨#[]⟩) := (cell_of_block hrx 0).trans rfl
          have r1 : w6.cell? ⟨rb, 1, none⟩ = some (.int .i64 0) := (cell_of_block hrx 1).trans rfl
          have rf : ∀ q, w6.frozen? ⟨rb, q, none⟩ = false := fun q => by simp [World.frozen?, hrx]
          have rl := block_lt hrx
          have hb := HX6.out.2.1
          have y0 : w6.cell? ⟨w4.heap.size, 0, none⟩ = some (.string os) := (cell_of_block hb 0).trans rfl
          have y1 : w6.cell? ⟨w4.heap.size, 1, none⟩ = some (.int .i64 (oc : Int)) := (cell_of_block hb 1).trans rfl
          have yf : ∀ q, w6.frozen? ⟨w4.heap.size, q, none⟩ = false := fun q => by simp [World.frozen?, hb]
          have yl := block_lt hb
          have hne : rb ≠ w4.heap.size := by omega
          have hne2 : w4.heap.size ≠ rb := by omega
          clear hrx hb
          generalize BK1 os oc = nn at HSO ⊢
          cases nn with
          | none =>
            simp only [blkB, blkS, blkN]
            have dt := HSO.out.1 rfl
            have HBB := hid_of (bnext HB4.out HX6.out.1)
            clear HSO HX6
            go_wp2_with fail
            go_ret
            exact ⟨rfl, two_below HBB.out (by have := HB4.out.size; omega) _ _⟩
          | some oo =>
            obtain ⟨s9, c9⟩ := oo
            simp only [blkB, blkS, blkN]
            have HN := hid_of (HX6.out.put hrb (.string s9) (.int .i64 (c9 : Int)) s9 c9)
            have HO1 := hid_of (HSO.out.2 s9 c9 rfl)
            clear HSO HX6
            go_wp2_with fail
            go_roundg (2 - (1 + 1))
            case measure => omega
            case rel => exact ⟨2, by omega, Nat.le_refl _, by go_num, s9, c9, HN.out, HO1.out⟩
        · obtain ⟨x0, x1, xl⟩ : wr.cell? ⟨w4.heap.size, 0, none⟩ = some (.string os) ∧ wr.cell? ⟨w4.heap.size, 1, none⟩ = some (.int .i64 (oc : Int)) ∧ w4.heap.size < wr.heap.size := ⟨(cell_of_block hS.out.1.2.1 0).trans rfl, (cell_of_block hS.out.1.2.1 1).trans rfl, block_lt hS.out.1.2.1⟩
          have kc : wr.cell? ⟨w4.heap.size + 1, 1, none⟩ = some (.int .i64 1) := (cell_of_block hS.out.1.2.2 1).trans rfl
          have kl := block_lt hS.out.1.2.2
          have hrb : w4.heap.size + 2 ≤ wr.heap.size := kl
          have hoS := HOS.out 1 (by omega) os oc hS.out.2
          have HSO := hid_of (HNX1.out os oc hS.out.2)
          go_wp2_with fail
          refine (HF1.out (by first | exact rfl | exact trivial) _ os oc hoS (HLT.out.2 _ ((HT4.out.called hS.out.1.1).called (bstart _ _)))).mono ?_
          rintro e w6 ⟨rfl, b6⟩
          have HX6 := hid_of ((hS.out.1.called (bstart _ _)).called b6)
          have hrx : w6.heap[wr.heap.size]? = some (.cells #[.string ⟨#[]⟩, .int .i64 0] 31 (0, 0)) := (b6.block _ (by simp)).trans (heap_alloc_new wr _)
          clear b6 x0 x1 xl kc kl hS hoS
          generalize wr.heap.size = rb at *
          have r0 : w6.cell? ⟨rb, 0, none⟩ = some (.string ⟨#[]⟩) := (cell_of_block hrx 0).trans rfl
          have r1 : w6.cell? ⟨rb, 1, none⟩ = some (.int .i64 0) := (cell_of_block hrx 1).trans rfl
          have rf : ∀ q, w6.frozen? ⟨rb, q, none⟩ = false := fun q => by simp [World.frozen?, hrx]
          have rl := block_lt hrx
          have hb := HX6.out.2.1
          have y0 : w6.cell? ⟨w4.heap.size, 0, none⟩ = some (.string os) := (cell_of_block hb 0).trans rfl
          have y1 : w6.cell? ⟨w4.heap.size, 1, none⟩ = some (.int .i64 (oc : Int)) := (cell_of_block hb 1).trans rfl
          have yf : ∀ q, w6.frozen? ⟨w4.heap.size, q, none⟩ = false := fun q => by simp [World.frozen?, hb]
          have yl := block_lt hb
          have hne : rb ≠ w4.heap.size := by omega
          have hne2 : w4.heap.size ≠ rb := by omega
          clear hrx hb
          generalize BK1 os oc = nn at HSO ⊢
          cases nn with
          | none =>
            simp only [blkB, blkS, blkN]
            have dt := HSO.out.1 rfl
            have HBB := hid_of (bnext HB4.out HX6.out.1)
            clear HSO HX6
            go_wp2_with fail
            go_ret
            exact ⟨rfl, two_below HBB.out (by have := HB4.out.size; omega) _ _⟩
          | some oo =>
            obtain ⟨s9, c9⟩ := oo
            simp only [blkB, blkS, blkN]
            have HN := hid_of (HX6.out.put hrb (.string s9) (.int .i64 (c9 : Int)) s9 c9)
            have HO1 := hid_of (HSO.out.2 s9 c9 rfl)
            clear HSO HX6
            go_wp2_with fail
            go_roundg (2 - (1 + 1))
            case measure => omega
            case rel => exact ⟨2, by omega, Nat.le_refl _, by go_num, s9, c9, HN.out, HO1.out⟩
        · obtain ⟨x0, x1, xl⟩ : wr.cell? ⟨w4.heap.size, 0, none⟩ = some (.string os) ∧ wr.cell? ⟨w4.heap.size, 1, none⟩ = some (.int .i64 (oc : Int)) ∧ w4.heap.size < wr.heap.size := ⟨(cell_of_block hS.out.1.2.1 0).trans rfl, (cell_of_block hS.out.1.2.1 1).trans rfl, block_lt hS.out.1.2.1⟩
          have kc : wr.cell? ⟨w4.heap.size + 1, 1, none⟩ = some (.int .i64 2) := (cell_of_block hS.out.1.2.2 1).trans rfl
          have kl := block_lt hS.out.1.2.2
          have hrb : w4.heap.size + 2 ≤ wr.heap.size := kl
          have hoS := HOS.out 1 (by omega) os oc hS.out.2
          have HSO := hid_of (HNX1.out os oc hS.out.2)
          go_wp2_with fail
          refine (HW1.out (by first | exact rfl | exact trivial) _ os oc hoS (HLT.out.2 _ ((HT4.out.called hS.out.1.1).called (bstart _ _))) (HG4.out.below (bnext hS.out.1.1 (bstart _ _)) HG4.out.1)).mono ?_
          rintro e w6 ⟨rfl, b6⟩
          have HX6 := hid_of ((hS.out.1.called (bstart _ _)).called b6)
          have hrx : w6.heap[wr.heap.size]? = some (.cells #[.string ⟨#[]⟩, .int .i64 0] 31 (0, 0)) := (b6.block _ (by simp)).trans (heap_alloc_new wr _)
          clear b6 x0 x1 xl kc kl hS hoS
          generalize wr.heap.size = rb at *
          have r0 : w6.cell? ⟨rb, 0, none⟩ = some (.string ⟨#[]⟩) := (cell_of_block hrx 0).trans rfl
          have r1 : w6.cell? ⟨rb, 1, none⟩ = some (.int .i64 0) := (cell_of_block hrx 1).trans rfl
          have rf : ∀ q, w6.frozen? ⟨rb, q, none⟩ = false := fun q => by simp [World.frozen?, hrx]
          have rl := block_lt hrx
          have hb := HX6.out.2.1
          have y0 : w6.cell? ⟨w4.heap.size, 0, none⟩ = some (.string os) := (cell_of_block hb 0).trans rfl
          have y1 : w6.cell? ⟨w4.heap.size, 1, none⟩ = some (.int .i64 (oc : Int)) := (cell_of_block hb 1).trans rfl
          have yf : ∀ q, w6.frozen? ⟨w4.heap.size, q, none⟩ = false := fun q => by simp [World.frozen?, hb]
          have yl := block_lt hb
          have hne : rb ≠ w4.heap.size := by omega
          have hne2 : w4.heap.size ≠ rb := by omega
          clear hrx hb
          generalize BK1 os oc = nn at HSO ⊢
          cases nn with
          | none =>
            simp only [blkB, blkS, blkN]
            have dt := HSO.out.1 rfl
            have HBB := hid_of (bnext HB4.out HX6.out.1)
            clear HSO HX6
            go_wp2_with fail
            go_ret
            exact ⟨rfl, two_below HBB.out (by have := HB4.out.size; omega) _ _⟩
          | some oo =>
            obtain ⟨s9, c9⟩ := oo
            simp only [blkB, blkS, blkN]
            have HN := hid_of (HX6.out.put hrb (.string s9) (.int .i64 (c9 : Int)) s9 c9)
            have HO1 := hid_of (HSO.out.2 s9 c9 rfl)
            clear HSO HX6
            go_wp2_with fail
            go_roundg (2 - (1 + 1))
            case measure => omega
            case rel => exact ⟨2, by omega, Nat.le_refl _, by go_num, s9, c9, HN.out, HO1.out⟩
      · obtain ⟨p, h1, h2, h3, h4, h5⟩ := HEND.out os oc hS.out.2
        have x0 : wr.cell? ⟨w4.heap.size, 0, none⟩ = some (.string os) := (cell_of_block hS.out.1.2.1 0).trans rfl
        have xl := block_lt hS.out.1.2.1
        have hin := fun (W : World) hG => implInflate_ok os 12000 (A ++ M) p [(k1 : Int), (k2 : Int)] W h1 hG h3
        rw [h4] at hin
        have HIN := hid_of hin
        have HTY := hid_of (fun (W : World) hG => implTypes_ok os 12000 (A ++ M) p [(k1 : Int), (k2 : Int)] W h1 hG h3)
        have hAS := HAS.out
        clear hin h3 h4 h5 h2 HS0 HF0 HW0 HS1 HF1 HW1 HNX0 HNX1 HOS HEND HAS HLT HR
        generalize strOfNums (A ++ M) = SF at *
        go_wp2_with fail
        refine (HIN.out wr (HG4.out.below hS.out.1.1 HG4.out.1)).mono ?_
        rintro e w7 ⟨rfl, b7⟩
        have HX7 := hid_of (hS.out.1.called b7)
        have x7 : w7.cell? ⟨w4.heap.size, 0, none⟩ = some (.string os) := (cell_of_block HX7.out.2.1 0).trans rfl
        have xl7 := block_lt HX7.out.2.1
        clear b7 x0 xl hS HIN
        go_wp2_with fail
        refine (HTY.out w7 (HG4.out.below HX7.out.1 HG4.out.1)).mono ?_
        rintro e w8 ⟨ta, tc, rfl, hN, b8⟩
        have HX8 := hid_of (HX7.out.called b8)
        have x8 : w8.cell? ⟨w4.heap.size, 0, none⟩ = some (.string os) := (cell_of_block HX8.out.2.1 0).trans rfl
        have xl8 := block_lt HX8.out.2.1
        have HC8 : Hid (Came w8 ta 2 (fun j => [(k1 : Int), (k2 : Int)].getD j 0) ∧ Came w8 (some ⟨w4.heap.size + 1, 0, none⟩) 2 (fun j => [(k1 : Int), (k2 : Int)].getD j 0)) := by
          constructor
          · obtain ⟨a', c', hv, _, _, hc, _⟩ := hN.form
            cases hv
            exact hc
          · refine .inr ⟨w4.heap.size + 1, 0, rfl, block_lt HX8.out.2.2, fun j hj => ?_⟩
            rcases (show j = 0 ∨ j = 1 by omega) with rfl | rfl
            · exact (cell_of_block HX8.out.2.2 0).trans rfl
            · exact (cell_of_block HX8.out.2.2 1).trans rfl
        clear b8 x7 xl7 HX7 HTY hN
        simp only [List.length_cons, List.length_nil, Nat.zero_add, Nat.reduceAdd]
        go_wp2_with fail
        refine (sameInts_same ta (some ⟨w4.heap.size + 1, 0, none⟩) 2 tc 2 _ w8 HC8.out.1 HC8.out.2 (by omega)).mono ?_
        rintro e w9 ⟨rfl, b9⟩
        have HB9 := hid_of (bnext HB4.out (bnext HX8.out.1 b9))
        clear b9 HX8 HC8
        go_wp2_with fail
        go_ret
        exact ⟨rfl, HB9.out⟩
  · have HLT : Hid ((∀ W, TCame W (some ⟨g, 0, none⟩) L.length (fun j => L.getD j (0, 0, 0)) → TCame W (some ⟨g, 0, none⟩) (L.take m).length (fun j => (L.take m).getD j (0, 0, 0))) ∧ ∀ W, TCame W (some ⟨g, 0, none⟩) L.length (fun j => L.getD j (0, 0, 0)) → TCame W (some ⟨g, 0, none⟩) (L.drop m).length (fun j => (L.drop m).getD j (0, 0, 0))) := ⟨fun W hC => tcame_take8 hC hmL, fun W _ => .inl (by rw [List.length_drop, ← HKL.out]; omega)⟩
    have HC2 : Hid (∀ W, TCame W (some ⟨g, 0, none⟩) L.length (fun j => L.getD j (0, 0, 0)) → Calls Tryz.prog 9 #[.string (strOfNums A), .slice (some ⟨g, 0, none⟩) (k - m) (cp - m)] W fun e w' => e = .returned (.tuple #[.string (strOfNums M), .bool true]) ∧ Below W.heap.size W w') := fun W hC => by
      have h := specExpand (strOfNums A) (some ⟨g, 0, none⟩) (cp - m) (L.drop m) W (HLT.out.2 W hC) (by omega) (by rw [strOfNums_size]; omega)
      rw [el2] at h
      refine h.mono ?_
      intro e w' h
      rw [hE2] at h
      exact ⟨h.2, h.1⟩
    obtain ⟨BK0, hBK0⟩ : ∃ f : ByteArray → Nat → Option (ByteArray × Nat), f = fun (os : ByteArray) (oc : Nat) => blkOut k1 os (oc : Int) (strOfNums A) (L.take m) false := ⟨_, rfl⟩
    obtain ⟨BK1, hBK1⟩ : ∃ f : ByteArray → Nat → Option (ByteArray × Nat), f = fun (os : ByteArray) (oc : Nat) => blkOut k2 os (oc : Int) (strOfNums M) (L.drop m) true := ⟨_, rfl⟩
    have u0 : ∀ os oc, BK0 os oc = blkOut k1 os (oc : Int) (strOfNums A) (L.take m) false := fun os oc => by rw [hBK0]
    have u1 : ∀ os oc, BK1 os oc = blkOut k2 os (oc : Int) (strOfNums M) (L.drop m) true := fun os oc => by rw [hBK1]
    have h40A : (L.take m).length ≤ 40 := by omega
    have h40B : (L.drop m).length ≤ 40 := by omega
    have hout1 : ∀ os oc, BK0 ⟨#[]⟩ 0 = some (os, oc) → outB os (oc : Int) = true ∧ oc ≤ 30003 ∧ os.size ≤ 12000 := fun os oc h => by
      have h' := h
      rw [u0] at h'
      obtain ⟨o, q1, q2, q3⟩ := blk_some (s := ⟨#[]⟩) (c := 0) (t := strOfNums A) (last := false) hk1 empty_ok (by omega) hRA h40A (blk_small h')
      have h'' : blkOut k1 ⟨#[]⟩ ((0 : Nat) : Int) (strOfNums A) (L.take m) false = some (os, oc) := h'
      rw [h''] at q1
      cases q1
      exact ⟨q2, by simpa using q3, (fits_of_outB _ _ q2).1⟩
    have HEND : Hid (∀ os oc, StF BK0 BK1 2 os oc → ∃ p, os.size ≤ 12000 ∧ oc ≤ 96000 ∧ inflateE os 12000 = .ok (A ++ M, p, [(k1 : Int), (k2 : Int)]) ∧ (p + 7) / 8 = os.size ∧ p ≤ 96000) := by
      intro os oc h
      obtain ⟨o1, a1, a2⟩ : ∃ o1, BK0 ⟨#[]⟩ 0 = some o1 ∧ BK1 o1.1 o1.2 = some (os, oc) := h
      rw [u0] at a1
      rw [u1] at a2
      obtain ⟨o1', o2', p, b1, b2, b3, b4, b5, b6, b7, b8, b9⟩ := two_unpack hk1 hk2 hRA hRB h40A h40B hA hM hAM hyA hyM (fun h => by have := blk_small a1 h; rw [strOfNums_size] at this; exact this) (fun h => by have := blk_small a2 h; rw [strOfNums_size] at this; exact this)
      have a1' : blkOut k1 ⟨#[]⟩ 0 (strOfNums A) (L.take m) false = some o1 := a1
      rw [b1] at a1'
      cases a1'
      rw [a2] at b2
      cases b2
      refine ⟨p, b6, ?_, b7, b8, b9⟩
      obtain ⟨o, q1, q2, q3⟩ := blk_some (s := o1.1) (c := o1.2) (t := strOfNums M) (last := true) hk2 b3 (by have := (hout1 o1.1 o1.2 (by rw [u0]; exact a1)).2.1; omega) hRB h40B (blk_small a2)
      rw [a2] at q1
      cases q1
      have := (hout1 o1.1 o1.2 (by rw [u0]; exact a1)).2.1
      simp only [] at q3
      omega
    have HOS : Hid (∀ i, i ≤ 1 → ∀ os oc, StF BK0 BK1 i os oc → os.size ≤ 12000 ∧ oc ≤ 96000) := by
      intro i hi os oc h
      rcases (show i = 0 ∨ i = 1 by omega) with rfl | rfl
      · obtain ⟨rfl, rfl⟩ : os = ⟨#[]⟩ ∧ oc = 0 := h
        exact ⟨by decide, by omega⟩
      · have h' : BK0 ⟨#[]⟩ 0 = some (os, oc) := h
        have := hout1 os oc h'
        exact ⟨this.2.2, by omega⟩
    have HNX0 : Hid (∀ os oc, StF BK0 BK1 0 os oc → (BK0 os oc = none → decide ((2600 : Int) < ((strOfNums A).size : Int)) = true) ∧ ∀ s9 c9, BK0 os oc = some (s9, c9) → StF BK0 BK1 1 s9 c9) := by
      intro os oc h
      obtain ⟨rfl, rfl⟩ : os = ⟨#[]⟩ ∧ oc = 0 := h
      refine ⟨fun h => ?_, fun s9 c9 h => h⟩
      rw [u0] at h
      have := blk_none (c := 0) hk1 empty_ok (by omega) hRA h40A h
      exact decide_eq_true (by omega)
    have HNX1 : Hid (∀ os oc, StF BK0 BK1 1 os oc → (BK1 os oc = none → decide ((2600 : Int) < ((strOfNums M).size : Int)) = true) ∧ ∀ s9 c9, BK1 os oc = some (s9, c9) → StF BK0 BK1 2 s9 c9) := by
      intro os oc h
      have h' : BK0 ⟨#[]⟩ 0 = some (os, oc) := h
      have ho := hout1 os oc h'
      refine ⟨fun h => ?_, fun s9 c9 h => ⟨(os, oc), h', h⟩⟩
      rw [u1] at h
      have := blk_none hk2 ho.1 (by omega) hRB h40B h
      exact decide_eq_true (by omega)
    have HS0 : Hid (k1 = 0 → ∀ (W : World) os oc, os.size ≤ 12000 ∧ oc ≤ 96000 → Calls Tryz.prog 10 #[.agg #[.string os, .int .i64 ((oc : Nat) : Int)], .string (strOfNums A), .bool false] W fun e w' => e = .returned (.tuple #[.agg #[.string (blkS (BK0 os oc)), .int .i64 (blkN (BK0 os oc))], .bool (blkB (BK0 os oc))]) ∧ Below W.heap.size W w') := by
      rintro rfl W os oc hoc
      rw [← blkAns_parts, u0]
      exact HA.out.1 os oc (strOfNums A) false W (by omega) (by omega) (by omega) (by rw [strOfNums_size]; rw [List.length_append] at hAM; omega)
    have HF0 : Hid (k1 = 1 → ∀ (W : World) os oc, os.size ≤ 12000 ∧ oc ≤ 96000 → TCame W (some ⟨g, 0, none⟩) (L.take m).length (fun j => (L.take m).getD j (0, 0, 0)) → Calls Tryz.prog 11 #[.agg #[.string os, .int .i64 ((oc : Nat) : Int)], .slice (some ⟨g, 0, none⟩) m cp, .bool false] W fun e w' => e = .returned (.tuple #[.agg #[.string (blkS (BK0 os oc)), .int .i64 (blkN (BK0 os oc))], .bool (blkB (BK0 os oc))]) ∧ Below W.heap.size W w') := by
      rintro rfl W os oc hoc hC
      rw [← blkAns_parts, u0]
      have h := HA.out.2.1 os oc (some ⟨g, 0, none⟩) cp (L.take m) false W (by omega) (by omega) (by omega) hC (by omega)
      rw [el1] at h
      exact h
    have HW0 : Hid (k1 = 2 → ∀ (W : World) os oc, os.size ≤ 12000 ∧ oc ≤ 96000 → TCame W (some ⟨g, 0, none⟩) (L.take m).length (fun j => (L.take m).getD j (0, 0, 0)) → OrderG W → Calls Tryz.prog 12 #[.agg #[.string os, .int .i64 ((oc : Nat) : Int)], .slice (some ⟨g, 0, none⟩) m cp, .bool false] W fun e w' => e = .returned (.tuple #[.agg #[.string (blkS (BK0 os oc)), .int .i64 (blkN (BK0 os oc))], .bool (blkB (BK0 os oc))]) ∧ Below W.heap.size W w') := by
      rintro rfl W os oc hoc hC hGW
      rw [← blkAns_parts, u0]
      have h := HA.out.2.2 os oc (some ⟨g, 0, none⟩) cp (L.take m) false W (by omega) (by omega) (by omega) hC (by omega) hGW
      rw [el1] at h
      exact h
    have HS1 : Hid (k2 = 0 → ∀ (W : World) os oc, os.size ≤ 12000 ∧ oc ≤ 96000 → Calls Tryz.prog 10 #[.agg #[.string os, .int .i64 ((oc : Nat) : Int)], .string (strOfNums M), .bool true] W fun e w' => e = .returned (.tuple #[.agg #[.string (blkS (BK1 os oc)), .int .i64 (blkN (BK1 os oc))], .bool (blkB (BK1 os oc))]) ∧ Below W.heap.size W w') := by
      rintro rfl W os oc hoc
      rw [← blkAns_parts, u1]
      exact HA.out.1 os oc (strOfNums M) true W (by omega) (by omega) (by omega) (by rw [strOfNums_size]; rw [List.length_append] at hAM; omega)
    have HF1 : Hid (k2 = 1 → ∀ (W : World) os oc, os.size ≤ 12000 ∧ oc ≤ 96000 → TCame W (some ⟨g, 0, none⟩) (L.drop m).length (fun j => (L.drop m).getD j (0, 0, 0)) → Calls Tryz.prog 11 #[.agg #[.string os, .int .i64 ((oc : Nat) : Int)], .slice (some ⟨g, 0, none⟩) (k - m) (cp - m), .bool true] W fun e w' => e = .returned (.tuple #[.agg #[.string (blkS (BK1 os oc)), .int .i64 (blkN (BK1 os oc))], .bool (blkB (BK1 os oc))]) ∧ Below W.heap.size W w') := by
      rintro rfl W os oc hoc hC
      rw [← blkAns_parts, u1]
      have h := HA.out.2.1 os oc (some ⟨g, 0, none⟩) (cp - m) (L.drop m) true W (by omega) (by omega) (by omega) hC (by omega)
      rw [el2] at h
      exact h
    have HW1 : Hid (k2 = 2 → ∀ (W : World) os oc, os.size ≤ 12000 ∧ oc ≤ 96000 → TCame W (some ⟨g, 0, none⟩) (L.drop m).length (fun j => (L.drop m).getD j (0, 0, 0)) → OrderG W → Calls Tryz.prog 12 #[.agg #[.string os, .int .i64 ((oc : Nat) : Int)], .slice (some ⟨g, 0, none⟩) (k - m) (cp - m), .bool true] W fun e w' => e = .returned (.tuple #[.agg #[.string (blkS (BK1 os oc)), .int .i64 (blkN (BK1 os oc))], .bool (blkB (BK1 os oc))]) ∧ Below W.heap.size W w') := by
      rintro rfl W os oc hoc hC hGW
      rw [← blkAns_parts, u1]
      have h := HA.out.2.2 os oc (some ⟨g, 0, none⟩) (cp - m) (L.drop m) true W (by omega) (by omega) (by omega) hC (by omega) hGW
      rw [el2] at h
      exact h
    have HAS : Hid (strOfNums A ++ strOfNums M = strOfNums (A ++ M)) := str_app8 A M
    have hsA : (strOfNums A).size ≤ 12000 := by rw [strOfNums_size]; exact hA12
    have hsM : (strOfNums M).size ≤ 12000 := by rw [strOfNums_size]; rw [List.length_append] at hAM; omega
    clear hBK0 hBK1 u0 u1 hout1 hE2 hA hM hAM hyA hyF hyM hRL hRA hRB hFM HA el1 el2 h40A h40B
    go_wp2_with fail
    refine (HC1.out w2 HT2.out).mono ?_
    rintro e w3 ⟨rfl, hB3⟩
    have HB3 := hid_of (bnext HB2.out hB3)
    have HT3 := hid_of (HT2.out.called hB3)
    have d0 : w3.cell? ⟨gp, 1, none⟩ = some (.int .i64 z1) := (hB3.cell (p := ⟨gp, 1, none⟩) hgl).trans c1
    have d2' : w3.cell? ⟨gp, 2, none⟩ = some (.int .i64 z2) := (hB3.cell (p := ⟨gp, 2, none⟩) hgl).trans c2
    have dgl : gp < w3.heap.size := Nat.lt_of_lt_of_le hgl hB3.size
    clear hB3 HB2 HT2 HC1 c0 c1 c2 hgl em
    go_wp2_with fail
    refine (HC2.out w3 HT3.out).mono ?_
    rintro e w4 ⟨rfl, hB4⟩
    have HB4 := hid_of (bnext HB3.out hB4)
    have HT4 := hid_of (HT3.out.called hB4)
    have HG4 := hid_of (HG.out.below HB4.out HG.out.1)
    have f1 : w4.cell? ⟨gp, 1, none⟩ = some (.int .i64 z1) := (hB4.cell (p := ⟨gp, 1, none⟩) dgl).trans d0
    have f2 : w4.cell? ⟨gp, 2, none⟩ = some (.int .i64 z2) := (hB4.cell (p := ⟨gp, 2, none⟩) dgl).trans d2'
    have fl : gp < w4.heap.size := Nat.lt_of_lt_of_le dgl hB4.size
    clear hB4 HB3 HT3 HC2 HG d0 d2' dgl
    generalize strOfNums A = SA at *
    generalize strOfNums M = SB at *
    have H0 : Hid (FbS w4 ((w4.alloc (.cells #[.string ⟨#[]⟩, .int .i64 0] 31)).alloc (.cells #[.int .i64 (k1 : Int), .int .i64 (k2 : Int)] 3)) k1 k2 ⟨#[]⟩ 0 ∧ StF BK0 BK1 0 ⟨#[]⟩ 0) := ⟨⟨bal (bstart _ _) _, ((bstart _ _).block _ (by simp)).trans (heap_alloc_new w4 _), by
      have h := heap_alloc_new (w4.alloc (.cells #[.string ⟨#[]⟩, .int .i64 0] 31)) (.cells #[.int .i64 (k1 : Int), .int .i64 (k2 : Int)] 3)
      rw [show (w4.alloc (.cells #[.string ⟨#[]⟩, .int .i64 0] 31)).heap.size = w4.heap.size + 1 by simp] at h
      exact h⟩, rfl, rfl⟩
    go_wp2_with fail
    go_region
    go_wp2_with fail
    have H00 : Hid (FbS w4 (((w4.alloc (.cells #[.string ⟨#[]⟩, .int .i64 0] 31)).alloc (.cells #[.int .i64 (k1 : Int), .int .i64 (k2 : Int)] 3)).drew) k1 k2 ⟨#[]⟩ 0 ∧ StF BK0 BK1 0 ⟨#[]⟩ 0) := ⟨⟨H0.out.1.1.drew, H0.out.1.2.1, H0.out.1.2.2⟩, H0.out.2⟩
    clear H0 e1 e2 f1 f2 fl
    generalize ((w4.alloc _).alloc _).drew = X0 at H00 ⊢
    go_loopg [12] 3 (fun gk iv w' => ∃ i : Nat, i ≤ 2 ∧ 2 - i ≤ gk ∧ iv = .int .i64 i ∧ ∃ os oc, Hid (FbS w4 w' k1 k2 os oc ∧ StF BK0 BK1 i os oc))
    case atStart => exact ⟨0, by omega, by omega, rfl, ⟨#[]⟩, 0, H00.out⟩
    case round =>
      clear H00
      obtain ⟨i, hi, hgk, rfl, os, oc, hS⟩ := hrel
      rcases (show i = 0 ∨ i = 1 ∨ i = 2 by omega) with rfl | rfl | rfl
      · rcases (show k1 = 0 ∨ k1 = 1 ∨ k1 = 2 by omega) with rfl | rfl | rfl
        · obtain ⟨x0, x1, xl⟩ : wr.cell? ⟨w4.heap.size, 0, none⟩ = some (.string os) ∧ wr.cell? ⟨w4.heap.size, 1, none⟩ = some (.int .i64 (oc : Int)) ∧ w4.heap.size < wr.heap.size := ⟨(cell_of_block hS.out.1.2.1 0).trans rfl, (cell_of_block hS.out.1.2.1 1).trans rfl, block_lt hS.out.1.2.1⟩
          have kc : wr.cell? ⟨w4.heap.size + 1, 0, none⟩ = some (.int .i64 0) := (cell_of_block hS.out.1.2.2 0).trans rfl
          have kl := block_lt hS.out.1.2.2
          have hrb : w4.heap.size + 2 ≤ wr.heap.size := kl
          have hoS := HOS.out 0 (by omega) os oc hS.out.2
          have HSO := hid_of (HNX0.out os oc hS.out.2)
          go_wp2_with fail
          refine (HS0.out (by first | exact rfl | exact trivial) _ os oc hoS).mono ?_
          rintro e w6 ⟨rfl, b6⟩
          have HX6 := hid_of ((hS.out.1.called (bstart _ _)).called b6)
          have hrx : w6.heap[wr.heap.size]? = some (.cells #[.string ⟨#[]⟩, .int .i64 0] 31 (0, 0)) := (b6.block _ (by simp)).trans (heap_alloc_new wr _)
          clear b6 x0 x1 xl kc kl hS hoS
          generalize wr.heap.size = rb at *
          have r0 : w6.cell? ⟨rb, 0, none⟩ = some (.string ⟨#[]⟩) := (cell_of_block hrx 0).trans rfl
          have r1 : w6.cell? ⟨rb, 1, none⟩ = some (.int .i64 0) := (cell_of_block hrx 1).trans rfl
          have rf : ∀ q, w6.frozen? ⟨rb, q, none⟩ = false := fun q => by simp [World.frozen?, hrx]
          have rl := block_lt hrx
          have hb := HX6.out.2.1
          have y0 : w6.cell? ⟨w4.heap.size, 0, none⟩ = some (.string os) := (cell_of_block hb 0).trans rfl
          have y1 : w6.cell? ⟨w4.heap.size, 1, none⟩ = some (.int .i64 (oc : Int)) := (cell_of_block hb 1).trans rfl
          have yf : ∀ q, w6.frozen? ⟨w4.heap.size, q, none⟩ = false := fun q => by simp [World.frozen?, hb]
          have yl := block_lt hb
          have hne : rb ≠ w4.heap.size := by omega
          have hne2 : w4.heap.size ≠ rb := by omega
          clear hrx hb
          generalize BK0 os oc = nn at HSO ⊢
          cases nn with
          | none =>
            simp only [blkB, blkS, blkN]
            have dt := HSO.out.1 rfl
            have HBB := hid_of (bnext HB4.out HX6.out.1)
            clear HSO HX6
            go_wp2_with fail
            go_ret
            exact ⟨rfl, two_below HBB.out (by have := HB4.out.size; omega) _ _⟩
          | some oo =>
            obtain ⟨s9, c9⟩ := oo
            simp only [blkB, blkS, blkN]
            have HN := hid_of (HX6.out.put hrb (.string s9) (.int .i64 (c9 : Int)) s9 c9)
            have HO1 := hid_of (HSO.out.2 s9 c9 rfl)
            clear HSO HX6
            go_wp2_with fail
            go_roundg (2 - (0 + 1))
            case measure => omega
            case rel => exact ⟨1, by omega, Nat.le_refl _, by go_num, s9, c9, HN.out, HO1.out⟩
        · obtain ⟨x0, x1, xl⟩ : wr.cell? ⟨w4.heap.size, 0, none⟩ = some (.string os) ∧ wr.cell? ⟨w4.heap.size, 1, none⟩ = some (.int .i64 (oc : Int)) ∧ w4.heap.size < wr.heap.size := ⟨(cell_of_block hS.out.1.2.1 0).trans rfl, (cell_of_block hS.out.1.2.1 1).trans rfl, block_lt hS.out.1.2.1⟩
          have kc : wr.cell? ⟨w4.heap.size + 1, 0, none⟩ = some (.int .i64 1) := (cell_of_block hS.out.1.2.2 0).trans rfl
          have kl := block_lt hS.out.1.2.2
          have hrb : w4.heap.size + 2 ≤ wr.heap.size := kl
          have hoS := HOS.out 0 (by omega) os oc hS.out.2
          have HSO := hid_of (HNX0.out os oc hS.out.2)
          go_wp2_with fail
          refine (HF0.out (by first | exact rfl | exact trivial) _ os oc hoS (HLT.out.1 _ ((HT4.out.called hS.out.1.1).called (bstart _ _)))).mono ?_
          rintro e w6 ⟨rfl, b6⟩
          have HX6 := hid_of ((hS.out.1.called (bstart _ _)).called b6)
          have hrx : w6.heap[wr.heap.size]? = some (.cells #[.string ⟨#[]⟩, .int .i64 0] 31 (0, 0)) := (b6.block _ (by simp)).trans (heap_alloc_new wr _)
          clear b6 x0 x1 xl kc kl hS hoS
          generalize wr.heap.size = rb at *
          have r0 : w6.cell? ⟨rb, 0, none⟩ = some (.string ⟨#[]⟩) := (cell_of_block hrx 0).trans rfl
          have r1 : w6.cell? ⟨rb, 1, none⟩ = some (.int .i64 0) := (cell_of_block hrx 1).trans rfl
          have rf : ∀ q, w6.frozen? ⟨rb, q, none⟩ = false := fun q => by simp [World.frozen?, hrx]
          have rl := block_lt hrx
          have hb := HX6.out.2.1
          have y0 : w6.cell? ⟨w4.heap.size, 0, none⟩ = some (.string os) := (cell_of_block hb 0).trans rfl
          have y1 : w6.cell? ⟨w4.heap.size, 1, none⟩ = some (.int .i64 (oc : Int)) := (cell_of_block hb 1).trans rfl
          have yf : ∀ q, w6.frozen? ⟨w4.heap.size, q, none⟩ = false := fun q => by simp [World.frozen?, hb]
          have yl := block_lt hb
          have hne : rb ≠ w4.heap.size := by omega
          have hne2 : w4.heap.size ≠ rb := by omega
          clear hrx hb
          generalize BK0 os oc = nn at HSO ⊢
          cases nn with
          | none =>
            simp only [blkB, blkS, blkN]
            have dt := HSO.out.1 rfl
            have HBB := hid_of (bnext HB4.out HX6.out.1)
            clear HSO HX6
            go_wp2_with fail
            go_ret
            exact ⟨rfl, two_below HBB.out (by have := HB4.out.size; omega) _ _⟩
          | some oo =>
            obtain ⟨s9, c9⟩ := oo
            simp only [blkB, blkS, blkN]
            have HN := hid_of (HX6.out.put hrb (.string s9) (.int .i64 (c9 : Int)) s9 c9)
            have HO1 := hid_of (HSO.out.2 s9 c9 rfl)
            clear HSO HX6
            go_wp2_with fail
            go_roundg (2 - (0 + 1))
            case measure => omega
            case rel => exact ⟨1, by omega, Nat.le_refl _, by go_num, s9, c9, HN.out, HO1.out⟩
        · obtain ⟨x0, x1, xl⟩ : wr.cell? ⟨w4.heap.size, 0, none⟩ = some (.string os) ∧ wr.cell? ⟨w4.heap.size, 1, none⟩ = some (.int .i64 (oc : Int)) ∧ w4.heap.size < wr.heap.size := ⟨(cell_of_block hS.out.1.2.1 0).trans rfl, (cell_of_block hS.out.1.2.1 1).trans rfl, block_lt hS.out.1.2.1⟩
          have kc : wr.cell? ⟨w4.heap.size + 1, 0, none⟩ = some (.int .i64 2) := (cell_of_block hS.out.1.2.2 0).trans rfl
          have kl := block_lt hS.out.1.2.2
          have hrb : w4.heap.size + 2 ≤ wr.heap.size := kl
          have hoS := HOS.out 0 (by omega) os oc hS.out.2
          have HSO := hid_of (HNX0.out os oc hS.out.2)
          go_wp2_with fail
          refine (HW0.out (by first | exact rfl | exact trivial) _ os oc hoS (HLT.out.1 _ ((HT4.out.called hS.out.1.1).called (bstart _ _))) (HG4.out.below (bnext hS.out.1.1 (bstart _ _)) HG4.out.1)).mono ?_
          rintro e w6 ⟨rfl, b6⟩
          have HX6 := hid_of ((hS.out.1.called (bstart _ _)).called b6)
          have hrx : w6.heap[wr.heap.size]? = some (.cells #[.string ⟨#[]⟩, .int .i64 0] 31 (0, 0)) := (b6.block _ (by simp)).trans (heap_alloc_new wr _)
          clear b6 x0 x1 xl kc kl hS hoS
          generalize wr.heap.size = rb at *
          have r0 : w6.cell? ⟨rb, 0, none⟩ = some (.string ⟨#[]⟩) := (cell_of_block hrx 0).trans rfl
          have r1 : w6.cell? ⟨rb, 1, none⟩ = some (.int .i64 0) := (cell_of_block hrx 1).trans rfl
          have rf : ∀ q, w6.frozen? ⟨rb, q, none⟩ = false := fun q => by simp [World.frozen?, hrx]
          have rl := block_lt hrx
          have hb := HX6.out.2.1
          have y0 : w6.cell? ⟨w4.heap.size, 0, none⟩ = some (.string os) := (cell_of_block hb 0).trans rfl
          have y1 : w6.cell? ⟨w4.heap.size, 1, none⟩ = some (.int .i64 (oc : Int)) := (cell_of_block hb 1).trans rfl
          have yf : ∀ q, w6.frozen? ⟨w4.heap.size, q, none⟩ = false := fun q => by simp [World.frozen?, hb]
          have yl := block_lt hb
          have hne : rb ≠ w4.heap.size := by omega
          have hne2 : w4.heap.size ≠ rb := by omega
          clear hrx hb
          generalize BK0 os oc = nn at HSO ⊢
          cases nn with
          | none =>
            simp only [blkB, blkS, blkN]
            have dt := HSO.out.1 rfl
            have HBB := hid_of (bnext HB4.out HX6.out.1)
            clear HSO HX6
            go_wp2_with fail
            go_ret
            exact ⟨rfl, two_below HBB.out (by have := HB4.out.size; omega) _ _⟩
          | some oo =>
            obtain ⟨s9, c9⟩ := oo
            simp only [blkB, blkS, blkN]
            have HN := hid_of (HX6.out.put hrb (.string s9) (.int .i64 (c9 : Int)) s9 c9)
            have HO1 := hid_of (HSO.out.2 s9 c9 rfl)
            clear HSO HX6
            go_wp2_with fail
            go_roundg (2 - (0 + 1))
            case measure => omega
            case rel => exact ⟨1, by omega, Nat.le_refl _, by go_num, s9, c9, HN.out, HO1.out⟩
      · rcases (show k2 = 0 ∨ k2 = 1 ∨ k2 = 2 by omega) with rfl | rfl | rfl
        · obtain ⟨x0, x1, xl⟩ : wr.cell? ⟨w4.heap.size, 0, none⟩ = some (.string os) ∧ wr.cell? ⟨w4.heap.size, 1, none⟩ = some (.int .i64 (oc : Int)) ∧ w4.heap.size < wr.heap.size := ⟨(cell_of_block hS.out.1.2.1 0).trans rfl, (cell_of_block hS.out.1.2.1 1).trans rfl, block_lt hS.out.1.2.1⟩
          have kc : wr.cell? ⟨w4.heap.size + 1, 1, none⟩ = some (.int .i64 0) := (cell_of_block hS.out.1.2.2 1).trans rfl
          have kl := block_lt hS.out.1.2.2
          have hrb : w4.heap.size + 2 ≤ wr.heap.size := kl
          have hoS := HOS.out 1 (by omega) os oc hS.out.2
          have HSO := hid_of (HNX1.out os oc hS.out.2)
          go_wp2_with fail
          refine (HS1.out (by first | exact rfl | exact trivial) _ os oc hoS).mono ?_
          rintro e w6 ⟨rfl, b6⟩
          have HX6 := hid_of ((hS.out.1.called (bstart _ _)).called b6)
          have hrx : w6.heap[wr.heap.size]? = some (.cells #[.string ⟨#[]⟩, .int .i64 0] 31 (0, 0)) := (b6.block _ (by simp)).trans (heap_alloc_new wr _)
          clear b6 x0 x1 xl kc kl hS hoS
          generalize wr.heap.size = rb at *
          have r0 : w6.cell? ⟨rb, 0, none⟩ = some (.string ⟨#[]⟩) := (cell_of_block hrx 0).trans rfl
          have r1 : w6.cell? ⟨rb, 1, none⟩ = some (.int .i64 0) := (cell_of_block hrx 1).trans rfl
          have rf : ∀ q, w6.frozen? ⟨rb, q, none⟩ = false := fun q => by simp [World.frozen?, hrx]
          have rl := block_lt hrx
          have hb := HX6.out.2.1
          have y0 : w6.cell? ⟨w4.heap.size, 0, none⟩ = some (.string os) := (cell_of_block hb 0).trans rfl
          have y1 : w6.cell? ⟨w4.heap.size, 1, none⟩ = some (.int .i64 (oc : Int)) := (cell_of_block hb 1).trans rfl
          have yf : ∀ q, w6.frozen? ⟨w4.heap.size, q, none⟩ = false := fun q => by simp [World.frozen?, hb]
          have yl := block_lt hb
          have hne : rb ≠ w4.heap.size := by omega
          have hne2 : w4.heap.size ≠ rb := by omega
          clear hrx hb
          generalize BK1 os oc = nn at HSO ⊢
          cases nn with
          | none =>
            simp only [blkB, blkS, blkN]
            have dt := HSO.out.1 rfl
            have HBB := hid_of (bnext HB4.out HX6.out.1)
            clear HSO HX6
            go_wp2_with fail
            go_ret
            exact ⟨rfl, two_below HBB.out (by have := HB4.out.size; omega) _ _⟩
          | some oo =>
            obtain ⟨s9, c9⟩ := oo
            simp only [blkB, blkS, blkN]
            have HN := hid_of (HX6.out.put hrb (.string s9) (.int .i64 (c9 : Int)) s9 c9)
            have HO1 := hid_of (HSO.out.2 s9 c9 rfl)
            clear HSO HX6
            go_wp2_with fail
            go_roundg (2 - (1 + 1))
            case measure => omega
            case rel => exact ⟨2, by omega, Nat.le_refl _, by go_num, s9, c9, HN.out, HO1.out⟩
        · obtain ⟨x0, x1, xl⟩ : wr.cell? ⟨w4.heap.size, 0, none⟩ = some (.string os) ∧ wr.cell? ⟨w4.heap.size, 1, none⟩ = some (.int .i64 (oc : Int)) ∧ w4.heap.size < wr.heap.size := ⟨(cell_of_block hS.out.1.2.1 0).trans rfl, (cell_of_block hS.out.1.2.1 1).trans rfl, block_lt hS.out.1.2.1⟩
          have kc : wr.cell? ⟨w4.heap.size + 1, 1, none⟩ = some (.int .i64 1) := (cell_of_block hS.out.1.2.2 1).trans rfl
          have kl := block_lt hS.out.1.2.2
          have hrb : w4.heap.size + 2 ≤ wr.heap.size := kl
          have hoS := HOS.out 1 (by omega) os oc hS.out.2
          have HSO := hid_of (HNX1.out os oc hS.out.2)
          go_wp2_with fail
          refine (HF1.out (by first | exact rfl | exact trivial) _ os oc hoS (HLT.out.2 _ ((HT4.out.called hS.out.1.1).called (bstart _ _)))).mono ?_
          rintro e w6 ⟨rfl, b6⟩
          have HX6 := hid_of ((hS.out.1.called (bstart _ _)).called b6)
          have hrx : w6.heap[wr.heap.size]? = some (.cells #[.string ⟨#[]⟩, .int .i64 0] 31 (0, 0)) := (b6.block _ (by simp)).trans (heap_alloc_new wr _)
          clear b6 x0 x1 xl kc kl hS hoS
          generalize wr.heap.size = rb at *
          have r0 : w6.cell? ⟨rb, 0, none⟩ = some (.string ⟨#[]⟩) := (cell_of_block hrx 0).trans rfl
          have r1 : w6.cell? ⟨rb, 1, none⟩ = some (.int .i64 0) := (cell_of_block hrx 1).trans rfl
          have rf : ∀ q, w6.frozen? ⟨rb, q, none⟩ = false := fun q => by simp [World.frozen?, hrx]
          have rl := block_lt hrx
          have hb := HX6.out.2.1
          have y0 : w6.cell? ⟨w4.heap.size, 0, none⟩ = some (.string os) := (cell_of_block hb 0).trans rfl
          have y1 : w6.cell? ⟨w4.heap.size, 1, none⟩ = some (.int .i64 (oc : Int)) := (cell_of_block hb 1).trans rfl
          have yf : ∀ q, w6.frozen? ⟨w4.heap.size, q, none⟩ = false := fun q => by simp [World.frozen?, hb]
          have yl := block_lt hb
          have hne : rb ≠ w4.heap.size := by omega
          have hne2 : w4.heap.size ≠ rb := by omega
          clear hrx hb
          generalize BK1 os oc = nn at HSO ⊢
          cases nn with
          | none =>
            simp only [blkB, blkS, blkN]
            have dt := HSO.out.1 rfl
            have HBB := hid_of (bnext HB4.out HX6.out.1)
            clear HSO HX6
            go_wp2_with fail
            go_ret
            exact ⟨rfl, two_below HBB.out (by have := HB4.out.size; omega) _ _⟩
          | some oo =>
            obtain ⟨s9, c9⟩ := oo
            simp only [blkB, blkS, blkN]
            have HN := hid_of (HX6.out.put hrb (.string s9) (.int .i64 (c9 : Int)) s9 c9)
            have HO1 := hid_of (HSO.out.2 s9 c9 rfl)
            clear HSO HX6
            go_wp2_with fail
            go_roundg (2 - (1 + 1))
            case measure => omega
            case rel => exact ⟨2, by omega, Nat.le_refl _, by go_num, s9, c9, HN.out, HO1.out⟩
        · obtain ⟨x0, x1, xl⟩ : wr.cell? ⟨w4.heap.size, 0, none⟩ = some (.string os) ∧ wr.cell? ⟨w4.heap.size, 1, none⟩ = some (.int .i64 (oc : Int)) ∧ w4.heap.size < wr.heap.size := ⟨(cell_of_block hS.out.1.2.1 0).trans rfl, (cell_of_block hS.out.1.2.1 1).trans rfl, block_lt hS.out.1.2.1⟩
          have kc : wr.cell? ⟨w4.heap.size + 1, 1, none⟩ = some (.int .i64 2) := (cell_of_block hS.out.1.2.2 1).trans rfl
          have kl := block_lt hS.out.1.2.2
          have hrb : w4.heap.size + 2 ≤ wr.heap.size := kl
          have hoS := HOS.out 1 (by omega) os oc hS.out.2
          have HSO := hid_of (HNX1.out os oc hS.out.2)
          go_wp2_with fail
          refine (HW1.out (by first | exact rfl | exact trivial) _ os oc hoS (HLT.out.2 _ ((HT4.out.called hS.out.1.1).called (bstart _ _))) (HG4.out.below (bnext hS.out.1.1 (bstart _ _)) HG4.out.1)).mono ?_
          rintro e w6 ⟨rfl, b6⟩
          have HX6 := hid_of ((hS.out.1.called (bstart _ _)).called b6)
          have hrx : w6.heap[wr.heap.size]? = some (.cells #[.string ⟨#[]⟩, .int .i64 0] 31 (0, 0)) := (b6.block _ (by simp)).trans (heap_alloc_new wr _)
          clear b6 x0 x1 xl kc kl hS hoS
          generalize wr.heap.size = rb at *
          have r0 : w6.cell? ⟨rb, 0, none⟩ = some (.string ⟨#[]⟩) := (cell_of_block hrx 0).trans rfl
          have r1 : w6.cell? ⟨rb, 1, none⟩ = some (.int .i64 0) := (cell_of_block hrx 1).trans rfl
          have rf : ∀ q, w6.frozen? ⟨rb, q, none⟩ = false := fun q => by simp [World.frozen?, hrx]
          have rl := block_lt hrx
          have hb := HX6.out.2.1
          have y0 : w6.cell? ⟨w4.heap.size, 0, none⟩ = some (.string os) := (cell_of_block hb 0).trans rfl
          have y1 : w6.cell? ⟨w4.heap.size, 1, none⟩ = some (.int .i64 (oc : Int)) := (cell_of_block hb 1).trans rfl
          have yf : ∀ q, w6.frozen? ⟨w4.heap.size, q, none⟩ = false := fun q => by simp [World.frozen?, hb]
          have yl := block_lt hb
          have hne : rb ≠ w4.heap.size := by omega
          have hne2 : w4.heap.size ≠ rb := by omega
          clear hrx hb
          generalize BK1 os oc = nn at HSO ⊢
          cases nn with
          | none =>
            simp only [blkB, blkS, blkN]
            have dt := HSO.out.1 rfl
            have HBB := hid_of (bnext HB4.out HX6.out.1)
            clear HSO HX6
            go_wp2_with fail
            go_ret
            exact ⟨rfl, two_below HBB.out (by have := HB4.out.size; omega) _ _⟩
          | some oo =>
            obtain ⟨s9, c9⟩ := oo
            simp only [blkB, blkS, blkN]
            have HN := hid_of (HX6.out.put hrb (.string s9) (.int .i64 (c9 : Int)) s9 c9)
            have HO1 := hid_of (HSO.out.2 s9 c9 rfl)
            clear HSO HX6
            go_wp2_with fail
            go_roundg (2 - (1 + 1))
            case measure => omega
            case rel => exact ⟨2, by omega, Nat.le_refl _, by go_num, s9, c9, HN.out, HO1.out⟩
      · obtain ⟨p, h1, h2, h3, h4, h5⟩ := HEND.out os oc hS.out.2
        have x0 : wr.cell? ⟨w4.heap.size, 0, none⟩ = some (.string os) := (cell_of_block hS.out.1.2.1 0).trans rfl
        have xl := block_lt hS.out.1.2.1
        have hin := fun (W : World) hG => implInflate_ok os 12000 (A ++ M) p [(k1 : Int), (k2 : Int)] W h1 hG h3
        rw [h4] at hin
        have HIN := hid_of hin
        have HTY := hid_of (fun (W : World) hG => implTypes_ok os 12000 (A ++ M) p [(k1 : Int), (k2 : Int)] W h1 hG h3)
        have hAS := HAS.out
        clear hin h3 h4 h5 h2 HS0 HF0 HW0 HS1 HF1 HW1 HNX0 HNX1 HOS HEND HAS HLT HR
        generalize strOfNums (A ++ M) = SF at *
        go_wp2_with fail
        refine (HIN.out wr (HG4.out.below hS.out.1.1 HG4.out.1)).mono ?_
        rintro e w7 ⟨rfl, b7⟩
        have HX7 := hid_of (hS.out.1.called b7)
        have x7 : w7.cell? ⟨w4.heap.size, 0, none⟩ = some (.string os) := (cell_of_block HX7.out.2.1 0).trans rfl
        have xl7 := block_lt HX7.out.2.1
        clear b7 x0 xl hS HIN
        go_wp2_with fail
        refine (HTY.out w7 (HG4.out.below HX7.out.1 HG4.out.1)).mono ?_
        rintro e w8 ⟨ta, tc, rfl, hN, b8⟩
        have HX8 := hid_of (HX7.out.called b8)
        have x8 : w8.cell? ⟨w4.heap.size, 0, none⟩ = some (.string os) := (cell_of_block HX8.out.2.1 0).trans rfl
        have xl8 := block_lt HX8.out.2.1
        have HC8 : Hid (Came w8 ta 2 (fun j => [(k1 : Int), (k2 : Int)].getD j 0) ∧ Came w8 (some ⟨w4.heap.size + 1, 0, none⟩) 2 (fun j => [(k1 : Int), (k2 : Int)].getD j 0)) := by
          constructor
          · obtain ⟨a', c', hv, _, _, hc, _⟩ := hN.form
            cases hv
            exact hc
          · refine .inr ⟨w4.heap.size + 1, 0, rfl, block_lt HX8.out.2.2, fun j hj => ?_⟩
            rcases (show j = 0 ∨ j = 1 by omega) with rfl | rfl
            · exact (cell_of_block HX8.out.2.2 0).trans rfl
            · exact (cell_of_block HX8.out.2.2 1).trans rfl
        clear b8 x7 xl7 HX7 HTY hN
        simp only [List.length_cons, List.length_nil, Nat.zero_add, Nat.reduceAdd]
        go_wp2_with fail
        refine (sameInts_same ta (some ⟨w4.heap.size + 1, 0, none⟩) 2 tc 2 _ w8 HC8.out.1 HC8.out.2 (by omega)).mono ?_
        rintro e w9 ⟨rfl, b9⟩
        have HB9 := hid_of (bnext HB4.out (bnext HX8.out.1 b9))
        clear b9 HX8 HC8
        go_wp2_with fail
        go_ret
        exact ⟨rfl, HB9.out⟩
theorem FnBlocks_over (hSt : StoredAnswer) (hFi : FixedAnswer) (hWv : WovenAnswer) (a : Option Addr) (len cap : Nat) (zs : List Int) (w : World) (hr : IsRow .u8 w a len cap zs) (hG : OrderG w) :
    Calls Tryz.prog 3 #[.slice a len cap] w fun e w' => e = .returned (.bool true) ∧ Below w.heap.size w w' := by
  obtain ⟨hC, hl, hc⟩ := codeAt_of_row hr
  unfold maxLen at hc
  by_cases h : (len : Int) ≤ 1048576
  · exact FnBlocks_at hSt hFi hWv a len cap w hC h hG
  · have d : (1048576 : Int) < len := by omega
    clear hr hC hSt hFi hWv hG
    go_enter Tryz.func3, Tryz.ntmps3
    go_wp2_with fail
    refine (big_yes a len cap _ d (by omega)).mono ?_
    rintro e w1 ⟨rfl, rfl⟩
    go_wp2_with fail
    go_ret
    exact ⟨rfl, Below.refl _ _⟩
end Go.Proofs.YtbcnlggkoidmmaaGreatDoor
