/-
  The walk of the document's model of ChunksText.
-/
import Derived.Test.YtofblofmejgipaaRows
import Derived.Test.YtofblofmejgipaaBase
import Derived.Test.YtofblofmejgipaaOutMath
import Derived.Test.YtofblofmejgipaaCrcMath
import Derived.Test.YtofblofmejgipaaBigTextMath
import Derived.Test.YtofblofmejgipaaBigTextWalks
import Derived.Test.YtofblofmejgipaaCrcSpec
import Derived.Test.YtofblofmejgipaaCrcLaw
import Derived.Test.YtofblofmejgipaaChunkMath
import Derived.Test.YtofblofmejgipaaChunkFile
import Derived.Test.YtofblofmejgipaaOwnLib
import Derived.Test.YtofblofmejgipaaOwnApp
import Derived.Test.YtofblofmejgipaaByteDef
import Derived.Test.YtofblofmejgipaaByteLib
import Derived.Test.YtofblofmejgipaaChkLib
import Derived.Test.YtofblofmejgipaaChkWalks
import Derived.Test.YtofblofmejgipaaNameSpec
import Derived.Test.YtofblofmejgipaaPartLen12
import Derived.WalkKit
import Derived.ProofKit
import Derived.WalkLawsBesides
import Derived.Below
import Derived.Deep.LoopGhost
import Derived.Deep.RegionHeld3
import Derived.Lib.SmallJoins
namespace Go.Proofs.Ytofblofmejgipaa
open Go.RowKit Go.Joins OutMath ChunkMath CrcMath BigTextMath

theorem specFour16 (x : Int) (w : World) (h0 : 0 ≤ x) (h1 : x < 4294967296) :
    Calls Try.prog 32 #[.int .u32 x] w fun e w' => e = .returned (.string (big4 x)) ∧ Below w.heap.size w w' := by
  have hb := fun W => l01Big_any x 4 W h0 (by omega) (by omega)
  have k4 : ((4 : Nat) : Int) = 4 := rfl
  rw [k4] at hb
  have HE : Hid (strOfNums (low x 4) = big4 x) := rfl
  go_enter Try.func32, Try.ntmps32
  go_wp2_with fail
  refine (hb _).mono ?_
  rintro e w1 ⟨rfl, hB⟩
  rw [HE.out]
  have HB := hid_of hB
  clear hB
  go_wp2_with fail
  go_ret
  exact ⟨rfl, HB.out⟩

/-- The bytes under way. -/
def CtI (w w' : World) (g n cap : Nat) (t : ByteArray) : Prop := n = t.size ∧ BOwn w' w.heap.size g n cap (bytesOf t) ∧ Below w.heap.size w w'

theorem CtI.called {w w' w2 : World} {g n cap : Nat} {t : ByteArray} (h : CtI w w' g n cap t) (hb : Below w'.heap.size w' w2) : CtI w w2 g n cap t := ⟨h.1, h.2.1.called hb, bnext h.2.2 hb⟩
theorem specSign (w : World) : Calls Try.prog 30 #[] w fun e w' => e = .returned (.string signT) ∧ w' = w := by
  go_enter Try.func30, Try.ntmps30
  go_wp2_with fail
  go_ret
  exact ⟨rfl, rfl⟩
set_option maxRecDepth 100000 in
set_option maxHeartbeats 3200000 in
theorem specChunks (a : Option Addr) (n c : Nat) (L : List Chk) (w : World) (hn : n = L.length) (hC : KCame w a n (fun j => L.getD j noChk)) (hm : ∀ i, i < n → (L.getD i noChk).1.size ≤ 1048576 ∧ (L.getD i noChk).2.size ≤ 1048576) (hN : n ≤ 1048576) :
    Calls Try.prog 12 #[.slice a n c] w fun e w' => e = .returned (chAns L) ∧ Below w.heap.size w w' := by
  by_cases h40 : n ≤ 40
  · have d40 : decide ((n : Int) > 40) = false := decide_eq_false (by omega)
    have HC := hid_of hC
    have HM := hid_of hm
    have HNL := hid_of hn
    obtain ⟨W1, cap1, hcv, hO1, hB1⟩ := bown_of_text w signT (by rw [signT_size]; omega)
    have H0 : Hid (CtI w W1 w.heap.size 8 cap1 (preT L 0)) := ⟨rfl, hO1, hB1⟩
    rw [signT_size] at hcv
    clear hC hm hO1 hB1 hn
    go_enter Try.func12, Try.ntmps12
    go_wp2_with fail
    refine (specSign _).mono ?_
    rintro e w1 ⟨rfl, q⟩
    have q' := q.symm
    subst q'
    clear q
    generalize signT = ST at hcv ⊢
    go_wp2_with fail
    clear hcv
    go_loopg [4, 5] (n + 1) (fun gk o i w' => ∃ (j g k cap : Nat), j ≤ n ∧ n - j ≤ gk ∧ o = .slice (some ⟨g, 0, none⟩) k cap ∧ i = .int .i64 (j : Int) ∧ k ≤ 12000 ∧ Hid (CtI w w' g k cap (preT L j)) ∧ Hid (∀ i, i < j → NameR (L.getD i noChk).1))
    case atStart => exact ⟨0, _, _, _, Nat.zero_le _, by omega, rfl, rfl, by omega, H0, fun i hi => absurd hi (Nat.not_lt_zero i)⟩
    case round =>
      clear H0
      obtain ⟨j, g, k, cap, hj, hgk, rfl, rfl, hk, hI, hNm⟩ := hrel
      by_cases hlt : j < n
      · have dl : decide ((j : Int) < (n : Int)) = true := decide_eq_true (by omega)
        rcases HC.out with h0 | ⟨ga, off, rfl, hg, hc⟩
        · omega
        · have c0 : wr.cell? ⟨ga, off + j * 2, none⟩ = some (.string (L.getD j noChk).1) := (hI.out.2.2.cell (p := ⟨ga, off + j * 2, none⟩) hg).trans (hc j hlt).1
          have c1 : wr.cell? ⟨ga, off + j * 2 + 1, none⟩ = some (.string (L.getD j noChk).2) := (hI.out.2.2.cell (p := ⟨ga, off + j * 2 + 1, none⟩) hg).trans (hc j hlt).2
          have hl2 : ga < wr.heap.size := Nat.lt_of_lt_of_le hg hI.out.2.2.size
          have HSZ := hid_of (HM.out j hlt)
          clear hc
          obtain ⟨x, hx⟩ : ∃ x, x = (L.getD j noChk).1 := ⟨_, rfl⟩
          obtain ⟨y, hy⟩ : ∃ y, y = (L.getD j noChk).2 := ⟨_, rfl⟩
          rw [← hx] at c0
          rw [← hy] at c1
          have HXY := hid_of (And.intro hx hy)
          clear hx hy
          go_wp2_with fail
          have HI2 := hid_of (hI.out.called (bstart wr (.cells #[.string x, .string y] 35)))
          have q0 : (wr.alloc (.cells #[.string x, .string y] 35)).cell? ⟨wr.heap.size, 0, none⟩ = some (.string x) := (cell_of_block (heap_alloc_new wr _) 0).trans rfl
          have q1 : (wr.alloc (.cells #[.string x, .string y] 35)).cell? ⟨wr.heap.size, 1, none⟩ = some (.string y) := (cell_of_block (heap_alloc_new wr _) 1).trans rfl
          have ql : wr.heap.size < (wr.alloc (.cells #[.string x, .string y] 35)).heap.size := by simp
          have HGB := hid_of (Nat.ne_of_lt hI.out.2.1.lt)
          generalize wr.alloc (.cells #[.string x, .string y] 35) = W2 at HI2 q0 q1 ql ⊢
          generalize wr.heap.size = bx at *
          clear c0 c1 hI hl2
          by_cases hnm : NameR x
          · have HNX := hid_of hnm
            have hx4 := hnm.1
            clear hnm
            refine (specName_yes x _ HNX.out).mono ?_
            rintro e w1 ⟨rfl, q⟩
            have q' := q.symm
            subst q'
            clear q
            have hy20 := HSZ.out.2
            by_cases hdt : y.size ≤ 12000
            · have dd : decide ((y.size : Int) > 12000) = false := decide_eq_false (by omega)
              have hbig := fun W => l01Big_any (y.size : Int) 4 W (by omega) (by omega) (by omega)
              have k4 : ((4 : Nat) : Int) = 4 := rfl
              have kb : strOfNums (low (y.size : Int) 4) = big4 (y.size : Int) := rfl
              rw [k4, kb] at hbig
              clear k4 kb
              have hcrc := fun W => specCrc (x ++ y) W (by rw [bx_size]; omega)
              have hfour := fun W => specFour16 (crc 0 (x ++ y) : Int) W (by omega) (by have := crc_lt (x := 0) (x ++ y) (by omega); omega)
              have kbs := big4_size (y.size : Int)
              have kss := big4_size (crc 0 (x ++ y) : Int)
              have ksx := bx_size x y
              have HCT : Hid (chunkT (x, y) = big4 (y.size : Int) ++ x ++ y ++ big4 (crc 0 (x ++ y) : Int)) := rfl
              generalize big4 (y.size : Int) = BL at hbig kbs HCT
              generalize crc 0 (x ++ y) = CR at hcrc hfour kss HCT
              generalize big4 (CR : Int) = SM at hfour kss HCT
              have ks1 := bx_size BL x
              have ks2 := bx_size (BL ++ x) y
              have ks3 := bx_size (BL ++ x ++ y) SM
              go_wp2_with fail
              refine wp_region_held (S := fun u => u.cell? ⟨bx, 0, none⟩ = some (.string x) ∧ u.cell? ⟨bx, 1, none⟩ = some (.string y)) (by kernel_rfl) ?_
              show wpAnyH _ _ _ _ _ _ _ _ W2.drew
              have HS : W2.drew.cell? ⟨bx, 0, none⟩ = some (.string x) ∧ W2.drew.cell? ⟨bx, 1, none⟩ = some (.string y) := ⟨q0, q1⟩
              refine wpAnyH_take (i := 0) (v := .slice (some ⟨g, 0, none⟩) k cap) rfl (by kernel_rfl) (by kernel_rfl) (by kernel_rfl) (fun _ _ _ h => h) (Or.inl ⟨by rfl, ?_⟩) HS ?_
              · intro w' hS
                obtain ⟨s0, s1⟩ := hS
                go_simp
              simp only [Act.put, List.getElem_toArray, List.getElem_cons_zero, List.setIfInBounds_toArray, List.set_cons_zero, List.set_cons_succ]
              refine wpAnyH_take (i := 1) (v := .pointer (some ⟨bx, 1, none⟩)) rfl (by kernel_rfl) (by kernel_rfl) (by kernel_rfl) (fun _ _ _ h => h) (Or.inl ⟨by rfl, ?_⟩) HS ?_
              · intro w' hS
                obtain ⟨s0, s1⟩ := hS
                go_simp
              simp only [Act.put, List.getElem_toArray, List.getElem_cons_zero, List.getElem_cons_succ, List.setIfInBounds_toArray, List.set_cons_zero, List.set_cons_succ]
              refine wpAnyH_take (i := 2) (v := .string y) rfl (by kernel_rfl) (by kernel_rfl) (by kernel_rfl) (fun _ _ _ h => h) (Or.inl ⟨by rfl, ?_⟩) HS ?_
              · intro w' hS
                obtain ⟨s0, s1⟩ := hS
                go_simp
              simp only [Act.put, List.getElem_toArray, List.getElem_cons_zero, List.getElem_cons_succ, List.setIfInBounds_toArray, List.set_cons_zero, List.set_cons_succ]
              refine wpAnyH_take (i := 3) (v := .int .i64 (y.size : Int)) rfl (by kernel_rfl) (by kernel_rfl) (by kernel_rfl) (fun _ _ _ h => h) (Or.inl ⟨by rfl, ?_⟩) HS ?_
              · intro w' hS
                obtain ⟨s0, s1⟩ := hS
                go_simp
              simp only [Act.put, List.getElem_toArray, List.getElem_cons_zero, List.getElem_cons_succ, List.setIfInBounds_toArray, List.set_cons_zero, List.set_cons_succ]
              refine wpAnyH_take (i := 5) (v := .pointer (some ⟨bx, 0, none⟩)) rfl (by kernel_rfl) (by kernel_rfl) (by kernel_rfl) (fun _ _ _ h => h) (Or.inl ⟨by rfl, ?_⟩) HS ?_
              · intro w' hS
                obtain ⟨s0, s1⟩ := hS
                go_simp
              simp only [Act.put, List.getElem_toArray, List.getElem_cons_zero, List.getElem_cons_succ, List.setIfInBounds_toArray, List.set_cons_zero, List.set_cons_succ]
              refine wpAnyH_take (i := 6) (v := .string x) rfl (by kernel_rfl) (by kernel_rfl) (by kernel_rfl) (fun _ _ _ h => h) (Or.inl ⟨by rfl, ?_⟩) HS ?_
              · intro w' hS
                obtain ⟨s0, s1⟩ := hS
                go_simp
              simp only [Act.put, List.getElem_toArray, List.getElem_cons_zero, List.getElem_cons_succ, List.setIfInBounds_toArray, List.set_cons_zero, List.set_cons_succ]
              refine wpAnyH_take (i := 8) (v := .pointer (some ⟨bx, 1, none⟩)) rfl (by kernel_rfl) (by kernel_rfl) (by kernel_rfl) (fun _ _ _ h => h) (Or.inl ⟨by rfl, ?_⟩) HS ?_
              · intro w' hS
                obtain ⟨s0, s1⟩ := hS
                go_simp
              simp only [Act.put, List.getElem_toArray, List.getElem_cons_zero, List.getElem_cons_succ, List.setIfInBounds_toArray, List.set_cons_zero, List.set_cons_succ]
              refine wpAnyH_take (i := 9) (v := .string y) rfl (by kernel_rfl) (by kernel_rfl) (by kernel_rfl) (fun _ _ _ h => h) (Or.inl ⟨by rfl, ?_⟩) HS ?_
              · intro w' hS
                obtain ⟨s0, s1⟩ := hS
                go_simp
              simp only [Act.put, List.getElem_toArray, List.getElem_cons_zero, List.getElem_cons_succ, List.setIfInBounds_toArray, List.set_cons_zero, List.set_cons_succ]
              refine wpAnyH_take (i := 11) (v := .pointer (some ⟨bx, 0, none⟩)) rfl (by kernel_rfl) (by kernel_rfl) (by kernel_rfl) (fun _ _ _ h => h) (Or.inl ⟨by rfl, ?_⟩) HS ?_
              · intro w' hS
                obtain ⟨s0, s1⟩ := hS
                go_simp
              simp only [Act.put, List.getElem_toArray, List.getElem_cons_zero, List.getElem_cons_succ, List.setIfInBounds_toArray, List.set_cons_zero, List.set_cons_succ]
              refine wpAnyH_take (i := 12) (v := .string x) rfl (by kernel_rfl) (by kernel_rfl) (by kernel_rfl) (fun _ _ _ h => h) (Or.inl ⟨by rfl, ?_⟩) HS ?_
              · intro w' hS
                obtain ⟨s0, s1⟩ := hS
                go_simp
              simp only [Act.put, List.getElem_toArray, List.getElem_cons_zero, List.getElem_cons_succ, List.setIfInBounds_toArray, List.set_cons_zero, List.set_cons_succ]
              refine wpAnyH_take (i := 13) (v := .pointer (some ⟨bx, 1, none⟩)) rfl (by kernel_rfl) (by kernel_rfl) (by kernel_rfl) (fun _ _ _ h => h) (Or.inl ⟨by rfl, ?_⟩) HS ?_
              · intro w' hS
                obtain ⟨s0, s1⟩ := hS
                go_simp
              simp only [Act.put, List.getElem_toArray, List.getElem_cons_zero, List.getElem_cons_succ, List.setIfInBounds_toArray, List.set_cons_zero, List.set_cons_succ]
              refine wpAnyH_take (i := 14) (v := .string y) rfl (by kernel_rfl) (by kernel_rfl) (by kernel_rfl) (fun _ _ _ h => h) (Or.inl ⟨by rfl, ?_⟩) HS ?_
              · intro w' hS
                obtain ⟨s0, s1⟩ := hS
                go_simp
              simp only [Act.put, List.getElem_toArray, List.getElem_cons_zero, List.getElem_cons_succ, List.setIfInBounds_toArray, List.set_cons_zero, List.set_cons_succ]
              refine wpAnyH_take (i := 15) (v := .string (x ++ y)) rfl (by kernel_rfl) (by kernel_rfl) (by kernel_rfl) (fun _ _ _ h => h) (Or.inl ⟨by rfl, ?_⟩) HS ?_
              · intro w' hS
                obtain ⟨s0, s1⟩ := hS
                go_simp
                omega
              simp only [Act.put, List.getElem_toArray, List.getElem_cons_zero, List.getElem_cons_succ, List.setIfInBounds_toArray, List.set_cons_zero, List.set_cons_succ]
              refine wpAnyH_ready (rs := [4]) (by kernel_rfl) (by simp) ?_
              refine AllReadyH.cons rfl (fun K hK => ?_) AllReadyH.nil
              refine if_wanted (wanted_none rfl) ?_
              simp only [List.getElem_toArray, List.getElem_cons_zero, List.getElem_cons_succ]
              go_simp
              refine (hbig _).mono ?_
              rintro e w3 ⟨rfl, hB3⟩
              have HI3 : Hid (CtI w w3 g k cap (preT L j)) := CtI.called HI2.out ⟨hB3.1, hB3.2, hB3.3, hB3.4, hB3.5⟩
              have j0 := (hB3.cell (p := ⟨bx, 0, none⟩) ql).trans q0
              have j1 := (hB3.cell (p := ⟨bx, 1, none⟩) ql).trans q1
              have jl : bx < w3.heap.size := Nat.lt_of_lt_of_le ql hB3.size
              clear hB3 HI2
              refine hK.out _ _ ⟨j0, j1⟩ (fun HS3 => ?_)
              clear hK HS q0 q1 ql
              refine wpAnyH_take (i := 7) (v := .string (BL ++ x)) rfl (by kernel_rfl) (by kernel_rfl) (by kernel_rfl) (fun _ _ _ h => h) (Or.inl ⟨by rfl, ?_⟩) HS3 ?_
              · intro w' hS
                obtain ⟨s0, s1⟩ := hS
                go_simp
              simp only [Act.put, List.getElem_toArray, List.getElem_cons_zero, List.getElem_cons_succ, List.setIfInBounds_toArray, List.set_cons_zero, List.set_cons_succ]
              refine wpAnyH_take (i := 10) (v := .string (BL ++ x ++ y)) rfl (by kernel_rfl) (by kernel_rfl) (by kernel_rfl) (fun _ _ _ h => h) (Or.inl ⟨by rfl, ?_⟩) HS3 ?_
              · intro w' hS
                obtain ⟨s0, s1⟩ := hS
                go_simp
                omega
              simp only [Act.put, List.getElem_toArray, List.getElem_cons_zero, List.getElem_cons_succ, List.setIfInBounds_toArray, List.set_cons_zero, List.set_cons_succ]
              refine wpAnyH_ready (rs := [16]) (by kernel_rfl) (by simp) ?_
              refine AllReadyH.cons rfl (fun K hK => ?_) AllReadyH.nil
              refine if_wanted (wanted_none rfl) ?_
              simp only [List.getElem_toArray, List.getElem_cons_zero, List.getElem_cons_succ]
              go_simp
              refine (hcrc _).mono ?_
              rintro e w4 ⟨rfl, q⟩
              have q' := q.symm
              subst q'
              clear q
              refine hK.out _ _ HS3 (fun HS4 => ?_)
              clear hK HS3
              refine wpAnyH_ready (rs := [17]) (by kernel_rfl) (by simp) ?_
              refine AllReadyH.cons rfl (fun K hK => ?_) AllReadyH.nil
              refine if_wanted (wanted_none rfl) ?_
              simp only [List.getElem_toArray, List.getElem_cons_zero, List.getElem_cons_succ]
              go_simp
              refine (hfour _).mono ?_
              rintro e w5 ⟨rfl, hB5⟩
              have HI5 := hid_of (HI3.out.called hB5)
              have l0 := (hB5.cell (p := ⟨bx, 0, none⟩) jl).trans j0
              have l1 := (hB5.cell (p := ⟨bx, 1, none⟩) jl).trans j1
              have ll : bx < w5.heap.size := Nat.lt_of_lt_of_le jl hB5.size
              clear hB5 HI3 HS4
              refine hK.out _ _ ⟨l0, l1⟩ (fun HS5 => ?_)
              clear hK j0 j1 jl
              refine wpAnyH_take (i := 18) (v := .string (BL ++ x ++ y ++ SM)) rfl (by kernel_rfl) (by kernel_rfl) (by kernel_rfl) (fun _ _ _ h => h) (Or.inl ⟨by rfl, ?_⟩) HS5 ?_
              · intro w' hS
                obtain ⟨s0, s1⟩ := hS
                go_simp
                omega
              simp only [Act.put, List.getElem_toArray, List.getElem_cons_zero, List.getElem_cons_succ, List.setIfInBounds_toArray, List.set_cons_zero, List.set_cons_succ]
              have hpl : (BL ++ x ++ y ++ SM).size = 12 + y.size := by omega
              rw [← HCT.out] at hpl ⊢
              obtain ⟨CT, hCT⟩ : ∃ CT, CT = chunkT (x, y) := ⟨_, rfl⟩
              rw [← hCT] at hpl ⊢
              have HC2 := hid_of hCT
              clear hCT HCT
              clear ks3
              obtain ⟨W6, cap6, hcv6, hO6, hB6⟩ := bown_of_text w5 CT (by omega)
              have HPL := hid_of hpl
              clear hpl
              refine wpAnyH_ready (rs := [19]) (by kernel_rfl) (by simp) ?_
              refine AllReadyH.cons rfl (fun K hK => ?_) AllReadyH.nil
              refine if_wanted (wanted_none rfl) ?_
              simp only [List.getElem_toArray, List.getElem_cons_zero, List.getElem_cons_succ]
              go_simp
              have HI6 := hid_of (HI5.out.called hB6)
              have m0 := (hB6.cell (p := ⟨bx, 0, none⟩) ll).trans l0
              have m1 := (hB6.cell (p := ⟨bx, 1, none⟩) ll).trans l1
              have ml : bx < W6.heap.size := Nat.lt_of_lt_of_le ll hB6.size
              have HO6 := hid_of hO6
              clear hB6 HI5 hO6 hcv6
              refine hK.out _ _ ⟨m0, m1⟩ (fun HS6 => ?_)
              clear hK l0 l1 ll HS5
              obtain ⟨i0, hi0, hz0, hz1, hz2⟩ := info_parts info_byte
              refine wpAnyH_ready (rs := [20]) (by kernel_rfl) (by simp) ?_
              refine AllReadyH.cons rfl (fun K hK => ?_) AllReadyH.nil
              refine if_wanted (wanted_none rfl) ?_
              simp only [List.getElem_toArray, List.getElem_cons_zero, List.getElem_cons_succ]
              obtain ⟨hk1, hO, hBw⟩ := HI6.out
              have hOw := hO.2
              refine wp_appendN _ _ 22 rfl i0 (.int .u8 0) 1 Try.underlying22 hi0 hz0 hz1 hz2 rfl rfl hOw ⟨w5.heap.size, 0, none⟩ CT.size cap6 (u8l (bytesOf CT)) rfl (by rw [u8l_length, bytesOf_length]) (by have := HPL.out; omega) ?_ ?_ ?_ ?_ ?_
              · intro jj u hu
                have hjj : jj < CT.size := by
                  rcases Nat.lt_or_ge jj CT.size with q | q
                  · exact q
                  · rw [List.getElem?_eq_none (by rw [u8l_length, bytesOf_length]; exact q)] at hu; cases hu
                rw [Addr.add_lit, Nat.zero_add, HO6.out.2.cell jj (by rw [u8l_length, bytesOf_length]; exact hjj)]
                rw [List.getElem?_eq_getElem (by rw [u8l_length, bytesOf_length]; exact hjj)] at hu
                exact hu
              · intro u hu
                obtain ⟨q, _, rfl⟩ := List.mem_map.1 hu
                rfl
              · have := HPL.out; rw [u8l_length, bytesOf_length]; unfold maxLen; omega
              · have := HPL.out; rw [u8l_length, bytesOf_length]; omega
              · intro g' v' w7 hO7 hg7 hgb
                obtain ⟨cap7, hv7⟩ := hO7.form
                have hl7 : (u8l (bytesOf (preT L j)) ++ u8l (bytesOf CT)).length = k + CT.size := by
                  rw [List.length_append, u8l_length, u8l_length, bytesOf_length, bytesOf_length, hk1]
                rw [hl7] at hv7
                subst hv7
                have ngx : some bx ≠ some g := fun q => HGB.out (Option.some.inj q).symm
                have n0 := (World.cell?_of_block (a := ⟨bx, 0, none⟩) (hgb.block bx ml ngx)).trans m0
                have n1 := (World.cell?_of_block (a := ⟨bx, 1, none⟩) (hgb.block bx ml ngx)).trans m1
                have HI7 : Hid (CtI w w7 g' (k + CT.size) cap7 (preT L j ++ CT)) := by
                  have e1 : u8l (bytesOf (preT L j)) ++ u8l (bytesOf CT) = u8l (bytesOf (preT L j ++ CT)) := by
                    unfold u8l bytesOf
                    rw [bx_app, List.map_append, List.map_append]
                  refine ⟨by rw [bx_size, hk1], ⟨by rw [bytesOf_length, bx_size, hk1], by rw [← e1]; exact hO7⟩, ?_⟩
                  have hgl : w.heap.size ≤ g := hO.2.base_le
                  exact ⟨hgb.os.trans hBw.os, hgb.tape.trans hBw.tape, hgb.output.trans hBw.output, Nat.le_trans hBw.size hgb.size, fun b hb => (hgb.block b (Nat.lt_of_lt_of_le hb hBw.size) (fun q => by have := Option.some.inj q; omega)).trans (hBw.block b hb)⟩
                clear hO7 hgb hO hBw hOw HI6 HO6
                refine hK.out _ _ ⟨n0, n1⟩ (fun HS7 => ?_)
                clear hK m0 m1 ml HS6
                refine wpAnyH_take (i := 21) (v := .slice (some ⟨g', 0, none⟩) (k + CT.size) cap7) rfl (by kernel_rfl) (by kernel_rfl) (by kernel_rfl) (fun _ _ _ h => h) (Or.inl ⟨by rfl, ?_⟩) HS7 ?_
                · intro w' hS
                  obtain ⟨s0, s1⟩ := hS
                  go_simp
                simp only [Act.put, List.getElem_toArray, List.getElem_cons_zero, List.getElem_cons_succ, List.setIfInBounds_toArray, List.set_cons_zero, List.set_cons_succ]
                refine wpAnyH_done (by kernel_rfl) ?_ _
                clear HS7 n0 n1
                by_cases hsz : k + CT.size ≤ 12000
                · have dz : decide (((k + CT.size : Nat) : Int) > 12000) = false := decide_eq_false (by omega)
                  have HN : Hid (∀ i, i < j + 1 → NameR (L.getD i noChk).1) := fun i hi => by
                    by_cases e : i = j
                    · rw [e, ← HXY.out.1]; exact HNX.out
                    · exact hNm.out i (by omega)
                  have HP : Hid (preT L (j + 1) = preT L j ++ CT) := by
                    show _ = _
                    rw [preT_succ L j (by rw [← HNL.out]; exact hlt)]
                    congr 1
                    have e : L.getD j noChk = (x, y) := by rw [HXY.out.1, HXY.out.2]
                    rw [e, HC2.out]
                  go_wp2_with fail
                  go_roundg (n - (j + 1))
                  case measure => omega
                  case rel => exact ⟨j + 1, g', k + CT.size, cap7, by omega, Nat.le_refl _, rfl, by go_num, hsz, by rw [HP.out]; exact HI7, HN⟩
                · have dz : decide (((k + CT.size : Nat) : Int) > 12000) = true := decide_eq_true (by omega)
                  have HX : Hid (¬ FileR L) := file_bad_size L (j + 1) (by rw [← HNL.out]; omega) (by
                    rw [preT_size_succ L j (by rw [← HNL.out]; exact hlt), ← HXY.out.1, ← HXY.out.2, hx4]
                    have h1 := HI7.out.1
                    have h2 := HPL.out
                    rw [bx_size] at h1
                    omega)
                  go_wp2_with fail
                  refine bodyPost_ret (v := .tuple #[.string ⟨#[]⟩, .bool false]) ?_ rfl ⟨?_, HI7.out.2.2⟩
                  · simp [results, Try.results12, go_sem]
                  · unfold chAns
                    rw [if_neg HX.out]
            · have dd : decide ((y.size : Int) > 12000) = true := decide_eq_true (by omega)
              have HX : Hid (¬ FileR L) := file_bad_size L (j + 1) (by rw [← HNL.out]; omega) (by
                rw [preT_size_succ L j (by rw [← HNL.out]; exact hlt), ← HXY.out.2]
                omega)
              go_wp2_with fail
              refine bodyPost_ret (v := .tuple #[.string ⟨#[]⟩, .bool false]) ?_ rfl ⟨?_, HI2.out.2.2⟩
              · simp [results, Try.results12, go_sem]
              · unfold chAns
                rw [if_neg HX.out]
          · have HX : Hid (¬ FileR L) := file_bad_name L j (by rw [← HNL.out]; exact hlt) (by rw [← HXY.out.1]; exact hnm)
            have HNX := hid_of hnm
            clear hnm
            refine (specName_no x _ HNX.out).mono ?_
            rintro e w1 ⟨rfl, q⟩
            have q' := q.symm
            subst q'
            clear q
            go_wp2_with fail
            refine bodyPost_ret (v := .tuple #[.string ⟨#[]⟩, .bool false]) ?_ rfl ⟨?_, HI2.out.2.2⟩
            · simp [results, Try.results12, go_sem]
            · unfold chAns
              rw [if_neg HX.out]
      · obtain rfl : j = n := by omega
        have kc := bown_text (k := 0) (c := cap) hI.out.2.1 (Nat.zero_le _)
        rw [List.drop_zero, Nat.sub_zero, str_back] at kc
        have HX : Hid (FileR L) := file_good L (by rw [← HNL.out]; exact h40) (by rw [← HNL.out]; exact hNm.out) (by
          rw [← HNL.out]
          have := hI.out.1
          omega)
        have HP : Hid (preT L j = fileT L) := by
          show _ = _
          rw [HNL.out, preT_all]
        rw [HP.out] at kc
        go_wp2_with fail
        refine bodyPost_ret (v := .tuple #[.string (fileT L), .bool true]) ?_ rfl ⟨?_, hI.out.2.2⟩
        · simp [results, Try.results12, go_sem]
        · unfold chAns
          rw [if_pos HX.out]
  · have d40 : decide ((n : Int) > 40) = true := decide_eq_true (by omega)
    have HX : Hid (¬ FileR L) := fun q => by have := q.1; omega
    clear hC hm
    go_enter Try.func12, Try.ntmps12
    go_wp2_with fail
    refine bodyPost_ret (v := .tuple #[.string ⟨#[]⟩, .bool false]) ?_ rfl ⟨?_, Below.refl _ _⟩
    · simp [results, Try.results12, go_sem]
    · unfold chAns
      rw [if_neg HX.out]
end Go.Proofs.Ytofblofmejgipaa
