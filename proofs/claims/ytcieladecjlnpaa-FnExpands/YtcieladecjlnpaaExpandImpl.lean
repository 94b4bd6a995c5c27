/-
  The walk of the program's Expand.
-/
import Derived.Test.YtcieladecjlnpaaRows
import Derived.Test.YtcieladecjlnpaaBase
import Derived.Test.YtcieladecjlnpaaOwnLib
import Derived.Test.YtcieladecjlnpaaTokMath
import Derived.Test.YtcieladecjlnpaaTriLib
import Derived.Test.YtcieladecjlnpaaByteLib
import Derived.Test.YtcieladecjlnpaaTokAns
import Derived.Test.YtcieladecjlnpaaExpandSpec
import Derived.Test.YtcieladecjlnpaaPieceImpl
import Derived.Test.YtcieladecjlnpaaWithPieceImpl
import Derived.WalkKit
import Derived.ProofKit
import Derived.WalkLawsBesides
import Derived.Below
import Derived.Deep.LoopGhost
import Derived.Handy
import Derived.Lib.SmallJoins
namespace Go.Proofs.Ytcieladecjlnpaa
open Go.RowKit Go.Joins TokMath

theorem literal_size (x : Int) (w : World) : Calls Try.prog 64 #[.int .u8 x] w fun e w' => e = .returned (.int .i64 1) ∧ w' = w := by
  go_enter Try.func64, Try.ntmps64
  go_wp2_with fail
  go_ret
  exact ⟨rfl, rfl⟩
theorem repeat_size (y z : Int) (w : World) : Calls Try.prog 65 #[.agg #[.int .i64 y, .int .i64 z]] w fun e w' => e = .returned (.int .i64 y) ∧ Below w.heap.size w w' := by
  go_enter Try.func65, Try.ntmps65
  go_wp2_with fail
  go_ret
  exact ⟨rfl, bstart _ _⟩

set_option maxHeartbeats 4000000 in
theorem expand_answer : ExpandAnswer := by
  intro s a c L w hL hc hn hs _
  have HL := hid_of hL
  clear hL
  by_cases hb : s.size ≤ 12000
  · have e0 : expandOf s L = expandL s.size (bytesOf s) L := by
      unfold expandOf
      rw [if_pos hb]
    rw [e0]
    obtain ⟨W1, cap, hcv, hO, hB⟩ := bown_of_text w s hs
    have H0 : Hid (ExpI w W1 s.size L (L.drop 0) (bytesOf s) w.heap.size s.size cap (bytesOf s)) := ⟨hO, hB, rfl, by rw [bytesOf_length]; exact Nat.le_refl _, by rw [bytesOf_length]; omega⟩
    have d1 : decide ((12000 : Int) < (s.size : Int)) = false := decide_eq_false (by omega)
    have d2 : decide (12000 < s.size) = false := decide_eq_false (by omega)
    clear e0 hO hB
    go_enter Try.func16, Try.ntmps16
    go_wp2_with fail
    go_loopg [6, 19] (L.length + 1) (fun gk v y w' => ∃ (i g n cp : Nat) (O : List Int), v = .slice (some ⟨g, 0, none⟩) n cp ∧ i ≤ L.length ∧ y = .int .i64 i ∧ L.length - i ≤ gk ∧ s.size ≤ n ∧ n ≤ s.size + 12000 ∧ Hid (n = O.length ∧ ExpI w w' s.size L (L.drop i) (bytesOf s) g n cp O))
    case atStart => exact ⟨0, w.heap.size, s.size, cap, bytesOf s, rfl, Nat.zero_le _, rfl, by omega, Nat.le_refl _, by omega, (bytesOf_length s).symm, H0.out⟩
    case round =>
      clear H0 hcv
      obtain ⟨i, g, n, cp, O, rfl, hi, rfl, hgk, hsn, hnn, hS⟩ := hrel
      by_cases hlt : i < L.length
      · have HB := hid_of hS.out.2.2.1
        rcases HL.out with h0 | ⟨ga, off, rfl, hga, hc⟩
        · omega
        obtain ⟨c0, c1, c2⟩ : w.cell? ⟨ga, off + i * 3, none⟩ = some (.int .i64 (L.getD i (0, 0, 0)).1) ∧ w.cell? ⟨ga, off + i * 3 + 1, none⟩ = some (.int .i64 (L.getD i (0, 0, 0)).2.1) ∧ w.cell? ⟨ga, off + i * 3 + 2, none⟩ = some (.int .i64 (L.getD i (0, 0, 0)).2.2) := hc i hlt
        have HD := hid_of (drop_tok hlt)
        obtain ⟨⟨x, y, z⟩, hr⟩ : ∃ r, r = L.getD i (0, 0, 0) := ⟨_, rfl⟩
        rw [← hr] at c0 c1 c2
        have HDR : Hid (expandL s.size (bytesOf s) L = expandL s.size O ((x, y, z) :: L.drop (i + 1))) := by
          have h := hS.out.2.2.2.1
          rw [HD.out, ← hr] at h
          exact h.symm
        have f0 : wr.cell? ⟨ga, off + i * 3, none⟩ = some (.int .i64 x) := (HB.out.cell (p := ⟨ga, off + i * 3, none⟩) hga).trans c0
        have f1 : wr.cell? ⟨ga, off + i * 3 + 1, none⟩ = some (.int .i64 y) := (HB.out.cell (p := ⟨ga, off + i * 3 + 1, none⟩) hga).trans c1
        have f2 : wr.cell? ⟨ga, off + i * 3 + 2, none⟩ = some (.int .i64 z) := (HB.out.cell (p := ⟨ga, off + i * 3 + 2, none⟩) hga).trans c2
        have hl2 : ga < wr.heap.size := Nat.lt_of_lt_of_le hga HB.out.size
        have hpc := fun w => pieceOf_any x y z w
        have HC1 : Hid (BOwn (wr.alloc (.cells #[.int .i64 x, .int .i64 y, .int .i64 z] 37)) w.heap.size g n cp O ∧ Below w.heap.size w (wr.alloc (.cells #[.int .i64 x, .int .i64 y, .int .i64 z] 37))) := ⟨hS.out.2.1.called (bstart _ _), bal HB.out _⟩
        have HN := hid_of hS.out.1
        clear hc c0 c1 c2 hr HD
        by_cases hright : TokRight (x, y, z)
        · have HR := hid_of hright
          by_cases hy : y = 0
          · subst hy
            have hxr : (0 ≤ x ∧ x ≤ 255) ∧ z = 0 := hright
            obtain ⟨⟨hx0, hx1⟩, rfl⟩ := hxr
            rw [piece_byte hx0 hx1] at hpc
            go_wp2_with fail
            refine (hpc _).mono ?_
            rintro e w2 ⟨rfl, hB2⟩
            clear hpc f0 f1 f2 hright
            have HC2 : Hid (BOwn w2 w.heap.size g n cp O ∧ Below w.heap.size w w2) := ⟨HC1.out.1.called hB2, bnext HC1.out.2 hB2⟩
            clear hB2 HC1
            have HG : Hid (TokRight (x, 0, 0) ∧ (0 : Int) ≤ (O.length : Int)) := ⟨HR.out, by omega⟩
            have HAP : Hid (tokApp O (x, 0, 0) = O ++ [x]) := by
              show tokApp O (x, 0, 0) = O ++ [x]
              unfold tokApp
              rw [if_pos rfl]
            have HLN : Hid ((O ++ [x]).length = n + 1) := by
              show (O ++ [x]).length = n + 1
              rw [List.length_append, List.length_singleton, HN.out]
            by_cases hov : n + 1 ≤ s.size + 12000
            · have do1 : decide ((12000 : Int) < (n : Int) - (s.size : Int) + 1) = false := decide_eq_false (by omega)
              have do2 : ¬ (12000 : Int) < (n : Int) - (s.size : Int) + 1 := by omega
              go_wp2_with fail
              refine (literal_size x _).mono ?_
              rintro e w3 ⟨rfl, rfl⟩
              go_wp2_with fail
              refine (with_byte w.heap.size g n cp O x w3 HC2.out.1 (by omega)).mono ?_
              rintro e w4 ⟨g1, cap1, rfl, y1, y2⟩
              have HNX : Hid (n + 1 = (O ++ [x]).length ∧ ExpI w w4 s.size L (L.drop (i + 1)) (bytesOf s) g1 (n + 1) cap1 (O ++ [x])) := by
                refine ⟨HLN.out.symm, y1, HC2.out.2.trans y2, ?_, by have := HLN.out; omega, by have := HLN.out; omega⟩
                rw [HDR.out, exp_on HG.out (by rw [HAP.out, HLN.out]; exact hov), HAP.out]
              clear y1 y2 HC2
              go_wp2_with fail
              go_roundg (L.length - (i + 1))
              case measure => omega
              case rel => exact ⟨i + 1, g1, n + 1, cap1, O ++ [x], rfl, by omega, by go_num, Nat.le_refl _, by omega, by omega, HNX⟩
            · have do1 : decide ((12000 : Int) < (n : Int) - (s.size : Int) + 1) = true := decide_eq_true (by omega)
              have do2 : (12000 : Int) < (n : Int) - (s.size : Int) + 1 := by omega
              have HNX : Hid (Below w.heap.size w w2 ∧ expandL s.size (bytesOf s) L = none) := by
                refine ⟨HC2.out.2, ?_⟩
                rw [HDR.out, exp_over HG.out (by rw [HAP.out, HLN.out]; exact hov)]
              go_wp2_with fail
              refine (literal_size x _).mono ?_
              rintro e w3 ⟨rfl, rfl⟩
              go_wp2_with fail
              go_ret2
              have hq := HNX.out.2
              rw [hq]
              exact ⟨HNX.out.1, rfl⟩
          · have hxr : x = 0 ∧ (3 ≤ y ∧ y ≤ 258) ∧ (1 ≤ z ∧ z ≤ 32768) := by
              have h := hright
              unfold TokRight at h
              rwa [if_neg hy] at h
            obtain ⟨rfl, hy3, hz1⟩ := hxr
            rw [piece_repeat hy3 hz1] at hpc
            obtain ⟨T, hT⟩ := Int.eq_ofNat_of_zero_le (show 0 ≤ y by omega)
            obtain ⟨d, hd⟩ := Int.eq_ofNat_of_zero_le (show 0 ≤ z by omega)
            subst hT hd
            have hT3 : T ≤ 258 := by omega
            have hd1 : 1 ≤ d := by omega
            go_wp2_with fail
            refine (hpc _).mono ?_
            rintro e w2 ⟨rfl, hB2⟩
            clear hpc f0 f1 f2 hright
            have HC2 : Hid (BOwn w2 w.heap.size g n cp O ∧ Below w.heap.size w w2) := ⟨HC1.out.1.called hB2, bnext HC1.out.2 hB2⟩
            clear hB2 HC1
            have HAP : Hid (tokApp O (0, (T : Int), (d : Int)) = copyN d T O) := by
              show tokApp O (0, (T : Int), (d : Int)) = copyN d T O
              unfold tokApp
              rw [if_neg hy]
              rfl
            have HLN : Hid ((copyN d T O).length = n + T) := by
              show (copyN d T O).length = n + T
              rw [copy_length, HN.out]
            have dT : ((T : Int) == 0) = false := by simp; omega
            have hrs := fun w => repeat_size (T : Int) (d : Int) w
            by_cases hov : n + T ≤ s.size + 12000
            · have do1 : decide ((12000 : Int) < (n : Int) - (s.size : Int) + (T : Int)) = false := decide_eq_false (by omega)
              have do2 : ¬ (12000 : Int) < (n : Int) - (s.size : Int) + (T : Int) := by omega
              go_wp2_with fail
              refine (hrs _).mono ?_
              rintro e w3 ⟨rfl, hB3⟩
              have HC3 : Hid (BOwn w3 w.heap.size g n cp O ∧ Below w.heap.size w w3) := ⟨HC2.out.1.called hB3, bnext HC2.out.2 hB3⟩
              clear hB3 HC2 hrs
              by_cases hdn : d ≤ n
              · have HG : Hid (TokRight (0, (T : Int), (d : Int)) ∧ (d : Int) ≤ (O.length : Int)) := ⟨HR.out, by have := HN.out; omega⟩
                have hwr := with_repeat w.heap.size g n cp T d O w3 HC3.out.1 (by omega) hT3 hd1 hdn
                go_wp2_with fail
                refine hwr.mono ?_
                rintro e w4 ⟨g1, n1, cap1, rfl, y1, y2⟩
                clear hwr
                have hn1 : n1 = n + T := by
                  have h := y1.1
                  rw [HLN.out] at h
                  exact h
                have HNX : Hid (n1 = (copyN d T O).length ∧ ExpI w w4 s.size L (L.drop (i + 1)) (bytesOf s) g1 n1 cap1 (copyN d T O)) := by
                  refine ⟨y1.1, y1, HC3.out.2.trans y2, ?_, by have := HLN.out; omega, by have := HLN.out; omega⟩
                  rw [HDR.out, exp_on HG.out (by rw [HAP.out, HLN.out]; exact hov), HAP.out]
                have hn2 : s.size ≤ n1 := by omega
                have hn3 : n1 ≤ s.size + 12000 := by omega
                clear y1 y2 HC3 hn1
                go_wp2_with fail
                go_roundg (L.length - (i + 1))
                case measure => omega
                case rel => exact ⟨i + 1, g1, n1, cap1, copyN d T O, rfl, by omega, by go_num, Nat.le_refl _, by omega, by omega, HNX⟩
              · have HNX0 : Hid (expandL s.size (bytesOf s) L = none) := by
                  show expandL s.size (bytesOf s) L = none
                  rw [HDR.out, exp_bad]
                  rintro ⟨_, k⟩
                  have k' : (d : Int) ≤ (O.length : Int) := k
                  have := HN.out
                  omega
                have hwf := with_far g n cp (T : Int) (d : Int) w3 (by omega)
                go_wp2_with fail
                refine hwf.mono ?_
                rintro e w4 ⟨rfl, hB4⟩
                have HNX : Hid (Below w.heap.size w w4 ∧ expandL s.size (bytesOf s) L = none) := ⟨bnext HC3.out.2 hB4, HNX0.out⟩
                clear hwf hB4 HC3
                go_wp2_with fail
                go_ret2
                have hq := HNX.out.2
                rw [hq]
                exact ⟨HNX.out.1, rfl⟩
            · have do1 : decide ((12000 : Int) < (n : Int) - (s.size : Int) + (T : Int)) = true := decide_eq_true (by omega)
              have do2 : (12000 : Int) < (n : Int) - (s.size : Int) + (T : Int) := by omega
              have HNX0 : Hid (expandL s.size (bytesOf s) L = none) := by
                show expandL s.size (bytesOf s) L = none
                by_cases hdn : d ≤ n
                · rw [HDR.out, exp_over ⟨HR.out, by show (d : Int) ≤ (O.length : Int); have := HN.out; omega⟩ (by rw [HAP.out, HLN.out]; exact hov)]
                · rw [HDR.out, exp_bad]
                  rintro ⟨_, k⟩
                  have k' : (d : Int) ≤ (O.length : Int) := k
                  have := HN.out
                  omega
              go_wp2_with fail
              refine (hrs _).mono ?_
              rintro e w3 ⟨rfl, hB3⟩
              have HNX : Hid (Below w.heap.size w w3 ∧ expandL s.size (bytesOf s) L = none) := ⟨bnext HC2.out.2 hB3, HNX0.out⟩
              clear hB3 HC2 hrs
              go_wp2_with fail
              go_ret2
              have hq := HNX.out.2
              rw [hq]
              exact ⟨HNX.out.1, rfl⟩
        · rw [piece_none hright] at hpc
          have HNX0 : Hid (expandL s.size (bytesOf s) L = none) := by
            show expandL s.size (bytesOf s) L = none
            rw [HDR.out, exp_bad (fun k => hright k.1)]
          clear hright
          go_wp2_with fail
          refine (hpc _).mono ?_
          rintro e w2 ⟨rfl, hB2⟩
          have HNX : Hid (Below w.heap.size w w2 ∧ expandL s.size (bytesOf s) L = none) := ⟨bnext HC1.out.2 hB2, HNX0.out⟩
          clear hpc hB2 HC1 f0 f1 f2
          go_wp2_with fail
          go_ret2
          have hq := HNX.out.2
          rw [hq]
          exact ⟨HNX.out.1, rfl⟩
      · obtain rfl : i = L.length := by omega
        have hrm := hS.out.2.1.room
        have HZ : Hid (Below w.heap.size w wr ∧ expandL s.size (bytesOf s) L = some (O.drop s.size)) := by
          have h := hS.out.2.2.2.1
          rw [List.drop_length] at h
          exact ⟨hS.out.2.2.1, h.symm⟩
        by_cases hcp : cp = s.size
        · obtain rfl : n = s.size := by omega
          have hct := text_none wr g 0
          have HE : Hid (O.drop s.size = []) := List.drop_of_length_le (by have := hS.out.1; omega)
          subst hcp
          go_wp2_with fail
          go_ret2
          have hq := HZ.out.2
          rw [hq, HE.out]
          exact ⟨HZ.out.1, rfl⟩
        · have hct := bown_text (c := cp - s.size) hS.out.2.1 hsn
          go_wp2_with fail
          go_ret2
          have hq := HZ.out.2
          rw [hq]
          exact ⟨HZ.out.1, rfl⟩
  · have e0 : expandOf s L = none := by
      unfold expandOf
      rw [if_neg hb]
    rw [e0]
    have d1 : decide ((12000 : Int) < (s.size : Int)) = true := decide_eq_true (by omega)
    have d2 : decide (12000 < s.size) = true := decide_eq_true (by omega)
    go_enter Try.func16, Try.ntmps16
    go_wp2_with fail
    go_ret2
    exact ⟨Below.refl _ _, rfl⟩

end Go.Proofs.Ytcieladecjlnpaa
