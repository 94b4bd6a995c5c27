/-
  The walks of PutBits in the document's model.
  The walks of PutCode in the document's model.
-/
import Derived.Test.YtbcnlggkoidmmaaRows
import Derived.Test.YtbcnlggkoidmmaaPk01
import Derived.Test.YtbcnlggkoidmmaaPk13
import Derived.Test.YtbcnlggkoidmmaaPk14
import Derived.Test.YtbcnlggkoidmmaaPk02
import Derived.Test.YtbcnlggkoidmmaaPk08
import Derived.WalkKit
import Derived.ProofKit
import Derived.WalkLawsBesides
import Derived.Lib.SmallJoins
namespace Go.Proofs.Ytbcnlggkoidmmaa
open Go.RowKit Go.Joins OutMath PutMath

set_option maxHeartbeats 800000 in
theorem specPutBits_yes (s : ByteArray) (c : Nat) (x : Int) (n : Nat) (w : World) (h : May s c x n) :
    Calls Try.prog 61 #[.agg #[.string s, .int .i64 c], .int .i64 x, .int .i64 n] w fun e w' => e = .returned (.tuple #[.agg #[.string (putOut s c x (fun j => j) n), .int .i64 ((c + n : Nat) : Int)], .bool true]) ∧ Below w.heap.size w w' := by
  obtain ⟨h1, h2, h3, h4, h5, h6⟩ := id h
  obtain ⟨q1, q2, q3, q4⟩ := fits_of_outB s c h1
  have HI : Hid (Inv (s.data.toList.map fun b => (b.toNat : Int)) c) := bytes_inv s c h1
  have hp : p2 n ≤ 16777216 := by
    have h1 := p2_le (show n ≤ 24 by omega)
    have h2 : p2 24 = 16777216 := by decide +kernel
    omega
  have hx : x ≤ 16777216 := by rw [Int.toNat_natCast] at h5; omega
  have HM : Hid (May s c x n) := h
  clear q4 h1 h5 h
  go_enter Try.func61, Try.ntmps61
  go_wp2_with fail
  refine (l01May_yes s c x n _ (by unfold maxLen; omega) (by omega) (by omega) HM.out).mono ?_
  rintro e w1 ⟨rfl, hb1⟩
  obtain ⟨W, hW⟩ : ∃ W, W = (w.alloc (.cells #[.string s, .int .i64 c] 37)).alloc (.cells #[.string ⟨#[]⟩, .int .i64 0] 37) := ⟨_, rfl⟩
  rw [← hW] at hb1
  have hWs : W.heap.size = w.heap.size + 1 + 1 := by rw [hW]; simp
  have hBW : Below w.heap.size w W := by rw [hW]; exact bal (bstart _ _) _
  have hcW : W.cell? ⟨w.heap.size, 0, none⟩ = some (.string s) ∧ W.cell? ⟨w.heap.size, 1, none⟩ = some (.int .i64 c) ∧ W.cell? ⟨w.heap.size + 1, 0, none⟩ = some (.string ⟨#[]⟩) ∧ W.cell? ⟨w.heap.size + 1, 1, none⟩ = some (.int .i64 0) ∧ ∀ j, W.frozen? ⟨w.heap.size + 1, j, none⟩ = false := by rw [hW]; simp
  clear hW
  rw [hWs] at hb1
  have hz1 := hb1.size
  go_wp2_with fail
  have hE : Own 3 (w1.alloc (.cells #[] 3)) (w.heap.size + 1 + 1) w1.heap.size (.slice (some ⟨w1.heap.size, 0, none⟩) 0 0) [] := ⟨0, #[], (0, 0), rfl, by omega, heap_alloc_new w1 _, .inl rfl, Nat.le_refl _, Nat.zero_le _, rfl, rfl⟩
  go_loopw [8, 9] (fun v i w' => ∃ j g cap : Nat, j ≤ n ∧ i = .int .i64 (j : Int) ∧ v = .slice (some ⟨g, 0, none⟩) j cap ∧ Hid (Own 3 w' (w.heap.size + 1 + 1) g (.slice (some ⟨g, 0, none⟩) j cap) (places (fun j => j) j)) ∧ Below (w.heap.size + 1 + 1) W w') (fun v _ _ => n - (sliceLen v))
  case atStart => exact ⟨0, w1.heap.size, 0, Nat.zero_le _, by simp, rfl, hE, hb1.alloc (by omega) _⟩
  case round =>
    obtain ⟨j, g, cap, hj, rfl, rfl, hO, hB⟩ := hrel
    have hbl := hO.out.base_le
    have hBs := hB.size
    by_cases hlt : j < n
    · obtain ⟨i0, hi0, hz0, hz1, hz2⟩ := info_parts info_int
      have hpl := places_length (fun j => j) j
      have hl63 : (places (fun j => j) j).length + 1 ≤ maxLen ∧ ((places (fun j => j) j).length + 1) * 8 ≤ 140737488355328 := by rw [hpl]; unfold maxLen; omega
      have HN : Hid (places (fun j => j) j ++ [.int .i64 (j : Int)] = places (fun j => j) (j + 1)) := by
        have e : ((j : Int) : Int) = (((fun j => j) j : Nat) : Int) := by simp
        rw [e]
        rfl
      clear hpl
      go_wp2_with (at_builtin; refine wpList_append1 rfl _ _ 24 rfl i0 (.int .i64 0) 8 Try.underlying24 hi0 hz0 hz1 hz2 rfl rfl (hO.out.alloc _) ⟨wr.heap.size, 0, none⟩ 1 (.int .i64 (j : Int)) rfl ?c1 rfl rfl hl63.1 hl63.2 ?_)
      case c1 => simp
      · intro g1 v1 w2 hO1 hg1 hgr
        rw [HN.out] at hO1
        have hB1 : Below (w.heap.size + 1 + 1) W w2 := (hB.alloc (by omega) _).grown hgr (by simp; omega) (fun k hk => by cases hk; exact hbl)
        obtain ⟨cap1, hv1⟩ := hO1.form
        rw [places_length] at hv1
        rw [hv1]
        rw [hv1] at hO1
        have HO1 : Hid (Own 3 w2 (w.heap.size + 1 + 1) g1 (.slice (some ⟨g1, 0, none⟩) (j + 1) cap1) (places (fun j => j) (j + 1))) := hO1
        clear hO1 hg1 hgr hv1 hi0 hz0 hz1 hz2 hl63
        go_wp2_with fail
        go_roundw
        case rel => exact ⟨j + 1, g1, cap1, by omega, by go_num, rfl, HO1, hB1⟩
        case measure => simp [sliceLen]; omega
    · obtain rfl : n = j := by omega
      have k0 : wr.cell? ⟨w.heap.size, 0, none⟩ = some (.string s) := (hB.cell (p := ⟨w.heap.size, 0, none⟩) (by simp; omega)).trans hcW.1
      have k1 : wr.cell? ⟨w.heap.size, 1, none⟩ = some (.int .i64 c) := (hB.cell (p := ⟨w.heap.size, 1, none⟩) (by simp; omega)).trans hcW.2.1
      go_wp2_with fail
      refine (l01Put_any s c x n (fun j => j) g cap (s.data.toList.map fun b => (b.toNat : Int)) wr q1 rfl HI.out (by omega) h4 hx (by omega) hO.out.lt (fun i hi => ⟨?_, by omega⟩)).mono ?_
      · rw [hO.out.cell i (by rw [places_length]; exact hi), places_get]
      rintro e w2 ⟨rfl, hb2⟩
      have hB2 : Below (w.heap.size + 1 + 1) W w2 := hB.trans (hb2.mono (by omega))
      have r0 : w2.cell? ⟨w.heap.size + 1, 0, none⟩ = some (.string ⟨#[]⟩) := (hB2.cell (p := ⟨w.heap.size + 1, 0, none⟩) (by simp)).trans hcW.2.2.1
      have r1 : w2.cell? ⟨w.heap.size + 1, 1, none⟩ = some (.int .i64 0) := (hB2.cell (p := ⟨w.heap.size + 1, 1, none⟩) (by simp)).trans hcW.2.2.2.1
      have rf : ∀ i, w2.frozen? ⟨w.heap.size + 1, i, none⟩ = false := fun i => (hB2.frozen (p := ⟨w.heap.size + 1, i, none⟩) (by simp)).trans (hcW.2.2.2.2 i)
      have hBB : Below w.heap.size w w2 := hBW.trans (hB2.mono (by omega))
      go_wp2_with fail
      refine bodyPost_ret (v := .tuple #[.agg #[.string (putOut s c x (fun j => j) n), .int .i64 ((c + n : Nat) : Int)], .bool true]) ?_ rfl ⟨rfl, ?_⟩
      · simp [results, Try.results61, go_sem, r0, r1, putOut]
      · refine Below.setCell (Below.setCell hBB ?_ _) ?_ _
        · simp
        · simp

set_option maxHeartbeats 400000 in
theorem specPutBits_no (s : ByteArray) (c x n : Int) (w : World) (hs : s.size ≤ maxLen) (hc1 : -9223372036854775808 ≤ c) (hc2 : c ≤ 9223372036854775807) (h : ¬ May s c x n) :
    Calls Try.prog 61 #[.agg #[.string s, .int .i64 c], .int .i64 x, .int .i64 n] w fun e w' => e = .returned (.tuple #[.agg #[.string ⟨#[]⟩, .int .i64 0], .bool false]) ∧ Below w.heap.size w w' := by
  have H : Hid (¬ May s c x n) := h
  clear h
  go_enter Try.func61, Try.ntmps61
  go_wp2_with fail
  refine (l01May_no s c x n _ hs hc1 hc2 H.out).mono ?_
  rintro e w1 ⟨rfl, hb1⟩
  obtain ⟨k1, f1⟩ := bcell hb1
  have hz : w.heap.size + 1 < w1.heap.size := by have := hb1.size; simp at this; omega
  have hB : Below w.heap.size w w1 := bnext (bal (bstart _ _) _) hb1
  go_wp2_with fail
  refine bodyPost_ret (v := .tuple #[.agg #[.string ⟨#[]⟩, .int .i64 0], .bool false]) (by simp [results, Try.results61, go_sem, k1]) rfl ⟨rfl, ?_⟩
  refine Below.setCell (Below.setCell hB ?_ _) ?_ _
  · simp
  · simp

end Go.Proofs.Ytbcnlggkoidmmaa

namespace Go.Proofs.Ytbcnlggkoidmmaa
open Go.RowKit Go.Joins OutMath PutMath

set_option maxRecDepth 100000 in
set_option maxHeartbeats 800000 in
theorem specPutCode_yes (s : ByteArray) (c : Nat) (x : Int) (n : Nat) (w : World) (h : May s c x n) :
    Calls Try.prog 60 #[.agg #[.string s, .int .i64 c], .int .i64 x, .int .i64 n] w fun e w' => e = .returned (.tuple #[.agg #[.string (putOut s c x (fun j => n - 1 - j) n), .int .i64 ((c + n : Nat) : Int)], .bool true]) ∧ Below w.heap.size w w' := by
  obtain ⟨h1, h2, h3, h4, h5, h6⟩ := id h
  obtain ⟨q1, q2, q3, q4⟩ := fits_of_outB s c h1
  have HI : Hid (Inv (s.data.toList.map fun b => (b.toNat : Int)) c) := bytes_inv s c h1
  have hp : p2 n ≤ 16777216 := by
    have h1 := p2_le (show n ≤ 24 by omega)
    have h2 : p2 24 = 16777216 := by decide +kernel
    omega
  have hx : x ≤ 16777216 := by rw [Int.toNat_natCast] at h5; omega
  have HM : Hid (May s c x n) := h
  clear q4 h1 h5 h
  go_enter Try.func60, Try.ntmps60
  go_wp2_with fail
  refine (l01May_yes s c x n _ (by unfold maxLen; omega) (by omega) (by omega) HM.out).mono ?_
  rintro e w1 ⟨rfl, hb1⟩
  obtain ⟨W, hW⟩ : ∃ W, W = (w.alloc (.cells #[.string s, .int .i64 c] 37)).alloc (.cells #[.string ⟨#[]⟩, .int .i64 0] 37) := ⟨_, rfl⟩
  rw [← hW] at hb1
  have hWs : W.heap.size = w.heap.size + 1 + 1 := by rw [hW]; simp
  have hBW : Below w.heap.size w W := by rw [hW]; exact bal (bstart _ _) _
  have hcW : W.cell? ⟨w.heap.size, 0, none⟩ = some (.string s) ∧ W.cell? ⟨w.heap.size, 1, none⟩ = some (.int .i64 c) ∧ W.cell? ⟨w.heap.size + 1, 0, none⟩ = some (.string ⟨#[]⟩) ∧ W.cell? ⟨w.heap.size + 1, 1, none⟩ = some (.int .i64 0) ∧ ∀ j, W.frozen? ⟨w.heap.size + 1, j, none⟩ = false := by rw [hW]; simp
  clear hW
  rw [hWs] at hb1
  have hz1 := hb1.size
  go_wp2_with fail
  have hE : Own 3 (w1.alloc (.cells #[] 3)) (w.heap.size + 1 + 1) w1.heap.size (.slice (some ⟨w1.heap.size, 0, none⟩) 0 0) [] := ⟨0, #[], (0, 0), rfl, by omega, heap_alloc_new w1 _, .inl rfl, Nat.le_refl _, Nat.zero_le _, rfl, rfl⟩
  go_loopw [8, 9] (fun v i w' => ∃ j g cap : Nat, j ≤ n ∧ i = .int .i64 ((n : Int) - 1 - j) ∧ v = .slice (some ⟨g, 0, none⟩) j cap ∧ Hid (Own 3 w' (w.heap.size + 1 + 1) g (.slice (some ⟨g, 0, none⟩) j cap) (places (fun j => n - 1 - j) j)) ∧ Below (w.heap.size + 1 + 1) W w') (fun v _ _ => n - (sliceLen v))
  case atStart => exact ⟨0, w1.heap.size, 0, Nat.zero_le _, by simp, rfl, hE, hb1.alloc (by omega) _⟩
  case round =>
    obtain ⟨j, g, cap, hj, rfl, rfl, hO, hB⟩ := hrel
    have hbl := hO.out.base_le
    have hBs := hB.size
    by_cases hlt : j < n
    · obtain ⟨i0, hi0, hz0, hz1, hz2⟩ := info_parts info_int
      have hpl := places_length (fun j => n - 1 - j) j
      have hl63 : (places (fun j => n - 1 - j) j).length + 1 ≤ maxLen ∧ ((places (fun j => n - 1 - j) j).length + 1) * 8 ≤ 140737488355328 := by rw [hpl]; unfold maxLen; omega
      have HN : Hid (places (fun j => n - 1 - j) j ++ [.int .i64 ((n : Int) - 1 - j)] = places (fun j => n - 1 - j) (j + 1)) := by
        have e : (((n : Int) - 1 - j) : Int) = (((fun j => n - 1 - j) j : Nat) : Int) := by simp; omega
        rw [e]
        rfl
      clear hpl
      go_wp2_with (at_builtin; refine wpList_append1 rfl _ _ 24 rfl i0 (.int .i64 0) 8 Try.underlying24 hi0 hz0 hz1 hz2 rfl rfl (hO.out.alloc _) ⟨wr.heap.size, 0, none⟩ 1 (.int .i64 ((n : Int) - 1 - j)) rfl ?c1 rfl rfl hl63.1 hl63.2 ?_)
      case c1 => simp
      · intro g1 v1 w2 hO1 hg1 hgr
        rw [HN.out] at hO1
        have hB1 : Below (w.heap.size + 1 + 1) W w2 := (hB.alloc (by omega) _).grown hgr (by simp; omega) (fun k hk => by cases hk; exact hbl)
        obtain ⟨cap1, hv1⟩ := hO1.form
        rw [places_length] at hv1
        rw [hv1]
        rw [hv1] at hO1
        have HO1 : Hid (Own 3 w2 (w.heap.size + 1 + 1) g1 (.slice (some ⟨g1, 0, none⟩) (j + 1) cap1) (places (fun j => n - 1 - j) (j + 1))) := hO1
        clear hO1 hg1 hgr hv1 hi0 hz0 hz1 hz2 hl63
        go_wp2_with fail
        go_roundw
        case rel => exact ⟨j + 1, g1, cap1, by omega, by go_num, rfl, HO1, hB1⟩
        case measure => simp [sliceLen]; omega
    · obtain rfl : n = j := by omega
      have k0 : wr.cell? ⟨w.heap.size, 0, none⟩ = some (.string s) := (hB.cell (p := ⟨w.heap.size, 0, none⟩) (by simp; omega)).trans hcW.1
      have k1 : wr.cell? ⟨w.heap.size, 1, none⟩ = some (.int .i64 c) := (hB.cell (p := ⟨w.heap.size, 1, none⟩) (by simp; omega)).trans hcW.2.1
      go_wp2_with fail
      refine (l01Put_any s c x n (fun j => n - 1 - j) g cap (s.data.toList.map fun b => (b.toNat : Int)) wr q1 rfl HI.out (by omega) h4 hx (by omega) hO.out.lt (fun i hi => ⟨?_, by simp; omega⟩)).mono ?_
      · rw [hO.out.cell i (by rw [places_length]; exact hi), places_get]
      rintro e w2 ⟨rfl, hb2⟩
      have hB2 : Below (w.heap.size + 1 + 1) W w2 := hB.trans (hb2.mono (by omega))
      have r0 : w2.cell? ⟨w.heap.size + 1, 0, none⟩ = some (.string ⟨#[]⟩) := (hB2.cell (p := ⟨w.heap.size + 1, 0, none⟩) (by simp)).trans hcW.2.2.1
      have r1 : w2.cell? ⟨w.heap.size + 1, 1, none⟩ = some (.int .i64 0) := (hB2.cell (p := ⟨w.heap.size + 1, 1, none⟩) (by simp)).trans hcW.2.2.2.1
      have rf : ∀ i, w2.frozen? ⟨w.heap.size + 1, i, none⟩ = false := fun i => (hB2.frozen (p := ⟨w.heap.size + 1, i, none⟩) (by simp)).trans (hcW.2.2.2.2 i)
      have hBB : Below w.heap.size w w2 := hBW.trans (hB2.mono (by omega))
      go_wp2_with fail
      refine bodyPost_ret (v := .tuple #[.agg #[.string (putOut s c x (fun j => n - 1 - j) n), .int .i64 ((c + n : Nat) : Int)], .bool true]) ?_ rfl ⟨rfl, ?_⟩
      · simp [results, Try.results60, go_sem, r0, r1, putOut]
      · refine Below.setCell (Below.setCell hBB ?_ _) ?_ _
        · simp
        · simp

set_option maxRecDepth 100000 in
set_option maxHeartbeats 400000 in
theorem specPutCode_no (s : ByteArray) (c x n : Int) (w : World) (hs : s.size ≤ maxLen) (hc1 : -9223372036854775808 ≤ c) (hc2 : c ≤ 9223372036854775807) (h : ¬ May s c x n) :
    Calls Try.prog 60 #[.agg #[.string s, .int .i64 c], .int .i64 x, .int .i64 n] w fun e w' => e = .returned (.tuple #[.agg #[.string ⟨#[]⟩, .int .i64 0], .bool false]) ∧ Below w.heap.size w w' := by
  have H : Hid (¬ May s c x n) := h
  clear h
  go_enter Try.func60, Try.ntmps60
  go_wp2_with fail
  refine (l01May_no s c x n _ hs hc1 hc2 H.out).mono ?_
  rintro e w1 ⟨rfl, hb1⟩
  obtain ⟨k1, f1⟩ := bcell hb1
  have hz : w.heap.size + 1 < w1.heap.size := by have := hb1.size; simp at this; omega
  have hB : Below w.heap.size w w1 := bnext (bal (bstart _ _) _) hb1
  go_wp2_with fail
  refine bodyPost_ret (v := .tuple #[.agg #[.string ⟨#[]⟩, .int .i64 0], .bool false]) (by simp [results, Try.results60, go_sem, k1]) rfl ⟨rfl, ?_⟩
  refine Below.setCell (Below.setCell hB ?_ _) ?_ _
  · simp
  · simp

end Go.Proofs.Ytbcnlggkoidmmaa
