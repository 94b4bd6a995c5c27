/-
  The walks of the program's test of a right Out.
  The walk of the model's 'in least .. most'.
  The walks of what tells whether bits may be put, in the document's model and in the program.
  Bytes that a call made itself, by their numbers.
  The walk of what puts bits, in the document's model.
  The walks of PutBits and PutCode in the document's model.
  The walks of PutBits in the document's model.
-/
import Derived.Test.YtbcnlggkoidmmabGreatDoorRows
import Derived.Test.YtbcnlggkoidmmabGreatDoorPk01
import Derived.Test.YtbcnlggkoidmmabGreatDoorPk07
import Derived.Test.YtbcnlggkoidmmabGreatDoorPk03
import Derived.WalkKit
import Derived.ProofKit
import Derived.WalkLawsBesides
import Derived.Deep.QuietTactic
import Derived.BigQuiet
import Derived.Lib.SmallJoins
import Derived.Deep.RegionHeld3
import Derived.Deep.RegionWith
import Derived.Deep.DrawnRows
import Derived.BigRegion
namespace Go.Proofs.YtbcnlggkoidmmabGreatDoor
open Go.RowKit Go.Joins OutMath

theorem bytesFor_any (c : Int) (w : World) (h1 : 0 ≤ c) (h2 : c ≤ 96000) :
    Calls Tryz.prog 82 #[.int .i64 c] w fun e w' => e = .returned (.int .i64 ((c + 7) / 8)) ∧ w' = w := by
  go_enter Tryz.func82, Tryz.ntmps82
  go_wp2
  go_ret
  exact ⟨rfl, rfl⟩

set_option maxHeartbeats 400000 in
theorem implOut_fit0 (s : ByteArray) (c : Int) (w : World) (h : Fits s c) (hc : c % 8 = 0) :
    Calls Tryz.prog 57 #[.agg #[.string s, .int .i64 c]] w fun e w' => e = .returned (.bool true) ∧ Below w.heap.size w w' := by
  obtain ⟨h1, h2, h3, h4⟩ := h
  have d2 : decide (c < 0) = false := by simp; omega
  have d3 : decide ((96000 : Int) < c) = false := by simp; omega
  have d4 : ((s.size : Int) != (c + 7) / 8) = false := by simp; omega
  have d5 : (c % 8 == 0) = true := by simp; omega
  have ht : c.tmod 8 = c % 8 := Int.tmod_eq_emod_of_nonneg h2
  have hc9 : c ≤ 96000 := by omega
  clear h4 hc
  go_enter Tryz.func57, Tryz.ntmps57
  go_wp2
  go_quiet ((go_at_call 82; exact Calls.quiet_of_same (bytesFor_any _ _ (by omega) (by omega))))
  go_wp2
  go_ret
  exact ⟨rfl, (below_alloc1 _ _).trans (below_draws _ _ _)⟩

set_option maxHeartbeats 400000 in
theorem implOut_fit1 (s : ByteArray) (c : Int) (w : World) (h : Fits s c) (hc : ¬ c % 8 = 0) :
    Calls Tryz.prog 57 #[.agg #[.string s, .int .i64 c]] w fun e w' => e = .returned (.bool (lastOk s c)) ∧ Below w.heap.size w w' := by
  obtain ⟨h1, h2, h3, h4⟩ := h
  have d2 : decide (c < 0) = false := by simp; omega
  have d3 : decide ((96000 : Int) < c) = false := by simp; omega
  have d4 : ((s.size : Int) != (c + 7) / 8) = false := by simp; omega
  have d5 : (c % 8 == 0) = false := by simp; omega
  have d6 : 0 < s.size := by omega
  have ht : c.tmod 8 = c % 8 := Int.tmod_eq_emod_of_nonneg h2
  have hc9 : c ≤ 96000 := by omega
  have hix := index_last s d6
  have hlt := last_lt s
  have hlo := lastOk_div s c
  clear h4 hc
  go_enter Tryz.func57, Tryz.ntmps57
  go_wp2
  go_quiet ((go_at_call 82; exact Calls.quiet_of_same (bytesFor_any _ _ (by omega) (by omega))))
  have HL : Hid (lastOk s c = (((last s : Nat) : Int) / 2 ^ (c % 8).toNat == 0)) := hlo
  clear hlo
  go_wp2
  go_ret
  exact ⟨ret_b HL.out.symm, (below_alloc1 _ _).trans (below_draws _ _ _)⟩

set_option maxHeartbeats 400000 in
theorem implOut_no (s : ByteArray) (c : Int) (w : World) (hs : s.size ≤ maxLen) (hc1 : -9223372036854775808 ≤ c) (hc2 : c ≤ 9223372036854775807) (h : ¬ Fits s c) :
    Calls Tryz.prog 57 #[.agg #[.string s, .int .i64 c]] w fun e w' => e = .returned (.bool false) ∧ Below w.heap.size w w' := by
  unfold maxLen at hs
  unfold Fits at h
  by_cases h2 : c < 0
  · have d2 : decide (c < 0) = true := by simpa using h2
    clear h
    go_enter Tryz.func57, Tryz.ntmps57
    go_wp2
    go_quiet (fail)
    go_wp2
    go_ret
    exact ⟨rfl, (below_alloc1 _ _).trans (below_draws _ _ _)⟩
  · have d2 : decide (c < 0) = false := by simpa using h2
    by_cases h3 : (96000 : Int) < c
    · have d3 : decide ((96000 : Int) < c) = true := by simpa using h3
      clear h
      go_enter Tryz.func57, Tryz.ntmps57
      go_wp2
      go_quiet (fail)
      go_wp2
      go_ret
      exact ⟨rfl, (below_alloc1 _ _).trans (below_draws _ _ _)⟩
    · have d3 : decide ((96000 : Int) < c) = false := by simpa using h3
      have d4 : ((s.size : Int) != (c + 7) / 8) = true := by rw [bne_iff_ne]; omega
      clear h
      go_enter Tryz.func57, Tryz.ntmps57
      go_wp2
      go_quiet ((go_at_call 82; exact Calls.quiet_of_same (bytesFor_any _ _ (by omega) (by omega))))
      go_wp2
      go_ret
      exact ⟨rfl, (below_alloc1 _ _).trans (below_draws _ _ _)⟩

theorem implOut_any (s : ByteArray) (c : Int) (w : World) (hs : s.size ≤ maxLen) (hc1 : -9223372036854775808 ≤ c) (hc2 : c ≤ 9223372036854775807) :
    Calls Tryz.prog 57 #[.agg #[.string s, .int .i64 c]] w fun e w' => e = .returned (.bool (outB s c)) ∧ Below w.heap.size w w' := by
  by_cases h : Fits s c
  · by_cases hc : c % 8 = 0
    · rw [outB_fit0 s c h hc]; exact implOut_fit0 s c w h hc
    · rw [outB_fit1 s c h hc]; exact implOut_fit1 s c w h hc
  · rw [outB_no s c h]; exact implOut_no s c w hs hc1 hc2 h

end Go.Proofs.YtbcnlggkoidmmabGreatDoor

namespace Go.Proofs.YtbcnlggkoidmmabGreatDoor
open Go.RowKit

theorem in_yes (x a b : Int) (w : World) (h1 : a ≤ x) (h2 : x ≤ b) :
    Calls Tryz.prog 53 #[.int .i64 x, .int .i64 a, .int .i64 b] w fun e w' => e = .returned (.bool true) ∧ w' = w := by
  go_enter Tryz.func53, Tryz.ntmps53
  go_wp2
  go_ret
  exact ⟨rfl, rfl⟩

theorem in_no (x a b : Int) (w : World) (h : ¬ (a ≤ x ∧ x ≤ b)) :
    Calls Tryz.prog 53 #[.int .i64 x, .int .i64 a, .int .i64 b] w fun e w' => e = .returned (.bool false) ∧ w' = w := by
  by_cases h1 : a ≤ x
  · have h2 : ¬ x ≤ b := fun k => h ⟨h1, k⟩
    clear h
    go_enter Tryz.func53, Tryz.ntmps53
    go_wp2
    go_ret
    exact ⟨rfl, rfl⟩
  · clear h
    go_enter Tryz.func53, Tryz.ntmps53
    go_wp2
    go_ret
    exact ⟨rfl, rfl⟩

end Go.Proofs.YtbcnlggkoidmmabGreatDoor

namespace Go.Proofs.YtbcnlggkoidmmabGreatDoor
open Go.RowKit Go.Joins OutMath

set_option maxHeartbeats 400000 in
theorem l01May_yes (s : ByteArray) (c x n : Int) (w : World) (hs : s.size ≤ maxLen) (hc1 : -9223372036854775808 ≤ c) (hc2 : c ≤ 9223372036854775807) (h : May s c x n) :
    Calls Tryz.prog 78 #[.agg #[.string s, .int .i64 c], .int .i64 x, .int .i64 n] w fun e w' => e = .returned (.bool true) ∧ Below w.heap.size w w' := by
  obtain ⟨h1, h2, h3, h4, h5, h6⟩ := h
  have hp := p2_61 (n := n.toNat) (by omega)
  have hq := p2_pos n.toNat
  have d1 : decide (c ≤ 96000 - n) = true := by simp; omega
  go_enter Tryz.func78, Tryz.ntmps78
  go_wp2_with fail
  refine (specOut_any s c _ hs hc1 hc2).mono ?_
  rintro e w1 ⟨rfl, hb1⟩
  rw [h1]
  obtain ⟨k1, f1⟩ := bcell hb1
  go_wp2_with fail
  refine (in_yes _ _ _ _ (by omega) (by omega)).mono ?_
  rintro e w2 ⟨rfl, rfl⟩
  go_wp2_with fail
  refine (pow_int _ _ (by omega) (by omega)).mono ?_
  rintro e w2 ⟨rfl, rfl⟩
  go_wp2_with fail
  refine (in_yes _ _ _ _ (by omega) (by omega)).mono ?_
  rintro e w2 ⟨rfl, rfl⟩
  go_wp2_with fail
  go_ret
  exact ⟨rfl, bnext (bstart _ _) hb1⟩

set_option maxHeartbeats 800000 in
theorem l01May_no (s : ByteArray) (c x n : Int) (w : World) (hs : s.size ≤ maxLen) (hc1 : -9223372036854775808 ≤ c) (hc2 : c ≤ 9223372036854775807) (h : ¬ May s c x n) :
    Calls Tryz.prog 78 #[.agg #[.string s, .int .i64 c], .int .i64 x, .int .i64 n] w fun e w' => e = .returned (.bool false) ∧ Below w.heap.size w w' := by
  unfold May at h
  cases h1 : outB s c
  · clear h
    go_enter Tryz.func78, Tryz.ntmps78
    go_wp2_with fail
    refine (specOut_any s c _ hs hc1 hc2).mono ?_
    rintro e w1 ⟨rfl, hb1⟩
    rw [h1]
    go_wp2_with fail
    go_ret
    exact ⟨rfl, bnext (bstart _ _) hb1⟩
  · by_cases h2 : 0 ≤ n ∧ n ≤ 24
    · obtain ⟨h3, h4⟩ := h2
      have hp := p2_61 (n := n.toNat) (by omega)
      have hq := p2_pos n.toNat
      by_cases h5 : 0 ≤ x ∧ x ≤ p2 n.toNat - 1
      · have d1 : decide (c ≤ 96000 - n) = false := by
          simp
          refine Classical.byContradiction fun hh => h ⟨h1, h3, h4, h5.1, by omega, by omega⟩
        clear h
        go_enter Tryz.func78, Tryz.ntmps78
        go_wp2_with fail
        refine (specOut_any s c _ hs hc1 hc2).mono ?_
        rintro e w1 ⟨rfl, hb1⟩
        rw [h1]
        obtain ⟨k1, f1⟩ := bcell hb1
        go_wp2_with fail
        refine (in_yes _ _ _ _ (by omega) (by omega)).mono ?_
        rintro e w2 ⟨rfl, rfl⟩
        go_wp2_with fail
        refine (pow_int _ _ (by omega) (by omega)).mono ?_
        rintro e w2 ⟨rfl, rfl⟩
        go_wp2_with fail
        refine (in_yes _ _ _ _ (by omega) (by omega)).mono ?_
        rintro e w2 ⟨rfl, rfl⟩
        go_wp2_with fail
        go_ret
        exact ⟨rfl, bnext (bstart _ _) hb1⟩
      · have H5 : Hid (¬ (0 ≤ x ∧ x ≤ p2 n.toNat - 1)) := h5
        clear h h5
        go_enter Tryz.func78, Tryz.ntmps78
        go_wp2_with fail
        refine (specOut_any s c _ hs hc1 hc2).mono ?_
        rintro e w1 ⟨rfl, hb1⟩
        rw [h1]
        go_wp2_with fail
        refine (in_yes _ _ _ _ (by omega) (by omega)).mono ?_
        rintro e w2 ⟨rfl, rfl⟩
        go_wp2_with fail
        refine (pow_int _ _ (by omega) (by omega)).mono ?_
        rintro e w2 ⟨rfl, rfl⟩
        go_wp2_with fail
        refine (in_no _ _ _ _ H5.out).mono ?_
        rintro e w2 ⟨rfl, rfl⟩
        go_wp2_with fail
        go_ret
        exact ⟨rfl, bnext (bstart _ _) hb1⟩
    · have H2 : Hid (¬ (0 ≤ n ∧ n ≤ 24)) := h2
      clear h h2
      go_enter Tryz.func78, Tryz.ntmps78
      go_wp2_with fail
      refine (specOut_any s c _ hs hc1 hc2).mono ?_
      rintro e w1 ⟨rfl, hb1⟩
      rw [h1]
      go_wp2_with fail
      refine (in_no _ _ _ _ H2.out).mono ?_
      rintro e w2 ⟨rfl, rfl⟩
      go_wp2_with fail
      go_ret
      exact ⟨rfl, bnext (bstart _ _) hb1⟩

end Go.Proofs.YtbcnlggkoidmmabGreatDoor

namespace Go.Proofs.YtbcnlggkoidmmabGreatDoor
open Go.RowKit Go.Joins OutMath PutMath

theorem info_u8 : (Tryz.prog.info? 5).map (fun i => (i.zero, i.size, i.bytes)) = some (some (.int .u8 0), 1, 1) := by kernel_rfl
theorem info_int : (Tryz.prog.info? 3).map (fun i => (i.zero, i.size, i.bytes)) = some (some (.int .i64 0), 1, 8) := by kernel_rfl

def u8s (xs : List Int) : List Value := xs.map (Value.int .u8)

theorem u8s_set (ys : List Int) (m : Nat) (z : Int) : (u8s ys).set m (.int .u8 z) = u8s (ys.set m z) := by unfold u8s; rw [List.map_set]
theorem u8s_snoc (ys : List Int) (z : Int) : u8s ys ++ [.int .u8 z] = u8s (ys ++ [z]) := by simp [u8s]
theorem u8s_length (ys : List Int) : (u8s ys).length = ys.length := by simp [u8s]
theorem own_u8 {e : TypeId} {w : World} {base g : Nat} {v : Value} {ys : List Int} (hO : Own e w base g v (u8s ys)) (m : Nat) (hm : m < ys.length) : w.cell? ⟨g, m, none⟩ = some (.int .u8 (ys.getD m 0)) ∧ w.frozen? ⟨g, m, none⟩ = false := by
  have h' : m < (u8s ys).length := by rw [u8s_length]; exact hm
  refine ⟨?_, hO.free m h'⟩
  rw [hO.cell m h']
  simp [u8s, hm]

/-- Behind the store of a bit. -/
theorem own_bstep {e : TypeId} {w : World} {base g : Nat} {v : Value} {ys : List Int} {k m : Nat} {y b : Int} (hO : Own e w base g v (u8s (pre ys k))) (hI : Inv ys k) (hm : k / 8 = m) (hy : y = (pre ys k).getD m 0) :
    Own e (w.setCell ⟨g, m, none⟩ (.int .u8 (y + b * p2 (k % 8)))).drew base g v (u8s (bstep ys k b)) := by
  subst hm hy
  have hl : k / 8 < (u8s (pre ys k)).length := by rw [u8s_length, pre_len hI]; omega
  have h := hO.set (k / 8) hl (.int .u8 ((pre ys k).getD (k / 8) 0 + b * p2 (k % 8)))
  rw [u8s_set] at h
  exact h.keep rfl

end Go.Proofs.YtbcnlggkoidmmabGreatDoor

namespace Go.Proofs.YtbcnlggkoidmmabGreatDoor
open Go.RowKit Go.Joins OutMath PutMath

attribute [local go_sem ↓] Go.wp_at_zero Go.wp_at_succ

set_option maxHeartbeats 1600000 in
theorem l01Put_any (s : ByteArray) (c : Nat) (x : Int) (n : Nat) (pl : Nat → Nat) (gp cp : Nat) (xs : List Int) (w : World)
    (hs : s.size ≤ 12000) (hxs : xs = s.data.toList.map fun b => (b.toNat : Int)) (hi : Inv xs c) (hc : c + n ≤ 96000) (hx0 : 0 ≤ x) (hx1 : x ≤ 16777216) (hn : n ≤ 24) (hgp : gp < w.heap.size)
    (hpl : ∀ j, j < n → w.cell? ⟨gp, j, none⟩ = some (.int .i64 (pl j)) ∧ pl j ≤ 24) :
    Calls Tryz.prog 79 #[.agg #[.string s, .int .i64 c], .int .i64 x, .slice (some ⟨gp, 0, none⟩) n cp] w fun e w' => e = .returned (.agg #[.string (strOfNums (puts xs c (fun j => bitOf x (pl j)) n)), .int .i64 ((c + n : Nat) : Int)]) ∧ Below w.heap.size w w' := by
  have hcv := fun w' => run_bytes_of_string (P := Tryz.prog) w' 9 86 5 s Tryz.underlying9 Tryz.underlying86 Tryz.underlying5
  have HP : Hid (∀ j, j < n → w.cell? ⟨gp, j, none⟩ = some (.int .i64 (pl j)) ∧ pl j ≤ 24) := hpl
  have HX : Hid (xs = s.data.toList.map fun b => (b.toNat : Int)) := hxs
  clear hpl hxs
  go_enter Tryz.func79, Tryz.ntmps79
  go_wp2_with fail
  obtain ⟨W, hW⟩ : ∃ W, W = (w.alloc (.cells #[.string s, .int .i64 c] 27)).alloc (.cells #[.string ⟨#[]⟩, .int .i64 0] 27) := ⟨_, rfl⟩
  have hWs : W.heap.size = w.heap.size + 1 + 1 := by rw [hW]; simp
  have hBW : Below w.heap.size w W := by rw [hW]; exact bal (bstart _ _) _
  have hcW : W.cell? ⟨w.heap.size + 1, 0, none⟩ = some (.string ⟨#[]⟩) ∧ W.cell? ⟨w.heap.size + 1, 1, none⟩ = some (.int .i64 0) ∧ ∀ j, W.frozen? ⟨w.heap.size + 1, j, none⟩ = false := by rw [hW]; simp
  have hO0 := own_of_bytes (base := w.heap.size + 1 + 1) W 5 s (by unfold maxLen; omega) (by omega)
  rw [hWs] at hO0
  rw [← hW]
  have HO0 : Hid (Own 5 (W.drew.alloc (.cells (bytesRow s (grownCap W s.size 0 5)) 5 ((bytesRow s (grownCap W s.size 0 5)).size, (bytesRow s (grownCap W s.size 0 5)).size + 1))) (w.heap.size + 1 + 1) (w.heap.size + 1 + 1) (.slice (some ⟨w.heap.size + 1 + 1, 0, none⟩) s.size (grownCap W s.size 0 5)) (s.data.toList.map fun b => .int .u8 b.toNat)) := hO0
  clear hO0 hW hcv
  go_loopw [7, 8, 9] (fun v k i w' => ∃ j g cap L : Nat, j ≤ n ∧ i = .int .i64 j ∧ k = .int .i64 ((c : Int) + j) ∧ v = .slice (some ⟨g, 0, none⟩) L cap ∧ Hid (Own 5 w' (w.heap.size + 1 + 1) g (.slice (some ⟨g, 0, none⟩) L cap) (u8s (puts xs c (fun j => bitOf x (pl j)) j))) ∧ Below (w.heap.size + 1 + 1) W w') (fun _ _ i _ => n - (intOf i).toNat)
  case atStart =>
    refine ⟨0, w.heap.size + 1 + 1, grownCap W s.size 0 5, s.size, Nat.zero_le _, rfl, by simp, rfl, ?_, ?_⟩
    · have e : u8s (puts xs c (fun j => bitOf x (pl j)) 0) = s.data.toList.map fun b => .int .u8 b.toNat := by
        show u8s xs = _
        rw [HX.out]
        simp [u8s]
      rw [e]
      exact HO0.out
    · exact ((Below.refl _ _).alloc (by omega) _).drew
  case round =>
    obtain ⟨j, g, cap, L, hj, rfl, rfl, rfl, hO, hB⟩ := hrel
    have hI := inv_puts (f := fun j => bitOf x (pl j)) hi (fun k => bitOf_01 _ _) j
    obtain ⟨ys, hys⟩ : ∃ ys, ys = puts xs c (fun j => bitOf x (pl j)) j := ⟨_, rfl⟩
    rw [← hys] at hI hO
    have HN : Hid (puts xs c (fun j => bitOf x (pl j)) (j + 1) = bstep ys (c + j) (bitOf x (pl j))) := by rw [hys]; rfl
    have HYS : Hid (puts xs c (fun j => bitOf x (pl j)) j = ys) := hys.symm
    clear hys
    have hlen : L = ys.length := by
      obtain ⟨cp', hv⟩ := hO.out.form
      simp [u8s] at hv
      exact hv.1
    have HI : Hid (Inv ys (c + j)) := hI
    have hL8 : L = (c + j + 7) / 8 := by rw [hlen]; exact hI.1
    clear hI hlen
    by_cases hlt : j < n
    · obtain ⟨hcp0, hp24⟩ := HP.out j hlt
      have hcp : wr.cell? ⟨gp, j, none⟩ = some (.int .i64 (pl j)) := (hB.cell (p := ⟨gp, j, none⟩) (by simp; omega)).trans ((hBW.cell (p := ⟨gp, j, none⟩) hgp).trans hcp0)
      clear hcp0
      have hbw := bitOf_walk x (pl j) hx0 hx1
      have hbw' := bitOf_walk' x (pl j) hx0
      have ht : ((c : Int) + (j : Int)).tmod 8 = ((c : Int) + (j : Int)) % 8 := Int.tmod_eq_emod_of_nonneg (by omega)
      have hpp := p2_pos (pl j)
      obtain ⟨m, hm1, hm2⟩ : ∃ m, 8 * m ≤ c + j ∧ c + j < 8 * m + 8 := ⟨(c + j) / 8, by omega, by omega⟩
      have em : (c + j) / 8 = m := by omega
      have HE : Hid ((c + j) / 8 = m) := em
      clear em
      have hp8 := PutMath.p2_8 (r := (c + j) % 8) (by omega)
      have hq8 := p2_pos ((c + j) % 8)
      have h01 := bitOf_01 x (pl j)
      have hmm := mul01 _ _ h01.1 h01.2 hq8
      have e1 : IntKind.i64.wrap ((m : Int) + 1 - 1) = m := by rw [IntKind.wrap_i64]; omega
      have e2 : IntKind.i64.wrap (m : Int) = m := by rw [IntKind.wrap_i64]; omega
      have b1 : (0 : Int) ≤ m := by omega
      have b2 : (m : Int) < (m : Int) + 1 := by omega
      have hbl := hO.out.base_le
      have hyb := pre_last HI.out
      rw [HE.out] at hyb
      obtain ⟨y, hy⟩ : ∃ y, y = (pre ys (c + j)).getD m 0 := ⟨_, rfl⟩
      rw [← hy] at hyb
      have HY : Hid (y = (pre ys (c + j)).getD m 0) := hy
      clear hy
      by_cases h8 : (c + j) % 8 = 0
      · have d8 : (((c : Int) + (j : Int)) % 8 == 0) = true := by simp; omega
        obtain rfl : L = m := by omega
        have HPR : Hid (u8s ys ++ [.int .u8 0] = u8s (pre ys (c + j))) := by unfold pre; rw [if_pos h8]; exact u8s_snoc ys 0
        have hl63 : (u8s ys).length + 1 ≤ maxLen ∧ ((u8s ys).length + 1) * 1 ≤ 140737488355328 := by rw [u8s_length, HI.out.1]; unfold maxLen; omega
        have hul : (u8s ys).length = L := by rw [u8s_length, HI.out.1]; omega
        have HUL : Hid ((u8s ys).length = L) := hul
        clear hL8 hul h8
        obtain ⟨i0, hi0, hz0, hz1, hz2⟩ := info_parts info_u8
        go_wp2_with (at_builtin; refine wpList_append1 rfl _ _ 86 rfl i0 (.int .u8 0) 1 Tryz.underlying86 hi0 hz0 hz1 hz2 rfl rfl (hO.out.alloc _) ⟨wr.heap.size, 0, none⟩ 1 (.int .u8 0) rfl ?c1 rfl rfl hl63.1 hl63.2 ?_)
        case c1 => simp
        · intro g1 v1 w1 hO1 hg1 hgr
          have hO2 : Own 5 w1 (w.heap.size + 1 + 1) g1 v1 (u8s (pre ys (c + j))) := by rw [← HPR.out]; exact hO1
          have hB1 : Below (w.heap.size + 1 + 1) W w1 := (hB.alloc (by have := hB.size; omega) _).grown hgr (by have := hB.size; simp; omega) (fun k hk => by cases hk; exact hbl)
          obtain ⟨cap1, hv1⟩ := hO2.form
          have hpl1 : (u8s (pre ys (c + j))).length = L + 1 := by rw [u8s_length, pre_len HI.out, HE.out]
          rw [hpl1] at hv1
          rw [hv1]
          rw [hv1] at hO2
          have hcy := own_u8 hO2 L (by have := pre_len HI.out; rw [HE.out] at this; omega)
          rw [← HY.out] at hcy
          obtain ⟨hcy1, hcy2⟩ := hcy
          have HO2 : Hid (Own 5 w1 (w.heap.size + 1 + 1) g1 (.slice (some ⟨g1, 0, none⟩) (L + 1) cap1) (u8s (pre ys (c + j)))) := hO2
          have hcp1 : w1.cell? ⟨gp, j, none⟩ = some (.int .i64 (pl j)) := (hB1.cell (p := ⟨gp, j, none⟩) (by simp; omega)).trans ((hBW.cell (p := ⟨gp, j, none⟩) hgp).trans (HP.out j hlt).1)
          have hbl1 := hO1.base_le
          clear hO1 hg1 hgr hpl1 hv1 hO2 hO hB hcp hl63 hi0 hz0 hz1 hz2
          go_wp2_with fail
          refine (pow_any (pl j) _ (by omega)).mono ?_
          rintro e w2 ⟨rfl, rfl⟩
          go_wp2_with fail
          go_region_with (go_at_call 48; refine (pow_int _ _ ?_ ?_).mono ?_; omega; omega; rintro e w' ⟨rfl, rfl⟩)
          all_goals
            go_wp2_with fail
            go_roundw
            case rel => exact ⟨j + 1, g1, cap1, L + 1, by omega, by go_num, by go_num, rfl, by rw [HN.out]; exact own_bstep HO2.out HI.out HE.out HY.out, (hB1.setCell hbl1 _).drew⟩
            case measure => simp [intOf]; omega
      · have d8 : (((c : Int) + (j : Int)) % 8 == 0) = false := by simp; omega
        obtain rfl : L = m + 1 := by omega
        have hpr : pre ys (c + j) = ys := by unfold pre; rw [if_neg h8]
        have hcy := own_u8 hO.out m (by have := pre_len HI.out; rw [HE.out, hpr] at this; omega)
        have hO2 := hO.out
        rw [← hpr] at hO2
        have HO2 : Hid (Own 5 wr (w.heap.size + 1 + 1) g (.slice (some ⟨g, 0, none⟩) (m + 1) cap) (u8s (pre ys (c + j)))) := hO2
        have hyy := HY.out
        rw [hpr] at hyy
        rw [← hyy] at hcy
        obtain ⟨hcy1, hcy2⟩ := hcy
        clear hL8 hpr hO2 hyy
        go_wp2_with fail
        refine (pow_any (pl j) _ (by omega)).mono ?_
        rintro e w1 ⟨rfl, rfl⟩
        go_wp2_with fail
        go_region_with (go_at_call 48; refine (pow_int _ _ ?_ ?_).mono ?_; omega; omega; rintro e w' ⟨rfl, rfl⟩)
        all_goals
          go_wp2_with fail
          go_roundw
          case rel => exact ⟨j + 1, g, cap, m + 1, by omega, by go_num, by go_num, rfl, by rw [HN.out]; exact own_bstep HO2.out HI.out HE.out HY.out, (hB.setCell hbl _).drew⟩
          case measure => simp [intOf]; omega
    · obtain rfl : j = n := by omega
      have kc := own_string (P := Tryz.prog) ys 86 9 Tryz.underlying86 Tryz.underlying5 Tryz.underlying9 hO.out
      have r0 : wr.cell? ⟨w.heap.size + 1, 0, none⟩ = some (.string ⟨#[]⟩) := (hB.cell (p := ⟨w.heap.size + 1, 0, none⟩) (by simp)).trans hcW.1
      have r1 : wr.cell? ⟨w.heap.size + 1, 1, none⟩ = some (.int .i64 0) := (hB.cell (p := ⟨w.heap.size + 1, 1, none⟩) (by simp)).trans hcW.2.1
      have rf : ∀ i, wr.frozen? ⟨w.heap.size + 1, i, none⟩ = false := fun i => (hB.frozen (p := ⟨w.heap.size + 1, i, none⟩) (by simp)).trans (hcW.2.2 i)
      have hBB : Below w.heap.size w wr := hBW.trans (hB.mono (by omega))
      clear hL8
      go_wp2_with fail
      refine bodyPost_ret (v := .agg #[.string (strOfNums (puts xs c (fun j => bitOf x (pl j)) j)), .int .i64 ((c + j : Nat) : Int)]) ?_ rfl ⟨rfl, ?_⟩
      · rw [HYS.out]
        simp [results, Tryz.results79, go_sem, r0, r1]
      · refine Below.setCell (Below.setCell hBB ?_ _) ?_ _
        · simp
        · simp
end Go.Proofs.YtbcnlggkoidmmabGreatDoor

namespace Go.Proofs.YtbcnlggkoidmmabGreatDoor
open Go.RowKit Go.Joins OutMath PutMath

/-- The first k of the places. -/
def places (pl : Nat → Nat) : Nat → List Value
  | 0 => []
  | k + 1 => places pl k ++ [.int .i64 (pl k)]
theorem places_length (pl : Nat → Nat) : ∀ k, (places pl k).length = k
  | 0 => rfl
  | k + 1 => by simp [places, places_length pl k]
theorem places_get (pl : Nat → Nat) : ∀ k j (h : j < (places pl k).length), (places pl k)[j] = .int .i64 (pl j)
  | 0, j, h => by simp [places] at h
  | k + 1, j, h => by
    have hl := places_length pl k
    by_cases hj : j < k
    · simp only [places]
      rw [List.getElem_append_left (by omega)]
      exact places_get pl k j (by omega)
    · simp only [places] at h ⊢
      obtain rfl : j = k := by simp [hl] at h; omega
      rw [List.getElem_append_right (by omega)]
      simp

/-- A slice's length. -/
def sliceLen : Value → Nat
  | .slice _ n _ => n
  | _ => 0
end Go.Proofs.YtbcnlggkoidmmabGreatDoor

namespace Go.Proofs.YtbcnlggkoidmmabGreatDoor
open Go.RowKit Go.Joins OutMath PutMath

set_option maxHeartbeats 800000 in
theorem specPutBits_yes (s : ByteArray) (c : Nat) (x : Int) (n : Nat) (w : World) (h : May s c x n) :
    Calls Tryz.prog 46 #[.agg #[.string s, .int .i64 c], .int .i64 x, .int .i64 n] w fun e w' => e = .returned (.tuple #[.agg #[.string (putOut s c x (fun j => j) n), .int .i64 ((c + n : Nat) : Int)], .bool true]) ∧ Below w.heap.size w w' := by
  obtain ⟨h1, h2, h3, h4, h5, h6⟩ := id h
  obtain ⟨q1, q2, q3, q4⟩ := fits_of_outB s c h1
  have HI : Hid (Inv (s.data.toList.map fun b => (b.toNat : Int)) c) := bytes_inv s c h1
  have hp : p2 n ≤ 16777216 := by
    have h1 := p2_le (show n ≤ 24 by omega)
    have h2 : p2 24 = 16777216 := by decide +kernel
    omega
  have hx : x ≤ 16777216 := by rw [Int.toNat_natCast] at h5; omega
  have HM : Hid (May s c x n) := h
  clear q4 h1 h5 h
  go_enter Tryz.func46, Tryz.ntmps46
  go_wp2_with fail
  refine (l01May_yes s c x n _ (by unfold maxLen; omega) (by omega) (by omega) HM.out).mono ?_
  rintro e w1 ⟨rfl, hb1⟩
  obtain ⟨W, hW⟩ : ∃ W, W = (w.alloc (.cells #[.string s, .int .i64 c] 27)).alloc (.cells #[.string ⟨#[]⟩, .int .i64 0] 27) := ⟨_, rfl⟩
  rw [← hW] at hb1
  have hWs : W.heap.size = w.heap.size + 1 + 1 := by rw [hW]; simp
  have hBW : Below w.heap.size w W := by rw [hW]; exact bal (bstart _ _) _
  have hcW : W.cell? ⟨w.heap.size, 0, none⟩ = some (.string s) ∧ W.cell? ⟨w.heap.size, 1, none⟩ = some (.int .i64 c) ∧ W.cell? ⟨w.heap.size + 1, 0, none⟩ = some (.string ⟨#[]⟩) ∧ W.cell? ⟨w.heap.size + 1, 1, none⟩ = some (.int .i64 0) ∧ ∀ j, W.frozen? ⟨w.heap.size + 1, j, none⟩ = false := by rw [hW]; simp
  clear hW
  rw [hWs] at hb1
  have hz1 := hb1.size
  go_wp2_with fail
  have hE : Own 3 (w1.alloc (.cells #[] 3)) (w.heap.size + 1 + 1) w1.heap.size (.slice (some ⟨w1.heap.size, 0, none⟩) 0 0) [] := ⟨0, #[], (0, 0), rfl, by omega, heap_alloc_new w1 _, .inl rfl, Nat.le_refl _, Nat.zero_le _, rfl, rfl⟩
  go_loopw [8, 9] (fun v i w' => ∃ j g cap : Nat, j ≤ n ∧ i = .int .i64 (j : Int) ∧ v = .slice (some ⟨g, 0, none⟩) j cap ∧ Hid (Own 3 w' (w.heap.size + 1 + 1) g (.slice (some ⟨g, 0, none⟩) j cap) (places (fun j => j) j)) ∧ Below (w.heap.size + 1 + 1) W w') (fun v _ _ => n - (sliceLen v))
  case atStart => exact ⟨0, w1.heap.size, 0, Nat.zero_le _, by simp, rfl, hE, hb1.alloc (by omega) _⟩
  case round =>
    obtain ⟨j, g, cap, hj, rfl, rfl, hO, hB⟩ := hrel
    have hbl := hO.out.base_le
    have hBs := hB.size
    by_cases hlt : j < n
    · obtain ⟨i0, hi0, hz0, hz1, hz2⟩ := info_parts info_int
      have hpl := places_length (fun j => j) j
      have hl63 : (places (fun j => j) j).length + 1 ≤ maxLen ∧ ((places (fun j => j) j).length + 1) * 8 ≤ 140737488355328 := by rw [hpl]; unfold maxLen; omega
      have HN : Hid (places (fun j => j) j ++ [.int .i64 (j : Int)] = places (fun j => j) (j + 1)) := by
        have e : ((j : Int) : Int) = (((fun j => j) j : Nat) : Int) := by simp
        rw [e]
        rfl
      clear hpl
      go_wp2_with (at_builtin; refine wpList_append1 rfl _ _ 51 rfl i0 (.int .i64 0) 8 Tryz.underlying51 hi0 hz0 hz1 hz2 rfl rfl (hO.out.alloc _) ⟨wr.heap.size, 0, none⟩ 1 (.int .i64 (j : Int)) rfl ?c1 rfl rfl hl63.1 hl63.2 ?_)
      case c1 => simp
      · intro g1 v1 w2 hO1 hg1 hgr
        rw [HN.out] at hO1
        have hB1 : Below (w.heap.size + 1 + 1) W w2 := (hB.alloc (by omega) _).grown hgr (by simp; omega) (fun k hk => by cases hk; exact hbl)
        obtain ⟨cap1, hv1⟩ := hO1.form
        rw [places_length] at hv1
        rw [hv1]
        rw [hv1] at hO1
        have HO1 : Hid (Own 3 w2 (w.heap.size + 1 + 1) g1 (.slice (some ⟨g1, 0, none⟩) (j + 1) cap1) (places (fun j => j) (j + 1))) := hO1
        clear hO1 hg1 hgr hv1 hi0 hz0 hz1 hz2 hl63
        go_wp2_with fail
        go_roundw
        case rel => exact ⟨j + 1, g1, cap1, by omega, by go_num, rfl, HO1, hB1⟩
        case measure => simp [sliceLen]; omega
    · obtain rfl : n = j := by omega
      have k0 : wr.cell? ⟨w.heap.size, 0, none⟩ = some (.string s) := (hB.cell (p := ⟨w.heap.size, 0, none⟩) (by simp; omega)).trans hcW.1
      have k1 : wr.cell? ⟨w.heap.size, 1, none⟩ = some (.int .i64 c) := (hB.cell (p := ⟨w.heap.size, 1, none⟩) (by simp; omega)).trans hcW.2.1
      go_wp2_with fail
      refine (l01Put_any s c x n (fun j => j) g cap (s.data.toList.map fun b => (b.toNat : Int)) wr q1 rfl HI.out (by omega) h4 hx (by omega) hO.out.lt (fun i hi => ⟨?_, by omega⟩)).mono ?_
      · rw [hO.out.cell i (by rw [places_length]; exact hi), places_get]
      rintro e w2 ⟨rfl, hb2⟩
      have hB2 : Below (w.heap.size + 1 + 1) W w2 := hB.trans (hb2.mono (by omega))
      have r0 : w2.cell? ⟨w.heap.size + 1, 0, none⟩ = some (.string ⟨#[]⟩) := (hB2.cell (p := ⟨w.heap.size + 1, 0, none⟩) (by simp)).trans hcW.2.2.1
      have r1 : w2.cell? ⟨w.heap.size + 1, 1, none⟩ = some (.int .i64 0) := (hB2.cell (p := ⟨w.heap.size + 1, 1, none⟩) (by simp)).trans hcW.2.2.2.1
      have rf : ∀ i, w2.frozen? ⟨w.heap.size + 1, i, none⟩ = false := fun i => (hB2.frozen (p := ⟨w.heap.size + 1, i, none⟩) (by simp)).trans (hcW.2.2.2.2 i)
      have hBB : Below w.heap.size w w2 := hBW.trans (hB2.mono (by omega))
      go_wp2_with fail
      refine bodyPost_ret (v := .tuple #[.agg #[.string (putOut s c x (fun j => j) n), .int .i64 ((c + n : Nat) : Int)], .bool true]) ?_ rfl ⟨rfl, ?_⟩
      · simp [results, Tryz.results46, go_sem, r0, r1, putOut]
      · refine Below.setCell (Below.setCell hBB ?_ _) ?_ _
        · simp
        · simp

set_option maxHeartbeats 400000 in
theorem specPutBits_no (s : ByteArray) (c x n : Int) (w : World) (hs : s.size ≤ maxLen) (hc1 : -9223372036854775808 ≤ c) (hc2 : c ≤ 9223372036854775807) (h : ¬ May s c x n) :
    Calls Tryz.prog 46 #[.agg #[.string s, .int .i64 c], .int .i64 x, .int .i64 n] w fun e w' => e = .returned (.tuple #[.agg #[.string ⟨#[]⟩, .int .i64 0], .bool false]) ∧ Below w.heap.size w w' := by
  have H : Hid (¬ May s c x n) := h
  clear h
  go_enter Tryz.func46, Tryz.ntmps46
  go_wp2_with fail
  refine (l01May_no s c x n _ hs hc1 hc2 H.out).mono ?_
  rintro e w1 ⟨rfl, hb1⟩
  obtain ⟨k1, f1⟩ := bcell hb1
  have hz : w.heap.size + 1 < w1.heap.size := by have := hb1.size; simp at this; omega
  have hB : Below w.heap.size w w1 := bnext (bal (bstart _ _) _) hb1
  go_wp2_with fail
  refine bodyPost_ret (v := .tuple #[.agg #[.string ⟨#[]⟩, .int .i64 0], .bool false]) (by simp [results, Tryz.results46, go_sem, k1]) rfl ⟨rfl, ?_⟩
  refine Below.setCell (Below.setCell hB ?_ _) ?_ _
  · simp
  · simp

end Go.Proofs.YtbcnlggkoidmmabGreatDoor
