/-
  The walk of the model's draw of a text.
-/
import Derived.Test.YtholkigomokimaaRows
import Derived.Test.YtholkigomokimaaBase
import Derived.Test.YtholkigomokimaaOwnLib
import Derived.Test.YtholkigomokimaaDrawLib
import Derived.Test.YtholkigomokimaaDrawList
import Derived.WalkKit
import Derived.ProofKit
import Derived.WalkLawsBesides
import Derived.Lib.SmallJoins
namespace Go.Proofs.Ytholkigomokimaa
open Go.RowKit Go.Joins

theorem info_byte : (Try.prog.info? 5).map (fun i => (i.zero, i.size, i.bytes)) = some (some (.int .u8 0), 1, 1) := by kernel_rfl
theorem bytes_app (zs : List Int) (x : Int) : zs.map (Value.int .u8) ++ [.int .u8 x] = (zs ++ [x]).map (Value.int .u8) := by simp

set_option maxHeartbeats 800000 in
theorem draw_text (base b : Nat) (n : Nat) (w : World) (hC : Cur w base b) (hn : n ≤ 5000) :
    Calls Try.prog 56 #[.pointer (some ⟨b, 0, none⟩), .int .i64 n] w fun e w' => ∃ s : ByteArray, e = .returned (.string s) ∧ s.size = n ∧ Cur w' base b ∧ Below base w w' := by
  have HC : Hid (Cur w base b) := hC
  clear hC
  go_enter Try.func56, Try.ntmps56
  go_wp2_with fail
  have H0 : Hid (DL 5 w (w.alloc (.cells #[] 5)) base b w.heap.size 0 []) := DL.start HC.out (Below.refl _ _) _
  go_loopw [5, 6] (fun v i w' => ∃ (j g cap : Nat) (zs : List Int), j ≤ n ∧ i = .int .i64 j ∧ v = .slice (some ⟨g, 0, none⟩) j cap ∧ Hid (zs.length = j) ∧ Hid (DL 5 w w' base b g cap (zs.map (Value.int .u8)))) (fun _ i _ => n - (intOf i).toNat)
  case atStart => exact ⟨0, w.heap.size, 0, [], by omega, rfl, rfl, rfl, H0⟩
  case round =>
    obtain ⟨j, g, cap, zs, hj, rfl, rfl, hz, hD⟩ := hrel
    by_cases hlt : j < n
    · go_wp2_with fail
      refine (draw_byte base _ _ hD.out.cur).mono ?_
      rintro e w1 ⟨x, rfl, hx0, hx1, hC1, hg1⟩
      have HD1 : Hid (DL 5 w w1 base b g cap (zs.map (Value.int .u8))) := hD.out.drawn hg1 hC1
      have HO : Hid (Own 5 w1 base g (.slice (some ⟨g, 0, none⟩) j cap) (zs.map (Value.int .u8))) := by
        have h := HD1.out.own
        rw [List.length_map, hz.out] at h
        exact h
      clear hC1 hg1 hD
      obtain ⟨i0, hi0, hz0, hz1, hz2⟩ := info_parts info_byte
      have hl : (zs.map (Value.int .u8)).length + 1 ≤ maxLen ∧ ((zs.map (Value.int .u8)).length + 1) * 1 ≤ 140737488355328 := by rw [List.length_map, hz.out]; unfold maxLen; omega
      go_wp2_with (at_builtin; refine wpList_append1 rfl _ _ 22 rfl i0 (.int .u8 0) 1 Try.underlying22 hi0 hz0 hz1 hz2 rfl rfl (HO.out.alloc _) ⟨w1.heap.size, 0, none⟩ 1 (.int .u8 x) rfl ?c1 rfl rfl hl.1 hl.2 ?_)
      case c1 => simp
      · intro g1 v1 w2 hO1 hg1 hgr
        obtain ⟨cap1, hv1, hD2⟩ := HD1.out.app hO1 (by simpa using hg1) hgr
        rw [List.length_map, hz.out] at hv1
        rw [hv1]
        rw [bytes_app] at hD2
        have HD2 : Hid (DL 5 w w2 base b g1 cap1 ((zs ++ [x]).map (Value.int .u8))) := hD2
        have HZ : Hid ((zs ++ [x]).length = j + 1) := by
          have h := hz.out
          show (zs ++ [x]).length = j + 1
          simp [h]
        clear hO1 hg1 hgr hv1 hi0 hz0 hz1 hz2 hl hD2 HD1 HO
        go_wp2_with fail
        go_roundw
        case rel => exact ⟨j + 1, g1, cap1, zs ++ [x], by omega, by go_num, rfl, HZ, HD2⟩
        case measure => simp [intOf]; omega
    · have HC2 := own_string (P := Try.prog) zs 22 9 Try.underlying22 Try.underlying5 Try.underlying9 hD.out.own
      rw [List.length_map, hz.out] at HC2
      go_wp2_with fail
      go_ret
      exact ⟨strOfNums zs, rfl, by rw [strOfNums_size, hz.out]; omega, hD.out.cur, hD.out.below⟩

end Go.Proofs.Ytholkigomokimaa
