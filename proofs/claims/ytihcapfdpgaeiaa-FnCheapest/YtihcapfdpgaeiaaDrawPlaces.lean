/-
  The walk of the model's draw of twelve places.
-/
import Derived.Test.YtihcapfdpgaeiaaRows
import Derived.Test.YtihcapfdpgaeiaaBase
import Derived.Test.YtihcapfdpgaeiaaOwnLib
import Derived.Test.YtihcapfdpgaeiaaDrawLib
import Derived.Test.YtihcapfdpgaeiaaDrawList
import Derived.WalkKit
import Derived.ProofKit
import Derived.WalkLawsBesides
import Derived.Lib.SmallJoins
namespace Go.Proofs.Ytihcapfdpgaeiaa
open Go.RowKit Go.Joins

theorem info_num : (Try.prog.info? 3).map (fun i => (i.zero, i.size, i.bytes)) = some (some (.int .i64 0), 1, 8) := by kernel_rfl

set_option maxHeartbeats 800000 in
theorem draw_places (a : Option Addr) (len cap : Nat) (base : Nat) (w : World) (hK : CodeAt w base a len) (hlen : len ≤ 1048576) (hbase : base ≤ w.heap.size) :
    Calls Try.prog 11 #[.slice a len cap] w fun e w' => ∃ (g c : Nat) (zs : List Int), e = .returned (.slice (some ⟨g, 0, none⟩) 12 c) ∧ zs.length = 12 ∧ (∀ z ∈ zs, 0 ≤ z ∧ z < 10000) ∧ Own 3 w' base g (.slice (some ⟨g, 0, none⟩) 12 c) (i64s zs) ∧ Below base w w' := by
  have HK : Hid (CodeAt w base a len) := hK
  clear hK
  go_enter Try.func11, Try.ntmps11
  go_wp2_with fail
  refine (draw_new a len cap base w HK.out hlen hbase).mono ?_
  rintro e w1 ⟨rfl, hC1, o, rfl⟩
  have HB1 : Hid (Below base w (w.alloc o)) := (Below.refl base w).alloc hbase o
  have HC1 : Hid (Cur (w.alloc o) base w.heap.size) := hC1
  clear hC1
  go_wp2_with fail
  refine (draw_byte base _ _ HC1.out).mono ?_
  rintro e w2 ⟨x, rfl, hx0, hx1, hC2, hg2⟩
  have HB2 : Below base w w2 := HB1.out.trans (below_of_grown hg2 HC1.out.base_le HC1.out.lt)
  have H0 : Hid (DL 3 w (w2.alloc (.cells #[] 3)) base w.heap.size w2.heap.size 0 []) := DL.start hC2 HB2 _
  clear hC2 hg2 HC1 HB1 HB2
  go_wp2_with fail
  go_loopw [4, 5] (fun v i w' => ∃ (j g cap : Nat) (zs : List Int), j ≤ 12 ∧ i = .int .i64 j ∧ v = .slice (some ⟨g, 0, none⟩) j cap ∧ Hid (zs.length = j ∧ ∀ z ∈ zs, 0 ≤ z ∧ z < 10000) ∧ Hid (DL 3 w w' base w.heap.size g cap (i64s zs))) (fun _ i _ => 12 - (intOf i).toNat)
  case atStart => exact ⟨0, w2.heap.size, 0, [], by omega, rfl, rfl, ⟨rfl, fun z hz => by cases hz⟩, H0⟩
  case round =>
    obtain ⟨j, g, cap, zs, hj, rfl, rfl, hz, hD⟩ := hrel
    by_cases hlt : j < 12
    · go_wp2_with fail
      refine (draw_below base _ _ _ hD.out.cur).mono ?_
      rintro e w3 ⟨y, rfl, hy, hC3, hg3⟩
      have HD3 : Hid (DL 3 w w3 base w.heap.size g cap (i64s zs)) := hD.out.drawn hg3 hC3
      have hy1 : 0 ≤ y ∧ y < 10000 := ⟨hy.1, hy.2.1 (by omega)⟩
      have HO : Hid (Own 3 w3 base g (.slice (some ⟨g, 0, none⟩) j cap) (i64s zs)) := by
        have h := HD3.out.own
        rw [i64s_length, hz.out.1] at h
        exact h
      clear hC3 hg3 hD hy
      obtain ⟨i0, hi0, hz0, hz1, hz2⟩ := info_parts info_num
      have hl : (i64s zs).length + 1 ≤ maxLen ∧ ((i64s zs).length + 1) * 8 ≤ 140737488355328 := by rw [i64s_length, hz.out.1]; unfold maxLen; omega
      go_wp2_with (at_builtin; refine wpList_append1 rfl _ _ 25 rfl i0 (.int .i64 0) 8 Try.underlying25 hi0 hz0 hz1 hz2 rfl rfl (HO.out.alloc _) ⟨w3.heap.size, 0, none⟩ 1 (.int .i64 y) rfl ?c1 rfl rfl hl.1 hl.2 ?_)
      case c1 => simp
      · intro g1 v1 w4 hO1 hg1 hgr
        obtain ⟨cap1, hv1, hD2⟩ := HD3.out.app hO1 (by simpa using hg1) hgr
        rw [i64s_length, hz.out.1] at hv1
        rw [hv1]
        rw [i64s_app] at hD2
        have HD2 : Hid (DL 3 w w4 base w.heap.size g1 cap1 (i64s (zs ++ [y]))) := hD2
        have HZ : Hid ((zs ++ [y]).length = j + 1 ∧ ∀ z ∈ zs ++ [y], 0 ≤ z ∧ z < 10000) := by
          obtain ⟨h1, h2⟩ := hz.out
          refine ⟨by simp [h1], fun z hz => ?_⟩
          rcases List.mem_append.mp hz with h | h
          · exact h2 z h
          · rw [List.mem_singleton.mp h]; exact hy1
        clear hO1 hg1 hgr hv1 hi0 hz0 hz1 hz2 hl hD2 HD3 HO
        go_wp2_with fail
        go_roundw
        case rel => exact ⟨j + 1, g1, cap1, zs ++ [y], by omega, by go_num, rfl, HZ, HD2⟩
        case measure => simp [intOf]; omega
    · obtain rfl : j = 12 := by omega
      go_wp2_with fail
      go_ret
      have h := hD.out.own
      rw [i64s_length, hz.out.1] at h
      exact ⟨g, cap, zs, rfl, hz.out.1, hz.out.2, h, hD.out.below⟩

end Go.Proofs.Ytihcapfdpgaeiaa
