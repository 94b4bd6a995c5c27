/-
  The walks of the model's draws of filters: three numbers, two rows and a unit.
-/
import Derived.Test.YtholkigomokimaaRows
import Derived.Test.YtholkigomokimaaBase
import Derived.Test.YtholkigomokimaaOwnLib
import Derived.Test.YtholkigomokimaaDrawLib
import Derived.Test.YtholkigomokimaaDrawOnce
import Derived.Test.YtholkigomokimaaDrawPick
import Derived.Test.YtholkigomokimaaDrawList
import Derived.Test.YtholkigomokimaaDrawText
import Derived.WalkKit
import Derived.ProofKit
import Derived.WalkLawsBesides
import Derived.Lib.SmallJoins
namespace Go.Proofs.Ytholkigomokimaa
open Go.RowKit Go.Joins

def Wf13 (x : Int) : Prop := (Lit.int .i64 x).wf = true
theorem wf13 {x : Int} (h : -9223372036854775808 ≤ x ∧ x ≤ 9223372036854775807) : Wf13 x := by
  unfold Wf13
  simp [Lit.wf]
  exact h
set_option maxHeartbeats 800000 in
theorem draw_odd13 (base b g n cap : Nat) (w : World) (hC : Cur w base b) (hn : 0 < n) (hne : g ≠ b) (hg : g < w.heap.size) (hl : ∀ j, j < n → ∃ x : Int, w.cell? ⟨g, j, none⟩ = some (.int .i64 x) ∧ Wf13 x) :
    Calls Try.prog 57 #[.pointer (some ⟨b, 0, none⟩), .slice (some ⟨g, 0, none⟩) n cap] w fun e w' => ∃ x : Int, e = .returned (.int .i64 x) ∧ Wf13 x ∧ Cur w' base b ∧ Below base w w' := by
  have HC := hid_of hC
  have HL := hid_of hl
  clear hC hl
  go_enter Try.func57, Try.ntmps57
  go_wp2_with fail
  refine (draw_once base b 15 _ HC.out).mono ?_
  rintro e w1 ⟨x, rfl, hC1, hg1⟩
  have HC1 := hid_of hC1
  have hbl := HC1.out.base_le
  have hlt := HC1.out.lt
  have HB1 : Hid (Below base w w1) := below_of_grown hg1 hbl (by have := HC.out.lt; omega)
  have HG1 := hid_of hg1
  clear hC1 hg1
  cases x
  · go_wp2_with fail
    refine (draw_pickInt base b g n cap Wf13 w1 HC1.out hn hne (by have := HG1.out.size; omega) (fun j hj => ?_)).mono ?_
    · obtain ⟨x, hx, hp⟩ := HL.out j hj
      exact ⟨x, (World.cell?_of_block (a := ⟨g, j, none⟩) (HG1.out.block g hg (by simpa using hne))).trans hx, hp⟩
    rintro e w2 ⟨x, rfl, hp, hC2, hg2⟩
    have HR : Hid (Wf13 x ∧ Cur w2 base b ∧ Below base w w2) := ⟨hp, hC2, HB1.out.trans (below_of_grown hg2 hbl (by omega))⟩
    clear hp hC2 hg2
    go_wp2_with fail
    go_ret
    exact ⟨_, rfl, HR.out⟩
  · have HC2 : Hid (Cur (w1.alloc (.cells #[.int .i64 (-1), .int .i64 9223372036854775807, .int .i64 (-9223372036854775808)] 3)) base b) := HC1.out.alloc _
    go_wp2_with fail
    refine (draw_pickInt base b w1.heap.size 3 3 Wf13 _ HC2.out (by omega) (by omega) (by simp) (fun j hj => ?_)).mono ?_
    · match j, hj with
      | 0, _ => exact ⟨-1, by simp, wf13 (by omega)⟩
      | 1, _ => exact ⟨9223372036854775807, by simp, wf13 (by omega)⟩
      | 2, _ => exact ⟨-9223372036854775808, by simp, wf13 (by omega)⟩
    rintro e w2 ⟨x, rfl, hp, hC2, hg2⟩
    have HR : Hid (Wf13 x ∧ Cur w2 base b ∧ Below base w w2) := ⟨hp, hC2, (HB1.out.alloc (by omega) _).trans (below_of_grown hg2 hbl (by simp; omega))⟩
    clear hp hC2 hg2
    go_wp2_with fail
    go_ret
    exact ⟨_, rfl, HR.out⟩
set_option maxHeartbeats 1600000 in
theorem draw_rows13 (base b : Nat) (w : World) (hC : Cur w base b) :
    Calls Try.prog 42 #[.pointer (some ⟨b, 0, none⟩)] w fun e w' => ∃ (R A : ByteArray) (x : Int), e = .returned (.tuple #[.string R, .string A, .int .i64 x]) ∧ R.size ≤ 201 ∧ A.size ≤ 202 ∧ Wf13 x ∧ Below base w w' := by
  have HC := hid_of hC
  clear hC
  go_enter Try.func42, Try.ntmps42
  go_wp2_with fail
  refine (draw_below base b 16 _ HC.out).mono ?_
  rintro e w1 ⟨n, rfl, hn, hC1, hg1⟩
  have hn0 := hn.1
  have hn1 := hn.2.1 (by omega)
  obtain ⟨n, rfl⟩ := Int.eq_ofNat_of_zero_le hn0
  have HC1 := hid_of hC1
  have HB1 : Hid (Below base w w1) := below_of_grown hg1 HC.out.base_le HC.out.lt
  clear hC1 hg1 hn
  go_wp2_with fail
  refine (draw_once base b 30 _ HC1.out).mono ?_
  rintro e w2 ⟨y, rfl, hC2, hg2⟩
  have HCQ := hid_of hC2
  have HBQ : Hid (Below base w w2) := HB1.out.trans (below_of_grown hg2 HC1.out.base_le HC1.out.lt)
  clear hC2 hg2 HC1 HB1
  cases y
  · skip
    go_wp2_with fail
    refine (draw_text base b n _ HCQ.out (by omega)).mono ?_
    rintro e w5 ⟨R, rfl, hR, hC5, hB5⟩
    have HC5 := hid_of hC5
    have HB5 := hid_of (HBQ.out.trans hB5)
    clear hC5 hB5 HCQ HBQ
    go_wp2_with fail
    refine (draw_text base b n _ HC5.out (by omega)).mono ?_
    rintro e w6 ⟨A, rfl, hA, hC6, hB6⟩
    have HC6 := hid_of hC6
    have HB6 := hid_of (HB5.out.trans hB6)
    clear hC6 hB6 HC5 HB5
    go_wp2_with fail
    refine (draw_once base b 20 _ HC6.out).mono ?_
    rintro e w7 ⟨y, rfl, hC7, hg7⟩
    have HCQ := hid_of hC7
    have HBQ : Hid (Below base w w7) := HB6.out.trans (below_of_grown hg7 HC6.out.base_le HC6.out.lt)
    clear hC7 hg7 HC6 HB6
    cases y
    · skip
      have HC9 : Hid (Cur (w7.alloc (.cells #[.int .i64 1, .int .i64 2, .int .i64 3, .int .i64 4, .int .i64 6, .int .i64 8, .int .i64 1, .int .i64 2, .int .i64 3, .int .i64 0, .int .i64 9] 3)) base b) := HCQ.out.alloc _
      have hl9 := HCQ.out.lt
      have hb9 := HCQ.out.base_le
      go_wp2_with fail
      refine (draw_odd13 base b w7.heap.size 11 11 _ HC9.out (by omega) (by omega) (by simp) (fun j hj => ?_)).mono ?_
      · match j, hj with
        | 0, _ => exact ⟨1, by simp, wf13 (by omega)⟩
        | 1, _ => exact ⟨2, by simp, wf13 (by omega)⟩
        | 2, _ => exact ⟨3, by simp, wf13 (by omega)⟩
        | 3, _ => exact ⟨4, by simp, wf13 (by omega)⟩
        | 4, _ => exact ⟨6, by simp, wf13 (by omega)⟩
        | 5, _ => exact ⟨8, by simp, wf13 (by omega)⟩
        | 6, _ => exact ⟨1, by simp, wf13 (by omega)⟩
        | 7, _ => exact ⟨2, by simp, wf13 (by omega)⟩
        | 8, _ => exact ⟨3, by simp, wf13 (by omega)⟩
        | 9, _ => exact ⟨0, by simp, wf13 (by omega)⟩
        | 10, _ => exact ⟨9, by simp, wf13 (by omega)⟩
      rintro e w9 ⟨x, rfl, hx, _, hB9⟩
      have HR : Hid (Wf13 x ∧ Below base w w9) := ⟨hx, (HBQ.out.alloc (by omega) _).trans hB9⟩
      clear hx hB9
      go_wp2_with fail
      refine bodyPost_ret (v := .tuple #[.string R, .string (A), .int .i64 x]) ?_ rfl ⟨R, A, x, rfl, by omega, by omega, HR.out⟩
      simp [results, Try.results42, go_sem]
    · have hz : (A ++ (⟨#[120]⟩ : ByteArray)).size = A.size + 1 := by rw [ByteArray.size_append]; rfl
      have hz1 : (⟨#[120]⟩ : ByteArray).size = 1 := rfl
      have HC9 : Hid (Cur (w7.alloc (.cells #[.int .i64 1, .int .i64 2, .int .i64 3, .int .i64 4, .int .i64 6, .int .i64 8, .int .i64 1, .int .i64 2, .int .i64 3, .int .i64 0, .int .i64 9] 3)) base b) := HCQ.out.alloc _
      have hl9 := HCQ.out.lt
      have hb9 := HCQ.out.base_le
      go_wp2_with fail
      refine (draw_odd13 base b w7.heap.size 11 11 _ HC9.out (by omega) (by omega) (by simp) (fun j hj => ?_)).mono ?_
      · match j, hj with
        | 0, _ => exact ⟨1, by simp, wf13 (by omega)⟩
        | 1, _ => exact ⟨2, by simp, wf13 (by omega)⟩
        | 2, _ => exact ⟨3, by simp, wf13 (by omega)⟩
        | 3, _ => exact ⟨4, by simp, wf13 (by omega)⟩
        | 4, _ => exact ⟨6, by simp, wf13 (by omega)⟩
        | 5, _ => exact ⟨8, by simp, wf13 (by omega)⟩
        | 6, _ => exact ⟨1, by simp, wf13 (by omega)⟩
        | 7, _ => exact ⟨2, by simp, wf13 (by omega)⟩
        | 8, _ => exact ⟨3, by simp, wf13 (by omega)⟩
        | 9, _ => exact ⟨0, by simp, wf13 (by omega)⟩
        | 10, _ => exact ⟨9, by simp, wf13 (by omega)⟩
      rintro e w9 ⟨x, rfl, hx, _, hB9⟩
      have HR : Hid (Wf13 x ∧ Below base w w9) := ⟨hx, (HBQ.out.alloc (by omega) _).trans hB9⟩
      clear hx hB9
      go_wp2_with fail
      refine bodyPost_ret (v := .tuple #[.string R, .string (A ++ ⟨#[120]⟩), .int .i64 x]) ?_ rfl ⟨R, A ++ ⟨#[120]⟩, x, rfl, by omega, by rw [hz]; omega, HR.out⟩
      simp [results, Try.results42, go_sem]
  · go_wp2_with fail
    refine (draw_below base b 2 _ HCQ.out).mono ?_
    rintro e w3 ⟨m, rfl, hm, hC3, hg3⟩
    have hm0 := hm.1
    have hm1 := hm.2.1 (by omega)
    obtain ⟨m, rfl⟩ := Int.eq_ofNat_of_zero_le hm0
    have HC3 := hid_of hC3
    have HB3 : Hid (Below base w w3) := HBQ.out.trans (below_of_grown hg3 HCQ.out.base_le HCQ.out.lt)
    clear hC3 hg3 hm HCQ HBQ
    have HCQ := HC3
    have HBQ := HB3
    clear HC3 HB3
    obtain ⟨q, hq⟩ : ∃ q : Nat, q = 200 + m := ⟨_, rfl⟩
    have hqi : (200 : Int) + (m : Int) = (q : Int) := by omega
    have hq1 : q ≤ 201 := by omega
    clear hq
    go_wp2_with fail
    refine (draw_text base b q _ HCQ.out (by omega)).mono ?_
    rintro e w5 ⟨R, rfl, hR, hC5, hB5⟩
    have HC5 := hid_of hC5
    have HB5 := hid_of (HBQ.out.trans hB5)
    clear hC5 hB5 HCQ HBQ
    go_wp2_with fail
    refine (draw_text base b q _ HC5.out (by omega)).mono ?_
    rintro e w6 ⟨A, rfl, hA, hC6, hB6⟩
    have HC6 := hid_of hC6
    have HB6 := hid_of (HB5.out.trans hB6)
    clear hC6 hB6 HC5 HB5
    go_wp2_with fail
    refine (draw_once base b 20 _ HC6.out).mono ?_
    rintro e w7 ⟨y, rfl, hC7, hg7⟩
    have HCQ := hid_of hC7
    have HBQ : Hid (Below base w w7) := HB6.out.trans (below_of_grown hg7 HC6.out.base_le HC6.out.lt)
    clear hC7 hg7 HC6 HB6
    cases y
    · skip
      have HC9 : Hid (Cur (w7.alloc (.cells #[.int .i64 1, .int .i64 2, .int .i64 3, .int .i64 4, .int .i64 6, .int .i64 8, .int .i64 1, .int .i64 2, .int .i64 3, .int .i64 0, .int .i64 9] 3)) base b) := HCQ.out.alloc _
      have hl9 := HCQ.out.lt
      have hb9 := HCQ.out.base_le
      go_wp2_with fail
      refine (draw_odd13 base b w7.heap.size 11 11 _ HC9.out (by omega) (by omega) (by simp) (fun j hj => ?_)).mono ?_
      · match j, hj with
        | 0, _ => exact ⟨1, by simp, wf13 (by omega)⟩
        | 1, _ => exact ⟨2, by simp, wf13 (by omega)⟩
        | 2, _ => exact ⟨3, by simp, wf13 (by omega)⟩
        | 3, _ => exact ⟨4, by simp, wf13 (by omega)⟩
        | 4, _ => exact ⟨6, by simp, wf13 (by omega)⟩
        | 5, _ => exact ⟨8, by simp, wf13 (by omega)⟩
        | 6, _ => exact ⟨1, by simp, wf13 (by omega)⟩
        | 7, _ => exact ⟨2, by simp, wf13 (by omega)⟩
        | 8, _ => exact ⟨3, by simp, wf13 (by omega)⟩
        | 9, _ => exact ⟨0, by simp, wf13 (by omega)⟩
        | 10, _ => exact ⟨9, by simp, wf13 (by omega)⟩
      rintro e w9 ⟨x, rfl, hx, _, hB9⟩
      have HR : Hid (Wf13 x ∧ Below base w w9) := ⟨hx, (HBQ.out.alloc (by omega) _).trans hB9⟩
      clear hx hB9
      go_wp2_with fail
      refine bodyPost_ret (v := .tuple #[.string R, .string (A), .int .i64 x]) ?_ rfl ⟨R, A, x, rfl, by omega, by omega, HR.out⟩
      simp [results, Try.results42, go_sem]
    · have hz : (A ++ (⟨#[120]⟩ : ByteArray)).size = A.size + 1 := by rw [ByteArray.size_append]; rfl
      have hz1 : (⟨#[120]⟩ : ByteArray).size = 1 := rfl
      have HC9 : Hid (Cur (w7.alloc (.cells #[.int .i64 1, .int .i64 2, .int .i64 3, .int .i64 4, .int .i64 6, .int .i64 8, .int .i64 1, .int .i64 2, .int .i64 3, .int .i64 0, .int .i64 9] 3)) base b) := HCQ.out.alloc _
      have hl9 := HCQ.out.lt
      have hb9 := HCQ.out.base_le
      go_wp2_with fail
      refine (draw_odd13 base b w7.heap.size 11 11 _ HC9.out (by omega) (by omega) (by simp) (fun j hj => ?_)).mono ?_
      · match j, hj with
        | 0, _ => exact ⟨1, by simp, wf13 (by omega)⟩
        | 1, _ => exact ⟨2, by simp, wf13 (by omega)⟩
        | 2, _ => exact ⟨3, by simp, wf13 (by omega)⟩
        | 3, _ => exact ⟨4, by simp, wf13 (by omega)⟩
        | 4, _ => exact ⟨6, by simp, wf13 (by omega)⟩
        | 5, _ => exact ⟨8, by simp, wf13 (by omega)⟩
        | 6, _ => exact ⟨1, by simp, wf13 (by omega)⟩
        | 7, _ => exact ⟨2, by simp, wf13 (by omega)⟩
        | 8, _ => exact ⟨3, by simp, wf13 (by omega)⟩
        | 9, _ => exact ⟨0, by simp, wf13 (by omega)⟩
        | 10, _ => exact ⟨9, by simp, wf13 (by omega)⟩
      rintro e w9 ⟨x, rfl, hx, _, hB9⟩
      have HR : Hid (Wf13 x ∧ Below base w w9) := ⟨hx, (HBQ.out.alloc (by omega) _).trans hB9⟩
      clear hx hB9
      go_wp2_with fail
      refine bodyPost_ret (v := .tuple #[.string R, .string (A ++ ⟨#[120]⟩), .int .i64 x]) ?_ rfl ⟨R, A ++ ⟨#[120]⟩, x, rfl, by omega, by rw [hz]; omega, HR.out⟩
      simp [results, Try.results42, go_sem]
theorem draw_bestFilter (a : Option Addr) (len cap : Nat) (base : Nat) (w : World) (hK : CodeAt w base a len) (hlen : len ≤ 1048576) (hbase : base ≤ w.heap.size) :
    Calls Try.prog 17 #[.slice a len cap] w fun e w' => ∃ (R A : ByteArray) (x : Int), e = .returned (.tuple #[.string R, .string A, .int .i64 x]) ∧ R.size ≤ 201 ∧ A.size ≤ 202 ∧ Wf13 x ∧ Below base w w' := by
  have HK := hid_of hK
  clear hK
  go_enter Try.func17, Try.ntmps17
  go_wp2_with fail
  refine (draw_new a len cap base w HK.out hlen hbase).mono ?_
  rintro e w1 ⟨rfl, hC1, o, rfl⟩
  have HB1 : Hid (Below base w (w.alloc o)) := (Below.refl base w).alloc hbase o
  have HC1 := hid_of hC1
  clear hC1
  go_wp2_with fail
  refine (draw_rows13 base _ _ HC1.out).mono ?_
  rintro e w2 ⟨R, A, x, rfl, h1, h2, h3, hB2⟩
  have HR : Hid (Wf13 x ∧ Below base w w2) := ⟨h3, HB1.out.trans hB2⟩
  clear h3 hB2
  go_wp2_with fail
  refine bodyPost_ret (v := .tuple #[.string R, .string A, .int .i64 x]) ?_ rfl ⟨R, A, x, rfl, h1, h2, HR.out⟩
  simp [results, Try.results17, go_sem]
end Go.Proofs.Ytholkigomokimaa
