/-
  The walk of the law FnLengths, over what the program's functions on lengths and distances answer.
-/
import Derived.Test.YtcieladecjlnpaaRows
import Derived.Test.YtcieladecjlnpaaBase
import Derived.Test.YtcieladecjlnpaaRowLib
import Derived.Test.YtcieladecjlnpaaOwnLib
import Derived.Test.YtcieladecjlnpaaDrawLib
import Derived.Test.YtcieladecjlnpaaDrawList
import Derived.Test.YtcieladecjlnpaaDrawPlaces
import Derived.Test.YtcieladecjlnpaaStepMath
import Derived.Test.YtcieladecjlnpaaLenAns
import Derived.Test.YtcieladecjlnpaaDistAns
import Derived.WalkKit
import Derived.ProofKit
import Derived.WalkLawsBesides
import Derived.RegionTactic
import Derived.Below
import Derived.Lib.SmallJoins
namespace Go.Proofs.Ytcieladecjlnpaa
open Go.RowKit Go.Joins StepMath

theorem shl_small {m : Nat} (h : m ≤ 13) : IntKind.i64.wrap (2 ^ m) = 2 ^ m := by
  have key : ∀ m, m ≤ 13 → IntKind.i64.wrap (2 ^ m) = 2 ^ m := by decide +kernel
  exact key m h

theorem pow_13 {m : Nat} (h : m ≤ 13) : (2 : Int) ^ m ≤ 8192 := by
  have key : ∀ m, m ≤ 13 → (2 : Int) ^ m ≤ 8192 := by decide +kernel
  exact key m h
theorem wf_step {x : Int} (h0 : -1000000 ≤ x) (h1 : x ≤ 1000000) : (Lit.int .i64 x).wf = true := by
  simp [Lit.wf, IntKind.min, IntKind.max, IntKind.bits, IntKind.signed]
  omega
set_option maxHeartbeats 4000000 in
theorem FnLengths_at (hLC : LengthCodeAnswer) (hLO : LengthOfAnswer) (hDC : DistCodeAnswer) (hDO : DistOfAnswer) (a : Option Addr) (len cap : Nat) (w : World) (hK : CodeAt w w.heap.size a len) (hlen : (len : Int) ≤ 1048576) :
    Calls Try.prog 3 #[.slice a len cap] w fun e w' => e = .returned (.bool true) ∧ Below w.heap.size w w' := by
  have HK := hid_of hK
  have HLC := hid_of hLC
  have HLO := hid_of hLO
  have HDC := hid_of hDC
  have HDO := hid_of hDO
  clear hK hLC hLO hDC hDO
  go_enter Try.func3, Try.ntmps3
  go_wp2_with fail
  refine (big_no a len cap _ hlen).mono ?_
  rintro e w1 ⟨rfl, rfl⟩
  go_wp2_with fail
  refine (draw_places a len cap w1.heap.size w1 HK.out (by omega) (Nat.le_refl _)).mono ?_
  rintro e w2 ⟨g, c, zs, rfl, hz, hzb, hO, hB2⟩
  have hlt := hO.lt
  have hzc : ∀ j, j < 12 → w2.cell? ⟨g, j, none⟩ = some (.int .i64 (zs.getD j 0)) ∧ 0 ≤ zs.getD j 0 ∧ zs.getD j 0 < 10000 := by
    intro j hj
    have hj' : j < (i64s zs).length := by rw [i64s_length]; omega
    refine ⟨by rw [hO.cell j hj', i64s_get], hzb _ ?_⟩
    rw [List.getD_eq_getElem?_getD, List.getElem?_eq_getElem (by omega)]
    exact List.getElem_mem _
  obtain ⟨c0, p00, p01⟩ := hzc 0 (by omega)
  obtain ⟨c1, p10, p11⟩ := hzc 1 (by omega)
  obtain ⟨c2, p20, p21⟩ := hzc 2 (by omega)
  generalize zs.getD 0 0 = z0 at c0 p00 p01
  generalize zs.getD 1 0 = z1 at c1 p10 p11
  generalize zs.getD 2 0 = z2 at c2 p20 p21
  have HB2 := hid_of hB2
  clear hz hzb hO hzc hB2
  obtain ⟨t0, q00, q01, em0⟩ : ∃ t0 : Int, 0 ≤ t0 ∧ t0 ≤ 255 ∧ z0.tmod 256 = t0 := ⟨z0.tmod 256, by rw [Int.tmod_eq_emod_of_nonneg p00]; omega, by rw [Int.tmod_eq_emod_of_nonneg p00]; omega, rfl⟩
  obtain ⟨t1, q10, q11, em1⟩ : ∃ t1 : Int, 0 ≤ t1 ∧ t1 ≤ 32767 ∧ (z1 * 10000 + z2).tmod 32768 = t1 := ⟨(z1 * 10000 + z2).tmod 32768, by rw [Int.tmod_eq_emod_of_nonneg (by omega)]; omega, by rw [Int.tmod_eq_emod_of_nonneg (by omega)]; omega, rfl⟩
  obtain ⟨N, e0⟩ : ∃ N : Int, (3 : Int) + t0 = N := ⟨_, rfl⟩
  obtain ⟨D, e1⟩ : ∃ D : Int, (1 : Int) + t1 = D := ⟨_, rfl⟩
  have hN1 : 3 ≤ N := by omega
  have hN2 : N ≤ 258 := by omega
  have hD1 : 1 ≤ D := by omega
  have hD2 : D ≤ 32768 := by omega
  have lc1 := fun W => HLC.out N W (wf_step (by omega) (by omega))
  have lc2 := fun W => HLC.out (N + 1) W (wf_step (by omega) (by omega))
  have dc1 := fun W => HDC.out D W (wf_step (by omega) (by omega))
  have dc2 := fun W => HDC.out (D + 1) W (wf_step (by omega) (by omega))
  obtain ⟨bk, b1, b2, b3, b4, b5, b6⟩ := len_back hN1 hN2
  obtain ⟨dk, g1, g2, g3, g4, g5, g6⟩ := dist_back hD1 hD2
  have rs : N = 258 ∨ (LengthCodeOf (N + 1)).1 = (LengthCodeOf N).1 ∨ (LengthCodeOf (N + 1)).1 = (LengthCodeOf N).1 + 1 := by
    by_cases h : N = 258
    · exact .inl h
    · exact .inr (len_rise hN1 (by omega))
  have rd : D = 32768 ∨ (DistCodeOf (D + 1)).1 = (DistCodeOf D).1 ∨ (DistCodeOf (D + 1)).1 = (DistCodeOf D).1 + 1 := by
    by_cases h : D = 32768
    · exact .inl h
    · exact .inr (dist_rise hD1 (by omega))
  obtain ⟨m, hm⟩ := Int.eq_ofNat_of_zero_le b5
  obtain ⟨k, hk⟩ := Int.eq_ofNat_of_zero_le g5
  rw [hm, Int.toNat_natCast] at b2
  rw [hk, Int.toNat_natCast] at g2
  rw [hm] at b6
  rw [hk] at g6
  have hm5 : m ≤ 13 := by omega
  have hk13 : k ≤ 13 := by omega
  have f1 := shl_small hm5
  have f2 := shl_small hk13
  have f3 : ((2 : Int) ^ m) ≤ 8192 := pow_13 hm5
  have f4 : ((2 : Int) ^ k) ≤ 8192 := pow_13 hk13
  have lo := fun W => HLO.out (LengthCodeOf N).1 (LengthCodeOf N).2.2 W (wf_step (by omega) (by omega)) (wf_step (by omega) (by omega))
  have dO := fun W => HDO.out (DistCodeOf D).1 (DistCodeOf D).2.2 W (wf_step (by omega) (by omega)) (wf_step (by omega) (by omega))
  rw [bk] at lo
  rw [dk] at dO
  rw [hm] at lc1
  rw [hk] at dc1
  clear bk dk hm hk HLC HLO HDC HDO b5 g5
  generalize (LengthCodeOf N).1 = y1 at b3 b4 rs lo lc1
  generalize (LengthCodeOf N).2.2 = y3 at b1 b2 lo lc1
  generalize (LengthCodeOf (N + 1)).1 = q1 at rs lc2
  generalize (LengthCodeOf (N + 1)).2.1 = q2 at lc2
  generalize (LengthCodeOf (N + 1)).2.2 = q3 at lc2
  generalize (DistCodeOf D).1 = s1 at g3 g4 rd dO dc1
  generalize (DistCodeOf D).2.2 = s3 at g1 g2 dO dc1
  generalize (DistCodeOf (D + 1)).1 = r1 at rd dc2
  generalize (DistCodeOf (D + 1)).2.1 = r2 at dc2
  generalize (DistCodeOf (D + 1)).2.2 = r3 at dc2
  have HRS := hid_of rs
  have HRD := hid_of rd
  have k1 : decide (y3 < 0) = false := decide_eq_false (by omega)
  have k2 : decide (s3 < 0) = false := decide_eq_false (by omega)
  have k3 : decide ((2 : Int) ^ m ≤ y3) = false := decide_eq_false (by omega)
  have k4 : decide ((2 : Int) ^ k ≤ s3) = false := decide_eq_false (by omega)
  have k5 : ¬ (2 : Int) ^ m ≤ y3 := by omega
  have k6 : ¬ (2 : Int) ^ k ≤ s3 := by omega
  clear rs rd
  go_wp2_with fail
  go_region
  go_wp2_with fail
  refine (lc1 _).mono ?_
  rintro e w3 ⟨rfl, hB3⟩
  clear lc1
  have HB3 : Hid (Below w1.heap.size w1 w3) := HB2.out.drew.trans (hB3.mono HB2.out.size)
  clear hB3 c0 c1 c2
  go_wp2_with fail
  refine (lo _).mono ?_
  rintro e w4 ⟨rfl, hB4⟩
  clear lo
  have HB4 := hid_of (bnext HB3.out hB4)
  clear hB4
  go_wp2_with fail
  refine (dc1 _).mono ?_
  rintro e w5 ⟨rfl, hB5⟩
  clear dc1
  have HB5 := hid_of (bnext HB4.out hB5)
  clear hB5
  go_wp2_with fail
  refine (dO _).mono ?_
  rintro e w6 ⟨rfl, hB6⟩
  clear dO
  have HB6 := hid_of (bnext HB5.out hB6)
  clear hB6
  go_wp2_with fail
  refine (lc2 _).mono ?_
  rintro e w7 ⟨rfl, hB7⟩
  clear lc2
  have HB7 := hid_of (bnext HB6.out hB7)
  clear hB7
  go_wp2_with fail
  refine (dc2 _).mono ?_
  rintro e w8 ⟨rfl, hB8⟩
  clear dc2
  have HB8 := hid_of (bnext HB7.out hB8)
  clear hB8 HB2 HB3 HB4 HB5 HB6 HB7
  have hne : ∀ x : Int, (x == x + 1) = false := fun x => by simp; omega
  have hne2 : ∀ x : Int, (x + 1 == x) = false := fun x => by simp; omega
  rcases HRS.out with rfl | rfl | rfl
  all_goals
    rcases HRD.out with rfl | rfl | rfl
    all_goals
      go_wp2_with fail
      all_goals
        go_ret
        exact ⟨rfl, HB8.out⟩

theorem FnLengths_over (hLC : LengthCodeAnswer) (hLO : LengthOfAnswer) (hDC : DistCodeAnswer) (hDO : DistOfAnswer) (a : Option Addr) (len cap : Nat) (zs : List Int) (w : World) (hr : IsRow .u8 w a len cap zs) :
    Calls Try.prog 3 #[.slice a len cap] w fun e w' => e = .returned (.bool true) ∧ Below w.heap.size w w' := by
  obtain ⟨hC, hl, hc⟩ := codeAt_of_row hr
  unfold maxLen at hc
  by_cases h : (len : Int) ≤ 1048576
  · exact FnLengths_at hLC hLO hDC hDO a len cap w hC h
  · have d : (1048576 : Int) < len := by omega
    clear hr hC hLC hLO hDC hDO
    go_enter Try.func3, Try.ntmps3
    go_wp2_with fail
    refine (big_yes a len cap _ d (by omega)).mono ?_
    rintro e w1 ⟨rfl, rfl⟩
    go_wp2_with fail
    go_ret
    exact ⟨rfl, Below.refl _ _⟩

end Go.Proofs.Ytcieladecjlnpaa
