/-
  The law FnRows: drawn samples come back from their bytes.
-/
import Derived.Test.YtpocfmopeaajaaaRows
import Derived.Test.YtpocfmopeaajaaaBase
import Derived.Test.YtpocfmopeaajaaaOwnLib
import Derived.Test.YtpocfmopeaajaaaRowLib
import Derived.Test.YtpocfmopeaajaaaIntsLib
import Derived.Test.YtpocfmopeaajaaaIntsWalks
import Derived.Test.YtpocfmopeaajaaaSameInts
import Derived.Test.YtpocfmopeaajaaaRastMath
import Derived.Test.YtpocfmopeaajaaaUnpMath
import Derived.Test.YtpocfmopeaajaaaPackMath12
import Derived.Test.YtpocfmopeaajaaaRowBack12
import Derived.Test.YtpocfmopeaajaaaPackSpec12
import Derived.Test.YtpocfmopeaajaaaPackImpl12
import Derived.Test.YtpocfmopeaajaaaUnpackImpl
import Derived.Test.YtpocfmopeaajaaaDrawLib
import Derived.Test.YtpocfmopeaajaaaDrawRow12
import Derived.WalkKit
import Derived.ProofKit
import Derived.OpenShut
import Derived.Below
import Derived.Lib.SmallJoins
namespace Go.Proofs.Ytpocfmopeaajaaa
open Go.RowKit Go.Joins OutMath PutMath TakeMath RastMath

set_option maxHeartbeats 1600000 in
theorem FnRows_at (a : Option Addr) (len cap : Nat) (w : World) (hK : CodeAt w w.heap.size a len) (hl : (len : Int) ≤ 1048576) :
    Calls Try.prog 3 #[.slice a len cap] w fun e w' => e = .returned (.bool true) ∧ Below w.heap.size w w' := by
  have HK := hid_of hK
  clear hK
  go_enter Try.func3, Try.ntmps3
  go_wp2_with fail
  refine (big_no a len cap _ hl).mono ?_
  rintro e w0 ⟨rfl, rfl⟩
  go_wp2_with fail
  refine (draw_packRow a len cap w0.heap.size w0 HK.out (by omega) (Nat.le_refl _)).mono ?_
  rintro e w1 ⟨g, n, c, f, z, rfl, hn, hO, hB⟩
  have HO := hid_of hO
  have HB := hid_of hB
  clear hO hB HK
  by_cases h : Five z ∧ n ≤ 96
  · obtain ⟨h5, h96⟩ := h
    have hrg := five_range h5
    obtain ⟨d, rfl⟩ := Int.eq_ofNat_of_zero_le (show 0 ≤ z by omega)
    by_cases hf : Fit12 f n d
    · have hnd : n * d ≤ 96 * 16 := Nat.mul_le_mul h96 (by omega)
      obtain ⟨q, hq⟩ : ∃ q, q = n * d := ⟨_, rfl⟩
      have hqi : (n : Int) * (d : Int) = (q : Int) := by rw [hq]; simp
      have hsz : (packT f n d).size = (q + 7) / 8 := by rw [hq]; exact packT_size f n d
      rw [← hq] at hnd
      have H5 := hid_of h5
      have hun := fun W => implUnpack_good (packT f n d) n d W h5 h96 (by rw [hqi, hsz]; omega)
      have hsi : ((packT f n d).size : Int) = ((q : Int) + 7) / 8 := by rw [hsz]; omega
      have HSM : Hid (∀ i, i < n → smp (packT f n d) d i = f i) := fun i hi => smp_pack hf i hi
      have hsp := fun (a : Option Addr) (cap : Nat) (W : World) (hC : Came W a n f) => (specPack_in a n cap d f W hC h5 h96).mono (R' := fun e w' => e = .returned (.tuple #[.string (packT f n d), .bool true]) ∧ Below W.heap.size W w') fun _ _ p => ⟨p.1 hf, p.2.2⟩
      have hip := fun (a : Option Addr) (cap : Nat) (W : World) (hC : Came W a n f) => (implPack_in a n cap d f W hC h5 h96).mono (R' := fun e w' => e = .returned (.tuple #[.string (packT f n d), .bool true]) ∧ Below W.heap.size W w') fun _ _ p => ⟨p.1 hf, p.2.2⟩
      have tq : ((q : Int) + 7).tdiv 8 = ((q : Int) + 7) / 8 := Int.tdiv_eq_ediv_of_nonneg (by omega)
      clear hsz hq h5 hf
      generalize packT f n d = T at *
      go_wp2_with fail
      refine (hip _ _ w1 HO.out.came).mono ?_
      rintro e w2 ⟨rfl, hB2⟩
      have HO2 := hid_of (HO.out.called hB2)
      have HB2 := hid_of (bnext HB.out hB2)
      clear hB2 HB HO
      go_wp2_with fail
      refine (hsp _ _ w2 HO2.out.came).mono ?_
      rintro e w3 ⟨rfl, hB3⟩
      have HO3 := hid_of (HO2.out.called hB3)
      have HB3 := hid_of (bnext HB2.out hB3)
      clear hB3 HB2 HO2
      go_wp2_with fail
      refine (hun w3).mono ?_
      rintro e w4 ⟨g2, rfl, hO4, hB4⟩
      have HX4 := hid_of (hO4.congr HSM.out)
      have HO4 := hid_of (HO3.out.called hB4)
      have HB4 := hid_of (bnext HB3.out hB4)
      clear hB4 hO4 HB3 HO3
      go_wp2_with fail
      refine (sameInts_same _ _ n _ _ f w4 HX4.out.came HO4.out.came (by omega)).mono ?_
      rintro e w5 ⟨rfl, hB5⟩
      have HB5 := hid_of (bnext HB4.out hB5)
      clear hB5 HB4 HX4 HO4
      go_wp2_with fail
      go_ret
      exact ⟨rfl, HB5.out⟩
    · have hsp := fun (a : Option Addr) (cap : Nat) (W : World) (hC : Came W a n f) => (specPack_in a n cap d f W hC h5 h96).mono (R' := fun e w' => e = .returned (.tuple #[.string ⟨#[]⟩, .bool false]) ∧ Below W.heap.size W w') fun _ _ p => ⟨p.2.1 hf, p.2.2⟩
      have hip := fun (a : Option Addr) (cap : Nat) (W : World) (hC : Came W a n f) => (implPack_in a n cap d f W hC h5 h96).mono (R' := fun e w' => e = .returned (.tuple #[.string ⟨#[]⟩, .bool false]) ∧ Below W.heap.size W w') fun _ _ p => ⟨p.2.1 hf, p.2.2⟩
      clear h5 hf
      go_wp2_with fail
      refine (hip _ _ w1 HO.out.came).mono ?_
      rintro e w2 ⟨rfl, hB2⟩
      have HO2 := hid_of (HO.out.called hB2)
      have HB2 := hid_of (bnext HB.out hB2)
      clear hB2 HB HO
      go_wp2_with fail
      refine (hsp _ _ w2 HO2.out.came).mono ?_
      rintro e w3 ⟨rfl, hB3⟩
      have HB3 := hid_of (bnext HB2.out hB3)
      clear hB3 HB2 HO2
      go_wp2_with fail
      go_ret
      exact ⟨rfl, HB3.out⟩
  · have hsp := fun (a : Option Addr) (cap : Nat) (W : World) => specPack_out a n cap z W h
    have hip := fun (a : Option Addr) (cap : Nat) (W : World) => implPack_out a n cap z W h
    clear h
    go_wp2_with fail
    refine (hip _ _ w1).mono ?_
    rintro e w2 ⟨rfl, hB2⟩
    have HB2 := hid_of (bnext HB.out hB2)
    clear hB2 HB HO
    go_wp2_with fail
    refine (hsp _ _ w2).mono ?_
    rintro e w3 ⟨rfl, hB3⟩
    have HB3 := hid_of (bnext HB2.out hB3)
    clear hB3 HB2
    go_wp2_with fail
    go_ret
    exact ⟨rfl, HB3.out⟩
theorem rows_law (a : Option Addr) (len cap : Nat) (zs : List Int) (w : World) (hr : IsRow .u8 w a len cap zs) :
    Calls Try.prog 3 #[.slice a len cap] w fun e w' => e = .returned (.bool true) ∧ Below w.heap.size w w' := by
  obtain ⟨hC, hl, hc⟩ := codeAt_of_row hr
  unfold maxLen at hc
  by_cases h : (len : Int) ≤ 1048576
  · exact FnRows_at a len cap w hC h
  · have d : (1048576 : Int) < len := by omega
    clear hr hC
    go_enter Try.func3, Try.ntmps3
    go_wp2_with fail
    refine (big_yes a len cap _ d (by omega)).mono ?_
    rintro e w1 ⟨rfl, rfl⟩
    go_wp2_with fail
    go_ret
    exact ⟨rfl, Below.refl _ _⟩
end Go.Proofs.Ytpocfmopeaajaaa
