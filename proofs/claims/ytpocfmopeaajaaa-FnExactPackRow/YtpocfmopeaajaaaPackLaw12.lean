/-
  The law FnExactPackRow over what the model and the program answer.
-/
import Derived.Test.YtpocfmopeaajaaaRows
import Derived.Test.YtpocfmopeaajaaaBase
import Derived.Test.YtpocfmopeaajaaaOwnLib
import Derived.Test.YtpocfmopeaajaaaRowLib
import Derived.Test.YtpocfmopeaajaaaIntsLib
import Derived.Test.YtpocfmopeaajaaaIntsWalks
import Derived.Test.YtpocfmopeaajaaaRastMath
import Derived.Test.YtpocfmopeaajaaaPackMath12
import Derived.Test.YtpocfmopeaajaaaPackSpec12
import Derived.Test.YtpocfmopeaajaaaPackImpl12
import Derived.WalkKit
import Derived.ProofKit
import Derived.OpenShut
import Derived.Below
import Derived.Lib.SmallJoins
namespace Go.Proofs.Ytpocfmopeaajaaa
open Go.RowKit Go.Joins RastMath

set_option maxHeartbeats 1600000 in
theorem FnExactPackRow_at (a : Option Addr) (n cap : Nat) (d : Int) (f : Nat → Int) (T : ByteArray) (b : Bool) (w : World) (hC : Came w a n f) (hn : n ≤ 1048576)
    (hx : ∀ (a : Option Addr) (cap : Nat) (w : World), Came w a n f → Calls Try.prog 9 #[.slice a n cap, .int .i64 d] w fun e w' => e = .returned (.tuple #[.string T, .bool b]) ∧ Below w.heap.size w w')
    (hy : ∀ (a : Option Addr) (cap : Nat) (w : World), Came w a n f → Calls Try.prog 8 #[.slice a n cap, .int .i64 d] w fun e w' => e = .returned (.tuple #[.string T, .bool b]) ∧ Below w.heap.size w w') :
    Calls Try.prog 5 #[.slice a n cap, .int .i64 d] w fun e w' => e = .returned (.bool true) ∧ Below w.heap.size w w' := by
  have Hx := hid_of hx
  have Hy := hid_of hy
  have HC := hid_of hC
  have hbb : (b != b) = false := bne_self_eq_false b
  have dl : decide ((1048576 : Int) < (n : Int)) = false := decide_eq_false (by omega)
  clear hx hy hC
  go_enter Try.func5, Try.ntmps5
  go_wp2_with fail
  refine (toIntS_any a n cap f w HC.out hn).mono ?_
  rintro e w1 ⟨rfl, hO1, hB1⟩
  have HO1 := hid_of hO1
  have HB1 := hid_of hB1
  clear hO1 hB1
  go_wp2_with fail
  refine (Hx.out _ n w1 HO1.out.came).mono ?_
  rintro e w2 ⟨rfl, hB2⟩
  have HB2 := hid_of (bnext HB1.out hB2)
  clear hB2 HB1 HO1
  go_wp2_with fail
  refine (toIntS_any a n cap f w2 (HC.out.called HB2.out) hn).mono ?_
  rintro e w3 ⟨rfl, hO3, hB3⟩
  have HO3 := hid_of hO3
  have HB3 := hid_of (bnext HB2.out hB3)
  clear hO3 hB3 HB2
  go_wp2_with fail
  refine (Hy.out _ n w3 HO3.out.came).mono ?_
  rintro e w4 ⟨rfl, hB4⟩
  have HO4 := hid_of (HO3.out.called hB4)
  have HB4 := hid_of (bnext HB3.out hB4)
  clear hB4 HO3 HB3
  go_wp2_with fail
  refine (toIntS_any a n cap f w4 (HC.out.called HB4.out) hn).mono ?_
  rintro e w5 ⟨rfl, hO5, hB5⟩
  have HX5 := hid_of (HO4.out.called hB5)
  have HO5 := hid_of hO5
  have HB5 := hid_of (bnext HB4.out hB5)
  clear hO5 hB5 HB4 HO4
  go_wp2_with fail
  refine (eqIntS_same _ _ n _ _ f w5 HX5.out.came HO5.out.came hn).mono ?_
  rintro e w6 ⟨rfl, hB6⟩
  have HB6 := hid_of (bnext HB5.out hB6)
  clear hB6 HB5 HX5 HO5
  go_wp2_with fail
  go_ret
  exact ⟨rfl, HB6.out⟩
theorem FnExactPackRow_big (a : Option Addr) (n cap : Nat) (d : Int) (w : World) (h : ¬ n ≤ 1048576) (hl : n ≤ maxLen) :
    Calls Try.prog 5 #[.slice a n cap, .int .i64 d] w fun e w' => e = .returned (.bool true) ∧ Below w.heap.size w w' := by
  unfold maxLen at hl
  have d : (1048576 : Int) < n := by omega
  go_enter Try.func5, Try.ntmps5
  go_wp2_with fail
  go_ret
  exact ⟨rfl, Below.refl _ _⟩
theorem packRow_law (a : Option Addr) (len cap : Nat) (zs : List Int) (d : Int) (w : World) (hr : IsRow .i64 w a len cap zs) (_ : (Lit.int .i64 d).wf = true) : Calls Try.prog 5 #[.slice a len cap, .int .i64 d] w fun e w' => e = .returned (.bool true) ∧ Below w.heap.size w w' := by
  obtain ⟨hC, hm, _⟩ := came_of_row hr
  generalize (fun j => zs.getD j 0) = f at hC
  by_cases hn : len ≤ 1048576
  · by_cases h : Five d ∧ len ≤ 96
    · obtain ⟨h5, h96⟩ := h
      have hrg := five_range h5
      obtain ⟨k, rfl⟩ := Int.eq_ofNat_of_zero_le (show 0 ≤ d by omega)
      by_cases hf : Fit12 f len k
      · refine FnExactPackRow_at a len cap k f (packT f len k) true w hC hn (fun a cap w hc => ?_) (fun a cap w hc => ?_)
        · exact (specPack_in a len cap k f w hc h5 h96).mono fun e w' p => ⟨p.1 hf, p.2.2⟩
        · exact (implPack_in a len cap k f w hc h5 h96).mono fun e w' p => ⟨p.1 hf, p.2.2⟩
      · refine FnExactPackRow_at a len cap k f ⟨#[]⟩ false w hC hn (fun a cap w hc => ?_) (fun a cap w hc => ?_)
        · exact (specPack_in a len cap k f w hc h5 h96).mono fun e w' p => ⟨p.2.1 hf, p.2.2⟩
        · exact (implPack_in a len cap k f w hc h5 h96).mono fun e w' p => ⟨p.2.1 hf, p.2.2⟩
    · exact FnExactPackRow_at a len cap d f ⟨#[]⟩ false w hC hn (fun a cap w _ => specPack_out a len cap d w h) (fun a cap w _ => implPack_out a len cap d w h)
  · exact FnExactPackRow_big a len cap d w hn hm
end Go.Proofs.Ytpocfmopeaajaaa
