/-
  The walk of the law FnExactChunksText.
-/
import Derived.Test.YtofblofmejgipaaRows
import Derived.Test.YtofblofmejgipaaBase
import Derived.Test.YtofblofmejgipaaChunkMath
import Derived.Test.YtofblofmejgipaaChunkFile
import Derived.Test.YtofblofmejgipaaChkLib
import Derived.Test.YtofblofmejgipaaChkWalks
import Derived.Test.YtofblofmejgipaaChkArgs
import Derived.Test.YtofblofmejgipaaChkSize
import Derived.Test.YtofblofmejgipaaChunksSpec
import Derived.Test.YtofblofmejgipaaChunksImpl
import Derived.WalkKit
import Derived.ProofKit
import Derived.OpenShut
import Derived.ShutString
import Derived.ChangeOld
import Derived.Below
import Derived.Lib.SmallJoins
namespace Go.Proofs.Ytofblofmejgipaa
open Go.RowKit Go.Joins ChunkMath

theorem chAns_form (L : List Chk) : ∃ (s : ByteArray) (b : Bool), chAns L = .tuple #[.string s, .bool b] := by
  unfold chAns
  split
  · exact ⟨_, _, rfl⟩
  · exact ⟨_, _, rfl⟩

set_option maxHeartbeats 3200000 in
theorem FnExactChunksText_over (a : Option Addr) (n c : Nat) (L : List Chk) (w : World) (hn : n = L.length) (hC : KCame w a n (fun j => L.getD j noChk)) (hm : ∀ r ∈ L, r.1.size ≤ maxLen ∧ r.2.size ≤ maxLen) (hN : n ≤ maxLen) :
    Calls Try.prog 8 #[.slice a n c] w fun e w' => e = .returned (.bool true) ∧ Below w.heap.size w w' := by
  have hm2 : ∀ i, i < n → (L.getD i noChk).1.size ≤ 9223372036854775807 ∧ (L.getD i noChk).2.size ≤ 9223372036854775807 := fun i hi => by
    have h := hm (L.getD i noChk) (by
      rw [List.getD_eq_getElem?_getD, List.getElem?_eq_getElem (by omega)]
      exact List.getElem_mem _)
    unfold maxLen at h
    omega
  unfold maxLen at hN
  have hsz := szChunkS_any a n c (fun j => L.getD j noChk) w hC (by omega) hm2
  unfold SzPost at hsz
  obtain ⟨s, b, hsb⟩ := chAns_form L
  obtain ⟨F, hF⟩ : ∃ F : Nat → Chk, F = fun j => L.getD j noChk := ⟨_, rfl⟩
  rw [← hF] at hsz hC
  have HSP : Hid (∀ (a' : Option Addr) (c' : Nat) (W : World), n ≤ 1048576 → (∀ i, i < n → (F i).1.size ≤ 1048576 ∧ (F i).2.size ≤ 1048576) → KCame W a' n F → Calls Try.prog 12 #[.slice a' n c'] W fun e w' => e = .returned (.tuple #[.string s, .bool b]) ∧ Below W.heap.size W w') := fun a' c' W h1 h2 h3 => by
    subst hF
    rw [← hsb]
    exact specChunks a' n c' L W hn h3 h2 h1
  have HIM : Hid (∀ (a' : Option Addr) (c' : Nat) (W : World), n ≤ 1048576 → (∀ i, i < n → (F i).1.size ≤ 1048576 ∧ (F i).2.size ≤ 1048576) → KCame W a' n F → Calls Try.prog 11 #[.slice a' n c'] W fun e w' => e = .returned (.tuple #[.string s, .bool b]) ∧ Below W.heap.size W w') := fun a' c' W h1 h2 h3 => by
    subst hF
    rw [← hsb]
    exact implChunks a' n c' L W hn h3 h2 h1
  have HC := hid_of hC
  clear hC hm hm2 hsb hn hF
  go_enter Try.func8, Try.ntmps8
  go_wp2_with fail
  refine hsz.mono ?_
  rintro e w1 ⟨z, rfl, hz, hB1⟩
  have HB1 := hid_of hB1
  have HC1 := hid_of (HC.out.called hB1)
  clear hB1 hsz HC
  rcases hz with rfl | ⟨z0, z1, hn1, hm1⟩
  · go_wp2_with fail
    go_ret
    exact ⟨rfl, HB1.out⟩
  · have dz : decide (z < 0) = false := decide_eq_false (by omega)
    have HM1 := hid_of hm1
    clear hm1
    go_wp2_with fail
    refine (toChunkS_any a n c F w1 HC1.out hn1).mono ?_
    rintro e w2 ⟨rfl, hO2, hB2⟩
    have HO2 := hid_of hO2.came
    have HC2 := hid_of (HC1.out.called hB2)
    have HB2 := hid_of (bnext HB1.out hB2)
    clear hO2 hB2 HC1 HB1
    generalize (some (⟨w1.heap.size, 0, none⟩ : Addr)) = a1 at HO2 ⊢
    go_wp2_with fail
    refine (HSP.out a1 n w2 hn1 HM1.out HO2.out).mono ?_
    rintro e w3 ⟨rfl, hB3⟩
    have HC3 := hid_of (HC2.out.called hB3)
    have HB3 := hid_of (bnext HB2.out hB3)
    clear hB3 HC2 HB2 HO2
    go_wp2_with fail
    refine (toChunkS_any a n c F w3 HC3.out hn1).mono ?_
    rintro e w4 ⟨rfl, hO4, hB4⟩
    have HO4 := hid_of hO4.came
    have HC4 := hid_of (HC3.out.called hB4)
    have HB4 := hid_of (bnext HB3.out hB4)
    clear hO4 hB4 HC3 HB3
    generalize (some (⟨w3.heap.size, 0, none⟩ : Addr)) = a2 at HO4 ⊢
    go_wp2_with fail
    refine (HIM.out a2 n w4 hn1 HM1.out HO4.out).mono ?_
    rintro e w5 ⟨rfl, hB5⟩
    have HC5 := hid_of (HC4.out.called hB5)
    have HO5 := hid_of (HO4.out.called hB5)
    have HB5 := hid_of (bnext HB4.out hB5)
    clear hB5 HC4 HB4 HO4
    go_wp2_with fail
    refine (toChunkS_any a n c F w5 HC5.out hn1).mono ?_
    rintro e w6 ⟨rfl, hO6, hB6⟩
    have HO6 := hid_of hO6.came
    have HO5' := hid_of (HO5.out.called hB6)
    have HB6 := hid_of (bnext HB5.out hB6)
    clear hO6 hB6 HC5 HB5 HO5
    generalize (some (⟨w5.heap.size, 0, none⟩ : Addr)) = a3 at HO6 ⊢
    go_wp2_with fail
    refine (eqChunkS_same a2 a3 n n n F w6 HO5'.out HO6.out hn1).mono ?_
    rintro e w7 ⟨rfl, hB7⟩
    have HB7 := hid_of (bnext HB6.out hB7)
    clear hB7
    go_wp2_with fail
    go_ret
    exact ⟨rfl, HB7.out⟩

end Go.Proofs.Ytofblofmejgipaa
