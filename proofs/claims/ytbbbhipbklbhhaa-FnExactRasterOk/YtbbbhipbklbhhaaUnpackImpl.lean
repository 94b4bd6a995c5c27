/-
  The walk of the program's UnpackRow.
-/
import Derived.Test.YtbbbhipbklbhhaaRows
import Derived.Test.YtbbbhipbklbhhaaBase
import Derived.Test.YtbbbhipbklbhhaaIntsLib
import Derived.Test.YtbbbhipbklbhhaaMakeLib
import Derived.Test.YtbbbhipbklbhhaaRastMath
import Derived.Test.YtbbbhipbklbhhaaUnpMath
import Derived.Test.YtbbbhipbklbhhaaDepthImpl
import Derived.WalkKit
import Derived.ProofKit
import Derived.WalkLawsBesides
import Derived.RegionTactic
import Derived.BigRegion
import Derived.Deep.RegionWith
import Derived.Below
import Derived.OwnWalk
import Derived.Lib.SmallJoins
namespace Go.Proofs.Ytbbbhipbklbhhaa
open Go.RowKit Go.Joins OutMath PutMath TakeMath RastMath

theorem shift_any (j d r sh : Nat) (w : World) (hr : (j : Int) * (d : Int) = (r : Int)) (hrb : r ≤ 2000) (hs : r % 8 + d ≤ 8) (hsh : sh = 8 - d - r % 8) :
    Calls Try.prog 35 #[.int .i64 (j : Int), .int .i64 (d : Int)] w fun e w' => e = .returned (.int .i64 (sh : Int)) ∧ w' = w := by
  have t2 : (r : Int).tmod 8 = (r : Int) % 8 := Int.tmod_eq_emod_of_nonneg (by omega)
  have HE : Hid ((8 : Int) - (d : Int) - (r : Int) % 8 = (sh : Int)) := by show _ = _; omega
  have b1 : (d : Int) ≤ 8 := by omega
  clear hsh hs
  go_enter Try.func35, Try.ntmps35
  go_wp2_with fail
  go_ret
  exact ⟨by rw [← HE.out]; rfl, rfl⟩

/-- What the ring of the program's UnpackRow has at hand. -/
def UnpI (w w' : World) (g : Nat) (s : ByteArray) (d n j : Nat) : Prop := ∃ h : Nat → Int, IOwn w' w.heap.size g n n h ∧ (∀ i, i < j → h i = smp s d i) ∧ Below w.heap.size w w'
theorem unpI_next {w wr : World} {g : Nat} {s : ByteArray} {d n j : Nat} {x : Int} (hS : UnpI w wr g s d n j) (hj : j < n) (hx : x = smp s d j) : UnpI w (wr.setCell ⟨g, j, none⟩ (.int .i64 x)).drew g s d n (j + 1) := by
  obtain ⟨h, hO, hh, hB⟩ := hS
  refine ⟨upd h j x, (hO.set j hj x).drew, fun i hi => ?_, (Below.setCell (p := ⟨g, j, none⟩) hB hO.base_le _).drew⟩
  unfold upd
  by_cases e : i = j
  · rw [if_pos e, e, hx]
  · rw [if_neg e]; exact hh i (by omega)
set_option maxHeartbeats 1600000 in
theorem implUnpack_good (s : ByteArray) (n d : Nat) (w : World) (hd : Five (d : Int)) (hn : n ≤ 96) (hs : (s.size : Int) = ((n : Int) * (d : Int) + 7) / 8) :
    Calls Try.prog 13 #[.string s, .int .i64 (n : Int), .int .i64 (d : Int)] w fun e w' => ∃ g, e = .returned (.tuple #[.slice (some ⟨g, 0, none⟩) n n, .bool true]) ∧ IOwn w' w.heap.size g n n (smp s d) ∧ Below w.heap.size w w' := by
  have h5 := five_range hd
  have hk := isDepth_any (d : Int)
  rw [decide_eq_true hd] at hk
  have hnd : n * d ≤ 96 * 16 := Nat.mul_le_mul hn (by omega)
  obtain ⟨q, hq⟩ : ∃ q, q = n * d := ⟨_, rfl⟩
  have hqi : (n : Int) * (d : Int) = (q : Int) := by rw [hq]; simp
  rw [hqi] at hs
  rw [← hq] at hnd
  have hf := fun W => rowFor_any (q : Int) W (by omega) (by omega)
  rw [← hs] at hf
  have HS := hid_of hs
  have HQ := hid_of hq
  have HD := hid_of hd
  have dn0 : decide ((n : Int) < 0) = false := decide_eq_false (by omega)
  have dn1 : decide ((96 : Int) < (n : Int)) = false := decide_eq_false (by omega)
  clear hs hq hd
  go_enter Try.func13, Try.ntmps13
  go_wp2_with fail
  refine (hk _).mono ?_
  rintro e w1 ⟨rfl, hB⟩
  have HB := hid_of hB
  clear hB
  go_wp2_with fail
  refine (hf _).mono ?_
  rintro e w2 ⟨rfl, rfl⟩
  have hmk := make_ints w2 n (by omega)
  have H0 : Hid (UnpI w (w2.alloc (.cells (madeCells #[Value.int .i64 0] n) 3)) w2.heap.size s d n 0) := ⟨fun _ => 0, IOwn.made (base := w.heap.size) w2 n (by unfold maxLen; omega) HB.out.size, fun i hi => absurd hi (Nat.not_lt_zero i), bnext HB.out (bstart _ _)⟩
  generalize w2.alloc (.cells (madeCells #[Value.int .i64 0] n) 3) = w3 at hmk H0
  generalize w2.heap.size = G at hmk H0
  go_wp2_with fail
  go_loopw [34] (fun i w' => ∃ j : Nat, j ≤ n ∧ i = .int .i64 j ∧ Hid (UnpI w w' G s d n j)) (fun i _ => n - (intOf i).toNat)
  case atStart => exact ⟨0, Nat.zero_le _, rfl, H0⟩
  case round =>
    clear H0 hmk
    obtain ⟨j, hj, rfl, hS⟩ := hrel
    by_cases hlt : j < n
    · obtain ⟨h, hO, hh, hBB⟩ := hS.out
      have c1 := hO.cell j hlt
      have f1 := hO.free j hlt
      have l1 := hO.lt
      clear hh hBB hO
      have hjd : j * d + d ≤ q := by
        have := Nat.mul_le_mul_right d (show j + 1 ≤ n by omega)
        rw [Nat.add_mul, Nat.one_mul] at this
        rw [HQ.out]
        exact this
      by_cases h16 : d = 16
      · subst h16
        obtain ⟨x, hx⟩ : ∃ x, x = 2 * j := ⟨_, rfl⟩
        have hxs : x + 1 < s.size := by
          have := HS.out
          omega
        have hx0 : x < s.size := by omega
        have e1 : (2 : Int) * (j : Int) = (x : Int) := by omega
        obtain ⟨B0, hB0⟩ : ∃ B : Nat, B = (s[x]'hx0).toNat := ⟨_, rfl⟩
        obtain ⟨B1, hB1⟩ : ∃ B : Nat, B = (s[x + 1]'hxs).toNat := ⟨_, rfl⟩
        have hl0 : B0 < 256 := by rw [hB0]; exact UInt8.toNat_lt _
        have hl1 : B1 < 256 := by rw [hB1]; exact UInt8.toNat_lt _
        have HV : Hid (bits .or .i64 ((B0 : Int) * 256) (B1 : Int) = smp s 16 j) := by
          show _ = _
          rw [or_two _ _ (by omega) (by omega) (by omega) (by omega), smp_two, ← hx, ← byteAt_get s x hx0, ← byteAt_get s (x + 1) hxs, hB0, hB1]
        have HN := fun z hz => hid_of (unpI_next (x := z) hS.out hlt hz)
        have w1 : IntKind.i64.wrap ((x : Int)) = (x : Int) := by rw [IntKind.wrap_i64]; omega
        have w2 : IntKind.i64.wrap ((x : Int) + 1) = (x : Int) + 1 := by rw [IntKind.wrap_i64]; omega
        have w4 : IntKind.i64.wrap ((B0 : Int)) = (B0 : Int) := by rw [IntKind.wrap_i64]; omega
        have w5 : IntKind.i64.wrap ((B1 : Int)) = (B1 : Int) := by rw [IntKind.wrap_i64]; omega
        have w6 : IntKind.i64.wrap ((B0 : Int) * 256) = (B0 : Int) * 256 := by rw [IntKind.wrap_i64]; omega
        have xi0 : (x : Int) < (s.size : Int) := by omega
        have xi1 : (x : Int) + 1 < (s.size : Int) := by omega
        have r0 := hB0.symm
        have r1 := hB1.symm
        have HX := hid_of hx
        clear hx hB0 hB1
        go_wp2_with fail
        go_region
        go_wp2_with fail
        go_roundw
        case rel => exact ⟨j + 1, by omega, by go_num, HN _ HV.out⟩
        case measure => simp [intOf]; omega
      · have hpl := five_place HD.out h16 j
        have hd8 : d ≤ 8 := by omega
        obtain ⟨r, hr⟩ : ∃ r, r = j * d := ⟨_, rfl⟩
        have hri : (j : Int) * (d : Int) = (r : Int) := by rw [hr]; simp
        rw [← hr] at hjd hpl
        obtain ⟨sh, hsh⟩ : ∃ sh, sh = 8 - d - r % 8 := ⟨_, rfl⟩
        have hsf := fun W => shift_any j d r sh W hri (by omega) hpl hsh
        obtain ⟨x, hx⟩ : ∃ x, x = r / 8 := ⟨_, rfl⟩
        have hx0 : x < s.size := by
          have := HS.out
          omega
        obtain ⟨B, hB⟩ : ∃ B : Nat, B = (s[x]'hx0).toNat := ⟨_, rfl⟩
        have hl0 : B < 256 := by rw [hB]; exact UInt8.toNat_lt _
        obtain ⟨C, hC⟩ : ∃ C : Int, C = (B : Int) / 2 ^ sh := ⟨_, rfl⟩
        have hCb : 0 ≤ C ∧ C ≤ B := by rw [hC]; exact div_bd B (p2 sh) (p2_pos sh)
        obtain ⟨M, hM⟩ : ∃ M : Int, M = 2 ^ d := ⟨_, rfl⟩
        have hMb : 1 ≤ M ∧ M ≤ 65536 := by
          have h1 := p2_pos d
          have h2 := p2_le (show d ≤ 16 by omega)
          rw [show p2 16 = 65536 by decide +kernel] at h2
          rw [hM]
          exact ⟨h1, h2⟩
        have HV : Hid (bits .and .i64 C (M - 1) = smp s d j) := by
          show _ = _
          rw [smp_small s d j (by rw [← hr]; exact hpl), ← hr, ← hx, ← hsh, ← byteAt_get s x hx0, ← hB, hM]
          rw [show (2 : Int) ^ d = p2 d from rfl, and_mask C d hCb.1 (by omega) (by omega), hC]
          rfl
        have HN := fun z hz => hid_of (unpI_next (x := z) hS.out hlt hz)
        have t1 : (r : Int).tdiv 8 = (x : Int) := by
          rw [Int.tdiv_eq_ediv_of_nonneg (by omega)]
          omega
        have w1 : IntKind.i64.wrap ((x : Int)) = (x : Int) := by rw [IntKind.wrap_i64]; omega
        have w2 : IntKind.i64.wrap ((r : Int)) = (r : Int) := by rw [IntKind.wrap_i64]; omega
        have w4 : IntKind.i64.wrap ((B : Int)) = (B : Int) := by rw [IntKind.wrap_i64]; omega
        have w5 : IntKind.i64.wrap C = C := by rw [IntKind.wrap_i64]; omega
        have w6 : IntKind.i64.wrap M = M := by rw [IntKind.wrap_i64]; omega
        have w7 : IntKind.i64.wrap (M - 1) = M - 1 := by rw [IntKind.wrap_i64]; omega
        have xi0 : (x : Int) < (s.size : Int) := by omega
        have r0 := hB.symm
        have r1 := hC.symm
        have r2 := hM.symm
        have m64 : min sh 64 = sh := by omega
        have d16 : ((d : Int) == 16) = false := beq_no1 (by omega)
        have HR := hid_of hr
        have HSH := hid_of hsh
        clear hx hB hC hM hr hsh hpl
        go_wp2_with fail
        go_region_with (go_at_call 35; refine (hsf _).mono ?_; rintro e w' ⟨rfl, rfl⟩)
        all_goals
          go_wp2_with fail
          go_roundw
          case rel => exact ⟨j + 1, by omega, by go_num, HN _ HV.out⟩
          case measure => simp [intOf]; omega
    · obtain rfl : j = n := by omega
      obtain ⟨h, hO, hh, hBB⟩ := hS.out
      have HF : Hid (IOwn wr w.heap.size G j j (smp s d) ∧ Below w.heap.size w wr) := ⟨hO.congr hh, hBB⟩
      clear hO hh hBB hS
      go_wp2_with fail
      refine bodyPost_ret (v := .tuple #[.slice (some ⟨G, 0, none⟩) j j, .bool true]) ?_ rfl ⟨G, rfl, HF.out⟩
      simp [results, Try.results13, go_sem]
theorem implUnpack_bad (s : ByteArray) (c d : Int) (w : World) (h : ¬ UnpR s c d) :
    Calls Try.prog 13 #[.string s, .int .i64 c, .int .i64 d] w fun e w' => e = .returned (.tuple #[.slice none 0 0, .bool false]) ∧ Below w.heap.size w w' := by
  have hk := isDepth_any d
  by_cases h5 : Five d
  · rw [decide_eq_true h5] at hk
    by_cases h0 : c < 0
    · have d0 : decide (c < 0) = true := decide_eq_true h0
      clear h h5 h0
      go_enter Try.func13, Try.ntmps13
      go_wp2_with fail
      refine (hk _).mono ?_
      rintro e w1 ⟨rfl, hB⟩
      have HB := hid_of hB
      clear hB
      go_wp2_with fail
      refine bodyPost_ret (v := .tuple #[.slice none 0 0, .bool false]) ?_ rfl ⟨rfl, HB.out⟩
      simp [results, Try.results13, go_sem]
    · have d0 : decide (c < 0) = false := decide_eq_false h0
      by_cases h1 : 96 < c
      · have d1 : decide (96 < c) = true := decide_eq_true h1
        clear h h5 h0 h1
        go_enter Try.func13, Try.ntmps13
        go_wp2_with fail
        refine (hk _).mono ?_
        rintro e w1 ⟨rfl, hB⟩
        have HB := hid_of hB
        clear hB
        go_wp2_with fail
        refine bodyPost_ret (v := .tuple #[.slice none 0 0, .bool false]) ?_ rfl ⟨rfl, HB.out⟩
        simp [results, Try.results13, go_sem]
      · have d1 : decide (96 < c) = false := decide_eq_false h1
        have hne : ¬ (s.size : Int) = (c * d + 7) / 8 := fun e => h ⟨h5, ⟨by omega, by omega⟩, e⟩
        have hr := five_range h5
        obtain ⟨q, hq⟩ : ∃ q, q = c * d := ⟨_, rfl⟩
        have hqb : 0 ≤ q ∧ q ≤ 1536 := by
          have m1 := Int.mul_nonneg (show 0 ≤ c by omega) (show 0 ≤ d by omega)
          have m2 := Int.mul_le_mul (show c ≤ 96 by omega) hr.2 (by omega) (by omega)
          omega
        rw [← hq] at hne
        have hqs := hq.symm
        have hf := fun W => rowFor_any q W hqb.1 (by omega)
        have d2 : ((s.size : Int) == (q + 7) / 8) = false := beq_no1 hne
        have d3 : ((s.size : Int) != (q + 7) / 8) = true := by simpa using hne
        have d4 : decide ((s.size : Int) = (q + 7) / 8) = false := decide_eq_false hne
        clear h h5 hne hq
        go_enter Try.func13, Try.ntmps13
        go_wp2_with fail
        refine (hk _).mono ?_
        rintro e w1 ⟨rfl, hB⟩
        have HB := hid_of hB
        clear hB
        go_wp2_with fail
        refine (hf _).mono ?_
        rintro e w2 ⟨rfl, rfl⟩
        go_wp2_with fail
        refine bodyPost_ret (v := .tuple #[.slice none 0 0, .bool false]) ?_ rfl ⟨rfl, HB.out⟩
        simp [results, Try.results13, go_sem]
  · rw [decide_eq_false h5] at hk
    clear h h5
    go_enter Try.func13, Try.ntmps13
    go_wp2_with fail
    refine (hk _).mono ?_
    rintro e w1 ⟨rfl, hB⟩
    have HB := hid_of hB
    clear hB
    go_wp2_with fail
    refine bodyPost_ret (v := .tuple #[.slice none 0 0, .bool false]) ?_ rfl ⟨rfl, HB.out⟩
    simp [results, Try.results13, go_sem]
end Go.Proofs.Ytbbbhipbklbhhaa
