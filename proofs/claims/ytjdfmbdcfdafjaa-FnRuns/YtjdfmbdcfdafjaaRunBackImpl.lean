/-
  The walk of the program's RunsBack.
-/
import Derived.Test.YtjdfmbdcfdafjaaRows
import Derived.Test.YtjdfmbdcfdafjaaBase
import Derived.Test.YtjdfmbdcfdafjaaOwnLib
import Derived.Test.YtjdfmbdcfdafjaaIntsLib
import Derived.Test.YtjdfmbdcfdafjaaRunsMath
import Derived.Test.YtjdfmbdcfdafjaaDuoLib
import Derived.Test.YtjdfmbdcfdafjaaRunWalks
import Derived.Test.YtjdfmbdcfdafjaaBackSpec
import Derived.Test.YtjdfmbdcfdafjaaRunsAns
import Derived.Test.YtjdfmbdcfdafjaaRunOneImpl
import Derived.Test.YtjdfmbdcfdafjaaWithImpl
import Derived.WalkKit
import Derived.ProofKit
import Derived.WalkLawsBesides
import Derived.Below
import Derived.OwnWalk
import Derived.Laws.MakeOwn
import Derived.Deep.LoopGhost
import Derived.Lib.SmallJoins
namespace Go.Proofs.Ytjdfmbdcfdafjaa
open Go.RowKit Go.Joins RunsMath

theorem with_any (w0 w : World) (b : Option Addr) (m d : Nat) (O : List Int) (s x : Int) (k : Nat) (hO : NumRow w w0.heap.size (.slice b m d) O) (hm : m = O.length) (hB : Below w0.heap.size w0 w) (hk : k ≤ 320) (hmk : m ≤ k) :
    Calls Try.prog 32 #[.slice b m d, .agg #[.int .i64 s, .int .i64 x], .int .i64 (k : Int)] w (WithPost w0 O s x k) := by
  by_cases hR : RightRun s x
  · rcases Int.lt_trichotomy s 16 with h | h | h
    · exact with_small w0 w b m d O s x k hO hm hB hk hmk hR h
    · subst h
      rcases Nat.eq_zero_or_pos m with h0 | h0
      · subst h0
        obtain rfl : O = [] := List.eq_nil_of_length_eq_zero hm.symm
        exact with_first w0 w b d x k hB hR
      · exact with_again w0 w b m d O x k hO hm hB hk hmk hR h0
    · exact with_big w0 w b m d O s x k hO hm hB hk hmk hR h
  · exact with_wrong w0 w b m d O s x k hB hR

/-- What the ring of RunsBack has at hand. -/
def BacI (w w' : World) (z : Nat) (L R : List (Int × Int)) (v : Value) (O : List Int) : Prop := NumRow w' w.heap.size v O ∧ Below w.heap.size w w' ∧ back z O R = back z [] L ∧ O.length ≤ z
theorem sl_of_num {w : World} {S : Nat} {a : Option Addr} {n c : Nat} {O : List Int} (h : NumRow w S (.slice a n c) O) (hn : n = O.length) : SL w S a n c (fun j => O.getD j 0) := by
  rcases Nat.eq_zero_or_pos n with h0 | h0
  · exact .inl h0
  · obtain ⟨g, _, ho⟩ := own_of_ownsRow h (by omega)
    obtain ⟨cap, e⟩ := ho.form
    obtain ⟨e1, e2, e3⟩ := Value.slice.inj e
    subst e1 e3
    have e4 : fints (fun j => O.getD j 0) n = ivals O := by
      refine List.ext_getElem? (fun i => ?_)
      rcases Nat.lt_or_ge i O.length with q | q
      · rw [ivals_get O i q, List.getElem?_eq_getElem (by rw [fints_length]; omega), fints_get]
      · rw [List.getElem?_eq_none (by rw [fints_length]; omega), List.getElem?_eq_none (by rw [ivals_length]; exact q)]
    refine .inr ⟨g, rfl, ?_⟩
    unfold IOwn
    rw [e4]
    exact ho

set_option maxHeartbeats 1600000 in
theorem implBack (a : Option Addr) (c : Nat) (L : List (Int × Int)) (k : Nat) (w : World) (hL : DCame w a L.length (fun j => L.getD j (0, 0))) (hn : L.length ≤ 1048576) (hk : k ≤ 320) :
    Calls Try.prog 11 #[.slice a L.length c, .int .i64 (k : Int)] w fun e w' => Below w.heap.size w w' ∧ ((∃ v O, e = .returned (.tuple #[v, .bool true]) ∧ back k [] L = some O ∧ NumRow w' w.heap.size v O) ∨ (e = .returned (.tuple #[.slice none 0 0, .bool false]) ∧ back k [] L = none)) := by
  have HL := hid_of hL
  clear hL
  obtain ⟨i0, hi0, hz0, hz1, hz2⟩ := info_parts info_int
  obtain ⟨wm, hmk, hmo, hmg⟩ := run_make_own (P := Try.prog) w w.heap.size 24 3 i0 (.int .i64 0) 1 Try.underlying24 hi0 hz0 hz1 .i64 .i64 k (by rw [hz2]; omega) (by unfold maxLen; omega) (Nat.le_refl _)
  have H0 : Hid (BacI w wm k L (L.drop 0) (.slice (some ⟨w.heap.size, 0, none⟩) 0 k) []) := ⟨hmo, (Below.refl _ _).grown hmg (Nat.le_refl _) (fun q hq => by cases hq), rfl, Nat.zero_le _⟩
  clear hi0 hz0 hz1 hz2 hmo hmg
  have d1 : decide ((k : Int) < 0) = false := decide_eq_false (by omega)
  have d2 : decide ((320 : Int) < (k : Int)) = false := decide_eq_false (by omega)
  have d3 : decide (320 < k) = false := decide_eq_false (by omega)
  go_enter Try.func11, Try.ntmps11
  go_wp2_with fail
  go_loopg [6, 21] (L.length + 1) (fun gk v y w' => ∃ (i m d : Nat) (b : Option Addr) (O : List Int), v = .slice b m d ∧ i ≤ L.length ∧ y = .int .i64 i ∧ L.length - i ≤ gk ∧ m ≤ k ∧ Hid (m = O.length ∧ BacI w w' k L (L.drop i) v O))
  case atStart => exact ⟨0, 0, k, _, [], rfl, Nat.zero_le _, rfl, by omega, by omega, rfl, H0.out⟩
  case round =>
    clear H0 hmk
    obtain ⟨i, m, d, b, O, rfl, hi, rfl, hgk, hm, hS⟩ := hrel
    by_cases hlt : i < L.length
    · have HB := hid_of hS.out.2.2.1
      rcases HL.out with h0 | ⟨g, off, rfl, hg, hc⟩
      · omega
      obtain ⟨c0, c1⟩ : w.cell? ⟨g, off + i * 2, none⟩ = some (.int .i64 (L.getD i (0, 0)).1) ∧ w.cell? ⟨g, off + i * 2 + 1, none⟩ = some (.int .i64 (L.getD i (0, 0)).2) := hc i hlt
      have HD := hid_of (drop_here hlt)
      obtain ⟨⟨s, x⟩, hr⟩ : ∃ r, r = L.getD i (0, 0) := ⟨_, rfl⟩
      have HDR : Hid (L.drop i = (s, x) :: L.drop (i + 1)) := by rw [hr]; exact HD.out
      have c0' : w.cell? ⟨g, off + i * 2, none⟩ = some (.int .i64 s) := by rw [c0, ← hr]
      have c1' : w.cell? ⟨g, off + i * 2 + 1, none⟩ = some (.int .i64 x) := by rw [c1, ← hr]
      have f0 : wr.cell? ⟨g, off + i * 2, none⟩ = some (.int .i64 s) := (HB.out.cell (p := ⟨g, off + i * 2, none⟩) hg).trans c0'
      have f1 : wr.cell? ⟨g, off + i * 2 + 1, none⟩ = some (.int .i64 x) := (HB.out.cell (p := ⟨g, off + i * 2 + 1, none⟩) hg).trans c1'
      have hl2 : g < wr.heap.size := Nat.lt_of_lt_of_le hg HB.out.size
      have hw := with_any w (wr.alloc (.cells #[.int .i64 s, .int .i64 x] 32)) b m d O s x k (hS.out.2.1.called (bstart _ _)) hS.out.1 (bal HB.out _) hk hm
      clear hc c0 c1 c0' c1' hr HD
      go_wp2_with fail
      refine hw.mono ?_
      rintro e w1 ⟨hB1, ⟨v1, more, rfl, ht, hle, hN⟩ | ⟨rfl, hno⟩⟩
      · clear hw
        have hle2 : (O ++ more).length ≤ k := by rw [List.length_append]; exact hle
        have HN : Hid (BacI w w1 k L (L.drop (i + 1)) v1 (O ++ more)) := by
          refine ⟨hN, hB1, ?_, hle2⟩
          have h := hS.out.2.2.2.1
          rw [HDR.out] at h
          rw [← h]
          exact (back_on ht hle).symm
        obtain ⟨a2, c2, hv2, _⟩ := hN.form
        obtain ⟨O2, hO2⟩ : ∃ O2, O2 = O ++ more := ⟨_, rfl⟩
        obtain ⟨m2, hm2⟩ : ∃ m2, m2 = O2.length := ⟨_, rfl⟩
        rw [← hO2] at HN hle2 hv2
        rw [← hm2] at hle2 hv2
        subst hv2
        have HM2 := hid_of hm2
        clear hO2 hm2 ht hle hN hB1
        go_wp2_with fail
        go_roundg (L.length - (i + 1))
        case measure => omega
        case rel => exact ⟨i + 1, m2, c2, a2, O2, rfl, by omega, by go_num, Nat.le_refl _, by omega, HM2.out, HN.out⟩
      · clear hw
        have HZ : Hid (Below w.heap.size w w1 ∧ back k [] L = none) := by
          refine ⟨hB1, ?_⟩
          have h := hS.out.2.2.2.1
          rw [HDR.out] at h
          rw [← h]
          cases ht : tell O (s, x) with
          | none => exact back_none ht
          | some more => exact back_over ht (hno more ht)
        clear hB1 hno
        go_wp2_with fail
        go_ret2
        exact ⟨HZ.out.1, .inr ⟨rfl, HZ.out.2⟩⟩
    · obtain rfl : i = L.length := by omega
      have hb := hS.out.2.2.2.1
      rw [List.drop_length] at hb
      have HM := hid_of hS.out.1
      by_cases he : m < k
      · have HZ : Hid (back k [] L = none ∧ Below w.heap.size w wr) := by
          refine ⟨?_, hS.out.2.2.1⟩
          rw [← hb]
          show (if O.length = k then some O else none) = none
          rw [if_neg (by rw [← HM.out]; omega)]
        have dk : decide ((m : Int) < (k : Int)) = true := decide_eq_true (by omega)
        clear hb
        go_wp2_with fail
        go_ret2
        exact ⟨HZ.out.2, .inr ⟨rfl, HZ.out.1⟩⟩
      · have HZ : Hid (back k [] L = some O ∧ NumRow wr w.heap.size (.slice b m d) O ∧ Below w.heap.size w wr) := by
          refine ⟨?_, hS.out.2.1, hS.out.2.2.1⟩
          rw [← hb]
          show (if O.length = k then some O else none) = some O
          rw [if_pos (by rw [← HM.out]; omega)]
        have dk : decide ((m : Int) < (k : Int)) = false := decide_eq_false (by omega)
        clear hb
        go_wp2_with fail
        go_ret2
        exact ⟨HZ.out.2.2, .inl ⟨_, _, rfl, HZ.out.1, HZ.out.2.1⟩⟩

set_option maxHeartbeats 800000 in
theorem implBack_bad (a : Option Addr) (n c : Nat) (z : Int) (w : World) (hz : ¬ (0 ≤ z ∧ z ≤ 320)) :
    Calls Try.prog 11 #[.slice a n c, .int .i64 z] w fun e w' => e = .returned (.tuple #[.slice none 0 0, .bool false]) ∧ w' = w := by
  by_cases h0 : z < 0
  · have d1 : decide (z < 0) = true := decide_eq_true h0
    clear hz
    go_enter Try.func11, Try.ntmps11
    go_wp2_with fail
    go_ret2
    exact ⟨rfl, rfl⟩
  · have d1 : decide (z < 0) = false := decide_eq_false h0
    have d2 : decide ((320 : Int) < z) = true := decide_eq_true (by omega)
    clear hz
    go_enter Try.func11, Try.ntmps11
    go_wp2_with fail
    go_ret2
    exact ⟨rfl, rfl⟩

theorem back_answer : BackAnswer := by
  intro a c L z w hL hc hn hwf hz
  by_cases h : 0 ≤ z ∧ z ≤ 320
  · obtain ⟨k, rfl⟩ := Int.eq_ofNat_of_zero_le h.1
    have hB : backOf L (k : Int) = back k [] L := by
      unfold backOf
      rw [if_pos h, Int.toNat_natCast]
    rw [hB]
    refine ⟨fun O hO => (implBack a c L k w hL hn (by omega)).mono ?_, fun hO => (implBack a c L k w hL hn (by omega)).mono ?_⟩
    · rintro e w' ⟨hb, ⟨v, O', rfl, e1, hN⟩ | ⟨_, e1⟩⟩
      · rw [hO] at e1
        cases e1
        obtain ⟨a', c', rfl, _⟩ := hN.form
        exact ⟨a', c', rfl, sl_of_num hN rfl, hb⟩
      · rw [hO] at e1
        cases e1
    · rintro e w' ⟨hb, ⟨v, O', _, e1, hN⟩ | ⟨rfl, _⟩⟩
      · rw [hO] at e1
        cases e1
      · exact ⟨none, 0, rfl, hb⟩
  · have hB : backOf L z = none := by
      unfold backOf
      rw [if_neg h]
    rw [hB]
    refine ⟨(fun O hO => by cases hO), fun _ => (implBack_bad a L.length c z w h).mono ?_⟩
    rintro e w' ⟨rfl, rfl⟩
    exact ⟨none, 0, rfl, Below.refl _ _⟩

end Go.Proofs.Ytjdfmbdcfdafjaa
