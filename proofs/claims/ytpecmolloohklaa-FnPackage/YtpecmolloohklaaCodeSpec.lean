/-
  The walks of the document's model of prefix codes: what lengths are full to, their kind, their codes, what they cost.
-/
import Derived.Test.YtpecmolloohklaaRows
import Derived.Test.YtpecmolloohklaaBase
import Derived.Test.YtpecmolloohklaaOutMath
import Derived.Test.YtpecmolloohklaaCodeMath
import Derived.Test.YtpecmolloohklaaPowWalks
import Derived.Test.YtpecmolloohklaaInWalks
import Derived.Test.YtpecmolloohklaaOwnLib
import Derived.Test.YtpecmolloohklaaIntsLib
import Derived.WalkKit
import Derived.ProofKit
import Derived.WalkLawsBesides
import Derived.Deep.QuietTactic
import Derived.RegionTactic
import Derived.Lib.SmallJoins
namespace Go.Proofs.Ytpecmolloohklaa
open Go.RowKit Go.Joins OutMath CodeMath

theorem ret_ib {a b : Int} {c : Bool} (h : a = b) : Ending.returned (.tuple #[.int .i64 a, .bool c]) = .returned (.tuple #[.int .i64 b, .bool c]) := by rw [h]

/-- What l03Room answers. -/
def RoomPost (f : Nat → Int) (n : Nat) (w : World) (e : Ending) (w' : World) : Prop :=
  ∃ (x : Int) (b : Bool), e = .returned (.tuple #[.int .i64 x, .bool b]) ∧ w' = w ∧ ((b = true ∧ n ≤ 288 ∧ OkLens f n ∧ x = room f n) ∨ (b = false ∧ ¬ (n ≤ 288 ∧ OkLens f n)))
theorem RoomPost.yes {f : Nat → Int} {n : Nat} {w : World} (h1 : n ≤ 288) (h2 : OkLens f n) : RoomPost f n w (.returned (.tuple #[.int .i64 (room f n), .bool true])) w := ⟨_, true, rfl, rfl, .inl ⟨rfl, h1, h2, rfl⟩⟩
theorem RoomPost.no {f : Nat → Int} {n : Nat} {w : World} (h : ¬ (n ≤ 288 ∧ OkLens f n)) : RoomPost f n w (.returned (.tuple #[.int .i64 0, .bool false])) w := ⟨_, false, rfl, rfl, .inr ⟨rfl, h⟩⟩

set_option maxHeartbeats 800000 in
theorem specRoom (a : Option Addr) (n cap : Nat) (f : Nat → Int) (w : World) (hC : Came w a n f) (hn : n ≤ 1048576) :
    Calls Try.prog 36 #[.slice a n cap, .int .i64 288] w (RoomPost f n w) := by
  have HC : Hid (Came w a n f) := hC
  clear hC
  by_cases hm : n ≤ 288
  · go_enter Try.func36, Try.ntmps36
    go_wp2_with fail
    go_loop [6, 7] (fun x i => ∃ j : Nat, j ≤ n ∧ i = .int .i64 j ∧ x = .int .i64 (room f j) ∧ Hid (OkLens f j)) (fun _ i => n - (intOf i).toNat)
    case atStart => exact ⟨0, Nat.zero_le _, rfl, rfl, fun i hi => absurd hi (Nat.not_lt_zero i)⟩
    case round =>
      obtain ⟨j, hj, rfl, rfl, hok⟩ := hrel
      by_cases hlt : j < n
      · have hr := room_bd f j
        have hr2 := hr.2 hok.out
        have hr1 := hr.1
        clear hr
        rcases HC.out with h0 | ⟨g, off, rfl, hg, hc⟩
        · omega
        · have c0 := hc j hlt
          clear hc
          by_cases hin : 0 ≤ f j ∧ f j ≤ 15
          · have HK : Hid (OkLens f (j + 1)) := fun i hi => by
              by_cases e : i = j
              · rw [e]; exact hin
              · exact hok.out i (by omega)
            obtain ⟨i0, i1⟩ := hin
            go_wp2_with fail
            refine (in_yes _ _ _ _ i0 i1).mono ?_
            rintro e w1 ⟨rfl, rfl⟩
            by_cases hpos : 0 < f j
            · have HR : Hid (room f (j + 1) = room f j + p2 (15 - f j).toNat) := by
                show room f j + (if 0 < f j then p2 (15 - f j).toNat else 0) = _
                rw [if_pos hpos]
              have hp := p2_le (show (15 - f j).toNat ≤ 15 by omega)
              have hp2 : p2 15 = 32768 := by decide +kernel
              have hp3 := p2_pos (15 - f j).toNat
              go_wp2_with fail
              refine (pow_int _ _ (by omega) (by omega)).mono ?_
              rintro e w1 ⟨rfl, rfl⟩
              go_wp2_with fail
              go_round
              case rel => exact ⟨j + 1, by omega, by go_num, by rw [HR.out], HK⟩
              case measure => simp [intOf]; omega
            · have HR : Hid (room f (j + 1) = room f j) := by
                show room f j + (if 0 < f j then p2 (15 - f j).toNat else 0) = _
                rw [if_neg hpos]; omega
              have d : decide (0 < f j) = false := by simpa using hpos
              go_wp2_with fail
              go_round
              case rel => exact ⟨j + 1, by omega, by go_num, by rw [HR.out], HK⟩
              case measure => simp [intOf]; omega
          · have HN : Hid (¬ (0 ≤ f j ∧ f j ≤ 15)) := hin
            clear hin
            go_wp2_with fail
            refine (in_no _ _ _ _ HN.out).mono ?_
            rintro e w1 ⟨rfl, rfl⟩
            go_wp2_with fail
            go_ret2
            exact RoomPost.no (fun h => HN.out (h.2 j hlt))
      · obtain rfl : j = n := by omega
        go_wp2_with fail
        go_ret2
        exact RoomPost.yes hm hok.out
  · go_enter Try.func36, Try.ntmps36
    go_wp2_with fail
    go_ret2
    exact RoomPost.no (fun h => hm h.1)

set_option maxHeartbeats 800000 in
theorem specKind (a : Option Addr) (n cap : Nat) (f : Nat → Int) (w : World) (hC : Came w a n f) (hn : n ≤ 1048576) :
    Calls Try.prog 12 #[.slice a n cap] w fun e w' => ∃ k : Int, e = .returned (.int .i64 k) ∧ Kind f n k ∧ w' = w := by
  have HC : Hid (Came w a n f) := hC
  clear hC
  go_enter Try.func12, Try.ntmps12
  go_wp2_with fail
  refine (specRoom a n cap f w HC.out hn).mono ?_
  rintro e w1 ⟨x, b, rfl, hw, (⟨rfl, hm, hok, rfl⟩ | ⟨rfl, hno⟩)⟩
  · obtain rfl : w = w1 := hw.symm
    have HK : Hid (OkLens f n) := hok
    have hr := (room_bd f n).2 hok
    have hr0 := (room_bd f n).1
    clear hok hw
    go_wp2_with fail
    go_loop [5, 6] (fun x i => ∃ j : Nat, j ≤ n ∧ i = .int .i64 j ∧ x = .int .i64 (cnt f j)) (fun _ i => n - (intOf i).toNat)
    case atStart => exact ⟨0, Nat.zero_le _, rfl, rfl⟩
    case round =>
      obtain ⟨j, hj, rfl, rfl⟩ := hrel
      have hcb := cnt_bd f j
      by_cases hlt : j < n
      · rcases HC.out with h0 | ⟨g, off, rfl, hg, hc⟩
        · omega
        · have c0 := hc j hlt
          clear hc
          by_cases hpos : 0 < f j
          · have HR : Hid (cnt f (j + 1) = cnt f j + 1) := by
              show cnt f j + (if 0 < f j then 1 else 0) = _
              rw [if_pos hpos]
            go_wp2_with fail
            go_round
            case rel => exact ⟨j + 1, by omega, by go_num, by rw [HR.out]⟩
            case measure => simp [intOf]; omega
          · have HR : Hid (cnt f (j + 1) = cnt f j) := by
              show cnt f j + (if 0 < f j then 1 else 0) = _
              rw [if_neg hpos]; omega
            have d : decide (0 < f j) = false := by simpa using hpos
            go_wp2_with fail
            go_round
            case rel => exact ⟨j + 1, by omega, by go_num, by rw [HR.out]⟩
            case measure => simp [intOf]; omega
      · obtain rfl : j = n := by omega
        have HF : Hid (∀ k, k = kindOf f j → Kind f j k) := fun k hk => .inr ⟨hm, HK.out, hk⟩
        by_cases q1 : cnt f j = 0
        · have d1 : (cnt f j == 0) = true := by simpa using q1
          go_wp2_with fail
          go_ret
          exact ⟨1, rfl, HF.out _ (by unfold kindOf; rw [if_pos q1]), rfl⟩
        · have d1 : (cnt f j == 0) = false := by simpa using q1
          by_cases q2 : room f j = 32768
          · have d2 : (room f j == 32768) = true := by simpa using q2
            go_wp2_with fail
            go_ret
            exact ⟨2, rfl, HF.out _ (by unfold kindOf; rw [if_neg q1, if_pos q2]), rfl⟩
          · have d2 : (room f j == 32768) = false := by simpa using q2
            by_cases q3 : 32768 < room f j
            · have d3 : decide (32768 < room f j) = true := by simpa using q3
              go_wp2_with fail
              go_ret
              exact ⟨5, rfl, HF.out _ (by unfold kindOf; rw [if_neg q1, if_neg q2, if_pos q3]), rfl⟩
            · have d3 : decide (32768 < room f j) = false := by simpa using q3
              by_cases q4 : cnt f j = 1 ∧ room f j = 16384
              · have d4 : (cnt f j == 1) = true := by simpa using q4.1
                have d5 : (room f j == 16384) = true := by simpa using q4.2
                go_wp2_with fail
                go_ret
                exact ⟨3, rfl, HF.out _ (by unfold kindOf; rw [if_neg q1, if_neg q2, if_neg (by omega), if_pos q4]), rfl⟩
              · have HQ : Hid (¬ (cnt f j = 1 ∧ room f j = 16384)) := q4
                by_cases q5 : cnt f j = 1
                · have d4 : (cnt f j == 1) = true := by simpa using q5
                  have d5 : (room f j == 16384) = false := by simpa using fun h => q4 ⟨q5, h⟩
                  clear q4
                  go_wp2_with fail
                  go_ret
                  exact ⟨4, rfl, HF.out _ (by unfold kindOf; rw [if_neg q1, if_neg q2, if_neg (by omega), if_neg HQ.out]), rfl⟩
                · have d4 : (cnt f j == 1) = false := by simpa using q5
                  clear q4
                  go_wp2_with fail
                  go_ret
                  exact ⟨4, rfl, HF.out _ (by unfold kindOf; rw [if_neg q1, if_neg q2, if_neg (by omega), if_neg HQ.out]), rfl⟩
  · obtain rfl : w = w1 := hw.symm
    have HN : Hid (¬ (n ≤ 288 ∧ OkLens f n)) := hno
    clear hno hw
    go_wp2_with fail
    go_ret
    exact ⟨0, rfl, .inl ⟨rfl, HN.out⟩, rfl⟩

end Go.Proofs.Ytpecmolloohklaa
