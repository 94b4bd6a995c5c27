/-
  The walk of the document's model of TokenOk.
  The walks of the model's l09TokensOk (are all tokens right, and not too many) and l09Trim (what is 0 at the end is left out).
  The walks of the document's model of prefix codes: what lengths are full to, their kind, their codes, what they cost.
  The walks of the document's model of the codes of lengths.
  What the walks over lengths and distances share. Nothing here speaks of the program.
-/
import Derived.Test.YtbcnlggkoidmmabGreatDoorRows
import Derived.Test.YtbcnlggkoidmmabGreatDoorPk01
import Derived.Test.YtbcnlggkoidmmabGreatDoorPk08
import Derived.Test.YtbcnlggkoidmmabGreatDoorPk03
import Derived.Test.YtbcnlggkoidmmabGreatDoorPk02
import Derived.Test.YtbcnlggkoidmmabGreatDoorPk07
import Derived.WalkKit
import Derived.ProofKit
import Derived.WalkLawsBesides
import Derived.Below
import Derived.Lib.SmallJoins
import Derived.Deep.LoopGhost
import Derived.Deep.QuietTactic
import Derived.RegionTactic
import Derived.OwnWalk
namespace Go.Proofs.YtbcnlggkoidmmabGreatDoor
open Go.RowKit Go.Joins TokMath

/-- What TokenOk answers. -/
def TokPost (x y z : Int) (w : World) (e : Ending) (w' : World) : Prop := e = .returned (.bool (decide (TokRight (x, y, z)))) ∧ Below w.heap.size w w'
theorem TokPost.yes {x y z : Int} {w w' : World} (h : TokRight (x, y, z)) (hb : Below w.heap.size w w') : TokPost x y z w (.returned (.bool true)) w' := ⟨by rw [decide_eq_true h], hb⟩
theorem TokPost.no {x y z : Int} {w w' : World} (h : ¬ TokRight (x, y, z)) (hb : Below w.heap.size w w') : TokPost x y z w (.returned (.bool false)) w' := ⟨by rw [decide_eq_false h], hb⟩
theorem tok_byte (x z : Int) : TokRight (x, 0, z) ↔ (0 ≤ x ∧ x ≤ 255) ∧ z = 0 := by
  unfold TokRight
  rw [if_pos rfl]
theorem tok_rep {x y z : Int} (h : y ≠ 0) : TokRight (x, y, z) ↔ x = 0 ∧ (3 ≤ y ∧ y ≤ 258) ∧ (1 ≤ z ∧ z ≤ 32768) := by
  unfold TokRight
  rw [if_neg h]

set_option maxHeartbeats 800000 in
theorem specTokenOk (x y z : Int) (w : World) : Calls Tryz.prog 47 #[.agg #[.int .i64 x, .int .i64 y, .int .i64 z]] w (TokPost x y z w) := by
  have HB := hid_of (bstart w (.cells #[.int .i64 x, .int .i64 y, .int .i64 z] 39))
  by_cases h0 : y = 0
  · subst h0
    have HR := hid_of (tok_byte x z)
    by_cases h1 : 0 ≤ x ∧ x ≤ 255
    · have H1 := hid_of h1
      by_cases h2 : z = 0
      · subst h2
        clear h1
        go_enter Tryz.func47, Tryz.ntmps47
        go_wp2_with fail
        refine (in_yes _ _ _ _ H1.out.1 H1.out.2).mono ?_
        rintro e w1 ⟨rfl, rfl⟩
        go_wp2_with fail
        go_ret
        exact TokPost.yes (HR.out.mpr ⟨H1.out, trivial⟩) HB.out
      · have d : (z == 0) = false := by simpa using h2
        clear h1
        go_enter Tryz.func47, Tryz.ntmps47
        go_wp2_with fail
        refine (in_yes _ _ _ _ H1.out.1 H1.out.2).mono ?_
        rintro e w1 ⟨rfl, rfl⟩
        go_wp2_with fail
        go_ret
        exact TokPost.no (fun h => h2 (HR.out.mp h).2) HB.out
    · have H1 := hid_of h1
      clear h1
      go_enter Tryz.func47, Tryz.ntmps47
      go_wp2_with fail
      refine (in_no _ _ _ _ H1.out).mono ?_
      rintro e w1 ⟨rfl, rfl⟩
      go_wp2_with fail
      go_ret
      exact TokPost.no (fun h => H1.out (HR.out.mp h).1) HB.out
  · have d0 : (y == 0) = false := by simpa using h0
    have HR := hid_of (tok_rep (x := x) (z := z) h0)
    by_cases h1 : x = 0
    · subst h1
      by_cases h2 : 3 ≤ y ∧ y ≤ 258
      · have H2 := hid_of h2
        clear h2
        by_cases h3 : 1 ≤ z ∧ z ≤ 32768
        · have H3 := hid_of h3
          clear h3
          go_enter Tryz.func47, Tryz.ntmps47
          go_wp2_with fail
          refine (in_yes _ _ _ _ H2.out.1 H2.out.2).mono ?_
          rintro e w1 ⟨rfl, rfl⟩
          go_wp2_with fail
          refine (in_yes _ _ _ _ H3.out.1 H3.out.2).mono ?_
          rintro e w1 ⟨rfl, rfl⟩
          go_wp2_with fail
          go_ret
          exact TokPost.yes (HR.out.mpr ⟨trivial, H2.out, H3.out⟩) HB.out
        · have H3 := hid_of h3
          clear h3
          go_enter Tryz.func47, Tryz.ntmps47
          go_wp2_with fail
          refine (in_yes _ _ _ _ H2.out.1 H2.out.2).mono ?_
          rintro e w1 ⟨rfl, rfl⟩
          go_wp2_with fail
          refine (in_no _ _ _ _ H3.out).mono ?_
          rintro e w1 ⟨rfl, rfl⟩
          go_wp2_with fail
          go_ret
          exact TokPost.no (fun h => H3.out (HR.out.mp h).2.2) HB.out
      · have H2 := hid_of h2
        clear h2
        go_enter Tryz.func47, Tryz.ntmps47
        go_wp2_with fail
        refine (in_no _ _ _ _ H2.out).mono ?_
        rintro e w1 ⟨rfl, rfl⟩
        go_wp2_with fail
        go_ret
        exact TokPost.no (fun h => H2.out (HR.out.mp h).2.1) HB.out
    · have d : (x == 0) = false := by simpa using h1
      go_enter Tryz.func47, Tryz.ntmps47
      go_wp2_with fail
      go_ret
      exact TokPost.no (fun h => h1 (HR.out.mp h).1) HB.out

end Go.Proofs.YtbcnlggkoidmmabGreatDoor

namespace Go.Proofs.YtbcnlggkoidmmabGreatDoor
open Go.RowKit Go.Joins TokMath TrimMath

set_option maxHeartbeats 1600000 in
theorem specTokensOk (a : Option Addr) (c : Nat) (L : List Tok) (w : World) (hC : TCame w a L.length (fun j => L.getD j (0, 0, 0))) (hn : L.length ≤ 1048576) :
    Calls Tryz.prog 24 #[.slice a L.length c] w fun e w' => e = .returned (.bool (decide (TokensRight L))) ∧ Below w.heap.size w w' := by
  have HC := hid_of hC
  clear hC
  by_cases h12 : L.length ≤ 12000
  · have d : decide ((12000 : Int) < (L.length : Int)) = false := decide_eq_false (by omega)
    have d' : decide (12000 < L.length) = false := decide_eq_false (by omega)
    go_enter Tryz.func24, Tryz.ntmps24
    go_wp2_with fail
    go_loopg [3] (L.length + 1) (fun gk i w' => ∃ (j : Nat), j ≤ L.length ∧ L.length - j ≤ gk ∧ i = .int .i64 j ∧ Hid (Below w.heap.size w w' ∧ ∀ t ∈ L.take j, TokRight t))
    case atStart => exact ⟨0, Nat.zero_le _, by omega, rfl, Below.refl _ _, fun t ht => by cases ht⟩
    case round =>
      obtain ⟨j, hj, hgk, rfl, hS⟩ := hrel
      by_cases hlt : j < L.length
      · have dl : decide ((j : Int) < (L.length : Int)) = true := decide_eq_true (by omega)
        rcases HC.out with q | ⟨g, off, rfl, hg, hc⟩
        · omega
        obtain ⟨c0, c1, c2⟩ : w.cell? ⟨g, off + j * 3, none⟩ = some (.int .i64 (L.getD j (0, 0, 0)).1) ∧ w.cell? ⟨g, off + j * 3 + 1, none⟩ = some (.int .i64 (L.getD j (0, 0, 0)).2.1) ∧ w.cell? ⟨g, off + j * 3 + 2, none⟩ = some (.int .i64 (L.getD j (0, 0, 0)).2.2) := hc j hlt
        have HMEM : Hid (∀ t ∈ L.take (j + 1), t ∈ L.take j ∨ t = L.getD j (0, 0, 0)) := fun t ht => by
          rw [List.take_add_one, List.getElem?_eq_getElem hlt] at ht
          rcases List.mem_append.mp ht with q | q
          · exact .inl q
          · right
            rw [List.getD_eq_getElem?_getD, List.getElem?_eq_getElem hlt]
            exact List.mem_singleton.mp q
        have HIN : Hid (L.getD j (0, 0, 0) ∈ L) := by
          rw [List.getD_eq_getElem?_getD, List.getElem?_eq_getElem hlt]
          exact List.getElem_mem hlt
        obtain ⟨⟨x, y, q⟩, hr⟩ : ∃ r, r = L.getD j (0, 0, 0) := ⟨_, rfl⟩
        rw [← hr] at c0 c1 c2 HMEM HIN
        have f0 : wr.cell? ⟨g, off + j * 3, none⟩ = some (.int .i64 x) := (hS.out.1.cell (p := ⟨g, off + j * 3, none⟩) hg).trans c0
        have f1 : wr.cell? ⟨g, off + j * 3 + 1, none⟩ = some (.int .i64 y) := (hS.out.1.cell (p := ⟨g, off + j * 3 + 1, none⟩) hg).trans c1
        have f2 : wr.cell? ⟨g, off + j * 3 + 2, none⟩ = some (.int .i64 q) := (hS.out.1.cell (p := ⟨g, off + j * 3 + 2, none⟩) hg).trans c2
        have hl2 : g < wr.heap.size := Nat.lt_of_lt_of_le hg hS.out.1.size
        have htk := specTokenOk x y q wr
        clear hc c0 c1 c2 hr
        by_cases hright : TokRight (x, y, q)
        · have HR := hid_of hright
          go_wp2_with fail
          refine htk.mono ?_
          rintro e w2 ⟨rfl, hB2⟩
          rw [decide_eq_true hright]
          clear htk hright
          have HNX : Hid (Below w.heap.size w w2 ∧ ∀ t ∈ L.take (j + 1), TokRight t) := by
            refine ⟨bnext hS.out.1 hB2, fun t ht => ?_⟩
            rcases HMEM.out t ht with q | q
            · exact hS.out.2 t q
            · rw [q]
              exact HR.out
          clear f0 f1 f2 hB2
          go_wp2_with fail
          go_roundg (L.length - (j + 1))
          case measure => omega
          case rel => exact ⟨j + 1, by omega, Nat.le_refl _, by go_num, HNX⟩
        · have HNX : Hid (decide (TokensRight L) = false) := decide_eq_false (fun k => hright (k.2 _ HIN.out))
          go_wp2_with fail
          refine htk.mono ?_
          rintro e w2 ⟨rfl, hB2⟩
          rw [decide_eq_false hright]
          have HB2 := hid_of (bnext hS.out.1 hB2)
          clear htk hright hB2
          go_wp2_with fail
          go_ret
          rw [HNX.out]
          exact ⟨rfl, HB2.out⟩
      · obtain rfl : j = L.length := by omega
        have dl : decide ((L.length : Int) < (L.length : Int)) = false := decide_eq_false (by omega)
        have HZ : Hid (Below w.heap.size w wr ∧ decide (TokensRight L) = true) := by
          refine ⟨hS.out.1, decide_eq_true ⟨h12, ?_⟩⟩
          have h := hS.out.2
          rw [List.take_length] at h
          exact h
        clear hS
        go_wp2_with fail
        go_ret
        rw [HZ.out.2]
        exact ⟨rfl, HZ.out.1⟩
  · have d : decide ((12000 : Int) < (L.length : Int)) = true := decide_eq_true (by omega)
    have d' : decide (12000 < L.length) = true := decide_eq_true (by omega)
    have HZ : Hid (decide (TokensRight L) = false) := decide_eq_false (fun k => h12 k.1)
    go_enter Tryz.func24, Tryz.ntmps24
    go_wp2_with fail
    go_ret
    rw [HZ.out]
    exact ⟨rfl, Below.refl _ _⟩

set_option maxHeartbeats 1600000 in
theorem specTrim (a : Option Addr) (n cap least : Nat) (f : Nat → Int) (w : World) (hC : Came w a n f) (h0 : 0 < n) (hn : n ≤ 1048576) (hc : n ≤ cap) (hl : least ≤ 1048576) :
    Calls Tryz.prog 33 #[.slice a n cap, .int .i64 (least : Int)] w fun e w' => e = .returned (.slice a (trimN f least n) cap) ∧ w' = w := by
  rcases hC with q | ⟨g, off, rfl, hg, hcell⟩
  · omega
  have HC := hid_of hcell
  clear hcell
  go_enter Tryz.func33, Tryz.ntmps33
  go_wp2_with fail
  go_loopg [5] (n + 1) (fun gk i w' => ∃ (j : Nat), j ≤ n ∧ j ≤ gk ∧ i = .int .i64 j ∧ w' = w ∧ Hid (trimN f least n = trimN f least j))
  case atStart => exact ⟨n, Nat.le_refl _, by omega, rfl, rfl, rfl⟩
  case round =>
    obtain ⟨j, hj, hgk, rfl, rfl, hS⟩ := hrel
    by_cases hlt : least < j
    · obtain ⟨i, rfl⟩ : ∃ i, j = i + 1 := ⟨j - 1, by omega⟩
      have dl : decide ((least : Int) < ((i + 1 : Nat) : Int)) = true := decide_eq_true (by omega)
      have hci := HC.out i (by omega)
      by_cases hz : f i = 0
      · rw [hz] at hci
        have HT := hid_of (hS.out.trans (trimN_zero hlt hz))
        clear hS hz
        have e1 : ((i + 1 : Nat) : Int) - 1 = (i : Int) := by omega
        go_wp2_with fail
        go_roundg i
        case measure => omega
        case rel => exact ⟨i, by omega, Nat.le_refl _, rfl, rfl, HT⟩
      · have dz : (f i == 0) = false := by simpa using hz
        have HT := hid_of (hS.out.trans (trimN_keep hz))
        clear hS
        go_wp2_with fail
        go_ret
        rw [HT.out]
        exact ⟨rfl, rfl⟩
    · have dl : decide ((least : Int) < (j : Int)) = false := decide_eq_false (by omega)
      have HT := hid_of (hS.out.trans (trimN_least (by omega)))
      clear hS
      go_wp2_with fail
      go_ret
      rw [HT.out]
      exact ⟨rfl, rfl⟩
end Go.Proofs.YtbcnlggkoidmmabGreatDoor

namespace Go.Proofs.YtbcnlggkoidmmabGreatDoor
open Go.RowKit Go.Joins OutMath CodeMath

/-- What l03Room answers. -/
def RoomPost (f : Nat → Int) (n : Nat) (w : World) (e : Ending) (w' : World) : Prop :=
  ∃ (x : Int) (b : Bool), e = .returned (.tuple #[.int .i64 x, .bool b]) ∧ w' = w ∧ ((b = true ∧ n ≤ 288 ∧ OkLens f n ∧ x = room f n) ∨ (b = false ∧ ¬ (n ≤ 288 ∧ OkLens f n)))
theorem RoomPost.yes {f : Nat → Int} {n : Nat} {w : World} (h1 : n ≤ 288) (h2 : OkLens f n) : RoomPost f n w (.returned (.tuple #[.int .i64 (room f n), .bool true])) w := ⟨_, true, rfl, rfl, .inl ⟨rfl, h1, h2, rfl⟩⟩
theorem RoomPost.no {f : Nat → Int} {n : Nat} {w : World} (h : ¬ (n ≤ 288 ∧ OkLens f n)) : RoomPost f n w (.returned (.tuple #[.int .i64 0, .bool false])) w := ⟨_, false, rfl, rfl, .inr ⟨rfl, h⟩⟩

set_option maxHeartbeats 800000 in
theorem specRoom (a : Option Addr) (n cap : Nat) (f : Nat → Int) (w : World) (hC : Came w a n f) (hn : n ≤ 1048576) :
    Calls Tryz.prog 56 #[.slice a n cap, .int .i64 288] w (RoomPost f n w) := by
  have HC : Hid (Came w a n f) := hC
  clear hC
  by_cases hm : n ≤ 288
  · go_enter Tryz.func56, Tryz.ntmps56
    go_wp2_with fail
    go_loop [6, 7] (fun x i => ∃ j : Nat, j ≤ n ∧ i = .int .i64 j ∧ x = .int .i64 (room f j) ∧ Hid (OkLens f j)) (fun _ i => n - (intOf i).toNat)
    case atStart => exact ⟨0, Nat.zero_le _, rfl, rfl, fun i hi => absurd hi (Nat.not_lt_zero i)⟩
    case round =>
      obtain ⟨j, hj, rfl, rfl, hok⟩ := hrel
      by_cases hlt : j < n
      · have hr := room_bd f j
        have hr2 := hr.2 hok.out
        have hr1 := hr.1
        clear hr
        rcases HC.out with h0 | ⟨g, off, rfl, hg, hc⟩
        · omega
        · have c0 := hc j hlt
          clear hc
          by_cases hin : 0 ≤ f j ∧ f j ≤ 15
          · have HK : Hid (OkLens f (j + 1)) := fun i hi => by
              by_cases e : i = j
              · rw [e]; exact hin
              · exact hok.out i (by omega)
            obtain ⟨i0, i1⟩ := hin
            go_wp2_with fail
            refine (in_yes _ _ _ _ i0 i1).mono ?_
            rintro e w1 ⟨rfl, rfl⟩
            by_cases hpos : 0 < f j
            · have HR : Hid (room f (j + 1) = room f j + p2 (15 - f j).toNat) := by
                show room f j + (if 0 < f j then p2 (15 - f j).toNat else 0) = _
                rw [if_pos hpos]
              have hp := p2_le (show (15 - f j).toNat ≤ 15 by omega)
              have hp2 : p2 15 = 32768 := by decide +kernel
              have hp3 := p2_pos (15 - f j).toNat
              go_wp2_with fail
              refine (pow_int _ _ (by omega) (by omega)).mono ?_
              rintro e w1 ⟨rfl, rfl⟩
              go_wp2_with fail
              go_round
              case rel => exact ⟨j + 1, by omega, by go_num, by rw [HR.out], HK⟩
              case measure => simp [intOf]; omega
            · have HR : Hid (room f (j + 1) = room f j) := by
                show room f j + (if 0 < f j then p2 (15 - f j).toNat else 0) = _
                rw [if_neg hpos]; omega
              have d : decide (0 < f j) = false := by simpa using hpos
              go_wp2_with fail
              go_round
              case rel => exact ⟨j + 1, by omega, by go_num, by rw [HR.out], HK⟩
              case measure => simp [intOf]; omega
          · have HN : Hid (¬ (0 ≤ f j ∧ f j ≤ 15)) := hin
            clear hin
            go_wp2_with fail
            refine (in_no _ _ _ _ HN.out).mono ?_
            rintro e w1 ⟨rfl, rfl⟩
            go_wp2_with fail
            go_ret2
            exact RoomPost.no (fun h => HN.out (h.2 j hlt))
      · obtain rfl : j = n := by omega
        go_wp2_with fail
        go_ret2
        exact RoomPost.yes hm hok.out
  · go_enter Tryz.func56, Tryz.ntmps56
    go_wp2_with fail
    go_ret2
    exact RoomPost.no (fun h => hm h.1)

set_option maxHeartbeats 800000 in
theorem specKind (a : Option Addr) (n cap : Nat) (f : Nat → Int) (w : World) (hC : Came w a n f) (hn : n ≤ 1048576) :
    Calls Tryz.prog 31 #[.slice a n cap] w fun e w' => ∃ k : Int, e = .returned (.int .i64 k) ∧ Kind f n k ∧ w' = w := by
  have HC : Hid (Came w a n f) := hC
  clear hC
  go_enter Tryz.func31, Tryz.ntmps31
  go_wp2_with fail
  refine (specRoom a n cap f w HC.out hn).mono ?_
  rintro e w1 ⟨x, b, rfl, hw, (⟨rfl, hm, hok, rfl⟩ | ⟨rfl, hno⟩)⟩
  · obtain rfl : w = w1 := hw.symm
    have HK : Hid (OkLens f n) := hok
    have hr := (room_bd f n).2 hok
    have hr0 := (room_bd f n).1
    clear hok hw
    go_wp2_with fail
    go_loop [5, 6] (fun x i => ∃ j : Nat, j ≤ n ∧ i = .int .i64 j ∧ x = .int .i64 (cnt f j)) (fun _ i => n - (intOf i).toNat)
    case atStart => exact ⟨0, Nat.zero_le _, rfl, rfl⟩
    case round =>
      obtain ⟨j, hj, rfl, rfl⟩ := hrel
      have hcb := cnt_bd f j
      by_cases hlt : j < n
      · rcases HC.out with h0 | ⟨g, off, rfl, hg, hc⟩
        · omega
        · have c0 := hc j hlt
          clear hc
          by_cases hpos : 0 < f j
          · have HR : Hid (cnt f (j + 1) = cnt f j + 1) := by
              show cnt f j + (if 0 < f j then 1 else 0) = _
              rw [if_pos hpos]
            go_wp2_with fail
            go_round
            case rel => exact ⟨j + 1, by omega, by go_num, by rw [HR.out]⟩
            case measure => simp [intOf]; omega
          · have HR : Hid (cnt f (j + 1) = cnt f j) := by
              show cnt f j + (if 0 < f j then 1 else 0) = _
              rw [if_neg hpos]; omega
            have d : decide (0 < f j) = false := by simpa using hpos
            go_wp2_with fail
            go_round
            case rel => exact ⟨j + 1, by omega, by go_num, by rw [HR.out]⟩
            case measure => simp [intOf]; omega
      · obtain rfl : j = n := by omega
        have HF : Hid (∀ k, k = kindOf f j → Kind f j k) := fun k hk => .inr ⟨hm, HK.out, hk⟩
        by_cases q1 : cnt f j = 0
        · have d1 : (cnt f j == 0) = true := by simpa using q1
          go_wp2_with fail
          go_ret
          exact ⟨1, rfl, HF.out _ (by unfold kindOf; rw [if_pos q1]), rfl⟩
        · have d1 : (cnt f j == 0) = false := by simpa using q1
          by_cases q2 : room f j = 32768
          · have d2 : (room f j == 32768) = true := by simpa using q2
            go_wp2_with fail
            go_ret
            exact ⟨2, rfl, HF.out _ (by unfold kindOf; rw [if_neg q1, if_pos q2]), rfl⟩
          · have d2 : (room f j == 32768) = false := by simpa using q2
            by_cases q3 : 32768 < room f j
            · have d3 : decide (32768 < room f j) = true := by simpa using q3
              go_wp2_with fail
              go_ret
              exact ⟨5, rfl, HF.out _ (by unfold kindOf; rw [if_neg q1, if_neg q2, if_pos q3]), rfl⟩
            · have d3 : decide (32768 < room f j) = false := by simpa using q3
              by_cases q4 : cnt f j = 1 ∧ room f j = 16384
              · have d4 : (cnt f j == 1) = true := by simpa using q4.1
                have d5 : (room f j == 16384) = true := by simpa using q4.2
                go_wp2_with fail
                go_ret
                exact ⟨3, rfl, HF.out _ (by unfold kindOf; rw [if_neg q1, if_neg q2, if_neg (by omega), if_pos q4]), rfl⟩
              · have HQ : Hid (¬ (cnt f j = 1 ∧ room f j = 16384)) := q4
                by_cases q5 : cnt f j = 1
                · have d4 : (cnt f j == 1) = true := by simpa using q5
                  have d5 : (room f j == 16384) = false := by simpa using fun h => q4 ⟨q5, h⟩
                  clear q4
                  go_wp2_with fail
                  go_ret
                  exact ⟨4, rfl, HF.out _ (by unfold kindOf; rw [if_neg q1, if_neg q2, if_neg (by omega), if_neg HQ.out]), rfl⟩
                · have d4 : (cnt f j == 1) = false := by simpa using q5
                  clear q4
                  go_wp2_with fail
                  go_ret
                  exact ⟨4, rfl, HF.out _ (by unfold kindOf; rw [if_neg q1, if_neg q2, if_neg (by omega), if_neg HQ.out]), rfl⟩
  · obtain rfl : w = w1 := hw.symm
    have HN : Hid (¬ (n ≤ 288 ∧ OkLens f n)) := hno
    clear hno hw
    go_wp2_with fail
    go_ret
    exact ⟨0, rfl, .inl ⟨rfl, HN.out⟩, rfl⟩

end Go.Proofs.YtbcnlggkoidmmabGreatDoor

namespace Go.Proofs.YtbcnlggkoidmmabGreatDoor
open Go.RowKit Go.Joins OutMath CodeMath

theorem info_cell : (Tryz.prog.info? 3).map (fun i => (i.zero, i.size, i.bytes)) = some (some (.int .i64 0), 1, 8) := by kernel_rfl

theorem make_cells (w : World) (n : Nat) (hn : n ≤ 1048576) : (Instr.makeSlice 51 (.int .i64 n) (.int .i64 n)).run Tryz.prog w = .ok (.slice (some ⟨w.heap.size, 0, none⟩) n n) (w.alloc (.cells (madeCells #[Value.int .i64 0] n) 3)) := by
  obtain ⟨i0, hi0, hz0, hz1, hz2⟩ := info_parts info_cell
  have h := run_make (P := Tryz.prog) w 51 3 i0 (.int .i64 0) Tryz.underlying51 hi0 hz0 .i64 .i64 n n (by omega) (by omega) (by rw [hz2]; omega) (by omega)
  rw [hz1, Int.toNat_natCast, Nat.mul_one] at h
  exact h

theorem specCodes_bad (a : Option Addr) (n cap : Nat) (f : Nat → Int) (w : World) (hC : Came w a n f) (hn : n ≤ 1048576) (hB : ¬ Coded f n) :
    Calls Tryz.prog 34 #[.slice a n cap] w fun e w' => e = .returned (.tuple #[.slice (some ⟨w.heap.size, 0, none⟩) 0 0, .bool false]) ∧ w.heap.size < w'.heap.size ∧ Below w.heap.size w w' := by
  have HC : Hid (Came w a n f) := hC
  have HB : Hid (¬ Coded f n) := hB
  clear hC hB
  go_enter Tryz.func34, Tryz.ntmps34
  go_wp2_with fail
  refine (specKind a n cap f w HC.out hn).mono ?_
  rintro e w1 ⟨k, rfl, hk, hw⟩
  obtain rfl : w = w1 := hw.symm
  rcases kind_bad hk HB.out with rfl | rfl
  · clear hk
    go_wp2_with fail
    go_ret2
    exact ⟨rfl, by simp, bstart _ _⟩
  · clear hk
    go_wp2_with fail
    go_ret2
    exact ⟨rfl, by simp, bstart _ _⟩

/-- What the loops of CodesOf have at hand. -/
def CodesSt (w w' : World) (f : Nat → Int) (n : Nat) (t : Int) (i : Nat) : Prop := IOwn w' w.heap.size w.heap.size n n (outAt f n t i) ∧ Below w.heap.size w w'

set_option maxRecDepth 100000 in
set_option maxHeartbeats 1600000 in
theorem specCodes_good (a : Option Addr) (n cap : Nat) (f : Nat → Int) (w : World) (hC : Came w a n f) (hG : Coded f n) :
    Calls Tryz.prog 34 #[.slice a n cap] w fun e w' => e = .returned (.tuple #[.slice (some ⟨w.heap.size, 0, none⟩) n n, .bool true]) ∧ IOwn w' w.heap.size w.heap.size n n (codeOf f n) ∧ Below w.heap.size w w' := by
  have HC : Hid (Came w a n f) := hC
  have HG : Hid (Coded f n) := hG
  have hm := hG.1
  clear hC hG
  have hmk := make_cells w n (by omega)
  have HS : Hid (CodesSt w (w.alloc (.cells (madeCells #[Value.int .i64 0] n) 3)) f n 1 0) := ⟨(IOwn.made (base := w.heap.size) w n (by unfold maxLen; omega) (Nat.le_refl _)).congr (fun i _ => (outAt_start f n i).symm), bstart _ _⟩
  generalize w.alloc (.cells (madeCells #[Value.int .i64 0] n) 3) = w0 at hmk HS
  go_enter Tryz.func34, Tryz.ntmps34
  go_wp2_with fail
  refine (specKind a n cap f w HC.out (by omega)).mono ?_
  rintro e w1 ⟨k, rfl, hk, hw⟩
  obtain rfl : w = w1 := hw.symm
  obtain ⟨k0, k5⟩ := kind_good hk HG.out
  have d0 : (k == 0) = false := by simpa using k0
  have d5 : (k == 5) = false := by simpa using k5
  clear hk k0 k5 hw
  go_wp2_with fail
  go_loopw [6, 7] (fun x i w' => ∃ t : Nat, 1 ≤ t ∧ t ≤ 16 ∧ i = .int .i64 t ∧ x = .int .i64 (nx f n (t - 1)) ∧ Hid (CodesSt w w' f n t 0)) (fun _ i _ => 16 - (intOf i).toNat)
  case atStart => exact ⟨1, by omega, by omega, rfl, rfl, HS⟩
  case round =>
    obtain ⟨t, ht1, ht2, rfl, rfl, hS⟩ := hrel
    have hx := nx_lt f n hm (t - 1) (by omega)
    by_cases hlt : t ≤ 15
    · go_wp2_with fail
      go_loopw [6, 8] (fun x i w' => ∃ j : Nat, j ≤ n ∧ i = .int .i64 j ∧ x = .int .i64 (2 * nx f n (t - 1) + cntS f (t : Int) j) ∧ Hid (CodesSt w w' f n t j)) (fun _ i _ => n - (intOf i).toNat)
      case atStart => exact ⟨0, by omega, rfl, by simp [cntS], hS⟩
      case round =>
        obtain ⟨j, hj, rfl, rfl, hSj⟩ := hrel
        have hcb := cntS_bd f (t : Int) j
        by_cases hlt2 : j < n
        · rcases HC.out with h0 | ⟨g, off, rfl, hg, hc⟩
          · omega
          · have c0 : wr.cell? ⟨g, off + j, none⟩ = some (.int .i64 (f j)) := (hSj.out.2.cell (p := ⟨g, off + j, none⟩) hg).trans (hc j hlt2)
            have hl2 : g < wr.heap.size := Nat.lt_of_lt_of_le hg hSj.out.2.size
            clear hc
            by_cases he : f j = (t : Int)
            · have d : (f j == (t : Int)) = true := by simpa using he
              have HR : Hid (2 * nx f n (t - 1) + cntS f (t : Int) (j + 1) = 2 * nx f n (t - 1) + cntS f (t : Int) j + 1) := by
                show 2 * nx f n (t - 1) + (cntS f (t : Int) j + (if f j = (t : Int) then 1 else 0)) = _
                rw [if_pos he]; omega
              have c1 := hSj.out.1.cell j hlt2
              have f1 := hSj.out.1.free j hlt2
              have hl := hSj.out.1.lt
              have HS1 : Hid (CodesSt w (wr.setCell ⟨w.heap.size, j, none⟩ (.int .i64 (2 * nx f n (t - 1) + cntS f (t : Int) j))) f n t (j + 1)) := by
                refine ⟨(hSj.out.1.set j hlt2 _).congr (fun i _ => ?_), Below.setCell (p := ⟨w.heap.size, j, none⟩) hSj.out.2 (Nat.le_refl _) _⟩
                exact outAt_here f n t j ht1 he i
              clear he
              go_wp2_with fail
              go_roundw
              case rel => exact ⟨j + 1, by omega, by go_num, by rw [HR.out], HS1⟩
              case measure => simp [intOf]; omega
            · have d : (f j == (t : Int)) = false := by simpa using he
              have HR : Hid (2 * nx f n (t - 1) + cntS f (t : Int) (j + 1) = 2 * nx f n (t - 1) + cntS f (t : Int) j) := by
                show 2 * nx f n (t - 1) + (cntS f (t : Int) j + (if f j = (t : Int) then 1 else 0)) = _
                rw [if_neg he]; omega
              have HS1 : Hid (CodesSt w wr f n t (j + 1)) := ⟨hSj.out.1.congr (fun i _ => outAt_skip f n t j he i), hSj.out.2⟩
              clear he
              go_wp2_with fail
              go_roundw
              case rel => exact ⟨j + 1, by omega, by go_num, by rw [HR.out], HS1⟩
              case measure => simp [intOf]; omega
        · obtain rfl : j = n := by omega
          have HR : Hid (nx f j (t + 1 - 1) = 2 * nx f j (t - 1) + cntS f (t : Int) j) := by
            rw [nx_step f j t ht1, Nat.add_sub_cancel]
            exact rfl
          have HS1 : Hid (CodesSt w wr f j ((t + 1 : Nat) : Int) 0) := ⟨hSj.out.1.congr (fun i hi => outAt_turn f j t i hi), hSj.out.2⟩
          go_wp2_with fail
          go_roundw
          case rel => exact ⟨t + 1, by omega, by omega, by go_num, by rw [HR.out], HS1⟩
          case measure => simp [intOf]; omega
    · obtain rfl : t = 16 := by omega
      go_wp2_with fail
      go_ret2
      exact ⟨rfl, hS.out.1.congr (fun i hi => outAt_end f n i (HG.out.2.1 i hi).2), hS.out.2⟩

end Go.Proofs.YtbcnlggkoidmmabGreatDoor

namespace Go.Proofs.YtbcnlggkoidmmabGreatDoor
open Go.RowKit OutMath StepMath

theorem p2_pow (m : Nat) : p2 m = ((2 ^ m : Nat) : Int) := (pow_cast m).symm
theorem from_next (c k j : Nat) : ((fromN c k (j + 1) : Nat) : Int) = ((fromN c k j : Nat) : Int) + p2 (bitsN k j) := by
  rw [p2_pow, ← Int.natCast_add]
  rfl
theorem ret_ii {k : IntKind} {a b c d : Int} (h : a = b) (h' : c = d) : Ending.returned (.tuple #[.int k a, .int k c]) = .returned (.tuple #[.int k b, .int k d]) := by rw [h, h']
theorem ret_iii {k : IntKind} {a b c d x y : Int} (h : a = b) (h' : c = d) (h2 : x = y) : Ending.returned (.tuple #[.int k a, .int k c, .int k x]) = .returned (.tuple #[.int k b, .int k d, .int k y]) := by rw [h, h', h2]
end Go.Proofs.YtbcnlggkoidmmabGreatDoor
