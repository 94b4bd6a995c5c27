/-
  Lists of numbers beside an unpacking under way: they stay while the record turns and bytes are put behind.
  The walks of the document's model of prefix codes: what lengths are full to, their kind, their codes, what they cost.
  The walks of the document's model of the codes of lengths.
  What the walks over lengths and distances share. Nothing here speaks of the program.
  The walks of the document's model of the symbols of lengths.
  The walks of the document's model of lengths: their symbols and extra bits.
  The walks of the document's model of the symbols of distances.
-/
import Derived.Test.YtbcnlggkoidmmaaGreatDoorRows
import Derived.Test.YtbcnlggkoidmmaaGreatDoorPk01
import Derived.Test.YtbcnlggkoidmmaaGreatDoorPk04
import Derived.Test.YtbcnlggkoidmmaaGreatDoorPk06
import Derived.Test.YtbcnlggkoidmmaaGreatDoorPk09
import Derived.Test.YtbcnlggkoidmmaaGreatDoorPk07
import Derived.Test.YtbcnlggkoidmmaaGreatDoorPk03
import Derived.Test.YtbcnlggkoidmmaaGreatDoorPk05
import Derived.WalkKit
import Derived.ProofKit
import Derived.Below
import Derived.WalkLawsBesides
import Derived.Deep.QuietTactic
import Derived.RegionTactic
import Derived.Lib.SmallJoins
import Derived.OwnWalk
namespace Go.Proofs.YtbcnlggkoidmmaaGreatDoor
open Go.RowKit CodeMath InfMath

/-- A list of numbers that is neither in the record's block nor in that of the bytes. -/
def Tab (w : World) (b : Nat) (vo : Value) (a : Option Addr) (n : Nat) (f : Nat → Int) : Prop :=
  n = 0 ∨ ∃ g off, a = some ⟨g, off, none⟩ ∧ g < w.heap.size ∧ g ≠ b ∧ vo.ownBlock ≠ some g ∧ ∀ j, j < n → w.cell? ⟨g, off + j, none⟩ = some (.int .i64 (f j))
section
variable {w w' : World} {b : Nat} {vo : Value} {a : Option Addr} {n : Nat} {f : Nat → Int}
theorem Tab.came (h : Tab w b vo a n f) : Came w a n f := by
  rcases h with h | ⟨g, off, h1, h2, _, _, h5⟩
  · exact .inl h
  · exact .inr ⟨g, off, h1, h2, h5⟩
theorem Tab.turned (h : Tab w b vo a n f) (hg : w.grownBy w' (some b)) : Tab w' b vo a n f := by
  rcases h with h | ⟨g, off, h1, h2, h3, h4, h5⟩
  · exact .inl h
  · refine .inr ⟨g, off, h1, Nat.lt_of_lt_of_le h2 hg.size, h3, h4, fun j hj => ?_⟩
    have hb := hg.block g h2 (fun e => h3 (by cases e; rfl))
    rw [← h5 j hj]
    unfold World.cell?
    rw [hb]
theorem Tab.called (h : Tab w b vo a n f) (hb : Below w.heap.size w w') : Tab w' b vo a n f := h.turned (grown_called hb _)
/-- Behind a byte more. -/
theorem Tab.more {o : Obj} {g cap m : Nat} {v : Value} (h : Tab w b vo a n f) (y2 : (w.alloc o).grownBy w' vo.ownBlock) (y3 : vo.ownBlock = some g ∨ g = w.heap.size + 1) :
    Tab (w'.setCell ⟨b, 2, none⟩ v) b (.slice (some ⟨g, 0, none⟩) m cap) a n f := by
  rcases h with h | ⟨k, off, h1, h2, h3, h4, h5⟩
  · exact .inl h
  · have hsz : w.heap.size + 1 = (w.alloc o).heap.size := (World.size_alloc _ _).symm
    have hk : w'.heap[k]? = w.heap[k]? := (y2.block k (by omega) (fun e => h4 e.symm)).trans ((bstart w o).block k h2)
    have hkl : k < w'.heap.size := by have := y2.size; omega
    have hgk : g ≠ k := by
      rcases y3 with q | q
      · exact fun e => h4 (by rw [q, e])
      · omega
    have hs := (grown_cell w' b 2 v).block k hkl (fun e => h3 (by cases e; rfl))
    refine .inr ⟨k, off, h1, by have := (grown_cell w' b 2 v).size; omega, h3, by simpa [Value.ownBlock] using hgk, fun j hj => ?_⟩
    rw [← h5 j hj]
    unfold World.cell?
    rw [hs, hk]
theorem tab_new {base g cap : Nat} (h : IOwn w base g n cap f) (hb : b ≠ g) (hv : vo.ownBlock ≠ some g) : Tab w b vo (some ⟨g, 0, none⟩) n f := .inr ⟨g, 0, rfl, h.lt, fun e => hb e.symm, hv, fun j hj => by rw [Nat.zero_add]; exact h.cell j hj⟩
end

/-- What the ring of the symbols has at hand: the state, both codes' lengths, both codes. -/
def SyI (w0 w : World) (b : Nat) (s : ByteArray) (p : Nat) (O : List Int) (most c : Nat) (Ty : List Int) (vo vt : Value) (a1 : Option Addr) (n1 : Nat) (f1 : Nat → Int) (a2 : Option Addr) (n2 : Nat) (f2 : Nat → Int) (g1 g2 : Nat) : Prop :=
  RS w0 w b s p O most c Ty vo vt ∧ Tab w b vo a1 n1 f1 ∧ Tab w b vo a2 n2 f2 ∧ Tab w b vo (some ⟨g1, 0, none⟩) n1 (codeOf f1 n1) ∧ Tab w b vo (some ⟨g2, 0, none⟩) n2 (codeOf f2 n2)
section
variable {w0 w w' : World} {b : Nat} {s : ByteArray} {p : Nat} {O : List Int} {most c : Nat} {Ty : List Int} {vo vt : Value} {a1 a2 : Option Addr} {n1 n2 : Nat} {f1 f2 : Nat → Int} {g1 g2 : Nat}
theorem SyI.turned {p' c' : Nat} (h : SyI w0 w b s p O most c Ty vo vt a1 n1 f1 a2 n2 f2 g1 g2) (hr : RB w' b s p' vo most c' vt) (hg : w.grownBy w' (some b)) : SyI w0 w' b s p' O most c' Ty vo vt a1 n1 f1 a2 n2 f2 g1 g2 :=
  ⟨h.1.turned hr hg, h.2.1.turned hg, h.2.2.1.turned hg, h.2.2.2.1.turned hg, h.2.2.2.2.turned hg⟩
theorem SyI.called (h : SyI w0 w b s p O most c Ty vo vt a1 n1 f1 a2 n2 f2 g1 g2) (hb : Below w.heap.size w w') : SyI w0 w' b s p O most c Ty vo vt a1 n1 f1 a2 n2 f2 g1 g2 := h.turned (h.1.1.called hb) (grown_called hb _)
theorem SyI.drewN (h : SyI w0 w b s p O most c Ty vo vt a1 n1 f1 a2 n2 f2 g1 g2) (k : Nat) : SyI w0 (w.drewN k) b s p O most c Ty vo vt a1 n1 f1 a2 n2 f2 g1 g2 := h.called ⟨rfl, rfl, rfl, Nat.le_refl _, fun _ _ => rfl⟩
theorem SyI.setCode (h : SyI w0 w b s p O most c Ty vo vt a1 n1 f1 a2 n2 f2 g1 g2) (x : Nat) : SyI w0 (w.setCell ⟨b, 4, none⟩ (.int .i64 (x : Int))) b s p O most x Ty vo vt a1 n1 f1 a2 n2 f2 g1 g2 := h.turned (h.1.1.code x) (grown_cell _ _ _ _)
theorem SyI.more {o : Obj} {g cap : Nat} {x : Int} (h : SyI w0 w b s p O most c Ty vo vt a1 n1 f1 a2 n2 f2 g1 g2) (y1 : w'.ownsRow w0.heap.size 5 1 (.slice (some ⟨g, 0, none⟩) (O.length + 1) cap) (O.length + 1) (u8l O ++ [.int .u8 x])) (y2 : (w.alloc o).grownBy w' vo.ownBlock) (y3 : vo.ownBlock = some g ∨ g = w.heap.size + 1) :
    RB w' b s p vo most c vt ∧ SyI w0 (w'.setCell ⟨b, 2, none⟩ (.slice (some ⟨g, 0, none⟩) (O.length + 1) cap)) b s p (O ++ [x]) most c Ty (.slice (some ⟨g, 0, none⟩) (O.length + 1) cap) vt a1 n1 f1 a2 n2 f2 g1 g2 := by
  obtain ⟨q1, q2⟩ := h.1.more y1 y2 y3
  exact ⟨q1, q2, h.2.1.more y2 y3, h.2.2.1.more y2 y3, h.2.2.2.1.more y2 y3, h.2.2.2.2.more y2 y3⟩
end

end Go.Proofs.YtbcnlggkoidmmaaGreatDoor

namespace Go.Proofs.YtbcnlggkoidmmaaGreatDoor
open Go.RowKit Go.Joins OutMath CodeMath

/-- What l03Room answers. -/
def RoomPost (f : Nat → Int) (n : Nat) (w : World) (e : Ending) (w' : World) : Prop :=
  ∃ (x : Int) (b : Bool), e = .returned (.tuple #[.int .i64 x, .bool b]) ∧ w' = w ∧ ((b = true ∧ n ≤ 288 ∧ OkLens f n ∧ x = room f n) ∨ (b = false ∧ ¬ (n ≤ 288 ∧ OkLens f n)))
theorem RoomPost.yes {f : Nat → Int} {n : Nat} {w : World} (h1 : n ≤ 288) (h2 : OkLens f n) : RoomPost f n w (.returned (.tuple #[.int .i64 (room f n), .bool true])) w := ⟨_, true, rfl, rfl, .inl ⟨rfl, h1, h2, rfl⟩⟩
theorem RoomPost.no {f : Nat → Int} {n : Nat} {w : World} (h : ¬ (n ≤ 288 ∧ OkLens f n)) : RoomPost f n w (.returned (.tuple #[.int .i64 0, .bool false])) w := ⟨_, false, rfl, rfl, .inr ⟨rfl, h⟩⟩

set_option maxHeartbeats 800000 in
theorem specRoom (a : Option Addr) (n cap : Nat) (f : Nat → Int) (w : World) (hC : Came w a n f) (hn : n ≤ 1048576) :
    Calls Tryz.prog 96 #[.slice a n cap, .int .i64 288] w (RoomPost f n w) := by
  have HC : Hid (Came w a n f) := hC
  clear hC
  by_cases hm : n ≤ 288
  · go_enter Tryz.func96, Tryz.ntmps96
    go_wp2_with fail
    go_loop [6, 7] (fun x i => ∃ j : Nat, j ≤ n ∧ i = .int .i64 j ∧ x = .int .i64 (room f j) ∧ Hid (OkLens f j)) (fun _ i => n - (intOf i).toNat)
    case atStart => exact ⟨0, Nat.zero_le _, rfl, rfl, fun i hi => absurd hi (Nat.not_lt_zero i)⟩
    case round =>
      obtain ⟨j, hj, rfl, rfl, hok⟩ := hrel
      by_cases hlt : j < n
      · have hr := room_bd f j
        have hr2 := hr.2 hok.out
        have hr1 := hr.1
        clear hr
        rcases HC.out with h0 | ⟨g, off, rfl, hg, hc⟩
        · omega
        · have c0 := hc j hlt
          clear hc
          by_cases hin : 0 ≤ f j ∧ f j ≤ 15
          · have HK : Hid (OkLens f (j + 1)) := fun i hi => by
              by_cases e : i = j
              · rw [e]; exact hin
              · exact hok.out i (by omega)
            obtain ⟨i0, i1⟩ := hin
            go_wp2_with fail
            refine (in_yes _ _ _ _ i0 i1).mono ?_
            rintro e w1 ⟨rfl, rfl⟩
            by_cases hpos : 0 < f j
            · have HR : Hid (room f (j + 1) = room f j + p2 (15 - f j).toNat) := by
                show room f j + (if 0 < f j then p2 (15 - f j).toNat else 0) = _
                rw [if_pos hpos]
              have hp := p2_le (show (15 - f j).toNat ≤ 15 by omega)
              have hp2 : p2 15 = 32768 := by decide +kernel
              have hp3 := p2_pos (15 - f j).toNat
              go_wp2_with fail
              refine (pow_int _ _ (by omega) (by omega)).mono ?_
              rintro e w1 ⟨rfl, rfl⟩
              go_wp2_with fail
              go_round
              case rel => exact ⟨j + 1, by omega, by go_num, by rw [HR.out], HK⟩
              case measure => simp [intOf]; omega
            · have HR : Hid (room f (j + 1) = room f j) := by
                show room f j + (if 0 < f j then p2 (15 - f j).toNat else 0) = _
                rw [if_neg hpos]; omega
              have d : decide (0 < f j) = false := by simpa using hpos
              go_wp2_with fail
              go_round
              case rel => exact ⟨j + 1, by omega, by go_num, by rw [HR.out], HK⟩
              case measure => simp [intOf]; omega
          · have HN : Hid (¬ (0 ≤ f j ∧ f j ≤ 15)) := hin
            clear hin
            go_wp2_with fail
            refine (in_no _ _ _ _ HN.out).mono ?_
            rintro e w1 ⟨rfl, rfl⟩
            go_wp2_with fail
            go_ret2
            exact RoomPost.no (fun h => HN.out (h.2 j hlt))
      · obtain rfl : j = n := by omega
        go_wp2_with fail
        go_ret2
        exact RoomPost.yes hm hok.out
  · go_enter Tryz.func96, Tryz.ntmps96
    go_wp2_with fail
    go_ret2
    exact RoomPost.no (fun h => hm h.1)

set_option maxHeartbeats 800000 in
theorem specKind (a : Option Addr) (n cap : Nat) (f : Nat → Int) (w : World) (hC : Came w a n f) (hn : n ≤ 1048576) :
    Calls Tryz.prog 47 #[.slice a n cap] w fun e w' => ∃ k : Int, e = .returned (.int .i64 k) ∧ Kind f n k ∧ w' = w := by
  have HC : Hid (Came w a n f) := hC
  clear hC
  go_enter Tryz.func47, Tryz.ntmps47
  go_wp2_with fail
  refine (specRoom a n cap f w HC.out hn).mono ?_
  rintro e w1 ⟨x, b, rfl, hw, (⟨rfl, hm, hok, rfl⟩ | ⟨rfl, hno⟩)⟩
  · obtain rfl : w = w1 := hw.symm
    have HK : Hid (OkLens f n) := hok
    have hr := (room_bd f n).2 hok
    have hr0 := (room_bd f n).1
    clear hok hw
    go_wp2_with fail
    go_loop [5, 6] (fun x i => ∃ j : Nat, j ≤ n ∧ i = .int .i64 j ∧ x = .int .i64 (cnt f j)) (fun _ i => n - (intOf i).toNat)
    case atStart => exact ⟨0, Nat.zero_le _, rfl, rfl⟩
    case round =>
      obtain ⟨j, hj, rfl, rfl⟩ := hrel
      have hcb := cnt_bd f j
      by_cases hlt : j < n
      · rcases HC.out with h0 | ⟨g, off, rfl, hg, hc⟩
        · omega
        · have c0 := hc j hlt
          clear hc
          by_cases hpos : 0 < f j
          · have HR : Hid (cnt f (j + 1) = cnt f j + 1) := by
              show cnt f j + (if 0 < f j then 1 else 0) = _
              rw [if_pos hpos]
            go_wp2_with fail
            go_round
            case rel => exact ⟨j + 1, by omega, by go_num, by rw [HR.out]⟩
            case measure => simp [intOf]; omega
          · have HR : Hid (cnt f (j + 1) = cnt f j) := by
              show cnt f j + (if 0 < f j then 1 else 0) = _
              rw [if_neg hpos]; omega
            have d : decide (0 < f j) = false := by simpa using hpos
            go_wp2_with fail
            go_round
            case rel => exact ⟨j + 1, by omega, by go_num, by rw [HR.out]⟩
            case measure => simp [intOf]; omega
      · obtain rfl : j = n := by omega
        have HF : Hid (∀ k, k = kindOf f j → Kind f j k) := fun k hk => .inr ⟨hm, HK.out, hk⟩
        by_cases q1 : cnt f j = 0
        · have d1 : (cnt f j == 0) = true := by simpa using q1
          go_wp2_with fail
          go_ret
          exact ⟨1, rfl, HF.out _ (by unfold kindOf; rw [if_pos q1]), rfl⟩
        · have d1 : (cnt f j == 0) = false := by simpa using q1
          by_cases q2 : room f j = 32768
          · have d2 : (room f j == 32768) = true := by simpa using q2
            go_wp2_with fail
            go_ret
            exact ⟨2, rfl, HF.out _ (by unfold kindOf; rw [if_neg q1, if_pos q2]), rfl⟩
          · have d2 : (room f j == 32768) = false := by simpa using q2
            by_cases q3 : 32768 < room f j
            · have d3 : decide (32768 < room f j) = true := by simpa using q3
              go_wp2_with fail
              go_ret
              exact ⟨5, rfl, HF.out _ (by unfold kindOf; rw [if_neg q1, if_neg q2, if_pos q3]), rfl⟩
            · have d3 : decide (32768 < room f j) = false := by simpa using q3
              by_cases q4 : cnt f j = 1 ∧ room f j = 16384
              · have d4 : (cnt f j == 1) = true := by simpa using q4.1
                have d5 : (room f j == 16384) = true := by simpa using q4.2
                go_wp2_with fail
                go_ret
                exact ⟨3, rfl, HF.out _ (by unfold kindOf; rw [if_neg q1, if_neg q2, if_neg (by omega), if_pos q4]), rfl⟩
              · have HQ : Hid (¬ (cnt f j = 1 ∧ room f j = 16384)) := q4
                by_cases q5 : cnt f j = 1
                · have d4 : (cnt f j == 1) = true := by simpa using q5
                  have d5 : (room f j == 16384) = false := by simpa using fun h => q4 ⟨q5, h⟩
                  clear q4
                  go_wp2_with fail
                  go_ret
                  exact ⟨4, rfl, HF.out _ (by unfold kindOf; rw [if_neg q1, if_neg q2, if_neg (by omega), if_neg HQ.out]), rfl⟩
                · have d4 : (cnt f j == 1) = false := by simpa using q5
                  clear q4
                  go_wp2_with fail
                  go_ret
                  exact ⟨4, rfl, HF.out _ (by unfold kindOf; rw [if_neg q1, if_neg q2, if_neg (by omega), if_neg HQ.out]), rfl⟩
  · obtain rfl : w = w1 := hw.symm
    have HN : Hid (¬ (n ≤ 288 ∧ OkLens f n)) := hno
    clear hno hw
    go_wp2_with fail
    go_ret
    exact ⟨0, rfl, .inl ⟨rfl, HN.out⟩, rfl⟩

end Go.Proofs.YtbcnlggkoidmmaaGreatDoor

namespace Go.Proofs.YtbcnlggkoidmmaaGreatDoor
open Go.RowKit Go.Joins OutMath CodeMath

theorem info_cell : (Tryz.prog.info? 3).map (fun i => (i.zero, i.size, i.bytes)) = some (some (.int .i64 0), 1, 8) := by kernel_rfl

theorem make_cells (w : World) (n : Nat) (hn : n ≤ 1048576) : (Instr.makeSlice 26 (.int .i64 n) (.int .i64 n)).run Tryz.prog w = .ok (.slice (some ⟨w.heap.size, 0, none⟩) n n) (w.alloc (.cells (madeCells #[Value.int .i64 0] n) 3)) := by
  obtain ⟨i0, hi0, hz0, hz1, hz2⟩ := info_parts info_cell
  have h := run_make (P := Tryz.prog) w 26 3 i0 (.int .i64 0) Tryz.underlying26 hi0 hz0 .i64 .i64 n n (by omega) (by omega) (by rw [hz2]; omega) (by omega)
  rw [hz1, Int.toNat_natCast, Nat.mul_one] at h
  exact h

theorem specCodes_bad (a : Option Addr) (n cap : Nat) (f : Nat → Int) (w : World) (hC : Came w a n f) (hn : n ≤ 1048576) (hB : ¬ Coded f n) :
    Calls Tryz.prog 51 #[.slice a n cap] w fun e w' => e = .returned (.tuple #[.slice (some ⟨w.heap.size, 0, none⟩) 0 0, .bool false]) ∧ w.heap.size < w'.heap.size ∧ Below w.heap.size w w' := by
  have HC : Hid (Came w a n f) := hC
  have HB : Hid (¬ Coded f n) := hB
  clear hC hB
  go_enter Tryz.func51, Tryz.ntmps51
  go_wp2_with fail
  refine (specKind a n cap f w HC.out hn).mono ?_
  rintro e w1 ⟨k, rfl, hk, hw⟩
  obtain rfl : w = w1 := hw.symm
  rcases kind_bad hk HB.out with rfl | rfl
  · clear hk
    go_wp2_with fail
    go_ret2
    exact ⟨rfl, by simp, bstart _ _⟩
  · clear hk
    go_wp2_with fail
    go_ret2
    exact ⟨rfl, by simp, bstart _ _⟩

/-- What the loops of CodesOf have at hand. -/
def CodesSt (w w' : World) (f : Nat → Int) (n : Nat) (t : Int) (i : Nat) : Prop := IOwn w' w.heap.size w.heap.size n n (outAt f n t i) ∧ Below w.heap.size w w'

set_option maxRecDepth 100000 in
set_option maxHeartbeats 1600000 in
theorem specCodes_good (a : Option Addr) (n cap : Nat) (f : Nat → Int) (w : World) (hC : Came w a n f) (hG : Coded f n) :
    Calls Tryz.prog 51 #[.slice a n cap] w fun e w' => e = .returned (.tuple #[.slice (some ⟨w.heap.size, 0, none⟩) n n, .bool true]) ∧ IOwn w' w.heap.size w.heap.size n n (codeOf f n) ∧ Below w.heap.size w w' := by
  have HC : Hid (Came w a n f) := hC
  have HG : Hid (Coded f n) := hG
  have hm := hG.1
  clear hC hG
  have hmk := make_cells w n (by omega)
  have HS : Hid (CodesSt w (w.alloc (.cells (madeCells #[Value.int .i64 0] n) 3)) f n 1 0) := ⟨(IOwn.made (base := w.heap.size) w n (by unfold maxLen; omega) (Nat.le_refl _)).congr (fun i _ => (outAt_start f n i).symm), bstart _ _⟩
  generalize w.alloc (.cells (madeCells #[Value.int .i64 0] n) 3) = w0 at hmk HS
  go_enter Tryz.func51, Tryz.ntmps51
  go_wp2_with fail
  refine (specKind a n cap f w HC.out (by omega)).mono ?_
  rintro e w1 ⟨k, rfl, hk, hw⟩
  obtain rfl : w = w1 := hw.symm
  obtain ⟨k0, k5⟩ := kind_good hk HG.out
  have d0 : (k == 0) = false := by simpa using k0
  have d5 : (k == 5) = false := by simpa using k5
  clear hk k0 k5 hw
  go_wp2_with fail
  go_loopw [6, 7] (fun x i w' => ∃ t : Nat, 1 ≤ t ∧ t ≤ 16 ∧ i = .int .i64 t ∧ x = .int .i64 (nx f n (t - 1)) ∧ Hid (CodesSt w w' f n t 0)) (fun _ i _ => 16 - (intOf i).toNat)
  case atStart => exact ⟨1, by omega, by omega, rfl, rfl, HS⟩
  case round =>
    obtain ⟨t, ht1, ht2, rfl, rfl, hS⟩ := hrel
    have hx := nx_lt f n hm (t - 1) (by omega)
    by_cases hlt : t ≤ 15
    · go_wp2_with fail
      go_loopw [6, 8] (fun x i w' => ∃ j : Nat, j ≤ n ∧ i = .int .i64 j ∧ x = .int .i64 (2 * nx f n (t - 1) + cntS f (t : Int) j) ∧ Hid (CodesSt w w' f n t j)) (fun _ i _ => n - (intOf i).toNat)
      case atStart => exact ⟨0, by omega, rfl, by simp [cntS], hS⟩
      case round =>
        obtain ⟨j, hj, rfl, rfl, hSj⟩ := hrel
        have hcb := cntS_bd f (t : Int) j
        by_cases hlt2 : j < n
        · rcases HC.out with h0 | ⟨g, off, rfl, hg, hc⟩
          · omega
          · have c0 : wr.cell? ⟨g, off + j, none⟩ = some (.int .i64 (f j)) := (hSj.out.2.cell (p := ⟨g, off + j, none⟩) hg).trans (hc j hlt2)
            have hl2 : g < wr.heap.size := Nat.lt_of_lt_of_le hg hSj.out.2.size
            clear hc
            by_cases he : f j = (t : Int)
            · have d : (f j == (t : Int)) = true := by simpa using he
              have HR : Hid (2 * nx f n (t - 1) + cntS f (t : Int) (j + 1) = 2 * nx f n (t - 1) + cntS f (t : Int) j + 1) := by
                show 2 * nx f n (t - 1) + (cntS f (t : Int) j + (if f j = (t : Int) then 1 else 0)) = _
                rw [if_pos he]; omega
              have c1 := hSj.out.1.cell j hlt2
              have f1 := hSj.out.1.free j hlt2
              have hl := hSj.out.1.lt
              have HS1 : Hid (CodesSt w (wr.setCell ⟨w.heap.size, j, none⟩ (.int .i64 (2 * nx f n (t - 1) + cntS f (t : Int) j))) f n t (j + 1)) := by
                refine ⟨(hSj.out.1.set j hlt2 _).congr (fun i _ => ?_), Below.setCell (p := ⟨w.heap.size, j, none⟩) hSj.out.2 (Nat.le_refl _) _⟩
                exact outAt_here f n t j ht1 he i
              clear he
              go_wp2_with fail
              go_roundw
              case rel => exact ⟨j + 1, by omega, by go_num, by rw [HR.out], HS1⟩
              case measure => simp [intOf]; omega
            · have d : (f j == (t : Int)) = false := by simpa using he
              have HR : Hid (2 * nx f n (t - 1) + cntS f (t : Int) (j + 1) = 2 * nx f n (t - 1) + cntS f (t : Int) j) := by
                show 2 * nx f n (t - 1) + (cntS f (t : Int) j + (if f j = (t : Int) then 1 else 0)) = _
                rw [if_neg he]; omega
              have HS1 : Hid (CodesSt w wr f n t (j + 1)) := ⟨hSj.out.1.congr (fun i _ => outAt_skip f n t j he i), hSj.out.2⟩
              clear he
              go_wp2_with fail
              go_roundw
              case rel => exact ⟨j + 1, by omega, by go_num, by rw [HR.out], HS1⟩
              case measure => simp [intOf]; omega
        · obtain rfl : j = n := by omega
          have HR : Hid (nx f j (t + 1 - 1) = 2 * nx f j (t - 1) + cntS f (t : Int) j) := by
            rw [nx_step f j t ht1, Nat.add_sub_cancel]
            exact rfl
          have HS1 : Hid (CodesSt w wr f j ((t + 1 : Nat) : Int) 0) := ⟨hSj.out.1.congr (fun i hi => outAt_turn f j t i hi), hSj.out.2⟩
          go_wp2_with fail
          go_roundw
          case rel => exact ⟨t + 1, by omega, by omega, by go_num, by rw [HR.out], HS1⟩
          case measure => simp [intOf]; omega
    · obtain rfl : t = 16 := by omega
      go_wp2_with fail
      go_ret2
      exact ⟨rfl, hS.out.1.congr (fun i hi => outAt_end f n i (HG.out.2.1 i hi).2), hS.out.2⟩

end Go.Proofs.YtbcnlggkoidmmaaGreatDoor

namespace Go.Proofs.YtbcnlggkoidmmaaGreatDoor
open Go.RowKit OutMath StepMath

theorem p2_pow (m : Nat) : p2 m = ((2 ^ m : Nat) : Int) := (pow_cast m).symm
theorem from_next (c k j : Nat) : ((fromN c k (j + 1) : Nat) : Int) = ((fromN c k j : Nat) : Int) + p2 (bitsN k j) := by
  rw [p2_pow, ← Int.natCast_add]
  rfl
theorem ret_ii {k : IntKind} {a b c d : Int} (h : a = b) (h' : c = d) : Ending.returned (.tuple #[.int k a, .int k c]) = .returned (.tuple #[.int k b, .int k d]) := by rw [h, h']
theorem ret_iii {k : IntKind} {a b c d x y : Int} (h : a = b) (h' : c = d) (h2 : x = y) : Ending.returned (.tuple #[.int k a, .int k c, .int k x]) = .returned (.tuple #[.int k b, .int k d, .int k y]) := by rw [h, h', h2]
end Go.Proofs.YtbcnlggkoidmmaaGreatDoor

namespace Go.Proofs.YtbcnlggkoidmmaaGreatDoor
open Go.RowKit Go.Joins OutMath StepMath

theorem bits4 {j : Nat} (h : 4 ≤ j) : ((j : Int) - 4).tdiv 4 = ((bitsN 4 j : Nat) : Int) := by
  rw [Int.tdiv_eq_ediv_of_nonneg (by omega)]
  unfold bitsN
  omega

set_option maxHeartbeats 800000 in
theorem specLenBits (j : Nat) (w : World) (h : j < 28) :
    Calls Tryz.prog 126 #[.int .i64 (257 + (j : Int))] w fun e w' => e = .returned (.tuple #[.int .i64 ((bitsN 4 j : Nat) : Int), .int .i64 ((fromN 3 4 j : Nat) : Int)]) ∧ w' = w := by
  by_cases h8 : j < 8
  · have e1 := (len_small j (by omega)).1
    have e2 := (len_bits j h).2 h8
    rw [e1, e2]
    have d : decide ((257 : Int) + (j : Int) < 265) = true := decide_eq_true (by omega)
    have d2 : (257 : Int) + (j : Int) < 265 := by omega
    go_enter Tryz.func126, Tryz.ntmps126
    go_wp2_with fail
    go_ret2
    exact ⟨ret_ii rfl (by omega), rfl⟩
  · have d : decide ((257 : Int) + (j : Int) < 265) = false := decide_eq_false (by omega)
    have d2 : ¬ (257 : Int) + (j : Int) < 265 := by omega
    have d3 : ((257 : Int) + (j : Int) == 285) = false := by simp; omega
    have hq : ((257 : Int) + (j : Int) - 261).tdiv 4 = ((bitsN 4 j : Nat) : Int) := by
      rw [show (257 : Int) + (j : Int) - 261 = (j : Int) - 4 by omega]
      exact bits4 (by omega)
    have hb := (len_bits j h).1
    go_enter Tryz.func126, Tryz.ntmps126
    go_wp2_with fail
    go_loop [5, 6] (fun x i => ∃ q : Nat, 8 ≤ q ∧ q ≤ j ∧ i = .int .i64 (257 + (q : Int)) ∧ x = .int .i64 ((fromN 3 4 q : Nat) : Int)) (fun _ i => 300 - (intOf i).toNat)
    case atStart => exact ⟨8, by omega, by omega, rfl, by rw [len_8]; rfl⟩
    case round =>
      obtain ⟨q, hq1, hq2, rfl, rfl⟩ := hrel
      have hf := from_le (c := 3) (k := 4) (show q ≤ 28 by omega)
      rw [len_28] at hf
      by_cases hlt : q < j
      · have g1 : decide ((257 : Int) + (q : Int) < 257 + (j : Int)) = true := decide_eq_true (by omega)
        have g2 : (257 : Int) + (q : Int) < 257 + (j : Int) := by omega
        have g3 : ((257 : Int) + (q : Int) - 261).tdiv 4 = ((bitsN 4 q : Nat) : Int) := by
          rw [show (257 : Int) + (q : Int) - 261 = (q : Int) - 4 by omega]
          exact bits4 (by omega)
        have g4 := (len_bits q (by omega)).1
        have g5 := p2_le (show bitsN 4 q ≤ 5 by omega)
        have g6 : p2 5 = 32 := by decide +kernel
        have g7 := p2_pos (bitsN 4 q)
        have HN := hid_of (from_next 3 4 q)
        go_wp2_with fail
        refine (pow_any _ _ (by omega)).mono ?_
        rintro e w1 ⟨rfl, rfl⟩
        go_wp2_with fail
        go_round
        case rel => exact ⟨q + 1, by omega, by omega, by go_num, by rw [HN.out]⟩
        case measure => simp [intOf]; omega
      · obtain rfl : q = j := by omega
        go_wp2_with fail
        go_ret2
        exact ⟨rfl, rfl⟩

theorem specLenBits_last (w : World) :
    Calls Tryz.prog 126 #[.int .i64 285] w fun e w' => e = .returned (.tuple #[.int .i64 0, .int .i64 258]) ∧ w' = w := by
  go_enter Tryz.func126, Tryz.ntmps126
  go_wp2_with fail
  go_ret2
  exact ⟨rfl, rfl⟩

end Go.Proofs.YtbcnlggkoidmmaaGreatDoor

namespace Go.Proofs.YtbcnlggkoidmmaaGreatDoor
open Go.RowKit Go.Joins OutMath StepMath

theorem specLenOf_out (s x : Int) (w : World) (h : ¬ (257 ≤ s ∧ s ≤ 285)) :
    Calls Tryz.prog 127 #[.int .i64 s, .int .i64 x] w fun e w' => e = .returned (.tuple #[.int .i64 0, .bool false]) ∧ w' = w := by
  go_enter Tryz.func127, Tryz.ntmps127
  go_wp2_with fail
  refine (in_no _ _ _ _ h).mono ?_
  rintro e w1 ⟨rfl, rfl⟩
  go_wp2_with fail
  go_ret2
  exact ⟨rfl, rfl⟩
set_option maxHeartbeats 800000 in
theorem specLenOf_at (s x : Int) (m z : Nat) (w : World) (h1 : 257 ≤ s) (h2 : s ≤ 285) (hb : ∀ W, Calls Tryz.prog 126 #[.int .i64 s] W fun e w' => e = .returned (.tuple #[.int .i64 ((m : Nat) : Int), .int .i64 ((z : Nat) : Int)]) ∧ w' = W) (hm : m ≤ 5) (hz : z ≤ 258) :
    Calls Tryz.prog 127 #[.int .i64 s, .int .i64 x] w fun e w' => e = .returned (.tuple #[.int .i64 (if 0 ≤ x ∧ x < 2 ^ m then (z : Int) + x else 0), .bool (decide (0 ≤ x ∧ x < 2 ^ m))]) ∧ w' = w := by
  have hp : p2 m = 2 ^ m := rfl
  have hp1 := p2_pos m
  have hp2 := p2_le hm
  have hp3 : p2 5 = 32 := by decide +kernel
  rw [← hp]
  clear hp
  by_cases hx : 0 ≤ x ∧ x < p2 m
  · rw [if_pos hx, decide_eq_true hx]
    go_enter Tryz.func127, Tryz.ntmps127
    go_wp2_with fail
    refine (in_yes _ _ _ _ h1 h2).mono ?_
    rintro e w1 ⟨rfl, rfl⟩
    go_wp2_with fail
    refine (hb _).mono ?_
    rintro e w2 ⟨rfl, rfl⟩
    go_wp2_with fail
    refine (pow_any _ _ (by omega)).mono ?_
    rintro e w3 ⟨rfl, rfl⟩
    go_wp2_with fail
    refine (in_yes _ _ _ _ (by omega) (by omega)).mono ?_
    rintro e w4 ⟨rfl, rfl⟩
    go_wp2_with fail
    go_ret2
    exact ⟨rfl, rfl⟩
  · rw [if_neg hx, decide_eq_false hx]
    go_enter Tryz.func127, Tryz.ntmps127
    go_wp2_with fail
    refine (in_yes _ _ _ _ h1 h2).mono ?_
    rintro e w1 ⟨rfl, rfl⟩
    go_wp2_with fail
    refine (hb _).mono ?_
    rintro e w2 ⟨rfl, rfl⟩
    go_wp2_with fail
    refine (pow_any _ _ (by omega)).mono ?_
    rintro e w3 ⟨rfl, rfl⟩
    go_wp2_with fail
    refine (in_no _ _ _ _ (by omega)).mono ?_
    rintro e w4 ⟨rfl, rfl⟩
    go_wp2_with fail
    go_ret2
    exact ⟨rfl, rfl⟩
theorem specLenOf (s x : Int) (w : World) :
    Calls Tryz.prog 127 #[.int .i64 s, .int .i64 x] w fun e w' => e = .returned (.tuple #[.int .i64 (LengthOfR s x).1, .bool (LengthOfR s x).2]) ∧ w' = w := by
  by_cases h : 257 ≤ s ∧ s ≤ 285
  · obtain ⟨m, rfl⟩ := Int.eq_ofNat_of_zero_le (show 0 ≤ s by omega)
    have key : ∀ (b z : Nat), lenBits m = (b, z) → ∀ e, e = Ending.returned (.tuple #[.int .i64 (if 0 ≤ x ∧ x < 2 ^ b then (z : Int) + x else 0), .bool (decide (0 ≤ x ∧ x < 2 ^ b))]) → e = .returned (.tuple #[.int .i64 (LengthOfR m x).1, .bool (LengthOfR m x).2]) := by
      intro b z hb e he
      subst he
      unfold LengthOfR
      rw [Int.toNat_natCast, hb]
      by_cases q : 0 ≤ x ∧ x < 2 ^ b
      · rw [if_pos q, decide_eq_true q, if_pos ⟨h, q⟩]
      · rw [if_neg q, decide_eq_false q, if_neg (fun k => q k.2)]
    by_cases h1 : m = 285
    · subst h1
      refine (specLenOf_at 285 x 0 258 w (by omega) (by omega) (fun W => specLenBits_last W) (by omega) (by omega)).mono ?_
      rintro e w' ⟨he, rfl⟩
      exact ⟨key 0 258 rfl e he, rfl⟩
    · obtain ⟨j, hj⟩ : ∃ j, m = 257 + j := ⟨m - 257, by omega⟩
      subst hj
      have hj28 : j < 28 := by omega
      have g1 := (len_bits j hj28).1
      have g2 := from_le (c := 3) (k := 4) (show j ≤ 27 by omega)
      have g3 : fromN 3 4 27 = 227 := by decide
      have e1 : ((257 + j : Nat) : Int) = 257 + (j : Int) := by omega
      have hb : lenBits (257 + j) = (bitsN 4 j, fromN 3 4 j) := by
        unfold lenBits
        rw [if_neg h1, Nat.add_sub_cancel_left]
      refine (specLenOf_at ((257 + j : Nat) : Int) x (bitsN 4 j) (fromN 3 4 j) w h.1 h.2 (fun W => by rw [e1]; exact specLenBits j W hj28) g1 (by omega)).mono ?_
      rintro e w' ⟨he, rfl⟩
      exact ⟨key _ _ hb e he, rfl⟩
  · have e : LengthOfR s x = (0, false) := by
      unfold LengthOfR
      rw [if_neg (fun k => h k.1)]
    rw [e]
    exact specLenOf_out s x w h

end Go.Proofs.YtbcnlggkoidmmaaGreatDoor

namespace Go.Proofs.YtbcnlggkoidmmaaGreatDoor
open Go.RowKit Go.Joins OutMath StepMath

theorem bits2 {j : Nat} (h : 2 ≤ j) : ((j : Int) - 2).tdiv 2 = ((bitsN 2 j : Nat) : Int) := by
  rw [Int.tdiv_eq_ediv_of_nonneg (by omega)]
  unfold bitsN
  omega

set_option maxHeartbeats 800000 in
theorem specDistBits (j : Nat) (w : World) (h : j < 30) :
    Calls Tryz.prog 128 #[.int .i64 (j : Int)] w fun e w' => e = .returned (.tuple #[.int .i64 ((bitsN 2 j : Nat) : Int), .int .i64 ((fromN 1 2 j : Nat) : Int)]) ∧ w' = w := by
  by_cases h4 : j < 4
  · have e1 := (dist_small j (by omega)).1
    have e2 := (dist_bits j h).2 h4
    rw [e1, e2]
    have d : decide ((j : Int) < 4) = true := decide_eq_true (by omega)
    go_enter Tryz.func128, Tryz.ntmps128
    go_wp2_with fail
    go_ret2
    exact ⟨ret_ii rfl (by omega), rfl⟩
  · have d : decide ((j : Int) < 4) = false := decide_eq_false (by omega)
    have hq := bits2 (show 2 ≤ j by omega)
    have hb := (dist_bits j h).1
    go_enter Tryz.func128, Tryz.ntmps128
    go_wp2_with fail
    go_loop [4, 5] (fun x i => ∃ q : Nat, 4 ≤ q ∧ q ≤ j ∧ i = .int .i64 (q : Int) ∧ x = .int .i64 ((fromN 1 2 q : Nat) : Int)) (fun _ i => 300 - (intOf i).toNat)
    case atStart => exact ⟨4, by omega, by omega, rfl, by rw [dist_4]; rfl⟩
    case round =>
      obtain ⟨q, hq1, hq2, rfl, rfl⟩ := hrel
      have hf := from_le (c := 1) (k := 2) (show q ≤ 30 by omega)
      rw [dist_30] at hf
      by_cases hlt : q < j
      · have g3 := bits2 (show 2 ≤ q by omega)
        have g4 := (dist_bits q (by omega)).1
        have g5 := p2_le (show bitsN 2 q ≤ 13 by omega)
        have g6 : p2 13 = 8192 := by decide +kernel
        have g7 := p2_pos (bitsN 2 q)
        have HN := hid_of (from_next 1 2 q)
        go_wp2_with fail
        refine (pow_any _ _ (by omega)).mono ?_
        rintro e w1 ⟨rfl, rfl⟩
        go_wp2_with fail
        go_round
        case rel => exact ⟨q + 1, by omega, by omega, by go_num, by rw [HN.out]⟩
        case measure => simp [intOf]; omega
      · obtain rfl : q = j := by omega
        go_wp2_with fail
        go_ret2
        exact ⟨rfl, rfl⟩

end Go.Proofs.YtbcnlggkoidmmaaGreatDoor
