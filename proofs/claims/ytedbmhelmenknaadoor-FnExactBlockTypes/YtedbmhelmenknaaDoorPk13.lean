/-
  The program's book of codes in memory; what it tells.
  The walk of the program's takeSymbol: a symbol off a book of codes, bit by bit.
  The walk of the program's function that puts what a piece makes behind a text.
-/
import Derived.Test.YtedbmhelmenknaaDoorPk11
import Derived.Test.YtedbmhelmenknaaDoorPk12
import Derived.Test.YtedbmhelmenknaaDoorPk07
import Derived.Test.YtedbmhelmenknaaDoorRows
import Derived.Test.YtedbmhelmenknaaDoorPk01
import Derived.Test.YtedbmhelmenknaaDoorPk02
import Derived.WalkKit
import Derived.ProofKit
import Derived.WalkLawsBesides
import Derived.RegionTactic
import Derived.Deep.QuietTactic
import Derived.OwnWalk
import Derived.BigQuiet
import Derived.Below
import Derived.Lib.SmallJoins
import Derived.Deep.LoopGhost
namespace Go.Proofs.YtedbmhelmenknaaDoor
open Go.RowKit Go.Joins OutMath CodeMath TakeMath HitMath WayMath BookMath InfMath

/-- The book in block bk; all of it lies in the blocks from S on, below C. -/
def Book (w : World) (S C bk : Nat) (V : Nat → Value) (f : Nat → Int) (n : Nat) : Prop :=
  S ≤ bk ∧ bk < C ∧ C ≤ w.heap.size ∧
  (∀ i, i < 16 → w.cell? ⟨bk, i, none⟩ = some (V i) ∧ NumRow w S (V i) (symsTo f i n) ∧ ∀ k, (V i).ownBlock = some k → k < C) ∧
  (∀ i, i < 16 → w.cell? ⟨bk, 16 + i, none⟩ = some (.int .i64 (first (cs f n) i))) ∧ w.cell? ⟨bk, 32, none⟩ = some (.int .i64 (nx f n 15))
theorem row_kept {w w' : World} {S C : Nat} {v : Value} {L : List Int} (h : NumRow w S v L) (hv : ∀ k, v.ownBlock = some k → k < C) (hk : ∀ k, S ≤ k → k < C → w'.heap[k]? = w.heap[k]?) : NumRow w' S v L := by
  refine ⟨h.1, ?_⟩
  rcases h.2 with q | ⟨g, cap, cur, rfl, h1, h2, h3⟩
  · exact .inl q
  · exact .inr ⟨g, cap, cur, rfl, h1, (hk g h1 (hv g rfl)).trans h2, h3⟩
theorem Book.kept {w w' : World} {S C bk : Nat} {V : Nat → Value} {f : Nat → Int} {n : Nat} (h : Book w S C bk V f n) (hk : ∀ k, S ≤ k → k < C → w'.heap[k]? = w.heap[k]?) (hs : w.heap.size ≤ w'.heap.size) : Book w' S C bk V f n := by
  obtain ⟨h1, h2, h3, h4, h5, h6⟩ := h
  have e := hk bk h1 h2
  refine ⟨h1, h2, Nat.le_trans h3 hs, fun i hi => ?_, fun i hi => ?_, ?_⟩
  · obtain ⟨q1, q2, q3⟩ := h4 i hi
    exact ⟨(World.cell?_of_block (a := ⟨bk, i, none⟩) e).trans q1, row_kept q2 q3 hk, q3⟩
  · exact (World.cell?_of_block (a := ⟨bk, 16 + i, none⟩) e).trans (h5 i hi)
  · exact (World.cell?_of_block (a := ⟨bk, 32, none⟩) e).trans h6
/-- All blocks from S on, below C, are left alone by the unpacking. -/
def Held (w : World) (fb rb : Nat) (vo vt : Value) (S C : Nat) : Prop := ∀ k, S ≤ k → k < C → Safe w fb rb vo vt k
theorem Held.step {w w' : World} {fb rb : Nat} {vo vt vo' vt' : Value} {S C : Nat} (h : Held w fb rb vo vt S C) (hs : Step fb rb w vo vt w' vo' vt') : Held w' fb rb vo' vt' S C := fun k h1 h2 => (hs.block k (h k h1 h2)).1
theorem Book.step {w w' : World} {fb rb : Nat} {vo vt vo' vt' : Value} {S C bk : Nat} {V : Nat → Value} {f : Nat → Int} {n : Nat} (h : Book w S C bk V f n) (hh : Held w fb rb vo vt S C) (hs : Step fb rb w vo vt w' vo' vt') : Book w' S C bk V f n := h.kept (fun k h1 h2 => (hs.block k (hh k h1 h2)).2) hs.size

section
variable {w : World} {S C bk : Nat} {V : Nat → Value} {f : Nat → Int} {n : Nat}
set_option maxHeartbeats 400000 in
theorem begins_any (h : Book w S C bk V f n) (x : Int) (k d : Nat) (hk : k + d = 15) (hx0 : 0 ≤ x) (hx1 : x * p2 d ≤ 65536) :
    Calls Tryd.prog 75 #[.pointer (some ⟨bk, 0, none⟩), .int .i64 x, .int .i64 (k : Int)] w fun e w' => e = .returned (.bool (decide (x * p2 d < nx f n 15))) ∧ ∃ m, w' = w.drewN m := by
  have c32 := h.2.2.2.2.2
  have hl : bk < w.heap.size := Nat.lt_of_lt_of_le h.2.1 h.2.2.1
  clear h
  have e1 : (15 : Int) - (k : Int) = (d : Int) := by omega
  have e0 : IntKind.i64.wrap ((15 : Int) - (k : Int)) = (d : Int) := by rw [e1, IntKind.wrap_i64]; omega
  have hd : d ≤ 15 := by omega
  have hd0 : (0 : Int) ≤ (d : Int) := by omega
  have h0 : 0 ≤ x * p2 d := Int.mul_nonneg hx0 (by have := p2_pos d; omega)
  have HW : Hid (wrap64 (x * 2 ^ d) = x * p2 d) := by
    show wrap64 (x * 2 ^ d) = x * p2 d
    have : x * 2 ^ d = x * p2 d := rfl
    rw [this]
    unfold wrap64
    omega
  generalize nx f n 15 = z at c32
  go_enter Tryd.func75, Tryd.ntmps75
  go_wp2_with fail
  go_quiet (fail)
  go_wp2_with fail
  go_ret
  exact ⟨ret_b (by rw [HW.out]), _, rfl⟩
set_option maxHeartbeats 400000 in
theorem find_yes (h : Book w S C bk V f n) (hn : n ≤ 288) (x : Int) (k j : Nat) (hk : k ≤ 15) (hj : j < (symsTo f k n).length) (hx : x = first (cs f n) k + (j : Int)) :
    Calls Tryd.prog 76 #[.pointer (some ⟨bk, 0, none⟩), .int .i64 x, .int .i64 (k : Int)] w fun e w' => e = .returned (.tuple #[.int .i64 ((symsTo f k n).getD j 0), .bool true]) ∧ w' = w := by
  obtain ⟨q1, q2, _⟩ := h.2.2.2.1 k (by omega)
  have q3 := h.2.2.2.2.1 k (by omega)
  have hl : bk < w.heap.size := Nat.lt_of_lt_of_le h.2.1 h.2.2.1
  have hfb := first_lt (cs f n) (fun s => ⟨(cs_bd f n s).1, Int.le_trans (cs_bd f n s).2 (by omega)⟩) k hk
  have hle := symsTo_le f k n
  clear h
  obtain ⟨a, c, hv, _, _, hcame, _⟩ := q2.form
  rw [hv] at q1
  clear q2 hv
  have hcell : ∃ g off, a = some ⟨g, off, none⟩ ∧ g < w.heap.size ∧ w.cell? ⟨g, off + j, none⟩ = some (.int .i64 ((symsTo f k n).getD j 0)) := by
    rcases hcame with q | ⟨g, off, q4, q5, q6⟩
    · omega
    · exact ⟨g, off, q4, q5, q6 j hj⟩
  obtain ⟨g, off, rfl, hg, hc⟩ := hcell
  clear hcame
  generalize (symsTo f k n).getD j 0 = y at hc
  generalize (symsTo f k n).length = len at *
  generalize first (cs f n) k = z at *
  have e1 : IntKind.i64.wrap (x - z) = (j : Int) := by rw [hx, IntKind.wrap_i64]; omega
  have e2 : x - z = (j : Int) := by omega
  have hk0 : (0 : Int) ≤ (k : Int) := by omega
  have hk1 : (k : Int) < 16 := by omega
  have hj0 : (0 : Int) ≤ (j : Int) := by omega
  have hj1 : (j : Int) < (len : Int) := by omega
  have d1 : decide ((len : Int) ≤ (j : Int)) = false := decide_eq_false (by omega)
  clear hx hfb
  go_enter Tryd.func76, Tryd.ntmps76
  go_wp2_with fail
  go_ret2
  exact ⟨rfl, rfl⟩
set_option maxHeartbeats 400000 in
theorem find_no (h : Book w S C bk V f n) (hn : n ≤ 288) (x : Int) (k : Nat) (hk : k ≤ 15) (hx0 : 0 ≤ x) (hx1 : x ≤ 65536) (hx : ¬ x - first (cs f n) k < ((symsTo f k n).length : Int)) :
    Calls Tryd.prog 76 #[.pointer (some ⟨bk, 0, none⟩), .int .i64 x, .int .i64 (k : Int)] w fun e w' => e = .returned (.tuple #[.int .i64 0, .bool false]) ∧ w' = w := by
  obtain ⟨q1, q2, _⟩ := h.2.2.2.1 k (by omega)
  have q3 := h.2.2.2.2.1 k (by omega)
  have hl : bk < w.heap.size := Nat.lt_of_lt_of_le h.2.1 h.2.2.1
  have hfb := first_lt (cs f n) (fun s => ⟨(cs_bd f n s).1, Int.le_trans (cs_bd f n s).2 (by omega)⟩) k hk
  clear h
  obtain ⟨a, c, hv, _⟩ := q2.form
  rw [hv] at q1
  clear q2 hv
  generalize (symsTo f k n).length = len at *
  generalize first (cs f n) k = z at *
  have e1 : IntKind.i64.wrap (x - z) = x - z := by rw [IntKind.wrap_i64]; omega
  have hk0 : (0 : Int) ≤ (k : Int) := by omega
  have hk1 : (k : Int) < 16 := by omega
  have d1 : decide ((len : Int) ≤ x - z) = true := decide_eq_true (by omega)
  go_enter Tryd.func76, Tryd.ntmps76
  go_wp2_with fail
  go_ret2
  exact ⟨rfl, rfl⟩
end
end Go.Proofs.YtedbmhelmenknaaDoor

namespace Go.Proofs.YtedbmhelmenknaaDoor
open Go.RowKit Go.Joins OutMath CodeMath TakeMath HitMath WayMath BookMath InfMath

/-- What takeSymbol leaves. -/
def SymPost (B : Nat) (w : World) (fb rb : Nat) (s : ByteArray) (p : Nat) (O : List Int) (most : Nat) (Ty : List Int) (vo vt : Value) (f : Nat → Int) (n : Nat) (e : Ending) (w' : World) : Prop :=
  Step fb rb w vo vt w' vo vt ∧ ((∃ y p', symE s f n p = .ok (y, p') ∧ p < p' ∧ p' ≤ 8 * s.size ∧ y < n ∧ e = .returned (.tuple #[.int .i64 (y : Int), .nilIface]) ∧ PS B w' fb rb s p' O most Ty vo vt) ∨
  (∃ c, symE s f n p = .error c ∧ e = .returned (.tuple #[.int .i64 0, errV c])))
/-- What its ring has at hand. -/
def SyRing (B : Nat) (w : World) (fb rb : Nat) (s : ByteArray) (p : Nat) (O : List Int) (most : Nat) (Ty : List Int) (vo vt : Value) (S C bk : Nat) (V : Nat → Value) (f : Nat → Int) (n k : Nat) (w' : World) : Prop :=
  PS B w' fb rb s (p + k) O most Ty vo vt ∧ Step fb rb w vo vt w' vo vt ∧ Book w' S C bk V f n ∧ Held w' fb rb vo vt S C ∧ Passed f n s p k ∧ p + k ≤ 8 * s.size
theorem SyRing.draw {B : Nat} {w : World} {fb rb : Nat} {s : ByteArray} {p : Nat} {O : List Int} {most : Nat} {Ty : List Int} {vo vt : Value} {S C bk : Nat} {V : Nat → Value} {f : Nat → Int} {n k : Nat} {w' : World} (h : SyRing B w fb rb s p O most Ty vo vt S C bk V f n k w') (m : Nat) : SyRing B w fb rb s p O most Ty vo vt S C bk V f n k (w'.drewN m) := by
  have hb : Below w'.heap.size w' (w'.drewN m) := ⟨rfl, rfl, rfl, Nat.le_refl _, fun _ _ => rfl⟩
  have st : Step fb rb w' vo vt (w'.drewN m) vo vt := Step.called hb
  exact ⟨h.1.called hb, h.2.1.trans st, h.2.2.1.step h.2.2.2.1 st, h.2.2.2.1.step st, h.2.2.2.2⟩
theorem num_one (s : ByteArray) (a : Nat) : num s a 1 = bit s a := by
  show 0 + bit s (a + 0) * p2 0 = bit s a
  rw [p2_zero, Nat.add_zero]
  omega
section
variable (B : Nat) (w : World) (fb rb : Nat) (s : ByteArray) (p : Nat) (O : List Int) (most : Nat) (Ty : List Int) (vo vt : Value) (S C bk : Nat) (V : Nat → Value) (f : Nat → Int) (n : Nat)
set_option maxRecDepth 100000 in
set_option maxHeartbeats 1600000 in
theorem takeSymbol_any (h : PS B w fb rb s p O most Ty vo vt) (hs : s.size ≤ 12000) (hp : p ≤ 8 * s.size) (hB : Book w S C bk V f n) (hH : Held w fb rb vo vt S C) (hn : n ≤ 288) (hok : OkLens f n) (_hroom : nx f n 15 ≤ 32768) :
    Calls Tryd.prog 63 #[.pointer (some ⟨fb, 0, none⟩), .pointer (some ⟨bk, 0, none⟩)] w (SymPost B w fb rb s p O most Ty vo vt f n) := by
  have H0 : Hid (SyRing B w fb rb s p O most Ty vo vt S C bk V f n 0 w) := ⟨h, Step.refl w, hB, hH, passed_start, hp⟩
  have HOK := hid_of hok
  clear h hB hH hok
  go_enter Tryd.func63, Tryd.ntmps63
  go_wp2_with fail
  go_loopg [6, 7] 17 (fun gk v u w' => ∃ k : Nat, k ≤ 15 ∧ v = .int .i64 (hi s p k) ∧ u = .int .i64 (k : Int) ∧ 16 - k ≤ gk ∧ Hid (SyRing B w fb rb s p O most Ty vo vt S C bk V f n k w'))
  case atStart => exact ⟨0, by omega, rfl, rfl, by omega, H0⟩
  case round =>
    clear H0
    obtain ⟨k, hk, rfl, rfl, hgk, hS⟩ := hrel
    have hbd := hi_bd s p k
    obtain ⟨d, hd⟩ : ∃ d, k + d = 15 := ⟨15 - k, by omega⟩
    have hd' : 15 - k = d := by omega
    have hmul : hi s p k * p2 d ≤ 65536 := by
      have q1 : hi s p k * p2 d ≤ p2 k * p2 d := Int.mul_le_mul_of_nonneg_right (by omega) (by have := p2_pos d; omega)
      rw [← p2_add, hd] at q1
      have : p2 15 = 32768 := by decide +kernel
      omega
    have hb := begins_any hS.out.2.2.1 (hi s p k) k d hd hbd.1 hmul
    by_cases hlt : hi s p k * p2 d < nx f n 15
    · rw [decide_eq_true hlt] at hb
      have hx1 := hi_lt s p k hk
      by_cases hj : hi s p k - first (cs f n) k < ((symsTo f k n).length : Int)
      · have hfl := first_le hS.out.2.2.2.2.1
        obtain ⟨j, hjj⟩ := Int.eq_ofNat_of_zero_le (show 0 ≤ hi s p k - first (cs f n) k by omega)
        have hjl : j < (symsTo f k n).length := by omega
        obtain ⟨i, hi1, hit⟩ := find_hit hS.out.2.2.2.2.2 hjl (show hi s p k = first (cs f n) k + (j : Int) by omega)
        have hf := fun (w : World) (hB : Book w S C bk V f n) => find_yes hB hn (hi s p k) k j hk hjl (by omega)
        rw [hi1] at hf
        have HP : Hid (∀ m, SymPost B w fb rb s p O most Ty vo vt f n (.returned (.tuple #[.int .i64 (i : Int), .nilIface])) (wr.drewN m)) := fun m => by
          refine ⟨(hS.out.draw m).2.1, .inl ⟨i, p + k, ?_, by have := hit.2.1; omega, hit.2.2.2.2, hit.1, rfl, (hS.out.draw m).1⟩⟩
          unfold symE
          rw [symW_hit hit]
          rfl
        have HBK : Hid (∀ m, Book (wr.drewN m) S C bk V f n) := fun m => (hS.out.draw m).2.2.1
        clear hS hi1 hit hjl hjj hfl hj hlt hmul hbd hx1
        generalize hi s p k = x at *
        go_wp2_with fail
        refine hb.mono ?_
        rintro e w1 ⟨rfl, m, rfl⟩
        clear hb
        go_wp2_with fail
        refine (hf _ (HBK.out m)).mono ?_
        rintro e w2 ⟨rfl, rfl⟩
        clear hf HBK
        go_wp2_with fail
        go_ret2
        exact HP.out m
      · have hnx := find_none hj
        have hf := fun (w : World) (hB : Book w S C bk V f n) => find_no hB hn (hi s p k) k hk hx1.1 (by omega) hj
        have HBK : Hid (∀ m, Book (wr.drewN m) S C bk V f n) := fun m => (hS.out.draw m).2.2.1
        have hpass := passed_next hS.out.2.2.2.2.1 hnx
        have hk15 : k < 15 := by
          rcases Nat.lt_or_ge k 15 with q | q
          · exact q
          · obtain rfl : k = 15 := by omega
            obtain rfl : d = 0 := by omega
            rw [p2_zero] at hlt
            omega
        by_cases h1 : p + k + 1 ≤ 8 * s.size
        · have htk := fun (m : Nat) => take_yes B (wr.drewN m) fb rb s (p + k) O most Ty vo vt (hS.out.draw m).1 hs 1 (by omega) h1
          rw [num_one] at htk
          have h01 := bit_01 s (p + k)
          have HO : Hid (bits .or .i64 (hi s p k * 2) (bit s (p + k)) = hi s p (k + 1)) := by
            show bits .or .i64 (hi s p k * 2) (bit s (p + k)) = hi s p (k + 1)
            rw [Int.mul_comm]
            exact or_low _ _ hx1.1 (by omega) h01.1 h01.2
          have HNX : Hid (∀ m w', PS B w' fb rb s (p + k + 1) O most Ty vo vt → (wr.drewN m).grownBy w' (some rb) → SyRing B w fb rb s p O most Ty vo vt S C bk V f n (k + 1) w') := fun m w' q1 q2 => by
            have st : Step fb rb (wr.drewN m) vo vt w' vo vt := Step.one q2 (fun k e => .inr (.inl (by cases e; rfl)))
            have hd := hS.out.draw m
            exact ⟨q1, hd.2.1.trans st, hd.2.2.1.step hd.2.2.2.1 st, hd.2.2.2.1.step st, hpass, h1⟩
          clear hS hj hlt hmul hbd hpass hnx
          generalize hxe : hi s p (k + 1) = x1 at *
          have HX := hid_of hxe
          clear hxe
          generalize hi s p k = x at *
          generalize bit s (p + k) = b at *
          go_wp2_with fail
          refine hb.mono ?_
          rintro e w1 ⟨rfl, m, rfl⟩
          clear hb
          go_wp2_with fail
          refine (hf _ (HBK.out m)).mono ?_
          rintro e w2 ⟨rfl, rfl⟩
          clear hf HBK
          go_wp2_with fail
          refine (htk m).mono ?_
          rintro e w3 ⟨rfl, q1, q2⟩
          have HN := hid_of (HNX.out m w3 q1 q2)
          clear htk q1 q2 HNX
          go_wp2_with fail
          rw [HO.out]
          go_roundg (16 - (k + 1))
          case measure => omega
          case rel => exact ⟨k + 1, by omega, by rw [HX.out], by go_num, Nat.le_refl _, HN⟩
        · have htk := fun (m : Nat) => take_no B (wr.drewN m) fb rb s (p + k) O most Ty vo vt (hS.out.draw m).1 hs hS.out.2.2.2.2.2 1 (by omega) h1
          have hout := out_of (f := f) (n := n) (s := s) (p := p) (k := k) hn hk (by have := hS.out.2.2.2.2.2; omega) hpass (by rw [hd']; exact hlt)
          have HP : Hid (∀ m w', (wr.drewN m).grownBy w' (some rb) → SymPost B w fb rb s p O most Ty vo vt f n (.returned (.tuple #[.int .i64 0, errV 2])) w') := fun m w' q2 => by
            have st : Step fb rb (wr.drewN m) vo vt w' vo vt := Step.one q2 (fun k e => .inr (.inl (by cases e; rfl)))
            refine ⟨(hS.out.draw m).2.1.trans st, .inr ⟨2, ?_, rfl⟩⟩
            unfold symE
            rw [symW_out hout]
            rfl
          clear hS hj hlt hmul hbd hpass hnx hout
          generalize hi s p k = x at *
          go_wp2_with fail
          refine hb.mono ?_
          rintro e w1 ⟨rfl, m, rfl⟩
          clear hb
          go_wp2_with fail
          refine (hf _ (HBK.out m)).mono ?_
          rintro e w2 ⟨rfl, rfl⟩
          clear hf HBK
          go_wp2_with fail
          refine (htk m).mono ?_
          rintro e w3 ⟨rfl, q1, q2⟩
          have HN := hid_of (HP.out m w3 q2)
          clear htk q1 q2 HP
          go_wp2_with fail
          go_ret2
          exact HN.out
    · rw [decide_eq_false hlt] at hb
      have hno := over_none (f := f) (n := n) (s := s) (p := p) (k := k) HOK.out hk hS.out.2.2.2.2.2 hS.out.2.2.2.2.1 (by rw [hd']; exact hlt)
      have HP : Hid (∀ m, SymPost B w fb rb s p O most Ty vo vt f n (.returned (.tuple #[.int .i64 0, errV 6])) (wr.drewN m)) := fun m => by
        refine ⟨(hS.out.draw m).2.1, .inr ⟨6, ?_, rfl⟩⟩
        unfold symE
        rw [symW_none hno]
        rfl
      clear hS hlt hmul hbd hno
      generalize hi s p k = x at *
      go_wp2_with fail
      refine hb.mono ?_
      rintro e w1 ⟨rfl, m, rfl⟩
      clear hb
      go_wp2_with fail
      go_ret2
      exact HP.out m
end
end Go.Proofs.YtedbmhelmenknaaDoor

namespace Go.Proofs.YtedbmhelmenknaaDoor
open Go.RowKit Go.Joins TokMath

theorem below_grown1 {base : Nat} {w w1 : World} {g n cap : Nat} {O : List Int} (h : BOwn w base g n cap O) {w0 : World} (h0 : Below base w0 w) (hg : w.grownBy w1 (some g)) : Below base w0 w1 := by
  have h1 := h.base_le
  have h2 := h.lt
  exact h0.grown hg (by omega) (fun k hk => by cases hk; exact h1)

theorem as_literal (v : Value) (w : World) : (Instr.typeAssert (.iface 145 v) 126 145 true).run Tryd.prog w = .ok (.tuple #[v, .bool true]) w := by
  simp [Instr.typeAssert, run_underlying Tryd.underlying145]
theorem no_literal (v : Value) (w : World) : (Instr.typeAssert (.iface 147 v) 126 145 true).run Tryd.prog w = .ok (.tuple #[.int .u8 0, .bool false]) w := by
  simp [Instr.typeAssert, run_underlying Tryd.underlying145]
theorem as_repeat (v : Value) (w : World) : (Instr.typeAssert (.iface 147 v) 126 147 true).run Tryd.prog w = .ok (.tuple #[v, .bool true]) w := by
  simp [Instr.typeAssert, run_underlying Tryd.underlying147]

set_option maxHeartbeats 1600000 in
theorem with_byte (base g n cap : Nat) (O : List Int) (x : Int) (w : World) (hO : BOwn w base g n cap O) (hn : n ≤ 1000000) :
    Calls Tryd.prog 79 #[.slice (some ⟨g, 0, none⟩) n cap, .iface 145 (.int .u8 x)] w fun e w' => ∃ g' cap', e = .returned (.tuple #[.slice (some ⟨g', 0, none⟩) (n + 1) cap', .bool true]) ∧ BOwn w' base g' (n + 1) cap' (O ++ [x]) ∧ Below base w w' := by
  have HO := hid_of hO
  have t1 := as_literal
  clear hO
  go_enter Tryd.func79, Tryd.ntmps79
  go_wp2_with (at_builtin; refine bytes_append (base := base) (O := O) rfl _ _ rfl rfl (HO.out.called (bstart _ _)) w.heap.size 1 x rfl (by simp) (by omega) ?_)
  intro g1 cap1 w5 y1 y2 y3
  have HN : Hid (BOwn w5 base g1 (n + 1) cap1 (O ++ [x]) ∧ Below base w w5) := by
    have q1 := HO.out.base_le
    have q2 := HO.out.lt
    exact ⟨y1, below_grown1 (HO.out.called (bstart w _)) ((Below.refl base w).alloc (by omega) _) y3⟩
  clear y1 y2 y3 HO
  go_wp2_with fail
  go_ret2
  exact ⟨g1, cap1, rfl, HN.out⟩

theorem with_far (g n cap : Nat) (y z : Int) (w : World) (hz : (n : Int) < z) :
    Calls Tryd.prog 79 #[.slice (some ⟨g, 0, none⟩) n cap, .iface 147 (.agg #[.int .i64 y, .int .i64 z])] w fun e w' => e = .returned (.tuple #[.slice none 0 0, .bool false]) ∧ Below w.heap.size w w' := by
  have t1 := no_literal
  have t2 := as_repeat
  have d : decide ((n : Int) < z) = true := decide_eq_true hz
  go_enter Tryd.func79, Tryd.ntmps79
  go_wp2_with fail
  go_ret2
  exact ⟨rfl, bstart _ _⟩

/-- What the ring has at hand: the text so far, and the piece's box. -/
def WpS (base : Nat) (w w' : World) (tb : Nat) (y z : Int) (g n cap : Nat) (O : List Int) : Prop := BOwn w' base g n cap O ∧ Below base w w' ∧ w'.heap[tb]? = some (.cells #[.int .i64 y, .int .i64 z] 147 (0, 0)) ∧ tb ≠ g
theorem wp_next {base : Nat} {w w' w1 : World} {tb : Nat} {y z q : Int} {g n cap g1 cap1 : Nat} {O : List Int} {o : Obj} (h : WpS base w w' tb y z g n cap O) (hO : BOwn w1 base g1 (n + 1) cap1 (O ++ [q])) (hg : g1 = g ∨ w'.heap.size + 1 ≤ g1) (hgr : (w'.alloc o).grownBy w1 (some g)) : WpS base w w1 tb y z g1 (n + 1) cap1 (O ++ [q]) := by
  obtain ⟨h1, h2, h3, h4⟩ := h
  have ht := block_lt h3
  have hb := h1.base_le
  have hl := h1.lt
  refine ⟨hO, below_grown1 (h1.called (bstart w' o)) (h2.alloc (by omega) o) hgr, ?_, ?_⟩
  · exact (hgr.block tb (by simp; omega) (fun e => h4 (Option.some.inj e))).trans (((bstart w' o).block tb ht).trans h3)
  · rcases hg with e | e
    · rw [e]; exact h4
    · omega

set_option maxHeartbeats 3200000 in
theorem with_repeat (base g n cap T d : Nat) (O : List Int) (w : World) (hO : BOwn w base g n cap O) (hn : n ≤ 1000000) (hT : T ≤ 258) (hd1 : 1 ≤ d) (hdn : d ≤ n) :
    Calls Tryd.prog 79 #[.slice (some ⟨g, 0, none⟩) n cap, .iface 147 (.agg #[.int .i64 (T : Int), .int .i64 (d : Int)])] w fun e w' => ∃ g' n' cap', e = .returned (.tuple #[.slice (some ⟨g', 0, none⟩) n' cap', .bool true]) ∧ BOwn w' base g' n' cap' (copyN d T O) ∧ Below base w w' := by
  have t1 := no_literal
  have t2 := as_repeat
  have d1 : decide ((n : Int) < (d : Int)) = false := decide_eq_false (by omega)
  have d2 : decide (n < d) = false := decide_eq_false (by omega)
  have H0 : Hid (WpS base w (w.alloc (.cells #[.int .i64 (T : Int), .int .i64 (d : Int)] 147)) w.heap.size (T : Int) (d : Int) g n cap (copyN d 0 O)) := by
    have q1 := hO.base_le
    have q2 := hO.lt
    exact ⟨hO.called (bstart _ _), (Below.refl base w).alloc (by omega) _, heap_alloc_new w _, by omega⟩
  clear hO
  go_enter Tryd.func79, Tryd.ntmps79
  go_wp2_with fail
  go_loopg [0, 26] (T + 1) (fun gk v y w' => ∃ (j g2 n2 cp2 : Nat), v = .slice (some ⟨g2, 0, none⟩) n2 cp2 ∧ j ≤ T ∧ y = .int .i64 j ∧ T - j ≤ gk ∧ n ≤ n2 ∧ n2 ≤ n + 258 ∧ Hid (n2 = n + j ∧ WpS base w w' w.heap.size (T : Int) (d : Int) g2 n2 cp2 (copyN d j O)))
  case atStart => exact ⟨0, g, n, cap, rfl, Nat.zero_le _, rfl, by omega, Nat.le_refl _, by omega, rfl, H0.out⟩
  case round =>
    clear H0
    obtain ⟨j, g2, n2, cp2, rfl, hj, rfl, hgk2, hn2, hn3, hS2⟩ := hrel
    have m1 := cell_of_block hS2.out.2.2.2.1 0
    have m2 := cell_of_block hS2.out.2.2.2.1 1
    have mt := block_lt hS2.out.2.2.2.1
    have mg := hS2.out.2.1.lt
    by_cases hjt : j < T
    · have dj : decide ((j : Int) < (T : Int)) = true := decide_eq_true (by omega)
      have k1 : ((n2 : Int) - (d : Int)).toNat = n2 - d := by omega
      have k2 : (0 : Int) ≤ (n2 : Int) - (d : Int) := by omega
      have k3 : (n2 : Int) - (d : Int) < (n2 : Int) := by omega
      have k4 : n2 - d < n2 := by omega
      have cq := hS2.out.2.1.cell (n2 - d) (by omega)
      obtain ⟨q, hq⟩ : ∃ q, q = (copyN d j O).getD (n2 - d) 0 := ⟨_, rfl⟩
      rw [← hq] at cq
      have HQ : Hid (copyN d (j + 1) O = copyN d j O ++ [q]) := by
        show copyN d (j + 1) O = copyN d j O ++ [q]
        rw [copy_snoc, ← hS2.out.2.1.1, hq]
      clear hq
      go_wp2_with (at_builtin; refine bytes_append (base := base) (O := copyN d j O) rfl _ _ rfl rfl (hS2.out.2.1.called (bstart _ _)) wr.heap.size 1 q rfl (by simp) (by omega) ?_)
      intro g1 cap1 w5 y1 y2 y3
      have HC5 : Hid (WpS base w w5 w.heap.size (T : Int) (d : Int) g1 (n2 + 1) cap1 (copyN d (j + 1) O)) := by
        rw [HQ.out]
        exact wp_next hS2.out.2 y1 (by simpa using y2) y3
      clear y1 y2 y3
      go_wp2_with fail
      go_roundg (T - (j + 1))
      case measure => omega
      case rel => exact ⟨j + 1, g1, n2 + 1, cap1, rfl, by omega, by go_num, Nat.le_refl _, by omega, by have := hS2.out.1; omega, by have := hS2.out.1; omega, HC5.out⟩
    · obtain rfl : j = T := by omega
      have dj : decide ((j : Int) < (j : Int)) = false := decide_eq_false (by omega)
      have HZ : Hid (BOwn wr base g2 n2 cp2 (copyN d j O) ∧ Below base w wr) := ⟨hS2.out.2.1, hS2.out.2.2.1⟩
      go_wp2_with fail
      go_ret2
      exact ⟨g2, n2, cp2, rfl, HZ.out⟩

end Go.Proofs.YtedbmhelmenknaaDoor
