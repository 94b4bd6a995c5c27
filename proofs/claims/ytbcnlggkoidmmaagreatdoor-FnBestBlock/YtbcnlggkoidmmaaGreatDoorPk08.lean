/-
  The walk of TakeBits in the document's model.
  The walks of the document's model of the symbol that comes next.
  The walk of the document's model of the symbol that comes next, by the way in which it comes or does not.
-/
import Derived.Test.YtbcnlggkoidmmaaGreatDoorRows
import Derived.Test.YtbcnlggkoidmmaaGreatDoorPk01
import Derived.Test.YtbcnlggkoidmmaaGreatDoorPk04
import Derived.Test.YtbcnlggkoidmmaaGreatDoorPk07
import Derived.Test.YtbcnlggkoidmmaaGreatDoorPk03
import Derived.Test.YtbcnlggkoidmmaaGreatDoorPk05
import Derived.Test.YtbcnlggkoidmmaaGreatDoorPk06
import Derived.WalkKit
import Derived.ProofKit
import Derived.WalkLawsBesides
import Derived.RegionTactic
import Derived.Deep.QuietTactic
import Derived.BigQuiet
import Derived.Lib.SmallJoins
import Derived.BigRegion
namespace Go.Proofs.YtbcnlggkoidmmaaGreatDoor
open Go.RowKit Go.Joins OutMath TakeMath

set_option maxHeartbeats 400000 in
theorem specTake_yes (s : ByteArray) (a n : Nat) (w : World) (h1 : s.size ≤ 12000) (h2 : n ≤ 24) (h3 : a + n ≤ 8 * s.size) :
    Calls Tryz.prog 123 #[.agg #[.string s, .int .i64 a], .int .i64 n] w fun e w' => e = .returned (.tuple #[.int .i64 (num s a n), .agg #[.string s, .int .i64 (a + n)], .bool true]) ∧ Below w.heap.size w w' := by
  have d1 : decide ((12000 : Int) < s.size) = false := by simp; omega
  have d2 : decide ((a : Int) < 0) = false := by simp
  have d3 : decide (8 * (s.size : Int) - (n : Int) < (a : Int)) = false := by simp; omega
  go_enter Tryz.func123, Tryz.ntmps123
  go_wp2_with fail
  refine (in_yes _ _ _ _ (by omega) (by omega)).mono ?_
  rintro e w1 ⟨rfl, rfl⟩
  go_wp2_with fail
  have hB0 : Below w.heap.size w ((w.alloc (.cells #[.string s, .int .i64 a] 87)).alloc (.cells #[.string ⟨#[]⟩, .int .i64 0] 87)) := bal (bstart _ _) _
  go_loopw [7, 8] (fun x k w' => ∃ j : Nat, j ≤ n ∧ k = .int .i64 j ∧ x = .int .i64 (num s a j) ∧ Below ((w.alloc (.cells #[.string s, .int .i64 a] 87)).alloc (.cells #[.string ⟨#[]⟩, .int .i64 0] 87)).heap.size ((w.alloc (.cells #[.string s, .int .i64 a] 87)).alloc (.cells #[.string ⟨#[]⟩, .int .i64 0] 87)) w') (fun _ k _ => n - (intOf k).toNat)
  case atStart => exact ⟨0, Nat.zero_le _, rfl, rfl, Below.refl _ _⟩
  case round =>
    obtain ⟨j, hj, rfl, rfl, hB⟩ := hrel
    obtain ⟨k1, f1⟩ := bcell hB
    have hz : w.heap.size + 1 < wr.heap.size := by have := hB.size; simp at this; omega
    have hb := num_bd s a j
    have hp := p2_pos j
    have hp4 := p2_24 (n := j) (by omega)
    by_cases hlt : j < n
    · have hix := index_byteI s (((a : Int) + (j : Int)) / 8) ((a + j) / 8) (by omega) (by omega)
      have hy := byteAt_lt s ((a + j) / 8)
      have q1 : ((a : Int) + (j : Int)).tdiv 8 = ((a : Int) + (j : Int)) / 8 := Int.tdiv_eq_ediv_of_nonneg (by omega)
      have q2 : ((a : Int) + (j : Int)).tmod 8 = ((a : Int) + (j : Int)) % 8 := Int.tmod_eq_emod_of_nonneg (by omega)
      have q3 : IntKind.i64.wrap (((a : Int) + (j : Int)) / 8) = ((a : Int) + (j : Int)) / 8 := by rw [IntKind.wrap_i64]; omega
      have hq := p2_pos (((a : Int) + (j : Int)) % 8).toNat
      have hw := bit_walk s (a + j)
      have hm := mul01 _ _ (bit_01 s (a + j)).1 (bit_01 s (a + j)).2 hp
      have HN : Hid (num s a (j + 1) = num s a j + bit s (a + j) * p2 j) := rfl
      go_wp2_with fail
      go_quiet ((go_at_call 93; exact Calls.quiet_of_same (pow_int _ _ (by omega) (by omega))))
      go_wp2_with fail
      refine (pow_any j _ (by omega)).mono ?_
      rintro e w1 ⟨rfl, rfl⟩
      go_wp2_with fail
      go_roundw
      case rel => exact ⟨j + 1, by omega, by go_num, by rw [HN.out], bdraws hB _⟩
      case measure => simp [intOf]; omega
    · obtain rfl : j = n := by omega
      have hw8 : IntKind.i64.wrap ((a : Int) + (j : Int)) = (a : Int) + (j : Int) := by rw [IntKind.wrap_i64]; omega
      have hBB : Below w.heap.size w wr := bnext hB0 hB
      go_wp2_with fail
      go_region
      all_goals
        go_wp2
        refine bodyPost_ret (v := .tuple #[.int .i64 (num s a j), .agg #[.string s, .int .i64 (a + j)], .bool true]) (by simp [results, Tryz.results123, go_sem, k1]) rfl ⟨rfl, ?_⟩
        refine Below.drew (Below.setCell (Below.setCell hBB ?_ _) ?_ _)
        · simp
        · simp

set_option maxHeartbeats 400000 in
theorem specTake_no (s : ByteArray) (a n : Int) (w : World) (hs : s.size ≤ maxLen) (h : ¬ (0 ≤ n ∧ n ≤ 24 ∧ s.size ≤ 12000 ∧ 0 ≤ a ∧ a + n ≤ 8 * s.size)) :
    Calls Tryz.prog 123 #[.agg #[.string s, .int .i64 a], .int .i64 n] w fun e w' => e = .returned (.tuple #[.int .i64 0, .agg #[.string ⟨#[]⟩, .int .i64 0], .bool false]) ∧ Below w.heap.size w w' := by
  unfold maxLen at hs
  by_cases h0 : 0 ≤ n ∧ n ≤ 24
  · obtain ⟨h1, h2⟩ := h0
    by_cases h3 : (12000 : Int) < s.size
    · clear h
      go_enter Tryz.func123, Tryz.ntmps123
      go_wp2_with fail
      refine (in_yes _ _ _ _ (by omega) (by omega)).mono ?_
      rintro e w1 ⟨rfl, rfl⟩
      go_wp2_with fail
      refine bodyPost_ret (v := .tuple #[.int .i64 0, .agg #[.string ⟨#[]⟩, .int .i64 0], .bool false]) (by simp [results, Tryz.results123, go_sem]) rfl ⟨rfl, bal (bstart _ _) _⟩
    · have d1 : decide ((12000 : Int) < s.size) = false := by simpa using h3
      by_cases h4 : a < 0
      · clear h
        go_enter Tryz.func123, Tryz.ntmps123
        go_wp2_with fail
        refine (in_yes _ _ _ _ (by omega) (by omega)).mono ?_
        rintro e w1 ⟨rfl, rfl⟩
        go_wp2_with fail
        refine bodyPost_ret (v := .tuple #[.int .i64 0, .agg #[.string ⟨#[]⟩, .int .i64 0], .bool false]) (by simp [results, Tryz.results123, go_sem]) rfl ⟨rfl, bal (bstart _ _) _⟩
      · have d2 : decide (a < 0) = false := by simpa using h4
        have d3 : 8 * (s.size : Int) - n < a := by omega
        clear h
        go_enter Tryz.func123, Tryz.ntmps123
        go_wp2_with fail
        refine (in_yes _ _ _ _ (by omega) (by omega)).mono ?_
        rintro e w1 ⟨rfl, rfl⟩
        go_wp2_with fail
        refine bodyPost_ret (v := .tuple #[.int .i64 0, .agg #[.string ⟨#[]⟩, .int .i64 0], .bool false]) (by simp [results, Tryz.results123, go_sem]) rfl ⟨rfl, bal (bstart _ _) _⟩
  · have H : Hid (¬ (0 ≤ n ∧ n ≤ 24)) := h0
    clear h h0
    go_enter Tryz.func123, Tryz.ntmps123
    go_wp2_with fail
    refine (in_no _ _ _ _ H.out).mono ?_
    rintro e w1 ⟨rfl, rfl⟩
    go_wp2_with fail
    refine bodyPost_ret (v := .tuple #[.int .i64 0, .agg #[.string ⟨#[]⟩, .int .i64 0], .bool false]) (by simp [results, Tryz.results123, go_sem]) rfl ⟨rfl, bal (bstart _ _) _⟩
end Go.Proofs.YtbcnlggkoidmmaaGreatDoor

namespace Go.Proofs.YtbcnlggkoidmmaaGreatDoor
open Go.RowKit Go.Joins OutMath CodeMath TakeMath HitMath

/-- What l03Take has at hand: the Bits in one block, its answer in another. -/
def TakeSt (w w' : World) (s : ByteArray) (x : Int) : Prop :=
  w'.heap[w.heap.size]? = some (.cells #[.string s, .int .i64 x] 87 (0, 0)) ∧ w'.heap[w.heap.size + 1]? = some (.cells #[.int .i64 0, .string ⟨#[]⟩, .int .i64 0, .int .i64 0] 254 (0, 0)) ∧ Below w.heap.size w w'
section
variable {w w' w'' : World} {s : ByteArray} {x : Int}
theorem TakeSt.lt (h : TakeSt w w' s x) : w.heap.size + 1 < w'.heap.size := by
  rcases Nat.lt_or_ge (w.heap.size + 1) w'.heap.size with k | k
  · exact k
  · have h2 := h.2.1; rw [Array.getElem?_eq_none k] at h2; cases h2
theorem TakeSt.called (h : TakeSt w w' s x) (hb : Below w'.heap.size w' w'') : TakeSt w w'' s x := by
  have hl := h.lt
  exact ⟨(hb.block _ (by omega)).trans h.1, (hb.block _ hl).trans h.2.1, bnext h.2.2 hb⟩
theorem TakeSt.drew (h : TakeSt w w' s x) : TakeSt w w'.drew s x := ⟨h.1, h.2.1, h.2.2.drew⟩
theorem TakeSt.drewN (h : TakeSt w w' s x) (n : Nat) : TakeSt w (w'.drewN n) s x := ⟨h.1, h.2.1, bdraws h.2.2 n⟩
theorem TakeSt.told (h : TakeSt w w' s x) (v0 v1 v2 v3 : Value) : Below w.heap.size w ((((w'.setCell ⟨w.heap.size + 1, 0, none⟩ v0).setCell ⟨w.heap.size + 1, 1, none⟩ v1).setCell ⟨w.heap.size + 1, 2, none⟩ v2).setCell ⟨w.heap.size + 1, 3, none⟩ v3) :=
  Below.setCell (p := ⟨w.heap.size + 1, 3, none⟩) (Below.setCell (p := ⟨w.heap.size + 1, 2, none⟩) (Below.setCell (p := ⟨w.heap.size + 1, 1, none⟩) (Below.setCell (p := ⟨w.heap.size + 1, 0, none⟩) h.2.2 (Nat.le_succ _) _) (Nat.le_succ _) _) (Nat.le_succ _) _) (Nat.le_succ _) _
theorem TakeSt.alloc (h : TakeSt w w' s x) (o : Obj) : TakeSt w (w'.alloc o) s x := by
  have hl := h.lt
  exact ⟨(Below.heap_alloc w' o _ (by omega)).trans h.1, (Below.heap_alloc w' o _ hl).trans h.2.1, h.2.2.alloc (by omega) o⟩
theorem TakeSt.box (h : TakeSt w w' s x) (y : Int) : TakeSt w ((w'.setCell ⟨w.heap.size, 0, none⟩ (.string s)).setCell ⟨w.heap.size, 1, none⟩ (.int .i64 y)) s y := by
  have h0 := block_setCell (i := 0) h.1 (.string s)
  have h1 := block_setCell (i := 1) h0 (.int .i64 y)
  refine ⟨by simpa using h1, ?_, Below.setCell (p := ⟨w.heap.size, 1, none⟩) (Below.setCell (p := ⟨w.heap.size, 0, none⟩) h.2.2 (Nat.le_refl _) _) (Nat.le_refl _) _⟩
  rw [Below.heap_setCell _ _ _ _ (by simp), Below.heap_setCell _ _ _ _ (by simp)]
  exact h.2.1
theorem TakeSt.toldc (h : TakeSt w w' s x) (v0 v1 v2 v3 : Value) : ((((w'.setCell ⟨w.heap.size + 1, 0, none⟩ v0).setCell ⟨w.heap.size + 1, 1, none⟩ v1).setCell ⟨w.heap.size + 1, 2, none⟩ v2).setCell ⟨w.heap.size + 1, 3, none⟩ v3).heap[w.heap.size + 1]? = some (.cells #[v0, v1, v2, v3] 254 (0, 0)) := by
  have h0 := block_setCell (i := 0) h.2.1 v0
  have h1 := block_setCell (i := 1) h0 v1
  have h2 := block_setCell (i := 2) h1 v2
  have h3 := block_setCell (i := 3) h2 v3
  simpa using h3
theorem TakeSt.c0 (h : TakeSt w w' s x) : w'.cell? ⟨w.heap.size, 0, none⟩ = some (.string s) := cell_of_block h.1 0
theorem TakeSt.c1 (h : TakeSt w w' s x) : w'.cell? ⟨w.heap.size, 1, none⟩ = some (.int .i64 x) := cell_of_block h.1 1
theorem TakeSt.f (h : TakeSt w w' s x) (i : Nat) : w'.frozen? ⟨w.heap.size, i, none⟩ = false := unfrozen_of_block h.1 i
theorem TakeSt.r (h : TakeSt w w' s x) : w'.cell? ⟨w.heap.size + 1, 0, none⟩ = some (.int .i64 0) ∧ w'.cell? ⟨w.heap.size + 1, 1, none⟩ = some (.string ⟨#[]⟩) ∧ w'.cell? ⟨w.heap.size + 1, 2, none⟩ = some (.int .i64 0) ∧ w'.cell? ⟨w.heap.size + 1, 3, none⟩ = some (.int .i64 0) := ⟨cell_of_block h.2.1 0, cell_of_block h.2.1 1, cell_of_block h.2.1 2, cell_of_block h.2.1 3⟩
theorem TakeSt.rf (h : TakeSt w w' s x) (i : Nat) : w'.frozen? ⟨w.heap.size + 1, i, none⟩ = false := unfrozen_of_block h.2.1 i
end

/-- l03Take hands back what lies in its second block. -/
theorem way_ret {w W : World} {v0 v1 v2 v3 : Value} {post : Ending → World → Prop} {ac : Act} (hc : W.heap[w.heap.size + 1]? = some (.cells #[v0, v1, v2, v3] 254 (0, 0))) (h6 : ac.tmps[6]?.getD undef = .pointer (some ⟨w.heap.size + 1, 0, none⟩)) (hd : ac.defers = []) (h : post (.returned (.agg #[v0, v1, v2, v3])) W) : bodyPost Tryz.prog Tryz.f159 post Exit.ret ac W := by
  have c0 : W.cell? ⟨w.heap.size + 1, 0, none⟩ = some v0 := cell_of_block hc 0
  have c1 : W.cell? ⟨w.heap.size + 1, 1, none⟩ = some v1 := cell_of_block hc 1
  have c2 : W.cell? ⟨w.heap.size + 1, 2, none⟩ = some v2 := cell_of_block hc 2
  have c3 : W.cell? ⟨w.heap.size + 1, 3, none⟩ = some v3 := cell_of_block hc 3
  refine bodyPost_ret (v := .agg #[v0, v1, v2, v3]) (by simp [results, Tryz.results159, go_sem, h6, c0, c1, c2, c3]) hd h

end Go.Proofs.YtbcnlggkoidmmaaGreatDoor

namespace Go.Proofs.YtbcnlggkoidmmaaGreatDoor
open Go.RowKit Go.Joins OutMath CodeMath TakeMath HitMath WayMath

/-- What l03Take answers, as a value. -/
noncomputable def wayV (f : Nat → Int) (n : Nat) (s : ByteArray) (a : Nat) : Value :=
  if (symW f n s a).2.2 = 0 then .agg #[.int .i64 ((symW f n s a).1 : Nat), .string s, .int .i64 ((a : Int) + ((symW f n s a).2.1 : Nat)), .int .i64 0] else .agg #[.int .i64 0, .string ⟨#[]⟩, .int .i64 0, .int .i64 ((symW f n s a).2.2 : Nat)]
def WayPost (f : Nat → Int) (n : Nat) (s : ByteArray) (a : Nat) (w : World) (e : Ending) (w' : World) : Prop := Below w.heap.size w w' ∧ e = .returned (wayV f n s a)
theorem WayPost.hit {f : Nat → Int} {n : Nat} {s : ByteArray} {a : Nat} {w w' : World} {i k : Nat} (h : Hit f n s a i k) (hb : Below w.heap.size w w') : WayPost f n s a w (.returned (.agg #[.int .i64 (i : Nat), .string s, .int .i64 ((a : Int) + (k : Nat)), .int .i64 0])) w' := ⟨hb, by
  unfold wayV
  rw [symW_hit h]
  rfl⟩
theorem WayPost.none {f : Nat → Int} {n : Nat} {s : ByteArray} {a : Nat} {w w' : World} (h : NoneBegins f n s a) (hb : Below w.heap.size w w') : WayPost f n s a w (.returned (.agg #[.int .i64 0, .string ⟨#[]⟩, .int .i64 0, .int .i64 1])) w' := ⟨hb, by
  unfold wayV
  rw [symW_none h]
  rfl⟩
theorem WayPost.out {f : Nat → Int} {n : Nat} {s : ByteArray} {a : Nat} {w w' : World} (h : RunsOut f n s a) (hb : Below w.heap.size w w') : WayPost f n s a w (.returned (.agg #[.int .i64 0, .string ⟨#[]⟩, .int .i64 0, .int .i64 2])) w' := ⟨hb, by
  unfold wayV
  rw [symW_out h]
  rfl⟩
/-- The code of symbol i begins with the next k bits. -/
def Beg (f : Nat → Int) (n : Nat) (s : ByteArray) (a i k : Nat) : Prop := f i ≠ 0 ∧ (k : Int) ≤ f i ∧ codeOf f n i / p2 (f i - k).toNat = hi s a k
theorem hit_beg {f : Nat → Int} {n : Nat} {s : ByteArray} {a i k l : Nat} (h : Hit f n s a i l) (hk : k ≤ l) : Beg f n s a i k := by
  obtain ⟨h1, h2, h3, h4, _⟩ := h
  refine ⟨by omega, by omega, ?_⟩
  obtain ⟨d, rfl⟩ := Nat.exists_eq_add_of_le hk
  have e : (f i - (k : Int)).toNat = d := by omega
  rw [e, h4]
  exact hi_div s a k d

/-- What is known of the first j symbols, at k bits. -/
def BegSt (f : Nat → Int) (n : Nat) (s : ByteArray) (a j k : Nat) (bb : Bool) : Prop := (bb = false → ∀ i, i < j → ¬ Beg f n s a i k) ∧ (bb = true → Begins f n s a k)
def WayIn (w : World) (f : Nat → Int) (n : Nat) (s : ByteArray) (a : Nat) (k : Nat) (b z : Value) (w' : World) : Prop :=
  ∃ (j : Nat) (bb : Bool), j ≤ n ∧ z = .int .i64 j ∧ b = .bool bb ∧ Hid (∀ i, i < j → ¬ Hit f n s a i k) ∧ Hid (BegSt f n s a j k bb) ∧ Hid (TakeSt w w' s ((a : Int) + k))

set_option maxHeartbeats 1600000 in
theorem l03Take_way (a1 a2 : Option Addr) (n c1 c2 : Nat) (f : Nat → Int) (s : ByteArray) (a : Nat) (w : World) (h1 : Came w a1 n f) (h2 : Came w a2 n (codeOf f n)) (hG : Coded f n) (hs : s.size ≤ 12000) (ha : a ≤ 8 * s.size) :
    Calls Tryz.prog 159 #[.slice a1 n c1, .slice a2 n c2, .agg #[.string s, .int .i64 (a : Int)]] w (WayPost f n s a w) := by
  have HF : Hid (Came w a1 n f) := h1
  have HC : Hid (Came w a2 n (codeOf f n)) := h2
  have HG : Hid (Coded f n) := hG
  have hn := hG.1
  have HS : Hid (s.size ≤ maxLen) := by
    show s.size ≤ maxLen
    unfold maxLen
    omega
  clear h1 h2 hG
  go_enter Tryz.func159, Tryz.ntmps159
  go_wp2_with fail
  have H0 : Hid (TakeSt w ((w.alloc (.cells #[.string s, .int .i64 (a : Int)] 87)).alloc (.cells #[.int .i64 0, .string ⟨#[]⟩, .int .i64 0, .int .i64 0] 254)) s (a : Int)) := by
    refine ⟨?_, ?_, bal (bstart _ _) _⟩
    · show ((w.heap.push _).push _)[w.heap.size]? = _
      rw [Array.getElem?_push, if_neg (by simp), Array.getElem?_push, if_pos rfl]
    · show ((w.heap.push _).push _)[w.heap.size + 1]? = _
      rw [Array.getElem?_push, if_pos (by simp)]
  go_loopw [7, 8] (fun x z w' => ∃ k : Nat, k ≤ 16 ∧ z = .int .i64 k ∧ x = .int .i64 (hi s a k) ∧ Hid (a + k ≤ 8 * s.size) ∧ Hid ((∀ i l, l < k → ¬ Hit f n s a i l) ∧ ∀ j, j < k → Begins f n s a j) ∧ Hid (TakeSt w w' s ((a : Int) + k))) (fun _ z _ => 16 - (intOf z).toNat)
  case atStart => exact ⟨0, by omega, rfl, rfl, ha, ⟨fun i l h => absurd h (Nat.not_lt_zero l), fun j h => absurd h (Nat.not_lt_zero j)⟩, by simpa using H0⟩
  case round =>
    obtain ⟨k, hk, rfl, rfl, hav, hno, hT⟩ := hrel
    have hx := hi_bd s a k
    have hx2 : hi s a k < 131072 := by
      have h1 := p2_le hk
      have h2 : p2 16 = 65536 := by decide +kernel
      omega
    by_cases hlt : k ≤ 15
    · have dk : decide ((k : Int) ≤ 15) = true := by simp; omega
      go_wp2_with fail
      go_loopw [9, 10] (fun b z w' => WayIn w f n s a k b z w') (fun _ z _ => n - (intOf z).toNat)
      case atStart => exact ⟨0, false, by omega, rfl, rfl, fun i h => absurd h (Nat.not_lt_zero i), ⟨fun _ i h => absurd h (Nat.not_lt_zero i), fun h => (by cases h)⟩, hT⟩
      case round =>
        obtain ⟨j, bb, hj, rfl, rfl, hA, hB, hTj⟩ := hrel
        by_cases hlt2 : j < n
        · rcases HF.out with h0 | ⟨g, off, rfl, hg, hc⟩
          · omega
          rcases HC.out with h0 | ⟨g', off', rfl, hg', hc'⟩
          · omega
          have k0 : wr.cell? ⟨g, off + j, none⟩ = some (.int .i64 (f j)) := (hTj.out.2.2.cell (p := ⟨g, off + j, none⟩) hg).trans (hc j hlt2)
          have k1 : wr.cell? ⟨g', off' + j, none⟩ = some (.int .i64 (codeOf f n j)) := (hTj.out.2.2.cell (p := ⟨g', off' + j, none⟩) hg').trans (hc' j hlt2)
          have hsz := hTj.out.lt
          have l0 : g < wr.heap.size := by omega
          have l1 : g' < wr.heap.size := by omega
          have hfj := HG.out.2.1 j hlt2
          have hcj := code_lt HG.out hlt2
          have hcj2 : codeOf f n j < 32768 := by
            have h1 := p2_le (show (f j).toNat ≤ 15 by omega)
            have h2 : p2 15 = 32768 := by decide +kernel
            omega
          clear hc hc'
          by_cases q : f j ≠ 0 ∧ (k : Int) ≤ f j ∧ codeOf f n j / p2 (f j - k).toNat = hi s a k
          · obtain ⟨q1, q2, q3⟩ := q
            have d1 : (f j == 0) = false := by simpa using q1
            have d2 : decide (f j < (k : Int)) = false := by simp; omega
            have d3 : (codeOf f n j / p2 (f j - k).toNat != hi s a k) = false := by simpa using q3
            have HP : Hid (∀ w, Calls Tryz.prog 93 #[.int .i64 (f j - (k : Int))] w fun e w' => e = .returned (.int .i64 (p2 (f j - k).toNat)) ∧ w' = w) := fun w => pow_int _ w (by omega) (by omega)
            have hQ := p2_pos (f j - k).toNat
            have hQ2 : p2 (f j - k).toNat ≤ 32768 := by
              have h1 := p2_le (show (f j - k).toNat ≤ 15 by omega)
              have h2 : p2 15 = 32768 := by decide +kernel
              omega
            have e1 : IntKind.i64.wrap (f j - (k : Int)) = f j - k := by rw [IntKind.wrap_i64]; omega
            generalize hQe : p2 (f j - k).toNat = Q at HP hQ hQ2 q3 d3
            have HQe : Hid (p2 (f j - k).toNat = Q) := hQe
            have e2 : (codeOf f n j).tdiv Q = codeOf f n j / Q := Int.tdiv_eq_ediv_of_nonneg hcj.1
            have hqd : 0 ≤ codeOf f n j / Q ∧ codeOf f n j / Q ≤ codeOf f n j := ⟨Int.ediv_nonneg hcj.1 (by omega), Int.ediv_le_self _ hcj.1⟩
            have e3 : IntKind.i64.wrap (codeOf f n j / Q) = codeOf f n j / Q := by rw [IntKind.wrap_i64]; omega
            have dQ : (Q == 0) = false := by simp; omega
            clear q1 hQe
            by_cases q4 : f j = (k : Int)
            · have d4 : (f j == (k : Int)) = true := by simpa using q4
              have HN : Hid (Hit f n s a j k) := by
                have e : (f j - (k : Int)).toNat = 0 := by omega
                have hq := HQe.out
                rw [e, p2_zero] at hq
                rw [← hq, Int.ediv_one] at q3
                have q0 : 1 ≤ k := by
                  by_cases z : k = 0
                  · subst z
                    simp at d1
                    omega
                  · omega
                have hv := hav.out
                exact ⟨hlt2, q0, q4, q3, by omega⟩
              clear q4 q3
              have b0 := hTj.out.c0
              have b1 := hTj.out.c1
              have rr := hTj.out.r
              have rf := hTj.out.rf
              go_wp2_with fail
              go_quiet ((go_at_call 93; exact Calls.quiet_of_same (HP.out _)))
              go_wp2_with fail
              have hc := (hTj.out.drewN nq).toldc (.int .i64 (j : Nat)) (.string s) (.int .i64 ((a : Int) + (k : Nat))) (.int .i64 0)
              have hb := (hTj.out.drewN nq).told (.int .i64 (j : Nat)) (.string s) (.int .i64 ((a : Int) + (k : Nat))) (.int .i64 0)
              generalize ((((wr.drewN nq).setCell ⟨w.heap.size + 1, 0, none⟩ (.int .i64 (j : Nat))).setCell ⟨w.heap.size + 1, 1, none⟩ (.string s)).setCell ⟨w.heap.size + 1, 2, none⟩ (.int .i64 ((a : Int) + (k : Nat)))).setCell ⟨w.heap.size + 1, 3, none⟩ (.int .i64 0) = W at hc hb ⊢
              exact way_ret hc rfl rfl (WayPost.hit HN.out hb)
            · have d4 : (f j == (k : Int)) = false := by simpa using q4
              have HN : Hid (∀ i, i < j + 1 → ¬ Hit f n s a i k) := fun i hi h => by
                by_cases e : i = j
                · subst e
                  exact q4 h.2.2.1
                · exact hA.out i (by omega) h
              have HBG : Hid (BegSt f n s a (j + 1) k true) := by
                refine ⟨fun h => (by cases h), fun _ => ⟨j, hlt2, by simpa using d1, q2, ?_⟩⟩
                rw [HQe.out]
                exact q3
              clear q4 q3
              go_wp2_with fail
              go_quiet ((go_at_call 93; exact Calls.quiet_of_same (HP.out _)))
              go_wp2_with fail
              go_roundw
              case rel => exact ⟨j + 1, true, by omega, by go_num, rfl, HN, HBG, hTj.out.drewN nq⟩
              case measure => simp [intOf]; omega
          · have HA1 : Hid (∀ i, i < j + 1 → ¬ Hit f n s a i k) := fun i hi h => by
              by_cases e : i = j
              · subst e
                exact q (hit_beg h (Nat.le_refl k))
              · exact hA.out i (by omega) h
            have HB1 : Hid (BegSt f n s a (j + 1) k bb) := by
              refine ⟨fun hb i hi h => ?_, hB.out.2⟩
              by_cases e : i = j
              · subst e
                exact q h
              · exact hB.out.1 hb i (by omega) h
            by_cases q1 : f j = 0
            · have d1 : (f j == 0) = true := by simpa using q1
              clear q q1
              go_wp2_with fail
              go_quiet (fail)
              go_wp2_with fail
              go_roundw
              case rel => exact ⟨j + 1, bb, by omega, by go_num, rfl, HA1, HB1, hTj.out.drewN nq⟩
              case measure => simp [intOf]; omega
            · have d1 : (f j == 0) = false := by simpa using q1
              by_cases q2 : f j < (k : Int)
              · have d2 : decide (f j < (k : Int)) = true := by simpa using q2
                clear q q1
                go_wp2_with fail
                go_quiet (fail)
                go_wp2_with fail
                go_roundw
                case rel => exact ⟨j + 1, bb, by omega, by go_num, rfl, HA1, HB1, hTj.out.drewN nq⟩
                case measure => simp [intOf]; omega
              · have d2 : decide (f j < (k : Int)) = false := by simpa using q2
                have q3 : ¬ codeOf f n j / p2 (f j - k).toNat = hi s a k := fun e => q ⟨q1, by omega, e⟩
                have HP : Hid (∀ w, Calls Tryz.prog 93 #[.int .i64 (f j - (k : Int))] w fun e w' => e = .returned (.int .i64 (p2 (f j - k).toNat)) ∧ w' = w) := fun w => pow_int _ w (by omega) (by omega)
                have hQ := p2_pos (f j - k).toNat
                have hQ2 : p2 (f j - k).toNat ≤ 32768 := by
                  have h1 := p2_le (show (f j - k).toNat ≤ 15 by omega)
                  have h2 : p2 15 = 32768 := by decide +kernel
                  omega
                have e1 : IntKind.i64.wrap (f j - (k : Int)) = f j - k := by rw [IntKind.wrap_i64]; omega
                generalize p2 (f j - k).toNat = Q at HP hQ hQ2 q3
                have d3 : (codeOf f n j / Q != hi s a k) = true := by simpa using q3
                have e2 : (codeOf f n j).tdiv Q = codeOf f n j / Q := Int.tdiv_eq_ediv_of_nonneg hcj.1
                have hqd : 0 ≤ codeOf f n j / Q ∧ codeOf f n j / Q ≤ codeOf f n j := ⟨Int.ediv_nonneg hcj.1 (by omega), Int.ediv_le_self _ hcj.1⟩
                have e3 : IntKind.i64.wrap (codeOf f n j / Q) = codeOf f n j / Q := by rw [IntKind.wrap_i64]; omega
                have dQ : (Q == 0) = false := by simp; omega
                clear q q1 q3
                go_wp2_with fail
                go_quiet ((go_at_call 93; exact Calls.quiet_of_same (HP.out _)))
                go_wp2_with fail
                go_roundw
                case rel => exact ⟨j + 1, bb, by omega, by go_num, rfl, HA1, HB1, hTj.out.drewN nq⟩
                case measure => simp [intOf]; omega
        · obtain rfl : j = n := by omega
          have b0 := hTj.out.c0
          have b1 := hTj.out.c1
          have bf := hTj.out.f
          have rr := hTj.out.r
          have rf := hTj.out.rf
          have hsz := hTj.out.lt
          cases bb with
          | false =>
            have HM : Hid (NoneBegins f j s a) := by
              refine ⟨fun i l h => ?_, k, hav.out, fun h => ?_⟩
              · have hi := h.1
                rcases Nat.lt_or_ge l k with q | q
                · exact hno.out.1 i l q h
                · exact hB.out.1 rfl i hi (hit_beg h q)
              · obtain ⟨i, h1, h2⟩ := h
                exact hB.out.1 rfl i h1 h2
            go_wp2_with fail
            have hc := hTj.out.toldc (.int .i64 0) (.string ⟨#[]⟩) (.int .i64 0) (.int .i64 1)
            have hb := hTj.out.told (.int .i64 0) (.string ⟨#[]⟩) (.int .i64 0) (.int .i64 1)
            generalize (((wr.setCell ⟨w.heap.size + 1, 0, none⟩ (.int .i64 0)).setCell ⟨w.heap.size + 1, 1, none⟩ (.string ⟨#[]⟩)).setCell ⟨w.heap.size + 1, 2, none⟩ (.int .i64 0)).setCell ⟨w.heap.size + 1, 3, none⟩ (.int .i64 1) = W at hc hb ⊢
            refine way_ret (w := w) hc ?_ ?_ (WayPost.none HM.out hb) <;> rfl
          | true =>
            go_wp2_with fail
            by_cases hv : a + k + 1 ≤ 8 * s.size
            · have HT : Hid (∀ w, Calls Tryz.prog 123 #[.agg #[.string s, .int .i64 ((a : Int) + k)], .int .i64 1] w fun e w' => e = .returned (.tuple #[.int .i64 (bit s (a + k)), .agg #[.string s, .int .i64 ((a : Int) + k + 1)], .bool true]) ∧ Below w.heap.size w w') := fun w => by
                have h := specTake_yes s (a + k) 1 w hs (by omega) (by omega)
                have e1 : ((a + k : Nat) : Int) = (a : Int) + k := by omega
                have e2 : num s (a + k) 1 = bit s (a + k) := by
                  show 0 + bit s (a + k + 0) * p2 0 = _
                  rw [p2_zero]; simp
                rw [e2, e1] at h
                exact h
              have HV : Hid (a + (k + 1) ≤ 8 * s.size) := by
                show a + (k + 1) ≤ 8 * s.size
                omega
              have HX : Hid (hi s a (k + 1) = 2 * hi s a k + bit s (a + k)) := rfl
              have HN : Hid ((∀ i l, l < k + 1 → ¬ Hit f j s a i l) ∧ ∀ q, q < k + 1 → Begins f j s a q) := by
                refine ⟨fun i l hl h => ?_, fun q hq => ?_⟩
                · rcases Nat.lt_or_ge l k with q | q
                  · exact hno.out.1 i l q h
                  · obtain rfl : l = k := by omega
                    exact hA.out i h.1 h
                · rcases Nat.lt_or_ge q k with q' | q'
                  · exact hno.out.2 q q'
                  · obtain rfl : q = k := by omega
                    exact hB.out.2 rfl
              have hbit := bit_01 s (a + k)
              have hv2 : (a : Int) + k + 1 ≤ 8 * s.size := by omega
              clear hv
              refine (HT.out _).mono ?_
              rintro e w2 ⟨rfl, hb2⟩
              have hT2 := hTj.out.called hb2
              have HT3 : Hid (TakeSt w (w2.alloc (.cells #[.string s, .int .i64 ((a : Int) + k + 1)] 87)) s ((a : Int) + k)) := hT2.alloc _
              have g0 := HT3.out.c0
              have g1 := HT3.out.c1
              have gf := HT3.out.f
              have hsz2 := HT3.out.lt
              have HT4 : Hid (TakeSt w (((w2.alloc (.cells #[.string s, .int .i64 ((a : Int) + k + 1)] 87)).setCell ⟨w.heap.size, 0, none⟩ (.string s)).setCell ⟨w.heap.size, 1, none⟩ (.int .i64 ((a : Int) + k + 1))) s ((a : Int) + ((k + 1 : Nat) : Int))) := by
                have h := HT3.out.box ((a : Int) + k + 1)
                rw [show (a : Int) + ((k + 1 : Nat) : Int) = (a : Int) + k + 1 by omega]
                exact h
              have hl2 := hT2.lt
              clear hb2 hT2 b0 b1 bf rr rf
              go_wp2_with fail
              go_roundw
              case rel => exact ⟨k + 1, by omega, by go_num, by rw [HX.out], HV, HN, HT4⟩
              case measure => simp [intOf]; omega
            · have HM : Hid (RunsOut f j s a) := by
                have hv' := hav.out
                refine ⟨fun i l h => ?_, k, by omega, fun q hq => ?_⟩
                · have hi := h.1
                  rcases Nat.lt_trichotomy l k with q | q | q
                  · exact hno.out.1 i l q h
                  · subst q
                    exact hA.out i hi h
                  · have := h.2.2.2.2
                    omega
                · rcases Nat.lt_or_ge q k with q' | q'
                  · exact hno.out.2 q q'
                  · obtain rfl : q = k := by omega
                    exact hB.out.2 rfl
              have HV : Hid (¬ (0 ≤ (1 : Int) ∧ (1 : Int) ≤ 24 ∧ s.size ≤ 12000 ∧ 0 ≤ (a : Int) + (k : Int) ∧ (a : Int) + (k : Int) + 1 ≤ 8 * s.size)) := fun h => hv (by omega)
              clear hv
              refine (specTake_no s _ 1 _ HS.out HV.out).mono ?_
              rintro e w2 ⟨rfl, hb2⟩
              have hT2 := hTj.out.called hb2
              have hc := hT2.toldc (.int .i64 0) (.string ⟨#[]⟩) (.int .i64 0) (.int .i64 2)
              have hb := hT2.told (.int .i64 0) (.string ⟨#[]⟩) (.int .i64 0) (.int .i64 2)
              have r3 := hT2.r
              have rf3 := hT2.rf
              have hl2 := hT2.lt
              clear hb2 hT2 b0 b1 bf rr rf
              go_wp2_with fail
              have hl3 : w.heap.size + 1 < ((((w2.setCell ⟨w.heap.size + 1, 0, none⟩ (.int .i64 0)).setCell ⟨w.heap.size + 1, 1, none⟩ (.string ⟨#[]⟩)).setCell ⟨w.heap.size + 1, 2, none⟩ (.int .i64 0)).setCell ⟨w.heap.size + 1, 3, none⟩ (.int .i64 2)).heap.size := by simpa using hl2
              generalize (((w2.setCell ⟨w.heap.size + 1, 0, none⟩ (.int .i64 0)).setCell ⟨w.heap.size + 1, 1, none⟩ (.string ⟨#[]⟩)).setCell ⟨w.heap.size + 1, 2, none⟩ (.int .i64 0)).setCell ⟨w.heap.size + 1, 3, none⟩ (.int .i64 2) = W at hc hb hl3 ⊢
              refine way_ret (w := w) ((Below.heap_alloc W _ _ hl3).trans hc) ?_ ?_ (WayPost.out HM.out (hb.alloc (by omega) _)) <;> rfl
    · have HM : Hid (NoneBegins f n s a) := by
        refine ⟨fun i l h => ?_, k, hav.out, fun h => ?_⟩
        · have h1 := h.1
          have h2 := h.2.2.1
          have h3 := (HG.out.2.1 i h1).2
          exact hno.out.1 i l (by omega) h
        · obtain ⟨i, h1, h2, h3, _⟩ := h
          have h4 := (HG.out.2.1 i h1).2
          omega
      have hc := hT.out.toldc (.int .i64 0) (.string ⟨#[]⟩) (.int .i64 0) (.int .i64 1)
      have hb := hT.out.told (.int .i64 0) (.string ⟨#[]⟩) (.int .i64 0) (.int .i64 1)
      have rr := hT.out.r
      have rf := hT.out.rf
      have hsz := hT.out.lt
      go_wp2_with fail
      generalize (((wr.setCell ⟨w.heap.size + 1, 0, none⟩ (.int .i64 0)).setCell ⟨w.heap.size + 1, 1, none⟩ (.string ⟨#[]⟩)).setCell ⟨w.heap.size + 1, 2, none⟩ (.int .i64 0)).setCell ⟨w.heap.size + 1, 3, none⟩ (.int .i64 1) = W at hc hb ⊢
      refine way_ret (w := w) hc ?_ ?_ (WayPost.none HM.out hb) <;> rfl

end Go.Proofs.YtbcnlggkoidmmaaGreatDoor
