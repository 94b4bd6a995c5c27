/-
  The program's table of the order of the third code's lengths.
  The best of three blocks, in plain numbers; what the program's BestBlock is to answer.
  What is handed back, by its number. Nothing here speaks of the program.
  The walk of the model's powers of two.
  The walks of what the exact laws do with an Out.
  The walks of the laws' helpers that hold tokens against tokens.
  'make' of tokens.
  The walks of the laws' helpers over lists of tokens.
  The law FnExactBestBlock over what both functions answer.
  The last byte of a text, read.
  The walks of the document's model of a right Out.
-/
import Derived.Test.YtbcnlggkoidmmabGreatDoorRows
import Derived.Test.YtbcnlggkoidmmabGreatDoorPk01
import Derived.Test.YtbcnlggkoidmmabGreatDoorPk03
import Derived.Test.YtbcnlggkoidmmabGreatDoorPk02
import Derived.Test.YtbcnlggkoidmmabGreatDoorPk04
import Derived.Test.YtbcnlggkoidmmabGreatDoorPk06
import Derived.WalkKit
import Derived.Below
import Derived.ProofKit
import Derived.WalkLawsBesides
import Derived.Deep.QuietTactic
import Derived.BigQuiet
import Derived.Lib.SmallJoins
import Derived.OwnWalk
import Derived.Laws.MakeOwn
import Derived.Sort.Grow
import Derived.Shelf.SlSortCmp.QuietGrown
namespace Go.Proofs.YtbcnlggkoidmmabGreatDoor
open Go.RowKit Go.Joins InfMath

/-- The order of the third code's lengths lies in the program's table. -/
def OrderG (w : World) : Prop := 0 < w.heap.size ∧ ∀ i, i < 19 → w.cell? ⟨0, i, none⟩ = some (.int .i64 ((orderL.getD i 0 : Nat) : Int))
theorem OrderG.below {B : Nat} {w w' : World} (h : OrderG w) (hb : Below B w w') (hB : 0 < B) : OrderG w' :=
  ⟨Nat.lt_of_lt_of_le h.1 hb.size, fun i hi => (World.cell?_of_block (a := ⟨0, i, none⟩) (hb.block _ hB)).trans (h.2 i hi)⟩
end Go.Proofs.YtbcnlggkoidmmabGreatDoor

namespace Go.Proofs.YtbcnlggkoidmmabGreatDoor
open Go.RowKit TokMath WovenMath

/-- What is offered first stays where another one has as many bits. -/
def better : Option (ByteArray × Nat) → Option (ByteArray × Nat) → Option (ByteArray × Nat)
  | o, none => o
  | none, some y => some y
  | some x, some y => if y.2 < x.2 then some y else some x
/-- What BestBlock comes to. -/
def bestOut (s : ByteArray) (c : Int) (t : ByteArray) (L : List Tok) (last : Bool) : Option (ByteArray × Nat) :=
  better (better (better none (storedOut s c t last)) (fixedOut s c L last)) (wovenOut s c L last)
/-- What the program's BestBlock is to answer where its table lies. -/
def BestBlockAnswer : Prop := ∀ (s : ByteArray) (c : Int) (t : ByteArray) (a : Option Addr) (cp : Nat) (L : List Tok) (last : Bool) (w : World), s.size ≤ 1048576 → -9223372036854775808 ≤ c → c ≤ 9223372036854775807 → t.size ≤ 1048576 → TCame w a L.length (fun j => L.getD j (0, 0, 0)) → L.length ≤ 1048576 → OrderG w →
  Calls Tryz.prog 9 #[.agg #[.string s, .int .i64 c], .string t, .slice a L.length cp, .bool last] w fun e w' => e = .returned (blkAns (bestOut s c t L last)) ∧ Below w.heap.size w w'
/-- The truth value, the text and the number of bits of a block that may be none. -/
def blkB : Option (ByteArray × Nat) → Bool
  | some _ => true
  | none => false
def blkS : Option (ByteArray × Nat) → ByteArray
  | some o => o.1
  | none => ⟨#[]⟩
def blkN : Option (ByteArray × Nat) → Int
  | some o => (o.2 : Int)
  | none => 0
theorem blkAns_parts (o : Option (ByteArray × Nat)) : blkAns o = .tuple #[.agg #[.string (blkS o), .int .i64 (blkN o)], .bool (blkB o)] := by
  cases o <;> rfl
end Go.Proofs.YtbcnlggkoidmmabGreatDoor

namespace Go.Proofs.YtbcnlggkoidmmabGreatDoor
open Go.RowKit

theorem ret_i {k : IntKind} {a b : Int} (h : a = b) : Ending.returned (.int k a) = .returned (.int k b) := by rw [h]
theorem ret_b {a b : Bool} (h : a = b) : Ending.returned (.bool a) = .returned (.bool b) := by rw [h]

end Go.Proofs.YtbcnlggkoidmmabGreatDoor

namespace Go.Proofs.YtbcnlggkoidmmabGreatDoor
open Go.RowKit Go.Joins OutMath

set_option maxHeartbeats 400000 in
theorem pow_any (n : Nat) (w : World) (h : n ≤ 61) :
    Calls Tryz.prog 48 #[.int .i64 n] w fun e w' => e = .returned (.int .i64 (p2 n)) ∧ w' = w := by
  go_enter Tryz.func48, Tryz.ntmps48
  go_wp2
  go_loop [3, 4] (fun x i => ∃ j : Nat, j ≤ n ∧ i = .int .i64 j ∧ x = .int .i64 (p2 j)) (fun _ i => n - (intOf i).toNat)
  case atStart => exact ⟨0, Nat.zero_le _, rfl, by rw [p2_zero]⟩
  case round =>
    obtain ⟨j, hj, rfl, rfl⟩ := hrel
    have hp := p2_pos j
    have hq := p2_61 (n := j) (by omega)
    by_cases hlt : j < n
    · go_wp2
      go_round
      case rel => exact ⟨j + 1, by omega, by go_num, by rw [p2_succ]⟩
      case measure => simp [intOf]; omega
    · go_wp2
      go_ret
      exact ⟨ret_i (by rw [show j = n by omega]), rfl⟩

theorem pow_int (n : Int) (w : World) (h0 : 0 ≤ n) (h : n ≤ 61) :
    Calls Tryz.prog 48 #[.int .i64 n] w fun e w' => e = .returned (.int .i64 (p2 n.toNat)) ∧ w' = w := by
  obtain ⟨m, rfl⟩ := Int.eq_ofNat_of_zero_le h0
  exact pow_any m w (by omega)

end Go.Proofs.YtbcnlggkoidmmabGreatDoor

namespace Go.Proofs.YtbcnlggkoidmmabGreatDoor
open Go.RowKit Go.Joins OutMath

theorem szOut_ok (s : ByteArray) (c x : Int) (w : World) (h0 : 0 ≤ x) (h1 : x ≤ 1048576) (h : (s.size : Int) ≤ x) :
    Calls Tryz.prog 4 #[.agg #[.string s, .int .i64 c], .int .i64 x] w fun e w' => e = .returned (.int .i64 (x - s.size)) ∧ Below w.heap.size w w' := by
  have d : ¬ x - (s.size : Int) < 0 := by omega
  go_enter Tryz.func4, Tryz.ntmps4
  go_wp2
  go_ret
  exact ⟨rfl, (Below.refl _ _).alloc (Nat.le_refl _) _⟩

theorem szOut_no (s : ByteArray) (c x : Int) (w : World) (hs : s.size ≤ maxLen) (h0 : 0 ≤ x) (h1 : x ≤ 1048576) (h : x < (s.size : Int)) :
    Calls Tryz.prog 4 #[.agg #[.string s, .int .i64 c], .int .i64 x] w fun e w' => e = .returned (.int .i64 (-1)) ∧ Below w.heap.size w w' := by
  unfold maxLen at hs
  have d : x - (s.size : Int) < 0 := by omega
  go_enter Tryz.func4, Tryz.ntmps4
  go_wp2
  go_ret
  exact ⟨rfl, (Below.refl _ _).alloc (Nat.le_refl _) _⟩

theorem toOut_any (s : ByteArray) (c : Int) (w : World) :
    Calls Tryz.prog 7 #[.agg #[.string s, .int .i64 c]] w fun e w' => e = .returned (.agg #[.string s, .int .i64 c]) ∧ Below w.heap.size w w' := by
  go_enter Tryz.func7, Tryz.ntmps7
  go_wp2
  exact bodyPost_ret (v := .agg #[.string s, .int .i64 c]) (by simp [results, Tryz.results7, go_sem]) rfl ⟨rfl, below_alloc3 _ _ _ _⟩

theorem eqOut_same (s : ByteArray) (c : Int) (w : World) :
    Calls Tryz.prog 10 #[.agg #[.string s, .int .i64 c], .agg #[.string s, .int .i64 c]] w fun e w' => e = .returned (.bool true) ∧ Below w.heap.size w w' := by
  go_enter Tryz.func10, Tryz.ntmps10
  go_wp2
  go_ret
  exact ⟨rfl, below_alloc2 _ _ _⟩

end Go.Proofs.YtbcnlggkoidmmabGreatDoor

namespace Go.Proofs.YtbcnlggkoidmmabGreatDoor
open Go.RowKit Go.Joins Go.Sort TokMath

theorem eqToken_same (x y z : Int) (W : World) : Calls Tryz.prog 20 #[.agg #[.int .i64 x, .int .i64 y, .int .i64 z], .agg #[.int .i64 x, .int .i64 y, .int .i64 z]] W fun e w' => e = .returned (.bool true) ∧ ∃ k os', w' = grow (W.drewN k) os' := by
  go_enter Tryz.func20, Tryz.ntmps20
  go_wp2_with fail
  go_ret
  exact ⟨rfl, 0, _, by rw [alloc_eq_grow, alloc_eq_grow, grow_grow]; rfl⟩

set_option maxHeartbeats 1600000 in
theorem eqTokenS_same (a b : Option Addr) (n c1 c2 : Nat) (F : Nat → Tok) (w : World) (ha : TCame w a n F) (hb : TCame w b n F) (hn : n ≤ 1048576) :
    Calls Tryz.prog 11 #[.slice a n c1, .slice b n c2] w fun e w' => e = .returned (.bool true) ∧ Below w.heap.size w w' := by
  have mixed : Tryz.prog.follows .mixedOrders = true := by kernel_rfl
  have HA := hid_of ha
  have HB := hid_of hb
  clear ha hb
  go_enter Tryz.func11, Tryz.ntmps11
  go_wp2_with fail
  go_loopw [5] (fun i w' => ∃ (j : Nat), j ≤ n ∧ i = .int .i64 j ∧ Hid (Below w.heap.size w w')) (fun i _ => n - (intOf i).toNat)
  case atStart => exact ⟨0, Nat.zero_le _, rfl, Below.refl _ _⟩
  case round =>
    obtain ⟨j, hj, rfl, hBj⟩ := hrel
    by_cases hlt : j < n
    · rcases HA.out with h0 | ⟨g, off, rfl, hg, hc⟩
      · omega
      · rcases HB.out with h0 | ⟨g', off', rfl, hg', hc'⟩
        · omega
        · have hbg : ∀ n' os, Below w.heap.size w (grow (wr.drewN n') os) := fun n' os => by
            refine hBj.out.trans ⟨rfl, rfl, rfl, ?_, fun k hk => heap_grow_old (wr.drewN n') os (by show k < wr.heap.size; have := hBj.out.size; omega)⟩
            rw [size_grow]
            show wr.heap.size ≤ wr.heap.size + os.size
            omega
          have k0 := fun n' os => ((hbg n' os).cell (p := ⟨g, off + j * 3, none⟩) hg).trans (hc j hlt).1
          have k1 := fun n' os => ((hbg n' os).cell (p := ⟨g, off + j * 3 + 1, none⟩) hg).trans (hc j hlt).2.1
          have k2 := fun n' os => ((hbg n' os).cell (p := ⟨g, off + j * 3 + 2, none⟩) hg).trans (hc j hlt).2.2
          have l0 := fun n' os => ((hbg n' os).cell (p := ⟨g', off' + j * 3, none⟩) hg').trans (hc' j hlt).1
          have l1 := fun n' os => ((hbg n' os).cell (p := ⟨g', off' + j * 3 + 1, none⟩) hg').trans (hc' j hlt).2.1
          have l2 := fun n' os => ((hbg n' os).cell (p := ⟨g', off' + j * 3 + 2, none⟩) hg').trans (hc' j hlt).2.2
          have HBG := hid_of hbg
          have hcb := fun (n' : Nat) (os : Array Obj) => eqToken_same (F j).1 (F j).2.1 (F j).2.2 (grow (wr.drewN n') os)
          generalize (F j).1 = x at k0 l0 hcb
          generalize (F j).2.1 = y at k1 l1 hcb
          generalize (F j).2.2 = z at k2 l2 hcb
          clear hc hc' hbg
          go_wp2_with fail
          go_quiet_grown (refine Calls.grown_of (hcb _ _))
          have HN := hid_of (HBG.out nq osq)
          clear k0 k1 k2 l0 l1 l2 hcb HBG
          generalize grow (wr.drewN nq) osq = w2 at HN
          go_wp2_with fail
          go_roundw
          case rel => exact ⟨j + 1, by omega, by go_num, HN⟩
          case measure => simp [intOf]; omega
    · go_wp2_with fail
      go_ret
      exact ⟨rfl, hBj.out⟩

end Go.Proofs.YtbcnlggkoidmmabGreatDoor

namespace Go.Proofs.YtbcnlggkoidmmabGreatDoor
open Go.RowKit Go.Joins TokMath

theorem make_toks (w : World) (n : Nat) (hn : n ≤ 1048576) : (Instr.makeSlice 31 (.int .i64 n) (.int .i64 n)).run Tryz.prog w = .ok (.slice (some ⟨w.heap.size, 0, none⟩) n n) (w.alloc (.cells (madeCells #[.int .i64 0, .int .i64 0, .int .i64 0] (n * 3)) 39)) := by
  obtain ⟨i0, hi0, hz0, hz1, hz2⟩ := info_parts info_tok
  have h := run_make (P := Tryz.prog) w 31 39 i0 (.agg #[.int .i64 0, .int .i64 0, .int .i64 0]) Tryz.underlying31 hi0 hz0 .i64 .i64 n n (by omega) (by omega) (by rw [hz2]; omega) (by omega)
  rw [hz1, Int.toNat_natCast] at h
  exact h
theorem made_tok (n j : Nat) (hj : j < n * 3) : (madeCells #[Value.int .i64 0, .int .i64 0, .int .i64 0] (n * 3))[j]? = some (.int .i64 0) := by
  unfold madeCells
  rw [Array.getElem?_map, Array.getElem?_range, if_pos hj]
  show some ((#[Value.int .i64 0, .int .i64 0, .int .i64 0])[j % 3]!) = _
  have h : j % 3 < 3 := Nat.mod_lt _ (by omega)
  generalize j % 3 = q at h
  match q, h with
  | 0, _ => rfl
  | 1, _ => rfl
  | 2, _ => rfl
theorem TOwn.made (w : World) (base n : Nat) (hb : base ≤ w.heap.size) : TOwn (w.alloc (.cells (madeCells #[.int .i64 0, .int .i64 0, .int .i64 0] (n * 3)) 39)) base w.heap.size n (fun _ => (0, 0, 0)) :=
  ⟨hb, _, heap_alloc_new w _, by rw [size_madeCells]; exact Nat.le_refl _, fun j hj => ⟨made_tok n _ (by omega), made_tok n _ (by omega), made_tok n _ (by omega)⟩⟩

end Go.Proofs.YtbcnlggkoidmmabGreatDoor

namespace Go.Proofs.YtbcnlggkoidmmabGreatDoor
open Go.RowKit Go.Joins Go.Sort TokMath

theorem toToken_any (x y z : Int) (w : World) : Calls Tryz.prog 15 #[.agg #[.int .i64 x, .int .i64 y, .int .i64 z]] w fun e w' => e = .returned (.agg #[.int .i64 x, .int .i64 y, .int .i64 z]) ∧ Below w.heap.size w w' := by
  go_enter Tryz.func15, Tryz.ntmps15
  go_wp2_with fail
  exact bodyPost_ret (v := .agg #[.int .i64 x, .int .i64 y, .int .i64 z]) (by simp [results, Tryz.results15, go_sem]) rfl ⟨rfl, bal (bal (bstart _ _) _) _⟩
theorem szTokenS_any (a : Option Addr) (n c : Nat) (z : Int) (w : World) (hn : n ≤ 9223372036854775807) (hz0 : 0 ≤ z) (hz : z ≤ 10000000) : Calls Tryz.prog 5 #[.slice a n c, .int .i64 z] w fun e w' => e = .returned (.int .i64 (if (n : Int) ≤ z then z - n else -1)) ∧ w = w' := by
  by_cases h : (n : Int) ≤ z
  · rw [if_pos h]
    have d : decide (z - (n : Int) < 0) = false := decide_eq_false (by omega)
    go_enter Tryz.func5, Tryz.ntmps5
    go_wp2_with fail
    go_ret
    exact ⟨rfl, rfl⟩
  · rw [if_neg h]
    have d : decide (z - (n : Int) < 0) = true := decide_eq_true (by omega)
    go_enter Tryz.func5, Tryz.ntmps5
    go_wp2_with fail
    go_ret
    exact ⟨rfl, rfl⟩

/-- What the ring of toTokenS has at hand. -/
def TokSt (w w' : World) (n : Nat) (F : Nat → Tok) (j : Nat) : Prop := Below w.heap.size w w' ∧ ∃ cur, w'.heap[w.heap.size]? = some (.cells cur 39 (0, 0)) ∧ cur.size = n * 3 ∧ ∀ i, i < j → cur[i * 3]? = some (.int .i64 (F i).1) ∧ cur[i * 3 + 1]? = some (.int .i64 (F i).2.1) ∧ cur[i * 3 + 2]? = some (.int .i64 (F i).2.2)
theorem TokSt.called {w w1 w2 : World} {n : Nat} {F : Nat → Tok} {j : Nat} (h : TokSt w w1 n F j) (hb : Below w1.heap.size w1 w2) : TokSt w w2 n F j := by
  obtain ⟨h1, cur, h2, h3⟩ := h
  exact ⟨bnext h1 hb, cur, (hb.block _ (block_lt h2)).trans h2, h3⟩
theorem tok_next {w w' : World} {n : Nat} {F : Nat → Tok} {j : Nat} (h : TokSt w w' n F j) (hj : j < n) : TokSt w (((w'.setCell ⟨w.heap.size, j * 3, none⟩ (.int .i64 (F j).1)).setCell ⟨w.heap.size, j * 3 + 1, none⟩ (.int .i64 (F j).2.1)).setCell ⟨w.heap.size, j * 3 + 2, none⟩ (.int .i64 (F j).2.2)) n F (j + 1) := by
  obtain ⟨h1, cur, h2, h3, h4⟩ := h
  refine ⟨((h1.setCell (p := ⟨w.heap.size, j * 3, none⟩) (Nat.le_refl _) _).setCell (p := ⟨w.heap.size, j * 3 + 1, none⟩) (Nat.le_refl _) _).setCell (p := ⟨w.heap.size, j * 3 + 2, none⟩) (Nat.le_refl _) _, ((cur.setIfInBounds (j * 3) (.int .i64 (F j).1)).setIfInBounds (j * 3 + 1) (.int .i64 (F j).2.1)).setIfInBounds (j * 3 + 2) (.int .i64 (F j).2.2), ?_, by simpa using h3, fun i hi => ?_⟩
  · simp [World.setCell, Array.getElem?_modify, h2]
  · by_cases e : i = j
    · subst e
      refine ⟨?_, ?_, ?_⟩
      · rw [Array.getElem?_setIfInBounds_ne (by omega), Array.getElem?_setIfInBounds_ne (by omega), Array.getElem?_setIfInBounds_self_of_lt (by omega)]
      · rw [Array.getElem?_setIfInBounds_ne (by omega), Array.getElem?_setIfInBounds_self_of_lt (by simp; omega)]
      · rw [Array.getElem?_setIfInBounds_self_of_lt (by simp; omega)]
    · obtain ⟨k1, k2, k3⟩ := h4 i (by omega)
      refine ⟨?_, ?_, ?_⟩
      · rw [Array.getElem?_setIfInBounds_ne (by omega), Array.getElem?_setIfInBounds_ne (by omega), Array.getElem?_setIfInBounds_ne (by omega)]; exact k1
      · rw [Array.getElem?_setIfInBounds_ne (by omega), Array.getElem?_setIfInBounds_ne (by omega), Array.getElem?_setIfInBounds_ne (by omega)]; exact k2
      · rw [Array.getElem?_setIfInBounds_ne (by omega), Array.getElem?_setIfInBounds_ne (by omega), Array.getElem?_setIfInBounds_ne (by omega)]; exact k3
theorem tok_cell {w w' : World} {n : Nat} {F : Nat → Tok} {j : Nat} (h : TokSt w w' n F j) : w.heap.size < w'.heap.size ∧ (∀ k, w'.frozen? ⟨w.heap.size, k, none⟩ = false) ∧ (∀ k, k < n * 3 → ∃ u, w'.cell? ⟨w.heap.size, k, none⟩ = some u) := by
  obtain ⟨h1, cur, h2, h3, h4⟩ := h
  refine ⟨block_lt h2, fun k => by simp [World.frozen?, h2], fun k hk => ?_⟩
  rw [cell_of_block h2]
  exact ⟨cur[k]'(by omega), Array.getElem?_eq_getElem (by omega)⟩

set_option maxHeartbeats 1600000 in
theorem toTokenS_any (a : Option Addr) (n c : Nat) (F : Nat → Tok) (w : World) (hC : TCame w a n F) (hn : n ≤ 1048576) :
    Calls Tryz.prog 8 #[.slice a n c] w fun e w' => e = .returned (.slice (some ⟨w.heap.size, 0, none⟩) n n) ∧ TOwn w' w.heap.size w.heap.size n F ∧ Below w.heap.size w w' := by
  have HC := hid_of hC
  have hmk := make_toks w n hn
  have H0 : Hid (TokSt w (w.alloc (.cells (madeCells #[.int .i64 0, .int .i64 0, .int .i64 0] (n * 3)) 39)) n F 0) := ⟨bstart _ _, _, heap_alloc_new w _, by rw [size_madeCells], fun i hi => absurd hi (Nat.not_lt_zero i)⟩
  generalize w.alloc (.cells (madeCells #[.int .i64 0, .int .i64 0, .int .i64 0] (n * 3)) 39) = w0 at hmk H0
  clear hC
  go_enter Tryz.func8, Tryz.ntmps8
  go_wp2_with fail
  go_loopw [4] (fun i w' => ∃ j : Nat, j ≤ n ∧ i = .int .i64 j ∧ Hid (TokSt w w' n F j)) (fun i _ => n - (intOf i).toNat)
  case atStart => exact ⟨0, Nat.zero_le _, rfl, H0⟩
  case round =>
    clear H0 hmk
    obtain ⟨j, hj, rfl, hS⟩ := hrel
    by_cases hlt : j < n
    · rcases HC.out with h0 | ⟨g, off, rfl, hg, hc⟩
      · omega
      · have c0 : wr.cell? ⟨g, off + j * 3, none⟩ = some (.int .i64 (F j).1) := (hS.out.1.cell (p := ⟨g, off + j * 3, none⟩) hg).trans (hc j hlt).1
        have c1 : wr.cell? ⟨g, off + j * 3 + 1, none⟩ = some (.int .i64 (F j).2.1) := (hS.out.1.cell (p := ⟨g, off + j * 3 + 1, none⟩) hg).trans (hc j hlt).2.1
        have c2 : wr.cell? ⟨g, off + j * 3 + 2, none⟩ = some (.int .i64 (F j).2.2) := (hS.out.1.cell (p := ⟨g, off + j * 3 + 2, none⟩) hg).trans (hc j hlt).2.2
        have hl2 : g < wr.heap.size := Nat.lt_of_lt_of_le hg hS.out.1.size
        clear hc
        obtain ⟨x, hx⟩ : ∃ x, x = (F j).1 := ⟨_, rfl⟩
        obtain ⟨y, hy⟩ : ∃ y, y = (F j).2.1 := ⟨_, rfl⟩
        obtain ⟨z, hz⟩ : ∃ z, z = (F j).2.2 := ⟨_, rfl⟩
        rw [← hx] at c0
        rw [← hy] at c1
        rw [← hz] at c2
        have HXY := hid_of (And.intro hx (And.intro hy hz))
        clear hx hy hz
        go_wp2_with fail
        refine (toToken_any x y z wr).mono ?_
        rintro e w1 ⟨rfl, hB⟩
        have HS1 := hid_of (hS.out.called hB)
        clear hB
        obtain ⟨p1, p2, p3⟩ := tok_cell HS1.out
        obtain ⟨u0, q0⟩ := p3 (j * 3) (by omega)
        obtain ⟨u1, q1⟩ := p3 (j * 3 + 1) (by omega)
        obtain ⟨u2, q2⟩ := p3 (j * 3 + 2) (by omega)
        have HS2 : Hid (TokSt w (((w1.setCell ⟨w.heap.size, j * 3, none⟩ (.int .i64 x)).setCell ⟨w.heap.size, j * 3 + 1, none⟩ (.int .i64 y)).setCell ⟨w.heap.size, j * 3 + 2, none⟩ (.int .i64 z)) n F (j + 1)) := by
          have h := tok_next HS1.out hlt
          rw [← HXY.out.1, ← HXY.out.2.1, ← HXY.out.2.2] at h
          exact h
        clear p3
        go_wp2_with fail
        go_roundw
        case rel => exact ⟨j + 1, by omega, by go_num, HS2⟩
        case measure => simp [intOf]; omega
    · obtain rfl : j = n := by omega
      have HZ : Hid (TOwn wr w.heap.size w.heap.size j F ∧ Below w.heap.size w wr) := by
        obtain ⟨h1, cur, h2, h3, h4⟩ := hS.out
        exact ⟨⟨Nat.le_refl _, cur, h2, by omega, h4⟩, h1⟩
      go_wp2_with fail
      go_ret
      exact ⟨rfl, HZ.out⟩

end Go.Proofs.YtbcnlggkoidmmabGreatDoor

namespace Go.Proofs.YtbcnlggkoidmmabGreatDoor
open Go.RowKit Go.Joins OutMath TokMath

set_option maxRecDepth 100000 in
set_option maxHeartbeats 3200000 in
theorem FnExactBestBlock_at (s t tx : ByteArray) (c n : Int) (b last : Bool) (a : Option Addr) (cp m : Nat) (F : Nat → Tok) (w : World) (htx : tx.size ≤ 1048576) (hs : (s.size : Int) ≤ 1048576) (hm : (m : Int) ≤ 1048576 - (s.size : Int)) (hC : TCame w a m F)
    (hP : ∀ g w, TCame w (some ⟨g, 0, none⟩) m F → OrderG w → Calls Tryz.prog 6 #[.agg #[.string s, .int .i64 c], .string tx, .slice (some ⟨g, 0, none⟩) m m, .bool last] w fun e w' => e = .returned (.tuple #[.agg #[.string t, .int .i64 n], .bool b]) ∧ Below w.heap.size w w')
    (hQ : ∀ g w, TCame w (some ⟨g, 0, none⟩) m F → OrderG w → Calls Tryz.prog 9 #[.agg #[.string s, .int .i64 c], .string tx, .slice (some ⟨g, 0, none⟩) m m, .bool last] w fun e w' => e = .returned (.tuple #[.agg #[.string t, .int .i64 n], .bool b]) ∧ Below w.heap.size w w') (hG : OrderG w) :
    Calls Tryz.prog 3 #[.agg #[.string s, .int .i64 c], .string tx, .slice a m cp, .bool last] w fun e w' => e = .returned (.bool true) ∧ Below w.heap.size w w' := by
  have dtx : decide ((1048576 : Int) < (tx.size : Int)) = false := decide_eq_false (by omega)
  have dtx' : decide (1048576 < tx.size) = false := decide_eq_false (by omega)
  have HC := hid_of hC
  have HP := hid_of hP
  have HQ := hid_of hQ
  have HG := hid_of hG
  clear hG
  have hbb : (b != b) = false := bne_self_eq_false b
  have d : ¬ (1048576 : Int) - (s.size : Int) < 0 := by omega
  have d2 : ¬ (1048576 : Int) - (s.size : Int) - (m : Int) < 0 := by omega
  have d2' : decide ((1048576 : Int) - (s.size : Int) - (m : Int) < 0) = false := decide_eq_false (by omega)
  have hn : m ≤ 1048576 := by omega
  have hsz : ∀ W, Calls Tryz.prog 5 #[.slice a m cp, .int .i64 (1048576 - (s.size : Int))] W fun e w' => e = .returned (.int .i64 (1048576 - (s.size : Int) - (m : Int))) ∧ W = w' := fun W => by
    have h := szTokenS_any a m cp (1048576 - (s.size : Int)) W (by omega) (by omega) (by omega)
    rw [if_pos hm] at h
    exact h
  clear hC hP hQ
  go_enter Tryz.func3, Tryz.ntmps3
  go_wp2_with fail
  refine (szOut_ok s c _ _ (by omega) (by omega) (by omega)).mono ?_
  rintro e w1 ⟨rfl, hb1⟩
  have hr1 : w1.heap[w.heap.size]? = some (.cells #[.string s, .int .i64 c] 23 (0, 0)) := (hb1.block _ (by simp)).trans (heap_alloc_new w _)
  have HR1 := hid_of hr1
  have HB1 : Hid (Below w.heap.size w w1) := bnext (bstart _ _) hb1
  have x0 : w1.cell? ⟨w.heap.size, 0, none⟩ = some (.string s) := (cell_of_block hr1 0).trans rfl
  have x1 : w1.cell? ⟨w.heap.size, 1, none⟩ = some (.int .i64 c) := (cell_of_block hr1 1).trans rfl
  clear hb1 hr1
  go_wp2_with fail
  refine (hsz _).mono ?_
  rintro e w1' ⟨rfl, rfl⟩
  clear hsz
  go_wp2_with fail
  refine (toOut_any s c _).mono ?_
  rintro e w2 ⟨rfl, hb2⟩
  have HB2 := hid_of (bnext HB1.out hb2)
  have HR2 := hid_of ((hb2.block _ (block_lt HR1.out)).trans HR1.out)
  clear hb2 x0 x1 HB1 HR1
  go_wp2_with fail
  refine (toTokenS_any a m cp F _ (HC.out.called HB2.out) hn).mono ?_
  rintro e w3 ⟨rfl, hO3, hb3⟩
  have HB3 := hid_of (bnext HB2.out hb3)
  have HR3 := hid_of ((hb3.block _ (block_lt HR2.out)).trans HR2.out)
  have HO3 := hid_of hO3
  clear hb3 hO3 HB2 HR2
  go_wp2_with fail
  refine (HP.out _ _ HO3.out.came (HG.out.below HB3.out HG.out.1)).mono ?_
  rintro e w4 ⟨rfl, hb4⟩
  have HB4 := hid_of (bal (bnext HB3.out hb4) (.cells #[.string t, .int .i64 n] 27))
  have HR4 := hid_of ((Below.heap_alloc w4 (.cells #[.string t, .int .i64 n] 27) _ (Nat.lt_of_lt_of_le (block_lt HR3.out) hb4.size)).trans ((hb4.block _ (block_lt HR3.out)).trans HR3.out))
  have HG4 : Hid ((w4.alloc (.cells #[.string t, .int .i64 n] 27)).heap[w4.heap.size]? = some (.cells #[.string t, .int .i64 n] 27 (0, 0))) := heap_alloc_new w4 _
  clear hb4 HB3 HR3 HO3 HP
  go_wp2_with fail
  generalize w4.alloc (.cells #[.string t, .int .i64 n] 27) = w5 at HB4 HR4 HG4 ⊢
  generalize w4.heap.size = g5 at HG4 ⊢
  refine (toTokenS_any a m cp F w5 (HC.out.called HB4.out) hn).mono ?_
  rintro e w6 ⟨rfl, hO6, hb6⟩
  have HB6 := hid_of (bnext HB4.out hb6)
  have hr6 := (hb6.block _ (block_lt HR4.out)).trans HR4.out
  have HR6 := hid_of hr6
  have HG6 := hid_of ((hb6.block _ (block_lt HG4.out)).trans HG4.out)
  have HO6 := hid_of hO6
  have x0 : w6.cell? ⟨w.heap.size, 0, none⟩ = some (.string s) := (cell_of_block hr6 0).trans rfl
  have x1 : w6.cell? ⟨w.heap.size, 1, none⟩ = some (.int .i64 c) := (cell_of_block hr6 1).trans rfl
  clear hb6 hO6 HB4 HR4 HG4 hr6
  go_wp2_with fail
  refine (toOut_any s c _).mono ?_
  rintro e w7 ⟨rfl, hb7⟩
  have HB7 := hid_of (bnext HB6.out hb7)
  have HG7 := hid_of ((hb7.block _ (block_lt HG6.out)).trans HG6.out)
  have HO7 := hid_of (HO6.out.called hb7)
  clear hb7 HB6 HG6 HO6 HR6 x0 x1
  go_wp2_with fail
  refine (HQ.out _ _ HO7.out.came (HG.out.below HB7.out HG.out.1)).mono ?_
  rintro e w8 ⟨rfl, hb8⟩
  have HB8 := hid_of (bnext HB7.out hb8)
  have hg8 := (hb8.block _ (block_lt HG7.out)).trans HG7.out
  have HO8 := hid_of (HO7.out.called hb8)
  have y0 : w8.cell? ⟨g5, 0, none⟩ = some (.string t) := (cell_of_block hg8 0).trans rfl
  have y1 : w8.cell? ⟨g5, 1, none⟩ = some (.int .i64 n) := (cell_of_block hg8 1).trans rfl
  have yl := block_lt hg8
  clear hb8 HB7 HG7 HO7 HQ hg8
  go_wp2_with fail
  refine (eqOut_same t n _).mono ?_
  rintro e w9 ⟨rfl, hb9⟩
  have HB9 := hid_of (bnext (bal HB8.out _) hb9)
  have HO9 := hid_of (HO8.out.called (bnext (bstart w8 _) hb9))
  clear hb9 HB8 HO8 y0 y1 yl
  go_wp2_with fail
  refine (toTokenS_any a m cp F w9 (HC.out.called HB9.out) hn).mono ?_
  rintro e w10 ⟨rfl, hO10, hb10⟩
  have HB10 := hid_of (bnext HB9.out hb10)
  have HO10 := hid_of hO10
  have HO10' := hid_of (HO9.out.called hb10)
  clear hb10 hO10 HB9 HO9
  go_wp2_with fail
  refine (eqTokenS_same _ _ m m m F _ HO10'.out.came HO10.out.came hn).mono ?_
  rintro e w11 ⟨rfl, hb11⟩
  have HB11 := hid_of (bnext HB10.out hb11)
  clear hb11
  go_wp2_with fail
  go_ret
  exact ⟨rfl, HB11.out⟩
set_option maxRecDepth 100000 in
theorem FnExactBestBlock_many (s tx : ByteArray) (c : Int) (a : Option Addr) (cp m : Nat) (last : Bool) (w : World) (htx : tx.size ≤ 1048576) (hs : s.size ≤ maxLen) (hm : m ≤ maxLen) (h : ¬ (m : Int) ≤ 1048576 - (s.size : Int)) :
    Calls Tryz.prog 3 #[.agg #[.string s, .int .i64 c], .string tx, .slice a m cp, .bool last] w fun e w' => e = .returned (.bool true) ∧ Below w.heap.size w w' := by
  have dtx : decide ((1048576 : Int) < (tx.size : Int)) = false := decide_eq_false (by omega)
  have dtx' : decide (1048576 < tx.size) = false := decide_eq_false (by omega)
  by_cases h1 : (s.size : Int) ≤ 1048576
  · have d : ¬ (1048576 : Int) - (s.size : Int) < 0 := by omega
    have hsz : ∀ W, Calls Tryz.prog 5 #[.slice a m cp, .int .i64 (1048576 - (s.size : Int))] W fun e w' => e = .returned (.int .i64 (-1)) ∧ W = w' := fun W => by
      have hh := szTokenS_any a m cp (1048576 - (s.size : Int)) W (by unfold maxLen at hm; omega) (by omega) (by omega)
      rw [if_neg h] at hh
      exact hh
    go_enter Tryz.func3, Tryz.ntmps3
    go_wp2_with fail
    refine (szOut_ok s c _ _ (by omega) (by omega) (by omega)).mono ?_
    rintro e w1 ⟨rfl, hb1⟩
    go_wp2_with fail
    refine (hsz _).mono ?_
    rintro e w2 ⟨rfl, rfl⟩
    go_wp2_with fail
    go_ret
    exact ⟨rfl, bnext (bstart _ _) hb1⟩
  · have d : (1048576 : Int) < (s.size : Int) := by omega
    go_enter Tryz.func3, Tryz.ntmps3
    go_wp2_with fail
    refine (szOut_no s c _ _ hs (by omega) (by omega) d).mono ?_
    rintro e w1 ⟨rfl, hb1⟩
    go_wp2_with fail
    go_ret
    exact ⟨rfl, bnext (bstart _ _) hb1⟩
set_option maxRecDepth 100000 in
theorem FnExactBestBlock_long (s tx : ByteArray) (c : Int) (a : Option Addr) (cp m : Nat) (last : Bool) (w : World) (htl : tx.size ≤ maxLen) (htx : ¬ tx.size ≤ 1048576) :
    Calls Tryz.prog 3 #[.agg #[.string s, .int .i64 c], .string tx, .slice a m cp, .bool last] w fun e w' => e = .returned (.bool true) ∧ Below w.heap.size w w' := by
  unfold maxLen at htl
  have dtx : decide ((1048576 : Int) < (tx.size : Int)) = true := decide_eq_true (by omega)
  have dtx' : decide (1048576 < tx.size) = true := decide_eq_true (by omega)
  go_enter Tryz.func3, Tryz.ntmps3
  go_wp2_with fail
  go_ret
  exact ⟨rfl, bstart _ _⟩
end Go.Proofs.YtbcnlggkoidmmabGreatDoor

namespace Go.Proofs.YtbcnlggkoidmmabGreatDoor
open Go.RowKit Go.Joins OutMath

theorem index_last (s : ByteArray) (h : 0 < s.size) (w : World) : (Instr.index 9 (.string s) (.int .i64 ((s.size : Int) - 1))).run Tryz.prog w = .ok (.int .u8 (last s)) w := by
  rw [run_index_string w 9 s .i64 _ Tryz.underlying9, dif_pos ⟨by omega, by omega⟩]
  have e : ((s.size : Int) - 1).toNat = s.size - 1 := by omega
  simp only [e]
  rw [last_at]

end Go.Proofs.YtbcnlggkoidmmabGreatDoor

namespace Go.Proofs.YtbcnlggkoidmmabGreatDoor
open Go.RowKit Go.Joins OutMath

set_option maxHeartbeats 400000 in
theorem specOut_fit0 (s : ByteArray) (c : Int) (w : World) (h : Fits s c) (hc : c % 8 = 0) :
    Calls Tryz.prog 44 #[.agg #[.string s, .int .i64 c]] w fun e w' => e = .returned (.bool true) ∧ Below w.heap.size w w' := by
  obtain ⟨h1, h2, h3, h4⟩ := h
  have d1 : decide ((12000 : Int) < s.size) = false := by simp; omega
  have d2 : decide (c < 0) = false := by simp; omega
  have d3 : decide (8 * (s.size : Int) < c) = false := by simp; omega
  have d4 : ((c + 7) / 8 != (s.size : Int)) = false := by simp; omega
  have d5 : (c % 8 == 0) = true := by simp; omega
  clear h4 hc
  go_enter Tryz.func44, Tryz.ntmps44
  go_wp2
  go_quiet (fail)
  go_wp2
  go_ret
  exact ⟨rfl, (below_alloc1 _ _).trans (below_draws _ _ _)⟩

set_option maxHeartbeats 400000 in
theorem specOut_fit1 (s : ByteArray) (c : Int) (w : World) (h : Fits s c) (hc : ¬ c % 8 = 0) :
    Calls Tryz.prog 44 #[.agg #[.string s, .int .i64 c]] w fun e w' => e = .returned (.bool (lastOk s c)) ∧ Below w.heap.size w w' := by
  obtain ⟨h1, h2, h3, h4⟩ := h
  have d1 : decide ((12000 : Int) < s.size) = false := by simp; omega
  have d2 : decide (c < 0) = false := by simp; omega
  have d3 : decide (8 * (s.size : Int) < c) = false := by simp; omega
  have d4 : ((c + 7) / 8 != (s.size : Int)) = false := by simp; omega
  have d5 : (c % 8 == 0) = false := by simp; omega
  have d6 : 0 < s.size := by omega
  have d7 : (0 : Int) ≤ (s.size : Int) - 1 ∧ (s.size : Int) - 1 < s.size := by omega
  have ht : c.tmod 8 = c % 8 := Int.tmod_eq_emod_of_nonneg h2
  have hw1 : IntKind.i64.wrap ((s.size : Int) - 1) = (s.size : Int) - 1 := by rw [IntKind.wrap_i64]; omega
  have hix := index_last s d6
  have hlt := last_lt s
  clear h4 hc
  go_enter Tryz.func44, Tryz.ntmps44
  go_wp2
  go_quiet ((go_at_call 48; exact Calls.quiet_of_same (pow_int _ _ (by omega) (by omega))))
  go_wp2
  go_ret
  exact ⟨rfl, (below_alloc1 _ _).trans (below_draws _ _ _)⟩

set_option maxHeartbeats 400000 in
theorem specOut_no (s : ByteArray) (c : Int) (w : World) (hs : s.size ≤ maxLen) (hc1 : -9223372036854775808 ≤ c) (hc2 : c ≤ 9223372036854775807) (h : ¬ Fits s c) :
    Calls Tryz.prog 44 #[.agg #[.string s, .int .i64 c]] w fun e w' => e = .returned (.bool false) ∧ Below w.heap.size w w' := by
  unfold maxLen at hs
  unfold Fits at h
  by_cases h1 : (12000 : Int) < s.size
  · clear h
    go_enter Tryz.func44, Tryz.ntmps44
    go_wp2
    go_ret
    exact ⟨rfl, below_alloc1 _ _⟩
  · have d1 : decide ((12000 : Int) < s.size) = false := by simpa using h1
    by_cases h2 : c < 0
    · clear h
      go_enter Tryz.func44, Tryz.ntmps44
      go_wp2
      go_ret
      exact ⟨rfl, below_alloc1 _ _⟩
    · have d2 : decide (c < 0) = false := by simpa using h2
      by_cases h3 : 8 * (s.size : Int) < c
      · clear h
        go_enter Tryz.func44, Tryz.ntmps44
        go_wp2
        go_ret
        exact ⟨rfl, below_alloc1 _ _⟩
      · have d3 : decide (8 * (s.size : Int) < c) = false := by simpa using h3
        have d4 : ((c + 7) / 8 != (s.size : Int)) = true := by rw [bne_iff_ne]; omega
        clear h
        go_enter Tryz.func44, Tryz.ntmps44
        go_wp2
        go_ret
        exact ⟨rfl, below_alloc1 _ _⟩

theorem specOut_any (s : ByteArray) (c : Int) (w : World) (hs : s.size ≤ maxLen) (hc1 : -9223372036854775808 ≤ c) (hc2 : c ≤ 9223372036854775807) :
    Calls Tryz.prog 44 #[.agg #[.string s, .int .i64 c]] w fun e w' => e = .returned (.bool (outB s c)) ∧ Below w.heap.size w w' := by
  by_cases h : Fits s c
  · by_cases hc : c % 8 = 0
    · rw [outB_fit0 s c h hc]; exact specOut_fit0 s c w h hc
    · rw [outB_fit1 s c h hc]; exact specOut_fit1 s c w h hc
  · rw [outB_no s c h]; exact specOut_no s c w hs hc1 hc2 h

end Go.Proofs.YtbcnlggkoidmmabGreatDoor
