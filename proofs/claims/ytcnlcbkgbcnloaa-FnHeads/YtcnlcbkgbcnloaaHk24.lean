/-
  Lists of bytes in memory: one that is only read, one that is written in place, and what stays of the rest.
  A list of numbers, made.
-/
import Derived.Test.YtcnlcbkgbcnloaaRows
import Derived.Test.YtcnlcbkgbcnloaaHk01
import Derived.Test.YtcnlcbkgbcnloaaHk02
import Derived.Test.YtcnlcbkgbcnloaaHk03
import Derived.Test.YtcnlcbkgbcnloaaHk05
import Derived.Test.YtcnlcbkgbcnloaaHk23
import Derived.WalkKit
import Derived.ProofKit
import Derived.WalkLawsBesides
import Derived.Laws.IdiomCopy
import Derived.Below
import Derived.OwnWalk
import Derived.Lib.SmallJoins
import Derived.Laws.MakeOwn
namespace Go.Proofs.Ytcnlcbkgbcnloaa
open Go.RowKit Go.Joins TakeMath TokMath FiltMath

/-- Of what was there nothing but block g has turned. -/
structure But (g : Nat) (w w' : World) : Prop where
  os : w'.os = w.os
  tape : w'.tape = w.tape
  output : w'.output = w.output
  size : w.heap.size ≤ w'.heap.size
  block : ∀ k, k < w.heap.size → k ≠ g → w'.heap[k]? = w.heap[k]?
section
variable {g k : Nat} {w w' a b c : World}
theorem But.refl (g : Nat) (w : World) : But g w w := ⟨rfl, rfl, rfl, Nat.le_refl _, fun _ _ _ => rfl⟩
theorem But.trans (h : But g a b) (k : But g b c) : But g a c :=
  ⟨k.os.trans h.os, k.tape.trans h.tape, k.output.trans h.output, Nat.le_trans h.size k.size, fun i hi hg => (k.block i (Nat.lt_of_lt_of_le hi h.size) hg).trans (h.block i hi hg)⟩
theorem But.of_below (h : Below w.heap.size w w') : But g w w' := ⟨h.os, h.tape, h.output, h.size, fun i hi _ => h.block i hi⟩
theorem But.next (h : But g a b) (k : Below b.heap.size b c) : But g a c := h.trans (But.of_below k)
theorem But.set (h : But g a b) (i : Nat) (v : Value) : But g a (b.setCell ⟨g, i, none⟩ v) :=
  h.trans ⟨rfl, rfl, rfl, by simp [World.setCell], fun _ _ hg => Below.heap_setCell _ _ _ _ hg⟩
theorem But.drew (h : But g a b) : But g a b.drew := ⟨h.os, h.tape, h.output, h.size, h.block⟩
/-- A block of the caller's own is written: nothing that was there ahead of it has turned. -/
theorem But.below {B : Nat} {w0 : World} (h : But g a b) (hb : Below B w0 a) (hg : B ≤ g) (hB : B ≤ a.heap.size) : Below B w0 b :=
  ⟨h.os.trans hb.os, h.tape.trans hb.tape, h.output.trans hb.output, Nat.le_trans hb.size h.size, fun i hi => (h.block i (by omega) (by omega)).trans (hb.block i hi)⟩
theorem But.cell (h : But g a b) (hk : k < a.heap.size) (hne : k ≠ g) (i : Nat) : b.cell? ⟨k, i, none⟩ = a.cell? ⟨k, i, none⟩ := World.cell?_of_block (w := a) (h.block k hk hne)
theorem But.frozen (h : But g a b) (hk : k < a.heap.size) (hne : k ≠ g) (i : Nat) : b.frozen? ⟨k, i, none⟩ = a.frozen? ⟨k, i, none⟩ := World.frozen?_of_block (w := a) (h.block k hk hne)
theorem But.own {e : TypeId} {base : Nat} {v : Value} {xs : List Value} (h : But g a b) (ho : Own e a base k v xs) (hne : k ≠ g) : Own e b base k v xs := ho.keep (h.block k ho.lt hne)
theorem But.came {x : Option Addr} {n : Nat} {f : Nat → Int} (h : But g a b) (hc : Came a x n f) (hne : ∀ q o, x = some ⟨q, o, none⟩ → n = 0 ∨ q ≠ g) : Came b x n f := by
  rcases hc with hc | ⟨q, off, ha, hq, hcc⟩
  · exact .inl hc
  rcases hne q off ha with h0 | h0
  · exact .inl h0
  · exact .inr ⟨q, off, ha, Nat.lt_of_lt_of_le hq h.size, fun j hj => (h.cell hq h0 _).trans (hcc j hj)⟩
end
/-- A list of bytes at the head of block g, to be read. -/
def BAt (w : World) (g n : Nat) (f : Nat → Int) : Prop := g < w.heap.size ∧ ∀ i, i < n → w.cell? ⟨g, i, none⟩ = some (.int .u8 (f i))
section
variable {g k n cap base : Nat} {w w' : World} {f : Nat → Int}
theorem BAt.called (h : BAt w k n f) (hb : Below w.heap.size w w') : BAt w' k n f := ⟨Nat.lt_of_lt_of_le h.1 hb.size, fun i hi => ((bcell hb).1 k i h.1).trans (h.2 i hi)⟩
theorem BAt.but (h : BAt w k n f) (hb : But g w w') (hne : k ≠ g) : BAt w' k n f := ⟨Nat.lt_of_lt_of_le h.1 hb.size, fun i hi => (hb.cell h.1 hne i).trans (h.2 i hi)⟩
theorem BAt.drew (h : BAt w k n f) : BAt w.drew k n f := h
theorem BAt.congr {f' : Nat → Int} (h : BAt w k n f) (e : ∀ i, i < n → f i = f' i) : BAt w k n f' := ⟨h.1, fun i hi => by rw [← e i hi]; exact h.2 i hi⟩
theorem BFn.at (h : BFn w base g n cap f) : BAt w g n f := ⟨Own.lt h, h.cell⟩
theorem BFn.keep (h : BFn w base g n cap f) (hk : w'.heap[g]? = w.heap[g]?) : BFn w' base g n cap f := Own.keep h hk
theorem BFn.called (h : BFn w base g n cap f) (hb : Below w.heap.size w w') : BFn w' base g n cap f := Own.keep h (hb.block g (Own.lt h))
theorem BFn.but (h : BFn w base k n cap f) (hb : But g w w') (hne : k ≠ g) : BFn w' base k n cap f := hb.own h hne
theorem BFn.congr {f' : Nat → Int} (h : BFn w base g n cap f) (e : ∀ i, i < n → f i = f' i) : BFn w base g n cap f' := by
  have : fb8 f n = fb8 f' n := by
    unfold fb8
    refine List.map_congr_left fun i hi => ?_
    rw [e i (List.mem_range.mp hi)]
  unfold BFn at h ⊢
  rw [← this]
  exact h
theorem BFn.mono {b : Nat} (h : BFn w base g n cap f) (hb : b ≤ base) : BFn w b g n cap f := Own.mono h hb
theorem BOwn.at {O : List Int} (h : BOwn w base g n cap O) : BAt w g n (fun i => O.getD i 0) := ⟨h.lt, h.cell⟩
theorem bts_of13 (s : ByteArray) (i : Nat) (h : i < s.size) : (bytesOf s).getD i 0 = bts s i := by
  unfold bts
  rw [← byteAt_get s i h]
  have h' : i < s.data.size := h
  simp [bytesOf, List.getD_eq_getElem?_getD, Array.getElem?_eq_getElem h']
  rfl
theorem BOwn.bytes {s : ByteArray} (h : BOwn w base g s.size cap (bytesOf s)) : BAt w g s.size (bts s) := h.at.congr fun i hi => bts_of13 s i hi
/-- f with the numbers of a list from the place o on. -/
def laidAt (f : Nat → Int) (o : Nat) (vs : List Int) : Nat → Int := fun i => if o ≤ i ∧ i < o + vs.length then vs.getD (i - o) 0 else f i
theorem laidAt_in (f : Nat → Int) (o : Nat) (vs : List Int) (i : Nat) (h : i < vs.length) : laidAt f o vs (o + i) = vs.getD i 0 := by
  unfold laidAt
  rw [if_pos ⟨by omega, by omega⟩, Nat.add_sub_cancel_left]
theorem laidAt_out (f : Nat → Int) (o : Nat) (vs : List Int) (i : Nat) (h : i < o ∨ o + vs.length ≤ i) : laidAt f o vs i = f i := by
  unfold laidAt
  rw [if_neg (by omega)]
theorem BFn.cells : ∀ (vs : List Int) (o : Nat) (w : World) (f : Nat → Int), BFn w base g n cap f → o + vs.length ≤ n → BFn (w.setCells g o (vs.map (Value.int .u8))) base g n cap (laidAt f o vs) ∧ But g w (w.setCells g o (vs.map (Value.int .u8)))
  | [], o, w, f, h, _ => by
    refine ⟨?_, But.refl _ _⟩
    show BFn w base g n cap _
    exact h.congr fun i _ => (laidAt_out f o [] i (by simp; omega)).symm
  | v :: r, o, w, f, h, hl => by
    rw [List.length_cons] at hl
    obtain ⟨h1, h2⟩ := BFn.cells r (o + 1) (w.setCell ⟨g, o, none⟩ (.int .u8 v)) (upd f o v) (h.set o (by omega) v) (by omega)
    refine ⟨?_, ((But.refl g w).set o _).trans h2⟩
    show BFn ((w.setCell ⟨g, o, none⟩ (.int .u8 v)).setCells g (o + 1) (r.map (Value.int .u8))) base g n cap _
    refine h1.congr fun i _ => ?_
    unfold laidAt upd
    rw [List.length_cons]
    by_cases e : i = o
    · subst e
      rw [if_neg (by omega), if_pos rfl, if_pos (by omega), Nat.sub_self]
      rfl
    · by_cases e2 : o + 1 ≤ i ∧ i < o + 1 + r.length
      · rw [if_pos e2, if_pos (by omega), show i - o = (i - (o + 1)) + 1 by omega]
        simp
      · rw [if_neg e2, if_neg e, if_neg (by omega)]
/-- 'clear' of bytes. -/
theorem clear_fn (h : BFn w base g n cap f) : ∃ w1, (∀ ty, (Builtin.clear_ #[22] ty #[.slice (some ⟨g, 0, none⟩) n cap]).run Try.prog w = .ok (.tuple #[]) w1) ∧ BFn w1 base g n cap (fun _ => 0) ∧ But g w w1 := by
  rcases Nat.eq_zero_or_pos n with h0 | h0
  · subst h0
    refine ⟨w, fun ty => ?_, h.congr (fun i hi => absurd hi (Nat.not_lt_zero i)), But.refl _ _⟩
    simp [Builtin.clear_, run_underlying Try.underlying22, Result.andThen]
  · obtain ⟨i0, hi0, hz0, -, -⟩ := info_parts info_u812
    have hl : (List.replicate n (0 : Int)).length = n := List.length_replicate
    obtain ⟨h1, h2⟩ := BFn.cells (base := base) (g := g) (n := n) (cap := cap) (List.replicate n 0) 0 w f h (by rw [hl]; omega)
    have hst := run_storeCells_cells (P := Try.prog) g 0 ((List.replicate n (0 : Int)).map (Value.int .u8)) 0 w (fun j hj => by
        rw [List.length_map, hl] at hj
        rw [show 0 + 0 + j = j by omega, h.cell j hj]
        rfl) (fun j hj => by
        rw [List.length_map, hl] at hj
        rw [show 0 + 0 + j = j by omega]
        exact h.free j hj) (fun v hv => by
        obtain ⟨x, -, rfl⟩ := List.mem_map.mp hv
        rfl)
    have hz : (Builtin.zeroCells (Value.int .u8 0).cells n).toList = (List.replicate n (0 : Int)).map (Value.int .u8) := by
      have hc : (Value.int .u8 0).cells = #[.int .u8 0] := rfl
      unfold Builtin.zeroCells
      rw [hc, List.map_replicate]
      refine List.ext_getElem (by simp) fun i h1 h2 => ?_
      simp [Nat.mod_one]
    refine ⟨_, fun ty => ?_, h1.congr (fun i hi => ?_), h2⟩
    · obtain ⟨m, rfl⟩ : ∃ m, n = m + 1 := ⟨n - 1, by omega⟩
      rw [List.map_replicate] at hst hz
      simp [Builtin.clear_, run_underlying Try.underlying22, zeroValue, typeInfo, hi0, hz0, hz, hst, Result.andThen]
    · have := laidAt_in f 0 (List.replicate n 0) i (by rw [hl]; exact hi)
      rw [Nat.zero_add] at this
      rw [this]
      simp [List.getD_eq_getElem?_getD, hi]
end
end Go.Proofs.Ytcnlcbkgbcnloaa

namespace Go.Proofs.Ytcnlcbkgbcnloaa
open Go.RowKit Go.Joins

theorem info_made : (Try.prog.info? 3).map (fun i => (i.zero, i.size, i.bytes)) = some (some (.int .i64 0), 1, 8) := by kernel_rfl

theorem make_ints (w : World) (n : Nat) (hn : n ≤ 1048576) : (Instr.makeSlice 39 (.int .i64 n) (.int .i64 n)).run Try.prog w = .ok (.slice (some ⟨w.heap.size, 0, none⟩) n n) (w.alloc (.cells (madeCells #[Value.int .i64 0] n) 3)) := by
  obtain ⟨i0, hi0, hz0, hz1, hz2⟩ := info_parts info_made
  have h := run_make (P := Try.prog) w 39 3 i0 (.int .i64 0) Try.underlying39 hi0 hz0 .i64 .i64 n n (by omega) (by omega) (by rw [hz2]; omega) (by omega)
  rw [hz1, Int.toNat_natCast, Nat.mul_one] at h
  exact h

end Go.Proofs.Ytcnlcbkgbcnloaa
