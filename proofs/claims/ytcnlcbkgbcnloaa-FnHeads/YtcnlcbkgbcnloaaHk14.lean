/-
  Lists of colors (three numbers each) in memory. Nothing here speaks of the program but the numbers of its types.
  Slices of colors that a call hands back, and the walks of the laws' marks on them.
  Plain facts on bits that are put into bytes, the lowest of each byte first; nothing here speaks of the program.
  Bits that are put are taken again, in the same order; nothing here speaks of the program.
-/
import Derived.Test.YtcnlcbkgbcnloaaRows
import Derived.Test.YtcnlcbkgbcnloaaHk01
import Derived.Test.YtcnlcbkgbcnloaaHk06
import Derived.Test.YtcnlcbkgbcnloaaHk04
import Derived.Test.YtcnlcbkgbcnloaaHk05
import Derived.WalkKit
import Derived.ProofKit
import Derived.Below
import Derived.OwnWalk
import Derived.Deep.AppendLies
import Derived.Maps.AppendAt
import Derived.Laws.AppendOwnNone
import Derived.Lib.SmallJoins
import Derived.WalkLawsBesides
import Derived.Laws.BitsAllLaws
import Derived.Laws.BytesArg
namespace Go.Proofs.Ytcnlcbkgbcnloaa
open Go.RowKit Go.Joins HeadMath

theorem info_rgb : (Try.prog.info? 38).map (fun i => (i.zero, i.size, i.bytes)) = some (some (.agg #[.int .i64 0, .int .i64 0, .int .i64 0]), 3, 24) := by kernel_rfl

/-- The cells of colors. -/
def rgbTcells : List Rgb3 → List Value
  | [] => []
  | c :: l => .int .i64 c.1 :: .int .i64 c.2.1 :: .int .i64 c.2.2 :: rgbTcells l
theorem rgbTcells_length : ∀ l : List Rgb3, (rgbTcells l).length = l.length * 3
  | [] => rfl
  | c :: l => by
    show (rgbTcells l).length + 1 + 1 + 1 = (l.length + 1) * 3
    rw [rgbTcells_length l]
    omega
theorem rgbTcells_app : ∀ xs ys : List Rgb3, rgbTcells (xs ++ ys) = rgbTcells xs ++ rgbTcells ys
  | [], ys => rfl
  | c :: l, ys => by
    show Value.int .i64 c.1 :: .int .i64 c.2.1 :: .int .i64 c.2.2 :: rgbTcells (l ++ ys) = Value.int .i64 c.1 :: .int .i64 c.2.1 :: .int .i64 c.2.2 :: (rgbTcells l ++ rgbTcells ys)
    rw [rgbTcells_app l ys]
theorem rgbTcells_get : ∀ (l : List Rgb3) (i : Nat), i < l.length → (rgbTcells l)[i * 3]? = some (.int .i64 (l.getD i (0, 0, 0)).1) ∧ (rgbTcells l)[i * 3 + 1]? = some (.int .i64 (l.getD i (0, 0, 0)).2.1) ∧ (rgbTcells l)[i * 3 + 2]? = some (.int .i64 (l.getD i (0, 0, 0)).2.2)
  | [], i, h => by simp at h
  | c :: l, 0, _ => ⟨rfl, rfl, rfl⟩
  | c :: l, i + 1, h => by
    have q := rgbTcells_get l i (by simpa using h)
    rw [show (i + 1) * 3 = i * 3 + 1 + 1 + 1 by omega]
    exact q
theorem rgbTcells_one : ∀ (l : List Rgb3), ∀ u ∈ rgbTcells l, u.oneCell' = true
  | [], u, h => by cases h
  | c :: l, u, h => by
    rcases List.mem_cons.mp h with rfl | h
    · rfl
    · rcases List.mem_cons.mp h with rfl | h
      · rfl
      · rcases List.mem_cons.mp h with rfl | h
        · rfl
        · exact rgbTcells_one l u h

/-- A slice of colors that came in. -/
def RgbCame (w : World) (a : Option Addr) (n : Nat) (F : Nat → Rgb3) : Prop :=
  n = 0 ∨ ∃ g off, a = some ⟨g, off, none⟩ ∧ g < w.heap.size ∧ ∀ j, j < n → w.cell? ⟨g, off + j * 3, none⟩ = some (.int .i64 (F j).1) ∧ w.cell? ⟨g, off + j * 3 + 1, none⟩ = some (.int .i64 (F j).2.1) ∧ w.cell? ⟨g, off + j * 3 + 2, none⟩ = some (.int .i64 (F j).2.2)
theorem RgbCame.called {w w' : World} {a : Option Addr} {n : Nat} {F : Nat → Rgb3} (h : RgbCame w a n F) (hb : Below w.heap.size w w') : RgbCame w' a n F := by
  rcases h with h | ⟨g, off, ha, hg, hc⟩
  · exact .inl h
  · exact .inr ⟨g, off, ha, Nat.lt_of_lt_of_le hg hb.size, fun j hj => ⟨(hb.cell (p := ⟨g, off + j * 3, none⟩) hg).trans (hc j hj).1, (hb.cell (p := ⟨g, off + j * 3 + 1, none⟩) hg).trans (hc j hj).2.1, (hb.cell (p := ⟨g, off + j * 3 + 2, none⟩) hg).trans (hc j hj).2.2⟩⟩
theorem RgbCame.congr {w : World} {a : Option Addr} {n : Nat} {F G : Nat → Rgb3} (h : RgbCame w a n F) (e : ∀ j, j < n → F j = G j) : RgbCame w a n G := by
  rcases h with h | ⟨g, off, ha, hg, hc⟩
  · exact .inl h
  · exact .inr ⟨g, off, ha, hg, fun j hj => by rw [← e j hj]; exact hc j hj⟩
/-- The slice at the head of block g is the call's own. -/
def RgbOwn (w : World) (base g n : Nat) (F : Nat → Rgb3) : Prop := base ≤ g ∧ ∃ cur, w.heap[g]? = some (.cells cur 38 (0, 0)) ∧ n * 3 ≤ cur.size ∧ ∀ j, j < n → cur[j * 3]? = some (.int .i64 (F j).1) ∧ cur[j * 3 + 1]? = some (.int .i64 (F j).2.1) ∧ cur[j * 3 + 2]? = some (.int .i64 (F j).2.2)
theorem RgbOwn.lt {w : World} {base g n : Nat} {F : Nat → Rgb3} (h : RgbOwn w base g n F) : g < w.heap.size := by
  obtain ⟨_, cur, h2, _⟩ := h
  exact block_lt h2
theorem RgbOwn.keep {w w' : World} {base g n : Nat} {F : Nat → Rgb3} (h : RgbOwn w base g n F) (hk : w'.heap[g]? = w.heap[g]?) : RgbOwn w' base g n F := by
  obtain ⟨h1, cur, h2, h3⟩ := h
  exact ⟨h1, cur, hk.trans h2, h3⟩
theorem RgbOwn.called {w w' : World} {base g n : Nat} {F : Nat → Rgb3} (h : RgbOwn w base g n F) (hb : Below w.heap.size w w') : RgbOwn w' base g n F := h.keep (hb.block g h.lt)
theorem RgbOwn.came {w : World} {base g n : Nat} {F : Nat → Rgb3} (h : RgbOwn w base g n F) : RgbCame w (some ⟨g, 0, none⟩) n F := by
  refine .inr ⟨g, 0, rfl, h.lt, fun j hj => ?_⟩
  obtain ⟨_, cur, h2, h3, h4⟩ := h
  rw [Nat.zero_add, cell_of_block h2, cell_of_block h2, cell_of_block h2]
  exact h4 j hj
/-- What a call owns, by its places. -/
theorem rgbTcame_of_own {w : World} {S n : Nat} {v : Value} {L : List Rgb3} (h : w.ownsRow S 38 3 v n (rgbTcells L)) (hn : n = L.length) : ∃ a c, v = .slice a L.length c ∧ L.length ≤ c ∧ c ≤ maxLen ∧ (a = none → c = 0) ∧ RgbCame w a L.length (fun j => L.getD j (0, 0, 0)) ∧ (∀ ad, a = some ad → ∃ g, ad = ⟨g, 0, none⟩ ∧ S ≤ g) := by
  subst hn
  rcases h.2 with ⟨rfl, h0⟩ | ⟨g, cap, cur, rfl, hb, hg, hc, hm, hs, ht⟩
  · exact ⟨none, 0, by rw [h0], by omega, Nat.zero_le _, fun _ => rfl, .inl h0, fun ad e => by cases e⟩
  · refine ⟨_, cap, rfl, hc, hm, (fun e => by cases e), .inr ⟨g, 0, rfl, block_lt hg, fun j hj => ?_⟩, fun ad e => by cases e; exact ⟨g, rfl, hb⟩⟩
    have q := rgbTcells_get L j hj
    rw [Nat.zero_add, h.cellAt (j * 3) (by omega), h.cellAt (j * 3 + 1) (by omega), h.cellAt (j * 3 + 2) (by omega)]
    exact q
/-- 'append(v, ys...)' of colors. -/
theorem rgbs_append {w : World} {S : Nat} {v : Value} {xs ys : List Rgb3} {ops : Array Oper} {rest : List Oper} {o : Oper} {a : Act} {Q : Exit → Act → World → Prop} (hgd : o.guard = none) (s x : Operand)
    (ho : o.op = .call { callee := .builtin .append, args := #[s, x], argTypes := #[32, 32] }) (hs : a.eval s = v) (h : w.ownsRow S 38 3 v xs.length (rgbTcells xs)) (ad : Addr) (m c : Nat) (hx : a.eval x = .slice (some ad) m c) (hm : ys.length = m)
    (hc : ∀ j u, (rgbTcells ys)[j]? = some u → w.cell? (ad.add j) = some u)
    (h63 : xs.length + ys.length ≤ 100000) (hS : S ≤ w.heap.size)
    (hK : ∀ v' w', w'.ownsRow S 38 3 v' (xs ++ ys).length (rgbTcells (xs ++ ys)) → w.grownBy w' v.ownBlock → wpList Try.prog ops Q rest (a.put o.dst v') w') : wpList Try.prog ops Q (o :: rest) a w := by
  obtain ⟨i0, hi0, hz0, hz1, hz2⟩ := info_parts info_rgb
  refine wpList_append_own_at w hgd s x _ ho S 38 i0 _ 3 24 Try.underlying32 hi0 hz0 hz1 hz2 rfl (by omega) v _ _ hs h ad m c (rgbTcells ys) hx (by rw [rgbTcells_length, hm]) hc (rgbTcells_one ys) (by unfold maxLen; omega) (by omega) hS ?_
  intro v' w' hown hg _ _
  refine hK v' w' ?_ hg
  rw [List.length_append, rgbTcells_app, hm]
  exact hown

end Go.Proofs.Ytcnlcbkgbcnloaa

namespace Go.Proofs.Ytcnlcbkgbcnloaa
open Go.RowKit Go.Joins HeadMath

theorem RgbCame.grown {w w' : World} {a : Option Addr} {n B : Nat} {F : Nat → Rgb3} {row : Option Nat} (h : RgbCame w a n F) (hB : ∀ g off, a = some ⟨g, off, none⟩ → g < B) (hr : ∀ k, row = some k → B ≤ k) (hg : w.grownBy w' row) : RgbCame w' a n F := by
  rcases h with h | ⟨g, off, ha, hlt, hc⟩
  · exact .inl h
  · have hne : some g ≠ row := fun e => by have h1 := hB g off ha; have h2 := hr g e.symm; omega
    have hb := hg.block g hlt hne
    exact .inr ⟨g, off, ha, Nat.lt_of_lt_of_le hlt hg.size, fun j hj => ⟨(World.cell?_of_block (w := w) hb).trans (hc j hj).1, (World.cell?_of_block (w := w) hb).trans (hc j hj).2.1, (World.cell?_of_block (w := w) hb).trans (hc j hj).2.2⟩⟩
theorem RgbOwn.free {w : World} {base g n : Nat} {F : Nat → Rgb3} (h : RgbOwn w base g n F) (k : Nat) : w.frozen? ⟨g, k, none⟩ = false := by
  obtain ⟨_, cur, h2, _⟩ := h
  simp [World.frozen?, h2]
/-- F with t at the place j. -/
def rgbUpdT (F : Nat → Rgb3) (j : Nat) (t : Rgb3) : Nat → Rgb3 := fun i => if i = j then t else F i
theorem RgbOwn.set {w : World} {base g n : Nat} {F : Nat → Rgb3} (h : RgbOwn w base g n F) (j : Nat) (hj : j < n) (x y z : Int) : RgbOwn (((w.setCell ⟨g, j * 3, none⟩ (.int .i64 x)).setCell ⟨g, j * 3 + 1, none⟩ (.int .i64 y)).setCell ⟨g, j * 3 + 2, none⟩ (.int .i64 z)) base g n (rgbUpdT F j (x, y, z)) := by
  obtain ⟨h1, cur, h2, h3, h4⟩ := h
  refine ⟨h1, ((cur.setIfInBounds (j * 3) (.int .i64 x)).setIfInBounds (j * 3 + 1) (.int .i64 y)).setIfInBounds (j * 3 + 2) (.int .i64 z), ?_, by simpa using h3, fun i hi => ?_⟩
  · simp [World.setCell, Array.getElem?_modify, h2]
  · obtain ⟨k1, k2, k3⟩ := h4 i hi
    unfold rgbUpdT
    by_cases e : i = j
    · subst e
      rw [if_pos rfl]
      refine ⟨?_, ?_, ?_⟩
      · rw [Array.getElem?_setIfInBounds_ne (by omega), Array.getElem?_setIfInBounds_ne (by omega), Array.getElem?_setIfInBounds_self_of_lt (by omega)]
      · rw [Array.getElem?_setIfInBounds_ne (by omega), Array.getElem?_setIfInBounds_self_of_lt (by simp; omega)]
      · rw [Array.getElem?_setIfInBounds_self_of_lt (by simp; omega)]
    · rw [if_neg e]
      refine ⟨?_, ?_, ?_⟩
      · rw [Array.getElem?_setIfInBounds_ne (by omega), Array.getElem?_setIfInBounds_ne (by omega), Array.getElem?_setIfInBounds_ne (by omega)]; exact k1
      · rw [Array.getElem?_setIfInBounds_ne (by omega), Array.getElem?_setIfInBounds_ne (by omega), Array.getElem?_setIfInBounds_ne (by omega)]; exact k2
      · rw [Array.getElem?_setIfInBounds_ne (by omega), Array.getElem?_setIfInBounds_ne (by omega), Array.getElem?_setIfInBounds_ne (by omega)]; exact k3
theorem RgbOwn.congr {w : World} {base g n : Nat} {F G : Nat → Rgb3} (h : RgbOwn w base g n F) (e : ∀ j, j < n → F j = G j) : RgbOwn w base g n G := by
  obtain ⟨h1, cur, h2, h3, h4⟩ := h
  exact ⟨h1, cur, h2, h3, fun j hj => by rw [← e j hj]; exact h4 j hj⟩
theorem RgbOwn.grown {w w' : World} {base g n : Nat} {F : Nat → Rgb3} {row : Option Nat} (h : RgbOwn w base g n F) (hg : w.grownBy w' row) (hne : row ≠ some g) : RgbOwn w' base g n F := h.keep (hg.block g h.lt (Ne.symm hne))
/-- A slice that was handed back. -/
def RgbSL (w : World) (base : Nat) (a : Option Addr) (n : Nat) (F : Nat → Rgb3) : Prop := n = 0 ∨ ∃ g, a = some ⟨g, 0, none⟩ ∧ RgbOwn w base g n F
theorem RgbSL.came {w : World} {base : Nat} {a : Option Addr} {n : Nat} {F : Nat → Rgb3} (h : RgbSL w base a n F) : RgbCame w a n F := by
  rcases h with h | ⟨g, rfl, h⟩
  · exact .inl h
  · exact h.came
theorem RgbSL.called {w w' : World} {base : Nat} {a : Option Addr} {n : Nat} {F : Nat → Rgb3} (h : RgbSL w base a n F) (hb : Below w.heap.size w w') : RgbSL w' base a n F := by
  rcases h with h | ⟨g, rfl, h⟩
  · exact .inl h
  · exact .inr ⟨g, rfl, h.called hb⟩
end Go.Proofs.Ytcnlcbkgbcnloaa

namespace Go.Proofs.Ytcnlcbkgbcnloaa
namespace PutMath
open OutMath

theorem p2_8 {r : Nat} (h : r < 8) : p2 r ≤ 128 := by
  have h1 := p2_le (show r ≤ 7 by omega)
  have h2 : p2 7 = 128 := by decide +kernel
  omega

/-- A bit of a number. -/
def bitOf (x : Int) (k : Nat) : Int := x / p2 k % 2
theorem i64_and_nat (a b : Nat) (ha : a < 9223372036854775808) (hb : b < 9223372036854775808) : bits .and .i64 (a : Int) (b : Int) = ((a &&& b : Nat) : Int) := by
  have h1 : (BitVec.ofInt 64 (a : Int)).toNat = a := by
    rw [BitVec.ofInt_natCast, BitVec.toNat_ofNat]; exact Nat.mod_eq_of_lt (by omega)
  have h2 : (BitVec.ofInt 64 (b : Int)).toNat = b := by
    rw [BitVec.ofInt_natCast, BitVec.toNat_ofNat]; exact Nat.mod_eq_of_lt (by omega)
  have hx : a &&& b < 2 ^ 63 := Nat.and_lt_two_pow _ (by omega)
  show IntKind.i64.wrap ((BitVec.ofInt 64 (a : Int) &&& BitVec.ofInt 64 (b : Int)).toNat : Int) = _
  rw [BitVec.toNat_and, h1, h2, IntKind.wrap_i64]
  omega
end PutMath
end Go.Proofs.Ytcnlcbkgbcnloaa

namespace Go.Proofs.Ytcnlcbkgbcnloaa
namespace BitsMath
open OutMath PutMath TakeMath

theorem p2_add (a : Nat) : ∀ b, p2 (a + b) = p2 a * p2 b
  | 0 => by rw [p2_zero, Nat.add_zero]; omega
  | b + 1 => by rw [← Nat.add_assoc, p2_succ, p2_add a b, p2_succ, ← Int.mul_assoc, ← Int.mul_assoc, Int.mul_comm 2 (p2 a)]

section
variable {xs : List Int} {c : Nat} {f : Nat → Int}
end

section
variable {v : Nat → Int} {n : Nat → Nat}
end

theorem code_step (x : Int) (n k : Nat) (hk : k < n) : 2 * (x / p2 (n - k)) + bitOf x (n - 1 - k) = x / p2 (n - (k + 1)) := by
  have e : n - k = n - (k + 1) + 1 := by omega
  have e2 : n - 1 - k = n - (k + 1) := by omega
  unfold bitOf
  rw [e, e2, p2_succ, Int.mul_comm 2 (p2 _), ← Int.ediv_ediv_of_nonneg (by have := p2_pos (n - (k + 1)); omega)]
  generalize x / p2 (n - (k + 1)) = u
  omega
end BitsMath
end Go.Proofs.Ytcnlcbkgbcnloaa
