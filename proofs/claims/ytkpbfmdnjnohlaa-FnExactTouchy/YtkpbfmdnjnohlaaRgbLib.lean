/-
  Lists of colors (three numbers each) in memory. Nothing here speaks of the program but the numbers of its types.
-/
import Derived.Test.YtkpbfmdnjnohlaaRows
import Derived.Test.YtkpbfmdnjnohlaaBase
import Derived.Test.YtkpbfmdnjnohlaaHeadMath
import Derived.WalkKit
import Derived.ProofKit
import Derived.Below
import Derived.OwnWalk
import Derived.Deep.AppendLies
import Derived.Maps.AppendAt
import Derived.Laws.AppendOwnNone
import Derived.Lib.SmallJoins
namespace Go.Proofs.Ytkpbfmdnjnohlaa
open Go.RowKit Go.Joins HeadMath

theorem info_rgb : (Try.prog.info? 90).map (fun i => (i.zero, i.size, i.bytes)) = some (some (.agg #[.int .i64 0, .int .i64 0, .int .i64 0]), 3, 24) := by kernel_rfl

/-- The cells of colors. -/
def rgbTcells : List Rgb3 → List Value
  | [] => []
  | c :: l => .int .i64 c.1 :: .int .i64 c.2.1 :: .int .i64 c.2.2 :: rgbTcells l
theorem rgbTcells_length : ∀ l : List Rgb3, (rgbTcells l).length = l.length * 3
  | [] => rfl
  | c :: l => by
    show (rgbTcells l).length + 1 + 1 + 1 = (l.length + 1) * 3
    rw [rgbTcells_length l]
    omega
theorem rgbTcells_app : ∀ xs ys : List Rgb3, rgbTcells (xs ++ ys) = rgbTcells xs ++ rgbTcells ys
  | [], ys => rfl
  | c :: l, ys => by
    show Value.int .i64 c.1 :: .int .i64 c.2.1 :: .int .i64 c.2.2 :: rgbTcells (l ++ ys) = Value.int .i64 c.1 :: .int .i64 c.2.1 :: .int .i64 c.2.2 :: (rgbTcells l ++ rgbTcells ys)
    rw [rgbTcells_app l ys]
theorem rgbTcells_get : ∀ (l : List Rgb3) (i : Nat), i < l.length → (rgbTcells l)[i * 3]? = some (.int .i64 (l.getD i (0, 0, 0)).1) ∧ (rgbTcells l)[i * 3 + 1]? = some (.int .i64 (l.getD i (0, 0, 0)).2.1) ∧ (rgbTcells l)[i * 3 + 2]? = some (.int .i64 (l.getD i (0, 0, 0)).2.2)
  | [], i, h => by simp at h
  | c :: l, 0, _ => ⟨rfl, rfl, rfl⟩
  | c :: l, i + 1, h => by
    have q := rgbTcells_get l i (by simpa using h)
    rw [show (i + 1) * 3 = i * 3 + 1 + 1 + 1 by omega]
    exact q
theorem rgbTcells_one : ∀ (l : List Rgb3), ∀ u ∈ rgbTcells l, u.oneCell' = true
  | [], u, h => by cases h
  | c :: l, u, h => by
    rcases List.mem_cons.mp h with rfl | h
    · rfl
    · rcases List.mem_cons.mp h with rfl | h
      · rfl
      · rcases List.mem_cons.mp h with rfl | h
        · rfl
        · exact rgbTcells_one l u h

/-- A slice of colors that came in. -/
def RgbCame (w : World) (a : Option Addr) (n : Nat) (F : Nat → Rgb3) : Prop :=
  n = 0 ∨ ∃ g off, a = some ⟨g, off, none⟩ ∧ g < w.heap.size ∧ ∀ j, j < n → w.cell? ⟨g, off + j * 3, none⟩ = some (.int .i64 (F j).1) ∧ w.cell? ⟨g, off + j * 3 + 1, none⟩ = some (.int .i64 (F j).2.1) ∧ w.cell? ⟨g, off + j * 3 + 2, none⟩ = some (.int .i64 (F j).2.2)
theorem RgbCame.called {w w' : World} {a : Option Addr} {n : Nat} {F : Nat → Rgb3} (h : RgbCame w a n F) (hb : Below w.heap.size w w') : RgbCame w' a n F := by
  rcases h with h | ⟨g, off, ha, hg, hc⟩
  · exact .inl h
  · exact .inr ⟨g, off, ha, Nat.lt_of_lt_of_le hg hb.size, fun j hj => ⟨(hb.cell (p := ⟨g, off + j * 3, none⟩) hg).trans (hc j hj).1, (hb.cell (p := ⟨g, off + j * 3 + 1, none⟩) hg).trans (hc j hj).2.1, (hb.cell (p := ⟨g, off + j * 3 + 2, none⟩) hg).trans (hc j hj).2.2⟩⟩
/-- A part of it. -/
theorem RgbCame.part {w : World} {g off n m k : Nat} {F : Nat → Rgb3} (h : RgbCame w (some ⟨g, off, none⟩) n F) (hk : k + m ≤ n) : RgbCame w (some ⟨g, off + k * 3, none⟩) m (fun j => F (k + j)) := by
  rcases Nat.eq_zero_or_pos m with h0 | h0
  · exact .inl h0
  · rcases h with h | ⟨g', off', ha, hg, hc⟩
    · omega
    · cases ha
      refine .inr ⟨g, off + k * 3, rfl, hg, fun j hj => ?_⟩
      have q := hc (k + j) (by omega)
      rw [show off + k * 3 + j * 3 = off + (k + j) * 3 by omega]
      exact q
theorem RgbCame.shorter {w : World} {a : Option Addr} {n m : Nat} {F : Nat → Rgb3} (h : RgbCame w a n F) (hm : m ≤ n) : RgbCame w a m F := by
  rcases h with h | ⟨g, off, ha, hg, hc⟩
  · exact .inl (by omega)
  · exact .inr ⟨g, off, ha, hg, fun j hj => hc j (by omega)⟩
theorem RgbCame.congr {w : World} {a : Option Addr} {n : Nat} {F G : Nat → Rgb3} (h : RgbCame w a n F) (e : ∀ j, j < n → F j = G j) : RgbCame w a n G := by
  rcases h with h | ⟨g, off, ha, hg, hc⟩
  · exact .inl h
  · exact .inr ⟨g, off, ha, hg, fun j hj => by rw [← e j hj]; exact hc j hj⟩
/-- The slice at the head of block g is the call's own. -/
def RgbOwn (w : World) (base g n : Nat) (F : Nat → Rgb3) : Prop := base ≤ g ∧ ∃ cur, w.heap[g]? = some (.cells cur 90 (0, 0)) ∧ n * 3 ≤ cur.size ∧ ∀ j, j < n → cur[j * 3]? = some (.int .i64 (F j).1) ∧ cur[j * 3 + 1]? = some (.int .i64 (F j).2.1) ∧ cur[j * 3 + 2]? = some (.int .i64 (F j).2.2)
theorem RgbOwn.lt {w : World} {base g n : Nat} {F : Nat → Rgb3} (h : RgbOwn w base g n F) : g < w.heap.size := by
  obtain ⟨_, cur, h2, _⟩ := h
  exact block_lt h2
theorem RgbOwn.keep {w w' : World} {base g n : Nat} {F : Nat → Rgb3} (h : RgbOwn w base g n F) (hk : w'.heap[g]? = w.heap[g]?) : RgbOwn w' base g n F := by
  obtain ⟨h1, cur, h2, h3⟩ := h
  exact ⟨h1, cur, hk.trans h2, h3⟩
theorem RgbOwn.called {w w' : World} {base g n : Nat} {F : Nat → Rgb3} (h : RgbOwn w base g n F) (hb : Below w.heap.size w w') : RgbOwn w' base g n F := h.keep (hb.block g h.lt)
theorem RgbOwn.came {w : World} {base g n : Nat} {F : Nat → Rgb3} (h : RgbOwn w base g n F) : RgbCame w (some ⟨g, 0, none⟩) n F := by
  refine .inr ⟨g, 0, rfl, h.lt, fun j hj => ?_⟩
  obtain ⟨_, cur, h2, h3, h4⟩ := h
  rw [Nat.zero_add, cell_of_block h2, cell_of_block h2, cell_of_block h2]
  exact h4 j hj
/-- What a call owns, by its places. -/
theorem rgbTcame_of_own {w : World} {S n : Nat} {v : Value} {L : List Rgb3} (h : w.ownsRow S 90 3 v n (rgbTcells L)) (hn : n = L.length) : ∃ a c, v = .slice a L.length c ∧ L.length ≤ c ∧ c ≤ maxLen ∧ (a = none → c = 0) ∧ RgbCame w a L.length (fun j => L.getD j (0, 0, 0)) ∧ (∀ ad, a = some ad → ∃ g, ad = ⟨g, 0, none⟩ ∧ S ≤ g) := by
  subst hn
  rcases h.2 with ⟨rfl, h0⟩ | ⟨g, cap, cur, rfl, hb, hg, hc, hm, hs, ht⟩
  · exact ⟨none, 0, by rw [h0], by omega, Nat.zero_le _, fun _ => rfl, .inl h0, fun ad e => by cases e⟩
  · refine ⟨_, cap, rfl, hc, hm, (fun e => by cases e), .inr ⟨g, 0, rfl, block_lt hg, fun j hj => ?_⟩, fun ad e => by cases e; exact ⟨g, rfl, hb⟩⟩
    have q := rgbTcells_get L j hj
    rw [Nat.zero_add, h.cellAt (j * 3) (by omega), h.cellAt (j * 3 + 1) (by omega), h.cellAt (j * 3 + 2) (by omega)]
    exact q
theorem rgb_called {w w' : World} {S n : Nat} {v : Value} {L : List Rgb3} (h : w.ownsRow S 90 3 v n (rgbTcells L)) (hb : Below w.heap.size w w') : w'.ownsRow S 90 3 v n (rgbTcells L) := by
  refine ⟨h.1, ?_⟩
  rcases h.2 with h | ⟨g, cap, cur, rfl, h1, h2, h3⟩
  · exact .inl h
  · exact .inr ⟨g, cap, cur, rfl, h1, (hb.block g (block_lt h2)).trans h2, h3⟩

/-- 'append(v, ys...)' of colors. -/
theorem rgbs_append {w : World} {S : Nat} {v : Value} {xs ys : List Rgb3} {ops : Array Oper} {rest : List Oper} {o : Oper} {a : Act} {Q : Exit → Act → World → Prop} (hgd : o.guard = none) (s x : Operand)
    (ho : o.op = .call { callee := .builtin .append, args := #[s, x], argTypes := #[38, 38] }) (hs : a.eval s = v) (h : w.ownsRow S 90 3 v xs.length (rgbTcells xs)) (ad : Addr) (m c : Nat) (hx : a.eval x = .slice (some ad) m c) (hm : ys.length = m)
    (hc : ∀ j u, (rgbTcells ys)[j]? = some u → w.cell? (ad.add j) = some u)
    (h63 : xs.length + ys.length ≤ 100000) (hS : S ≤ w.heap.size)
    (hK : ∀ v' w', w'.ownsRow S 90 3 v' (xs ++ ys).length (rgbTcells (xs ++ ys)) → w.grownBy w' v.ownBlock → wpList Try.prog ops Q rest (a.put o.dst v') w') : wpList Try.prog ops Q (o :: rest) a w := by
  obtain ⟨i0, hi0, hz0, hz1, hz2⟩ := info_parts info_rgb
  refine wpList_append_own_at w hgd s x _ ho S 90 i0 _ 3 24 Try.underlying38 hi0 hz0 hz1 hz2 rfl (by omega) v _ _ hs h ad m c (rgbTcells ys) hx (by rw [rgbTcells_length, hm]) hc (rgbTcells_one ys) (by unfold maxLen; omega) (by omega) hS ?_
  intro v' w' hown hg _ _
  refine hK v' w' ?_ hg
  rw [List.length_append, rgbTcells_app, hm]
  exact hown

end Go.Proofs.Ytkpbfmdnjnohlaa
