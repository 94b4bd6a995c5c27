/-
  Heads, tables of colours and what is clear, in plain numbers. Nothing here speaks of the program.
  Heads in memory, and what is answered of them.
  The walk of the model's 'in least .. most'.
-/
import Derived.Test.YtcnlcbkgbcnloaaHk04
import Derived.Test.YtcnlcbkgbcnloaaHk05
import Derived.Test.YtcnlcbkgbcnloaaRows
import Derived.Test.YtcnlcbkgbcnloaaHk01
import Derived.WalkKit
import Derived.Below
import Derived.Laws.MakeOwn
import Derived.Lib.SmallJoins
import Derived.ProofKit
import Derived.WalkLawsBesides
namespace Go.Proofs.Ytcnlcbkgbcnloaa
namespace HeadMath
open Go.RowKit OutMath BigMath BigTextMath RastMath

abbrev Rgb3 := Int × Int × Int
/-- Is a head right? -/
abbrev HeadR (x y d c : Int) : Prop := SideR x ∧ SideR y ∧ DepthR c d
def laceN (l : Bool) : Int := if l then 1 else 0
/-- A byte of a text. -/
def tb (t : ByteArray) (i : Nat) : Nat := (t.data[i]?.getD 0).toNat
theorem tb_lt (t : ByteArray) (i : Nat) : tb t i < 256 := UInt8.toNat_lt _
theorem tb_at (t : ByteArray) (i : Nat) (h : i < t.size) : (t[i]'h).toNat = tb t i := by
  unfold tb
  rw [byte_at t i h]
/-- A head's text. -/
def headT (x y d c : Int) (l : Bool) : ByteArray := strOfNums (low x 4) ++ strOfNums (low y 4) ++ strOfNums [d, c, 0, 0, laceN l]
/-- The numbers that stand in a text. -/
def hx (t : ByteArray) : Int := rb t 0 4
def hy (t : ByteArray) : Int := rb t 4 4
def hd (t : ByteArray) : Int := (tb t 8 : Int)
def hc (t : ByteArray) : Int := (tb t 9 : Int)
def hl (t : ByteArray) : Bool := (tb t 12 : Int) == 1
/-- Is a text a right head's? -/
abbrev HeadIn (t : ByteArray) : Prop := t.size = 13 ∧ HeadR (hx t) (hy t) (hd t) (hc t) ∧ tb t 10 = 0 ∧ tb t 11 = 0 ∧ tb t 12 ≤ 1
theorem headT_size (x y d c : Int) (l : Bool) : (headT x y d c l).size = 13 := by
  unfold headT
  rw [ByteArray.size_append, ByteArray.size_append, strOfNums_size, strOfNums_size, strOfNums_size, low_length, low_length]
  rfl
theorem big_list (n : Int) (h0 : 0 ≤ n) (h1 : n < 4294967296) : (strOfNums (low n 4)).data.toList = [UInt8.ofNat (n / 16777216).toNat, UInt8.ofNat (n / 65536 % 256).toNat, UInt8.ofNat (n / 256 % 256).toNat, UInt8.ofNat (n % 256).toNat] := by
  rw [low4 n h0 h1]
  rfl
theorem headT_list (x y d c : Int) (l : Bool) : (headT x y d c l).data.toList = (strOfNums (low x 4)).data.toList ++ (strOfNums (low y 4)).data.toList ++ [UInt8.ofNat d.toNat, UInt8.ofNat c.toNat, 0, 0, UInt8.ofNat (laceN l).toNat] := by
  unfold headT
  rw [ChunkMath.bx_app, ChunkMath.bx_app]
  rfl
theorem rb_text (t : ByteArray) (a : Nat) : rb t a 4 = 16777216 * (tb t a : Int) + 65536 * (tb t (a + 1) : Int) + 256 * (tb t (a + 2) : Int) + (tb t (a + 3) : Int) := ChunkMath.rb4_of t a
/-- A right head comes back from its text. -/
theorem head_back {x y d c : Int} (l : Bool) (h : HeadR x y d c) : HeadIn (headT x y d c l) ∧ hx (headT x y d c l) = x ∧ hy (headT x y d c l) = y ∧ hd (headT x y d c l) = d ∧ hc (headT x y d c l) = c ∧ hl (headT x y d c l) = l := by
  obtain ⟨⟨x0, x1⟩, ⟨y0, y1⟩, hdp⟩ := h
  have h5 := five_range (depth_five hdp)
  have hcr : 0 ≤ c ∧ c ≤ 6 := by
    rcases hdp with ⟨rfl, _⟩ | ⟨rfl, _⟩ | ⟨rfl | rfl | rfl, _⟩ <;> decide
  have g : ∀ i, tb (headT x y d c l) i = (((headT x y d c l).data.toList[i]?).getD 0).toNat := fun i => by unfold tb; rw [ChunkMath.bx_get]
  have HT := headT_list x y d c l
  rw [big_list x (by omega) (by omega), big_list y (by omega) (by omega)] at HT
  rw [HT] at g
  have u : ∀ z : Int, 0 ≤ z → z < 256 → ((UInt8.ofNat z.toNat).toNat : Int) = z := fun z z0 z1 => ChunkMath.u8_of z0 z1
  have e8 : (tb (headT x y d c l) 8 : Int) = d := by rw [g]; exact u d (by omega) (by omega)
  have e9 : (tb (headT x y d c l) 9 : Int) = c := by rw [g]; exact u c (by omega) (by omega)
  have e10 : tb (headT x y d c l) 10 = 0 := by rw [g]; rfl
  have e11 : tb (headT x y d c l) 11 = 0 := by rw [g]; rfl
  have e12 : (tb (headT x y d c l) 12 : Int) = laceN l := by rw [g]; exact u (laceN l) (by cases l <;> decide) (by cases l <;> decide)
  have ex : hx (headT x y d c l) = x := by
    unfold hx
    rw [rb_text, g, g, g, g]
    have r0 := u (x / 16777216) (by omega) (by omega)
    have r1 := u (x / 65536 % 256) (by omega) (by omega)
    have r2 := u (x / 256 % 256) (by omega) (by omega)
    have r3 := u (x % 256) (by omega) (by omega)
    show 16777216 * ((UInt8.ofNat (x / 16777216).toNat).toNat : Int) + 65536 * ((UInt8.ofNat (x / 65536 % 256).toNat).toNat : Int) + 256 * ((UInt8.ofNat (x / 256 % 256).toNat).toNat : Int) + ((UInt8.ofNat (x % 256).toNat).toNat : Int) = x
    rw [r0, r1, r2, r3]
    omega
  have ey : hy (headT x y d c l) = y := by
    unfold hy
    rw [rb_text, g, g, g, g]
    have r0 := u (y / 16777216) (by omega) (by omega)
    have r1 := u (y / 65536 % 256) (by omega) (by omega)
    have r2 := u (y / 256 % 256) (by omega) (by omega)
    have r3 := u (y % 256) (by omega) (by omega)
    show 16777216 * ((UInt8.ofNat (y / 16777216).toNat).toNat : Int) + 65536 * ((UInt8.ofNat (y / 65536 % 256).toNat).toNat : Int) + 256 * ((UInt8.ofNat (y / 256 % 256).toNat).toNat : Int) + ((UInt8.ofNat (y % 256).toNat).toNat : Int) = y
    rw [r0, r1, r2, r3]
    omega
  have ed : hd (headT x y d c l) = d := e8
  have ec : hc (headT x y d c l) = c := e9
  have el : hl (headT x y d c l) = l := by
    unfold hl
    rw [e12]
    cases l <;> rfl
  refine ⟨⟨headT_size x y d c l, ?_, e10, e11, ?_⟩, ex, ey, ed, ec, el⟩
  · rw [ex, ey, ed, ec]
    exact ⟨⟨x0, x1⟩, ⟨y0, y1⟩, hdp⟩
  · have : laceN l ≤ 1 := by cases l <;> decide
    omega

/-- Is a color right? -/
abbrev RgbR (c : Rgb3) : Prop := (0 ≤ c.1 ∧ c.1 ≤ 255) ∧ (0 ≤ c.2.1 ∧ c.2.1 ≤ 255) ∧ (0 ≤ c.2.2 ∧ c.2.2 ≤ 255)
/-- The numbers of colors. -/
def colN (F : Nat → Rgb3) : Nat → List Int
  | 0 => []
  | n + 1 => colN F n ++ [(F n).1, (F n).2.1, (F n).2.2]
theorem colN_next (F : Nat → Rgb3) (n : Nat) : colN F (n + 1) = colN F n ++ [(F n).1, (F n).2.1, (F n).2.2] := rfl
theorem colN_length (F : Nat → Rgb3) : ∀ n, (colN F n).length = 3 * n
  | 0 => rfl
  | n + 1 => by rw [colN_next, List.length_append, colN_length F n]; rfl
def tableT (F : Nat → Rgb3) (n : Nat) : ByteArray := strOfNums (colN F n)
/-- Is a table right? -/
def TableR (F : Nat → Rgb3) (n : Nat) : Prop := (1 ≤ n ∧ n ≤ 256) ∧ ∀ i, i < n → RgbR (F i)
/-- Is a text a right table's? -/
abbrev TableIn (t : ByteArray) : Prop := t.size % 3 = 0 ∧ 1 ≤ t.size / 3 ∧ t.size / 3 ≤ 256
/-- The color that stands in a text. -/
def colA (t : ByteArray) (i : Nat) : Rgb3 := ((tb t (3 * i) : Int), (tb t (3 * i + 1) : Int), (tb t (3 * i + 2) : Int))
theorem colN_get (F : Nat → Rgb3) : ∀ n i, i < n → (colN F n)[3 * i]? = some (F i).1 ∧ (colN F n)[3 * i + 1]? = some (F i).2.1 ∧ (colN F n)[3 * i + 2]? = some (F i).2.2
  | 0, i, h => absurd h (Nat.not_lt_zero i)
  | n + 1, i, h => by
    have hl := colN_length F n
    rw [colN_next]
    by_cases e : i = n
    · subst e
      rw [List.getElem?_append_right (by omega), List.getElem?_append_right (by omega), List.getElem?_append_right (by omega), hl, show 3 * i - 3 * i = 0 by omega, show 3 * i + 1 - 3 * i = 1 by omega, show 3 * i + 2 - 3 * i = 2 by omega]
      exact ⟨rfl, rfl, rfl⟩
    · rw [List.getElem?_append_left (by omega), List.getElem?_append_left (by omega), List.getElem?_append_left (by omega)]
      exact colN_get F n i (by omega)
theorem tableT_size (F : Nat → Rgb3) (n : Nat) : (tableT F n).size = 3 * n := (strOfNums_size _).trans (colN_length F n)
theorem tb_nums (L : List Int) (i : Nat) (x : Int) (h : L[i]? = some x) (h0 : 0 ≤ x) (h1 : x ≤ 255) : (tb (strOfNums L) i : Int) = x := by
  unfold tb
  rw [ChunkMath.bx_get, strOfNums_data, List.getElem?_map, h]
  exact ChunkMath.u8_of h0 (by omega)
/-- A right table comes back from its text. -/
theorem table_back {F : Nat → Rgb3} {n : Nat} (h : TableR F n) : TableIn (tableT F n) ∧ (tableT F n).size / 3 = n ∧ ∀ i, i < n → colA (tableT F n) i = F i := by
  have hs := tableT_size F n
  have h1 := h.1
  refine ⟨by show _ % 3 = 0 ∧ 1 ≤ _ / 3 ∧ _ / 3 ≤ 256; omega, by omega, fun i hi => ?_⟩
  obtain ⟨g0, g1, g2⟩ := colN_get F n i hi
  obtain ⟨⟨a0, a1⟩, ⟨b0, b1⟩, ⟨c0, c1⟩⟩ := h.2 i hi
  unfold colA tableT
  rw [tb_nums _ _ _ g0 a0 a1, tb_nums _ _ _ g1 b0 b1, tb_nums _ _ _ g2 c0 c1]
end HeadMath
end Go.Proofs.Ytcnlcbkgbcnloaa

namespace Go.Proofs.Ytcnlcbkgbcnloaa
open Go.RowKit Go.Joins RastMath BigTextMath HeadMath

theorem head_cells {w : World} {b : Nat} {x y d c : Int} {l : Bool} (h : w.heap[b]? = some (.cells #[.int .i64 x, .int .i64 y, .int .i64 d, .int .i64 c, .bool l] 25 (0, 0))) : w.cell? ⟨b, 0, none⟩ = some (.int .i64 x) ∧ w.cell? ⟨b, 1, none⟩ = some (.int .i64 y) ∧ w.cell? ⟨b, 2, none⟩ = some (.int .i64 d) ∧ w.cell? ⟨b, 3, none⟩ = some (.int .i64 c) ∧ w.cell? ⟨b, 4, none⟩ = some (.bool l) :=
  ⟨(cell_of_block h 0).trans rfl, (cell_of_block h 1).trans rfl, (cell_of_block h 2).trans rfl, (cell_of_block h 3).trans rfl, (cell_of_block h 4).trans rfl⟩
/-- What HeadText answers. -/
def headAns (x y d c : Int) (l : Bool) : Ending := if HeadR x y d c then .returned (.tuple #[.string (headT x y d c l), .bool true]) else .returned (.tuple #[.string ⟨#[]⟩, .bool false])
/-- What ReadHead answers. -/
def readHAns (t : ByteArray) : Ending := if HeadIn t then .returned (.tuple #[.agg #[.int .i64 (hx t), .int .i64 (hy t), .int .i64 (hd t), .int .i64 (hc t), .bool (hl t)], .bool true]) else .returned (.tuple #[.agg #[.int .i64 0, .int .i64 0, .int .i64 0, .int .i64 0, .bool false], .bool false])
theorem readHAns_yes {t : ByteArray} (h : HeadIn t) : readHAns t = .returned (.tuple #[.agg #[.int .i64 (hx t), .int .i64 (hy t), .int .i64 (hd t), .int .i64 (hc t), .bool (hl t)], .bool true]) := if_pos h
theorem readHAns_no {t : ByteArray} (h : ¬ HeadIn t) : readHAns t = .returned (.tuple #[.agg #[.int .i64 0, .int .i64 0, .int .i64 0, .int .i64 0, .bool false], .bool false]) := if_neg h
theorem conv5 {u : World} {g : Nat} {a0 a1 a2 a3 a4 : Int} (h : u.heap[g]? = some (.cells #[.int .u8 a0, .int .u8 a1, .int .u8 a2, .int .u8 a3, .int .u8 a4] 5 (0, 0))) : (convert 22 9 (.slice (some ⟨g, 0, none⟩) 5 5)).run Try.prog u = .ok (.string (strOfNums [a0, a1, a2, a3, a4])) u := by
  refine run_convert_bytes_arg _ 22 5 Try.underlying22 Try.underlying5 g 0 5 5 [a0, a1, a2, a3, a4] rfl ?_ 9 Try.underlying9
  intro i hi
  rw [Nat.zero_add, cell_of_block h i]
  match i, hi with
  | 0, _ => rfl
  | 1, _ => rfl
  | 2, _ => rfl
  | 3, _ => rfl
  | 4, _ => rfl
  | k + 5, hk => omega
end Go.Proofs.Ytcnlcbkgbcnloaa

namespace Go.Proofs.Ytcnlcbkgbcnloaa
open Go.RowKit

theorem in_yes (x a b : Int) (w : World) (h1 : a ≤ x) (h2 : x ≤ b) :
    Calls Try.prog 57 #[.int .i64 x, .int .i64 a, .int .i64 b] w fun e w' => e = .returned (.bool true) ∧ w' = w := by
  go_enter Try.func57, Try.ntmps57
  go_wp2
  go_ret
  exact ⟨rfl, rfl⟩

theorem in_no (x a b : Int) (w : World) (h : ¬ (a ≤ x ∧ x ≤ b)) :
    Calls Try.prog 57 #[.int .i64 x, .int .i64 a, .int .i64 b] w fun e w' => e = .returned (.bool false) ∧ w' = w := by
  by_cases h1 : a ≤ x
  · have h2 : ¬ x ≤ b := fun k => h ⟨h1, k⟩
    clear h
    go_enter Try.func57, Try.ntmps57
    go_wp2
    go_ret
    exact ⟨rfl, rfl⟩
  · clear h
    go_enter Try.func57, Try.ntmps57
    go_wp2
    go_ret
    exact ⟨rfl, rfl⟩

end Go.Proofs.Ytcnlcbkgbcnloaa
