/-
  Heads, tables of colours and what is clear, in plain numbers. Nothing here speaks of the program.
-/
import Derived.Test.YtkpbfmdnjnohlaaOutMath
import Derived.Test.YtkpbfmdnjnohlaaBigMath
import Derived.Test.YtkpbfmdnjnohlaaBigTextMath
import Derived.Test.YtkpbfmdnjnohlaaTakeMath
import Derived.Test.YtkpbfmdnjnohlaaRastMath
import Derived.Test.YtkpbfmdnjnohlaaChunkMath
import Derived.WalkKit
namespace Go.Proofs.Ytkpbfmdnjnohlaa
namespace HeadMath
open Go.RowKit OutMath BigMath BigTextMath RastMath

abbrev Rgb3 := Int × Int × Int
/-- Is a head right? -/
abbrev HeadR (x y d c : Int) : Prop := SideR x ∧ SideR y ∧ DepthR c d
def laceN (l : Bool) : Int := if l then 1 else 0
/-- A byte of a text. -/
def tb (t : ByteArray) (i : Nat) : Nat := (t.data[i]?.getD 0).toNat
theorem tb_lt (t : ByteArray) (i : Nat) : tb t i < 256 := UInt8.toNat_lt _
theorem tb_at (t : ByteArray) (i : Nat) (h : i < t.size) : (t[i]'h).toNat = tb t i := by
  unfold tb
  rw [byte_at t i h]
/-- A head's text. -/
def headT (x y d c : Int) (l : Bool) : ByteArray := strOfNums (low x 4) ++ strOfNums (low y 4) ++ strOfNums [d, c, 0, 0, laceN l]
/-- The numbers that stand in a text. -/
def hx (t : ByteArray) : Int := rb t 0 4
def hy (t : ByteArray) : Int := rb t 4 4
def hd (t : ByteArray) : Int := (tb t 8 : Int)
def hc (t : ByteArray) : Int := (tb t 9 : Int)
def hl (t : ByteArray) : Bool := (tb t 12 : Int) == 1
/-- Is a text a right head's? -/
abbrev HeadIn (t : ByteArray) : Prop := t.size = 13 ∧ HeadR (hx t) (hy t) (hd t) (hc t) ∧ tb t 10 = 0 ∧ tb t 11 = 0 ∧ tb t 12 ≤ 1
theorem headT_size (x y d c : Int) (l : Bool) : (headT x y d c l).size = 13 := by
  unfold headT
  rw [ByteArray.size_append, ByteArray.size_append, strOfNums_size, strOfNums_size, strOfNums_size, low_length, low_length]
  rfl
theorem u8_tb (t : ByteArray) (i : Nat) : UInt8.ofNat (tb t i) = t.data[i]?.getD 0 := by
  unfold tb
  rw [UInt8.ofNat_toNat]
theorem big_list (n : Int) (h0 : 0 ≤ n) (h1 : n < 4294967296) : (strOfNums (low n 4)).data.toList = [UInt8.ofNat (n / 16777216).toNat, UInt8.ofNat (n / 65536 % 256).toNat, UInt8.ofNat (n / 256 % 256).toNat, UInt8.ofNat (n % 256).toNat] := by
  rw [low4 n h0 h1]
  rfl
theorem headT_list (x y d c : Int) (l : Bool) : (headT x y d c l).data.toList = (strOfNums (low x 4)).data.toList ++ (strOfNums (low y 4)).data.toList ++ [UInt8.ofNat d.toNat, UInt8.ofNat c.toNat, 0, 0, UInt8.ofNat (laceN l).toNat] := by
  unfold headT
  rw [ChunkMath.bx_app, ChunkMath.bx_app]
  rfl
theorem rb_text (t : ByteArray) (a : Nat) : rb t a 4 = 16777216 * (tb t a : Int) + 65536 * (tb t (a + 1) : Int) + 256 * (tb t (a + 2) : Int) + (tb t (a + 3) : Int) := ChunkMath.rb4_of t a
theorem rb_list (t : ByteArray) (a : Nat) : (strOfNums (low (rb t a 4) 4)).data.toList = [UInt8.ofNat (tb t a), UInt8.ofNat (tb t (a + 1)), UInt8.ofNat (tb t (a + 2)), UInt8.ofNat (tb t (a + 3))] := by
  have h := rb_lt t a 4 (by omega)
  have e := rb_text t a
  have b0 := tb_lt t a
  have b1 := tb_lt t (a + 1)
  have b2 := tb_lt t (a + 2)
  have b3 := tb_lt t (a + 3)
  rw [big_list _ h.1 h.2, show (rb t a 4 / 16777216).toNat = tb t a by omega, show (rb t a 4 / 65536 % 256).toNat = tb t (a + 1) by omega, show (rb t a 4 / 256 % 256).toNat = tb t (a + 2) by omega, show (rb t a 4 % 256).toNat = tb t (a + 3) by omega]
theorem list13 {α : Type} (l : List α) (h : l.length = 13) : ∃ a0 a1 a2 a3 a4 a5 a6 a7 a8 a9 a10 a11 a12, l = [a0, a1, a2, a3, a4, a5, a6, a7, a8, a9, a10, a11, a12] := by
  match l, h with
  | [a0, a1, a2, a3, a4, a5, a6, a7, a8, a9, a10, a11, a12], _ => exact ⟨a0, a1, a2, a3, a4, a5, a6, a7, a8, a9, a10, a11, a12, rfl⟩
/-- The text of what stands in a text of thirteen bytes is that text, just where its last bytes are as a head's. -/
theorem head_told (t : ByteArray) (h : t.size = 13) : headT (hx t) (hy t) (hd t) (hc t) (hl t) = t ↔ (tb t 10 = 0 ∧ tb t 11 = 0 ∧ tb t 12 ≤ 1) := by
  obtain ⟨a0, a1, a2, a3, a4, a5, a6, a7, a8, a9, a10, a11, a12, e⟩ := list13 t.data.toList (by rw [ChunkMath.bx_len]; exact h)
  have g : ∀ i, tb t i = ((t.data.toList[i]?).getD 0).toNat := fun i => by unfold tb; rw [ChunkMath.bx_get]
  have g0 : tb t 0 = a0.toNat := by rw [g, e]; rfl
  have g1 : tb t (0 + 1) = a1.toNat := by rw [g, e]; rfl
  have g2 : tb t (0 + 2) = a2.toNat := by rw [g, e]; rfl
  have g3 : tb t (0 + 3) = a3.toNat := by rw [g, e]; rfl
  have g4 : tb t 4 = a4.toNat := by rw [g, e]; rfl
  have g5 : tb t (4 + 1) = a5.toNat := by rw [g, e]; rfl
  have g6 : tb t (4 + 2) = a6.toNat := by rw [g, e]; rfl
  have g7 : tb t (4 + 3) = a7.toNat := by rw [g, e]; rfl
  have g8 : tb t 8 = a8.toNat := by rw [g, e]; rfl
  have g9 : tb t 9 = a9.toNat := by rw [g, e]; rfl
  have g10 : tb t 10 = a10.toNat := by rw [g, e]; rfl
  have g11 : tb t 11 = a11.toNat := by rw [g, e]; rfl
  have g12 : tb t 12 = a12.toNat := by rw [g, e]; rfl
  have HT : (headT (hx t) (hy t) (hd t) (hc t) (hl t)).data.toList = [a0, a1, a2, a3, a4, a5, a6, a7, a8, a9, 0, 0, UInt8.ofNat (laceN (hl t)).toNat] := by
    rw [headT_list]
    unfold hx hy hd hc
    rw [rb_list, rb_list, g0, g1, g2, g3, g4, g5, g6, g7, g8, g9]
    simp only [Int.toNat_natCast, UInt8.ofNat_toNat, List.cons_append, List.nil_append]
  have HL : (UInt8.ofNat (laceN (hl t)).toNat = a12) ↔ a12.toNat ≤ 1 := by
    unfold hl laceN
    rw [g12]
    by_cases e1 : a12.toNat = 1
    · rw [show ((a12.toNat : Int) == 1) = true by rw [e1]; rfl]
      refine ⟨fun _ => by omega, fun _ => ?_⟩
      rw [if_pos rfl]
      refine UInt8.toNat_inj.mp ?_
      rw [e1]
      rfl
    · rw [show ((a12.toNat : Int) == 1) = false by simp; omega]
      rw [if_neg (by simp)]
      constructor
      · intro q
        have : (UInt8.ofNat (0 : Int).toNat).toNat = a12.toNat := by rw [q]
        have z : (UInt8.ofNat (0 : Int).toNat).toNat = 0 := rfl
        omega
      · intro q
        refine UInt8.toNat_inj.mp ?_
        have z : (UInt8.ofNat (0 : Int).toNat).toNat = 0 := rfl
        omega
  have HZ : ∀ a : UInt8, (0 : UInt8) = a ↔ a.toNat = 0 := fun a => ⟨fun q => by rw [← q]; rfl, fun q => UInt8.toNat_inj.mp (by rw [q]; rfl)⟩
  rw [g10, g11, g12, ← HZ a10, ← HZ a11, ← HL]
  constructor
  · intro q
    have : (headT (hx t) (hy t) (hd t) (hc t) (hl t)).data.toList = t.data.toList := by rw [q]
    rw [HT, e] at this
    simp only [List.cons.injEq, true_and, and_true] at this
    exact this
  · rintro ⟨q0, q1, q2⟩
    refine ChunkMath.bx_ext ?_
    rw [HT, e, q2, ← q0, ← q1]
/-- A right head comes back from its text. -/
theorem head_back {x y d c : Int} (l : Bool) (h : HeadR x y d c) : HeadIn (headT x y d c l) ∧ hx (headT x y d c l) = x ∧ hy (headT x y d c l) = y ∧ hd (headT x y d c l) = d ∧ hc (headT x y d c l) = c ∧ hl (headT x y d c l) = l := by
  obtain ⟨⟨x0, x1⟩, ⟨y0, y1⟩, hdp⟩ := h
  have h5 := five_range (depth_five hdp)
  have hcr : 0 ≤ c ∧ c ≤ 6 := by
    rcases hdp with ⟨rfl, _⟩ | ⟨rfl, _⟩ | ⟨rfl | rfl | rfl, _⟩ <;> decide
  have g : ∀ i, tb (headT x y d c l) i = (((headT x y d c l).data.toList[i]?).getD 0).toNat := fun i => by unfold tb; rw [ChunkMath.bx_get]
  have HT := headT_list x y d c l
  rw [big_list x (by omega) (by omega), big_list y (by omega) (by omega)] at HT
  rw [HT] at g
  have u : ∀ z : Int, 0 ≤ z → z < 256 → ((UInt8.ofNat z.toNat).toNat : Int) = z := fun z z0 z1 => ChunkMath.u8_of z0 z1
  have e8 : (tb (headT x y d c l) 8 : Int) = d := by rw [g]; exact u d (by omega) (by omega)
  have e9 : (tb (headT x y d c l) 9 : Int) = c := by rw [g]; exact u c (by omega) (by omega)
  have e10 : tb (headT x y d c l) 10 = 0 := by rw [g]; rfl
  have e11 : tb (headT x y d c l) 11 = 0 := by rw [g]; rfl
  have e12 : (tb (headT x y d c l) 12 : Int) = laceN l := by rw [g]; exact u (laceN l) (by cases l <;> decide) (by cases l <;> decide)
  have ex : hx (headT x y d c l) = x := by
    unfold hx
    rw [rb_text, g, g, g, g]
    have r0 := u (x / 16777216) (by omega) (by omega)
    have r1 := u (x / 65536 % 256) (by omega) (by omega)
    have r2 := u (x / 256 % 256) (by omega) (by omega)
    have r3 := u (x % 256) (by omega) (by omega)
    show 16777216 * ((UInt8.ofNat (x / 16777216).toNat).toNat : Int) + 65536 * ((UInt8.ofNat (x / 65536 % 256).toNat).toNat : Int) + 256 * ((UInt8.ofNat (x / 256 % 256).toNat).toNat : Int) + ((UInt8.ofNat (x % 256).toNat).toNat : Int) = x
    rw [r0, r1, r2, r3]
    omega
  have ey : hy (headT x y d c l) = y := by
    unfold hy
    rw [rb_text, g, g, g, g]
    have r0 := u (y / 16777216) (by omega) (by omega)
    have r1 := u (y / 65536 % 256) (by omega) (by omega)
    have r2 := u (y / 256 % 256) (by omega) (by omega)
    have r3 := u (y % 256) (by omega) (by omega)
    show 16777216 * ((UInt8.ofNat (y / 16777216).toNat).toNat : Int) + 65536 * ((UInt8.ofNat (y / 65536 % 256).toNat).toNat : Int) + 256 * ((UInt8.ofNat (y / 256 % 256).toNat).toNat : Int) + ((UInt8.ofNat (y % 256).toNat).toNat : Int) = y
    rw [r0, r1, r2, r3]
    omega
  have ed : hd (headT x y d c l) = d := e8
  have ec : hc (headT x y d c l) = c := e9
  have el : hl (headT x y d c l) = l := by
    unfold hl
    rw [e12]
    cases l <;> rfl
  refine ⟨⟨headT_size x y d c l, ?_, e10, e11, ?_⟩, ex, ey, ed, ec, el⟩
  · rw [ex, ey, ed, ec]
    exact ⟨⟨x0, x1⟩, ⟨y0, y1⟩, hdp⟩
  · have : laceN l ≤ 1 := by cases l <;> decide
    omega

/-- Is a color right? -/
abbrev RgbR (c : Rgb3) : Prop := (0 ≤ c.1 ∧ c.1 ≤ 255) ∧ (0 ≤ c.2.1 ∧ c.2.1 ≤ 255) ∧ (0 ≤ c.2.2 ∧ c.2.2 ≤ 255)
/-- The numbers of colors. -/
def colN (F : Nat → Rgb3) : Nat → List Int
  | 0 => []
  | n + 1 => colN F n ++ [(F n).1, (F n).2.1, (F n).2.2]
theorem colN_next (F : Nat → Rgb3) (n : Nat) : colN F (n + 1) = colN F n ++ [(F n).1, (F n).2.1, (F n).2.2] := rfl
theorem colN_length (F : Nat → Rgb3) : ∀ n, (colN F n).length = 3 * n
  | 0 => rfl
  | n + 1 => by rw [colN_next, List.length_append, colN_length F n]; rfl
theorem colN_congr {F G : Nat → Rgb3} : ∀ n, (∀ i, i < n → F i = G i) → colN F n = colN G n
  | 0, _ => rfl
  | n + 1, h => by rw [colN_next, colN_next, colN_congr n fun i hi => h i (by omega), h n (by omega)]
def tableT (F : Nat → Rgb3) (n : Nat) : ByteArray := strOfNums (colN F n)
/-- Is a table right? -/
def TableR (F : Nat → Rgb3) (n : Nat) : Prop := (1 ≤ n ∧ n ≤ 256) ∧ ∀ i, i < n → RgbR (F i)
/-- Is a text a right table's? -/
abbrev TableIn (t : ByteArray) : Prop := t.size % 3 = 0 ∧ 1 ≤ t.size / 3 ∧ t.size / 3 ≤ 256
/-- The color that stands in a text. -/
def colA (t : ByteArray) (i : Nat) : Rgb3 := ((tb t (3 * i) : Int), (tb t (3 * i + 1) : Int), (tb t (3 * i + 2) : Int))
theorem colN_get (F : Nat → Rgb3) : ∀ n i, i < n → (colN F n)[3 * i]? = some (F i).1 ∧ (colN F n)[3 * i + 1]? = some (F i).2.1 ∧ (colN F n)[3 * i + 2]? = some (F i).2.2
  | 0, i, h => absurd h (Nat.not_lt_zero i)
  | n + 1, i, h => by
    have hl := colN_length F n
    rw [colN_next]
    by_cases e : i = n
    · subst e
      rw [List.getElem?_append_right (by omega), List.getElem?_append_right (by omega), List.getElem?_append_right (by omega), hl, show 3 * i - 3 * i = 0 by omega, show 3 * i + 1 - 3 * i = 1 by omega, show 3 * i + 2 - 3 * i = 2 by omega]
      exact ⟨rfl, rfl, rfl⟩
    · rw [List.getElem?_append_left (by omega), List.getElem?_append_left (by omega), List.getElem?_append_left (by omega)]
      exact colN_get F n i (by omega)
theorem tableT_size (F : Nat → Rgb3) (n : Nat) : (tableT F n).size = 3 * n := (strOfNums_size _).trans (colN_length F n)
theorem tb_nums (L : List Int) (i : Nat) (x : Int) (h : L[i]? = some x) (h0 : 0 ≤ x) (h1 : x ≤ 255) : (tb (strOfNums L) i : Int) = x := by
  unfold tb
  rw [ChunkMath.bx_get, strOfNums_data, List.getElem?_map, h]
  exact ChunkMath.u8_of h0 (by omega)
/-- A right table comes back from its text. -/
theorem table_back {F : Nat → Rgb3} {n : Nat} (h : TableR F n) : TableIn (tableT F n) ∧ (tableT F n).size / 3 = n ∧ ∀ i, i < n → colA (tableT F n) i = F i := by
  have hs := tableT_size F n
  have h1 := h.1
  refine ⟨by show _ % 3 = 0 ∧ 1 ≤ _ / 3 ∧ _ / 3 ≤ 256; omega, by omega, fun i hi => ?_⟩
  obtain ⟨g0, g1, g2⟩ := colN_get F n i hi
  obtain ⟨⟨a0, a1⟩, ⟨b0, b1⟩, ⟨c0, c1⟩⟩ := h.2 i hi
  unfold colA tableT
  rw [tb_nums _ _ _ g0 a0 a1, tb_nums _ _ _ g1 b0 b1, tb_nums _ _ _ g2 c0 c1]
/-- A text of a table is the text of the colors that stand in it. -/
theorem table_told (t : ByteArray) (n : Nat) (h : t.size = 3 * n) : tableT (colA t) n = t := by
  refine ChunkMath.bx_ext ?_
  refine List.ext_getElem? fun j => ?_
  have hs := tableT_size (colA t) n
  have hlt : t.data.toList.length = 3 * n := by rw [ChunkMath.bx_len]; exact h
  have hll : (tableT (colA t) n).data.toList.length = 3 * n := by rw [ChunkMath.bx_len]; exact hs
  by_cases hj : j < 3 * n
  · have e : ∀ k, k = j → t.data.toList[j]? = some (UInt8.ofNat (tb t k)) := fun k hk => by
      subst hk
      rw [u8_tb, ChunkMath.bx_get, List.getElem?_eq_getElem (by omega)]
      rfl
    unfold tableT
    rw [strOfNums_data, List.getElem?_map]
    obtain ⟨g0, g1, g2⟩ := colN_get (colA t) n (j / 3) (by omega)
    have hk : j = 3 * (j / 3) ∨ j = 3 * (j / 3) + 1 ∨ j = 3 * (j / 3) + 2 := by omega
    rcases hk with hk | hk | hk
    · rw [e (3 * (j / 3)) hk.symm, show (colN (colA t) n)[j]? = _ from (congrArg (fun q => (colN (colA t) n)[q]?) hk).trans g0]
      rfl
    · rw [e (3 * (j / 3) + 1) hk.symm, show (colN (colA t) n)[j]? = _ from (congrArg (fun q => (colN (colA t) n)[q]?) hk).trans g1]
      rfl
    · rw [e (3 * (j / 3) + 2) hk.symm, show (colN (colA t) n)[j]? = _ from (congrArg (fun q => (colN (colA t) n)[q]?) hk).trans g2]
      rfl
  · rw [List.getElem?_eq_none (by omega), List.getElem?_eq_none (by omega)]
end HeadMath
end Go.Proofs.Ytkpbfmdnjnohlaa
