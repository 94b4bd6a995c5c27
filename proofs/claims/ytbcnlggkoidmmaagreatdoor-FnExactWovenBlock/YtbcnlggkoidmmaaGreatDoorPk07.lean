/-
  Parts of a block: numbers and codes, each in so many bits; the bits of a list of parts. Nothing here speaks of the program.
  The symbols of tokens, in order: each by the first code or the second, with its extra bits. Nothing here speaks of the program.
  The parts of a block's body: each symbol's code and extra bits, as the model gathers them and as the program does. Nothing here speaks of the program.
  A block of type 2, in plain numbers: the lengths of both codes, their Runs, the third code, and all its parts. Nothing here speaks of the program.
  The walk of the model's 'in least .. most'.
-/
import Derived.Test.YtbcnlggkoidmmaaGreatDoorPk02
import Derived.Test.YtbcnlggkoidmmaaGreatDoorPk01
import Derived.Test.YtbcnlggkoidmmaaGreatDoorPk06
import Derived.Test.YtbcnlggkoidmmaaGreatDoorPk05
import Derived.Test.YtbcnlggkoidmmaaGreatDoorRows
import Derived.WalkKit
import Derived.ProofKit
import Derived.WalkLawsBesides
namespace Go.Proofs.YtbcnlggkoidmmaaGreatDoor
namespace PartMath
open OutMath PutMath BlockMath

/-- A part: its number, in how many bits, whether the highest one comes first. -/
abbrev Part := Int × Nat × Bool
def bitsP (p : Part) : List Int := pieceBits p.1 p.2.1 p.2.2
/-- The bits of parts, in order. -/
def partBits : List Part → List Int
  | [] => []
  | p :: l => bitsP p ++ partBits l
theorem partBits_app : ∀ a b : List Part, partBits (a ++ b) = partBits a ++ partBits b
  | [], _ => rfl
  | p :: l, b => by
    show bitsP p ++ partBits (l ++ b) = (bitsP p ++ partBits l) ++ partBits b
    rw [partBits_app l b, List.append_assoc]
theorem bits01_nil : Bits01 [] := fun i => by simp
theorem partBits_01 : ∀ l : List Part, Bits01 (partBits l)
  | [] => bits01_nil
  | _ :: l => (pieceBits_01 _ _ _).append (partBits_01 l)
theorem bitsP_length (p : Part) : (bitsP p).length = p.2.1 := pieceBits_length _ _ _
/-- A part that can be put. -/
def Right (p : Part) : Prop := 0 ≤ p.1 ∧ p.1 ≤ 16777216 ∧ p.2.1 ≤ 24
theorem partBits_take {l : List Part} {j : Nat} (h : j < l.length) : partBits (l.take (j + 1)) = partBits (l.take j) ++ bitsP (l.getD j (0, 0, false)) := by
  rw [List.take_add_one, List.getElem?_eq_getElem h, partBits_app, List.getD_eq_getElem?_getD, List.getElem?_eq_getElem h]
  show _ ++ (bitsP _ ++ []) = _
  rw [List.append_nil]
  rfl
/-- The first parts have no more bits than all. -/
theorem partBits_take_le : ∀ (l : List Part) (j : Nat), (partBits (l.take j)).length ≤ (partBits l).length
  | [], _ => by simp
  | _ :: _, 0 => Nat.zero_le _
  | p :: l, j + 1 => by
    show (bitsP p ++ partBits (l.take j)).length ≤ (bitsP p ++ partBits l).length
    have := partBits_take_le l j
    rw [List.length_append, List.length_append]
    omega
theorem putB_nil (xs : List Int) (c : Nat) : putB xs c [] = xs := rfl
/-- A part of no bits tells nothing. -/
theorem bitsP_none (x : Int) (h : Bool) : bitsP (x, 0, h) = [] := rfl
end PartMath
end Go.Proofs.YtbcnlggkoidmmaaGreatDoor

namespace Go.Proofs.YtbcnlggkoidmmaaGreatDoor
namespace TellMath
open TokMath StepMath

/-- A symbol, how many extra bits it has, and these. -/
abbrev Cod := Int × Int × Int
def symsT (t : Tok) : List (Bool × Cod) := if t.2.1 = 0 then [(false, (t.1, 0, 0))] else [(false, LengthCodeOf t.2.1), (true, DistCodeOf t.2.2)]
def symsL (L : List Tok) : List (Bool × Cod) := L.flatMap symsT
theorem symsT_byte (x z : Int) : symsT (x, 0, z) = [(false, (x, 0, 0))] := if_pos rfl
theorem symsT_rep (x : Int) {y : Int} (z : Int) (h : y ≠ 0) : symsT (x, y, z) = [(false, LengthCodeOf y), (true, DistCodeOf z)] := if_neg h
theorem symsL_snoc {L : List Tok} {j : Nat} (h : j < L.length) : symsL (L.take (j + 1)) = symsL (L.take j) ++ symsT (L.getD j (0, 0, 0)) := by
  unfold symsL
  rw [List.take_add_one, List.getElem?_eq_getElem h, List.flatMap_append, List.getD_eq_getElem?_getD, List.getElem?_eq_getElem h]
  simp
theorem symsT_length (t : Tok) : (symsT t).length ≤ 2 := by
  unfold symsT
  split <;> simp
theorem symsL_length : ∀ L : List Tok, (symsL L).length ≤ 2 * L.length
  | [] => Nat.le_refl _
  | t :: L => by
    have h1 := symsL_length L
    have h2 := symsT_length t
    show (symsT t ++ symsL L).length ≤ _
    rw [List.length_append, List.length_cons]
    omega
end TellMath
end Go.Proofs.YtbcnlggkoidmmaaGreatDoor

namespace Go.Proofs.YtbcnlggkoidmmaaGreatDoor
namespace BodyMath
open OutMath TokMath StepMath CodeMath HitMath TokLenMath TellMath BlockMath PartMath

section
variable (f1 : Nat → Int) (n1 : Nat) (f2 : Nat → Int) (n2 : Nat)
/-- A symbol's code. -/
def codeP (f : Nat → Int) (n i : Nat) : Part := (codeOf f n i, (f i).toNat, true)
/-- A symbol's code and its extra bits. -/
def symP (x : Bool × Cod) : List Part := [if x.1 = true then codeP f2 n2 x.2.1.toNat else codeP f1 n1 x.2.1.toNat, (x.2.2.2, x.2.2.1.toNat, false)]
def symsP (S : List (Bool × Cod)) : List Part := S.flatMap (symP f1 n1 f2 n2)
/-- A token's parts, as the model gathers them. -/
def tokP (t : Tok) : List Part :=
  if t.2.1 = 0 then [codeP f1 n1 t.1.toNat] else [codeP f1 n1 (LengthCodeOf t.2.1).1.toNat, ((LengthCodeOf t.2.1).2.2, (LengthCodeOf t.2.1).2.1.toNat, false), codeP f2 n2 (DistCodeOf t.2.2).1.toNat, ((DistCodeOf t.2.2).2.2, (DistCodeOf t.2.2).2.1.toNat, false)]
def toksP (L : List Tok) : List Part := L.flatMap (tokP f1 n1 f2 n2)
def bodyP (L : List Tok) : List Part := toksP f1 n1 f2 n2 L ++ [codeP f1 n1 256]
/-- What the body's bits are. -/
def bodyBits (L : List Tok) : List Int := partBits (bodyP f1 n1 f2 n2 L)
end
section
variable {f1 : Nat → Int} {n1 : Nat} {f2 : Nat → Int} {n2 : Nat}
theorem partBits_one (p : Part) : partBits [p] = bitsP p := List.append_nil _
theorem symP_bits (t : Tok) : partBits (symsP f1 n1 f2 n2 (symsT t)) = partBits (tokP f1 n1 f2 n2 t) := by
  obtain ⟨x, y, z⟩ := t
  by_cases hy : y = 0
  · subst hy
    rw [symsT_byte]
    unfold tokP
    rw [if_pos rfl, partBits_one]
    show bitsP (codeP f1 n1 x.toNat) ++ (bitsP (0, 0, false) ++ []) = _
    rw [bitsP_none, List.append_nil, List.append_nil]
  · rw [symsT_rep _ _ hy]
    unfold tokP
    rw [if_neg hy]
    rfl
theorem symsP_app (a b : List (Bool × Cod)) : symsP f1 n1 f2 n2 (a ++ b) = symsP f1 n1 f2 n2 a ++ symsP f1 n1 f2 n2 b := List.flatMap_append
theorem toksP_bits : ∀ L : List Tok, partBits (symsP f1 n1 f2 n2 (symsL L)) = partBits (toksP f1 n1 f2 n2 L)
  | [] => rfl
  | t :: L => by
    have e1 : symsL (t :: L) = symsT t ++ symsL L := rfl
    have e2 : toksP f1 n1 f2 n2 (t :: L) = tokP f1 n1 f2 n2 t ++ toksP f1 n1 f2 n2 L := rfl
    rw [e1, e2, symsP_app, partBits_app, partBits_app, symP_bits, toksP_bits L]
/-- What the program gathers tells the same bits. -/
theorem progP_bits (L : List Tok) : partBits (symsP f1 n1 f2 n2 (symsL L ++ [(false, (256, 0, 0))])) = bodyBits f1 n1 f2 n2 L := by
  unfold bodyBits bodyP
  rw [symsP_app, partBits_app, toksP_bits, partBits_app, partBits_one]
  show _ ++ (bitsP (codeP f1 n1 256) ++ (bitsP (0, 0, false) ++ [])) = _
  rw [bitsP_none, List.append_nil, List.append_nil]
theorem toksP_snoc {L : List Tok} {j : Nat} (h : j < L.length) : toksP f1 n1 f2 n2 (L.take (j + 1)) = toksP f1 n1 f2 n2 (L.take j) ++ tokP f1 n1 f2 n2 (L.getD j (0, 0, 0)) := by
  unfold toksP
  rw [List.take_add_one, List.getElem?_eq_getElem h, List.flatMap_append, List.getD_eq_getElem?_getD, List.getElem?_eq_getElem h]
  simp
theorem tokP_length (t : Tok) : (tokP f1 n1 f2 n2 t).length ≤ 4 := by
  unfold tokP
  split <;> simp
theorem toksP_length : ∀ L : List Tok, (toksP f1 n1 f2 n2 L).length ≤ 4 * L.length
  | [] => Nat.le_refl _
  | t :: L => by
    have h1 := toksP_length L
    have h2 := tokP_length (f1 := f1) (n1 := n1) (f2 := f2) (n2 := n2) t
    show (tokP f1 n1 f2 n2 t ++ toksP f1 n1 f2 n2 L).length ≤ _
    rw [List.length_append, List.length_cons]
    omega
theorem symsP_length : ∀ S : List (Bool × Cod), (symsP f1 n1 f2 n2 S).length = 2 * S.length
  | [] => rfl
  | x :: S => by
    show (symP f1 n1 f2 n2 x ++ symsP f1 n1 f2 n2 S).length = _
    rw [List.length_append, symsP_length S, List.length_cons]
    show 2 + _ = _
    omega
end
/-- Codes by which a body can be told. -/
structure BodyOk (f1 : Nat → Int) (n1 : Nat) (f2 : Nat → Int) (n2 : Nat) (L : List Tok) : Prop where
  c1 : Coded f1 n1
  e1 : 256 < n1
  m2 : n2 ≤ 288
  w2 : ∀ i, i < n2 → 0 ≤ f2 i ∧ f2 i ≤ 15
  right : ∀ t ∈ L, TokRight t
  s1 : ∀ t ∈ L, sym1 t < n1
  s2 : ∀ t ∈ L, t.2.1 ≠ 0 → Coded f2 n2 ∧ sym2 t < n2
theorem codeP_right {f : Nat → Int} {n i : Nat} (h : Coded f n) (hi : i < n) : Right (codeP f n i) := by
  have h1 := code_lt h hi
  have h2 := h.2.1 i hi
  have h3 := p2_le (show (f i).toNat ≤ 24 by omega)
  have h4 : p2 24 = 16777216 := by decide +kernel
  refine ⟨h1.1, ?_, ?_⟩
  · show codeOf f n i ≤ 16777216
    omega
  · show (f i).toNat ≤ 24
    omega
theorem lenCode_small {y : Int} (h : 3 ≤ y ∧ y ≤ 258) : (0 ≤ (LengthCodeOf y).2.1 ∧ (LengthCodeOf y).2.1 ≤ 6) ∧ 0 ≤ (LengthCodeOf y).2.2 ∧ (LengthCodeOf y).2.2 ≤ 258 := by
  unfold LengthCodeOf
  rw [if_pos h]
  unfold lenCode
  split
  · have hf := (len_fact (n := y.toNat) (by omega) (by omega)).1
    have hb : bitsN 4 (findN 3 4 y.toNat 28) ≤ 6 := by unfold bitsN; omega
    simp only []
    omega
  · simp only []
    omega
theorem distCode_small {z : Int} (h : 1 ≤ z ∧ z ≤ 32768) : (0 ≤ (DistCodeOf z).2.1 ∧ (DistCodeOf z).2.1 ≤ 14) ∧ 0 ≤ (DistCodeOf z).2.2 ∧ (DistCodeOf z).2.2 ≤ 32768 := by
  unfold DistCodeOf
  rw [if_pos h]
  unfold distCode
  have hf := (dist_fact (n := z.toNat) (by omega) (by omega)).1
  have hb : bitsN 2 (findN 1 2 z.toNat 30) ≤ 14 := by unfold bitsN; omega
  simp only []
  omega
section
variable {f1 : Nat → Int} {n1 : Nat} {f2 : Nat → Int} {n2 : Nat} {L : List Tok}
/-- Of a symbol that is told: it has a code, and its extra bits are small. -/
theorem BodyOk.sym (h : BodyOk f1 n1 f2 n2 L) {t : Tok} (ht : t ∈ L) : ∀ x ∈ symsT t, (0 ≤ x.2.1 ∧ (if x.1 = true then Coded f2 n2 ∧ x.2.1.toNat < n2 else x.2.1.toNat < n1)) ∧ (0 ≤ x.2.2.1 ∧ x.2.2.1 ≤ 14) ∧ 0 ≤ x.2.2.2 ∧ x.2.2.2 ≤ 32768 := by
  intro q hq
  have hT := h.right t ht
  have hs1 := h.s1 t ht
  have hs2 := h.s2 t ht
  obtain ⟨x, y, z⟩ := t
  unfold TokRight at hT
  by_cases hy : y = 0
  · subst hy
    rw [if_pos rfl] at hT
    rw [symsT_byte, List.mem_singleton] at hq
    subst hq
    rw [sym1_byte] at hs1
    refine ⟨⟨hT.1.1, ?_⟩, by simp only []; omega, by simp only []; omega⟩
    rw [if_neg (by simp)]
    exact hs1
  · rw [if_neg hy] at hT
    obtain ⟨_, hy2, hz2⟩ := hT
    have ha := len_range (y := y) hy2
    have hb := dist_range (z := z) hz2
    have hc := lenCode_small (y := y) hy2
    have hd := distCode_small (z := z) hz2
    rw [sym1_rep hy] at hs1
    rw [symsT_rep _ _ hy] at hq
    rcases List.mem_cons.mp hq with rfl | hq
    · refine ⟨⟨by simp only []; omega, ?_⟩, by simp only []; omega, by simp only []; omega⟩
      rw [if_neg (by simp)]
      exact hs1
    · rw [List.mem_singleton] at hq
      subst hq
      refine ⟨⟨by simp only []; omega, ?_⟩, by simp only []; omega, by simp only []; omega⟩
      rw [if_pos rfl]
      exact hs2 hy
theorem BodyOk.symR (h : BodyOk f1 n1 f2 n2 L) {t : Tok} (ht : t ∈ L) : ∀ x ∈ symsT t, ∀ p ∈ symP f1 n1 f2 n2 x, Right p := by
  intro x hx p hp
  obtain ⟨⟨k0, k1⟩, k2, k3⟩ := h.sym ht x hx
  unfold symP at hp
  rcases List.mem_cons.mp hp with rfl | hp
  · by_cases hb : x.1 = true
    · rw [if_pos hb] at k1 ⊢
      exact codeP_right k1.1 k1.2
    · rw [if_neg hb] at k1 ⊢
      exact codeP_right h.c1 k1
  · rw [List.mem_singleton] at hp
    subst hp
    refine ⟨k3.1, ?_, ?_⟩ <;> simp only [] <;> omega
theorem BodyOk.progR (h : BodyOk f1 n1 f2 n2 L) : ∀ p ∈ symsP f1 n1 f2 n2 (symsL L ++ [(false, (256, 0, 0))]), Right p := by
  intro p hp
  obtain ⟨x, hx, hp⟩ := List.mem_flatMap.mp hp
  rcases List.mem_append.mp hx with hx | hx
  · obtain ⟨t, ht, hx⟩ := List.mem_flatMap.mp hx
    exact h.symR ht x hx p hp
  · rw [List.mem_singleton] at hx
    subst hx
    unfold symP at hp
    rcases List.mem_cons.mp hp with rfl | hp
    · rw [if_neg (by simp)]
      exact codeP_right h.c1 h.e1
    · rw [List.mem_singleton] at hp
      subst hp
      exact ⟨by simp, by simp, by simp⟩
theorem BodyOk.tokR (h : BodyOk f1 n1 f2 n2 L) {t : Tok} (ht : t ∈ L) : ∀ p ∈ tokP f1 n1 f2 n2 t, Right p := by
  intro p hp
  obtain ⟨x, y, z⟩ := t
  by_cases hy : y = 0
  · subst hy
    have hR := h.symR ht (false, (x, 0, 0)) (by rw [symsT_byte]; exact List.mem_singleton.mpr rfl)
    unfold tokP at hp
    rw [if_pos rfl, List.mem_singleton] at hp
    subst hp
    exact hR _ (List.mem_cons_self ..)
  · have h1 := h.symR ht (false, LengthCodeOf y) (by rw [symsT_rep _ _ hy]; exact List.mem_cons_self ..)
    have h2 := h.symR ht (true, DistCodeOf z) (by rw [symsT_rep _ _ hy]; exact List.mem_cons_of_mem _ (List.mem_cons_self ..))
    unfold tokP at hp
    rw [if_neg hy] at hp
    rcases List.mem_cons.mp hp with rfl | hp
    · exact h1 _ (List.mem_cons_self ..)
    · rcases List.mem_cons.mp hp with rfl | hp
      · exact h1 _ (List.mem_cons_of_mem _ (List.mem_cons_self ..))
      · rcases List.mem_cons.mp hp with rfl | hp
        · exact h2 _ (List.mem_cons_self ..)
        · rw [List.mem_singleton] at hp
          subst hp
          exact h2 _ (List.mem_cons_of_mem _ (List.mem_cons_self ..))
theorem BodyOk.bodyR (h : BodyOk f1 n1 f2 n2 L) : ∀ p ∈ bodyP f1 n1 f2 n2 L, Right p := by
  intro p hp
  rcases List.mem_append.mp hp with hp | hp
  · obtain ⟨t, ht, hp⟩ := List.mem_flatMap.mp hp
    exact h.tokR ht p hp
  · rw [List.mem_singleton] at hp
    subst hp
    exact codeP_right h.c1 h.e1
end
end BodyMath
end Go.Proofs.YtbcnlggkoidmmaaGreatDoor

namespace Go.Proofs.YtbcnlggkoidmmaaGreatDoor
namespace WovenMath
open OutMath TokMath StepMath CodeMath PackageMath RunsMath InfMath TrimMath TokLenMath BlockMath PartMath BodyMath

theorem room_ones (f : Nat → Int) : ∀ n, room (fun i => if f i = 0 then 0 else 1) n = 16384 * (posN f n : Int)
  | 0 => rfl
  | n + 1 => by
    have ih := room_ones f n
    have e : posN f (n + 1) = posN f n + (if decide (f n ≠ 0) = true then 1 else 0) := rfl
    show room (fun i => if f i = 0 then 0 else 1) n + (if 0 < (if f n = 0 then (0 : Int) else 1) then p2 (15 - (if f n = 0 then (0 : Int) else 1)).toNat else 0) = _
    rw [ih, e]
    by_cases h : f n = 0
    · rw [if_pos h, if_neg (by omega), if_neg (by simp [h])]
      omega
    · rw [if_neg h, if_pos (by omega), if_pos (by simp [h]), show p2 ((15 : Int) - 1).toNat = 16384 by decide +kernel]
      omega
theorem room_zero {f : Nat → Int} (h : ∀ i, f i = 0) : ∀ n, room f n = 0
  | 0 => rfl
  | n + 1 => by
    show room f n + (if 0 < f n then _ else 0) = 0
    rw [room_zero h n, h n, if_neg (by omega)]
    rfl
section
variable {f : Nat → Int} {n : Nat} {z : Int}
theorem lim_room (hR : LimitRight f n z) : room (limLen f n z) n ≤ 32768 := by
  by_cases h0 : posN f n = 0
  · rw [room_zero (fun i => (lim_none h0 i).symm) n]
    omega
  · by_cases h1 : posN f n = 1
    · have e : limLen f n z = fun i => if f i = 0 then 0 else 1 := by
        funext i
        unfold limLen
        rw [if_neg h0, if_pos h1]
      rw [e, room_ones, h1]
      omega
    · rw [lim_whole hR (by omega)]
      omega
theorem lim_coded (hR : LimitRight f n z) {m : Nat} (hm : m ≤ n) : Coded (limLen f n z) m := by
  refine ⟨by have := hR.1; omega, fun i hi => ?_, ?_⟩
  · have hs := lim_shape hR i (by omega)
    have hz := hR.2.2.1
    by_cases h : f i = 0
    · rw [hs.1 h]; omega
    · have := hs.2 h; omega
  · obtain ⟨d, rfl⟩ : ∃ d, n = m + d := ⟨n - m, by omega⟩
    have h1 := room_up (limLen f (m + d) z) m d
    have h2 := lim_room hR
    omega
end

theorem cntA_pos {L : List Tok} {t : Tok} (ht : t ∈ L) : cntA L (sym1 t) ≠ 0 := by
  unfold cntA
  have : 0 < (L.filter fun u => decide (sym1 u = sym1 t)).length := List.length_pos_of_mem (List.mem_filter.mpr ⟨ht, by simp⟩)
  split <;> omega
theorem cntB_pos {L : List Tok} {t : Tok} (ht : t ∈ L) (hy : t.2.1 ≠ 0) : cntB L (sym2 t) ≠ 0 := by
  unfold cntB
  have : 0 < (L.filter fun u => decide (u.2.1 ≠ 0 ∧ sym2 u = sym2 t)).length := List.length_pos_of_mem (List.mem_filter.mpr ⟨ht, by simp [hy]⟩)
  omega
section
variable {L : List Tok}
theorem limA (h : TokensRight L) : LimitRight (cntA L) 286 15 := limit_right (n := 286) (by omega) (fun i => cntA_le h.2 h.1 i)
theorem limB (h : TokensRight L) : LimitRight (cntB L) 30 15 := limit_right (n := 30) (by omega) (fun i => cntB_le h.1 i)
theorem sizeA_bd (L : List Tok) : 257 ≤ sizeA L ∧ sizeA L ≤ 286 := ⟨trimN_ge _ 257 286 (by omega), trimN_le _ _ _⟩
theorem sizeB_bd (L : List Tok) : 1 ≤ sizeB L ∧ sizeB L ≤ 30 := ⟨trimN_ge _ 1 30 (by omega), trimN_le _ _ _⟩
theorem codedA (h : TokensRight L) : Coded (lenA L) (sizeA L) := lim_coded (limA h) (sizeA_bd L).2
theorem codedB (h : TokensRight L) : Coded (lenB L) (sizeB L) := lim_coded (limB h) (sizeB_bd L).2
/-- The codes of TokenLengths can tell these tokens. -/
theorem woven_body (h : TokensRight L) : BodyOk (lenA L) (sizeA L) (lenB L) (sizeB L) L where
  c1 := codedA h
  e1 := by have := (sizeA_bd L).1; omega
  m2 := by have := (sizeB_bd L).2; omega
  w2 := (codedB h).2.1
  right := h.2
  s1 := fun t ht => by
    rcases Nat.lt_or_ge (sym1 t) (sizeA L) with q | q
    · exact q
    · have hl := (sym1_lt (h.2 t ht)).1
      have h0 := trimN_out (lenA L) 257 286 (sym1 t) q hl
      have h1 := (lim_shape (limA h) (sym1 t) hl).2 (cntA_pos ht)
      have h2 : limLen (cntA L) 286 15 (sym1 t) = 0 := h0
      omega
  s2 := fun t ht hy => by
    refine ⟨codedB h, ?_⟩
    rcases Nat.lt_or_ge (sym2 t) (sizeB L) with q | q
    · exact q
    · have hT := h.2 t ht
      have hl : sym2 t < 30 := by
        obtain ⟨x, y, z⟩ := t
        unfold TokRight at hT
        rw [if_neg hy] at hT
        have := dist_range (z := z) hT.2.2
        unfold sym2
        simp only []
        omega
      have h0 := trimN_out (lenB L) 1 30 (sym2 t) q hl
      have h1 := (lim_shape (limB h) (sym2 t) hl).2 (cntB_pos ht hy)
      have h2 : limLen (cntB L) 30 15 (sym2 t) = 0 := h0
      omega
end

/-- Both codes' lengths, one behind the other, and their Runs. -/
def fC (L : List Tok) (i : Nat) : Int := if i < sizeA L then lenA L i else lenB L (i - sizeA L)
def nC (L : List Tok) : Nat := sizeA L + sizeB L
theorem nC_le (L : List Tok) : nC L ≤ 316 := by
  have h1 := (sizeA_bd L).2
  have h2 := (sizeB_bd L).2
  unfold nC
  omega
theorem fineC {L : List Tok} (h : TokensRight L) : Fine (fC L) (nC L) := by
  intro i hi
  unfold fC
  split
  · rename_i q
    exact (codedA h).2.1 i q
  · exact (codedB h).2.1 _ (by unfold nC at hi; omega)
def runsW (L : List Tok) : List (Int × Int) := rest (fC L) (nC L) 0
theorem runsW_length (L : List Tok) : (runsW L).length ≤ 316 := by
  have h1 := rest_length (fC L) (nC L) _ 0 rfl
  have h2 := nC_le L
  unfold runsW
  omega
/-- A Run's symbol. -/
theorem runAt_sym {f : Nat → Int} {n i : Nat} (hf : Fine f n) (hi : i < n) : 0 ≤ (runAt f n i).1.1 ∧ (runAt f n i).1.1 ≤ 18 := by
  have h3 := hf i hi
  unfold runAt
  split
  · show (0 : Int) ≤ 18 ∧ (18 : Int) ≤ 18
    omega
  · split
    · show (0 : Int) ≤ 17 ∧ (17 : Int) ≤ 18
      omega
    · split
      · show (0 : Int) ≤ 16 ∧ (16 : Int) ≤ 18
        omega
      · show 0 ≤ f i ∧ f i ≤ 18
        omega
theorem rest_sym {f : Nat → Int} {n : Nat} (hf : Fine f n) : ∀ d i, n - i = d → ∀ r ∈ rest f n i, 0 ≤ r.1 ∧ r.1 ≤ 18 := by
  intro d
  induction d using Nat.strongRecOn with
  | ind d ih =>
    intro i hd r hr
    by_cases h : i < n
    · rw [rest_more h] at hr
      rcases List.mem_cons.mp hr with rfl | hr
      · exact runAt_sym hf h
      · have hp := runAt_pos f n i
        exact ih (n - (i + (runAt f n i).2)) (by omega) _ rfl r hr
    · rw [rest_none h] at hr
      cases hr
/-- How often each symbol of Runs comes. -/
def cntR (R : List (Int × Int)) (i : Nat) : Int := ((R.filter fun r => decide (r.1.toNat = i)).length : Int)
theorem cntR_bd (R : List (Int × Int)) (i : Nat) : 0 ≤ cntR R i ∧ cntR R i ≤ R.length := by
  unfold cntR
  have := List.length_filter_le (fun r : Int × Int => decide (r.1.toNat = i)) R
  omega
theorem cntR_snoc (R : List (Int × Int)) (r : Int × Int) (i : Nat) : upd (cntR R) r.1.toNat (cntR R r.1.toNat + 1) i = cntR (R ++ [r]) i := by
  unfold upd cntR
  rw [List.filter_append, List.length_append]
  by_cases h : i = r.1.toNat
  · subst h
    rw [if_pos rfl]
    simp
  · rw [if_neg h]
    have : ¬ r.1.toNat = i := fun e => h e.symm
    simp [this]
theorem limR {R : List (Int × Int)} (hR : R.length ≤ 316) : LimitRight (cntR R) 19 7 := by
  refine ⟨by omega, by omega, by omega, fun i _ => ?_, ?_⟩
  · have := cntR_bd R i
    omega
  · have := cN_le (fun i => decide (cntR R i ≠ 0)) 19
    unfold posN
    rw [show (7 : Int).toNat = 7 from rfl, show (2 : Int) ^ 7 = 128 by decide]
    omega
/-- The third code's lengths; where just one has a length, a second one gets the length 1. -/
def th0 (R : List (Int × Int)) : Nat → Int := limLen (cntR R) 19 7
def third (R : List (Int × Int)) : Nat → Int := if kindOf (th0 R) 19 = 3 then (if th0 R 0 = 0 then upd (th0 R) 0 1 else upd (th0 R) 1 1) else th0 R
theorem room_upd {g : Nat → Int} {j : Nat} (h : g j = 0) : ∀ n, room (upd g j 1) n = room g n + (if j < n then 16384 else 0)
  | 0 => rfl
  | n + 1 => by
    have ih := room_upd h n
    show room (upd g j 1) n + (if 0 < upd g j 1 n then p2 (15 - upd g j 1 n).toNat else 0) = room g n + (if 0 < g n then p2 (15 - g n).toNat else 0) + _
    rw [ih]
    by_cases e : n = j
    · subst e
      have e1 : upd g n 1 n = 1 := if_pos rfl
      rw [e1, h, if_neg (show ¬ n < n by omega), if_pos (show (0 : Int) < 1 by omega), if_neg (show ¬ (0 : Int) < 0 by omega), if_pos (show n < n + 1 by omega), show p2 ((15 : Int) - 1).toNat = 16384 by decide +kernel]
      try omega
    · have e1 : upd g j 1 n = g n := if_neg e
      rw [e1]
      by_cases q : j < n
      · rw [if_pos q, if_pos (show j < n + 1 by omega)]
        omega
      · rw [if_neg q, if_neg (show ¬ j < n + 1 by omega)]
        omega
theorem cnt_mono (g : Nat → Int) (a : Nat) : ∀ d, CodeMath.cnt g a ≤ CodeMath.cnt g (a + d)
  | 0 => Int.le_refl _
  | d + 1 => by
    have := cnt_mono g a d
    show _ ≤ CodeMath.cnt g (a + d) + (if 0 < g (a + d) then 1 else 0)
    split <;> omega
theorem third_single {R : List (Int × Int)} (_hR : R.length ≤ 316) (hk : kindOf (th0 R) 19 = 3) : CodeMath.cnt (th0 R) 19 = 1 ∧ room (th0 R) 19 = 16384 := by
  unfold kindOf at hk
  split at hk
  · omega
  · split at hk
    · omega
    · split at hk
      · omega
      · split at hk
        · assumption
        · omega
theorem th0_ok {R : List (Int × Int)} (hR : R.length ≤ 316) (i : Nat) (hi : i < 19) : 0 ≤ th0 R i ∧ th0 R i ≤ 7 := by
  have hs := lim_shape (limR hR) i hi
  by_cases h : cntR R i = 0
  · have := hs.1 h
    unfold th0
    omega
  · have := hs.2 h
    unfold th0
    omega
theorem third_ok {R : List (Int × Int)} (hR : R.length ≤ 316) (i : Nat) (hi : i < 19) : 0 ≤ third R i ∧ third R i ≤ 7 := by
  have h0 := th0_ok hR i hi
  unfold third
  split
  · split
    · unfold upd
      split <;> omega
    · unfold upd
      split <;> omega
  · exact h0
theorem third_coded {R : List (Int × Int)} (hR : R.length ≤ 316) : Coded (third R) 19 := by
  refine ⟨by omega, fun i hi => by have := third_ok hR i hi; omega, ?_⟩
  have hl := lim_room (limR hR)
  unfold third
  split
  · rename_i hk
    obtain ⟨hc, hr⟩ := third_single hR hk
    split
    · rename_i h0
      rw [room_upd h0, hr, if_pos (by omega)]
      omega
    · rename_i h0
      have h1 : th0 R 1 = 0 := by
        have hm := cnt_mono (th0 R) 2 17
        rw [show 2 + 17 = 19 from rfl, hc] at hm
        have e2 : CodeMath.cnt (th0 R) 2 = (0 + (if 0 < th0 R 0 then 1 else 0)) + (if 0 < th0 R 1 then 1 else 0) := rfl
        rw [e2] at hm
        have a0 := th0_ok hR 0 (by omega)
        have a1 := th0_ok hR 1 (by omega)
        rw [if_pos (by omega)] at hm
        split at hm
        · omega
        · omega
      rw [room_upd h1, hr, if_pos (by omega)]
      omega
  · exact hl
/-- As they are told: in the order of chapter 8, without what is 0 at the end, but 4 at least. -/
def toldF (R : List (Int × Int)) (i : Nat) : Int := third R (orderL.getD i 0)
def toldN (R : List (Int × Int)) : Nat := trimN (toldF R) 4 19
theorem toldN_bd (R : List (Int × Int)) : 4 ≤ toldN R ∧ toldN R ≤ 19 := ⟨trimN_ge _ 4 19 (by omega), trimN_le _ _ _⟩
def toldP (R : List (Int × Int)) : List Part := (List.range (toldN R)).map fun i => (toldF R i, 3, false)
def runP (R : List (Int × Int)) (r : Int × Int) : List Part := [codeP (third R) 19 r.1.toNat, (r.2, bitsOf r.1, false)]
def runsP (R Q : List (Int × Int)) : List Part := Q.flatMap (runP R)
def wovenHead (L : List Tok) : List Part := [((sizeA L : Int) - 257, 5, false), ((sizeB L : Int) - 1, 5, false), ((toldN (runsW L) : Int) - 4, 4, false)]
/-- All that tells both codes. -/
def lensP (L : List Tok) : List Part := wovenHead L ++ toldP (runsW L) ++ runsP (runsW L) (runsW L)
/-- What WovenBlock comes to. -/
def wovenOut (s : ByteArray) (c : Int) (L : List Tok) (last : Bool) : Option (ByteArray × Nat) :=
  if TokensRight L then (outSt s c).bind fun o => bitsOut o (headBits 2 last ++ (partBits (lensP L) ++ bodyBits (lenA L) (sizeA L) (lenB L) (sizeB L) L)) else none
theorem order_lt (i : Nat) : orderL.getD i 0 < 19 := by
  rcases Nat.lt_or_ge i 19 with h | h
  · have : ∀ j, j < 19 → orderL.getD j 0 < 19 := by decide +kernel
    exact this i h
  · rw [List.getD_eq_getElem?_getD, List.getElem?_eq_none (by simpa [orderL] using h)]
    decide
theorem lensP_right {L : List Tok} (h : TokensRight L) : ∀ p ∈ lensP L, Right p := by
  intro p hp
  have hA := sizeA_bd L
  have hB := sizeB_bd L
  have hT := toldN_bd (runsW L)
  have hl := runsW_length L
  rcases List.mem_append.mp hp with hp | hp
  · rcases List.mem_append.mp hp with hp | hp
    · unfold wovenHead at hp
      simp only [List.mem_cons, List.not_mem_nil, or_false] at hp
      rcases hp with rfl | rfl | rfl
      · refine ⟨?_, ?_, ?_⟩ <;> simp only [] <;> omega
      · refine ⟨?_, ?_, ?_⟩ <;> simp only [] <;> omega
      · refine ⟨?_, ?_, ?_⟩ <;> simp only [] <;> omega
    · obtain ⟨i, _, rfl⟩ := List.mem_map.mp hp
      have := third_ok hl (orderL.getD i 0) (order_lt i)
      refine ⟨this.1, ?_, ?_⟩
      · show third _ _ ≤ 16777216
        omega
      · show 3 ≤ 24
        omega
  · obtain ⟨r, hr, hp⟩ := List.mem_flatMap.mp hp
    have hs := rest_sym (fineC h) _ 0 rfl r hr
    have hx := rest_fine (fineC h) _ 0 rfl r hr
    unfold runP at hp
    rcases List.mem_cons.mp hp with rfl | hp
    · exact codeP_right (third_coded hl) (by omega)
    · rw [List.mem_singleton] at hp
      subst hp
      have hb : bitsOf r.1 ≤ 7 := by
        unfold bitsOf
        split
        · omega
        · split
          · omega
          · split <;> omega
      have hpw : (2 : Int) ^ bitsOf r.1 ≤ 128 := by
        have : ∀ m : Nat, m ≤ 7 → (2 : Int) ^ m ≤ 128 := by decide +kernel
        exact this _ hb
      refine ⟨hx.1, ?_, ?_⟩ <;> simp only [] <;> omega
end WovenMath
end Go.Proofs.YtbcnlggkoidmmaaGreatDoor

namespace Go.Proofs.YtbcnlggkoidmmaaGreatDoor
open Go.RowKit

theorem in_yes (x a b : Int) (w : World) (h1 : a ≤ x) (h2 : x ≤ b) :
    Calls Tryz.prog 59 #[.int .i64 x, .int .i64 a, .int .i64 b] w fun e w' => e = .returned (.bool true) ∧ w' = w := by
  go_enter Tryz.func59, Tryz.ntmps59
  go_wp2
  go_ret
  exact ⟨rfl, rfl⟩

theorem in_no (x a b : Int) (w : World) (h : ¬ (a ≤ x ∧ x ≤ b)) :
    Calls Tryz.prog 59 #[.int .i64 x, .int .i64 a, .int .i64 b] w fun e w' => e = .returned (.bool false) ∧ w' = w := by
  by_cases h1 : a ≤ x
  · have h2 : ¬ x ≤ b := fun k => h ⟨h1, k⟩
    clear h
    go_enter Tryz.func59, Tryz.ntmps59
    go_wp2
    go_ret
    exact ⟨rfl, rfl⟩
  · clear h
    go_enter Tryz.func59, Tryz.ntmps59
    go_wp2
    go_ret
    exact ⟨rfl, rfl⟩

end Go.Proofs.YtbcnlggkoidmmaaGreatDoor
