/-
  The parts of a block's body: each symbol's code and extra bits, as the model gathers them and as the program does. Nothing here speaks of the program.
  What a block of type 1 is to be. Nothing here speaks of the program.
  What the program's FixedBlock is to answer.
  What is handed back, by its number. Nothing here speaks of the program.
  The walk of the model's powers of two.
  The walks of what the exact laws do with an Out.
  The walks of the laws' helpers that hold tokens against tokens.
-/
import Derived.Test.YtbcnlggkoidmmaaPk01
import Derived.Test.YtbcnlggkoidmmaaPk07
import Derived.Test.YtbcnlggkoidmmaaPk05
import Derived.Test.YtbcnlggkoidmmaaPk09
import Derived.Test.YtbcnlggkoidmmaaPk04
import Derived.Test.YtbcnlggkoidmmaaPk08
import Derived.Test.YtbcnlggkoidmmaaRows
import Derived.Test.YtbcnlggkoidmmaaPk02
import Derived.WalkKit
import Derived.ProofKit
import Derived.WalkLawsBesides
import Derived.Deep.QuietTactic
import Derived.BigQuiet
import Derived.Lib.SmallJoins
import Derived.Below
import Derived.OwnWalk
import Derived.Laws.MakeOwn
import Derived.Sort.Grow
import Derived.Shelf.SlSortCmp.QuietGrown
namespace Go.Proofs.Ytbcnlggkoidmmaa
namespace BodyMath
open OutMath TokMath StepMath CodeMath HitMath TokLenMath TellMath BlockMath PartMath

section
variable (f1 : Nat → Int) (n1 : Nat) (f2 : Nat → Int) (n2 : Nat)
/-- A symbol's code. -/
def codeP (f : Nat → Int) (n i : Nat) : Part := (codeOf f n i, (f i).toNat, true)
/-- A symbol's code and its extra bits. -/
def symP (x : Bool × Cod) : List Part := [if x.1 = true then codeP f2 n2 x.2.1.toNat else codeP f1 n1 x.2.1.toNat, (x.2.2.2, x.2.2.1.toNat, false)]
def symsP (S : List (Bool × Cod)) : List Part := S.flatMap (symP f1 n1 f2 n2)
/-- A token's parts, as the model gathers them. -/
def tokP (t : Tok) : List Part :=
  if t.2.1 = 0 then [codeP f1 n1 t.1.toNat] else [codeP f1 n1 (LengthCodeOf t.2.1).1.toNat, ((LengthCodeOf t.2.1).2.2, (LengthCodeOf t.2.1).2.1.toNat, false), codeP f2 n2 (DistCodeOf t.2.2).1.toNat, ((DistCodeOf t.2.2).2.2, (DistCodeOf t.2.2).2.1.toNat, false)]
def toksP (L : List Tok) : List Part := L.flatMap (tokP f1 n1 f2 n2)
def bodyP (L : List Tok) : List Part := toksP f1 n1 f2 n2 L ++ [codeP f1 n1 256]
/-- What the body's bits are. -/
def bodyBits (L : List Tok) : List Int := partBits (bodyP f1 n1 f2 n2 L)
end
section
variable {f1 : Nat → Int} {n1 : Nat} {f2 : Nat → Int} {n2 : Nat}
theorem partBits_cons (p : Part) (l : List Part) : partBits (p :: l) = bitsP p ++ partBits l := rfl
theorem partBits_one (p : Part) : partBits [p] = bitsP p := List.append_nil _
theorem symP_bits (t : Tok) : partBits (symsP f1 n1 f2 n2 (symsT t)) = partBits (tokP f1 n1 f2 n2 t) := by
  obtain ⟨x, y, z⟩ := t
  by_cases hy : y = 0
  · subst hy
    rw [symsT_byte]
    unfold tokP
    rw [if_pos rfl, partBits_one]
    show bitsP (codeP f1 n1 x.toNat) ++ (bitsP (0, 0, false) ++ []) = _
    rw [bitsP_none, List.append_nil, List.append_nil]
  · rw [symsT_rep _ _ hy]
    unfold tokP
    rw [if_neg hy]
    rfl
theorem symsP_app (a b : List (Bool × Cod)) : symsP f1 n1 f2 n2 (a ++ b) = symsP f1 n1 f2 n2 a ++ symsP f1 n1 f2 n2 b := List.flatMap_append
theorem toksP_bits : ∀ L : List Tok, partBits (symsP f1 n1 f2 n2 (symsL L)) = partBits (toksP f1 n1 f2 n2 L)
  | [] => rfl
  | t :: L => by
    have e1 : symsL (t :: L) = symsT t ++ symsL L := rfl
    have e2 : toksP f1 n1 f2 n2 (t :: L) = tokP f1 n1 f2 n2 t ++ toksP f1 n1 f2 n2 L := rfl
    rw [e1, e2, symsP_app, partBits_app, partBits_app, symP_bits, toksP_bits L]
/-- What the program gathers tells the same bits. -/
theorem progP_bits (L : List Tok) : partBits (symsP f1 n1 f2 n2 (symsL L ++ [(false, (256, 0, 0))])) = bodyBits f1 n1 f2 n2 L := by
  unfold bodyBits bodyP
  rw [symsP_app, partBits_app, toksP_bits, partBits_app, partBits_one]
  show _ ++ (bitsP (codeP f1 n1 256) ++ (bitsP (0, 0, false) ++ [])) = _
  rw [bitsP_none, List.append_nil, List.append_nil]
theorem toksP_snoc {L : List Tok} {j : Nat} (h : j < L.length) : toksP f1 n1 f2 n2 (L.take (j + 1)) = toksP f1 n1 f2 n2 (L.take j) ++ tokP f1 n1 f2 n2 (L.getD j (0, 0, 0)) := by
  unfold toksP
  rw [List.take_add_one, List.getElem?_eq_getElem h, List.flatMap_append, List.getD_eq_getElem?_getD, List.getElem?_eq_getElem h]
  simp
theorem tokP_length (t : Tok) : (tokP f1 n1 f2 n2 t).length ≤ 4 := by
  unfold tokP
  split <;> simp
theorem toksP_length : ∀ L : List Tok, (toksP f1 n1 f2 n2 L).length ≤ 4 * L.length
  | [] => Nat.le_refl _
  | t :: L => by
    have h1 := toksP_length L
    have h2 := tokP_length (f1 := f1) (n1 := n1) (f2 := f2) (n2 := n2) t
    show (tokP f1 n1 f2 n2 t ++ toksP f1 n1 f2 n2 L).length ≤ _
    rw [List.length_append, List.length_cons]
    omega
theorem symsP_length : ∀ S : List (Bool × Cod), (symsP f1 n1 f2 n2 S).length = 2 * S.length
  | [] => rfl
  | x :: S => by
    show (symP f1 n1 f2 n2 x ++ symsP f1 n1 f2 n2 S).length = _
    rw [List.length_append, symsP_length S, List.length_cons]
    show 2 + _ = _
    omega
end
/-- Codes by which a body can be told. -/
structure BodyOk (f1 : Nat → Int) (n1 : Nat) (f2 : Nat → Int) (n2 : Nat) (L : List Tok) : Prop where
  c1 : Coded f1 n1
  e1 : 256 < n1
  m2 : n2 ≤ 288
  w2 : ∀ i, i < n2 → 0 ≤ f2 i ∧ f2 i ≤ 15
  right : ∀ t ∈ L, TokRight t
  s1 : ∀ t ∈ L, sym1 t < n1
  s2 : ∀ t ∈ L, t.2.1 ≠ 0 → Coded f2 n2 ∧ sym2 t < n2
theorem codeP_right {f : Nat → Int} {n i : Nat} (h : Coded f n) (hi : i < n) : Right (codeP f n i) := by
  have h1 := code_lt h hi
  have h2 := h.2.1 i hi
  have h3 := p2_le (show (f i).toNat ≤ 24 by omega)
  have h4 : p2 24 = 16777216 := by decide +kernel
  refine ⟨h1.1, ?_, ?_⟩
  · show codeOf f n i ≤ 16777216
    omega
  · show (f i).toNat ≤ 24
    omega
theorem lenCode_small {y : Int} (h : 3 ≤ y ∧ y ≤ 258) : (0 ≤ (LengthCodeOf y).2.1 ∧ (LengthCodeOf y).2.1 ≤ 6) ∧ 0 ≤ (LengthCodeOf y).2.2 ∧ (LengthCodeOf y).2.2 ≤ 258 := by
  unfold LengthCodeOf
  rw [if_pos h]
  unfold lenCode
  split
  · have hf := (len_fact (n := y.toNat) (by omega) (by omega)).1
    have hb : bitsN 4 (findN 3 4 y.toNat 28) ≤ 6 := by unfold bitsN; omega
    simp only []
    omega
  · simp only []
    omega
theorem distCode_small {z : Int} (h : 1 ≤ z ∧ z ≤ 32768) : (0 ≤ (DistCodeOf z).2.1 ∧ (DistCodeOf z).2.1 ≤ 14) ∧ 0 ≤ (DistCodeOf z).2.2 ∧ (DistCodeOf z).2.2 ≤ 32768 := by
  unfold DistCodeOf
  rw [if_pos h]
  unfold distCode
  have hf := (dist_fact (n := z.toNat) (by omega) (by omega)).1
  have hb : bitsN 2 (findN 1 2 z.toNat 30) ≤ 14 := by unfold bitsN; omega
  simp only []
  omega
section
variable {f1 : Nat → Int} {n1 : Nat} {f2 : Nat → Int} {n2 : Nat} {L : List Tok}
/-- Of a symbol that is told: it has a code, and its extra bits are small. -/
theorem BodyOk.sym (h : BodyOk f1 n1 f2 n2 L) {t : Tok} (ht : t ∈ L) : ∀ x ∈ symsT t, (0 ≤ x.2.1 ∧ (if x.1 = true then Coded f2 n2 ∧ x.2.1.toNat < n2 else x.2.1.toNat < n1)) ∧ (0 ≤ x.2.2.1 ∧ x.2.2.1 ≤ 14) ∧ 0 ≤ x.2.2.2 ∧ x.2.2.2 ≤ 32768 := by
  intro q hq
  have hT := h.right t ht
  have hs1 := h.s1 t ht
  have hs2 := h.s2 t ht
  obtain ⟨x, y, z⟩ := t
  unfold TokRight at hT
  by_cases hy : y = 0
  · subst hy
    rw [if_pos rfl] at hT
    rw [symsT_byte, List.mem_singleton] at hq
    subst hq
    rw [sym1_byte] at hs1
    refine ⟨⟨hT.1.1, ?_⟩, by simp only []; omega, by simp only []; omega⟩
    rw [if_neg (by simp)]
    exact hs1
  · rw [if_neg hy] at hT
    obtain ⟨_, hy2, hz2⟩ := hT
    have ha := len_range (y := y) hy2
    have hb := dist_range (z := z) hz2
    have hc := lenCode_small (y := y) hy2
    have hd := distCode_small (z := z) hz2
    rw [sym1_rep hy] at hs1
    rw [symsT_rep _ _ hy] at hq
    rcases List.mem_cons.mp hq with rfl | hq
    · refine ⟨⟨by simp only []; omega, ?_⟩, by simp only []; omega, by simp only []; omega⟩
      rw [if_neg (by simp)]
      exact hs1
    · rw [List.mem_singleton] at hq
      subst hq
      refine ⟨⟨by simp only []; omega, ?_⟩, by simp only []; omega, by simp only []; omega⟩
      rw [if_pos rfl]
      exact hs2 hy
theorem BodyOk.symR (h : BodyOk f1 n1 f2 n2 L) {t : Tok} (ht : t ∈ L) : ∀ x ∈ symsT t, ∀ p ∈ symP f1 n1 f2 n2 x, Right p := by
  intro x hx p hp
  obtain ⟨⟨k0, k1⟩, k2, k3⟩ := h.sym ht x hx
  unfold symP at hp
  rcases List.mem_cons.mp hp with rfl | hp
  · by_cases hb : x.1 = true
    · rw [if_pos hb] at k1 ⊢
      exact codeP_right k1.1 k1.2
    · rw [if_neg hb] at k1 ⊢
      exact codeP_right h.c1 k1
  · rw [List.mem_singleton] at hp
    subst hp
    refine ⟨k3.1, ?_, ?_⟩ <;> simp only [] <;> omega
theorem BodyOk.progR (h : BodyOk f1 n1 f2 n2 L) : ∀ p ∈ symsP f1 n1 f2 n2 (symsL L ++ [(false, (256, 0, 0))]), Right p := by
  intro p hp
  obtain ⟨x, hx, hp⟩ := List.mem_flatMap.mp hp
  rcases List.mem_append.mp hx with hx | hx
  · obtain ⟨t, ht, hx⟩ := List.mem_flatMap.mp hx
    exact h.symR ht x hx p hp
  · rw [List.mem_singleton] at hx
    subst hx
    unfold symP at hp
    rcases List.mem_cons.mp hp with rfl | hp
    · rw [if_neg (by simp)]
      exact codeP_right h.c1 h.e1
    · rw [List.mem_singleton] at hp
      subst hp
      exact ⟨by simp, by simp, by simp⟩
theorem BodyOk.tokR (h : BodyOk f1 n1 f2 n2 L) {t : Tok} (ht : t ∈ L) : ∀ p ∈ tokP f1 n1 f2 n2 t, Right p := by
  intro p hp
  obtain ⟨x, y, z⟩ := t
  by_cases hy : y = 0
  · subst hy
    have hR := h.symR ht (false, (x, 0, 0)) (by rw [symsT_byte]; exact List.mem_singleton.mpr rfl)
    unfold tokP at hp
    rw [if_pos rfl, List.mem_singleton] at hp
    subst hp
    exact hR _ (List.mem_cons_self ..)
  · have h1 := h.symR ht (false, LengthCodeOf y) (by rw [symsT_rep _ _ hy]; exact List.mem_cons_self ..)
    have h2 := h.symR ht (true, DistCodeOf z) (by rw [symsT_rep _ _ hy]; exact List.mem_cons_of_mem _ (List.mem_cons_self ..))
    unfold tokP at hp
    rw [if_neg hy] at hp
    rcases List.mem_cons.mp hp with rfl | hp
    · exact h1 _ (List.mem_cons_self ..)
    · rcases List.mem_cons.mp hp with rfl | hp
      · exact h1 _ (List.mem_cons_of_mem _ (List.mem_cons_self ..))
      · rcases List.mem_cons.mp hp with rfl | hp
        · exact h2 _ (List.mem_cons_self ..)
        · rw [List.mem_singleton] at hp
          subst hp
          exact h2 _ (List.mem_cons_of_mem _ (List.mem_cons_self ..))
theorem BodyOk.bodyR (h : BodyOk f1 n1 f2 n2 L) : ∀ p ∈ bodyP f1 n1 f2 n2 L, Right p := by
  intro p hp
  rcases List.mem_append.mp hp with hp | hp
  · obtain ⟨t, ht, hp⟩ := List.mem_flatMap.mp hp
    exact h.tokR ht p hp
  · rw [List.mem_singleton] at hp
    subst hp
    exact codeP_right h.c1 h.e1
end
end BodyMath
end Go.Proofs.Ytbcnlggkoidmmaa

namespace Go.Proofs.Ytbcnlggkoidmmaa
open CodeMath InfMath TokMath StepMath TrimMath TokLenMath BlockMath BodyMath

/-- The fixed codes can tell every body. -/
theorem fixed_body {L : List Tok} (h : ∀ t ∈ L, TokRight t) : BodyOk fixed1 288 fixed2 32 L where
  c1 := fixed1_coded
  e1 := by omega
  m2 := by omega
  w2 := fun i hi => fixed2_coded.2.1 i hi
  right := h
  s1 := fun t ht => by have := (sym1_lt (h t ht)).1; omega
  s2 := fun t ht hy => by
    refine ⟨fixed2_coded, ?_⟩
    have hT := h t ht
    obtain ⟨x, y, z⟩ := t
    unfold TokRight at hT
    rw [if_neg hy] at hT
    have := dist_range (z := z) hT.2.2
    unfold sym2
    simp only []
    omega
/-- What FixedBlock comes to. -/
def fixedOut (s : ByteArray) (c : Int) (L : List Tok) (last : Bool) : Option (ByteArray × Nat) :=
  if TokensRight L then (outSt s c).bind fun o => bitsOut o (headBits 1 last ++ bodyBits fixed1 288 fixed2 32 L) else none
end Go.Proofs.Ytbcnlggkoidmmaa

namespace Go.Proofs.Ytbcnlggkoidmmaa
open Go.RowKit TokMath

/-- What the program's FixedBlock is to answer. -/
def FixedAnswer : Prop := ∀ (s : ByteArray) (c : Int) (a : Option Addr) (cp : Nat) (L : List Tok) (last : Bool) (w : World), s.size ≤ 1048576 → -9223372036854775808 ≤ c → c ≤ 9223372036854775807 → TCame w a L.length (fun j => L.getD j (0, 0, 0)) → L.length ≤ 1048576 →
  Calls Try.prog 21 #[.agg #[.string s, .int .i64 c], .slice a L.length cp, .bool last] w fun e w' => e = .returned (blkAns (fixedOut s c L last)) ∧ Below w.heap.size w w'
end Go.Proofs.Ytbcnlggkoidmmaa

namespace Go.Proofs.Ytbcnlggkoidmmaa
open Go.RowKit

theorem ret_i {k : IntKind} {a b : Int} (h : a = b) : Ending.returned (.int k a) = .returned (.int k b) := by rw [h]
theorem ret_b {a b : Bool} (h : a = b) : Ending.returned (.bool a) = .returned (.bool b) := by rw [h]

end Go.Proofs.Ytbcnlggkoidmmaa

namespace Go.Proofs.Ytbcnlggkoidmmaa
open Go.RowKit Go.Joins OutMath

set_option maxHeartbeats 400000 in
theorem pow_any (n : Nat) (w : World) (h : n ≤ 61) :
    Calls Try.prog 49 #[.int .i64 n] w fun e w' => e = .returned (.int .i64 (p2 n)) ∧ w' = w := by
  go_enter Try.func49, Try.ntmps49
  go_wp2
  go_loop [3, 4] (fun x i => ∃ j : Nat, j ≤ n ∧ i = .int .i64 j ∧ x = .int .i64 (p2 j)) (fun _ i => n - (intOf i).toNat)
  case atStart => exact ⟨0, Nat.zero_le _, rfl, by rw [p2_zero]⟩
  case round =>
    obtain ⟨j, hj, rfl, rfl⟩ := hrel
    have hp := p2_pos j
    have hq := p2_61 (n := j) (by omega)
    by_cases hlt : j < n
    · go_wp2
      go_round
      case rel => exact ⟨j + 1, by omega, by go_num, by rw [p2_succ]⟩
      case measure => simp [intOf]; omega
    · go_wp2
      go_ret
      exact ⟨ret_i (by rw [show j = n by omega]), rfl⟩

theorem pow_int (n : Int) (w : World) (h0 : 0 ≤ n) (h : n ≤ 61) :
    Calls Try.prog 49 #[.int .i64 n] w fun e w' => e = .returned (.int .i64 (p2 n.toNat)) ∧ w' = w := by
  obtain ⟨m, rfl⟩ := Int.eq_ofNat_of_zero_le h0
  exact pow_any m w (by omega)

end Go.Proofs.Ytbcnlggkoidmmaa

namespace Go.Proofs.Ytbcnlggkoidmmaa
open Go.RowKit Go.Joins OutMath

theorem szOut_ok (s : ByteArray) (c x : Int) (w : World) (h0 : 0 ≤ x) (h1 : x ≤ 1048576) (h : (s.size : Int) ≤ x) :
    Calls Try.prog 15 #[.agg #[.string s, .int .i64 c], .int .i64 x] w fun e w' => e = .returned (.int .i64 (x - s.size)) ∧ Below w.heap.size w w' := by
  have d : ¬ x - (s.size : Int) < 0 := by omega
  go_enter Try.func15, Try.ntmps15
  go_wp2
  go_ret
  exact ⟨rfl, (Below.refl _ _).alloc (Nat.le_refl _) _⟩

theorem szOut_no (s : ByteArray) (c x : Int) (w : World) (hs : s.size ≤ maxLen) (h0 : 0 ≤ x) (h1 : x ≤ 1048576) (h : x < (s.size : Int)) :
    Calls Try.prog 15 #[.agg #[.string s, .int .i64 c], .int .i64 x] w fun e w' => e = .returned (.int .i64 (-1)) ∧ Below w.heap.size w w' := by
  unfold maxLen at hs
  have d : x - (s.size : Int) < 0 := by omega
  go_enter Try.func15, Try.ntmps15
  go_wp2
  go_ret
  exact ⟨rfl, (Below.refl _ _).alloc (Nat.le_refl _) _⟩

theorem toOut_any (s : ByteArray) (c : Int) (w : World) :
    Calls Try.prog 17 #[.agg #[.string s, .int .i64 c]] w fun e w' => e = .returned (.agg #[.string s, .int .i64 c]) ∧ Below w.heap.size w w' := by
  go_enter Try.func17, Try.ntmps17
  go_wp2
  exact bodyPost_ret (v := .agg #[.string s, .int .i64 c]) (by simp [results, Try.results17, go_sem]) rfl ⟨rfl, below_alloc3 _ _ _ _⟩

theorem eqOut_same (s : ByteArray) (c : Int) (w : World) :
    Calls Try.prog 19 #[.agg #[.string s, .int .i64 c], .agg #[.string s, .int .i64 c]] w fun e w' => e = .returned (.bool true) ∧ Below w.heap.size w w' := by
  go_enter Try.func19, Try.ntmps19
  go_wp2
  go_ret
  exact ⟨rfl, below_alloc2 _ _ _⟩

end Go.Proofs.Ytbcnlggkoidmmaa

namespace Go.Proofs.Ytbcnlggkoidmmaa
open Go.RowKit Go.Joins Go.Sort TokMath

theorem eqToken_same (x y z : Int) (W : World) : Calls Try.prog 33 #[.agg #[.int .i64 x, .int .i64 y, .int .i64 z], .agg #[.int .i64 x, .int .i64 y, .int .i64 z]] W fun e w' => e = .returned (.bool true) ∧ ∃ k os', w' = grow (W.drewN k) os' := by
  go_enter Try.func33, Try.ntmps33
  go_wp2_with fail
  go_ret
  exact ⟨rfl, 0, _, by rw [alloc_eq_grow, alloc_eq_grow, grow_grow]; rfl⟩

set_option maxHeartbeats 1600000 in
theorem eqTokenS_same (a b : Option Addr) (n c1 c2 : Nat) (F : Nat → Tok) (w : World) (ha : TCame w a n F) (hb : TCame w b n F) (hn : n ≤ 1048576) :
    Calls Try.prog 11 #[.slice a n c1, .slice b n c2] w fun e w' => e = .returned (.bool true) ∧ Below w.heap.size w w' := by
  have mixed : Try.prog.follows .mixedOrders = true := by kernel_rfl
  have HA := hid_of ha
  have HB := hid_of hb
  clear ha hb
  go_enter Try.func11, Try.ntmps11
  go_wp2_with fail
  go_loopw [5] (fun i w' => ∃ (j : Nat), j ≤ n ∧ i = .int .i64 j ∧ Hid (Below w.heap.size w w')) (fun i _ => n - (intOf i).toNat)
  case atStart => exact ⟨0, Nat.zero_le _, rfl, Below.refl _ _⟩
  case round =>
    obtain ⟨j, hj, rfl, hBj⟩ := hrel
    by_cases hlt : j < n
    · rcases HA.out with h0 | ⟨g, off, rfl, hg, hc⟩
      · omega
      · rcases HB.out with h0 | ⟨g', off', rfl, hg', hc'⟩
        · omega
        · have hbg : ∀ n' os, Below w.heap.size w (grow (wr.drewN n') os) := fun n' os => by
            refine hBj.out.trans ⟨rfl, rfl, rfl, ?_, fun k hk => heap_grow_old (wr.drewN n') os (by show k < wr.heap.size; have := hBj.out.size; omega)⟩
            rw [size_grow]
            show wr.heap.size ≤ wr.heap.size + os.size
            omega
          have k0 := fun n' os => ((hbg n' os).cell (p := ⟨g, off + j * 3, none⟩) hg).trans (hc j hlt).1
          have k1 := fun n' os => ((hbg n' os).cell (p := ⟨g, off + j * 3 + 1, none⟩) hg).trans (hc j hlt).2.1
          have k2 := fun n' os => ((hbg n' os).cell (p := ⟨g, off + j * 3 + 2, none⟩) hg).trans (hc j hlt).2.2
          have l0 := fun n' os => ((hbg n' os).cell (p := ⟨g', off' + j * 3, none⟩) hg').trans (hc' j hlt).1
          have l1 := fun n' os => ((hbg n' os).cell (p := ⟨g', off' + j * 3 + 1, none⟩) hg').trans (hc' j hlt).2.1
          have l2 := fun n' os => ((hbg n' os).cell (p := ⟨g', off' + j * 3 + 2, none⟩) hg').trans (hc' j hlt).2.2
          have HBG := hid_of hbg
          have hcb := fun (n' : Nat) (os : Array Obj) => eqToken_same (F j).1 (F j).2.1 (F j).2.2 (grow (wr.drewN n') os)
          generalize (F j).1 = x at k0 l0 hcb
          generalize (F j).2.1 = y at k1 l1 hcb
          generalize (F j).2.2 = z at k2 l2 hcb
          clear hc hc' hbg
          go_wp2_with fail
          go_quiet_grown (refine Calls.grown_of (hcb _ _))
          have HN := hid_of (HBG.out nq osq)
          clear k0 k1 k2 l0 l1 l2 hcb HBG
          generalize grow (wr.drewN nq) osq = w2 at HN
          go_wp2_with fail
          go_roundw
          case rel => exact ⟨j + 1, by omega, by go_num, HN⟩
          case measure => simp [intOf]; omega
    · go_wp2_with fail
      go_ret
      exact ⟨rfl, hBj.out⟩

end Go.Proofs.Ytbcnlggkoidmmaa
