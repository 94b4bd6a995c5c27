/-
  Small facts that the proofs of several laws share.
  Plain facts on numbers for bits that are put; nothing here speaks of the program.
  Tokens and the texts that they make, in plain numbers. Nothing here speaks of the program.
-/
import Derived.Test.YtbcnlggkoidmmaaRows
import Derived.WalkKit
import Derived.Below
import Derived.Lib.SmallJoins
import Derived.Deep.QuietTactic
import Derived.Laws.BitsAllLaws
namespace Go.Proofs.Ytbcnlggkoidmmaa
open Go.RowKit Go.Joins

theorem of_laid : laidOutB Try.prog = true := by kernel_rfl

/-- Behind a call that turned nothing old, old cells read as before. -/
theorem bcell {W w1 : World} (hb : Below W.heap.size W w1) : (∀ b o, b < W.heap.size → w1.cell? ⟨b, o, none⟩ = W.cell? ⟨b, o, none⟩) ∧ (∀ b o, b < W.heap.size → w1.frozen? ⟨b, o, none⟩ = W.frozen? ⟨b, o, none⟩) :=
  ⟨fun b o h => hb.cell (p := ⟨b, o, none⟩) h, fun b o h => hb.frozen (p := ⟨b, o, none⟩) h⟩

theorem bnext {a b c : World} (h : Below a.heap.size a b) (k : Below b.heap.size b c) : Below a.heap.size a c := h.trans (k.mono h.size)
theorem bal {a b : World} (h : Below a.heap.size a b) (o : Obj) : Below a.heap.size a (b.alloc o) := h.alloc h.size o
theorem bstart (a : World) (o : Obj) : Below a.heap.size a (a.alloc o) := (Below.refl _ _).alloc (Nat.le_refl _) o
theorem bdraws {a b : World} (h : Below a.heap.size a b) (n : Nat) : Below a.heap.size a (b.drewN n) := h.trans ⟨rfl, rfl, rfl, Nat.le_refl _, fun _ _ => rfl⟩

theorem hid_of {p : Prop} (h : p) : Hid p := h
/-- An old cell, and an old block, behind what was made. -/
theorem grow_cell {w : World} (o : Obj) {b : Nat} (h : b < w.heap.size) (i : Nat) : (w.alloc o).cell? ⟨b, i, none⟩ = w.cell? ⟨b, i, none⟩ := (bstart w o).cell (p := ⟨b, i, none⟩) h
theorem grow_lt {w : World} (o : Obj) {b : Nat} (h : b < w.heap.size) : b < (w.alloc o).heap.size := by simp; omega
/-- A block of two cells, set. -/
theorem two_set {w : World} {b : Nat} {u0 u1 : Value} {y : TypeId} (h : w.heap[b]? = some (.cells #[u0, u1] y (0, 0))) (v0 v1 : Value) : ((w.setCell ⟨b, 0, none⟩ v0).setCell ⟨b, 1, none⟩ v1).heap[b]? = some (.cells #[v0, v1] y (0, 0)) := by
  have h0 := block_setCell (i := 0) h v0
  have h1 := block_setCell (i := 1) h0 v1
  simpa using h1
theorem two_below {B b : Nat} {w w' : World} (h : Below B w w') (hb : B ≤ b) (v0 v1 : Value) : Below B w ((w'.setCell ⟨b, 0, none⟩ v0).setCell ⟨b, 1, none⟩ v1) :=
  Below.setCell (p := ⟨b, 1, none⟩) (Below.setCell (p := ⟨b, 0, none⟩) h hb _) hb _
theorem block_lt {w : World} {b : Nat} {o : Obj} (h : w.heap[b]? = some o) : b < w.heap.size := by
  rcases Nat.lt_or_ge b w.heap.size with k | k
  · exact k
  · rw [Array.getElem?_eq_none k] at h; cases h

end Go.Proofs.Ytbcnlggkoidmmaa

namespace Go.Proofs.Ytbcnlggkoidmmaa
namespace OutMath

/-- Two to the power n, behind a name. -/
def p2 (n : Nat) : Int := 2 ^ n
theorem p2_zero : p2 0 = 1 := by simp [p2]
theorem p2_succ (n : Nat) : p2 (n + 1) = 2 * p2 n := by unfold p2; rw [Int.pow_succ]; omega
theorem p2_pos : ∀ n, 1 ≤ p2 n
  | 0 => by simp [p2]
  | n + 1 => by have := p2_pos n; rw [p2_succ]; omega
theorem p2_mono (n : Nat) : ∀ m, p2 n ≤ p2 (n + m)
  | 0 => by simp
  | m + 1 => by have := p2_mono n m; have h := p2_pos (n + m); rw [← Nat.add_assoc, p2_succ]; omega
theorem p2_le {n m : Nat} (h : n ≤ m) : p2 n ≤ p2 m := by
  obtain ⟨k, rfl⟩ := Nat.exists_eq_add_of_le h
  exact p2_mono n k
theorem p2_61 {n : Nat} (h : n ≤ 61) : p2 n ≤ 2305843009213693952 := by
  have h1 := p2_le h
  have h2 : p2 61 = 2305843009213693952 := by decide +kernel
  omega
theorem p2_nat (n : Nat) : p2 n = ((2 ^ n : Nat) : Int) := by unfold p2; simp

/-- The last byte, 0 of an empty text. -/
def last (s : ByteArray) : Nat := (s.data[s.size - 1]?.getD 0).toNat
theorem last_at (s : ByteArray) (h : s.size - 1 < s.size) : (s[s.size - 1]'h).toNat = last s := by
  unfold last
  have h' : s.size - 1 < s.data.size := h
  rw [Array.getElem?_eq_getElem h']
  rfl
theorem last_lt (s : ByteArray) : last s < 256 := UInt8.toNat_lt _

/-- The number of bytes fits the number of bits. -/
def Fits (s : ByteArray) (c : Int) : Prop := s.size ≤ 12000 ∧ 0 ≤ c ∧ c ≤ 8 * s.size ∧ (c + 7) / 8 = s.size

/-- The bits of the last byte that were not put are 0. -/
def lastOk (s : ByteArray) (c : Int) : Bool := decide (((last s : Nat) : Int) < p2 (c % 8).toNat)

theorem lastOk_div (s : ByteArray) (c : Int) : lastOk s c = (((last s : Nat) : Int) / 2 ^ (c % 8).toNat == 0) := by
  unfold lastOk
  have e : p2 (c % 8).toNat = 2 ^ (c % 8).toNat := rfl
  have hp := p2_pos (c % 8).toNat
  rw [← e]
  generalize p2 (c % 8).toNat = q at *
  rw [Bool.eq_iff_iff]
  simp only [decide_eq_true_eq, beq_iff_eq]
  constructor
  · intro h; exact Int.ediv_eq_zero_of_lt (by omega) h
  · intro h
    have := Int.lt_mul_ediv_self_add (x := ((last s : Nat) : Int)) (show 0 < q by omega)
    rw [h] at this
    omega

/-- A right Out. -/
def outB (s : ByteArray) (c : Int) : Bool := decide (s.size ≤ 12000 ∧ 0 ≤ c ∧ c ≤ 8 * s.size ∧ (c + 7) / 8 = s.size) && (decide (c % 8 = 0) || lastOk s c)
theorem outB_no (s : ByteArray) (c : Int) (h : ¬ Fits s c) : outB s c = false := by
  have h' : ¬ (s.size ≤ 12000 ∧ 0 ≤ c ∧ c ≤ 8 * s.size ∧ (c + 7) / 8 = s.size) := h
  unfold outB
  rw [decide_eq_false h']
  rfl
theorem outB_fit0 (s : ByteArray) (c : Int) (h : Fits s c) (hc : c % 8 = 0) : outB s c = true := by
  have h' : s.size ≤ 12000 ∧ 0 ≤ c ∧ c ≤ 8 * s.size ∧ (c + 7) / 8 = s.size := h
  unfold outB
  rw [decide_eq_true h', decide_eq_true hc]
  rfl
theorem outB_fit1 (s : ByteArray) (c : Int) (h : Fits s c) (hc : ¬ c % 8 = 0) : outB s c = lastOk s c := by
  have h' : s.size ≤ 12000 ∧ 0 ≤ c ∧ c ≤ 8 * s.size ∧ (c + 7) / 8 = s.size := h
  unfold outB
  rw [decide_eq_true h', decide_eq_false hc]
  rfl
theorem fits_of_outB (s : ByteArray) (c : Int) (h : outB s c = true) : Fits s c := by
  refine Classical.byContradiction fun hn => ?_
  rw [outB_no s c hn] at h
  cases h

end OutMath
end Go.Proofs.Ytbcnlggkoidmmaa

namespace Go.Proofs.Ytbcnlggkoidmmaa.TokMath

abbrev Tok := Int × Int × Int
/-- A byte or a repeat. -/
def TokRight (t : Tok) : Prop := if t.2.1 = 0 then (0 ≤ t.1 ∧ t.1 ≤ 255) ∧ t.2.2 = 0 else t.1 = 0 ∧ (3 ≤ t.2.1 ∧ t.2.1 ≤ 258) ∧ (1 ≤ t.2.2 ∧ t.2.2 ≤ 32768)
instance (t : Tok) : Decidable (TokRight t) := by unfold TokRight; exact inferInstance
/-- So many bytes, each the one d ahead of it. -/
def copyN (d : Nat) : Nat → List Int → List Int
  | 0, O => O
  | k + 1, O => copyN d k (O ++ [O.getD (O.length - d) 0])
theorem copy_length (d : Nat) : ∀ k O, (copyN d k O).length = O.length + k
  | 0, _ => rfl
  | k + 1, O => by
    show (copyN d k (O ++ [O.getD (O.length - d) 0])).length = _
    rw [copy_length d k, List.length_append, List.length_singleton]
    omega
/-- One step more, at the end. -/
theorem copy_snoc (d : Nat) : ∀ k O, copyN d (k + 1) O = copyN d k O ++ [(copyN d k O).getD ((copyN d k O).length - d) 0]
  | 0, _ => rfl
  | k + 1, O => by
    have h := copy_snoc d k (O ++ [O.getD (O.length - d) 0])
    exact h
theorem getD_shift (P O : List Int) (d : Nat) (_h0 : 0 < d) (h : d ≤ O.length) : (P ++ O).getD ((P ++ O).length - d) 0 = O.getD (O.length - d) 0 := by
  rw [List.getD_eq_getElem?_getD, List.getD_eq_getElem?_getD, List.length_append, List.getElem?_append_right (by omega)]
  congr 2
  omega
theorem copy_shift (P : List Int) (d : Nat) (h0 : 0 < d) : ∀ k O, d ≤ O.length → copyN d k (P ++ O) = P ++ copyN d k O
  | 0, _, _ => rfl
  | k + 1, O, h => by
    show copyN d k (P ++ O ++ [(P ++ O).getD ((P ++ O).length - d) 0]) = P ++ copyN d k (O ++ [O.getD (O.length - d) 0])
    rw [getD_shift P O d h0 h, List.append_assoc, copy_shift P d h0 k _ (by rw [List.length_append]; omega)]
theorem copy_pre (d : Nat) : ∀ k O, ∃ M, copyN d k O = O ++ M ∧ M.length = k
  | 0, O => ⟨[], by simp [copyN], rfl⟩
  | k + 1, O => by
    obtain ⟨M, h, hl⟩ := copy_pre d k (O ++ [O.getD (O.length - d) 0])
    refine ⟨[O.getD (O.length - d) 0] ++ M, ?_, by rw [List.length_append, List.length_singleton, hl]; omega⟩
    show copyN d k (O ++ [O.getD (O.length - d) 0]) = _
    rw [h, List.append_assoc]
/-- All are bytes. -/
def Bytes (O : List Int) : Prop := ∀ x ∈ O, 0 ≤ x ∧ x ≤ 255
theorem getD_byte {O : List Int} (h : Bytes O) (i : Nat) : 0 ≤ O.getD i 0 ∧ O.getD i 0 ≤ 255 := by
  rcases Nat.lt_or_ge i O.length with k | k
  · rw [List.getD_eq_getElem?_getD, List.getElem?_eq_getElem k]
    exact h _ (List.getElem_mem k)
  · rw [List.getD_eq_getElem?_getD, List.getElem?_eq_none k]
    exact ⟨Int.le_refl _, by decide⟩
theorem bytes_snoc {O : List Int} {x : Int} (h : Bytes O) (hx : 0 ≤ x ∧ x ≤ 255) : Bytes (O ++ [x]) := by
  intro y hy
  rcases List.mem_append.mp hy with k | k
  · exact h y k
  · rw [List.mem_singleton.mp k]
    exact hx
theorem copy_bytes (d : Nat) : ∀ k O, Bytes O → Bytes (copyN d k O)
  | 0, _, h => h
  | k + 1, _, h => copy_bytes d k _ (bytes_snoc h (getD_byte h _))
/-- What is there behind a token. -/
def tokApp (O : List Int) (t : Tok) : List Int := if t.2.1 = 0 then O ++ [t.1] else copyN t.2.2.toNat t.2.1.toNat O
theorem app_pre {t : Tok} (ht : TokRight t) (O : List Int) : ∃ M, tokApp O t = O ++ M ∧ 1 ≤ M.length ∧ M.length ≤ 258 := by
  unfold TokRight at ht
  unfold tokApp
  by_cases h : t.2.1 = 0
  · rw [if_pos h]
    exact ⟨[t.1], rfl, Nat.le_refl _, by simp⟩
  · rw [if_neg h] at ht
    rw [if_neg h]
    obtain ⟨M, e, hl⟩ := copy_pre t.2.2.toNat t.2.1.toNat O
    exact ⟨M, e, by omega, by omega⟩
theorem app_shift {t : Tok} (ht : TokRight t) (P O : List Int) (hd : t.2.2 ≤ O.length) : tokApp (P ++ O) t = P ++ tokApp O t := by
  unfold TokRight at ht
  unfold tokApp
  by_cases h : t.2.1 = 0
  · rw [if_pos h, if_pos h, List.append_assoc]
  · rw [if_neg h] at ht
    rw [if_neg h, if_neg h, copy_shift P _ (by omega) _ _ (by omega)]
theorem app_bytes {t : Tok} (ht : TokRight t) {O : List Int} (hO : Bytes O) : Bytes (tokApp O t) := by
  unfold TokRight at ht
  unfold tokApp
  by_cases h : t.2.1 = 0
  · rw [if_pos h] at ht
    rw [if_pos h]
    exact bytes_snoc hO ht.1
  · rw [if_neg h]
    exact copy_bytes _ _ _ hO
/-- What tokens make behind what is there, without a limit. -/
def run (O : List Int) : List Tok → Option (List Int)
  | [] => some O
  | t :: R => if TokRight t ∧ t.2.2 ≤ (O.length : Int) then run (tokApp O t) R else none
/-- With the limit; b bytes stood ahead. -/
def expandL (b : Nat) (O : List Int) : List Tok → Option (List Int)
  | [] => some (O.drop b)
  | t :: R => if TokRight t ∧ t.2.2 ≤ (O.length : Int) then (if (tokApp O t).length ≤ b + 12000 then expandL b (tokApp O t) R else none) else none
theorem run_grow : ∀ {L : List Tok} {O F : List Int}, run O L = some F → ∃ M, F = O ++ M ∧ L.length ≤ M.length
  | [], O, F, h => by
    cases h
    exact ⟨[], by simp, Nat.le_refl _⟩
  | t :: R, O, F, h => by
    unfold run at h
    split at h
    · rename_i q
      obtain ⟨M, e, h1, _⟩ := app_pre q.1 O
      obtain ⟨M', e', h2⟩ := run_grow h
      refine ⟨M ++ M', by rw [e', e, List.append_assoc], ?_⟩
      rw [List.length_append, List.length_cons]
      omega
    · cases h
theorem expand_run : ∀ {L : List Tok} {O F : List Int} (b : Nat), run O L = some F → F.length ≤ b + 12000 → expandL b O L = some (F.drop b)
  | [], O, F, b, h, _ => by cases h; rfl
  | t :: R, O, F, b, h, hl => by
    unfold run at h
    split at h
    · rename_i q
      unfold expandL
      rw [if_pos q]
      obtain ⟨M, e, _⟩ := run_grow h
      rw [if_pos (by rw [e, List.length_append] at hl; omega)]
      exact expand_run b h hl
    · cases h
theorem run_app : ∀ (L1 L2 : List Tok) (O : List Int), run O (L1 ++ L2) = (run O L1).bind fun A => run A L2
  | [], _, _ => rfl
  | t :: R, L2, O => by
    show (if TokRight t ∧ t.2.2 ≤ (O.length : Int) then run (tokApp O t) (R ++ L2) else none) = (if TokRight t ∧ t.2.2 ≤ (O.length : Int) then run (tokApp O t) R else none).bind fun A => run A L2
    by_cases q : TokRight t ∧ t.2.2 ≤ (O.length : Int)
    · rw [if_pos q, if_pos q]
      exact run_app R L2 _
    · rw [if_neg q, if_neg q]
      rfl
theorem run_shift (P : List Int) : ∀ {L : List Tok} {O F : List Int}, run O L = some F → run (P ++ O) L = some (P ++ F)
  | [], O, F, h => by cases h; rfl
  | t :: R, O, F, h => by
    unfold run at h
    split at h
    · rename_i q
      unfold run
      rw [if_pos ⟨q.1, by rw [List.length_append]; have := q.2; omega⟩, app_shift q.1 P O q.2]
      exact run_shift P h
    · cases h
theorem run_snoc {L : List Tok} {O F : List Int} {t : Tok} (h : run O L = some F) (ht : TokRight t) (hd : t.2.2 ≤ (F.length : Int)) : run O (L ++ [t]) = some (tokApp F t) := by
  rw [run_app, h]
  show run F [t] = _
  unfold run
  rw [if_pos ⟨ht, hd⟩]
  rfl
/-- What a law on tokens asks. -/
theorem parts {L : List Tok} {F : List Int} (h : run [] L = some F) (hl : F.length ≤ 12000) (k : Nat) : ∃ A B, F = A ++ B ∧ expandL 0 [] L = some F ∧ expandL 0 [] (L.take k) = some A ∧ expandL A.length A (L.drop k) = some B ∧ (∀ P : List Int, expandL P.length P L = some F) ∧ L.length ≤ F.length ∧ A.length ≤ 12000 := by
  have h0 := h
  rw [← List.take_append_drop k L, run_app] at h0
  cases hA : run [] (L.take k) with
  | none => rw [hA] at h0; cases h0
  | some A =>
    rw [hA] at h0
    have h1 : run A (L.drop k) = some F := h0
    obtain ⟨B, e, _⟩ := run_grow h1
    have hAl : A.length ≤ 12000 := by rw [e, List.length_append] at hl; omega
    obtain ⟨M, e2, h2⟩ := run_grow h
    refine ⟨A, B, e, ?_, ?_, ?_, fun P => ?_, ?_, hAl⟩
    · rw [expand_run 0 h (by omega), List.drop_zero]
    · rw [expand_run 0 hA (by omega), List.drop_zero]
    · rw [expand_run A.length h1 (by omega), e, List.drop_left]
    · have := run_shift P h
      rw [List.append_nil] at this
      rw [expand_run P.length this (by rw [List.length_append]; omega), List.drop_left]
    · rw [e2]
      simpa using h2

end Go.Proofs.Ytbcnlggkoidmmaa.TokMath
