/-
  Small facts that the proofs of several laws share.
  Tokens and the texts that they make, in plain numbers. Nothing here speaks of the program.
  Lists of tokens (three numbers each) in memory. Nothing here speaks of the program but the numbers of its types.
-/
import Derived.Test.YtbcnlggkoidmmaaRows
import Derived.WalkKit
import Derived.Below
import Derived.Lib.SmallJoins
import Derived.Deep.QuietTactic
import Derived.ProofKit
import Derived.OwnWalk
import Derived.Deep.AppendLies
import Derived.Maps.AppendAt
import Derived.Laws.AppendOwnNone
namespace Go.Proofs.Ytbcnlggkoidmmaa
open Go.RowKit Go.Joins

theorem of_laid : laidOutB Try.prog = true := by kernel_rfl

/-- Behind a call that turned nothing old, old cells read as before. -/
theorem bcell {W w1 : World} (hb : Below W.heap.size W w1) : (∀ b o, b < W.heap.size → w1.cell? ⟨b, o, none⟩ = W.cell? ⟨b, o, none⟩) ∧ (∀ b o, b < W.heap.size → w1.frozen? ⟨b, o, none⟩ = W.frozen? ⟨b, o, none⟩) :=
  ⟨fun b o h => hb.cell (p := ⟨b, o, none⟩) h, fun b o h => hb.frozen (p := ⟨b, o, none⟩) h⟩

theorem bnext {a b c : World} (h : Below a.heap.size a b) (k : Below b.heap.size b c) : Below a.heap.size a c := h.trans (k.mono h.size)
theorem bal {a b : World} (h : Below a.heap.size a b) (o : Obj) : Below a.heap.size a (b.alloc o) := h.alloc h.size o
theorem bstart (a : World) (o : Obj) : Below a.heap.size a (a.alloc o) := (Below.refl _ _).alloc (Nat.le_refl _) o
theorem bdraws {a b : World} (h : Below a.heap.size a b) (n : Nat) : Below a.heap.size a (b.drewN n) := h.trans ⟨rfl, rfl, rfl, Nat.le_refl _, fun _ _ => rfl⟩

theorem hid_of {p : Prop} (h : p) : Hid p := h
/-- An old cell, and an old block, behind what was made. -/
theorem grow_cell {w : World} (o : Obj) {b : Nat} (h : b < w.heap.size) (i : Nat) : (w.alloc o).cell? ⟨b, i, none⟩ = w.cell? ⟨b, i, none⟩ := (bstart w o).cell (p := ⟨b, i, none⟩) h
theorem grow_lt {w : World} (o : Obj) {b : Nat} (h : b < w.heap.size) : b < (w.alloc o).heap.size := by simp; omega
/-- A block of two cells, set. -/
theorem two_set {w : World} {b : Nat} {u0 u1 : Value} {y : TypeId} (h : w.heap[b]? = some (.cells #[u0, u1] y (0, 0))) (v0 v1 : Value) : ((w.setCell ⟨b, 0, none⟩ v0).setCell ⟨b, 1, none⟩ v1).heap[b]? = some (.cells #[v0, v1] y (0, 0)) := by
  have h0 := block_setCell (i := 0) h v0
  have h1 := block_setCell (i := 1) h0 v1
  simpa using h1
theorem two_below {B b : Nat} {w w' : World} (h : Below B w w') (hb : B ≤ b) (v0 v1 : Value) : Below B w ((w'.setCell ⟨b, 0, none⟩ v0).setCell ⟨b, 1, none⟩ v1) :=
  Below.setCell (p := ⟨b, 1, none⟩) (Below.setCell (p := ⟨b, 0, none⟩) h hb _) hb _
theorem block_lt {w : World} {b : Nat} {o : Obj} (h : w.heap[b]? = some o) : b < w.heap.size := by
  rcases Nat.lt_or_ge b w.heap.size with k | k
  · exact k
  · rw [Array.getElem?_eq_none k] at h; cases h

end Go.Proofs.Ytbcnlggkoidmmaa

namespace Go.Proofs.Ytbcnlggkoidmmaa.TokMath

abbrev Tok := Int × Int × Int
/-- A byte or a repeat. -/
def TokRight (t : Tok) : Prop := if t.2.1 = 0 then (0 ≤ t.1 ∧ t.1 ≤ 255) ∧ t.2.2 = 0 else t.1 = 0 ∧ (3 ≤ t.2.1 ∧ t.2.1 ≤ 258) ∧ (1 ≤ t.2.2 ∧ t.2.2 ≤ 32768)
instance (t : Tok) : Decidable (TokRight t) := by unfold TokRight; exact inferInstance
/-- So many bytes, each the one d ahead of it. -/
def copyN (d : Nat) : Nat → List Int → List Int
  | 0, O => O
  | k + 1, O => copyN d k (O ++ [O.getD (O.length - d) 0])
theorem copy_length (d : Nat) : ∀ k O, (copyN d k O).length = O.length + k
  | 0, _ => rfl
  | k + 1, O => by
    show (copyN d k (O ++ [O.getD (O.length - d) 0])).length = _
    rw [copy_length d k, List.length_append, List.length_singleton]
    omega
/-- One step more, at the end. -/
theorem copy_snoc (d : Nat) : ∀ k O, copyN d (k + 1) O = copyN d k O ++ [(copyN d k O).getD ((copyN d k O).length - d) 0]
  | 0, _ => rfl
  | k + 1, O => by
    have h := copy_snoc d k (O ++ [O.getD (O.length - d) 0])
    exact h
theorem getD_shift (P O : List Int) (d : Nat) (_h0 : 0 < d) (h : d ≤ O.length) : (P ++ O).getD ((P ++ O).length - d) 0 = O.getD (O.length - d) 0 := by
  rw [List.getD_eq_getElem?_getD, List.getD_eq_getElem?_getD, List.length_append, List.getElem?_append_right (by omega)]
  congr 2
  omega
theorem copy_shift (P : List Int) (d : Nat) (h0 : 0 < d) : ∀ k O, d ≤ O.length → copyN d k (P ++ O) = P ++ copyN d k O
  | 0, _, _ => rfl
  | k + 1, O, h => by
    show copyN d k (P ++ O ++ [(P ++ O).getD ((P ++ O).length - d) 0]) = P ++ copyN d k (O ++ [O.getD (O.length - d) 0])
    rw [getD_shift P O d h0 h, List.append_assoc, copy_shift P d h0 k _ (by rw [List.length_append]; omega)]
theorem copy_pre (d : Nat) : ∀ k O, ∃ M, copyN d k O = O ++ M ∧ M.length = k
  | 0, O => ⟨[], by simp [copyN], rfl⟩
  | k + 1, O => by
    obtain ⟨M, h, hl⟩ := copy_pre d k (O ++ [O.getD (O.length - d) 0])
    refine ⟨[O.getD (O.length - d) 0] ++ M, ?_, by rw [List.length_append, List.length_singleton, hl]; omega⟩
    show copyN d k (O ++ [O.getD (O.length - d) 0]) = _
    rw [h, List.append_assoc]
/-- All are bytes. -/
def Bytes (O : List Int) : Prop := ∀ x ∈ O, 0 ≤ x ∧ x ≤ 255
theorem getD_byte {O : List Int} (h : Bytes O) (i : Nat) : 0 ≤ O.getD i 0 ∧ O.getD i 0 ≤ 255 := by
  rcases Nat.lt_or_ge i O.length with k | k
  · rw [List.getD_eq_getElem?_getD, List.getElem?_eq_getElem k]
    exact h _ (List.getElem_mem k)
  · rw [List.getD_eq_getElem?_getD, List.getElem?_eq_none k]
    exact ⟨Int.le_refl _, by decide⟩
theorem bytes_snoc {O : List Int} {x : Int} (h : Bytes O) (hx : 0 ≤ x ∧ x ≤ 255) : Bytes (O ++ [x]) := by
  intro y hy
  rcases List.mem_append.mp hy with k | k
  · exact h y k
  · rw [List.mem_singleton.mp k]
    exact hx
theorem copy_bytes (d : Nat) : ∀ k O, Bytes O → Bytes (copyN d k O)
  | 0, _, h => h
  | k + 1, _, h => copy_bytes d k _ (bytes_snoc h (getD_byte h _))
/-- What is there behind a token. -/
def tokApp (O : List Int) (t : Tok) : List Int := if t.2.1 = 0 then O ++ [t.1] else copyN t.2.2.toNat t.2.1.toNat O
theorem app_pre {t : Tok} (ht : TokRight t) (O : List Int) : ∃ M, tokApp O t = O ++ M ∧ 1 ≤ M.length ∧ M.length ≤ 258 := by
  unfold TokRight at ht
  unfold tokApp
  by_cases h : t.2.1 = 0
  · rw [if_pos h]
    exact ⟨[t.1], rfl, Nat.le_refl _, by simp⟩
  · rw [if_neg h] at ht
    rw [if_neg h]
    obtain ⟨M, e, hl⟩ := copy_pre t.2.2.toNat t.2.1.toNat O
    exact ⟨M, e, by omega, by omega⟩
theorem app_shift {t : Tok} (ht : TokRight t) (P O : List Int) (hd : t.2.2 ≤ O.length) : tokApp (P ++ O) t = P ++ tokApp O t := by
  unfold TokRight at ht
  unfold tokApp
  by_cases h : t.2.1 = 0
  · rw [if_pos h, if_pos h, List.append_assoc]
  · rw [if_neg h] at ht
    rw [if_neg h, if_neg h, copy_shift P _ (by omega) _ _ (by omega)]
theorem app_bytes {t : Tok} (ht : TokRight t) {O : List Int} (hO : Bytes O) : Bytes (tokApp O t) := by
  unfold TokRight at ht
  unfold tokApp
  by_cases h : t.2.1 = 0
  · rw [if_pos h] at ht
    rw [if_pos h]
    exact bytes_snoc hO ht.1
  · rw [if_neg h]
    exact copy_bytes _ _ _ hO
/-- What tokens make behind what is there, without a limit. -/
def run (O : List Int) : List Tok → Option (List Int)
  | [] => some O
  | t :: R => if TokRight t ∧ t.2.2 ≤ (O.length : Int) then run (tokApp O t) R else none
/-- With the limit; b bytes stood ahead. -/
def expandL (b : Nat) (O : List Int) : List Tok → Option (List Int)
  | [] => some (O.drop b)
  | t :: R => if TokRight t ∧ t.2.2 ≤ (O.length : Int) then (if (tokApp O t).length ≤ b + 12000 then expandL b (tokApp O t) R else none) else none
theorem run_grow : ∀ {L : List Tok} {O F : List Int}, run O L = some F → ∃ M, F = O ++ M ∧ L.length ≤ M.length
  | [], O, F, h => by
    cases h
    exact ⟨[], by simp, Nat.le_refl _⟩
  | t :: R, O, F, h => by
    unfold run at h
    split at h
    · rename_i q
      obtain ⟨M, e, h1, _⟩ := app_pre q.1 O
      obtain ⟨M', e', h2⟩ := run_grow h
      refine ⟨M ++ M', by rw [e', e, List.append_assoc], ?_⟩
      rw [List.length_append, List.length_cons]
      omega
    · cases h
theorem expand_run : ∀ {L : List Tok} {O F : List Int} (b : Nat), run O L = some F → F.length ≤ b + 12000 → expandL b O L = some (F.drop b)
  | [], O, F, b, h, _ => by cases h; rfl
  | t :: R, O, F, b, h, hl => by
    unfold run at h
    split at h
    · rename_i q
      unfold expandL
      rw [if_pos q]
      obtain ⟨M, e, _⟩ := run_grow h
      rw [if_pos (by rw [e, List.length_append] at hl; omega)]
      exact expand_run b h hl
    · cases h
theorem run_app : ∀ (L1 L2 : List Tok) (O : List Int), run O (L1 ++ L2) = (run O L1).bind fun A => run A L2
  | [], _, _ => rfl
  | t :: R, L2, O => by
    show (if TokRight t ∧ t.2.2 ≤ (O.length : Int) then run (tokApp O t) (R ++ L2) else none) = (if TokRight t ∧ t.2.2 ≤ (O.length : Int) then run (tokApp O t) R else none).bind fun A => run A L2
    by_cases q : TokRight t ∧ t.2.2 ≤ (O.length : Int)
    · rw [if_pos q, if_pos q]
      exact run_app R L2 _
    · rw [if_neg q, if_neg q]
      rfl
theorem run_shift (P : List Int) : ∀ {L : List Tok} {O F : List Int}, run O L = some F → run (P ++ O) L = some (P ++ F)
  | [], O, F, h => by cases h; rfl
  | t :: R, O, F, h => by
    unfold run at h
    split at h
    · rename_i q
      unfold run
      rw [if_pos ⟨q.1, by rw [List.length_append]; have := q.2; omega⟩, app_shift q.1 P O q.2]
      exact run_shift P h
    · cases h
theorem run_snoc {L : List Tok} {O F : List Int} {t : Tok} (h : run O L = some F) (ht : TokRight t) (hd : t.2.2 ≤ (F.length : Int)) : run O (L ++ [t]) = some (tokApp F t) := by
  rw [run_app, h]
  show run F [t] = _
  unfold run
  rw [if_pos ⟨ht, hd⟩]
  rfl
/-- What a law on tokens asks. -/
theorem parts {L : List Tok} {F : List Int} (h : run [] L = some F) (hl : F.length ≤ 12000) (k : Nat) : ∃ A B, F = A ++ B ∧ expandL 0 [] L = some F ∧ expandL 0 [] (L.take k) = some A ∧ expandL A.length A (L.drop k) = some B ∧ (∀ P : List Int, expandL P.length P L = some F) ∧ L.length ≤ F.length ∧ A.length ≤ 12000 := by
  have h0 := h
  rw [← List.take_append_drop k L, run_app] at h0
  cases hA : run [] (L.take k) with
  | none => rw [hA] at h0; cases h0
  | some A =>
    rw [hA] at h0
    have h1 : run A (L.drop k) = some F := h0
    obtain ⟨B, e, _⟩ := run_grow h1
    have hAl : A.length ≤ 12000 := by rw [e, List.length_append] at hl; omega
    obtain ⟨M, e2, h2⟩ := run_grow h
    refine ⟨A, B, e, ?_, ?_, ?_, fun P => ?_, ?_, hAl⟩
    · rw [expand_run 0 h (by omega), List.drop_zero]
    · rw [expand_run 0 hA (by omega), List.drop_zero]
    · rw [expand_run A.length h1 (by omega), e, List.drop_left]
    · have := run_shift P h
      rw [List.append_nil] at this
      rw [expand_run P.length this (by rw [List.length_append]; omega), List.drop_left]
    · rw [e2]
      simpa using h2

end Go.Proofs.Ytbcnlggkoidmmaa.TokMath

namespace Go.Proofs.Ytbcnlggkoidmmaa
open Go.RowKit Go.Joins TokMath

theorem info_tok : (Try.prog.info? 47).map (fun i => (i.zero, i.size, i.bytes)) = some (some (.agg #[.int .i64 0, .int .i64 0, .int .i64 0]), 3, 24) := by kernel_rfl

/-- The cells of tokens. -/
def tcells : List Tok → List Value
  | [] => []
  | c :: l => .int .i64 c.1 :: .int .i64 c.2.1 :: .int .i64 c.2.2 :: tcells l
theorem tcells_length : ∀ l : List Tok, (tcells l).length = l.length * 3
  | [] => rfl
  | c :: l => by
    show (tcells l).length + 1 + 1 + 1 = (l.length + 1) * 3
    rw [tcells_length l]
    omega
theorem tcells_app : ∀ xs ys : List Tok, tcells (xs ++ ys) = tcells xs ++ tcells ys
  | [], ys => rfl
  | c :: l, ys => by
    show Value.int .i64 c.1 :: .int .i64 c.2.1 :: .int .i64 c.2.2 :: tcells (l ++ ys) = Value.int .i64 c.1 :: .int .i64 c.2.1 :: .int .i64 c.2.2 :: (tcells l ++ tcells ys)
    rw [tcells_app l ys]
theorem tcells_get : ∀ (l : List Tok) (i : Nat), i < l.length → (tcells l)[i * 3]? = some (.int .i64 (l.getD i (0, 0, 0)).1) ∧ (tcells l)[i * 3 + 1]? = some (.int .i64 (l.getD i (0, 0, 0)).2.1) ∧ (tcells l)[i * 3 + 2]? = some (.int .i64 (l.getD i (0, 0, 0)).2.2)
  | [], i, h => by simp at h
  | c :: l, 0, _ => ⟨rfl, rfl, rfl⟩
  | c :: l, i + 1, h => by
    have q := tcells_get l i (by simpa using h)
    rw [show (i + 1) * 3 = i * 3 + 1 + 1 + 1 by omega]
    exact q
theorem tcells_one : ∀ (l : List Tok), ∀ u ∈ tcells l, u.oneCell' = true
  | [], u, h => by cases h
  | c :: l, u, h => by
    rcases List.mem_cons.mp h with rfl | h
    · rfl
    · rcases List.mem_cons.mp h with rfl | h
      · rfl
      · rcases List.mem_cons.mp h with rfl | h
        · rfl
        · exact tcells_one l u h

/-- A slice of tokens that came in. -/
def TCame (w : World) (a : Option Addr) (n : Nat) (F : Nat → Tok) : Prop :=
  n = 0 ∨ ∃ g off, a = some ⟨g, off, none⟩ ∧ g < w.heap.size ∧ ∀ j, j < n → w.cell? ⟨g, off + j * 3, none⟩ = some (.int .i64 (F j).1) ∧ w.cell? ⟨g, off + j * 3 + 1, none⟩ = some (.int .i64 (F j).2.1) ∧ w.cell? ⟨g, off + j * 3 + 2, none⟩ = some (.int .i64 (F j).2.2)
theorem TCame.called {w w' : World} {a : Option Addr} {n : Nat} {F : Nat → Tok} (h : TCame w a n F) (hb : Below w.heap.size w w') : TCame w' a n F := by
  rcases h with h | ⟨g, off, ha, hg, hc⟩
  · exact .inl h
  · exact .inr ⟨g, off, ha, Nat.lt_of_lt_of_le hg hb.size, fun j hj => ⟨(hb.cell (p := ⟨g, off + j * 3, none⟩) hg).trans (hc j hj).1, (hb.cell (p := ⟨g, off + j * 3 + 1, none⟩) hg).trans (hc j hj).2.1, (hb.cell (p := ⟨g, off + j * 3 + 2, none⟩) hg).trans (hc j hj).2.2⟩⟩
/-- A part of it. -/
theorem TCame.part {w : World} {g off n m k : Nat} {F : Nat → Tok} (h : TCame w (some ⟨g, off, none⟩) n F) (hk : k + m ≤ n) : TCame w (some ⟨g, off + k * 3, none⟩) m (fun j => F (k + j)) := by
  rcases Nat.eq_zero_or_pos m with h0 | h0
  · exact .inl h0
  · rcases h with h | ⟨g', off', ha, hg, hc⟩
    · omega
    · cases ha
      refine .inr ⟨g, off + k * 3, rfl, hg, fun j hj => ?_⟩
      have q := hc (k + j) (by omega)
      rw [show off + k * 3 + j * 3 = off + (k + j) * 3 by omega]
      exact q
theorem TCame.shorter {w : World} {a : Option Addr} {n m : Nat} {F : Nat → Tok} (h : TCame w a n F) (hm : m ≤ n) : TCame w a m F := by
  rcases h with h | ⟨g, off, ha, hg, hc⟩
  · exact .inl (by omega)
  · exact .inr ⟨g, off, ha, hg, fun j hj => hc j (by omega)⟩
theorem TCame.congr {w : World} {a : Option Addr} {n : Nat} {F G : Nat → Tok} (h : TCame w a n F) (e : ∀ j, j < n → F j = G j) : TCame w a n G := by
  rcases h with h | ⟨g, off, ha, hg, hc⟩
  · exact .inl h
  · exact .inr ⟨g, off, ha, hg, fun j hj => by rw [← e j hj]; exact hc j hj⟩
/-- The slice at the head of block g is the call's own. -/
def TOwn (w : World) (base g n : Nat) (F : Nat → Tok) : Prop := base ≤ g ∧ ∃ cur, w.heap[g]? = some (.cells cur 47 (0, 0)) ∧ n * 3 ≤ cur.size ∧ ∀ j, j < n → cur[j * 3]? = some (.int .i64 (F j).1) ∧ cur[j * 3 + 1]? = some (.int .i64 (F j).2.1) ∧ cur[j * 3 + 2]? = some (.int .i64 (F j).2.2)
theorem TOwn.lt {w : World} {base g n : Nat} {F : Nat → Tok} (h : TOwn w base g n F) : g < w.heap.size := by
  obtain ⟨_, cur, h2, _⟩ := h
  exact block_lt h2
theorem TOwn.keep {w w' : World} {base g n : Nat} {F : Nat → Tok} (h : TOwn w base g n F) (hk : w'.heap[g]? = w.heap[g]?) : TOwn w' base g n F := by
  obtain ⟨h1, cur, h2, h3⟩ := h
  exact ⟨h1, cur, hk.trans h2, h3⟩
theorem TOwn.called {w w' : World} {base g n : Nat} {F : Nat → Tok} (h : TOwn w base g n F) (hb : Below w.heap.size w w') : TOwn w' base g n F := h.keep (hb.block g h.lt)
theorem TOwn.came {w : World} {base g n : Nat} {F : Nat → Tok} (h : TOwn w base g n F) : TCame w (some ⟨g, 0, none⟩) n F := by
  refine .inr ⟨g, 0, rfl, h.lt, fun j hj => ?_⟩
  obtain ⟨_, cur, h2, h3, h4⟩ := h
  rw [Nat.zero_add, cell_of_block h2, cell_of_block h2, cell_of_block h2]
  exact h4 j hj
/-- What a call owns, by its places. -/
theorem tcame_of_own {w : World} {S n : Nat} {v : Value} {L : List Tok} (h : w.ownsRow S 47 3 v n (tcells L)) (hn : n = L.length) : ∃ a c, v = .slice a L.length c ∧ L.length ≤ c ∧ c ≤ maxLen ∧ (a = none → c = 0) ∧ TCame w a L.length (fun j => L.getD j (0, 0, 0)) ∧ (∀ ad, a = some ad → ∃ g, ad = ⟨g, 0, none⟩ ∧ S ≤ g) := by
  subst hn
  rcases h.2 with ⟨rfl, h0⟩ | ⟨g, cap, cur, rfl, hb, hg, hc, hm, hs, ht⟩
  · exact ⟨none, 0, by rw [h0], by omega, Nat.zero_le _, fun _ => rfl, .inl h0, fun ad e => by cases e⟩
  · refine ⟨_, cap, rfl, hc, hm, (fun e => by cases e), .inr ⟨g, 0, rfl, block_lt hg, fun j hj => ?_⟩, fun ad e => by cases e; exact ⟨g, rfl, hb⟩⟩
    have q := tcells_get L j hj
    rw [Nat.zero_add, h.cellAt (j * 3) (by omega), h.cellAt (j * 3 + 1) (by omega), h.cellAt (j * 3 + 2) (by omega)]
    exact q
theorem tok_called {w w' : World} {S n : Nat} {v : Value} {L : List Tok} (h : w.ownsRow S 47 3 v n (tcells L)) (hb : Below w.heap.size w w') : w'.ownsRow S 47 3 v n (tcells L) := by
  refine ⟨h.1, ?_⟩
  rcases h.2 with h | ⟨g, cap, cur, rfl, h1, h2, h3⟩
  · exact .inl h
  · exact .inr ⟨g, cap, cur, rfl, h1, (hb.block g (block_lt h2)).trans h2, h3⟩

/-- 'append(v, ys...)' of tokens. -/
theorem toks_append {w : World} {S : Nat} {v : Value} {xs ys : List Tok} {ops : Array Oper} {rest : List Oper} {o : Oper} {a : Act} {Q : Exit → Act → World → Prop} (hgd : o.guard = none) (s x : Operand)
    (ho : o.op = .call { callee := .builtin .append, args := #[s, x], argTypes := #[27, 27] }) (hs : a.eval s = v) (h : w.ownsRow S 47 3 v xs.length (tcells xs)) (ad : Addr) (m c : Nat) (hx : a.eval x = .slice (some ad) m c) (hm : ys.length = m)
    (hc : ∀ j u, (tcells ys)[j]? = some u → w.cell? (ad.add j) = some u)
    (h63 : xs.length + ys.length ≤ 100000) (hS : S ≤ w.heap.size)
    (hK : ∀ v' w', w'.ownsRow S 47 3 v' (xs ++ ys).length (tcells (xs ++ ys)) → w.grownBy w' v.ownBlock → wpList Try.prog ops Q rest (a.put o.dst v') w') : wpList Try.prog ops Q (o :: rest) a w := by
  obtain ⟨i0, hi0, hz0, hz1, hz2⟩ := info_parts info_tok
  refine wpList_append_own_at w hgd s x _ ho S 47 i0 _ 3 24 Try.underlying27 hi0 hz0 hz1 hz2 rfl (by omega) v _ _ hs h ad m c (tcells ys) hx (by rw [tcells_length, hm]) hc (tcells_one ys) (by unfold maxLen; omega) (by omega) hS ?_
  intro v' w' hown hg _ _
  refine hK v' w' ?_ hg
  rw [List.length_append, tcells_app, hm]
  exact hown

end Go.Proofs.Ytbcnlggkoidmmaa
