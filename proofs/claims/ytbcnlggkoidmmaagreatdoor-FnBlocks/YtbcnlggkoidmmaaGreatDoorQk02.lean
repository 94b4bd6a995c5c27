/-
  The walk of the model's draw of twelve places.
  Tokens and the texts that they make, in plain numbers. Nothing here speaks of the program.
  Lists of tokens (three numbers each) in memory. Nothing here speaks of the program but the numbers of its types.
  Texts as lists of numbers, and lists of bytes that a call made itself.
  The walk of the model's draw of a rare case.
  The walk of the model's draw out of a list of numbers.
  The walk of the model's draw of how great texts become.
-/
import Derived.Test.YtbcnlggkoidmmaaGreatDoorRows
import Derived.Test.YtbcnlggkoidmmaaGreatDoorQk01
import Derived.WalkKit
import Derived.ProofKit
import Derived.WalkLawsBesides
import Derived.Lib.SmallJoins
import Derived.Below
import Derived.OwnWalk
import Derived.Deep.AppendLies
import Derived.Maps.AppendAt
import Derived.Laws.AppendOwnNone
import Derived.Deep.QuietTactic
import Derived.BigQuiet
import Derived.OpenShut
namespace Go.Proofs.YtbcnlggkoidmmaaGreatDoor
open Go.RowKit Go.Joins

theorem info_num : (Tryz.prog.info? 3).map (fun i => (i.zero, i.size, i.bytes)) = some (some (.int .i64 0), 1, 8) := by kernel_rfl

set_option maxHeartbeats 800000 in
theorem draw_places (a : Option Addr) (len cap : Nat) (base : Nat) (w : World) (hK : CodeAt w base a len) (hlen : len ≤ 1048576) (hbase : base ≤ w.heap.size) :
    Calls Tryz.prog 8 #[.slice a len cap] w fun e w' => ∃ (g c : Nat) (zs : List Int), e = .returned (.slice (some ⟨g, 0, none⟩) 12 c) ∧ zs.length = 12 ∧ (∀ z ∈ zs, 0 ≤ z ∧ z < 10000) ∧ Own 3 w' base g (.slice (some ⟨g, 0, none⟩) 12 c) (i64s zs) ∧ Below base w w' := by
  have HK : Hid (CodeAt w base a len) := hK
  clear hK
  go_enter Tryz.func8, Tryz.ntmps8
  go_wp2_with fail
  refine (draw_new a len cap base w HK.out hlen hbase).mono ?_
  rintro e w1 ⟨rfl, hC1, o, rfl⟩
  have HB1 : Hid (Below base w (w.alloc o)) := (Below.refl base w).alloc hbase o
  have HC1 : Hid (Cur (w.alloc o) base w.heap.size) := hC1
  clear hC1
  go_wp2_with fail
  refine (draw_byte base _ _ HC1.out).mono ?_
  rintro e w2 ⟨x, rfl, hx0, hx1, hC2, hg2⟩
  have HB2 : Below base w w2 := HB1.out.trans (below_of_grown hg2 HC1.out.base_le HC1.out.lt)
  have H0 : Hid (DL 3 w (w2.alloc (.cells #[] 3)) base w.heap.size w2.heap.size 0 []) := DL.start hC2 HB2 _
  clear hC2 hg2 HC1 HB1 HB2
  go_wp2_with fail
  go_loopw [4, 5] (fun v i w' => ∃ (j g cap : Nat) (zs : List Int), j ≤ 12 ∧ i = .int .i64 j ∧ v = .slice (some ⟨g, 0, none⟩) j cap ∧ Hid (zs.length = j ∧ ∀ z ∈ zs, 0 ≤ z ∧ z < 10000) ∧ Hid (DL 3 w w' base w.heap.size g cap (i64s zs))) (fun _ i _ => 12 - (intOf i).toNat)
  case atStart => exact ⟨0, w2.heap.size, 0, [], by omega, rfl, rfl, ⟨rfl, fun z hz => by cases hz⟩, H0⟩
  case round =>
    obtain ⟨j, g, cap, zs, hj, rfl, rfl, hz, hD⟩ := hrel
    by_cases hlt : j < 12
    · go_wp2_with fail
      refine (draw_below base _ _ _ hD.out.cur).mono ?_
      rintro e w3 ⟨y, rfl, hy, hC3, hg3⟩
      have HD3 : Hid (DL 3 w w3 base w.heap.size g cap (i64s zs)) := hD.out.drawn hg3 hC3
      have hy1 : 0 ≤ y ∧ y < 10000 := ⟨hy.1, hy.2.1 (by omega)⟩
      have HO : Hid (Own 3 w3 base g (.slice (some ⟨g, 0, none⟩) j cap) (i64s zs)) := by
        have h := HD3.out.own
        rw [i64s_length, hz.out.1] at h
        exact h
      clear hC3 hg3 hD hy
      obtain ⟨i0, hi0, hz0, hz1, hz2⟩ := info_parts info_num
      have hl : (i64s zs).length + 1 ≤ maxLen ∧ ((i64s zs).length + 1) * 8 ≤ 140737488355328 := by rw [i64s_length, hz.out.1]; unfold maxLen; omega
      go_wp2_with (at_builtin; refine wpList_append1 rfl _ _ 26 rfl i0 (.int .i64 0) 8 Tryz.underlying26 hi0 hz0 hz1 hz2 rfl rfl (HO.out.alloc _) ⟨w3.heap.size, 0, none⟩ 1 (.int .i64 y) rfl ?c1 rfl rfl hl.1 hl.2 ?_)
      case c1 => simp
      · intro g1 v1 w4 hO1 hg1 hgr
        obtain ⟨cap1, hv1, hD2⟩ := HD3.out.app hO1 (by simpa using hg1) hgr
        rw [i64s_length, hz.out.1] at hv1
        rw [hv1]
        rw [i64s_app] at hD2
        have HD2 : Hid (DL 3 w w4 base w.heap.size g1 cap1 (i64s (zs ++ [y]))) := hD2
        have HZ : Hid ((zs ++ [y]).length = j + 1 ∧ ∀ z ∈ zs ++ [y], 0 ≤ z ∧ z < 10000) := by
          obtain ⟨h1, h2⟩ := hz.out
          refine ⟨by simp [h1], fun z hz => ?_⟩
          rcases List.mem_append.mp hz with h | h
          · exact h2 z h
          · rw [List.mem_singleton.mp h]; exact hy1
        clear hO1 hg1 hgr hv1 hi0 hz0 hz1 hz2 hl hD2 HD3 HO
        go_wp2_with fail
        go_roundw
        case rel => exact ⟨j + 1, g1, cap1, zs ++ [y], by omega, by go_num, rfl, HZ, HD2⟩
        case measure => simp [intOf]; omega
    · obtain rfl : j = 12 := by omega
      go_wp2_with fail
      go_ret
      have h := hD.out.own
      rw [i64s_length, hz.out.1] at h
      exact ⟨g, cap, zs, rfl, hz.out.1, hz.out.2, h, hD.out.below⟩

end Go.Proofs.YtbcnlggkoidmmaaGreatDoor

namespace Go.Proofs.YtbcnlggkoidmmaaGreatDoor.TokMath

abbrev Tok := Int × Int × Int
/-- A byte or a repeat. -/
def TokRight (t : Tok) : Prop := if t.2.1 = 0 then (0 ≤ t.1 ∧ t.1 ≤ 255) ∧ t.2.2 = 0 else t.1 = 0 ∧ (3 ≤ t.2.1 ∧ t.2.1 ≤ 258) ∧ (1 ≤ t.2.2 ∧ t.2.2 ≤ 32768)
instance (t : Tok) : Decidable (TokRight t) := by unfold TokRight; exact inferInstance
/-- So many bytes, each the one d ahead of it. -/
def copyN (d : Nat) : Nat → List Int → List Int
  | 0, O => O
  | k + 1, O => copyN d k (O ++ [O.getD (O.length - d) 0])
theorem copy_length (d : Nat) : ∀ k O, (copyN d k O).length = O.length + k
  | 0, _ => rfl
  | k + 1, O => by
    show (copyN d k (O ++ [O.getD (O.length - d) 0])).length = _
    rw [copy_length d k, List.length_append, List.length_singleton]
    omega
/-- One step more, at the end. -/
theorem copy_snoc (d : Nat) : ∀ k O, copyN d (k + 1) O = copyN d k O ++ [(copyN d k O).getD ((copyN d k O).length - d) 0]
  | 0, _ => rfl
  | k + 1, O => by
    have h := copy_snoc d k (O ++ [O.getD (O.length - d) 0])
    exact h
theorem getD_shift (P O : List Int) (d : Nat) (_h0 : 0 < d) (h : d ≤ O.length) : (P ++ O).getD ((P ++ O).length - d) 0 = O.getD (O.length - d) 0 := by
  rw [List.getD_eq_getElem?_getD, List.getD_eq_getElem?_getD, List.length_append, List.getElem?_append_right (by omega)]
  congr 2
  omega
theorem copy_shift (P : List Int) (d : Nat) (h0 : 0 < d) : ∀ k O, d ≤ O.length → copyN d k (P ++ O) = P ++ copyN d k O
  | 0, _, _ => rfl
  | k + 1, O, h => by
    show copyN d k (P ++ O ++ [(P ++ O).getD ((P ++ O).length - d) 0]) = P ++ copyN d k (O ++ [O.getD (O.length - d) 0])
    rw [getD_shift P O d h0 h, List.append_assoc, copy_shift P d h0 k _ (by rw [List.length_append]; omega)]
theorem copy_pre (d : Nat) : ∀ k O, ∃ M, copyN d k O = O ++ M ∧ M.length = k
  | 0, O => ⟨[], by simp [copyN], rfl⟩
  | k + 1, O => by
    obtain ⟨M, h, hl⟩ := copy_pre d k (O ++ [O.getD (O.length - d) 0])
    refine ⟨[O.getD (O.length - d) 0] ++ M, ?_, by rw [List.length_append, List.length_singleton, hl]; omega⟩
    show copyN d k (O ++ [O.getD (O.length - d) 0]) = _
    rw [h, List.append_assoc]
/-- All are bytes. -/
def Bytes (O : List Int) : Prop := ∀ x ∈ O, 0 ≤ x ∧ x ≤ 255
theorem getD_byte {O : List Int} (h : Bytes O) (i : Nat) : 0 ≤ O.getD i 0 ∧ O.getD i 0 ≤ 255 := by
  rcases Nat.lt_or_ge i O.length with k | k
  · rw [List.getD_eq_getElem?_getD, List.getElem?_eq_getElem k]
    exact h _ (List.getElem_mem k)
  · rw [List.getD_eq_getElem?_getD, List.getElem?_eq_none k]
    exact ⟨Int.le_refl _, by decide⟩
theorem bytes_snoc {O : List Int} {x : Int} (h : Bytes O) (hx : 0 ≤ x ∧ x ≤ 255) : Bytes (O ++ [x]) := by
  intro y hy
  rcases List.mem_append.mp hy with k | k
  · exact h y k
  · rw [List.mem_singleton.mp k]
    exact hx
theorem copy_bytes (d : Nat) : ∀ k O, Bytes O → Bytes (copyN d k O)
  | 0, _, h => h
  | k + 1, _, h => copy_bytes d k _ (bytes_snoc h (getD_byte h _))
/-- What is there behind a token. -/
def tokApp (O : List Int) (t : Tok) : List Int := if t.2.1 = 0 then O ++ [t.1] else copyN t.2.2.toNat t.2.1.toNat O
theorem app_pre {t : Tok} (ht : TokRight t) (O : List Int) : ∃ M, tokApp O t = O ++ M ∧ 1 ≤ M.length ∧ M.length ≤ 258 := by
  unfold TokRight at ht
  unfold tokApp
  by_cases h : t.2.1 = 0
  · rw [if_pos h]
    exact ⟨[t.1], rfl, Nat.le_refl _, by simp⟩
  · rw [if_neg h] at ht
    rw [if_neg h]
    obtain ⟨M, e, hl⟩ := copy_pre t.2.2.toNat t.2.1.toNat O
    exact ⟨M, e, by omega, by omega⟩
theorem app_shift {t : Tok} (ht : TokRight t) (P O : List Int) (hd : t.2.2 ≤ O.length) : tokApp (P ++ O) t = P ++ tokApp O t := by
  unfold TokRight at ht
  unfold tokApp
  by_cases h : t.2.1 = 0
  · rw [if_pos h, if_pos h, List.append_assoc]
  · rw [if_neg h] at ht
    rw [if_neg h, if_neg h, copy_shift P _ (by omega) _ _ (by omega)]
theorem app_bytes {t : Tok} (ht : TokRight t) {O : List Int} (hO : Bytes O) : Bytes (tokApp O t) := by
  unfold TokRight at ht
  unfold tokApp
  by_cases h : t.2.1 = 0
  · rw [if_pos h] at ht
    rw [if_pos h]
    exact bytes_snoc hO ht.1
  · rw [if_neg h]
    exact copy_bytes _ _ _ hO
/-- What tokens make behind what is there, without a limit. -/
def run (O : List Int) : List Tok → Option (List Int)
  | [] => some O
  | t :: R => if TokRight t ∧ t.2.2 ≤ (O.length : Int) then run (tokApp O t) R else none
/-- With the limit; b bytes stood ahead. -/
def expandL (b : Nat) (O : List Int) : List Tok → Option (List Int)
  | [] => some (O.drop b)
  | t :: R => if TokRight t ∧ t.2.2 ≤ (O.length : Int) then (if (tokApp O t).length ≤ b + 12000 then expandL b (tokApp O t) R else none) else none
theorem run_grow : ∀ {L : List Tok} {O F : List Int}, run O L = some F → ∃ M, F = O ++ M ∧ L.length ≤ M.length
  | [], O, F, h => by
    cases h
    exact ⟨[], by simp, Nat.le_refl _⟩
  | t :: R, O, F, h => by
    unfold run at h
    split at h
    · rename_i q
      obtain ⟨M, e, h1, _⟩ := app_pre q.1 O
      obtain ⟨M', e', h2⟩ := run_grow h
      refine ⟨M ++ M', by rw [e', e, List.append_assoc], ?_⟩
      rw [List.length_append, List.length_cons]
      omega
    · cases h
theorem expand_run : ∀ {L : List Tok} {O F : List Int} (b : Nat), run O L = some F → F.length ≤ b + 12000 → expandL b O L = some (F.drop b)
  | [], O, F, b, h, _ => by cases h; rfl
  | t :: R, O, F, b, h, hl => by
    unfold run at h
    split at h
    · rename_i q
      unfold expandL
      rw [if_pos q]
      obtain ⟨M, e, _⟩ := run_grow h
      rw [if_pos (by rw [e, List.length_append] at hl; omega)]
      exact expand_run b h hl
    · cases h
theorem run_app : ∀ (L1 L2 : List Tok) (O : List Int), run O (L1 ++ L2) = (run O L1).bind fun A => run A L2
  | [], _, _ => rfl
  | t :: R, L2, O => by
    show (if TokRight t ∧ t.2.2 ≤ (O.length : Int) then run (tokApp O t) (R ++ L2) else none) = (if TokRight t ∧ t.2.2 ≤ (O.length : Int) then run (tokApp O t) R else none).bind fun A => run A L2
    by_cases q : TokRight t ∧ t.2.2 ≤ (O.length : Int)
    · rw [if_pos q, if_pos q]
      exact run_app R L2 _
    · rw [if_neg q, if_neg q]
      rfl
theorem run_shift (P : List Int) : ∀ {L : List Tok} {O F : List Int}, run O L = some F → run (P ++ O) L = some (P ++ F)
  | [], O, F, h => by cases h; rfl
  | t :: R, O, F, h => by
    unfold run at h
    split at h
    · rename_i q
      unfold run
      rw [if_pos ⟨q.1, by rw [List.length_append]; have := q.2; omega⟩, app_shift q.1 P O q.2]
      exact run_shift P h
    · cases h
theorem run_snoc {L : List Tok} {O F : List Int} {t : Tok} (h : run O L = some F) (ht : TokRight t) (hd : t.2.2 ≤ (F.length : Int)) : run O (L ++ [t]) = some (tokApp F t) := by
  rw [run_app, h]
  show run F [t] = _
  unfold run
  rw [if_pos ⟨ht, hd⟩]
  rfl
/-- What a law on tokens asks. -/
theorem parts {L : List Tok} {F : List Int} (h : run [] L = some F) (hl : F.length ≤ 12000) (k : Nat) : ∃ A B, F = A ++ B ∧ expandL 0 [] L = some F ∧ expandL 0 [] (L.take k) = some A ∧ expandL A.length A (L.drop k) = some B ∧ (∀ P : List Int, expandL P.length P L = some F) ∧ L.length ≤ F.length ∧ A.length ≤ 12000 := by
  have h0 := h
  rw [← List.take_append_drop k L, run_app] at h0
  cases hA : run [] (L.take k) with
  | none => rw [hA] at h0; cases h0
  | some A =>
    rw [hA] at h0
    have h1 : run A (L.drop k) = some F := h0
    obtain ⟨B, e, _⟩ := run_grow h1
    have hAl : A.length ≤ 12000 := by rw [e, List.length_append] at hl; omega
    obtain ⟨M, e2, h2⟩ := run_grow h
    refine ⟨A, B, e, ?_, ?_, ?_, fun P => ?_, ?_, hAl⟩
    · rw [expand_run 0 h (by omega), List.drop_zero]
    · rw [expand_run 0 hA (by omega), List.drop_zero]
    · rw [expand_run A.length h1 (by omega), e, List.drop_left]
    · have := run_shift P h
      rw [List.append_nil] at this
      rw [expand_run P.length this (by rw [List.length_append]; omega), List.drop_left]
    · rw [e2]
      simpa using h2

end Go.Proofs.YtbcnlggkoidmmaaGreatDoor.TokMath

namespace Go.Proofs.YtbcnlggkoidmmaaGreatDoor
open Go.RowKit Go.Joins TokMath

theorem info_tok : (Tryz.prog.info? 57).map (fun i => (i.zero, i.size, i.bytes)) = some (some (.agg #[.int .i64 0, .int .i64 0, .int .i64 0]), 3, 24) := by kernel_rfl

/-- The cells of tokens. -/
def tcells : List Tok → List Value
  | [] => []
  | c :: l => .int .i64 c.1 :: .int .i64 c.2.1 :: .int .i64 c.2.2 :: tcells l
theorem tcells_length : ∀ l : List Tok, (tcells l).length = l.length * 3
  | [] => rfl
  | c :: l => by
    show (tcells l).length + 1 + 1 + 1 = (l.length + 1) * 3
    rw [tcells_length l]
    omega
theorem tcells_app : ∀ xs ys : List Tok, tcells (xs ++ ys) = tcells xs ++ tcells ys
  | [], ys => rfl
  | c :: l, ys => by
    show Value.int .i64 c.1 :: .int .i64 c.2.1 :: .int .i64 c.2.2 :: tcells (l ++ ys) = Value.int .i64 c.1 :: .int .i64 c.2.1 :: .int .i64 c.2.2 :: (tcells l ++ tcells ys)
    rw [tcells_app l ys]
theorem tcells_get : ∀ (l : List Tok) (i : Nat), i < l.length → (tcells l)[i * 3]? = some (.int .i64 (l.getD i (0, 0, 0)).1) ∧ (tcells l)[i * 3 + 1]? = some (.int .i64 (l.getD i (0, 0, 0)).2.1) ∧ (tcells l)[i * 3 + 2]? = some (.int .i64 (l.getD i (0, 0, 0)).2.2)
  | [], i, h => by simp at h
  | c :: l, 0, _ => ⟨rfl, rfl, rfl⟩
  | c :: l, i + 1, h => by
    have q := tcells_get l i (by simpa using h)
    rw [show (i + 1) * 3 = i * 3 + 1 + 1 + 1 by omega]
    exact q
theorem tcells_one : ∀ (l : List Tok), ∀ u ∈ tcells l, u.oneCell' = true
  | [], u, h => by cases h
  | c :: l, u, h => by
    rcases List.mem_cons.mp h with rfl | h
    · rfl
    · rcases List.mem_cons.mp h with rfl | h
      · rfl
      · rcases List.mem_cons.mp h with rfl | h
        · rfl
        · exact tcells_one l u h

/-- A slice of tokens that came in. -/
def TCame (w : World) (a : Option Addr) (n : Nat) (F : Nat → Tok) : Prop :=
  n = 0 ∨ ∃ g off, a = some ⟨g, off, none⟩ ∧ g < w.heap.size ∧ ∀ j, j < n → w.cell? ⟨g, off + j * 3, none⟩ = some (.int .i64 (F j).1) ∧ w.cell? ⟨g, off + j * 3 + 1, none⟩ = some (.int .i64 (F j).2.1) ∧ w.cell? ⟨g, off + j * 3 + 2, none⟩ = some (.int .i64 (F j).2.2)
theorem TCame.called {w w' : World} {a : Option Addr} {n : Nat} {F : Nat → Tok} (h : TCame w a n F) (hb : Below w.heap.size w w') : TCame w' a n F := by
  rcases h with h | ⟨g, off, ha, hg, hc⟩
  · exact .inl h
  · exact .inr ⟨g, off, ha, Nat.lt_of_lt_of_le hg hb.size, fun j hj => ⟨(hb.cell (p := ⟨g, off + j * 3, none⟩) hg).trans (hc j hj).1, (hb.cell (p := ⟨g, off + j * 3 + 1, none⟩) hg).trans (hc j hj).2.1, (hb.cell (p := ⟨g, off + j * 3 + 2, none⟩) hg).trans (hc j hj).2.2⟩⟩
/-- A part of it. -/
theorem TCame.part {w : World} {g off n m k : Nat} {F : Nat → Tok} (h : TCame w (some ⟨g, off, none⟩) n F) (hk : k + m ≤ n) : TCame w (some ⟨g, off + k * 3, none⟩) m (fun j => F (k + j)) := by
  rcases Nat.eq_zero_or_pos m with h0 | h0
  · exact .inl h0
  · rcases h with h | ⟨g', off', ha, hg, hc⟩
    · omega
    · cases ha
      refine .inr ⟨g, off + k * 3, rfl, hg, fun j hj => ?_⟩
      have q := hc (k + j) (by omega)
      rw [show off + k * 3 + j * 3 = off + (k + j) * 3 by omega]
      exact q
theorem TCame.shorter {w : World} {a : Option Addr} {n m : Nat} {F : Nat → Tok} (h : TCame w a n F) (hm : m ≤ n) : TCame w a m F := by
  rcases h with h | ⟨g, off, ha, hg, hc⟩
  · exact .inl (by omega)
  · exact .inr ⟨g, off, ha, hg, fun j hj => hc j (by omega)⟩
theorem TCame.congr {w : World} {a : Option Addr} {n : Nat} {F G : Nat → Tok} (h : TCame w a n F) (e : ∀ j, j < n → F j = G j) : TCame w a n G := by
  rcases h with h | ⟨g, off, ha, hg, hc⟩
  · exact .inl h
  · exact .inr ⟨g, off, ha, hg, fun j hj => by rw [← e j hj]; exact hc j hj⟩
/-- What a call owns, by its places. -/
theorem tcame_of_own {w : World} {S n : Nat} {v : Value} {L : List Tok} (h : w.ownsRow S 57 3 v n (tcells L)) (hn : n = L.length) : ∃ a c, v = .slice a L.length c ∧ L.length ≤ c ∧ c ≤ maxLen ∧ (a = none → c = 0) ∧ TCame w a L.length (fun j => L.getD j (0, 0, 0)) ∧ (∀ ad, a = some ad → ∃ g, ad = ⟨g, 0, none⟩ ∧ S ≤ g) := by
  subst hn
  rcases h.2 with ⟨rfl, h0⟩ | ⟨g, cap, cur, rfl, hb, hg, hc, hm, hs, ht⟩
  · exact ⟨none, 0, by rw [h0], by omega, Nat.zero_le _, fun _ => rfl, .inl h0, fun ad e => by cases e⟩
  · refine ⟨_, cap, rfl, hc, hm, (fun e => by cases e), .inr ⟨g, 0, rfl, block_lt hg, fun j hj => ?_⟩, fun ad e => by cases e; exact ⟨g, rfl, hb⟩⟩
    have q := tcells_get L j hj
    rw [Nat.zero_add, h.cellAt (j * 3) (by omega), h.cellAt (j * 3 + 1) (by omega), h.cellAt (j * 3 + 2) (by omega)]
    exact q
/-- 'append(v, ys...)' of tokens. -/
theorem toks_append {w : World} {S : Nat} {v : Value} {xs ys : List Tok} {ops : Array Oper} {rest : List Oper} {o : Oper} {a : Act} {Q : Exit → Act → World → Prop} (hgd : o.guard = none) (s x : Operand)
    (ho : o.op = .call { callee := .builtin .append, args := #[s, x], argTypes := #[24, 24] }) (hs : a.eval s = v) (h : w.ownsRow S 57 3 v xs.length (tcells xs)) (ad : Addr) (m c : Nat) (hx : a.eval x = .slice (some ad) m c) (hm : ys.length = m)
    (hc : ∀ j u, (tcells ys)[j]? = some u → w.cell? (ad.add j) = some u)
    (h63 : xs.length + ys.length ≤ 100000) (hS : S ≤ w.heap.size)
    (hK : ∀ v' w', w'.ownsRow S 57 3 v' (xs ++ ys).length (tcells (xs ++ ys)) → w.grownBy w' v.ownBlock → wpList Tryz.prog ops Q rest (a.put o.dst v') w') : wpList Tryz.prog ops Q (o :: rest) a w := by
  obtain ⟨i0, hi0, hz0, hz1, hz2⟩ := info_parts info_tok
  refine wpList_append_own_at w hgd s x _ ho S 57 i0 _ 3 24 Tryz.underlying24 hi0 hz0 hz1 hz2 rfl (by omega) v _ _ hs h ad m c (tcells ys) hx (by rw [tcells_length, hm]) hc (tcells_one ys) (by unfold maxLen; omega) (by omega) hS ?_
  intro v' w' hown hg _ _
  refine hK v' w' ?_ hg
  rw [List.length_append, tcells_app, hm]
  exact hown

end Go.Proofs.YtbcnlggkoidmmaaGreatDoor

namespace Go.Proofs.YtbcnlggkoidmmaaGreatDoor
open Go.RowKit Go.Joins TokMath

theorem info_byte : (Tryz.prog.info? 5).map (fun i => (i.zero, i.size, i.bytes)) = some (some (.int .u8 0), 1, 1) := by kernel_rfl
/-- The numbers of a text. -/
def bytesOf (s : ByteArray) : List Int := s.data.toList.map fun b => (b.toNat : Int)
theorem bytesOf_length (s : ByteArray) : (bytesOf s).length = s.size := by simp [bytesOf]
theorem bytesOf_str {O : List Int} (h : Bytes O) : bytesOf (strOfNums O) = O := by
  unfold bytesOf
  rw [strOfNums_data, List.map_map]
  refine (List.map_congr_left (fun x hx => ?_)).trans (List.map_id _)
  have := h x hx
  show ((UInt8.ofNat x.toNat).toNat : Int) = x
  rw [UInt8.toNat_ofNat', Nat.mod_eq_of_lt (by omega)]
  omega
/-- The cells of bytes. -/
def u8l (O : List Int) : List Value := O.map (Value.int .u8)
theorem u8l_length (O : List Int) : (u8l O).length = O.length := by simp [u8l]
theorem u8l_app (O : List Int) (x : Int) : u8l O ++ [.int .u8 x] = u8l (O ++ [x]) := by simp [u8l]

/-- A list of bytes of the call's own, at the head of block g. -/
def BOwn (w : World) (base g n cap : Nat) (O : List Int) : Prop := n = O.length ∧ Own 5 w base g (.slice (some ⟨g, 0, none⟩) n cap) (u8l O)
theorem BOwn.lt {w : World} {base g n cap : Nat} {O : List Int} (h : BOwn w base g n cap O) : g < w.heap.size := h.2.lt
theorem BOwn.base_le {w : World} {base g n cap : Nat} {O : List Int} (h : BOwn w base g n cap O) : base ≤ g := h.2.base_le
theorem BOwn.keep {w w' : World} {base g n cap : Nat} {O : List Int} (h : BOwn w base g n cap O) (hk : w'.heap[g]? = w.heap[g]?) : BOwn w' base g n cap O := ⟨h.1, h.2.keep hk⟩
theorem BOwn.called {w w' : World} {base g n cap : Nat} {O : List Int} (h : BOwn w base g n cap O) (hb : Below w.heap.size w w') : BOwn w' base g n cap O := h.keep (hb.block g h.lt)
theorem BOwn.cell {w : World} {base g n cap : Nat} {O : List Int} (h : BOwn w base g n cap O) (j : Nat) (hj : j < n) : w.cell? ⟨g, j, none⟩ = some (.int .u8 (O.getD j 0)) := by
  have hl : j < O.length := by have := h.1; omega
  have hj' : j < (u8l O).length := by rw [u8l_length]; exact hl
  rw [h.2.cell j hj', List.getD_eq_getElem?_getD, List.getElem?_eq_getElem hl]
  simp [u8l]
theorem BOwn.room {w : World} {base g n cap : Nat} {O : List Int} (h : BOwn w base g n cap O) : n ≤ cap := by
  obtain ⟨hn, cap', cur, fz, hv, _, _, _, hc, _⟩ := h
  cases hv
  rw [u8l_length] at hc
  omega
/-- '[]byte(s)'. -/
theorem bown_of_text (w : World) (s : ByteArray) (hs : s.size ≤ 1048576) : ∃ W1 cap, (convert 9 22 (.string s)).run Tryz.prog w = .ok (.slice (some ⟨w.heap.size, 0, none⟩) s.size cap) W1 ∧ BOwn W1 w.heap.size w.heap.size s.size cap (bytesOf s) ∧ Below w.heap.size w W1 := by
  refine ⟨_, _, run_bytes_of_string (P := Tryz.prog) w 9 22 5 s Tryz.underlying9 Tryz.underlying22 Tryz.underlying5, ⟨(bytesOf_length s).symm, ?_⟩, ?_⟩
  · have h := own_of_bytes (base := w.heap.size) w 5 s (by unfold maxLen; omega) (Nat.le_refl _)
    have e : (s.data.toList.map fun b => Value.int .u8 (b.toNat : Int)) = u8l (bytesOf s) := by unfold u8l bytesOf; rw [List.map_map]; rfl
    rw [e] at h
    exact h
  · exact (Below.refl _ _).drew.alloc (Nat.le_refl _) _
/-- 'string(v[k:])'. -/
theorem bown_text {w : World} {base g n cap k c : Nat} {O : List Int} (h : BOwn w base g n cap O) (hk : k ≤ n) : (convert 22 9 (.slice (some ⟨g, k, none⟩) (n - k) c)).run Tryz.prog w = .ok (.string (strOfNums (O.drop k))) w := by
  refine run_convert_bytes_arg w 22 5 Tryz.underlying22 Tryz.underlying5 g k _ c (O.drop k) (by rw [List.length_drop, ← h.1]) (fun i hi => ?_) 9 Tryz.underlying9
  rw [h.cell (k + i) (by omega), List.getD_eq_getElem?_getD, List.getD_eq_getElem?_getD, List.getElem?_drop]
/-- 'append(v, x)' of bytes. -/
theorem bytes_append {w : World} {base g n cap : Nat} {O : List Int} {ops : Array Oper} {rest : List Oper} {o : Oper} {a : Act} {Q : Exit → Act → World → Prop} (hgd : o.guard = none) (s y : Operand)
    (hop : o.op = .call { callee := .builtin .append, args := #[s, y], argTypes := #[22, 22] }) (hs : a.eval s = .slice (some ⟨g, 0, none⟩) n cap) (h : BOwn w base g n cap O) (b c : Nat) (x : Int) (hy : a.eval y = .slice (some ⟨b, 0, none⟩) 1 c) (hx : w.cell? ⟨b, 0, none⟩ = some (.int .u8 x)) (h63 : n ≤ 1048576)
    (hK : ∀ g' cap' w', BOwn w' base g' (n + 1) cap' (O ++ [x]) → (g' = g ∨ w.heap.size ≤ g') → w.grownBy w' (some g) → wpList Tryz.prog ops Q rest (a.put o.dst (.slice (some ⟨g', 0, none⟩) (n + 1) cap')) w') : wpList Tryz.prog ops Q (o :: rest) a w := by
  obtain ⟨i0, hi0, hz0, hz1, hz2⟩ := info_parts info_byte
  obtain ⟨hn, ho⟩ := h
  have hl : (u8l O).length = n := by rw [u8l_length, hn]
  refine wpList_append1 hgd s y 22 hop i0 (.int .u8 0) 1 Tryz.underlying22 hi0 hz0 hz1 hz2 rfl hs ho ⟨b, 0, none⟩ c (.int .u8 x) hy hx rfl rfl (by rw [hl]; unfold maxLen; omega) (by rw [hl]; omega) ?_
  intro g' v' w' hO hg hgr
  obtain ⟨cap', hv⟩ := hO.form
  rw [u8l_app] at hO
  rw [List.length_append, List.length_singleton, hl] at hv
  subst hv
  exact hK g' cap' w' ⟨by rw [List.length_append, List.length_singleton, hn], hO⟩ hg hgr

end Go.Proofs.YtbcnlggkoidmmaaGreatDoor

namespace Go.Proofs.YtbcnlggkoidmmaaGreatDoor
open Go.RowKit Go.Joins

theorem draw_once (base b : Nat) (n : Int) (w : World) (hC : Cur w base b) :
    Calls Tryz.prog 58 #[.pointer (some ⟨b, 0, none⟩), .int .i64 n] w fun e w' => ∃ x : Bool, e = .returned (.bool x) ∧ Cur w' base b ∧ w.grownBy w' (some b) := by
  have HC : Hid (Cur w base b) := hC
  clear hC
  go_enter Tryz.func58, Tryz.ntmps58
  go_wp2_with fail
  refine (draw_below base b n _ HC.out).mono ?_
  rintro e w1 ⟨x, rfl, hx, hC1, hg1⟩
  have HC1 : Hid (Cur w1 base b) := hC1
  clear hC1 hx
  go_wp2_with fail
  go_ret
  exact ⟨_, rfl, HC1.out, hg1⟩

end Go.Proofs.YtbcnlggkoidmmaaGreatDoor

namespace Go.Proofs.YtbcnlggkoidmmaaGreatDoor
open Go.RowKit Go.Joins

theorem draw_pickInt (base b g n cap : Nat) (p : Int → Prop) (w : World) (hC : Cur w base b) (hn : 0 < n) (hne : g ≠ b) (hg : g < w.heap.size) (hl : ∀ j, j < n → ∃ x : Int, w.cell? ⟨g, j, none⟩ = some (.int .i64 x) ∧ p x) :
    Calls Tryz.prog 57 #[.pointer (some ⟨b, 0, none⟩), .slice (some ⟨g, 0, none⟩) n cap] w fun e w' => ∃ x : Int, e = .returned (.int .i64 x) ∧ p x ∧ Cur w' base b ∧ w.grownBy w' (some b) := by
  have HC : Hid (Cur w base b) := hC
  have HL : Hid (∀ j, j < n → ∃ x : Int, w.cell? ⟨g, j, none⟩ = some (.int .i64 x) ∧ p x) := hl
  clear hC hl
  go_enter Tryz.func57, Tryz.ntmps57
  go_wp2_with fail
  refine (draw_below base b n _ HC.out).mono ?_
  rintro e w1 ⟨x, rfl, hx, hC1, hg1⟩
  have HC1 : Hid (Cur w1 base b) := hC1
  obtain ⟨hx0, hx1, _⟩ := hx
  have hx2 := hx1 (by omega)
  obtain ⟨j, rfl⟩ := Int.eq_ofNat_of_zero_le hx0
  obtain ⟨y, hy, hp⟩ := HL.out j (by omega)
  have hy1 : w1.cell? ⟨g, j, none⟩ = some (.int .i64 y) := (World.cell?_of_block (a := ⟨g, j, none⟩) (hg1.block g hg (by simpa using hne))).trans hy
  have HP : Hid (p y) := hp
  clear hC1 hx1 hp
  go_wp2_with fail
  go_ret
  exact ⟨_, rfl, HP.out, HC1.out, hg1⟩

end Go.Proofs.YtbcnlggkoidmmaaGreatDoor

namespace Go.Proofs.YtbcnlggkoidmmaaGreatDoor
open Go.RowKit Go.Joins

theorem draw_size (a : Option Addr) (len cap : Nat) (w : World) (hl : len ≤ 1048576) : Calls Tryz.prog 28 #[.slice a len cap] w fun e w' => ∃ n : Int, e = .returned (.int .i64 n) ∧ 30 ≤ n ∧ n ≤ 300 ∧ w' = w := by
  by_cases h : 270 < len
  · have d : decide ((300 : Int) < 30 + (len : Int)) = true := decide_eq_true (by omega)
    have d2 : (300 : Int) < 30 + (len : Int) := by omega
    go_enter Tryz.func28, Tryz.ntmps28
    go_wp2_with fail
    go_ret
    exact ⟨300, rfl, by omega, by omega, rfl⟩
  · have d : decide ((300 : Int) < 30 + (len : Int)) = false := decide_eq_false (by omega)
    have d2 : ¬ (300 : Int) < 30 + (len : Int) := by omega
    go_enter Tryz.func28, Tryz.ntmps28
    go_wp2_with fail
    go_ret
    exact ⟨30 + (len : Int), rfl, by omega, by omega, rfl⟩

end Go.Proofs.YtbcnlggkoidmmaaGreatDoor
