/-
  The walk of the program's way through a text, step by step, over each of the three steps that are handed to it.
-/
import Derived.Test.YtihcapfdpgaeiaaRows
import Derived.Test.YtihcapfdpgaeiaaBase
import Derived.Test.YtihcapfdpgaeiaaTokMath
import Derived.Test.YtihcapfdpgaeiaaTriLib
import Derived.Test.YtihcapfdpgaeiaaTokMark
import Derived.Test.YtihcapfdpgaeiaaTokList
import Derived.Test.YtihcapfdpgaeiaaSearchMath
import Derived.Test.YtihcapfdpgaeiaaTextLib
import Derived.Test.YtihcapfdpgaeiaaMatchImpl
import Derived.WalkKit
import Derived.ProofKit
import Derived.WalkLawsBesides
import Derived.OwnWalk
import Derived.Deep.LoopGhost
import Derived.Below
import Derived.Lib.SmallJoins
namespace Go.Proofs.Ytihcapfdpgaeiaa
open Go.RowKit Go.Joins TokMath SearchMath

/-- A token as a value. -/
abbrev tokV (t : Tok) : Value := .agg #[.int .i64 t.1, .int .i64 t.2.1, .int .i64 t.2.2]
/-- A list that is made token by token. -/
def TokW (w0 w : World) (v : Value) (L : List Tok) : Prop := w.ownsRow w0.heap.size 51 3 v L.length (tcells L) ∧ Below w0.heap.size w0 w
theorem TokW.called {w0 w w' : World} {v : Value} {L : List Tok} (h : TokW w0 w v L) (hb : Below w.heap.size w w') : TokW w0 w' v L := ⟨tok_called h.1 hb, h.2.trans (hb.mono h.2.size)⟩
theorem TokW.app {w0 w w' : World} {v v1 : Value} {L : List Tok} {o : Obj} {t : Tok} (h : TokW w0 w v L) (hown : w'.ownsRow w0.heap.size 51 3 v1 (L ++ [t]).length (tcells (L ++ [t]))) (hg : (w.alloc o).grownBy w' v.ownBlock) : TokW w0 w' v1 (L ++ [t]) :=
  ⟨hown, (h.2.alloc h.2.size o).grown hg (Nat.le_trans h.2.size (by simp)) (fun k e => (h.1.lt k e).1)⟩
theorem TokW.form {w0 w : World} {v : Value} {L : List Tok} (h : TokW w0 w v L) : ∃ a c, v = .slice a L.length c := by
  obtain ⟨a, c, e, _⟩ := tcame_of_own h.1 rfl
  exact ⟨a, c, e⟩
/-- What a way through a text answers. -/
def WayOut (L : List Tok) (w : World) (e : Ending) (w' : World) : Prop := ∃ (a : Option Addr) (cap : Nat), e = .returned (.slice a L.length cap) ∧ TSL w' w.heap.size a L.length (fun j => L.getD j (0, 0, 0)) ∧ L.length ≤ cap ∧ Below w.heap.size w w'
theorem step_max {y : Int} (h : 0 ≤ y) (t : Tok) (e : t.2.1 = y) : max 1 y = (sizeT t : Nat) := by
  unfold sizeT
  rw [e]
  split
  · omega
  · omega

set_option maxHeartbeats 3200000 in
theorem walk_bound (p : Nat) ( s : ByteArray) (C : Nat → Tok) (w : World) (h0 : w.cell? ⟨p, 0, none⟩ = some (.string s)) (hp : p < w.heap.size) (hs : s.size ≤ 2600) (hC : ∀ i, i < s.size → Fine (txt s) s.size i (C i))
    (hst : ∀ w', Below w.heap.size w w' → ∀ i, i < s.size → Calls Try.prog 33 #[.pointer (some ⟨p, 0, none⟩), .int .i64 (i : Int)] w' fun e w2 => e = .returned (tokV (C i)) ∧ Below w'.heap.size w' w2) :
    Calls Try.prog 32 #[.pointer (some ⟨p, 0, none⟩), .func (.func 33) #[.pointer (some ⟨p, 0, none⟩)] #[]] w (WayOut (wayL C s.size 0) w) := by
  have HST := hid_of hst
  have HC := hid_of hC
  have HSZ : Hid (∀ i, i < s.size → 1 ≤ sizeT (C i)) := fun i hi => (fine_size (hC i hi) hi).1
  have H0 : Hid (TokW w w (.slice none 0 0) [] ∧ [] ++ wayL C s.size 0 = wayL C s.size 0) := ⟨⟨World.ownsRow_nil _ _ _ _, Below.refl _ _⟩, rfl⟩
  clear hst hC
  go_enter Try.func32, Try.ntmps32
  go_wp2_with fail
  go_loopg [5, 6] (s.size + 1) (fun gk v y w' => ∃ (i n cp : Nat) (a : Option Addr) (L : List Tok), v = .slice a n cp ∧ i ≤ s.size ∧ n ≤ i ∧ y = .int .i64 i ∧ s.size - i ≤ gk ∧ Hid (n = L.length) ∧ Hid (TokW w w' (.slice a n cp) L ∧ L ++ wayL C s.size i = wayL C s.size 0))
  case atStart => exact ⟨0, 0, 0, none, [], rfl, Nat.zero_le _, Nat.le_refl _, rfl, by omega, rfl, H0⟩
  case round =>
    clear H0
    obtain ⟨i, n, cp, a, L, rfl, hi, hni, rfl, hgk, HNL, hS⟩ := hrel
    have c0 : wr.cell? ⟨p, 0, none⟩ = some (.string s) := (hS.out.1.2.cell (p := ⟨p, 0, none⟩) hp).trans h0
    have hpl : p < wr.heap.size := Nat.lt_of_lt_of_le hp hS.out.1.2.size
    by_cases hlt : i < s.size
    · have dl : decide ((i : Int) < (s.size : Int)) = true := decide_eq_true (by omega)
      have hstep := HST.out wr hS.out.1.2 i hlt
      have HSt := hid_of (way_step HSZ.out hlt)
      have hfs := fine_size (HC.out i hlt) hlt
      have hpos : 0 ≤ (C i).2.1 := by
        rcases HC.out i hlt with e | ⟨k, d, e, _⟩
        · rw [e]
          exact Int.le_refl _
        · rw [e]
          show (0 : Int) ≤ (k : Int)
          omega
      have hmx := step_max hpos (C i) rfl
      generalize C i = T at hstep HSt hfs hpos hmx
      generalize sizeT T = z at HSt hfs hmx
      obtain ⟨x, y, q⟩ := T
      have hmx' : max 1 y = (z : Nat) := hmx
      have hss := fun w => stepSize_any x y q w
      rw [hmx'] at hss
      clear hmx hmx' hpos
      go_wp2_with fail
      refine hstep.mono ?_
      rintro e w2 ⟨rfl, hB2⟩
      clear hstep c0
      have hS1 := hS.out.1.called hB2
      have HNE : Hid (∀ k, (Value.slice a n cp).ownBlock = some k → k < w2.heap.size) := fun k e => (hS1.1.lt k e).2
      have HS2 : Hid (TokW w (w2.alloc (.cells #[.int .i64 x, .int .i64 y, .int .i64 q] 51)) (.slice a n cp) L) := hS1.called (bstart _ _)
      have hz2 : w.heap.size ≤ w2.heap.size := Nat.le_trans hS.out.1.2.size hB2.size
      have HLN : Hid (L.length ≤ i) := by
        have := HNL.out
        show L.length ≤ i
        omega
      clear hB2 hS1
      go_wp2_with (at_builtin; refine toks_append (S := w.heap.size) (xs := L) (ys := [(x, y, q)]) rfl _ _ rfl rfl (World.ownsRow.alloc HS2.out.1 _) ⟨w2.heap.size + 1, 0, none⟩ 1 1 rfl rfl (news_tk (w2.alloc _) x y q _ (by simp)) (by have := HLN.out; simp only [List.length_cons, List.length_nil]; omega) (by simp; omega) ?_)
      intro v1 w5 y1 y2
      have hN := HS2.out.app (t := (x, y, q)) (by simpa using y1) y2
      obtain ⟨a1, cp1, hv1⟩ := hN.form
      have hzl : w2.heap.size < w5.heap.size := Nat.lt_of_lt_of_le (by simp; omega) y2.size
      have hkp : w5.heap[w2.heap.size]? = some (.cells #[.int .i64 x, .int .i64 y, .int .i64 q] 51 (0, 0)) := by
        refine (y2.block w2.heap.size (by simp; omega) (fun e => ?_)).trans (((bstart (w2.alloc _) _).block w2.heap.size (by simp)).trans (heap_alloc_new w2 _))
        have := HNE.out w2.heap.size (by simpa using e.symm)
        omega
      have x0 : w5.cell? ⟨w2.heap.size, 0, none⟩ = some (.int .i64 x) := (cell_of_block hkp 0).trans rfl
      have x1 : w5.cell? ⟨w2.heap.size, 1, none⟩ = some (.int .i64 y) := (cell_of_block hkp 1).trans rfl
      have x2 : w5.cell? ⟨w2.heap.size, 2, none⟩ = some (.int .i64 q) := (cell_of_block hkp 2).trans rfl
      rw [List.length_append, List.length_singleton, ← HNL.out] at hv1
      subst hv1
      have HN := hid_of hN
      clear y1 y2 hN hkp HS2
      go_wp2_with fail
      refine (hss _).mono ?_
      rintro e w6 ⟨rfl, hB6⟩
      have HNX : Hid (TokW w w6 (.slice a1 (n + 1) cp1) (L ++ [(x, y, q)]) ∧ L ++ [(x, y, q)] ++ wayL C s.size (i + z) = wayL C s.size 0) := by
        refine ⟨HN.out.called hB6, ?_⟩
        rw [← hS.out.2, HSt.out, List.append_assoc]
        rfl
      have HNM : Hid (n + 1 = (L ++ [(x, y, q)]).length) := by
        show n + 1 = (L ++ [(x, y, q)]).length
        rw [List.length_append, List.length_singleton, ← HNL.out]
      obtain ⟨hz1, hz3⟩ := hfs
      clear hB6 hss x0 x1 x2 hS HN
      go_wp2_with fail
      go_roundg (s.size - (i + z))
      case measure => omega
      case rel => exact ⟨i + z, n + 1, cp1, a1, _, rfl, by omega, by omega, by go_num, Nat.le_refl _, HNM, HNX⟩
    · obtain rfl : i = s.size := by omega
      have dl : decide ((s.size : Int) < (s.size : Int)) = false := decide_eq_false (by omega)
      have HZ : Hid (TokW w wr (.slice a n cp) (wayL C s.size 0) ∧ n = (wayL C s.size 0).length) := by
        have h := hS.out.2
        rw [way_end (Nat.le_refl _), List.append_nil] at h
        rw [← h]
        exact ⟨hS.out.1, HNL.out⟩
      go_wp2_with fail
      go_ret
      obtain ⟨h1, h2⟩ := HZ.out
      obtain ⟨a', c', e, hc, ht⟩ := tsl_of_own h1.1 rfl
      cases e
      exact ⟨a, cp, rfl, ht, hc, h1.2⟩

set_option maxHeartbeats 3200000 in
theorem walk_lazy (p : Nat) (qb : Nat) ( s : ByteArray) (C : Nat → Tok) (w : World) (h0 : w.cell? ⟨p, 0, none⟩ = some (.string s)) (hp : p < w.heap.size) (hs : s.size ≤ 2600) (hC : ∀ i, i < s.size → Fine (txt s) s.size i (C i))
    (hst : ∀ w', Below w.heap.size w w' → ∀ i, i < s.size → Calls Try.prog 34 #[.int .i64 (i : Int), .pointer (some ⟨qb, 0, none⟩)] w' fun e w2 => e = .returned (tokV (C i)) ∧ Below w'.heap.size w' w2) :
    Calls Try.prog 32 #[.pointer (some ⟨p, 0, none⟩), .func (.func 34) #[] #[.pointer (some ⟨qb, 0, none⟩)]] w (WayOut (wayL C s.size 0) w) := by
  have HST := hid_of hst
  have HC := hid_of hC
  have HSZ : Hid (∀ i, i < s.size → 1 ≤ sizeT (C i)) := fun i hi => (fine_size (hC i hi) hi).1
  have H0 : Hid (TokW w w (.slice none 0 0) [] ∧ [] ++ wayL C s.size 0 = wayL C s.size 0) := ⟨⟨World.ownsRow_nil _ _ _ _, Below.refl _ _⟩, rfl⟩
  clear hst hC
  go_enter Try.func32, Try.ntmps32
  go_wp2_with fail
  go_loopg [5, 6] (s.size + 1) (fun gk v y w' => ∃ (i n cp : Nat) (a : Option Addr) (L : List Tok), v = .slice a n cp ∧ i ≤ s.size ∧ n ≤ i ∧ y = .int .i64 i ∧ s.size - i ≤ gk ∧ Hid (n = L.length) ∧ Hid (TokW w w' (.slice a n cp) L ∧ L ++ wayL C s.size i = wayL C s.size 0))
  case atStart => exact ⟨0, 0, 0, none, [], rfl, Nat.zero_le _, Nat.le_refl _, rfl, by omega, rfl, H0⟩
  case round =>
    clear H0
    obtain ⟨i, n, cp, a, L, rfl, hi, hni, rfl, hgk, HNL, hS⟩ := hrel
    have c0 : wr.cell? ⟨p, 0, none⟩ = some (.string s) := (hS.out.1.2.cell (p := ⟨p, 0, none⟩) hp).trans h0
    have hpl : p < wr.heap.size := Nat.lt_of_lt_of_le hp hS.out.1.2.size
    by_cases hlt : i < s.size
    · have dl : decide ((i : Int) < (s.size : Int)) = true := decide_eq_true (by omega)
      have hstep := HST.out wr hS.out.1.2 i hlt
      have HSt := hid_of (way_step HSZ.out hlt)
      have hfs := fine_size (HC.out i hlt) hlt
      have hpos : 0 ≤ (C i).2.1 := by
        rcases HC.out i hlt with e | ⟨k, d, e, _⟩
        · rw [e]
          exact Int.le_refl _
        · rw [e]
          show (0 : Int) ≤ (k : Int)
          omega
      have hmx := step_max hpos (C i) rfl
      generalize C i = T at hstep HSt hfs hpos hmx
      generalize sizeT T = z at HSt hfs hmx
      obtain ⟨x, y, q⟩ := T
      have hmx' : max 1 y = (z : Nat) := hmx
      have hss := fun w => stepSize_any x y q w
      rw [hmx'] at hss
      clear hmx hmx' hpos
      go_wp2_with fail
      refine hstep.mono ?_
      rintro e w2 ⟨rfl, hB2⟩
      clear hstep c0
      have hS1 := hS.out.1.called hB2
      have HNE : Hid (∀ k, (Value.slice a n cp).ownBlock = some k → k < w2.heap.size) := fun k e => (hS1.1.lt k e).2
      have HS2 : Hid (TokW w (w2.alloc (.cells #[.int .i64 x, .int .i64 y, .int .i64 q] 51)) (.slice a n cp) L) := hS1.called (bstart _ _)
      have hz2 : w.heap.size ≤ w2.heap.size := Nat.le_trans hS.out.1.2.size hB2.size
      have HLN : Hid (L.length ≤ i) := by
        have := HNL.out
        show L.length ≤ i
        omega
      clear hB2 hS1
      go_wp2_with (at_builtin; refine toks_append (S := w.heap.size) (xs := L) (ys := [(x, y, q)]) rfl _ _ rfl rfl (World.ownsRow.alloc HS2.out.1 _) ⟨w2.heap.size + 1, 0, none⟩ 1 1 rfl rfl (news_tk (w2.alloc _) x y q _ (by simp)) (by have := HLN.out; simp only [List.length_cons, List.length_nil]; omega) (by simp; omega) ?_)
      intro v1 w5 y1 y2
      have hN := HS2.out.app (t := (x, y, q)) (by simpa using y1) y2
      obtain ⟨a1, cp1, hv1⟩ := hN.form
      have hzl : w2.heap.size < w5.heap.size := Nat.lt_of_lt_of_le (by simp; omega) y2.size
      have hkp : w5.heap[w2.heap.size]? = some (.cells #[.int .i64 x, .int .i64 y, .int .i64 q] 51 (0, 0)) := by
        refine (y2.block w2.heap.size (by simp; omega) (fun e => ?_)).trans (((bstart (w2.alloc _) _).block w2.heap.size (by simp)).trans (heap_alloc_new w2 _))
        have := HNE.out w2.heap.size (by simpa using e.symm)
        omega
      have x0 : w5.cell? ⟨w2.heap.size, 0, none⟩ = some (.int .i64 x) := (cell_of_block hkp 0).trans rfl
      have x1 : w5.cell? ⟨w2.heap.size, 1, none⟩ = some (.int .i64 y) := (cell_of_block hkp 1).trans rfl
      have x2 : w5.cell? ⟨w2.heap.size, 2, none⟩ = some (.int .i64 q) := (cell_of_block hkp 2).trans rfl
      rw [List.length_append, List.length_singleton, ← HNL.out] at hv1
      subst hv1
      have HN := hid_of hN
      clear y1 y2 hN hkp HS2
      go_wp2_with fail
      refine (hss _).mono ?_
      rintro e w6 ⟨rfl, hB6⟩
      have HNX : Hid (TokW w w6 (.slice a1 (n + 1) cp1) (L ++ [(x, y, q)]) ∧ L ++ [(x, y, q)] ++ wayL C s.size (i + z) = wayL C s.size 0) := by
        refine ⟨HN.out.called hB6, ?_⟩
        rw [← hS.out.2, HSt.out, List.append_assoc]
        rfl
      have HNM : Hid (n + 1 = (L ++ [(x, y, q)]).length) := by
        show n + 1 = (L ++ [(x, y, q)]).length
        rw [List.length_append, List.length_singleton, ← HNL.out]
      obtain ⟨hz1, hz3⟩ := hfs
      clear hB6 hss x0 x1 x2 hS HN
      go_wp2_with fail
      go_roundg (s.size - (i + z))
      case measure => omega
      case rel => exact ⟨i + z, n + 1, cp1, a1, _, rfl, by omega, by omega, by go_num, Nat.le_refl _, HNM, HNX⟩
    · obtain rfl : i = s.size := by omega
      have dl : decide ((s.size : Int) < (s.size : Int)) = false := decide_eq_false (by omega)
      have HZ : Hid (TokW w wr (.slice a n cp) (wayL C s.size 0) ∧ n = (wayL C s.size 0).length) := by
        have h := hS.out.2
        rw [way_end (Nat.le_refl _), List.append_nil] at h
        rw [← h]
        exact ⟨hS.out.1, HNL.out⟩
      go_wp2_with fail
      go_ret
      obtain ⟨h1, h2⟩ := HZ.out
      obtain ⟨a', c', e, hc, ht⟩ := tsl_of_own h1.1 rfl
      cases e
      exact ⟨a, cp, rfl, ht, hc, h1.2⟩

set_option maxHeartbeats 3200000 in
theorem walk_cheap (p : Nat) (qb : Nat) ( s : ByteArray) (C : Nat → Tok) (w : World) (h0 : w.cell? ⟨p, 0, none⟩ = some (.string s)) (hp : p < w.heap.size) (hs : s.size ≤ 2600) (hC : ∀ i, i < s.size → Fine (txt s) s.size i (C i))
    (hst : ∀ w', Below w.heap.size w w' → ∀ i, i < s.size → Calls Try.prog 53 #[.int .i64 (i : Int), .pointer (some ⟨qb, 0, none⟩)] w' fun e w2 => e = .returned (tokV (C i)) ∧ Below w'.heap.size w' w2) :
    Calls Try.prog 32 #[.pointer (some ⟨p, 0, none⟩), .func (.func 53) #[] #[.pointer (some ⟨qb, 0, none⟩)]] w (WayOut (wayL C s.size 0) w) := by
  have HST := hid_of hst
  have HC := hid_of hC
  have HSZ : Hid (∀ i, i < s.size → 1 ≤ sizeT (C i)) := fun i hi => (fine_size (hC i hi) hi).1
  have H0 : Hid (TokW w w (.slice none 0 0) [] ∧ [] ++ wayL C s.size 0 = wayL C s.size 0) := ⟨⟨World.ownsRow_nil _ _ _ _, Below.refl _ _⟩, rfl⟩
  clear hst hC
  go_enter Try.func32, Try.ntmps32
  go_wp2_with fail
  go_loopg [5, 6] (s.size + 1) (fun gk v y w' => ∃ (i n cp : Nat) (a : Option Addr) (L : List Tok), v = .slice a n cp ∧ i ≤ s.size ∧ n ≤ i ∧ y = .int .i64 i ∧ s.size - i ≤ gk ∧ Hid (n = L.length) ∧ Hid (TokW w w' (.slice a n cp) L ∧ L ++ wayL C s.size i = wayL C s.size 0))
  case atStart => exact ⟨0, 0, 0, none, [], rfl, Nat.zero_le _, Nat.le_refl _, rfl, by omega, rfl, H0⟩
  case round =>
    clear H0
    obtain ⟨i, n, cp, a, L, rfl, hi, hni, rfl, hgk, HNL, hS⟩ := hrel
    have c0 : wr.cell? ⟨p, 0, none⟩ = some (.string s) := (hS.out.1.2.cell (p := ⟨p, 0, none⟩) hp).trans h0
    have hpl : p < wr.heap.size := Nat.lt_of_lt_of_le hp hS.out.1.2.size
    by_cases hlt : i < s.size
    · have dl : decide ((i : Int) < (s.size : Int)) = true := decide_eq_true (by omega)
      have hstep := HST.out wr hS.out.1.2 i hlt
      have HSt := hid_of (way_step HSZ.out hlt)
      have hfs := fine_size (HC.out i hlt) hlt
      have hpos : 0 ≤ (C i).2.1 := by
        rcases HC.out i hlt with e | ⟨k, d, e, _⟩
        · rw [e]
          exact Int.le_refl _
        · rw [e]
          show (0 : Int) ≤ (k : Int)
          omega
      have hmx := step_max hpos (C i) rfl
      generalize C i = T at hstep HSt hfs hpos hmx
      generalize sizeT T = z at HSt hfs hmx
      obtain ⟨x, y, q⟩ := T
      have hmx' : max 1 y = (z : Nat) := hmx
      have hss := fun w => stepSize_any x y q w
      rw [hmx'] at hss
      clear hmx hmx' hpos
      go_wp2_with fail
      refine hstep.mono ?_
      rintro e w2 ⟨rfl, hB2⟩
      clear hstep c0
      have hS1 := hS.out.1.called hB2
      have HNE : Hid (∀ k, (Value.slice a n cp).ownBlock = some k → k < w2.heap.size) := fun k e => (hS1.1.lt k e).2
      have HS2 : Hid (TokW w (w2.alloc (.cells #[.int .i64 x, .int .i64 y, .int .i64 q] 51)) (.slice a n cp) L) := hS1.called (bstart _ _)
      have hz2 : w.heap.size ≤ w2.heap.size := Nat.le_trans hS.out.1.2.size hB2.size
      have HLN : Hid (L.length ≤ i) := by
        have := HNL.out
        show L.length ≤ i
        omega
      clear hB2 hS1
      go_wp2_with (at_builtin; refine toks_append (S := w.heap.size) (xs := L) (ys := [(x, y, q)]) rfl _ _ rfl rfl (World.ownsRow.alloc HS2.out.1 _) ⟨w2.heap.size + 1, 0, none⟩ 1 1 rfl rfl (news_tk (w2.alloc _) x y q _ (by simp)) (by have := HLN.out; simp only [List.length_cons, List.length_nil]; omega) (by simp; omega) ?_)
      intro v1 w5 y1 y2
      have hN := HS2.out.app (t := (x, y, q)) (by simpa using y1) y2
      obtain ⟨a1, cp1, hv1⟩ := hN.form
      have hzl : w2.heap.size < w5.heap.size := Nat.lt_of_lt_of_le (by simp; omega) y2.size
      have hkp : w5.heap[w2.heap.size]? = some (.cells #[.int .i64 x, .int .i64 y, .int .i64 q] 51 (0, 0)) := by
        refine (y2.block w2.heap.size (by simp; omega) (fun e => ?_)).trans (((bstart (w2.alloc _) _).block w2.heap.size (by simp)).trans (heap_alloc_new w2 _))
        have := HNE.out w2.heap.size (by simpa using e.symm)
        omega
      have x0 : w5.cell? ⟨w2.heap.size, 0, none⟩ = some (.int .i64 x) := (cell_of_block hkp 0).trans rfl
      have x1 : w5.cell? ⟨w2.heap.size, 1, none⟩ = some (.int .i64 y) := (cell_of_block hkp 1).trans rfl
      have x2 : w5.cell? ⟨w2.heap.size, 2, none⟩ = some (.int .i64 q) := (cell_of_block hkp 2).trans rfl
      rw [List.length_append, List.length_singleton, ← HNL.out] at hv1
      subst hv1
      have HN := hid_of hN
      clear y1 y2 hN hkp HS2
      go_wp2_with fail
      refine (hss _).mono ?_
      rintro e w6 ⟨rfl, hB6⟩
      have HNX : Hid (TokW w w6 (.slice a1 (n + 1) cp1) (L ++ [(x, y, q)]) ∧ L ++ [(x, y, q)] ++ wayL C s.size (i + z) = wayL C s.size 0) := by
        refine ⟨HN.out.called hB6, ?_⟩
        rw [← hS.out.2, HSt.out, List.append_assoc]
        rfl
      have HNM : Hid (n + 1 = (L ++ [(x, y, q)]).length) := by
        show n + 1 = (L ++ [(x, y, q)]).length
        rw [List.length_append, List.length_singleton, ← HNL.out]
      obtain ⟨hz1, hz3⟩ := hfs
      clear hB6 hss x0 x1 x2 hS HN
      go_wp2_with fail
      go_roundg (s.size - (i + z))
      case measure => omega
      case rel => exact ⟨i + z, n + 1, cp1, a1, _, rfl, by omega, by omega, by go_num, Nat.le_refl _, HNM, HNX⟩
    · obtain rfl : i = s.size := by omega
      have dl : decide ((s.size : Int) < (s.size : Int)) = false := decide_eq_false (by omega)
      have HZ : Hid (TokW w wr (.slice a n cp) (wayL C s.size 0) ∧ n = (wayL C s.size 0).length) := by
        have h := hS.out.2
        rw [way_end (Nat.le_refl _), List.append_nil] at h
        rw [← h]
        exact ⟨hS.out.1, HNL.out⟩
      go_wp2_with fail
      go_ret
      obtain ⟨h1, h2⟩ := HZ.out
      obtain ⟨a', c', e, hc, ht⟩ := tsl_of_own h1.1 rfl
      cases e
      exact ⟨a, cp, rfl, ht, hc, h1.2⟩

end Go.Proofs.Ytihcapfdpgaeiaa
