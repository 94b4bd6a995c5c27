/-
  The walk of the program's ReadClear at texts of few numbers. (Printed by tools/mkreadclear.py.)
-/
import Derived.Test.YtcnlcbkgbcnloaaRows
import Derived.Test.YtcnlcbkgbcnloaaHk01
import Derived.Test.YtcnlcbkgbcnloaaHk02
import Derived.Test.YtcnlcbkgbcnloaaHk03
import Derived.Test.YtcnlcbkgbcnloaaHk24
import Derived.Test.YtcnlcbkgbcnloaaHk23
import Derived.Test.YtcnlcbkgbcnloaaHk05
import Derived.Test.YtcnlcbkgbcnloaaHk15
import Derived.Test.YtcnlcbkgbcnloaaHk25
import Derived.Test.YtcnlcbkgbcnloaaHk28
import Derived.Test.YtcnlcbkgbcnloaaHk06
import Derived.Test.YtcnlcbkgbcnloaaHk21
import Derived.Test.YtcnlcbkgbcnloaaHk27
import Derived.WalkKit
import Derived.ProofKit
import Derived.WalkLawsBesides
import Derived.Below
import Derived.Lib.SmallJoins
namespace Go.Proofs.Ytcnlcbkgbcnloaa
open Go.RowKit Go.Joins OutMath RastMath FiltMath HeadMath

/-- What ReadClear answers of a text of n numbers. -/
def RcPost (x y d c table : Int) (t : ByteArray) (n : Nat) (w : World) (e : Ending) (w' : World) : Prop := (∃ b : Bool, (b = true ↔ HeadR x y d c ∧ ClearR d c table n (smp t (clrD c))) ∧ ((b = true ∧ ∃ g, e = .returned (.tuple #[.slice (some ⟨g, 0, none⟩) n n, .bool true]) ∧ IOwn w' w.heap.size g n n (smp t (clrD c))) ∨ (b = false ∧ e = .returned (.tuple #[.slice none 0 0, .bool false])))) ∧ Below w.heap.size w w'
set_option maxRecDepth 100000 in
set_option maxHeartbeats 3200000 in
theorem implReadClear_table (x y d table : Int) (l : Bool) (t : ByteArray) (n : Nat) (w : World) (hn : n ≤ 96) (hs : t.size = n) :
    Calls Try.prog 20 #[.agg #[.int .i64 x, .int .i64 y, .int .i64 d, .int .i64 3, .bool l], .int .i64 table, .string t] w (RcPost x y d 3 table t n w) := by
  have hcd := clearDepth_any 3
  have hDe : clrD 3 = 8 := rfl
  rw [hDe] at hcd
  have kD : ((8 : Nat) : Int) = 8 := rfl
  rw [kD] at hcd
  have HDe := hid_of hDe
  have t1 : ((t.size : Int) * 8).tdiv 8 = (n : Int) := by
    rw [Int.tdiv_eq_ediv_of_nonneg (by omega)]
    omega
  have w1 : IntKind.i64.wrap ((t.size : Int) * 8) = (t.size : Int) * 8 := by rw [IntKind.wrap_i64]; omega
  have w2 : IntKind.i64.wrap (n : Int) = (n : Int) := by rw [IntKind.wrap_i64]; omega
  have hf := fun W => rowFor_any ((n : Int) * 8) W (by omega) (by omega)
  rw [show ((n : Int) * 8 + 7) / 8 = (t.size : Int) by omega] at hf
  have hne : ((t.size : Int) != (t.size : Int)) = false := by simp
  have hsz : t.size ≤ 1048576 := by omega
  have HS : Hid ((t.size : Int) = ((n : Int) * ((8 : Nat) : Int) + 7) / 8) := by show _ = _; omega
  have HFV : Hid (Five ((8 : Nat) : Int)) := by show Five _; decide
  have HX : Hid ((w.alloc (.cells #[.int .i64 x, .int .i64 y, .int .i64 d, .int .i64 3, .bool l] 25)).heap[w.heap.size]? = some (.cells #[.int .i64 x, .int .i64 y, .int .i64 d, .int .i64 3, .bool l] 25 (0, 0))) := heap_alloc_new w _
  have HB := hid_of (bstart w (.cells #[.int .i64 x, .int .i64 y, .int .i64 d, .int .i64 3, .bool l] 25))
  clear hDe hs
  go_enter Try.func20, Try.ntmps20
  go_wp2_with fail
  generalize w.alloc (.cells #[.int .i64 x, .int .i64 y, .int .i64 d, .int .i64 3, .bool l] 25) = W1 at HX HB ⊢
  refine (hcd W1).mono ?_
  rintro e w2 ⟨rfl, rfl⟩
  have hmk := make_ints w2 n (by omega)
  have hO3 : IOwn (w2.alloc (.cells (madeCells #[Value.int .i64 0] n) 3)) w.heap.size w2.heap.size n n (fun _ => 0) := IOwn.made (base := w.heap.size) w2 n (by unfold maxLen; omega) HB.out.size
  have HB3 : Hid (Below w.heap.size w (w2.alloc (.cells (madeCells #[Value.int .i64 0] n) 3))) := bnext HB.out (bstart _ _)
  have hGw : w.heap.size ≤ w2.heap.size := HB.out.size
  have hXG : w.heap.size < w2.heap.size := block_lt HX.out
  have HX3 : Hid ((w2.alloc (.cells (madeCells #[Value.int .i64 0] n) 3)).heap[w.heap.size]? = some (.cells #[.int .i64 x, .int .i64 y, .int .i64 d, .int .i64 3, .bool l] 25 (0, 0))) := (Below.heap_alloc _ _ _ (block_lt HX.out)).trans HX.out
  go_wp2_with fail
  generalize w2.alloc (.cells (madeCells #[Value.int .i64 0] n) 3) = w3 at hmk hO3 HB3 HX3 ⊢
  generalize w2.heap.size = G at hmk hO3 hGw hXG ⊢
  clear HX HB hmk
  refine (hf w3).mono ?_
  rintro e w4 ⟨rfl, rfl⟩
  obtain ⟨W7, cz, hcv, hO7, hB7⟩ := bown_of_text w4 t hsz
  have hp := unpackInto_any t n 8 w.heap.size G n n 0 n w4.heap.size cz (fun _ => 0) W7 HFV.out hn HS.out (hO3.called hB7) (by omega) hO7.bytes (by have := hO3.lt; omega)
  have HB7 : Hid (Below w.heap.size w W7) := bnext HB3.out hB7
  have HX7 := hid_of ((hB7.block _ (block_lt HX3.out)).trans HX3.out)
  rw [kD] at hp
  clear hO3 hO7 hB7 HX3
  generalize w4.heap.size = GB at hcv hp
  go_wp2_with fail
  refine hp.mono ?_
  rintro e w8 ⟨rfl, h, hO, hh, -, hBB⟩
  have HO : Hid (IOwn w8 w.heap.size G n n (smp t 8)) := hO.congr fun i hi => by have := hh i hi; rw [Nat.zero_add] at this; exact this
  have HB8 : Hid (Below w.heap.size w w8) := hBB.below HB7.out hGw HB7.out.size
  have HX8 : Hid (w8.heap[w.heap.size]? = some (.cells #[.int .i64 x, .int .i64 y, .int .i64 d, .int .i64 3, .bool l] 25 (0, 0))) := (hBB.block _ (block_lt HX7.out) (by omega)).trans HX7.out
  clear hO hh hBB hp hcv HX7 HB7 hf hcd
  obtain ⟨k0, k1, k2, k3, k4⟩ := head_cells HX8.out
  have lx := block_lt HX8.out
  have hhc := fun W (q : Came W (some ⟨G, 0, none⟩) n (smp t 8)) => hasClear_any x y 3 table d l (some ⟨G, 0, none⟩) n n (smp t 8) W q (by omega)
  go_wp2_with fail
  refine (hhc w8 HO.out.sl.came).mono ?_
  rintro e w9 ⟨b, rfl, hb, hB9⟩
  have HBB : Hid (b = true ↔ HeadR x y d 3 ∧ ClearR d 3 table n (smp t (clrD 3))) := by rw [HDe.out]; exact hb
  have HB9 := hid_of (bnext HB8.out hB9)
  have HO9 : Hid (IOwn w9 w.heap.size G n n (smp t (clrD 3))) := by rw [HDe.out]; exact HO.out.called hB9
  clear hb hB9 HO HB8 HX8 k0 k1 k2 k3 k4 lx hhc
  cases b
  · go_wp2_with fail
    exact bodyPost_ret (v := .tuple #[.slice none 0 0, .bool false]) (by simp [results, Try.results20, go_sem]) rfl ⟨⟨false, HBB.out, .inr ⟨rfl, rfl⟩⟩, HB9.out⟩
  · go_wp2_with fail
    exact bodyPost_ret (v := .tuple #[.slice (some ⟨G, 0, none⟩) n n, .bool true]) (by simp [results, Try.results20, go_sem]) rfl ⟨⟨true, (by have q := HBB.out; simpa using q), .inl ⟨rfl, G, rfl, HO9.out⟩⟩, HB9.out⟩
set_option maxRecDepth 100000 in
set_option maxHeartbeats 3200000 in
theorem implReadClear_other (x y d c table : Int) (l : Bool) (t : ByteArray) (n : Nat) (w : World) (hn : n ≤ 96) (hs : t.size = 2 * n) (hc : ¬ c = 3) :
    Calls Try.prog 20 #[.agg #[.int .i64 x, .int .i64 y, .int .i64 d, .int .i64 c, .bool l], .int .i64 table, .string t] w (RcPost x y d c table t n w) := by
  have hcd := clearDepth_any c
  have hDe : clrD c = 16 := if_neg hc
  rw [hDe] at hcd
  have kD : ((16 : Nat) : Int) = 16 := rfl
  rw [kD] at hcd
  have HDe := hid_of hDe
  have t1 : ((t.size : Int) * 8).tdiv 16 = (n : Int) := by
    rw [Int.tdiv_eq_ediv_of_nonneg (by omega)]
    omega
  have w1 : IntKind.i64.wrap ((t.size : Int) * 8) = (t.size : Int) * 8 := by rw [IntKind.wrap_i64]; omega
  have w2 : IntKind.i64.wrap (n : Int) = (n : Int) := by rw [IntKind.wrap_i64]; omega
  have hf := fun W => rowFor_any ((n : Int) * 16) W (by omega) (by omega)
  rw [show ((n : Int) * 16 + 7) / 8 = (t.size : Int) by omega] at hf
  have hne : ((t.size : Int) != (t.size : Int)) = false := by simp
  have hsz : t.size ≤ 1048576 := by omega
  have HS : Hid ((t.size : Int) = ((n : Int) * ((16 : Nat) : Int) + 7) / 8) := by show _ = _; omega
  have HFV : Hid (Five ((16 : Nat) : Int)) := by show Five _; decide
  have HX : Hid ((w.alloc (.cells #[.int .i64 x, .int .i64 y, .int .i64 d, .int .i64 c, .bool l] 25)).heap[w.heap.size]? = some (.cells #[.int .i64 x, .int .i64 y, .int .i64 d, .int .i64 c, .bool l] 25 (0, 0))) := heap_alloc_new w _
  have HB := hid_of (bstart w (.cells #[.int .i64 x, .int .i64 y, .int .i64 d, .int .i64 c, .bool l] 25))
  clear hDe hs
  go_enter Try.func20, Try.ntmps20
  go_wp2_with fail
  generalize w.alloc (.cells #[.int .i64 x, .int .i64 y, .int .i64 d, .int .i64 c, .bool l] 25) = W1 at HX HB ⊢
  refine (hcd W1).mono ?_
  rintro e w2 ⟨rfl, rfl⟩
  have hmk := make_ints w2 n (by omega)
  have hO3 : IOwn (w2.alloc (.cells (madeCells #[Value.int .i64 0] n) 3)) w.heap.size w2.heap.size n n (fun _ => 0) := IOwn.made (base := w.heap.size) w2 n (by unfold maxLen; omega) HB.out.size
  have HB3 : Hid (Below w.heap.size w (w2.alloc (.cells (madeCells #[Value.int .i64 0] n) 3))) := bnext HB.out (bstart _ _)
  have hGw : w.heap.size ≤ w2.heap.size := HB.out.size
  have hXG : w.heap.size < w2.heap.size := block_lt HX.out
  have HX3 : Hid ((w2.alloc (.cells (madeCells #[Value.int .i64 0] n) 3)).heap[w.heap.size]? = some (.cells #[.int .i64 x, .int .i64 y, .int .i64 d, .int .i64 c, .bool l] 25 (0, 0))) := (Below.heap_alloc _ _ _ (block_lt HX.out)).trans HX.out
  go_wp2_with fail
  generalize w2.alloc (.cells (madeCells #[Value.int .i64 0] n) 3) = w3 at hmk hO3 HB3 HX3 ⊢
  generalize w2.heap.size = G at hmk hO3 hGw hXG ⊢
  clear HX HB hmk
  refine (hf w3).mono ?_
  rintro e w4 ⟨rfl, rfl⟩
  obtain ⟨W7, cz, hcv, hO7, hB7⟩ := bown_of_text w4 t hsz
  have hp := unpackInto_any t n 16 w.heap.size G n n 0 n w4.heap.size cz (fun _ => 0) W7 HFV.out hn HS.out (hO3.called hB7) (by omega) hO7.bytes (by have := hO3.lt; omega)
  have HB7 : Hid (Below w.heap.size w W7) := bnext HB3.out hB7
  have HX7 := hid_of ((hB7.block _ (block_lt HX3.out)).trans HX3.out)
  rw [kD] at hp
  clear hO3 hO7 hB7 HX3
  generalize w4.heap.size = GB at hcv hp
  go_wp2_with fail
  refine hp.mono ?_
  rintro e w8 ⟨rfl, h, hO, hh, -, hBB⟩
  have HO : Hid (IOwn w8 w.heap.size G n n (smp t 16)) := hO.congr fun i hi => by have := hh i hi; rw [Nat.zero_add] at this; exact this
  have HB8 : Hid (Below w.heap.size w w8) := hBB.below HB7.out hGw HB7.out.size
  have HX8 : Hid (w8.heap[w.heap.size]? = some (.cells #[.int .i64 x, .int .i64 y, .int .i64 d, .int .i64 c, .bool l] 25 (0, 0))) := (hBB.block _ (block_lt HX7.out) (by omega)).trans HX7.out
  clear hO hh hBB hp hcv HX7 HB7 hf hcd
  obtain ⟨k0, k1, k2, k3, k4⟩ := head_cells HX8.out
  have lx := block_lt HX8.out
  have hhc := fun W (q : Came W (some ⟨G, 0, none⟩) n (smp t 16)) => hasClear_any x y c table d l (some ⟨G, 0, none⟩) n n (smp t 16) W q (by omega)
  go_wp2_with fail
  refine (hhc w8 HO.out.sl.came).mono ?_
  rintro e w9 ⟨b, rfl, hb, hB9⟩
  have HBB : Hid (b = true ↔ HeadR x y d c ∧ ClearR d c table n (smp t (clrD c))) := by rw [HDe.out]; exact hb
  have HB9 := hid_of (bnext HB8.out hB9)
  have HO9 : Hid (IOwn w9 w.heap.size G n n (smp t (clrD c))) := by rw [HDe.out]; exact HO.out.called hB9
  clear hb hB9 HO HB8 HX8 k0 k1 k2 k3 k4 lx hhc
  cases b
  · go_wp2_with fail
    exact bodyPost_ret (v := .tuple #[.slice none 0 0, .bool false]) (by simp [results, Try.results20, go_sem]) rfl ⟨⟨false, HBB.out, .inr ⟨rfl, rfl⟩⟩, HB9.out⟩
  · go_wp2_with fail
    exact bodyPost_ret (v := .tuple #[.slice (some ⟨G, 0, none⟩) n n, .bool true]) (by simp [results, Try.results20, go_sem]) rfl ⟨⟨true, (by have q := HBB.out; simpa using q), .inl ⟨rfl, G, rfl, HO9.out⟩⟩, HB9.out⟩
/-- At what ClearText tells. -/
theorem implReadClear (x y d c table : Int) (l : Bool) (n : Nat) (f : Nat → Int) (T : ByteArray) (b : Bool) (w : World) (hn : n ≤ 96) (h1 : b = true → T = clrT c f n ∧ HeadR x y d c ∧ ClearR d c table n f) (h2 : b = false → T = ⟨#[]⟩ ∧ ¬ (HeadR x y d c ∧ ClearR d c table n f)) :
    Calls Try.prog 20 #[.agg #[.int .i64 x, .int .i64 y, .int .i64 d, .int .i64 c, .bool l], .int .i64 table, .string T] w fun e w' => (∃ (a : Option Addr) (m cap : Nat) (q : Bool), e = .returned (.tuple #[.slice a m cap, .bool q]) ∧ (b = true → q = true ∧ m = n ∧ Came w' a n f)) ∧ Below w.heap.size w w' := by
  have go : ∀ (m : Nat), m ≤ 96 → (c = 3 → T.size = m) → (¬ c = 3 → T.size = 2 * m) → Calls Try.prog 20 #[.agg #[.int .i64 x, .int .i64 y, .int .i64 d, .int .i64 c, .bool l], .int .i64 table, .string T] w (RcPost x y d c table T m w) := fun m hm k1 k2 => by
    by_cases hc : c = 3
    · subst hc
      exact implReadClear_table x y d table l T m w hm (k1 rfl)
    · exact implReadClear_other x y d c table l T m w hm (k2 hc) hc
  cases b
  · obtain ⟨rfl, _⟩ := h2 rfl
    refine (go 0 (by omega) (fun _ => rfl) (fun _ => rfl)).mono ?_
    rintro e w1 ⟨⟨b, _, ⟨_, g, rfl, _⟩ | ⟨_, rfl⟩⟩, hB⟩
    · exact ⟨⟨_, _, _, _, rfl, fun e => by cases e⟩, hB⟩
    · exact ⟨⟨_, _, _, _, rfl, fun e => by cases e⟩, hB⟩
  · obtain ⟨hT, hR, hK⟩ := h1 rfl
    have hF := clear_fit hR.2.2 hK
    have hpk := clear_packed hF
    have hsm : ∀ i, i < n → smp T (clrD c) i = f i := fun i hi => by rw [hT, ← hpk]; exact smp_pack hF i hi
    have hsz : T.size = (if c = 3 then 1 else 2) * n := by rw [hT]; exact (strOfNums_size _).trans (clrL_length _ _ _)
    refine (go n hn (fun e => by rw [hsz, if_pos e]; omega) (fun e => by rw [hsz, if_neg e])).mono ?_
    rintro e w1 ⟨⟨b, hb, hq⟩, hB⟩
    have hbt : b = true := hb.mpr ⟨hR, clearR_congr (fun i hi => (hsm i hi).symm) hK⟩
    rcases hq with ⟨_, g, rfl, hO⟩ | ⟨e, _⟩
    · exact ⟨⟨_, n, n, true, rfl, fun _ => ⟨rfl, rfl, (hO.congr hsm).sl.came⟩⟩, hB⟩
    · rw [hbt] at e
      cases e
end Go.Proofs.Ytcnlcbkgbcnloaa
