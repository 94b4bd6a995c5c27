/-
  The walks of the program's withPiece over a row of bytes that may be none yet, and of what it leaves alone.
  What the walks over lengths and distances share. Nothing here speaks of the program.
  The symbols of lengths and distances as the program tells them: by the number's own bits. Nothing here speaks of the program.
  Plain facts on bits that are put into bytes, the lowest of each byte first; nothing here speaks of the program.
  The walks of the program's symbols of numbers: how many bits a number has, the symbol and its extra bits.
  The walks of the program's symbols of numbers: how many bits a number has, the symbol and its extra bits, the least number of a symbol.
  What the program is to answer of a length.
-/
import Derived.Test.YtedbmhelmenknaaDoorPk10
import Derived.Test.YtedbmhelmenknaaDoorPk13
import Derived.Test.YtedbmhelmenknaaDoorPk05
import Derived.Test.YtedbmhelmenknaaDoorPk06
import Derived.Test.YtedbmhelmenknaaDoorRows
import Derived.Test.YtedbmhelmenknaaDoorPk01
import Derived.Test.YtedbmhelmenknaaDoorPk07
import Derived.Deep.LoopGhost
import Derived.WalkKit
import Derived.Lib.BitFns
import Derived.Laws.BitsAllLaws
import Derived.ProofKit
import Derived.WalkLawsBesides
import Derived.RegionTactic
import Derived.Lib.SmallJoins
import Derived.Lib.Strings
import Derived.Lib.Slices
import Derived.Lib.Small
import Derived.Lib.Walk
import Derived.Below
namespace Go.Proofs.YtedbmhelmenknaaDoor
open Go.RowKit Go.Joins TokMath

/-- The row of v moved to that of v', all else of w is left alone. -/
def Moved (w w' : World) (v v' : Value) : Prop := w.grownBy w' v.ownBlock ∧ (v'.ownBlock = v.ownBlock ∨ ∀ k, v'.ownBlock = some k → w.heap.size ≤ k)
theorem Moved.next {w w' w1 : World} {v v' v1 : Value} {o : Obj} (h : Moved w w' v v') (hg : (w'.alloc o).grownBy w1 v'.ownBlock) (hv : v1.ownBlock = v'.ownBlock ∨ v1.ownBlock = some (w'.heap.size + 1)) : Moved w w1 v v1 := by
  obtain ⟨h1, h2⟩ := h
  have hs := h1.size
  have hsz : (w'.alloc o).heap.size = w'.heap.size + 1 := World.size_alloc _ _
  have hs2 := hg.size
  have hb := bstart w' o
  refine ⟨⟨hg.os.trans (hb.os.trans h1.os), hg.tape.trans (hb.tape.trans h1.tape), hg.output.trans (hb.output.trans h1.output), by omega, fun k hk hne => ?_⟩, ?_⟩
  · refine (hg.block k (by omega) (fun e => ?_)).trans ((hb.block k (by omega)).trans (h1.block k hk hne))
    rcases h2 with q | q
    · exact hne (by rw [e, q])
    · have := q k e.symm
      omega
  · rcases hv with q | q
    · rcases h2 with q1 | q1
      · exact .inl (q.trans q1)
      · exact .inr (fun k e => q1 k (by rw [← q]; exact e))
    · refine .inr (fun k e => ?_)
      rw [q] at e
      have := Option.some.inj e
      omega
theorem Moved.start (w : World) (v : Value) (o : Obj) : Moved w (w.alloc o) v v := ⟨grown_called (bstart w o) _, .inl rfl⟩
theorem Moved.refl (w : World) (v : Value) : Moved w w v v := ⟨grown_called (Below.refl _ _) _, .inl rfl⟩

set_option maxHeartbeats 1600000 in
theorem with_byte_own (S : Nat) (a : Option Addr) (n c : Nat) (O : List Int) (x : Int) (w : World) (hO : OR w S (.slice a n c) O) (hn : O.length ≤ 90000) (hS : S ≤ w.heap.size) :
    Calls Tryd.prog 79 #[.slice a n c, .iface 145 (.int .u8 x)] w fun e w' => ∃ v', e = .returned (.tuple #[v', .bool true]) ∧ OR w' S v' (O ++ [x]) ∧ Moved w w' (.slice a n c) v' := by
  have HO := hid_of hO
  have t1 := as_literal
  clear hO
  go_enter Tryd.func79, Tryd.ntmps79
  go_wp2_with (at_builtin; refine bytes_append1 (S := S) (xs := O) rfl _ _ rfl rfl (World.ownsRow.alloc HO.out _) w.heap.size 1 x rfl (by simp) (by omega) (by simp; omega) ?_)
  intro v1 w5 y1 y2 y3
  have HN : Hid (OR w5 S v1 (O ++ [x]) ∧ Moved w w5 (.slice a n c) v1) := ⟨y1, (Moved.refl w _).next y2 y3⟩
  clear y1 y2 y3 HO
  go_wp2_with fail
  go_ret2
  exact ⟨v1, rfl, HN.out⟩

theorem with_far_own (a : Option Addr) (n c : Nat) (y z : Int) (w : World) (hz : (n : Int) < z) :
    Calls Tryd.prog 79 #[.slice a n c, .iface 147 (.agg #[.int .i64 y, .int .i64 z])] w fun e w' => e = .returned (.tuple #[.slice none 0 0, .bool false]) ∧ Below w.heap.size w w' := by
  have t1 := no_literal
  have t2 := as_repeat
  have d : decide ((n : Int) < z) = true := decide_eq_true hz
  go_enter Tryd.func79, Tryd.ntmps79
  go_wp2_with fail
  go_ret2
  exact ⟨rfl, bstart _ _⟩

/-- What the ring has at hand: the text so far, and the piece's box. -/
def WpO (S : Nat) (w w' : World) (y z : Int) (v v' : Value) (O : List Int) : Prop := OR w' S v' O ∧ Moved w w' v v' ∧ w'.heap[w.heap.size]? = some (.cells #[.int .i64 y, .int .i64 z] 147 (0, 0)) ∧ v'.ownBlock ≠ some w.heap.size
theorem WpO.next {S : Nat} {w w' w1 : World} {y z q : Int} {v v' v1 : Value} {O : List Int} {o : Obj} (h : WpO S w w' y z v v' O) (y1 : OR w1 S v1 (O ++ [q])) (y2 : (w'.alloc o).grownBy w1 v'.ownBlock) (y3 : v1.ownBlock = v'.ownBlock ∨ v1.ownBlock = some (w'.heap.size + 1)) : WpO S w w1 y z v v1 (O ++ [q]) := by
  obtain ⟨h1, h2, h3, h4⟩ := h
  have ht := block_lt h3
  have hsz : (w'.alloc o).heap.size = w'.heap.size + 1 := World.size_alloc _ _
  refine ⟨y1, h2.next y2 y3, ?_, fun e => ?_⟩
  · exact (y2.block _ (by omega) (fun e => h4 e.symm)).trans (((bstart w' o).block _ ht).trans h3)
  · rcases y3 with q | q
    · exact h4 (by rw [← q]; exact e)
    · rw [q] at e
      have := Option.some.inj e
      omega

set_option maxHeartbeats 3200000 in
theorem with_repeat_own (S : Nat) (a : Option Addr) (n c T d : Nat) (O : List Int) (w : World) (hO : OR w S (.slice a n c) O) (hnO : n = O.length) (hn : n ≤ 90000) (hS : S ≤ w.heap.size) (hT : T ≤ 300) (hd1 : 1 ≤ d) (hdn : d ≤ n) :
    Calls Tryd.prog 79 #[.slice a n c, .iface 147 (.agg #[.int .i64 (T : Int), .int .i64 (d : Int)])] w fun e w' => ∃ a' c', e = .returned (.tuple #[.slice a' (n + T) c', .bool true]) ∧ OR w' S (.slice a' (n + T) c') (copyN d T O) ∧ Moved w w' (.slice a n c) (.slice a' (n + T) c') := by
  have t1 := no_literal
  have t2 := as_repeat
  have d1 : decide ((n : Int) < (d : Int)) = false := decide_eq_false (by omega)
  have d2 : decide (n < d) = false := decide_eq_false (by omega)
  have H0 : Hid (WpO S w (w.alloc (.cells #[.int .i64 (T : Int), .int .i64 (d : Int)] 147)) (T : Int) (d : Int) (.slice a n c) (.slice a n c) (copyN d 0 O)) := by
    refine ⟨World.ownsRow.alloc hO _, Moved.start _ _ _, heap_alloc_new w _, fun e => ?_⟩
    have := (World.ownsRow.lt hO _ e).2
    omega
  have HNO := hid_of hnO
  clear hO hnO
  go_enter Tryd.func79, Tryd.ntmps79
  go_wp2_with fail
  go_loopg [0, 26] (T + 1) (fun gk v y w' => ∃ (j n2 c2 : Nat) (a2 : Option Addr), v = .slice a2 n2 c2 ∧ j ≤ T ∧ y = .int .i64 j ∧ T - j ≤ gk ∧ n ≤ n2 ∧ n2 ≤ n + 300 ∧ Hid (n2 = n + j ∧ WpO S w w' (T : Int) (d : Int) (.slice a n c) (.slice a2 n2 c2) (copyN d j O)))
  case atStart => exact ⟨0, n, c, a, rfl, Nat.zero_le _, rfl, by omega, Nat.le_refl _, by omega, rfl, H0.out⟩
  case round =>
    clear H0
    obtain ⟨j, n2, c2, a2, rfl, hj, rfl, hgk2, hn2, hn3, hS2⟩ := hrel
    have m1 := cell_of_block hS2.out.2.2.2.1 0
    have m2 := cell_of_block hS2.out.2.2.2.1 1
    have mt := block_lt hS2.out.2.2.2.1
    have hlen : n2 = (copyN d j O).length := by
      obtain ⟨a', c', e⟩ := hS2.out.2.1.form
      cases e
      rfl
    obtain ⟨g2, cp2, hcl, mg, cq⟩ := hS2.out.2.1.cell (j := n2 - d) (by omega)
    cases hcl
    have HLEN := hid_of hlen
    by_cases hjt : j < T
    · have dj : decide ((j : Int) < (T : Int)) = true := decide_eq_true (by omega)
      have k1 : (((copyN d j O).length : Int) - (d : Int)).toNat = (copyN d j O).length - d := by omega
      have k2 : (0 : Int) ≤ ((copyN d j O).length : Int) - (d : Int) := by omega
      have k3 : ((copyN d j O).length : Int) - (d : Int) < ((copyN d j O).length : Int) := by omega
      have k4 : (copyN d j O).length - d < (copyN d j O).length := by omega
      have hown := hS2.out.2.1
      obtain ⟨q, hq⟩ : ∃ q, q = (copyN d j O).getD ((copyN d j O).length - d) 0 := ⟨_, rfl⟩
      rw [← hq] at cq
      have HQ : Hid (copyN d (j + 1) O = copyN d j O ++ [q]) := by
        show copyN d (j + 1) O = copyN d j O ++ [q]
        rw [copy_snoc, hq]
      have hS3 := hid_of hS2.out
      clear hq hlen HLEN
      generalize hL : copyN d j O = L at *
      have HL := hid_of hL
      clear hL hS2
      have HOW := hid_of hown
      clear hown
      generalize hN : L.length = N at *
      have HN := hid_of hN
      clear hN
      go_wp2_with (at_builtin; refine bytes_append1 (S := S) (xs := L) rfl _ _ rfl rfl (World.ownsRow.alloc HOW.out _) wr.heap.size 1 q rfl (by simp) (by have := HN.out; omega) (by have := hS3.out.2.2.1.1.size; simp; omega) ?_)
      intro v1 w5 y1 y2 y3
      have HC5 : Hid (WpO S w w5 (T : Int) (d : Int) (.slice a n c) v1 (copyN d (j + 1) O)) := by
        rw [HQ.out]
        exact hS3.out.2.next y1 y2 y3
      have hf := OR.form y1
      clear y1 y2 y3
      obtain ⟨a1, c1, rfl⟩ := hf
      rw [List.length_append, List.length_singleton, HN.out] at *
      go_wp2_with fail
      go_roundg (T - (j + 1))
      case measure => omega
      case rel => exact ⟨j + 1, N + 1, c1, a1, rfl, by omega, by go_num, Nat.le_refl _, by omega, by have := hS3.out.1; omega, by have := hS3.out.1; omega, HC5.out⟩
    · obtain rfl : j = T := by omega
      have dj : decide ((j : Int) < (j : Int)) = false := decide_eq_false (by omega)
      have hn4 := hS2.out.1
      have HZ : Hid (OR wr S (.slice (some ⟨g2, 0, none⟩) (n + j) c2) (copyN d j O) ∧ Moved w wr (.slice a n c) (.slice (some ⟨g2, 0, none⟩) (n + j) c2)) := by
        rw [← hn4]
        exact ⟨hS2.out.2.1, hS2.out.2.2.1⟩
      clear hS2
      rw [hn4]
      go_wp2_with fail
      go_ret2
      exact ⟨_, c2, rfl, HZ.out⟩

end Go.Proofs.YtedbmhelmenknaaDoor

namespace Go.Proofs.YtedbmhelmenknaaDoor
open Go.RowKit OutMath StepMath

theorem p2_pow (m : Nat) : p2 m = ((2 ^ m : Nat) : Int) := (pow_cast m).symm
theorem from_next (c k j : Nat) : ((fromN c k (j + 1) : Nat) : Int) = ((fromN c k j : Nat) : Int) + p2 (bitsN k j) := by
  rw [p2_pow, ← Int.natCast_add]
  rfl
theorem ret_ii {k : IntKind} {a b c d : Int} (h : a = b) (h' : c = d) : Ending.returned (.tuple #[.int k a, .int k c]) = .returned (.tuple #[.int k b, .int k d]) := by rw [h, h']
theorem ret_iii {k : IntKind} {a b c d x y : Int} (h : a = b) (h' : c = d) (h2 : x = y) : Ending.returned (.tuple #[.int k a, .int k c, .int k x]) = .returned (.tuple #[.int k b, .int k d, .int k y]) := by rw [h, h', h2]
theorem ret_ib {k : IntKind} {a b : Int} {c d : Bool} (h : a = b) (h' : c = d) : Ending.returned (.tuple #[.int k a, .bool c]) = .returned (.tuple #[.int k b, .bool d]) := by rw [h, h']

end Go.Proofs.YtedbmhelmenknaaDoor

namespace Go.Proofs.YtedbmhelmenknaaDoor
open Go.Proofs StepMath

theorem bit_len_of {n c : Nat} (h1 : 2 ^ (c + 1) ≤ n) (h2 : n < 2 ^ (c + 2)) (h : n < 18446744073709551616) : Lib.bitLen n = c + 2 := by
  rw [Lib.bitLen_shift (c + 1) n h1 h]
  have hp := Nat.two_pow_pos (c + 1)
  have e : n / 2 ^ (c + 1) = 1 := by
    rw [Nat.pow_succ 2 (c + 1)] at h2
    exact Nat.div_eq_of_lt_le (by omega) (by omega)
  rw [e]
  rfl
theorem len_sym : ∀ n, n < 255 → lenCode (n + 3) = (257 + ((Lib.bitLen n - 3) * 4 + n / 2 ^ (Lib.bitLen n - 3)), Lib.bitLen n - 3, n % 2 ^ (Lib.bitLen n - 3)) ∧ Lib.bitLen n ≤ 8 := by decide +kernel
theorem dist_first : ∀ n, n < 4 → distCode (n + 1) = ((Lib.bitLen n - 2) * 2 + n / 2 ^ (Lib.bitLen n - 2), Lib.bitLen n - 2, n % 2 ^ (Lib.bitLen n - 2)) ∧ Lib.bitLen n ≤ 15 := by decide +kernel
theorem dist_from : ∀ c, c < 14 → fromN 1 2 (c * 2 + 2) = 1 + 2 * 2 ^ c ∧ fromN 1 2 (c * 2 + 3) = 1 + 3 * 2 ^ c ∧ fromN 1 2 (c * 2 + 4) = 1 + 4 * 2 ^ c ∧ bitsN 2 (c * 2 + 2) = c ∧ bitsN 2 (c * 2 + 3) = c := by decide +kernel
theorem dist_more {n c : Nat} (hc : c < 14) (h1 : 2 ^ (c + 1) ≤ n) (h2 : n < 2 ^ (c + 2)) : distCode (n + 1) = (c * 2 + n / 2 ^ c, c, n % 2 ^ c) := by
  obtain ⟨f2, f3, f4, b2, b3⟩ := dist_from c hc
  have e1 : 2 ^ (c + 1) = 2 * 2 ^ c := by rw [Nat.pow_succ, Nat.mul_comm]
  have e2 : 2 ^ (c + 2) = 4 * 2 ^ c := by rw [Nat.pow_succ, Nat.pow_succ]; omega
  rw [e1] at h1
  rw [e2] at h2
  have hp := Nat.two_pow_pos c
  have hm := Nat.div_add_mod n (2 ^ c)
  have hl := Nat.mod_lt n hp
  generalize 2 ^ c = p at *
  unfold distCode
  rcases Nat.lt_or_ge n (3 * p) with h | h
  · have hq : n / p = 2 := Nat.div_eq_of_lt_le (by omega) (by omega)
    rw [hq] at hm ⊢
    rw [find_told (j := c * 2 + 2) (by omega) (by show n + 1 < fromN 1 2 (c * 2 + 3); omega) (by omega) (by omega), b2, f2]
    congr 2
    omega
  · have hq : n / p = 3 := Nat.div_eq_of_lt_le (by omega) (by omega)
    rw [hq] at hm ⊢
    rw [find_told (j := c * 2 + 3) (by omega) (by show n + 1 < fromN 1 2 (c * 2 + 4); omega) (by omega) (by omega), b3, f3]
    congr 2
    omega
theorem dist_sym {n : Nat} (h : n < 32768) : distCode (n + 1) = ((Lib.bitLen n - 2) * 2 + n / 2 ^ (Lib.bitLen n - 2), Lib.bitLen n - 2, n % 2 ^ (Lib.bitLen n - 2)) ∧ Lib.bitLen n ≤ 15 := by
  rcases Nat.lt_or_ge n 4 with h4 | h4
  · exact dist_first n h4
  · have key : ∃ c, c < 14 ∧ 2 ^ (c + 1) ≤ n ∧ n < 2 ^ (c + 2) := by
      have : ∀ k, k < 14 → n < 2 ^ (k + 2) → ∃ c, c < 14 ∧ 2 ^ (c + 1) ≤ n ∧ n < 2 ^ (c + 2) := by
        intro k
        induction k with
        | zero => intro _ h; exact absurd h (by omega)
        | succ k ih =>
          intro hk hn
          rcases Nat.lt_or_ge n (2 ^ (k + 2)) with q | q
          · exact ih (by omega) q
          · exact ⟨k + 1, hk, q, hn⟩
      exact this 13 (by omega) h
    obtain ⟨c, hc, h1, h2⟩ := key
    have e := bit_len_of h1 h2 (by omega)
    have ec : Lib.bitLen n - 2 = c := by omega
    rw [ec]
    exact ⟨dist_more hc h1 h2, by omega⟩
/-- The least numbers of the symbols. -/
theorem len_least : ∀ j, j < 28 → lenBits (257 + j) = (j / 4 - 1, 3 + (j - (j / 4 - 1) * 4) * 2 ^ (j / 4 - 1)) ∧ j / 4 - 1 ≤ 5 := by decide +kernel
theorem dist_least : ∀ j, j < 30 → distBits j = (j / 2 - 1, 1 + (j - (j / 2 - 1) * 2) * 2 ^ (j / 2 - 1)) ∧ j / 2 - 1 ≤ 13 := by decide +kernel
end Go.Proofs.YtedbmhelmenknaaDoor

namespace Go.Proofs.YtedbmhelmenknaaDoor
namespace PutMath
open OutMath

/-- The bytes with room for one bit more. -/
def pre (xs : List Int) (c : Nat) : List Int := if c % 8 = 0 then xs ++ [0] else xs
/-- The bytes with one bit more, the bit c. -/
def bstep (xs : List Int) (c : Nat) (b : Int) : List Int := (pre xs c).set (c / 8) ((pre xs c).getD (c / 8) 0 + b * p2 (c % 8))
/-- As many bytes as c bits need, those of the last that were not put being 0. -/
def Inv (xs : List Int) (c : Nat) : Prop := xs.length = (c + 7) / 8 ∧ (c % 8 ≠ 0 → 0 ≤ xs.getD (c / 8) 0 ∧ xs.getD (c / 8) 0 < p2 (c % 8))

theorem pre_len {xs : List Int} {c : Nat} (h : Inv xs c) : (pre xs c).length = c / 8 + 1 := by
  obtain ⟨h1, h2⟩ := h
  unfold pre
  split
  · rw [List.length_append, h1]; simp; omega
  · rw [h1]; omega
theorem pre_last {xs : List Int} {c : Nat} (h : Inv xs c) : 0 ≤ (pre xs c).getD (c / 8) 0 ∧ (pre xs c).getD (c / 8) 0 < p2 (c % 8) := by
  obtain ⟨h1, h2⟩ := h
  unfold pre
  split
  · rename_i h0
    have e : xs.length = c / 8 := by omega
    rw [h0, p2_zero, List.getD_eq_getElem?_getD, List.getElem?_append_right (by omega), e]
    simp
  · rename_i h0
    exact h2 h0
theorem mul01 (b q : Int) (h0 : 0 ≤ b) (h1 : b ≤ 1) (hq : 1 ≤ q) : 0 ≤ b * q ∧ b * q ≤ q := by
  have : b = 0 ∨ b = 1 := by omega
  rcases this with rfl | rfl <;> omega
theorem bstep_len {xs : List Int} {c : Nat} (b : Int) (h : Inv xs c) : (bstep xs c b).length = c / 8 + 1 := by
  unfold bstep
  rw [List.length_set, pre_len h]
theorem inv_step {xs : List Int} {c : Nat} {b : Int} (h : Inv xs c) (h0 : 0 ≤ b) (h1 : b ≤ 1) : Inv (bstep xs c b) (c + 1) := by
  have hl := pre_len h
  have hp := pre_last h
  refine ⟨by rw [bstep_len b h]; omega, fun hc => ?_⟩
  have e1 : (c + 1) / 8 = c / 8 := by omega
  have e2 : (c + 1) % 8 = c % 8 + 1 := by omega
  have hm := mul01 b (p2 (c % 8)) h0 h1 (p2_pos _)
  rw [e1, e2, p2_succ]
  unfold bstep
  have e3 : ((pre xs c).set (c / 8) ((pre xs c).getD (c / 8) 0 + b * p2 (c % 8))).getD (c / 8) 0 = (pre xs c).getD (c / 8) 0 + b * p2 (c % 8) := by
    rw [List.getD_eq_getElem?_getD, List.getElem?_set_self (by omega)]
    rfl
  rw [e3]
  omega

/-- The bytes behind k bits, of which f tells each. -/
def puts (xs : List Int) (c : Nat) (f : Nat → Int) : Nat → List Int
  | 0 => xs
  | k + 1 => bstep (puts xs c f k) (c + k) (f k)
theorem inv_puts {xs : List Int} {c : Nat} {f : Nat → Int} (h : Inv xs c) (hf : ∀ k, 0 ≤ f k ∧ f k ≤ 1) : ∀ k, Inv (puts xs c f k) (c + k)
  | 0 => h
  | k + 1 => inv_step (inv_puts h hf k) (hf k).1 (hf k).2

theorem p2_8 {r : Nat} (h : r < 8) : p2 r ≤ 128 := by
  have h1 := p2_le (show r ≤ 7 by omega)
  have h2 : p2 7 = 128 := by decide +kernel
  omega

/-- A bit of a number. -/
def bitOf (x : Int) (k : Nat) : Int := x / p2 k % 2
theorem bitOf_01 (x : Int) (k : Nat) : 0 ≤ bitOf x k ∧ bitOf x k ≤ 1 := by unfold bitOf; omega
theorem bitOf_walk (x : Int) (k : Nat) (h0 : 0 ≤ x) (h1 : x ≤ 16777216) : (Go.RowKit.wrap64 (x / p2 k)).tmod 2 = bitOf x k := by
  have hp := p2_pos k
  have a := Int.ediv_nonneg h0 (show 0 ≤ p2 k by omega)
  have b := Int.ediv_le_self (p2 k) h0
  have e : Go.RowKit.wrap64 (x / p2 k) = x / p2 k := by unfold Go.RowKit.wrap64; omega
  rw [e, Int.tmod_eq_emod_of_nonneg a]
  rfl

theorem bitOf_walk' (x : Int) (k : Nat) (h0 : 0 ≤ x) : (x / p2 k).tmod 2 = bitOf x k := by
  have a := Int.ediv_nonneg h0 (show 0 ≤ p2 k by have := p2_pos k; omega)
  rw [Int.tmod_eq_emod_of_nonneg a]
  rfl

/-- Below two to the r a byte, and a bit at r: 'or' is plus. -/
theorem or_put (y b : Int) (r : Nat) (hr : r < 8) (h0 : 0 ≤ y) (h1 : y < p2 r) (b0 : 0 ≤ b) (b1 : b ≤ 1) : bits .or .u8 y (Go.RowKit.wrap64 (b * 2 ^ r) % 256) = y + b * p2 r := by
  have hm := mul01 b (p2 r) b0 b1 (p2_pos r)
  have hp := p2_8 hr
  have e : Go.RowKit.wrap64 (b * 2 ^ r) % 256 = b * p2 r := by
    show Go.RowKit.wrap64 (b * p2 r) % 256 = _
    unfold Go.RowKit.wrap64; omega
  rw [e]
  obtain ⟨n, rfl⟩ := Int.eq_ofNat_of_zero_le h0
  obtain ⟨m, rfl⟩ := Int.eq_ofNat_of_zero_le b0
  rw [p2_nat] at h1 hm hp ⊢
  rw [show ((m : Int) * ((2 ^ r : Nat) : Int)) = ((m * 2 ^ r : Nat) : Int) from (Int.natCast_mul _ _).symm] at hm ⊢
  rw [u8_or_nat _ _ (by omega) (by omega), Nat.or_comm, nat_join r (m * 2 ^ r) n (by simp) (by omega)]
  omega

theorem i64_and_nat (a b : Nat) (ha : a < 9223372036854775808) (hb : b < 9223372036854775808) : bits .and .i64 (a : Int) (b : Int) = ((a &&& b : Nat) : Int) := by
  have h1 : (BitVec.ofInt 64 (a : Int)).toNat = a := by
    rw [BitVec.ofInt_natCast, BitVec.toNat_ofNat]; exact Nat.mod_eq_of_lt (by omega)
  have h2 : (BitVec.ofInt 64 (b : Int)).toNat = b := by
    rw [BitVec.ofInt_natCast, BitVec.toNat_ofNat]; exact Nat.mod_eq_of_lt (by omega)
  have hx : a &&& b < 2 ^ 63 := Nat.and_lt_two_pow _ (by omega)
  show IntKind.i64.wrap ((BitVec.ofInt 64 (a : Int) &&& BitVec.ofInt 64 (b : Int)).toNat : Int) = _
  rw [BitVec.toNat_and, h1, h2, IntKind.wrap_i64]
  omega
theorem bit_shr (x : Int) (k : Nat) (h0 : 0 ≤ x) (h1 : x ≤ 16777216) (_hk : k ≤ 24) : bits .and .i64 (x / 2 ^ k) 1 = bitOf x k := by
  have a := Int.ediv_nonneg h0 (show 0 ≤ p2 k by have := p2_pos k; omega)
  have b := Int.ediv_le_self (p2 k) h0
  show bits .and .i64 (x / p2 k) 1 = x / p2 k % 2
  generalize x / p2 k = y at *
  obtain ⟨n, rfl⟩ := Int.eq_ofNat_of_zero_le a
  have := i64_and_nat n 1 (by omega) (by omega)
  rw [nat_mask1] at this
  rw [show ((1 : Nat) : Int) = 1 from rfl] at this
  rw [this]
  omega

end PutMath
end Go.Proofs.YtedbmhelmenknaaDoor

namespace Go.Proofs.YtedbmhelmenknaaDoor
open Go.RowKit Go.Joins OutMath StepMath

theorem tab_size : Lib.len8tab.size = 256 := by decide +kernel
theorem tab_at : ∀ n : Fin Lib.len8tab.size, (Lib.len8tab[n.val]'n.isLt).toNat = Lib.bitLen n.val ∧ Lib.bitLen n.val ≤ 8 := by decide +kernel
theorem sym_first (c p n : Nat) (hp : p ≤ 2) (hc : c ≤ 14) (h : n < 32768) : wrap64 (wrap64 ((c : Int) * 2 ^ p) + (n : Int) / 2 ^ c) = ((c * 2 ^ p + n / 2 ^ c : Nat) : Int) := by
  have e1 : (c : Int) * 2 ^ p = ((c * 2 ^ p : Nat) : Int) := by rw [Int.natCast_mul, pow_cast]
  have e2 : (n : Int) / 2 ^ c = ((n / 2 ^ c : Nat) : Int) := by rw [Int.natCast_ediv, pow_cast]
  have h1 : 2 ^ p ≤ 4 := Nat.pow_le_pow_right (n := 2) (by omega) hp
  have h2 : c * 2 ^ p ≤ 14 * 4 := Nat.mul_le_mul hc h1
  have h3 := Nat.div_le_self n (2 ^ c)
  rw [e1, e2]
  generalize c * 2 ^ p = q at *
  generalize n / 2 ^ c = r at *
  unfold wrap64
  omega
theorem pow_small (c : Nat) (hc : c ≤ 14) : 1 ≤ 2 ^ c ∧ 2 ^ c ≤ 16384 := ⟨Nat.one_le_two_pow, Nat.pow_le_pow_right (n := 2) (j := 14) (by omega) hc⟩
theorem sym_extra (c n : Nat) (hc : c ≤ 14) (h : n < 32768) : bits .and .i64 (n : Int) (wrap64 (wrap64 (2 ^ c) - 1)) = ((n % 2 ^ c : Nat) : Int) := by
  obtain ⟨h1, h2⟩ := pow_small c hc
  have e1 : wrap64 (wrap64 ((2 : Int) ^ c) - 1) = ((2 ^ c - 1 : Nat) : Int) := by
    rw [← pow_cast]
    generalize 2 ^ c = q at *
    unfold wrap64
    omega
  rw [e1, PutMath.i64_and_nat _ _ (by omega) (by omega), Nat.and_two_pow_sub_one_eq_mod]
end Go.Proofs.YtedbmhelmenknaaDoor

namespace Go.Proofs.YtedbmhelmenknaaDoor
open Go.RowKit Go.Joins OutMath StepMath

theorem bits_count (j p : Nat) (h : j < 30) : max 0 (wrap64 ((j : Int) / 2 ^ p - 1)) = ((j / 2 ^ p - 1 : Nat) : Int) := by
  have hd : ((j : Int) / 2 ^ p) = ((j / 2 ^ p : Nat) : Int) := by
    rw [Int.natCast_ediv, pow_cast]
  have hl := Nat.div_le_self j (2 ^ p)
  rw [hd]
  generalize j / 2 ^ p = q at *
  unfold wrap64
  omega
theorem symbolBits_any (p j : Nat) (w : World) (_hp : p ≤ 2) (h : j < 30) :
    Calls Tryd.prog 88 #[.int .i64 (j : Int), .int .i64 (p : Int)] w fun e w' => e = .returned (.int .i64 ((j / 2 ^ p - 1 : Nat) : Int)) ∧ w' = w := by
  go_enter Tryd.func88, Tryd.ntmps88
  go_wp2_with fail
  go_ret
  exact ⟨ret_i (bits_count j p h), rfl⟩

theorem num_least (p j : Nat) (hp : p = 1 ∨ p = 2) (h : j < 30) : wrap64 (wrap64 ((j : Int) - wrap64 (((j / 2 ^ p - 1 : Nat) : Int) * 2 ^ p)) * 2 ^ (j / 2 ^ p - 1)) = (((j - (j / 2 ^ p - 1) * 2 ^ p) * 2 ^ (j / 2 ^ p - 1) : Nat) : Int) := by
  have key : ∀ j : Nat, j < 30 → (wrap64 (wrap64 ((j : Int) - wrap64 (((j / 2 ^ 1 - 1 : Nat) : Int) * 2 ^ 1)) * 2 ^ (j / 2 ^ 1 - 1)) = (((j - (j / 2 ^ 1 - 1) * 2 ^ 1) * 2 ^ (j / 2 ^ 1 - 1) : Nat) : Int)) ∧ (wrap64 (wrap64 ((j : Int) - wrap64 (((j / 2 ^ 2 - 1 : Nat) : Int) * 2 ^ 2)) * 2 ^ (j / 2 ^ 2 - 1)) = (((j - (j / 2 ^ 2 - 1) * 2 ^ 2) * 2 ^ (j / 2 ^ 2 - 1) : Nat) : Int)) := by decide +kernel
  rcases hp with rfl | rfl
  · exact (key j h).1
  · exact (key j h).2
theorem numberOf_any (p j : Nat) (w : World) (hp : p = 1 ∨ p = 2) (h : j < 30) :
    Calls Tryd.prog 89 #[.int .i64 (j : Int), .int .i64 (p : Int)] w fun e w' => e = .returned (.int .i64 (((j - (j / 2 ^ p - 1) * 2 ^ p) * 2 ^ (j / 2 ^ p - 1) : Nat) : Int)) ∧ w' = w := by
  have hn := num_least p j hp h
  obtain ⟨c, hc⟩ : ∃ c, c = j / 2 ^ p - 1 := ⟨_, rfl⟩
  have hs := fun w => symbolBits_any p j w (by omega) h
  have hc14 : j / 2 ^ p - 1 ≤ 14 := by
    rcases hp with rfl | rfl <;> omega
  rw [← hc] at hn hs hc14 ⊢
  have HN := hid_of hn
  clear hn hc
  go_enter Tryd.func89, Tryd.ntmps89
  go_wp2_with fail
  refine (hs _).mono ?_
  rintro e w' ⟨rfl, rfl⟩
  go_wp2_with fail
  go_ret
  exact ⟨ret_i HN.out, rfl⟩

theorem pow_named (c : Nat) (hc : c ≤ 14) : ∃ q : Nat, (q : Int) = 2 ^ c ∧ wrap64 ((2 : Int) ^ c) = (q : Int) ∧ q ≤ 16384 := by
  obtain ⟨h1, h2⟩ := pow_small c hc
  refine ⟨2 ^ c, pow_cast c, ?_, h2⟩
  rw [← pow_cast]
  generalize 2 ^ c = q at *
  unfold wrap64
  omega

end Go.Proofs.YtedbmhelmenknaaDoor

namespace Go.Proofs.YtedbmhelmenknaaDoor
open Go.RowKit StepMath

end Go.Proofs.YtedbmhelmenknaaDoor
