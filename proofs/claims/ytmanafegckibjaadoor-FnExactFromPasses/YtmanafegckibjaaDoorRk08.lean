/-
  The walks of what the exact laws do with rasters that were handed back: marked, held.
  Channels, depths and rows of rasters, in plain numbers. Nothing here speaks of the program.
  Plain facts on numbers for bits that are put; nothing here speaks of the program.
  Plain facts on bits that are put into bytes, the lowest of each byte first; nothing here speaks of the program.
-/
import Derived.Test.YtmanafegckibjaaDoorRows
import Derived.Test.YtmanafegckibjaaDoorRk01
import Derived.Test.YtmanafegckibjaaDoorRk02
import Derived.Test.YtmanafegckibjaaDoorRk04
import Derived.Test.YtmanafegckibjaaDoorRk06
import Derived.WalkKit
import Derived.ProofKit
import Derived.WalkLawsBesides
import Derived.Below
import Derived.Lib.SmallJoins
import Derived.Laws.BitsAllLaws
namespace Go.Proofs.YtmanafegckibjaaDoor
open Go.RowKit Go.Joins

theorem grown_of_alloc {w w' : World} {o : Obj} {row : Option Nat} (h : (w.alloc o).grownBy w' row) : w.grownBy w' row :=
  ⟨h.os, h.tape, h.output, Nat.le_trans (by simp) h.size, fun k hk hne => (h.block k (by simp; omega) hne).trans (Below.heap_alloc w o k hk)⟩
theorem markRaster_own (x0 x1 x2 x3 : Int) (base g n cap : Nat) (f : Nat → Int) (k : Int) (w : World) (hO : IOwn w base g n cap f) (hn : n ≤ 1048576) (h0 : 0 ≤ k) (h1 : k ≤ 1073741824) :
    Calls Tryd.prog 22 #[.agg #[.int .i64 x0, .int .i64 x1, .int .i64 x2, .int .i64 x3, .slice (some ⟨g, 0, none⟩) n cap], .int .i64 k] w fun e w' => e = .returned (.int .i64 (k + n)) ∧ w.grownBy w' (some g) := by
  have HO := hid_of hO
  clear hO
  go_enter Tryd.func22, Tryd.ntmps22
  go_wp2_with fail
  refine (markIntS_own base g n cap f k _ (HO.out.alloc _) hn h0 h1).mono ?_
  rintro e w2 ⟨rfl, _, hg⟩
  have HG := hid_of (grown_of_alloc hg)
  clear hg
  go_wp2_with fail
  go_ret
  exact ⟨rfl, HG.out⟩
theorem markRaster_mine (x0 x1 x2 x3 : Int) (base g n cap : Nat) (f : Nat → Int) (k : Int) (w : World) (hO : IOwn w base g n cap f) (hn : n ≤ 1048576) (h0 : 0 ≤ k) (h1 : k ≤ 1073741824) :
    Calls Tryd.prog 22 #[.agg #[.int .i64 x0, .int .i64 x1, .int .i64 x2, .int .i64 x3, .slice (some ⟨g, 0, none⟩) n cap], .int .i64 k] w fun e w' => e = .returned (.int .i64 (k + n)) ∧ IOwn w' base g n cap (fun j => k + j) ∧ w.grownBy w' (some g) := by
  have HO := hid_of hO
  clear hO
  go_enter Tryd.func22, Tryd.ntmps22
  go_wp2_with fail
  refine (markIntS_own base g n cap f k _ (HO.out.alloc _) hn h0 h1).mono ?_
  rintro e w2 ⟨rfl, hO2, hg⟩
  have HG := hid_of (And.intro hO2 (grown_of_alloc hg))
  clear hg hO2
  go_wp2_with fail
  go_ret
  exact ⟨rfl, HG.out⟩
theorem markRaster_none (x0 x1 x2 x3 : Int) (a : Option Addr) (cap : Nat) (k : Int) (w : World) :
    Calls Tryd.prog 22 #[.agg #[.int .i64 x0, .int .i64 x1, .int .i64 x2, .int .i64 x3, .slice a 0 cap], .int .i64 k] w fun e w' => e = .returned (.int .i64 k) ∧ Below w.heap.size w w' := by
  go_enter Tryd.func22, Tryd.ntmps22
  go_wp2_with fail
  refine (markIntS_none a cap k _).mono ?_
  rintro e w2 ⟨rfl, rfl⟩
  go_wp2_with fail
  go_ret
  exact ⟨rfl, bstart _ _⟩
theorem markRaster_sl (x0 x1 x2 x3 : Int) (base : Nat) (a : Option Addr) (n cap : Nat) (f : Nat → Int) (k : Int) (w : World) (hS : SL w base a n cap f) (hn : n ≤ 1048576) (h0 : 0 ≤ k) (h1 : k ≤ 1073741824) :
    Calls Tryd.prog 22 #[.agg #[.int .i64 x0, .int .i64 x1, .int .i64 x2, .int .i64 x3, .slice a n cap], .int .i64 k] w fun e w' => e = .returned (.int .i64 (k + n)) ∧ SL w' base a n cap (fun j => k + j) ∧ ∃ row, (∀ g, row = some g → 0 < n ∧ a = some ⟨g, 0, none⟩ ∧ base ≤ g) ∧ w.grownBy w' row := by
  rcases Nat.eq_zero_or_pos n with e0 | e0
  · subst e0
    refine (markRaster_none x0 x1 x2 x3 a cap k w).mono ?_
    rintro e w1 ⟨rfl, hB⟩
    exact ⟨by simp, .inl rfl, none, (fun g hg => by cases hg), ⟨hB.os, hB.tape, hB.output, hB.size, fun b hb _ => hB.block b hb⟩⟩
  · rcases hS with h | ⟨g, rfl, h⟩
    · omega
    · refine (markRaster_mine x0 x1 x2 x3 base g n cap f k w h hn h0 h1).mono ?_
      rintro e w1 ⟨rfl, hO, hg⟩
      exact ⟨rfl, .inr ⟨g, rfl, hO⟩, some g, (fun g' hg' => by cases hg'; exact ⟨e0, rfl, h.base_le⟩), hg⟩
theorem heldRaster_same (x0 x1 x2 x3 : Int) (a : Option Addr) (n cap : Nat) (k : Int) (w : World) (hC : Came w a n (fun j => k + j)) (hn : n ≤ 1048576) (h0 : 0 ≤ k) (h1 : k ≤ 1073741824) :
    Calls Tryd.prog 28 #[.agg #[.int .i64 x0, .int .i64 x1, .int .i64 x2, .int .i64 x3, .slice a n cap], .int .i64 k] w fun e w' => e = .returned (.int .i64 (k + n)) ∧ Below w.heap.size w w' := by
  have HC := hid_of hC
  have dk : decide (k + (n : Int) < 0) = false := decide_eq_false (by omega)
  clear hC
  go_enter Tryd.func28, Tryd.ntmps28
  go_wp2_with fail
  have HB := hid_of (bstart w (.cells #[.int .i64 x0, .int .i64 x1, .int .i64 x2, .int .i64 x3, .slice a n cap] 26))
  generalize w.alloc (.cells #[.int .i64 x0, .int .i64 x1, .int .i64 x2, .int .i64 x3, .slice a n cap] 26) = W1 at HB ⊢
  refine (heldIntS_same a n cap k W1 (HC.out.called HB.out) hn h0 h1).mono ?_
  rintro e w2 ⟨rfl, hB2⟩
  have HB2 := hid_of (bnext HB.out hB2)
  clear hB2
  go_wp2_with fail
  go_ret
  exact ⟨rfl, HB2.out⟩
theorem markRasterS_none (a : Option Addr) (c : Nat) (k : Int) (w : World) : Calls Tryd.prog 23 #[.slice a 0 c, .int .i64 k] w fun e w' => e = .returned (.int .i64 k) ∧ w' = w := by
  go_enter Tryd.func23, Tryd.ntmps23
  go_wp2_with fail
  go_loop [1, 5] (fun z i => i = .int .i64 0 ∧ z = .int .i64 k) (fun _ _ => 0)
  case atStart => exact ⟨rfl, rfl⟩
  case round =>
    obtain ⟨rfl, rfl⟩ := hrel
    go_wp2_with fail
    go_ret
    exact ⟨rfl, rfl⟩
theorem markRasterS_sl (base : Nat) (a : Option Addr) (m c : Nat) (R : Nat → Ras) (k : Int) (w : World) (hS : RSL w base a m R) (hm : m ≤ 1048576) (hn : ∀ j, j < m → (R j).n ≤ 1048576) (hK : ∀ j, j ≤ m → 0 ≤ markK R k j ∧ markK R k j ≤ 1000000000) :
    Calls Tryd.prog 23 #[.slice a m c, .int .i64 k] w fun e w' => e = .returned (.int .i64 (markK R k m)) ∧ RSL w' base a m (markR R k) ∧ Below base w w' := by
  rcases hS with rfl | ⟨g, rfl, h⟩
  · refine (markRasterS_none a c k w).mono ?_
    rintro e w1 ⟨rfl, rfl⟩
    exact ⟨rfl, .inl rfl, Below.refl _ _⟩
  · refine (markRasterS_own base g m c R k w h hm hn hK).mono ?_
    rintro e w1 ⟨rfl, hO, hB⟩
    exact ⟨rfl, .inr ⟨g, rfl, hO⟩, hB⟩
/-- An old list behind what turned one newer block. -/
theorem RCame.other {w0 w w' : World} {a : Option Addr} {m g : Nat} {R : Nat → Ras} (_ : RCame w a m R) (h0 : RCame w0 a m R) (hg : w.grownBy w' (some g)) (hb : Below w0.heap.size w0 w) (hn : w0.heap.size ≤ g) : RCame w' a m R :=
  h0.called ⟨hg.os.trans hb.os, hg.tape.trans hb.tape, hg.output.trans hb.output, Nat.le_trans hb.size hg.size, fun k hk => (hg.block k (Nat.lt_of_lt_of_le hk hb.size) (fun e => by have := Option.some.inj e; omega)).trans (hb.block k hk)⟩
/-- A list of one's own behind what turned an older block. -/
theorem RSL.other {w w' : World} {base : Nat} {a : Option Addr} {m g : Nat} {R : Nat → Ras} (h : RSL w base a m R) (hg : w.grownBy w' (some g)) (hn : g < base) : RSL w' base a m R := by
  rcases h with h | ⟨g1, rfl, A, G, C, h⟩
  · exact .inl h
  · exact .inr ⟨g1, rfl, A, G, C, h.keep (fun b hb hl => hg.block b hl (fun e => by have := Option.some.inj e; omega))⟩
end Go.Proofs.YtmanafegckibjaaDoor

namespace Go.Proofs.YtmanafegckibjaaDoor
namespace RastMath

/-- How many channels a color has. -/
def chan (c : Int) : Int := if c = 0 ∨ c = 3 then 1 else if c = 2 then 3 else if c = 4 then 2 else if c = 6 then 4 else 0
/-- The five depths. -/
abbrev Five (d : Int) : Prop := d = 1 ∨ d = 2 ∨ d = 4 ∨ d = 8 ∨ d = 16
/-- Is it a depth of the color? -/
abbrev DepthR (c d : Int) : Prop := (c = 0 ∧ Five d) ∨ (c = 3 ∧ Five d ∧ d ≠ 16) ∨ ((c = 2 ∨ c = 4 ∨ c = 6) ∧ (d = 8 ∨ d = 16))
abbrev SideR (n : Int) : Prop := 1 ≤ n ∧ n ≤ 24
/-- How many bytes a row has. -/
def rowB (w c d : Int) : Int := if SideR w ∧ DepthR c d then (w * chan c * d + 7) / 8 else 0
theorem chan_range (c : Int) : 0 ≤ chan c ∧ chan c ≤ 4 := by
  unfold chan
  repeat' split
  all_goals omega
theorem chan_pos {c d : Int} (h : DepthR c d) : 1 ≤ chan c := by
  unfold chan
  rcases h with ⟨rfl, _⟩ | ⟨rfl, _⟩ | ⟨rfl | rfl | rfl, _⟩ <;> decide
theorem depth_five {c d : Int} (h : DepthR c d) : Five d := by
  rcases h with ⟨_, h⟩ | ⟨_, h, _⟩ | ⟨_, h⟩
  · exact h
  · exact h
  · exact .inr (.inr (.inr h))
theorem five_range {d : Int} (h : Five d) : 1 ≤ d ∧ d ≤ 16 := by
  unfold Five at h
  omega
end RastMath
end Go.Proofs.YtmanafegckibjaaDoor

namespace Go.Proofs.YtmanafegckibjaaDoor
namespace OutMath

/-- Two to the power n, behind a name. -/
def p2 (n : Nat) : Int := 2 ^ n
theorem p2_zero : p2 0 = 1 := by simp [p2]
theorem p2_succ (n : Nat) : p2 (n + 1) = 2 * p2 n := by unfold p2; rw [Int.pow_succ]; omega
theorem p2_pos : ∀ n, 1 ≤ p2 n
  | 0 => by simp [p2]
  | n + 1 => by have := p2_pos n; rw [p2_succ]; omega
theorem p2_mono (n : Nat) : ∀ m, p2 n ≤ p2 (n + m)
  | 0 => by simp
  | m + 1 => by have := p2_mono n m; have h := p2_pos (n + m); rw [← Nat.add_assoc, p2_succ]; omega
theorem p2_le {n m : Nat} (h : n ≤ m) : p2 n ≤ p2 m := by
  obtain ⟨k, rfl⟩ := Nat.exists_eq_add_of_le h
  exact p2_mono n k
theorem p2_61 {n : Nat} (h : n ≤ 61) : p2 n ≤ 2305843009213693952 := by
  have h1 := p2_le h
  have h2 : p2 61 = 2305843009213693952 := by decide +kernel
  omega
theorem p2_nat (n : Nat) : p2 n = ((2 ^ n : Nat) : Int) := by unfold p2; simp

/-- The last byte, 0 of an empty text. -/
def last (s : ByteArray) : Nat := (s.data[s.size - 1]?.getD 0).toNat
theorem last_at (s : ByteArray) (h : s.size - 1 < s.size) : (s[s.size - 1]'h).toNat = last s := by
  unfold last
  have h' : s.size - 1 < s.data.size := h
  rw [Array.getElem?_eq_getElem h']
  rfl
theorem last_lt (s : ByteArray) : last s < 256 := UInt8.toNat_lt _

/-- The number of bytes fits the number of bits. -/
def Fits (s : ByteArray) (c : Int) : Prop := s.size ≤ 12000 ∧ 0 ≤ c ∧ c ≤ 8 * s.size ∧ (c + 7) / 8 = s.size

/-- The bits of the last byte that were not put are 0. -/
def lastOk (s : ByteArray) (c : Int) : Bool := decide (((last s : Nat) : Int) < p2 (c % 8).toNat)

theorem lastOk_div (s : ByteArray) (c : Int) : lastOk s c = (((last s : Nat) : Int) / 2 ^ (c % 8).toNat == 0) := by
  unfold lastOk
  have e : p2 (c % 8).toNat = 2 ^ (c % 8).toNat := rfl
  have hp := p2_pos (c % 8).toNat
  rw [← e]
  generalize p2 (c % 8).toNat = q at *
  rw [Bool.eq_iff_iff]
  simp only [decide_eq_true_eq, beq_iff_eq]
  constructor
  · intro h; exact Int.ediv_eq_zero_of_lt (by omega) h
  · intro h
    have := Int.lt_mul_ediv_self_add (x := ((last s : Nat) : Int)) (show 0 < q by omega)
    rw [h] at this
    omega

/-- A right Out. -/
def outB (s : ByteArray) (c : Int) : Bool := decide (s.size ≤ 12000 ∧ 0 ≤ c ∧ c ≤ 8 * s.size ∧ (c + 7) / 8 = s.size) && (decide (c % 8 = 0) || lastOk s c)
theorem outB_no (s : ByteArray) (c : Int) (h : ¬ Fits s c) : outB s c = false := by
  have h' : ¬ (s.size ≤ 12000 ∧ 0 ≤ c ∧ c ≤ 8 * s.size ∧ (c + 7) / 8 = s.size) := h
  unfold outB
  rw [decide_eq_false h']
  rfl
theorem outB_fit0 (s : ByteArray) (c : Int) (h : Fits s c) (hc : c % 8 = 0) : outB s c = true := by
  have h' : s.size ≤ 12000 ∧ 0 ≤ c ∧ c ≤ 8 * s.size ∧ (c + 7) / 8 = s.size := h
  unfold outB
  rw [decide_eq_true h', decide_eq_true hc]
  rfl
theorem outB_fit1 (s : ByteArray) (c : Int) (h : Fits s c) (hc : ¬ c % 8 = 0) : outB s c = lastOk s c := by
  have h' : s.size ≤ 12000 ∧ 0 ≤ c ∧ c ≤ 8 * s.size ∧ (c + 7) / 8 = s.size := h
  unfold outB
  rw [decide_eq_true h', decide_eq_false hc]
  rfl
theorem fits_of_outB (s : ByteArray) (c : Int) (h : outB s c = true) : Fits s c := by
  refine Classical.byContradiction fun hn => ?_
  rw [outB_no s c hn] at h
  cases h

end OutMath
end Go.Proofs.YtmanafegckibjaaDoor

namespace Go.Proofs.YtmanafegckibjaaDoor
namespace PutMath
open OutMath

/-- The bytes with room for one bit more. -/
def pre (xs : List Int) (c : Nat) : List Int := if c % 8 = 0 then xs ++ [0] else xs
/-- The bytes with one bit more, the bit c. -/
def bstep (xs : List Int) (c : Nat) (b : Int) : List Int := (pre xs c).set (c / 8) ((pre xs c).getD (c / 8) 0 + b * p2 (c % 8))
/-- As many bytes as c bits need, those of the last that were not put being 0. -/
def Inv (xs : List Int) (c : Nat) : Prop := xs.length = (c + 7) / 8 ∧ (c % 8 ≠ 0 → 0 ≤ xs.getD (c / 8) 0 ∧ xs.getD (c / 8) 0 < p2 (c % 8))

theorem pre_len {xs : List Int} {c : Nat} (h : Inv xs c) : (pre xs c).length = c / 8 + 1 := by
  obtain ⟨h1, h2⟩ := h
  unfold pre
  split
  · rw [List.length_append, h1]; simp; omega
  · rw [h1]; omega
theorem pre_last {xs : List Int} {c : Nat} (h : Inv xs c) : 0 ≤ (pre xs c).getD (c / 8) 0 ∧ (pre xs c).getD (c / 8) 0 < p2 (c % 8) := by
  obtain ⟨h1, h2⟩ := h
  unfold pre
  split
  · rename_i h0
    have e : xs.length = c / 8 := by omega
    rw [h0, p2_zero, List.getD_eq_getElem?_getD, List.getElem?_append_right (by omega), e]
    simp
  · rename_i h0
    exact h2 h0
theorem mul01 (b q : Int) (h0 : 0 ≤ b) (h1 : b ≤ 1) (hq : 1 ≤ q) : 0 ≤ b * q ∧ b * q ≤ q := by
  have : b = 0 ∨ b = 1 := by omega
  rcases this with rfl | rfl <;> omega
theorem bstep_len {xs : List Int} {c : Nat} (b : Int) (h : Inv xs c) : (bstep xs c b).length = c / 8 + 1 := by
  unfold bstep
  rw [List.length_set, pre_len h]
theorem inv_step {xs : List Int} {c : Nat} {b : Int} (h : Inv xs c) (h0 : 0 ≤ b) (h1 : b ≤ 1) : Inv (bstep xs c b) (c + 1) := by
  have hl := pre_len h
  have hp := pre_last h
  refine ⟨by rw [bstep_len b h]; omega, fun hc => ?_⟩
  have e1 : (c + 1) / 8 = c / 8 := by omega
  have e2 : (c + 1) % 8 = c % 8 + 1 := by omega
  have hm := mul01 b (p2 (c % 8)) h0 h1 (p2_pos _)
  rw [e1, e2, p2_succ]
  unfold bstep
  have e3 : ((pre xs c).set (c / 8) ((pre xs c).getD (c / 8) 0 + b * p2 (c % 8))).getD (c / 8) 0 = (pre xs c).getD (c / 8) 0 + b * p2 (c % 8) := by
    rw [List.getD_eq_getElem?_getD, List.getElem?_set_self (by omega)]
    rfl
  rw [e3]
  omega

/-- The bytes behind k bits, of which f tells each. -/
def puts (xs : List Int) (c : Nat) (f : Nat → Int) : Nat → List Int
  | 0 => xs
  | k + 1 => bstep (puts xs c f k) (c + k) (f k)
theorem inv_puts {xs : List Int} {c : Nat} {f : Nat → Int} (h : Inv xs c) (hf : ∀ k, 0 ≤ f k ∧ f k ≤ 1) : ∀ k, Inv (puts xs c f k) (c + k)
  | 0 => h
  | k + 1 => inv_step (inv_puts h hf k) (hf k).1 (hf k).2

theorem p2_8 {r : Nat} (h : r < 8) : p2 r ≤ 128 := by
  have h1 := p2_le (show r ≤ 7 by omega)
  have h2 : p2 7 = 128 := by decide +kernel
  omega

/-- A bit of a number. -/
def bitOf (x : Int) (k : Nat) : Int := x / p2 k % 2
theorem bitOf_01 (x : Int) (k : Nat) : 0 ≤ bitOf x k ∧ bitOf x k ≤ 1 := by unfold bitOf; omega
theorem bitOf_walk (x : Int) (k : Nat) (h0 : 0 ≤ x) (h1 : x ≤ 16777216) : (Go.RowKit.wrap64 (x / p2 k)).tmod 2 = bitOf x k := by
  have hp := p2_pos k
  have a := Int.ediv_nonneg h0 (show 0 ≤ p2 k by omega)
  have b := Int.ediv_le_self (p2 k) h0
  have e : Go.RowKit.wrap64 (x / p2 k) = x / p2 k := by unfold Go.RowKit.wrap64; omega
  rw [e, Int.tmod_eq_emod_of_nonneg a]
  rfl

theorem bitOf_walk' (x : Int) (k : Nat) (h0 : 0 ≤ x) : (x / p2 k).tmod 2 = bitOf x k := by
  have a := Int.ediv_nonneg h0 (show 0 ≤ p2 k by have := p2_pos k; omega)
  rw [Int.tmod_eq_emod_of_nonneg a]
  rfl

/-- Below two to the r a byte, and a bit at r: 'or' is plus. -/
theorem or_put (y b : Int) (r : Nat) (hr : r < 8) (h0 : 0 ≤ y) (h1 : y < p2 r) (b0 : 0 ≤ b) (b1 : b ≤ 1) : bits .or .u8 y (Go.RowKit.wrap64 (b * 2 ^ r) % 256) = y + b * p2 r := by
  have hm := mul01 b (p2 r) b0 b1 (p2_pos r)
  have hp := p2_8 hr
  have e : Go.RowKit.wrap64 (b * 2 ^ r) % 256 = b * p2 r := by
    show Go.RowKit.wrap64 (b * p2 r) % 256 = _
    unfold Go.RowKit.wrap64; omega
  rw [e]
  obtain ⟨n, rfl⟩ := Int.eq_ofNat_of_zero_le h0
  obtain ⟨m, rfl⟩ := Int.eq_ofNat_of_zero_le b0
  rw [p2_nat] at h1 hm hp ⊢
  rw [show ((m : Int) * ((2 ^ r : Nat) : Int)) = ((m * 2 ^ r : Nat) : Int) from (Int.natCast_mul _ _).symm] at hm ⊢
  rw [u8_or_nat _ _ (by omega) (by omega), Nat.or_comm, nat_join r (m * 2 ^ r) n (by simp) (by omega)]
  omega

theorem i64_and_nat (a b : Nat) (ha : a < 9223372036854775808) (hb : b < 9223372036854775808) : bits .and .i64 (a : Int) (b : Int) = ((a &&& b : Nat) : Int) := by
  have h1 : (BitVec.ofInt 64 (a : Int)).toNat = a := by
    rw [BitVec.ofInt_natCast, BitVec.toNat_ofNat]; exact Nat.mod_eq_of_lt (by omega)
  have h2 : (BitVec.ofInt 64 (b : Int)).toNat = b := by
    rw [BitVec.ofInt_natCast, BitVec.toNat_ofNat]; exact Nat.mod_eq_of_lt (by omega)
  have hx : a &&& b < 2 ^ 63 := Nat.and_lt_two_pow _ (by omega)
  show IntKind.i64.wrap ((BitVec.ofInt 64 (a : Int) &&& BitVec.ofInt 64 (b : Int)).toNat : Int) = _
  rw [BitVec.toNat_and, h1, h2, IntKind.wrap_i64]
  omega
theorem bit_shr (x : Int) (k : Nat) (h0 : 0 ≤ x) (h1 : x ≤ 16777216) (_hk : k ≤ 24) : bits .and .i64 (x / 2 ^ k) 1 = bitOf x k := by
  have a := Int.ediv_nonneg h0 (show 0 ≤ p2 k by have := p2_pos k; omega)
  have b := Int.ediv_le_self (p2 k) h0
  show bits .and .i64 (x / p2 k) 1 = x / p2 k % 2
  generalize x / p2 k = y at *
  obtain ⟨n, rfl⟩ := Int.eq_ofNat_of_zero_le a
  have := i64_and_nat n 1 (by omega) (by omega)
  rw [nat_mask1] at this
  rw [show ((1 : Nat) : Int) = 1 from rfl] at this
  rw [this]
  omega

end PutMath
end Go.Proofs.YtmanafegckibjaaDoor
