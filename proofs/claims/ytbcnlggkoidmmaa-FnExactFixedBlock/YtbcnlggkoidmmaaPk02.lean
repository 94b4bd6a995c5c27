/-
  Lists of tokens (three numbers each) in memory. Nothing here speaks of the program but the numbers of its types.
  Plain facts on bits that are put into bytes, the lowest of each byte first; nothing here speaks of the program.
  What may be put, and what putting comes to; nothing here speaks of the program.
-/
import Derived.Test.YtbcnlggkoidmmaaRows
import Derived.Test.YtbcnlggkoidmmaaPk01
import Derived.WalkKit
import Derived.ProofKit
import Derived.Below
import Derived.OwnWalk
import Derived.Deep.AppendLies
import Derived.Maps.AppendAt
import Derived.Laws.AppendOwnNone
import Derived.Lib.SmallJoins
import Derived.Laws.BitsAllLaws
import Derived.Laws.BytesArg
namespace Go.Proofs.Ytbcnlggkoidmmaa
open Go.RowKit Go.Joins TokMath

theorem info_tok : (Try.prog.info? 47).map (fun i => (i.zero, i.size, i.bytes)) = some (some (.agg #[.int .i64 0, .int .i64 0, .int .i64 0]), 3, 24) := by kernel_rfl

/-- The cells of tokens. -/
def tcells : List Tok → List Value
  | [] => []
  | c :: l => .int .i64 c.1 :: .int .i64 c.2.1 :: .int .i64 c.2.2 :: tcells l
theorem tcells_length : ∀ l : List Tok, (tcells l).length = l.length * 3
  | [] => rfl
  | c :: l => by
    show (tcells l).length + 1 + 1 + 1 = (l.length + 1) * 3
    rw [tcells_length l]
    omega
theorem tcells_app : ∀ xs ys : List Tok, tcells (xs ++ ys) = tcells xs ++ tcells ys
  | [], ys => rfl
  | c :: l, ys => by
    show Value.int .i64 c.1 :: .int .i64 c.2.1 :: .int .i64 c.2.2 :: tcells (l ++ ys) = Value.int .i64 c.1 :: .int .i64 c.2.1 :: .int .i64 c.2.2 :: (tcells l ++ tcells ys)
    rw [tcells_app l ys]
theorem tcells_get : ∀ (l : List Tok) (i : Nat), i < l.length → (tcells l)[i * 3]? = some (.int .i64 (l.getD i (0, 0, 0)).1) ∧ (tcells l)[i * 3 + 1]? = some (.int .i64 (l.getD i (0, 0, 0)).2.1) ∧ (tcells l)[i * 3 + 2]? = some (.int .i64 (l.getD i (0, 0, 0)).2.2)
  | [], i, h => by simp at h
  | c :: l, 0, _ => ⟨rfl, rfl, rfl⟩
  | c :: l, i + 1, h => by
    have q := tcells_get l i (by simpa using h)
    rw [show (i + 1) * 3 = i * 3 + 1 + 1 + 1 by omega]
    exact q
theorem tcells_one : ∀ (l : List Tok), ∀ u ∈ tcells l, u.oneCell' = true
  | [], u, h => by cases h
  | c :: l, u, h => by
    rcases List.mem_cons.mp h with rfl | h
    · rfl
    · rcases List.mem_cons.mp h with rfl | h
      · rfl
      · rcases List.mem_cons.mp h with rfl | h
        · rfl
        · exact tcells_one l u h

/-- A slice of tokens that came in. -/
def TCame (w : World) (a : Option Addr) (n : Nat) (F : Nat → Tok) : Prop :=
  n = 0 ∨ ∃ g off, a = some ⟨g, off, none⟩ ∧ g < w.heap.size ∧ ∀ j, j < n → w.cell? ⟨g, off + j * 3, none⟩ = some (.int .i64 (F j).1) ∧ w.cell? ⟨g, off + j * 3 + 1, none⟩ = some (.int .i64 (F j).2.1) ∧ w.cell? ⟨g, off + j * 3 + 2, none⟩ = some (.int .i64 (F j).2.2)
theorem TCame.called {w w' : World} {a : Option Addr} {n : Nat} {F : Nat → Tok} (h : TCame w a n F) (hb : Below w.heap.size w w') : TCame w' a n F := by
  rcases h with h | ⟨g, off, ha, hg, hc⟩
  · exact .inl h
  · exact .inr ⟨g, off, ha, Nat.lt_of_lt_of_le hg hb.size, fun j hj => ⟨(hb.cell (p := ⟨g, off + j * 3, none⟩) hg).trans (hc j hj).1, (hb.cell (p := ⟨g, off + j * 3 + 1, none⟩) hg).trans (hc j hj).2.1, (hb.cell (p := ⟨g, off + j * 3 + 2, none⟩) hg).trans (hc j hj).2.2⟩⟩
/-- A part of it. -/
theorem TCame.part {w : World} {g off n m k : Nat} {F : Nat → Tok} (h : TCame w (some ⟨g, off, none⟩) n F) (hk : k + m ≤ n) : TCame w (some ⟨g, off + k * 3, none⟩) m (fun j => F (k + j)) := by
  rcases Nat.eq_zero_or_pos m with h0 | h0
  · exact .inl h0
  · rcases h with h | ⟨g', off', ha, hg, hc⟩
    · omega
    · cases ha
      refine .inr ⟨g, off + k * 3, rfl, hg, fun j hj => ?_⟩
      have q := hc (k + j) (by omega)
      rw [show off + k * 3 + j * 3 = off + (k + j) * 3 by omega]
      exact q
theorem TCame.shorter {w : World} {a : Option Addr} {n m : Nat} {F : Nat → Tok} (h : TCame w a n F) (hm : m ≤ n) : TCame w a m F := by
  rcases h with h | ⟨g, off, ha, hg, hc⟩
  · exact .inl (by omega)
  · exact .inr ⟨g, off, ha, hg, fun j hj => hc j (by omega)⟩
theorem TCame.congr {w : World} {a : Option Addr} {n : Nat} {F G : Nat → Tok} (h : TCame w a n F) (e : ∀ j, j < n → F j = G j) : TCame w a n G := by
  rcases h with h | ⟨g, off, ha, hg, hc⟩
  · exact .inl h
  · exact .inr ⟨g, off, ha, hg, fun j hj => by rw [← e j hj]; exact hc j hj⟩
/-- The slice at the head of block g is the call's own. -/
def TOwn (w : World) (base g n : Nat) (F : Nat → Tok) : Prop := base ≤ g ∧ ∃ cur, w.heap[g]? = some (.cells cur 47 (0, 0)) ∧ n * 3 ≤ cur.size ∧ ∀ j, j < n → cur[j * 3]? = some (.int .i64 (F j).1) ∧ cur[j * 3 + 1]? = some (.int .i64 (F j).2.1) ∧ cur[j * 3 + 2]? = some (.int .i64 (F j).2.2)
theorem TOwn.lt {w : World} {base g n : Nat} {F : Nat → Tok} (h : TOwn w base g n F) : g < w.heap.size := by
  obtain ⟨_, cur, h2, _⟩ := h
  exact block_lt h2
theorem TOwn.keep {w w' : World} {base g n : Nat} {F : Nat → Tok} (h : TOwn w base g n F) (hk : w'.heap[g]? = w.heap[g]?) : TOwn w' base g n F := by
  obtain ⟨h1, cur, h2, h3⟩ := h
  exact ⟨h1, cur, hk.trans h2, h3⟩
theorem TOwn.called {w w' : World} {base g n : Nat} {F : Nat → Tok} (h : TOwn w base g n F) (hb : Below w.heap.size w w') : TOwn w' base g n F := h.keep (hb.block g h.lt)
theorem TOwn.came {w : World} {base g n : Nat} {F : Nat → Tok} (h : TOwn w base g n F) : TCame w (some ⟨g, 0, none⟩) n F := by
  refine .inr ⟨g, 0, rfl, h.lt, fun j hj => ?_⟩
  obtain ⟨_, cur, h2, h3, h4⟩ := h
  rw [Nat.zero_add, cell_of_block h2, cell_of_block h2, cell_of_block h2]
  exact h4 j hj
/-- What a call owns, by its places. -/
theorem tcame_of_own {w : World} {S n : Nat} {v : Value} {L : List Tok} (h : w.ownsRow S 47 3 v n (tcells L)) (hn : n = L.length) : ∃ a c, v = .slice a L.length c ∧ L.length ≤ c ∧ c ≤ maxLen ∧ (a = none → c = 0) ∧ TCame w a L.length (fun j => L.getD j (0, 0, 0)) ∧ (∀ ad, a = some ad → ∃ g, ad = ⟨g, 0, none⟩ ∧ S ≤ g) := by
  subst hn
  rcases h.2 with ⟨rfl, h0⟩ | ⟨g, cap, cur, rfl, hb, hg, hc, hm, hs, ht⟩
  · exact ⟨none, 0, by rw [h0], by omega, Nat.zero_le _, fun _ => rfl, .inl h0, fun ad e => by cases e⟩
  · refine ⟨_, cap, rfl, hc, hm, (fun e => by cases e), .inr ⟨g, 0, rfl, block_lt hg, fun j hj => ?_⟩, fun ad e => by cases e; exact ⟨g, rfl, hb⟩⟩
    have q := tcells_get L j hj
    rw [Nat.zero_add, h.cellAt (j * 3) (by omega), h.cellAt (j * 3 + 1) (by omega), h.cellAt (j * 3 + 2) (by omega)]
    exact q
theorem tok_called {w w' : World} {S n : Nat} {v : Value} {L : List Tok} (h : w.ownsRow S 47 3 v n (tcells L)) (hb : Below w.heap.size w w') : w'.ownsRow S 47 3 v n (tcells L) := by
  refine ⟨h.1, ?_⟩
  rcases h.2 with h | ⟨g, cap, cur, rfl, h1, h2, h3⟩
  · exact .inl h
  · exact .inr ⟨g, cap, cur, rfl, h1, (hb.block g (block_lt h2)).trans h2, h3⟩

/-- 'append(v, ys...)' of tokens. -/
theorem toks_append {w : World} {S : Nat} {v : Value} {xs ys : List Tok} {ops : Array Oper} {rest : List Oper} {o : Oper} {a : Act} {Q : Exit → Act → World → Prop} (hgd : o.guard = none) (s x : Operand)
    (ho : o.op = .call { callee := .builtin .append, args := #[s, x], argTypes := #[27, 27] }) (hs : a.eval s = v) (h : w.ownsRow S 47 3 v xs.length (tcells xs)) (ad : Addr) (m c : Nat) (hx : a.eval x = .slice (some ad) m c) (hm : ys.length = m)
    (hc : ∀ j u, (tcells ys)[j]? = some u → w.cell? (ad.add j) = some u)
    (h63 : xs.length + ys.length ≤ 100000) (hS : S ≤ w.heap.size)
    (hK : ∀ v' w', w'.ownsRow S 47 3 v' (xs ++ ys).length (tcells (xs ++ ys)) → w.grownBy w' v.ownBlock → wpList Try.prog ops Q rest (a.put o.dst v') w') : wpList Try.prog ops Q (o :: rest) a w := by
  obtain ⟨i0, hi0, hz0, hz1, hz2⟩ := info_parts info_tok
  refine wpList_append_own_at w hgd s x _ ho S 47 i0 _ 3 24 Try.underlying27 hi0 hz0 hz1 hz2 rfl (by omega) v _ _ hs h ad m c (tcells ys) hx (by rw [tcells_length, hm]) hc (tcells_one ys) (by unfold maxLen; omega) (by omega) hS ?_
  intro v' w' hown hg _ _
  refine hK v' w' ?_ hg
  rw [List.length_append, tcells_app, hm]
  exact hown

end Go.Proofs.Ytbcnlggkoidmmaa

namespace Go.Proofs.Ytbcnlggkoidmmaa
namespace PutMath
open OutMath

/-- The bytes with room for one bit more. -/
def pre (xs : List Int) (c : Nat) : List Int := if c % 8 = 0 then xs ++ [0] else xs
/-- The bytes with one bit more, the bit c. -/
def bstep (xs : List Int) (c : Nat) (b : Int) : List Int := (pre xs c).set (c / 8) ((pre xs c).getD (c / 8) 0 + b * p2 (c % 8))
/-- As many bytes as c bits need, those of the last that were not put being 0. -/
def Inv (xs : List Int) (c : Nat) : Prop := xs.length = (c + 7) / 8 ∧ (c % 8 ≠ 0 → 0 ≤ xs.getD (c / 8) 0 ∧ xs.getD (c / 8) 0 < p2 (c % 8))

theorem pre_len {xs : List Int} {c : Nat} (h : Inv xs c) : (pre xs c).length = c / 8 + 1 := by
  obtain ⟨h1, h2⟩ := h
  unfold pre
  split
  · rw [List.length_append, h1]; simp; omega
  · rw [h1]; omega
theorem pre_last {xs : List Int} {c : Nat} (h : Inv xs c) : 0 ≤ (pre xs c).getD (c / 8) 0 ∧ (pre xs c).getD (c / 8) 0 < p2 (c % 8) := by
  obtain ⟨h1, h2⟩ := h
  unfold pre
  split
  · rename_i h0
    have e : xs.length = c / 8 := by omega
    rw [h0, p2_zero, List.getD_eq_getElem?_getD, List.getElem?_append_right (by omega), e]
    simp
  · rename_i h0
    exact h2 h0
theorem mul01 (b q : Int) (h0 : 0 ≤ b) (h1 : b ≤ 1) (hq : 1 ≤ q) : 0 ≤ b * q ∧ b * q ≤ q := by
  have : b = 0 ∨ b = 1 := by omega
  rcases this with rfl | rfl <;> omega
theorem bstep_len {xs : List Int} {c : Nat} (b : Int) (h : Inv xs c) : (bstep xs c b).length = c / 8 + 1 := by
  unfold bstep
  rw [List.length_set, pre_len h]
theorem inv_step {xs : List Int} {c : Nat} {b : Int} (h : Inv xs c) (h0 : 0 ≤ b) (h1 : b ≤ 1) : Inv (bstep xs c b) (c + 1) := by
  have hl := pre_len h
  have hp := pre_last h
  refine ⟨by rw [bstep_len b h]; omega, fun hc => ?_⟩
  have e1 : (c + 1) / 8 = c / 8 := by omega
  have e2 : (c + 1) % 8 = c % 8 + 1 := by omega
  have hm := mul01 b (p2 (c % 8)) h0 h1 (p2_pos _)
  rw [e1, e2, p2_succ]
  unfold bstep
  have e3 : ((pre xs c).set (c / 8) ((pre xs c).getD (c / 8) 0 + b * p2 (c % 8))).getD (c / 8) 0 = (pre xs c).getD (c / 8) 0 + b * p2 (c % 8) := by
    rw [List.getD_eq_getElem?_getD, List.getElem?_set_self (by omega)]
    rfl
  rw [e3]
  omega

/-- The bytes behind k bits, of which f tells each. -/
def puts (xs : List Int) (c : Nat) (f : Nat → Int) : Nat → List Int
  | 0 => xs
  | k + 1 => bstep (puts xs c f k) (c + k) (f k)
theorem inv_puts {xs : List Int} {c : Nat} {f : Nat → Int} (h : Inv xs c) (hf : ∀ k, 0 ≤ f k ∧ f k ≤ 1) : ∀ k, Inv (puts xs c f k) (c + k)
  | 0 => h
  | k + 1 => inv_step (inv_puts h hf k) (hf k).1 (hf k).2

theorem p2_8 {r : Nat} (h : r < 8) : p2 r ≤ 128 := by
  have h1 := p2_le (show r ≤ 7 by omega)
  have h2 : p2 7 = 128 := by decide +kernel
  omega

/-- A bit of a number. -/
def bitOf (x : Int) (k : Nat) : Int := x / p2 k % 2
theorem bitOf_01 (x : Int) (k : Nat) : 0 ≤ bitOf x k ∧ bitOf x k ≤ 1 := by unfold bitOf; omega
theorem bitOf_walk (x : Int) (k : Nat) (h0 : 0 ≤ x) (h1 : x ≤ 16777216) : (Go.RowKit.wrap64 (x / p2 k)).tmod 2 = bitOf x k := by
  have hp := p2_pos k
  have a := Int.ediv_nonneg h0 (show 0 ≤ p2 k by omega)
  have b := Int.ediv_le_self (p2 k) h0
  have e : Go.RowKit.wrap64 (x / p2 k) = x / p2 k := by unfold Go.RowKit.wrap64; omega
  rw [e, Int.tmod_eq_emod_of_nonneg a]
  rfl

theorem bitOf_walk' (x : Int) (k : Nat) (h0 : 0 ≤ x) : (x / p2 k).tmod 2 = bitOf x k := by
  have a := Int.ediv_nonneg h0 (show 0 ≤ p2 k by have := p2_pos k; omega)
  rw [Int.tmod_eq_emod_of_nonneg a]
  rfl

/-- Below two to the r a byte, and a bit at r: 'or' is plus. -/
theorem or_put (y b : Int) (r : Nat) (hr : r < 8) (h0 : 0 ≤ y) (h1 : y < p2 r) (b0 : 0 ≤ b) (b1 : b ≤ 1) : bits .or .u8 y (Go.RowKit.wrap64 (b * 2 ^ r) % 256) = y + b * p2 r := by
  have hm := mul01 b (p2 r) b0 b1 (p2_pos r)
  have hp := p2_8 hr
  have e : Go.RowKit.wrap64 (b * 2 ^ r) % 256 = b * p2 r := by
    show Go.RowKit.wrap64 (b * p2 r) % 256 = _
    unfold Go.RowKit.wrap64; omega
  rw [e]
  obtain ⟨n, rfl⟩ := Int.eq_ofNat_of_zero_le h0
  obtain ⟨m, rfl⟩ := Int.eq_ofNat_of_zero_le b0
  rw [p2_nat] at h1 hm hp ⊢
  rw [show ((m : Int) * ((2 ^ r : Nat) : Int)) = ((m * 2 ^ r : Nat) : Int) from (Int.natCast_mul _ _).symm] at hm ⊢
  rw [u8_or_nat _ _ (by omega) (by omega), Nat.or_comm, nat_join r (m * 2 ^ r) n (by simp) (by omega)]
  omega

theorem i64_and_nat (a b : Nat) (ha : a < 9223372036854775808) (hb : b < 9223372036854775808) : bits .and .i64 (a : Int) (b : Int) = ((a &&& b : Nat) : Int) := by
  have h1 : (BitVec.ofInt 64 (a : Int)).toNat = a := by
    rw [BitVec.ofInt_natCast, BitVec.toNat_ofNat]; exact Nat.mod_eq_of_lt (by omega)
  have h2 : (BitVec.ofInt 64 (b : Int)).toNat = b := by
    rw [BitVec.ofInt_natCast, BitVec.toNat_ofNat]; exact Nat.mod_eq_of_lt (by omega)
  have hx : a &&& b < 2 ^ 63 := Nat.and_lt_two_pow _ (by omega)
  show IntKind.i64.wrap ((BitVec.ofInt 64 (a : Int) &&& BitVec.ofInt 64 (b : Int)).toNat : Int) = _
  rw [BitVec.toNat_and, h1, h2, IntKind.wrap_i64]
  omega
theorem bit_shr (x : Int) (k : Nat) (h0 : 0 ≤ x) (h1 : x ≤ 16777216) (_hk : k ≤ 24) : bits .and .i64 (x / 2 ^ k) 1 = bitOf x k := by
  have a := Int.ediv_nonneg h0 (show 0 ≤ p2 k by have := p2_pos k; omega)
  have b := Int.ediv_le_self (p2 k) h0
  show bits .and .i64 (x / p2 k) 1 = x / p2 k % 2
  generalize x / p2 k = y at *
  obtain ⟨n, rfl⟩ := Int.eq_ofNat_of_zero_le a
  have := i64_and_nat n 1 (by omega) (by omega)
  rw [nat_mask1] at this
  rw [show ((1 : Nat) : Int) = 1 from rfl] at this
  rw [this]
  omega

end PutMath
end Go.Proofs.Ytbcnlggkoidmmaa

namespace Go.Proofs.Ytbcnlggkoidmmaa
open OutMath PutMath

/-- n bits, those of x, may be put behind the Out (s, c). -/
def May (s : ByteArray) (c x n : Int) : Prop := outB s c = true ∧ 0 ≤ n ∧ n ≤ 24 ∧ 0 ≤ x ∧ x < p2 n.toNat ∧ c + n ≤ 96000

theorem bytes_inv (s : ByteArray) (c : Nat) (h : outB s c = true) : Inv (s.data.toList.map fun b => (b.toNat : Int)) c := by
  have hf := fits_of_outB s c h
  obtain ⟨q1, q2, q3, q4⟩ := hf
  refine ⟨by simp; omega, fun h8 => ?_⟩
  have hc : ¬ (c : Int) % 8 = 0 := by omega
  rw [outB_fit1 s c (fits_of_outB s c h) hc] at h
  unfold lastOk at h
  have h' := of_decide_eq_true h
  rw [show ((c : Int) % 8).toNat = c % 8 by omega] at h'
  have hl : c / 8 = s.size - 1 := by omega
  have e : (s.data.toList.map fun b => (b.toNat : Int)).getD (c / 8) 0 = (last s : Int) := by
    rw [hl]
    unfold last
    have hlt : s.size - 1 < s.data.size := by have : s.data.size = s.size := rfl; omega
    rw [List.getD_eq_getElem?_getD, List.getElem?_map, Array.getElem?_toList, Array.getElem?_eq_getElem hlt]
    rfl
  rw [e]
  exact ⟨by omega, h'⟩

/-- What PutBits and PutCode tell, the places of the bits being pl. -/
def putOut (s : ByteArray) (c : Nat) (x : Int) (pl : Nat → Nat) (n : Nat) : ByteArray := strOfNums (puts (s.data.toList.map fun b => (b.toNat : Int)) c (fun j => bitOf x (pl j)) n)

end Go.Proofs.Ytbcnlggkoidmmaa
