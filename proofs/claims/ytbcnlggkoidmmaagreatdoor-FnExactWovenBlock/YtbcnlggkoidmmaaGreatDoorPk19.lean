/-
  Lists of parts (two numbers and a truth value each) in memory. Nothing here speaks of the program.
  The parts of a block of type 2 that tell both codes, as they are made one behind the other; a list of parts under way. Nothing here speaks of the program.
  The last byte of a text, read.
  The walks of the document's model of a right Out.
  The walks of the program's test of a right Out.
-/
import Derived.Test.YtbcnlggkoidmmaaGreatDoorRows
import Derived.Test.YtbcnlggkoidmmaaGreatDoorPk01
import Derived.Test.YtbcnlggkoidmmaaGreatDoorPk07
import Derived.Test.YtbcnlggkoidmmaaGreatDoorPk08
import Derived.WalkKit
import Derived.ProofKit
import Derived.Below
import Derived.OwnWalk
import Derived.Deep.AppendLies
import Derived.Maps.AppendAt
import Derived.Laws.AppendOwnNone
import Derived.Lib.SmallJoins
import Derived.WalkLawsBesides
import Derived.Deep.QuietTactic
import Derived.BigQuiet
namespace Go.Proofs.YtbcnlggkoidmmaaGreatDoor
open Go.RowKit Go.Joins PartMath

/-- The cells of parts. -/
def pcells : List Part → List Value
  | [] => []
  | c :: l => .int .i64 c.1 :: .int .i64 (c.2.1 : Int) :: .bool c.2.2 :: pcells l
theorem pcells_length : ∀ l : List Part, (pcells l).length = l.length * 3
  | [] => rfl
  | c :: l => by
    show (pcells l).length + 1 + 1 + 1 = (l.length + 1) * 3
    rw [pcells_length l]
    omega
theorem pcells_app : ∀ xs ys : List Part, pcells (xs ++ ys) = pcells xs ++ pcells ys
  | [], ys => rfl
  | c :: l, ys => by
    show Value.int .i64 c.1 :: .int .i64 (c.2.1 : Int) :: .bool c.2.2 :: pcells (l ++ ys) = Value.int .i64 c.1 :: .int .i64 (c.2.1 : Int) :: .bool c.2.2 :: (pcells l ++ pcells ys)
    rw [pcells_app l ys]
theorem pcells_get : ∀ (l : List Part) (i : Nat), i < l.length → (pcells l)[i * 3]? = some (.int .i64 (l.getD i (0, 0, false)).1) ∧ (pcells l)[i * 3 + 1]? = some (.int .i64 ((l.getD i (0, 0, false)).2.1 : Int)) ∧ (pcells l)[i * 3 + 2]? = some (.bool (l.getD i (0, 0, false)).2.2)
  | [], i, h => by simp at h
  | c :: l, 0, _ => ⟨rfl, rfl, rfl⟩
  | c :: l, i + 1, h => by
    have q := pcells_get l i (by simpa using h)
    rw [show (i + 1) * 3 = i * 3 + 1 + 1 + 1 by omega]
    exact q
theorem pcells_one : ∀ (l : List Part), ∀ u ∈ pcells l, u.oneCell' = true
  | [], u, h => by cases h
  | c :: l, u, h => by
    rcases List.mem_cons.mp h with rfl | h
    · rfl
    · rcases List.mem_cons.mp h with rfl | h
      · rfl
      · rcases List.mem_cons.mp h with rfl | h
        · rfl
        · exact pcells_one l u h

/-- A slice of parts that came in. -/
def PCame (w : World) (a : Option Addr) (L : List Part) : Prop :=
  L.length = 0 ∨ ∃ g off, a = some ⟨g, off, none⟩ ∧ g < w.heap.size ∧ ∀ j, j < L.length → w.cell? ⟨g, off + j * 3, none⟩ = some (.int .i64 (L.getD j (0, 0, false)).1) ∧ w.cell? ⟨g, off + j * 3 + 1, none⟩ = some (.int .i64 ((L.getD j (0, 0, false)).2.1 : Int)) ∧ w.cell? ⟨g, off + j * 3 + 2, none⟩ = some (.bool (L.getD j (0, 0, false)).2.2)
theorem PCame.called {w w' : World} {a : Option Addr} {L : List Part} (h : PCame w a L) (hb : Below w.heap.size w w') : PCame w' a L := by
  rcases h with h | ⟨g, off, ha, hg, hc⟩
  · exact .inl h
  · exact .inr ⟨g, off, ha, Nat.lt_of_lt_of_le hg hb.size, fun j hj => ⟨(hb.cell (p := ⟨g, off + j * 3, none⟩) hg).trans (hc j hj).1, (hb.cell (p := ⟨g, off + j * 3 + 1, none⟩) hg).trans (hc j hj).2.1, (hb.cell (p := ⟨g, off + j * 3 + 2, none⟩) hg).trans (hc j hj).2.2⟩⟩
/-- The cells of a list of parts that came in, one behind the other. -/
theorem PCame.news {w : World} {ad : Addr} {L : List Part} (h : PCame w (some ad) L) : ∀ j u, (pcells L)[j]? = some u → w.cell? (ad.add j) = some u := by
  intro j u hu
  have hj : j < L.length * 3 := by
    rw [← pcells_length]
    rcases Nat.lt_or_ge j (pcells L).length with k | k
    · exact k
    · rw [List.getElem?_eq_none k] at hu; cases hu
  rcases h with h | ⟨g, off, ha, hg, hc⟩
  · omega
  cases ha
  have hm := pcells_get L (j / 3) (by omega)
  have q := hc (j / 3) (by omega)
  rw [Addr.add_lit]
  obtain h0 | h0 | h0 : j = j / 3 * 3 ∨ j = j / 3 * 3 + 1 ∨ j = j / 3 * 3 + 2 := by omega
  · rw [h0] at hu
    rw [hm.1] at hu
    rw [show off + j = off + j / 3 * 3 by omega, q.1, hu]
  · rw [h0] at hu
    rw [hm.2.1] at hu
    rw [show off + j = off + j / 3 * 3 + 1 by omega, q.2.1, hu]
  · rw [h0] at hu
    rw [hm.2.2] at hu
    rw [show off + j = off + j / 3 * 3 + 2 by omega, q.2.2, hu]
/-- What a call owns, by its places. -/
theorem pcame_of_own {w : World} {e : TypeId} {S n : Nat} {v : Value} {L : List Part} (h : w.ownsRow S e 3 v n (pcells L)) (hn : n = L.length) : ∃ a c, v = .slice a L.length c ∧ L.length ≤ c ∧ c ≤ maxLen ∧ (a = none → c = 0) ∧ PCame w a L ∧ (∀ ad, a = some ad → ∃ g, ad = ⟨g, 0, none⟩ ∧ S ≤ g) := by
  subst hn
  rcases h.2 with ⟨rfl, h0⟩ | ⟨g, cap, cur, rfl, hb, hg, hc, hm, hs, ht⟩
  · exact ⟨none, 0, by rw [h0], by omega, Nat.zero_le _, fun _ => rfl, .inl h0, fun ad e => by cases e⟩
  · refine ⟨_, cap, rfl, hc, hm, (fun e => by cases e), .inr ⟨g, 0, rfl, block_lt hg, fun j hj => ?_⟩, fun ad e => by cases e; exact ⟨g, rfl, hb⟩⟩
    have q := pcells_get L j hj
    rw [Nat.zero_add, h.cellAt (j * 3) (by omega), h.cellAt (j * 3 + 1) (by omega), h.cellAt (j * 3 + 2) (by omega)]
    exact q
theorem row_called {w w' : World} {e : TypeId} {S m n : Nat} {v : Value} {L : List Value} (h : w.ownsRow S e m v n L) (hb : Below w.heap.size w w') : w'.ownsRow S e m v n L := by
  refine ⟨h.1, ?_⟩
  rcases h.2 with h | ⟨g, cap, cur, rfl, h1, h2, h3⟩
  · exact .inl h
  · exact .inr ⟨g, cap, cur, rfl, h1, (hb.block g (block_lt h2)).trans h2, h3⟩

/-- 'append(v, ys...)' of parts, and where the list then lies. -/
theorem parts_append {e t : TypeId} (ht : Tryz.prog.underlying t = some (.slice e)) (hinf : (Tryz.prog.info? e).map (fun i => (i.zero, i.size, i.bytes)) = some (some (.agg #[.int .i64 0, .int .i64 0, .bool false]), 3, 24)) {w : World} {S : Nat} {v : Value} {xs ys : List Part} {ops : Array Oper} {rest : List Oper} {o : Oper} {a : Act} {Q : Exit → Act → World → Prop} (hgd : o.guard = none) (s x : Operand)
    (ho : o.op = .call { callee := .builtin .append, args := #[s, x], argTypes := #[t, t] }) (hs : a.eval s = v) (h : w.ownsRow S e 3 v xs.length (pcells xs)) (ad : Addr) (m c : Nat) (hx : a.eval x = .slice (some ad) m c) (hm : ys.length = m)
    (hc : ∀ j u, (pcells ys)[j]? = some u → w.cell? (ad.add j) = some u)
    (h63 : xs.length + ys.length ≤ 1000000) (hS : S ≤ w.heap.size)
    (hK : ∀ v' w', w'.ownsRow S e 3 v' (xs ++ ys).length (pcells (xs ++ ys)) → w.grownBy w' v.ownBlock → (v'.ownBlock = v.ownBlock ∨ v'.ownBlock = some w.heap.size) → wpList Tryz.prog ops Q rest (a.put o.dst v') w') : wpList Tryz.prog ops Q (o :: rest) a w := by
  obtain ⟨i0, hi0, hz0, hz1, hz2⟩ := info_parts hinf
  refine wpList_append_own_at w hgd s x _ ho S e i0 _ 3 24 ht hi0 hz0 hz1 hz2 rfl (by omega) v _ _ hs h ad m c (pcells ys) hx (by rw [pcells_length, hm]) hc (pcells_one ys) (by unfold maxLen; omega) (by omega) hS ?_
  intro v' w' hown hg _ hat
  refine hK v' w' ?_ hg hat
  rw [List.length_append, pcells_app, hm]
  exact hown
/-- The same at a step of a region that draws its order. -/
theorem step_parts {e t : TypeId} (ht : Tryz.prog.underlying t = some (.slice e)) (hinf : (Tryz.prog.info? e).map (fun i => (i.zero, i.size, i.bytes)) = some (some (.agg #[.int .i64 0, .int .i64 0, .bool false]), 3, 24)) (w : World) {ops : Array Oper} {o : Oper} {a : Act} {K : Act → World → Prop} {Q : Exit → Act → World → Prop} {E : Prop} (hgd : o.guard = none) (s x : Operand)
    (ho : o.op = .call { callee := .builtin .append, args := #[s, x], argTypes := #[t, t] }) (S : Nat) (v : Value) (xs ys : List Part) (hs : a.eval s = v) (h : w.ownsRow S e 3 v xs.length (pcells xs)) (ad : Addr) (m c : Nat) (hx : a.eval x = .slice (some ad) m c) (hm : ys.length = m) (hm0 : 0 < m)
    (hc : ∀ j u, (pcells ys)[j]? = some u → w.cell? (ad.add j) = some u) (h63 : xs.length + ys.length ≤ 1000000) (hS : S ≤ w.heap.size) (H : Nat) (hH : w.heap.size = H) (N : Nat) (hN : (xs ++ ys).length = N)
    (hK : ∀ g cap w', w'.ownsRow S e 3 (.slice (some ⟨g, 0, none⟩) N cap) N (pcells (xs ++ ys)) → w.grownBy w' v.ownBlock → (v.ownBlock = some g ∨ g = H) → g < w'.heap.size → K (a.put o.dst (.slice (some ⟨g, 0, none⟩) N cap)) w') :
    if Region.wanted o (yielded ops a.tmps) = true then Oper.wp Tryz.prog o a w K Q else E := by
  obtain ⟨i0, hi0, hz0, hz1, hz2⟩ := info_parts hinf
  rw [List.length_append, hm] at hN
  subst hN
  refine step_append_lies w hgd s x t ho S e i0 _ 3 24 ht hi0 hz0 hz1 hz2 rfl (by omega) v _ _ hs h ad m c (pcells ys) hx (by rw [pcells_length, hm]) hc (pcells_one ys) hm0 (by unfold maxLen; omega) (by omega) hS H hH ?_
  intro g cap w' h1 h2 h3 h4
  refine hK g cap w' ?_ h2 h3 h4
  rw [pcells_app]
  exact h1
/-- The cells of one part that lies in a block of its own. -/
theorem news_part (w : World) (e : TypeId) (x : Int) (k : Nat) (h : Bool) (n : Nat) (hn : w.heap.size = n) : ∀ q u, (pcells [(x, k, h)])[q]? = some u → (w.alloc (.cells #[.int .i64 x, .int .i64 (k : Int), .bool h] e)).cell? ((⟨n, 0, none⟩ : Addr).add q) = some u := by
  subst hn
  exact World.news_of_block (cs := #[.int .i64 x, .int .i64 (k : Int), .bool h]) (t := e) (fr := (0, 0)) (heap_alloc_new w _)
theorem news_parts (w : World) (e : TypeId) (L : List Part) (n : Nat) (hn : w.heap.size = n) : ∀ q u, (pcells L)[q]? = some u → (w.alloc (.cells (pcells L).toArray e)).cell? ((⟨n, 0, none⟩ : Addr).add q) = some u := by
  subst hn
  have := World.news_of_block (cs := (pcells L).toArray) (t := e) (fr := (0, 0)) (heap_alloc_new w (.cells (pcells L).toArray e))
  simpa using this
/-- A literal of parts is the call's own. -/
theorem own_lit (w : World) (e : TypeId) (S : Nat) (hS : S ≤ w.heap.size) (L : List Part) (hL : L.length ≤ 1000000) : (w.alloc (.cells (pcells L).toArray e)).ownsRow S e 3 (.slice (some ⟨w.heap.size, 0, none⟩) L.length L.length) L.length (pcells L) := by
  refine ⟨pcells_length L, .inr ⟨w.heap.size, L.length, _, rfl, hS, heap_alloc_new w _, Nat.le_refl _, by unfold maxLen; omega, by simp [pcells_length], ?_⟩⟩
  simp [← pcells_length]
end Go.Proofs.YtbcnlggkoidmmaaGreatDoor

namespace Go.Proofs.YtbcnlggkoidmmaaGreatDoor
open Go.RowKit Go.Joins TokMath CodeMath RunsMath InfMath TrimMath TokLenMath PartMath BodyMath WovenMath

def whd (nA nB nT : Nat) : List Part := [((nA : Int) - 257, 5, false), ((nB : Int) - 1, 5, false), ((nT : Int) - 4, 4, false)]
/-- The first j lengths of the third code, as they are told. -/
def toldTo (R : List (Int × Int)) (j : Nat) : List Part := (List.range j).map fun i => (toldF R i, 3, false)
theorem toldTo_next (R : List (Int × Int)) (j : Nat) : toldTo R (j + 1) = toldTo R j ++ [(toldF R j, 3, false)] := by
  unfold toldTo
  rw [List.range_succ, List.map_append]
  rfl
theorem toldTo_length (R : List (Int × Int)) (j : Nat) : (toldTo R j).length = j := by simp [toldTo]
theorem runsP_snoc (R Q : List (Int × Int)) (r : Int × Int) : runsP R (Q ++ [r]) = runsP R Q ++ runP R r := by simp [runsP]
theorem runsP_length (R : List (Int × Int)) : ∀ Q : List (Int × Int), (runsP R Q).length = 2 * Q.length
  | [] => rfl
  | r :: Q => by
    show (runP R r ++ runsP R Q).length = _
    rw [List.length_append, runsP_length R Q, List.length_cons]
    show 2 + _ = _
    omega
/-- What the second ring has at hand: the list of parts so far; what was there ahead of it is kept, but the list's own block. -/
def LpQ (e : TypeId) (wQ X : World) (S gv0 : Nat) (v : Value) (P : List Part) : Prop := wQ.grownBy X (some gv0) ∧ X.ownsRow S e 3 v P.length (pcells P) ∧ ∃ g, v.ownBlock = some g ∧ (g = gv0 ∨ wQ.heap.size ≤ g)
theorem LpQ.called {e : TypeId} {wQ X Y : World} {S gv0 : Nat} {v : Value} {P : List Part} (h : LpQ e wQ X S gv0 v P) (hb : Below X.heap.size X Y) : LpQ e wQ Y S gv0 v P := ⟨h.1.trans (⟨hb.os, hb.tape, hb.output, hb.size, fun k hk _ => hb.block k hk⟩ : X.grownBy Y _), row_called h.2.1 hb, h.2.2⟩
theorem LpQ.next {e : TypeId} {wQ X Y : World} {S gv0 g cap n : Nat} {v : Value} {P P' : List Part} (h : LpQ e wQ X S gv0 v P) (hg : X.grownBy Y v.ownBlock) (hr : Y.ownsRow S e 3 (.slice (some ⟨g, 0, none⟩) n cap) P'.length (pcells P')) (hat : v.ownBlock = some g ∨ X.heap.size ≤ g) : LpQ e wQ Y S gv0 (.slice (some ⟨g, 0, none⟩) n cap) P' := by
  obtain ⟨h1, h2, g0, h3, h4⟩ := h
  have hs := h1.size
  refine ⟨⟨hg.os.trans h1.os, hg.tape.trans h1.tape, hg.output.trans h1.output, Nat.le_trans h1.size hg.size, fun k hk hne => ?_⟩, hr, g, rfl, ?_⟩
  · refine (hg.block k (Nat.lt_of_lt_of_le hk hs) ?_).trans (h1.block k hk hne)
    rw [h3]
    intro eq
    have eq := Option.some.inj eq
    rcases h4 with q | q
    · exact hne (by rw [eq, q])
    · omega
  · rcases hat with q | q
    · rw [h3] at q
      have eq := Option.some.inj q
      rw [← eq]
      exact h4
    · exact .inr (Nat.le_trans hs q)

theorem row_mono {w : World} {e : TypeId} {S S' m n : Nat} {v : Value} {L : List Value} (h : w.ownsRow S e m v n L) (hS : S' ≤ S) : w.ownsRow S' e m v n L := by
  refine ⟨h.1, ?_⟩
  rcases h.2 with h | ⟨g, cap, cur, rfl, h1, h3⟩
  · exact .inl h
  · exact .inr ⟨g, cap, cur, rfl, Nat.le_trans hS h1, h3⟩
theorem if_wanted {c A E : Prop} [Decidable c] (hc : c) (h : A) : if c then A else E := by rw [if_pos hc]; exact h
theorem wanted_none {o : Oper} {y : Nat → Option Bool} (h : o.guard = none) : Region.wanted o y = true := by simp [Region.wanted, h]
/-- 'append' of parts, as one operation of a region that draws. -/
theorem wp_parts {e t : TypeId} (ht : Tryz.prog.underlying t = some (.slice e)) (hinf : (Tryz.prog.info? e).map (fun i => (i.zero, i.size, i.bytes)) = some (some (.agg #[.int .i64 0, .int .i64 0, .bool false]), 3, 24)) {w : World} {o : Oper} {a : Act} {K : Act → World → Prop} {Q : Exit → Act → World → Prop} (hgd : o.guard = none) (s x : Operand)
    (ho : o.op = .call { callee := .builtin .append, args := #[s, x], argTypes := #[t, t] }) (S : Nat) (v : Value) (xs ys : List Part) (hs : a.eval s = v) (h : w.ownsRow S e 3 v xs.length (pcells xs)) (ad : Addr) (m c : Nat) (hx : a.eval x = .slice (some ad) m c) (hm : ys.length = m) (hm0 : 0 < m)
    (hc : ∀ j u, (pcells ys)[j]? = some u → w.cell? (ad.add j) = some u) (h63 : xs.length + ys.length ≤ 1000000) (hS : S ≤ w.heap.size) (N : Nat) (hN : (xs ++ ys).length = N)
    (hK : ∀ g cap w', w'.ownsRow S e 3 (.slice (some ⟨g, 0, none⟩) N cap) N (pcells (xs ++ ys)) → w.grownBy w' v.ownBlock → (v.ownBlock = some g ∨ g = w.heap.size) → g < w'.heap.size → K (a.put o.dst (.slice (some ⟨g, 0, none⟩) N cap)) w') : Oper.wp Tryz.prog o a w K Q := by
  have h1 := step_parts (ops := #[]) (E := True) (Q := Q) ht hinf w hgd s x ho S v xs ys hs h ad m c hx hm hm0 hc h63 hS w.heap.size rfl N hN hK
  rwa [if_pos (wanted_none hgd)] at h1
/-- What the first ring has at hand. -/
def Lp1 (e : TypeId) (wK X : World) (P : List Part) (v : Value) : Prop := Below wK.heap.size wK X ∧ X.ownsRow wK.heap.size e 3 v P.length (pcells P)
end Go.Proofs.YtbcnlggkoidmmaaGreatDoor

namespace Go.Proofs.YtbcnlggkoidmmaaGreatDoor
open Go.RowKit Go.Joins OutMath

theorem index_last (s : ByteArray) (h : 0 < s.size) (w : World) : (Instr.index 9 (.string s) (.int .i64 ((s.size : Int) - 1))).run Tryz.prog w = .ok (.int .u8 (last s)) w := by
  rw [run_index_string w 9 s .i64 _ Tryz.underlying9, dif_pos ⟨by omega, by omega⟩]
  have e : ((s.size : Int) - 1).toNat = s.size - 1 := by omega
  simp only [e]
  rw [last_at]

end Go.Proofs.YtbcnlggkoidmmaaGreatDoor

namespace Go.Proofs.YtbcnlggkoidmmaaGreatDoor
open Go.RowKit Go.Joins OutMath

set_option maxHeartbeats 400000 in
theorem specOut_fit0 (s : ByteArray) (c : Int) (w : World) (h : Fits s c) (hc : c % 8 = 0) :
    Calls Tryz.prog 97 #[.agg #[.string s, .int .i64 c]] w fun e w' => e = .returned (.bool true) ∧ Below w.heap.size w w' := by
  obtain ⟨h1, h2, h3, h4⟩ := h
  have d1 : decide ((12000 : Int) < s.size) = false := by simp; omega
  have d2 : decide (c < 0) = false := by simp; omega
  have d3 : decide (8 * (s.size : Int) < c) = false := by simp; omega
  have d4 : ((c + 7) / 8 != (s.size : Int)) = false := by simp; omega
  have d5 : (c % 8 == 0) = true := by simp; omega
  clear h4 hc
  go_enter Tryz.func97, Tryz.ntmps97
  go_wp2
  go_quiet (fail)
  go_wp2
  go_ret
  exact ⟨rfl, (below_alloc1 _ _).trans (below_draws _ _ _)⟩

set_option maxHeartbeats 400000 in
theorem specOut_fit1 (s : ByteArray) (c : Int) (w : World) (h : Fits s c) (hc : ¬ c % 8 = 0) :
    Calls Tryz.prog 97 #[.agg #[.string s, .int .i64 c]] w fun e w' => e = .returned (.bool (lastOk s c)) ∧ Below w.heap.size w w' := by
  obtain ⟨h1, h2, h3, h4⟩ := h
  have d1 : decide ((12000 : Int) < s.size) = false := by simp; omega
  have d2 : decide (c < 0) = false := by simp; omega
  have d3 : decide (8 * (s.size : Int) < c) = false := by simp; omega
  have d4 : ((c + 7) / 8 != (s.size : Int)) = false := by simp; omega
  have d5 : (c % 8 == 0) = false := by simp; omega
  have d6 : 0 < s.size := by omega
  have d7 : (0 : Int) ≤ (s.size : Int) - 1 ∧ (s.size : Int) - 1 < s.size := by omega
  have ht : c.tmod 8 = c % 8 := Int.tmod_eq_emod_of_nonneg h2
  have hw1 : IntKind.i64.wrap ((s.size : Int) - 1) = (s.size : Int) - 1 := by rw [IntKind.wrap_i64]; omega
  have hix := index_last s d6
  have hlt := last_lt s
  clear h4 hc
  go_enter Tryz.func97, Tryz.ntmps97
  go_wp2
  go_quiet ((go_at_call 93; exact Calls.quiet_of_same (pow_int _ _ (by omega) (by omega))))
  go_wp2
  go_ret
  exact ⟨rfl, (below_alloc1 _ _).trans (below_draws _ _ _)⟩

set_option maxHeartbeats 400000 in
theorem specOut_no (s : ByteArray) (c : Int) (w : World) (hs : s.size ≤ maxLen) (hc1 : -9223372036854775808 ≤ c) (hc2 : c ≤ 9223372036854775807) (h : ¬ Fits s c) :
    Calls Tryz.prog 97 #[.agg #[.string s, .int .i64 c]] w fun e w' => e = .returned (.bool false) ∧ Below w.heap.size w w' := by
  unfold maxLen at hs
  unfold Fits at h
  by_cases h1 : (12000 : Int) < s.size
  · clear h
    go_enter Tryz.func97, Tryz.ntmps97
    go_wp2
    go_ret
    exact ⟨rfl, below_alloc1 _ _⟩
  · have d1 : decide ((12000 : Int) < s.size) = false := by simpa using h1
    by_cases h2 : c < 0
    · clear h
      go_enter Tryz.func97, Tryz.ntmps97
      go_wp2
      go_ret
      exact ⟨rfl, below_alloc1 _ _⟩
    · have d2 : decide (c < 0) = false := by simpa using h2
      by_cases h3 : 8 * (s.size : Int) < c
      · clear h
        go_enter Tryz.func97, Tryz.ntmps97
        go_wp2
        go_ret
        exact ⟨rfl, below_alloc1 _ _⟩
      · have d3 : decide (8 * (s.size : Int) < c) = false := by simpa using h3
        have d4 : ((c + 7) / 8 != (s.size : Int)) = true := by rw [bne_iff_ne]; omega
        clear h
        go_enter Tryz.func97, Tryz.ntmps97
        go_wp2
        go_ret
        exact ⟨rfl, below_alloc1 _ _⟩

theorem specOut_any (s : ByteArray) (c : Int) (w : World) (hs : s.size ≤ maxLen) (hc1 : -9223372036854775808 ≤ c) (hc2 : c ≤ 9223372036854775807) :
    Calls Tryz.prog 97 #[.agg #[.string s, .int .i64 c]] w fun e w' => e = .returned (.bool (outB s c)) ∧ Below w.heap.size w w' := by
  by_cases h : Fits s c
  · by_cases hc : c % 8 = 0
    · rw [outB_fit0 s c h hc]; exact specOut_fit0 s c w h hc
    · rw [outB_fit1 s c h hc]; exact specOut_fit1 s c w h hc
  · rw [outB_no s c h]; exact specOut_no s c w hs hc1 hc2 h

end Go.Proofs.YtbcnlggkoidmmaaGreatDoor

namespace Go.Proofs.YtbcnlggkoidmmaaGreatDoor
open Go.RowKit Go.Joins OutMath

theorem bytesFor_any (c : Int) (w : World) (h1 : 0 ≤ c) (h2 : c ≤ 96000) :
    Calls Tryz.prog 41 #[.int .i64 c] w fun e w' => e = .returned (.int .i64 ((c + 7) / 8)) ∧ w' = w := by
  go_enter Tryz.func41, Tryz.ntmps41
  go_wp2
  go_ret
  exact ⟨rfl, rfl⟩

set_option maxHeartbeats 400000 in
theorem implOut_fit0 (s : ByteArray) (c : Int) (w : World) (h : Fits s c) (hc : c % 8 = 0) :
    Calls Tryz.prog 60 #[.agg #[.string s, .int .i64 c]] w fun e w' => e = .returned (.bool true) ∧ Below w.heap.size w w' := by
  obtain ⟨h1, h2, h3, h4⟩ := h
  have d2 : decide (c < 0) = false := by simp; omega
  have d3 : decide ((96000 : Int) < c) = false := by simp; omega
  have d4 : ((s.size : Int) != (c + 7) / 8) = false := by simp; omega
  have d5 : (c % 8 == 0) = true := by simp; omega
  have ht : c.tmod 8 = c % 8 := Int.tmod_eq_emod_of_nonneg h2
  have hc9 : c ≤ 96000 := by omega
  clear h4 hc
  go_enter Tryz.func60, Tryz.ntmps60
  go_wp2
  go_quiet ((go_at_call 41; exact Calls.quiet_of_same (bytesFor_any _ _ (by omega) (by omega))))
  go_wp2
  go_ret
  exact ⟨rfl, (below_alloc1 _ _).trans (below_draws _ _ _)⟩

set_option maxHeartbeats 400000 in
theorem implOut_fit1 (s : ByteArray) (c : Int) (w : World) (h : Fits s c) (hc : ¬ c % 8 = 0) :
    Calls Tryz.prog 60 #[.agg #[.string s, .int .i64 c]] w fun e w' => e = .returned (.bool (lastOk s c)) ∧ Below w.heap.size w w' := by
  obtain ⟨h1, h2, h3, h4⟩ := h
  have d2 : decide (c < 0) = false := by simp; omega
  have d3 : decide ((96000 : Int) < c) = false := by simp; omega
  have d4 : ((s.size : Int) != (c + 7) / 8) = false := by simp; omega
  have d5 : (c % 8 == 0) = false := by simp; omega
  have d6 : 0 < s.size := by omega
  have ht : c.tmod 8 = c % 8 := Int.tmod_eq_emod_of_nonneg h2
  have hc9 : c ≤ 96000 := by omega
  have hix := index_last s d6
  have hlt := last_lt s
  have hlo := lastOk_div s c
  clear h4 hc
  go_enter Tryz.func60, Tryz.ntmps60
  go_wp2
  go_quiet ((go_at_call 41; exact Calls.quiet_of_same (bytesFor_any _ _ (by omega) (by omega))))
  have HL : Hid (lastOk s c = (((last s : Nat) : Int) / 2 ^ (c % 8).toNat == 0)) := hlo
  clear hlo
  go_wp2
  go_ret
  exact ⟨ret_b HL.out.symm, (below_alloc1 _ _).trans (below_draws _ _ _)⟩

set_option maxHeartbeats 400000 in
theorem implOut_no (s : ByteArray) (c : Int) (w : World) (hs : s.size ≤ maxLen) (hc1 : -9223372036854775808 ≤ c) (hc2 : c ≤ 9223372036854775807) (h : ¬ Fits s c) :
    Calls Tryz.prog 60 #[.agg #[.string s, .int .i64 c]] w fun e w' => e = .returned (.bool false) ∧ Below w.heap.size w w' := by
  unfold maxLen at hs
  unfold Fits at h
  by_cases h2 : c < 0
  · have d2 : decide (c < 0) = true := by simpa using h2
    clear h
    go_enter Tryz.func60, Tryz.ntmps60
    go_wp2
    go_quiet (fail)
    go_wp2
    go_ret
    exact ⟨rfl, (below_alloc1 _ _).trans (below_draws _ _ _)⟩
  · have d2 : decide (c < 0) = false := by simpa using h2
    by_cases h3 : (96000 : Int) < c
    · have d3 : decide ((96000 : Int) < c) = true := by simpa using h3
      clear h
      go_enter Tryz.func60, Tryz.ntmps60
      go_wp2
      go_quiet (fail)
      go_wp2
      go_ret
      exact ⟨rfl, (below_alloc1 _ _).trans (below_draws _ _ _)⟩
    · have d3 : decide ((96000 : Int) < c) = false := by simpa using h3
      have d4 : ((s.size : Int) != (c + 7) / 8) = true := by rw [bne_iff_ne]; omega
      clear h
      go_enter Tryz.func60, Tryz.ntmps60
      go_wp2
      go_quiet ((go_at_call 41; exact Calls.quiet_of_same (bytesFor_any _ _ (by omega) (by omega))))
      go_wp2
      go_ret
      exact ⟨rfl, (below_alloc1 _ _).trans (below_draws _ _ _)⟩

theorem implOut_any (s : ByteArray) (c : Int) (w : World) (hs : s.size ≤ maxLen) (hc1 : -9223372036854775808 ≤ c) (hc2 : c ≤ 9223372036854775807) :
    Calls Tryz.prog 60 #[.agg #[.string s, .int .i64 c]] w fun e w' => e = .returned (.bool (outB s c)) ∧ Below w.heap.size w w' := by
  by_cases h : Fits s c
  · by_cases hc : c % 8 = 0
    · rw [outB_fit0 s c h hc]; exact implOut_fit0 s c w h hc
    · rw [outB_fit1 s c h hc]; exact implOut_fit1 s c w h hc
  · rw [outB_no s c h]; exact implOut_no s c w hs hc1 hc2 h

end Go.Proofs.YtbcnlggkoidmmaaGreatDoor
