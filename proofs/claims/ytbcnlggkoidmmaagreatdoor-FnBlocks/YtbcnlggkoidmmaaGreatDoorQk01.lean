/-
  Small facts that the proofs of several laws share.
  Slices of integers that came in. Nothing here speaks of the program.
  A slice that the call itself made, of elements of one cell each, whether or not its row bears the mark of a conversion: what is read, stored, appended. Nothing here speaks of the program.
  The walks of the model's cursor over the bytes of a draw: it is made, gives bytes, numbers below a bound, picks. What it gives is whatever; told is only within which bounds it lies.
  What a draw has at hand that fills one list: its cursor, and the list, which is the call's own.
-/
import Derived.Test.YtbcnlggkoidmmaaGreatDoorRows
import Derived.WalkKit
import Derived.Below
import Derived.Lib.SmallJoins
import Derived.Deep.QuietTactic
import Derived.OpenShut
import Derived.ArgAppend
import Derived.Laws.IdiomStrings
import Derived.Laws.BytesArg
import Derived.ProofKit
import Derived.WalkLawsBesides
import Derived.BigQuiet
namespace Go.Proofs.YtbcnlggkoidmmaaGreatDoor
open Go.RowKit Go.Joins

theorem of_laid : laidOutB Tryz.prog = true := by kernel_rfl

theorem bnext {a b c : World} (h : Below a.heap.size a b) (k : Below b.heap.size b c) : Below a.heap.size a c := h.trans (k.mono h.size)
theorem bal {a b : World} (h : Below a.heap.size a b) (o : Obj) : Below a.heap.size a (b.alloc o) := h.alloc h.size o
theorem bstart (a : World) (o : Obj) : Below a.heap.size a (a.alloc o) := (Below.refl _ _).alloc (Nat.le_refl _) o
theorem bdraws {a b : World} (h : Below a.heap.size a b) (n : Nat) : Below a.heap.size a (b.drewN n) := h.trans ⟨rfl, rfl, rfl, Nat.le_refl _, fun _ _ => rfl⟩

theorem hid_of {p : Prop} (h : p) : Hid p := h
/-- An old cell, and an old block, behind what was made. -/
theorem grow_cell {w : World} (o : Obj) {b : Nat} (h : b < w.heap.size) (i : Nat) : (w.alloc o).cell? ⟨b, i, none⟩ = w.cell? ⟨b, i, none⟩ := (bstart w o).cell (p := ⟨b, i, none⟩) h
/-- A block of two cells, set. -/
theorem two_set {w : World} {b : Nat} {u0 u1 : Value} {y : TypeId} (h : w.heap[b]? = some (.cells #[u0, u1] y (0, 0))) (v0 v1 : Value) : ((w.setCell ⟨b, 0, none⟩ v0).setCell ⟨b, 1, none⟩ v1).heap[b]? = some (.cells #[v0, v1] y (0, 0)) := by
  have h0 := block_setCell (i := 0) h v0
  have h1 := block_setCell (i := 1) h0 v1
  simpa using h1
theorem two_below {B b : Nat} {w w' : World} (h : Below B w w') (hb : B ≤ b) (v0 v1 : Value) : Below B w ((w'.setCell ⟨b, 0, none⟩ v0).setCell ⟨b, 1, none⟩ v1) :=
  Below.setCell (p := ⟨b, 1, none⟩) (Below.setCell (p := ⟨b, 0, none⟩) h hb _) hb _
theorem block_lt {w : World} {b : Nat} {o : Obj} (h : w.heap[b]? = some o) : b < w.heap.size := by
  rcases Nat.lt_or_ge b w.heap.size with k | k
  · exact k
  · rw [Array.getElem?_eq_none k] at h; cases h

end Go.Proofs.YtbcnlggkoidmmaaGreatDoor

namespace Go.Proofs.YtbcnlggkoidmmaaGreatDoor
open Go.RowKit Go.Joins

/-- A slice of integers that came in: it is nil; or it leads to a row of 'cap' cells, the numbers zs. -/
def IsRow (k : IntKind) (w : World) (a : Option Addr) (len cap : Nat) (zs : List Int) : Prop :=
  (a = none ∧ len = 0 ∧ cap = 0 ∧ zs = []) ∨
  ∃ x, a = some x ∧ len ≤ cap ∧ cap ≤ maxLen ∧ zs.length = cap ∧ (∀ i, i < zs.length → w.cell? (x.add i) = some (.int k (zs.getD i 0))) ∧ ∀ n ∈ zs, (Lit.int k n).wf = true

/-- The bytes of a draw lie below block 'base'. -/
def CodeAt (w : World) (base : Nat) (a : Option Addr) (len : Nat) : Prop :=
  len = 0 ∨ ∃ bc off, a = some ⟨bc, off, none⟩ ∧ bc < base ∧ ∀ j, j < len → ∃ x : Int, w.cell? ⟨bc, off + j, none⟩ = some (.int .u8 x) ∧ 0 ≤ x ∧ x ≤ 255

theorem CodeAt.below {w w' : World} {base : Nat} {a : Option Addr} {len : Nat} (h : CodeAt w base a len) (hb : Below base w w') : CodeAt w' base a len := by
  rcases h with h | ⟨bc, off, ha, hlt, hc⟩
  · exact .inl h
  · refine .inr ⟨bc, off, ha, hlt, fun j hj => ?_⟩
    obtain ⟨x, h1, h2⟩ := hc j hj
    exact ⟨x, (hb.cell (p := ⟨bc, off + j, none⟩) hlt).trans h1, h2⟩

theorem codeAt_of_row {w : World} {a : Option Addr} {len cap : Nat} {zs : List Int} (h : IsRow .u8 w a len cap zs) : CodeAt w w.heap.size a len ∧ len ≤ cap ∧ cap ≤ maxLen := by
  rcases h with ⟨_, rfl, rfl, _⟩ | ⟨x, rfl, hl, hm, hz, hc, hw⟩
  · exact ⟨.inl rfl, Nat.le_refl _, Nat.zero_le _⟩
  · refine ⟨?_, hl, hm⟩
    rcases Nat.eq_zero_or_pos len with h0 | h0
    · exact .inl h0
    · right
      obtain ⟨b, off, spot⟩ := x
      have h1 := hc 0 (by omega)
      have hspot : spot = none := by simpa [Addr.add] using World.cell?_spot h1
      subst hspot
      have hadd : ∀ j, (⟨b, off, none⟩ : Addr).add j = ⟨b, off + j, none⟩ := fun j => Addr.add_lit _ _ _
      refine ⟨b, off, rfl, ?_, fun j hj => ?_⟩
      · rw [hadd] at h1
        exact World.block_lt_of_cell? w _ h1
      · have h2 := hc j (by omega)
        rw [hadd] at h2
        have hmem : zs.getD j 0 ∈ zs := by
          rw [List.getD_eq_getElem?_getD, List.getElem?_eq_getElem (by omega)]
          exact List.getElem_mem _
        have h3 := hw _ hmem
        obtain ⟨h4, h5⟩ := bounds_u8 h3
        exact ⟨_, h2, h4, by omega⟩

end Go.Proofs.YtbcnlggkoidmmaaGreatDoor

namespace Go.Proofs.YtbcnlggkoidmmaaGreatDoor
open Go.RowKit Go.Joins

/-- The slice v lies at the head of block g, which is the call's own, and holds xs; none of its cells is frozen. -/
def Own (e : TypeId) (w : World) (base g : Nat) (v : Value) (xs : List Value) : Prop :=
  ∃ cap cur fz, v = .slice (some ⟨g, 0, none⟩) xs.length cap ∧ base ≤ g ∧ w.heap[g]? = some (.cells cur e fz) ∧ (fz.2 = 0 ∨ cap ≤ fz.1) ∧ xs.length ≤ cap ∧ cap ≤ maxLen ∧ cur.size = cap ∧ cur.toList.take xs.length = xs

section
variable {e : TypeId} {w w' : World} {base g : Nat} {v : Value} {xs : List Value}

theorem Own.form (h : Own e w base g v xs) : ∃ cap, v = .slice (some ⟨g, 0, none⟩) xs.length cap := by
  obtain ⟨cap, cur, fz, hv, _⟩ := h
  exact ⟨cap, hv⟩
theorem Own.base_le (h : Own e w base g v xs) : base ≤ g := by
  obtain ⟨cap, cur, fz, _, hb, _⟩ := h
  exact hb
theorem Own.lt (h : Own e w base g v xs) : g < w.heap.size := by
  obtain ⟨cap, cur, fz, _, _, hg, _⟩ := h
  rcases Nat.lt_or_ge g w.heap.size with k | k
  · exact k
  · rw [Array.getElem?_eq_none k] at hg; cases hg
theorem Own.keep (h : Own e w base g v xs) (hk : w'.heap[g]? = w.heap[g]?) : Own e w' base g v xs := by
  obtain ⟨cap, cur, fz, h1, h2, h3, h4⟩ := h
  exact ⟨cap, cur, fz, h1, h2, hk.trans h3, h4⟩
theorem Own.alloc (h : Own e w base g v xs) (o : Obj) : Own e (w.alloc o) base g v xs := h.keep (Below.heap_alloc w o g h.lt)
theorem Own.drewN (h : Own e w base g v xs) (n : Nat) : Own e (w.drewN n) base g v xs := h.keep rfl
theorem Own.below {B : Nat} (h : Own e w base g v xs) (hb : Below B w w') (hg : g < B) : Own e w' base g v xs := h.keep (hb.block g hg)
theorem Own.mono {b : Nat} (h : Own e w base g v xs) (hb : b ≤ base) : Own e w b g v xs := by
  obtain ⟨cap, cur, fz, h1, h2, h3⟩ := h
  exact ⟨cap, cur, fz, h1, Nat.le_trans hb h2, h3⟩
theorem Own.cell (h : Own e w base g v xs) (j : Nat) (hj : j < xs.length) : w.cell? ⟨g, j, none⟩ = some xs[j] := by
  obtain ⟨cap, cur, fz, _, _, hg, _, _, _, _, ht⟩ := h
  have e1 : w.cell? ⟨g, j, none⟩ = cur[j]? := cell_of_block hg j
  rw [e1]
  have e2 : (cur.toList.take xs.length)[j]? = cur[j]? := by
    rw [List.getElem?_take, if_pos hj]
    simp
  rw [← e2, ht, List.getElem?_eq_getElem hj]
theorem Own.free (h : Own e w base g v xs) (j : Nat) (hj : j < xs.length) : w.frozen? ⟨g, j, none⟩ = false := by
  obtain ⟨cap, cur, fz, _, _, hg, hf, hn, _⟩ := h
  obtain ⟨lo, hi⟩ := fz
  simp only [World.frozen?, hg]
  simp only at hf
  rw [Bool.and_eq_false_iff]
  rcases hf with hf | hf
  · right; simp; omega
  · left; simp; omega
theorem Own.set (h : Own e w base g v xs) (j : Nat) (_hj : j < xs.length) (u : Value) : Own e (w.setCell ⟨g, j, none⟩ u) base g v (xs.set j u) := by
  obtain ⟨cap, cur, fz, h1, h2, hg, h4, h5, h6, h7, ht⟩ := h
  refine ⟨cap, cur.setIfInBounds j u, fz, ?_, h2, block_setCell (i := j) hg u, h4, ?_, h6, ?_, ?_⟩
  · rw [List.length_set]; exact h1
  · rw [List.length_set]; exact h5
  · simpa using h7
  · rw [List.length_set, Array.toList_setIfInBounds, List.take_set, ht]

theorem own_of_ownsRow {n : Nat} {b : Nat} (h : w.ownsRow b e 1 v n xs) (hn : 0 < n) : ∃ g, b ≤ g ∧ Own e w b g v xs := by
  obtain ⟨hl, hh⟩ := h
  have hl' : xs.length = n := by simpa using hl
  rcases hh with ⟨_, h0⟩ | ⟨g, cap, cur, hv, hb, hg, hnc, hcm, hcs, ht⟩
  · omega
  · refine ⟨g, hb, cap, cur, (0, 0), by rw [hl']; exact hv, hb, hg, .inl rfl, by omega, hcm, by simpa using hcs, ?_⟩
    rw [hl']; simpa using ht

/-- '[]byte(s)'. -/
theorem own_of_bytes (w : World) (e : TypeId) (s : ByteArray) (hs : s.size ≤ maxLen) (hb : base ≤ w.heap.size) :
    Own e (w.drew.alloc (.cells (bytesRow s (grownCap w s.size 0 e)) e ((bytesRow s (grownCap w s.size 0 e)).size, (bytesRow s (grownCap w s.size 0 e)).size + 1))) base w.heap.size (.slice (some ⟨w.heap.size, 0, none⟩) s.size (grownCap w s.size 0 e)) (s.data.toList.map fun b => .int .u8 b.toNat) := by
  have hl : (s.data.toList.map fun b => Value.int .u8 (b.toNat : Int)).length = s.size := by simp
  have hsz : (bytesRow s (grownCap w s.size 0 e)).size = grownCap w s.size 0 e := by
    have := grownCap_ge w s.size 0 e
    simp [bytesRow]
    omega
  refine ⟨grownCap w s.size 0 e, _, _, by rw [hl], hb, heap_alloc_new w.drew _, .inr (by rw [hsz]; exact Nat.le_refl _), by rw [hl]; exact grownCap_ge w s.size 0 e, grownCap_le_maxLen w s.size 0 e hs, hsz, ?_⟩
  rw [hl]
  unfold bytesRow
  rw [Array.toList_append, List.take_append_of_le_length (by simp)]
  rw [List.take_of_length_le (by simp)]
  simp

variable {P : Program}

theorem run_append1 (t ty : TypeId) (i : TypeInfo) (z : Value) (bytes : Nat) (ht : P.underlying t = some (.slice e)) (hi : P.info? e = some i) (hz : i.zero = some z) (hs1 : i.size = 1) (hby : i.bytes = bytes) (hzs : z.cells.size = 1)
    (h : Own e w base g v xs) (ad : Addr) (c : Nat) (x : Value) (hx : w.cell? ad = some x) (hspot : ad.spot = none) (h1 : x.oneCell' = true) (h63 : xs.length + 1 ≤ maxLen) (hbytes : (xs.length + 1) * bytes ≤ 140737488355328) :
    ∃ g' v' w', (Builtin.append_ #[t, t] ty #[v, .slice (some ad) 1 c]).run P w = .ok v' w' ∧ Own e w' base g' v' (xs ++ [x]) ∧ (g' = g ∨ w.heap.size ≤ g') ∧ w.grownBy w' (some g) := by
  have hlt := h.lt
  obtain ⟨cap, cur, fz, hv, hb, hg, hf, hn, hcm, hcs, htk⟩ := id h
  have hnews : ∀ (j : Nat) (u : Value), [x][j]? = some u → w.cell? (ad.add j) = some u := by
    intro j u hj
    match j, hj with
    | 0, hj =>
      simp at hj
      subst hj
      obtain ⟨ab, ao, asp⟩ := ad
      simp only at hspot
      subst hspot
      simpa [Addr.add] using hx
  subst hv
  by_cases hroom : xs.length + 1 ≤ cap
  · have hc : ∀ j, j < [x].length → (w.cell? ⟨g, 0 + xs.length * i.size + j, none⟩).isSome = true := by
      intro j hj
      have : j = 0 := by simpa using hj
      subst this
      rw [hs1, show 0 + xs.length * 1 + 0 = xs.length by omega, cell_of_block hg, Array.getElem?_eq_getElem (by omega)]
      rfl
    have hfz : ∀ j, j < [x].length → w.frozen? ⟨g, 0 + xs.length * i.size + j, none⟩ = false := by
      intro j hj
      have : j = 0 := by simpa using hj
      subst this
      rw [hs1, show 0 + xs.length * 1 + 0 = xs.length by omega]
      obtain ⟨lo, hi'⟩ := fz
      simp only [World.frozen?, hg]
      simp only at hf
      rw [Bool.and_eq_false_iff]
      rcases hf with hf | hf
      · right; simp; omega
      · left; simp; omega
    have hr := run_append_room_cells (P := P) w t ty e i ht hi g 0 xs.length cap ad 1 c [x] (by simp [hs1]) hnews (by simpa using h1) hroom hc hfz
    rw [hs1, show 0 + xs.length * 1 = xs.length by omega] at hr
    refine ⟨g, _, _, hr, ?_, .inl rfl, ?_⟩
    · show Own e (w.setCell ⟨g, xs.length, none⟩ x) base g _ _
      refine ⟨cap, cur.setIfInBounds xs.length x, fz, by simp, hb, block_setCell (i := xs.length) hg x, hf, by simpa using hroom, hcm, by simpa using hcs, ?_⟩
      rw [Array.toList_setIfInBounds]
      rw [List.length_append, List.length_singleton]
      have hlen : xs.length < cur.toList.length := by simp; omega
      rw [List.take_succ_eq_append_getElem (by simpa using hlen)]
      rw [List.take_set, List.getElem_set_self]
      rw [htk, List.set_eq_of_length_le (by omega)]
    · show w.grownBy (w.setCell ⟨g, xs.length, none⟩ x) (some g)
      refine ⟨rfl, rfl, rfl, by simp, fun k hk hne => ?_⟩
      exact Below.heap_setCell w _ _ k (by simpa using hne)
  · obtain ⟨v', w', hrun, r1, r2⟩ := run_append_arg_grows (P := P) w t ty e i z 1 bytes ht hi hz hs1 hby hzs (by decide) ⟨g, 0, none⟩ xs.length cap xs (by simp) (fun j u hj => by
      have hj' : j < xs.length := by
        rcases Nat.lt_or_ge j xs.length with k | k
        · exact k
        · rw [List.getElem?_eq_none k] at hj; cases hj
      rw [List.getElem?_eq_getElem hj'] at hj
      have := h.cell j hj'
      rw [Addr.add_lit, Nat.zero_add, this, hj]) ad 1 c [x] (by simp) hnews (by omega) h63 hbytes
    obtain ⟨g', hg', ho⟩ := own_of_ownsRow r1 (by omega)
    refine ⟨g', v', w', hrun, ho.mono ?_, .inr hg', ?_⟩
    · omega
    · obtain ⟨a1, a2, a3, a4, a5⟩ := r2
      exact ⟨a1, a2, a3, a4, fun k hk _ => a5 k hk (by simp)⟩

/-- 'append(v, x)', for the walk. -/
theorem wpList_append1 {ops : Array Oper} {rest : List Oper} {o : Oper} {a : Act} {Q : Exit → Act → World → Prop} (hgd : o.guard = none) (s y : Operand) (t : TypeId)
    (hop : o.op = .call { callee := .builtin .append, args := #[s, y], argTypes := #[t, t] })
    (i : TypeInfo) (z : Value) (bytes : Nat) (ht : P.underlying t = some (.slice e)) (hi : P.info? e = some i) (hz : i.zero = some z) (hs1 : i.size = 1) (hby : i.bytes = bytes) (hzs : z.cells.size = 1)
    (hs : a.eval s = v) (h : Own e w base g v xs) (ad : Addr) (c : Nat) (x : Value) (hy : a.eval y = .slice (some ad) 1 c) (hx : w.cell? ad = some x) (hspot : ad.spot = none) (h1 : x.oneCell' = true) (h63 : xs.length + 1 ≤ maxLen) (hbytes : (xs.length + 1) * bytes ≤ 140737488355328)
    (hK : ∀ g' v' w', Own e w' base g' v' (xs ++ [x]) → (g' = g ∨ w.heap.size ≤ g') → w.grownBy w' (some g) → wpList P ops Q rest (a.put o.dst v') w') : wpList P ops Q (o :: rest) a w := by
  refine wpList_plain hgd fun K hK' => ?_
  obtain ⟨g', v', w', hrun, r1, r2, r3⟩ := run_append1 (P := P) t o.type i z bytes ht hi hz hs1 hby hzs h ad c x hx hspot h1 h63 hbytes
  unfold Oper.wp
  simp [execOp, hop, resolve, invoke, builtin, hs, hy, hrun, Result.andThen]
  exact hK' _ _ (hK g' v' w' r1 r2 r3)

/-- 'string(v)', v bytes. -/
theorem own_string (zs : List Int) (src dst : TypeId) (hsrc : P.underlying src = some (.slice e)) (he : P.underlying e = some (.int .u8)) (hd : P.underlying dst = some .string) (h : Own e w base g v (zs.map (Value.int .u8))) :
    (convert src dst v).run P w = .ok (.string (strOfNums zs)) w := by
  obtain ⟨cap, hv⟩ := h.form
  subst hv
  refine run_convert_bytes_arg w src e hsrc he g 0 _ cap zs (by simp) (fun i hi => ?_) dst hd
  have hc := h.cell i (by simpa using hi)
  have hi' : i < zs.length := by simpa using hi
  rw [Nat.zero_add, hc]
  simp [hi']

end
end Go.Proofs.YtbcnlggkoidmmaaGreatDoor

namespace Go.Proofs.YtbcnlggkoidmmaaGreatDoor
open Go.RowKit Go.Joins

/-- Block b is a cursor over bytes that lie below 'base'. -/
def Cur (w : World) (base b : Nat) : Prop :=
  ∃ a len cap i h, w.heap[b]? = some (.cells #[.slice a len cap, .int .i64 i, .int .i64 h] 114 (0, 0)) ∧ base ≤ b ∧ 0 ≤ i ∧ i ≤ len ∧ len ≤ 1048576 ∧ CodeAt w base a len

theorem Cur.lt {w : World} {base b : Nat} (h : Cur w base b) : b < w.heap.size := by
  obtain ⟨a, len, cap, i, h, hb, _⟩ := h
  rcases Nat.lt_or_ge b w.heap.size with k | k
  · exact k
  · rw [Array.getElem?_eq_none k] at hb; cases hb
theorem Cur.base_le {w : World} {base b : Nat} (h : Cur w base b) : base ≤ b := by
  obtain ⟨a, len, cap, i, h, _, hb, _⟩ := h
  exact hb
/-- A cursor stays one where its block and all below 'base' stay. -/
theorem Cur.keep {w w' : World} {base b : Nat} (h : Cur w base b) (hk : w'.heap[b]? = w.heap[b]?) (hb : Below base w w') : Cur w' base b := by
  obtain ⟨a, len, cap, i, h, h1, h2, h3, h4, h5, h6⟩ := h
  exact ⟨a, len, cap, i, h, hk.trans h1, h2, h3, h4, h5, h6.below hb⟩
theorem Cur.alloc {w : World} {base b : Nat} (h : Cur w base b) (o : Obj) : Cur (w.alloc o) base b :=
  h.keep (Below.heap_alloc w o b h.lt) ((Below.refl _ _).alloc (by have := h.lt; have := h.base_le; omega) o)
theorem Cur.setCell {w : World} {base b : Nat} (h : Cur w base b) (p : Addr) (v : Value) (hne : p.block ≠ b) (hp : base ≤ p.block) : Cur (w.setCell p v) base b :=
  h.keep (Below.heap_setCell w p v b (Ne.symm hne)) ((Below.refl _ _).setCell hp v)
theorem Cur.grown {w w' : World} {base b : Nat} {row : Option Nat} (h : Cur w base b) (hg : w.grownBy w' row) (hne : row ≠ some b) (hr : ∀ k, row = some k → base ≤ k) : Cur w' base b :=
  h.keep (hg.block b h.lt (Ne.symm hne)) ((Below.refl _ _).grown hg (by have := h.lt; have := h.base_le; omega) hr)

theorem grown_refl (w : World) (row : Option Nat) : w.grownBy w row := ⟨rfl, rfl, rfl, Nat.le_refl _, fun _ _ _ => rfl⟩
theorem grown_trans {a b c : World} {row : Option Nat} (h : a.grownBy b row) (k : b.grownBy c row) : a.grownBy c row :=
  ⟨k.os.trans h.os, k.tape.trans h.tape, k.output.trans h.output, Nat.le_trans h.size k.size, fun i hi hne => (k.block i (Nat.lt_of_lt_of_le hi h.size) hne).trans (h.block i hi hne)⟩
theorem grown_drewN {a b : World} {row : Option Nat} (h : a.grownBy b row) (n : Nat) : a.grownBy (b.drewN n) row := ⟨h.os, h.tape, h.output, h.size, h.block⟩
theorem grown_set {a b : World} {g : Nat} (h : a.grownBy b (some g)) (i : Nat) (v : Value) : a.grownBy (b.setCell ⟨g, i, none⟩ v) (some g) :=
  ⟨h.os, h.tape, h.output, by simpa using h.size, fun k hk hne => (Below.heap_setCell b _ v k (by simpa using hne)).trans (h.block k hk hne)⟩
theorem below_of_grown {w w' : World} {base b : Nat} (h : w.grownBy w' (some b)) (h1 : base ≤ b) (h2 : b < w.heap.size) : Below base w w' :=
  (Below.refl _ _).grown h (by omega) (fun k hk => by cases hk; exact h1)

theorem Cur.drew {w : World} {base b : Nat} (h : Cur w base b) : Cur w.drew base b := h.keep rfl ⟨rfl, rfl, rfl, Nat.le_refl _, fun _ _ => rfl⟩

theorem and255 (x : Int) : 0 ≤ bits .and .i64 x 255 ∧ bits .and .i64 x 255 ≤ 255 := by
  have h2 : (BitVec.ofInt 64 (255 : Int)).toNat = 255 := by decide
  have e : bits .and .i64 x 255 = IntKind.i64.wrap ((BitVec.ofInt 64 x &&& BitVec.ofInt 64 (255 : Int)).toNat : Int) := rfl
  rw [e, BitVec.toNat_and, h2, IntKind.wrap_i64]
  have : (BitVec.ofInt 64 x).toNat &&& 255 ≤ 255 := Nat.and_le_right
  omega

section
variable {w : World} {base b : Nat} {a : Option Addr} {len cap : Nat} {i h : Int}
theorem cur_next {n : Nat} (hb : w.heap[b]? = some (.cells #[.slice a len cap, .int .i64 n, .int .i64 h] 114 (0, 0))) (hk : CodeAt w base a len) (hbase : base ≤ b) (hn : n + 1 ≤ len) (hlen : len ≤ 1048576) (z : Int) (q : Nat) :
    Cur (((w.setCell ⟨b, 2, none⟩ (.int .i64 z)).drewN q).setCell ⟨b, 1, none⟩ (.int .i64 ((n : Int) + 1))) base b := by
  have h1 := block_setCell (i := 2) hb (.int .i64 z)
  have h2 := block_setCell (w := (w.setCell ⟨b, 2, none⟩ (.int .i64 z)).drewN q) (i := 1) h1 (.int .i64 ((n : Int) + 1))
  refine ⟨a, len, cap, (n : Int) + 1, z, ?_, hbase, by omega, by omega, hlen, ?_⟩
  · simp at h2
    exact h2
  · exact hk.below ((((Below.refl base w).setCell (p := ⟨b, 2, none⟩) hbase _).trans (below_draws _ _ _)).setCell hbase _)
theorem cur_stay (hb : w.heap[b]? = some (.cells #[.slice a len cap, .int .i64 i, .int .i64 h] 114 (0, 0))) (hk : CodeAt w base a len) (hbase : base ≤ b) (h0 : 0 ≤ i) (hi : i ≤ len) (hlen : len ≤ 1048576) (z : Int) (q q' : Nat) :
    Cur (((w.setCell ⟨b, 2, none⟩ (.int .i64 z)).drewN q).drewN q') base b := by
  have h1 := block_setCell (i := 2) hb (.int .i64 z)
  refine ⟨a, len, cap, i, z, ?_, hbase, h0, hi, hlen, ?_⟩
  · simp at h1
    exact h1
  · exact hk.below (((Below.refl base w).setCell (p := ⟨b, 2, none⟩) hbase _).trans ((below_draws _ _ _).trans (below_draws _ _ _)))
end

set_option maxHeartbeats 800000 in
theorem draw_byte (base b : Nat) (w : World) (hC : Cur w base b) :
    Calls Tryz.prog 29 #[.pointer (some ⟨b, 0, none⟩)] w fun e w' => ∃ x : Int, e = .returned (.int .i64 x) ∧ 0 ≤ x ∧ x ≤ 255 ∧ Cur w' base b ∧ w.grownBy w' (some b) := by
  obtain ⟨a, len, cap, i, h, hb, hbase, hi0, hil, hlen, hcode⟩ := id hC
  have c0 : w.cell? ⟨b, 0, none⟩ = some (.slice a len cap) := cell_of_block hb 0
  have c1 : w.cell? ⟨b, 1, none⟩ = some (.int .i64 i) := cell_of_block hb 1
  have c2 : w.cell? ⟨b, 2, none⟩ = some (.int .i64 h) := cell_of_block hb 2
  have cf : ∀ j, w.frozen? ⟨b, j, none⟩ = false := unfrozen_of_block hb
  have HC : Hid (Cur w base b) := hC
  have HB : Hid (w.heap[b]? = some (.cells #[.slice a len cap, .int .i64 i, .int .i64 h] 114 (0, 0))) := hb
  have HK : Hid (CodeAt w base a len) := hcode
  clear hC hb hcode
  by_cases hlt : i < (len : Int)
  · obtain ⟨n, rfl⟩ := Int.eq_ofNat_of_zero_le hi0
    rcases HK.out with h0 | ⟨bc, off, rfl, hbc, hcs⟩
    · omega
    · obtain ⟨y, hy, hy0, hy1⟩ := hcs n (by omega)
      have hne : ¬ bc = b := by omega
      have d : decide ((n : Int) < (len : Int)) = true := by simpa using hlt
      clear hcs
      go_enter Tryz.func29, Tryz.ntmps29
      go_wp2
      go_quiet (fail)
      go_wp2
      go_quiet (fail)
      go_wp2
      go_quiet (fail)
      go_wp2
      go_ret
      refine ⟨_, rfl, (and255 _).1, (and255 _).2, cur_next HB.out HK.out hbase (by omega) hlen _ _, ?_⟩
      exact grown_set (grown_drewN (grown_set (grown_refl _ _) _ _) _) _ _
  · have d : decide (i < (len : Int)) = false := by simpa using hlt
    go_enter Tryz.func29, Tryz.ntmps29
    go_wp2
    go_quiet (fail)
    go_wp2
    go_quiet (fail)
    go_wp2
    go_ret
    refine ⟨_, rfl, (and255 _).1, (and255 _).2, cur_stay HB.out HK.out hbase hi0 hil hlen _ _ _, ?_⟩
    exact grown_drewN (grown_drewN (grown_set (grown_refl _ _) _ _) _) _

/-- A drawn number: in 0 .. n - 1; 0 where n is not above 0. -/
def InBelow (x n : Int) : Prop := 0 ≤ x ∧ (0 < n → x < n) ∧ (n ≤ 0 → x = 0)

theorem rem_bd (x n : Int) (hn : 0 < n) : InBelow (x % n) n := by
  exact ⟨Int.emod_nonneg _ (by omega), fun _ => Int.emod_lt_of_pos _ hn, fun h => by omega⟩

set_option maxHeartbeats 800000 in
theorem draw_below (base b : Nat) (n : Int) (w : World) (hC : Cur w base b) :
    Calls Tryz.prog 27 #[.pointer (some ⟨b, 0, none⟩), .int .i64 n] w fun e w' => ∃ x : Int, e = .returned (.int .i64 x) ∧ InBelow x n ∧ Cur w' base b ∧ w.grownBy w' (some b) := by
  have HC : Hid (Cur w base b) := hC
  clear hC
  by_cases h0 : n ≤ 0
  · go_enter Tryz.func27, Tryz.ntmps27
    go_wp2_with fail
    go_ret
    exact ⟨0, rfl, ⟨Int.le_refl _, fun h => by omega, fun _ => rfl⟩, HC.out, grown_refl _ _⟩
  · by_cases h1 : n ≤ 256
    · have hn : ¬ n = 0 := by omega
      go_enter Tryz.func27, Tryz.ntmps27
      go_wp2_with fail
      refine (draw_byte base b _ HC.out).mono ?_
      rintro e w1 ⟨x, rfl, hx0, hx1, hC1, hg1⟩
      have HC1 : Hid (Cur w1 base b) := hC1
      clear hC1
      go_wp2_with fail
      go_ret
      exact ⟨_, rfl, rem_bd _ n (by omega), HC1.out, hg1⟩
    · have hn : ¬ n = 0 := by omega
      go_enter Tryz.func27, Tryz.ntmps27
      go_wp2_with fail
      refine (draw_byte base b _ HC.out).mono ?_
      rintro e w1 ⟨x1, rfl, hx0, hx1, hC1, hg1⟩
      have HC1 : Hid (Cur w1 base b) := hC1
      clear hC1
      go_wp2_with fail
      refine (draw_byte base b _ HC1.out).mono ?_
      rintro e w2 ⟨x2, rfl, hy0, hy1, hC2, hg2⟩
      have HC2 : Hid (Cur w2 base b) := hC2
      clear hC2
      go_wp2_with fail
      refine (draw_byte base b _ HC2.out).mono ?_
      rintro e w3 ⟨x3, rfl, hz0, hz1, hC3, hg3⟩
      have HC3 : Hid (Cur w3 base b) := hC3
      clear hC3
      go_wp2_with fail
      refine (draw_byte base b _ HC3.out).mono ?_
      rintro e w4 ⟨x4, rfl, hu0, hu1, hC4, hg4⟩
      have HC4 : Hid (Cur w4 base b) := hC4
      clear hC4
      go_wp2_with fail
      go_ret
      exact ⟨_, rfl, rem_bd _ n (by omega), HC4.out, grown_trans (grown_trans (grown_trans hg1 hg2) hg3) hg4⟩

set_option maxHeartbeats 800000 in
theorem draw_new (a : Option Addr) (len cap : Nat) (base : Nat) (w : World) (hK : CodeAt w base a len) (hlen : len ≤ 1048576) (hbase : base ≤ w.heap.size) :
    Calls Tryz.prog 25 #[.slice a len cap] w fun e w' => e = .returned (.pointer (some ⟨w.heap.size, 0, none⟩)) ∧ Cur w' base w.heap.size ∧ (∃ o, w' = w.alloc o) := by
  have HK : Hid (CodeAt w base a len) := hK
  clear hK
  go_enter Tryz.func25, Tryz.ntmps25
  go_wp2_with fail
  go_loop [3, 4] (fun h i => ∃ (z : Int) (j : Nat), j ≤ len ∧ i = .int .i64 j ∧ h = .int .i64 z) (fun _ i => len - (intOf i).toNat)
  case atStart => exact ⟨_, 0, Nat.zero_le _, rfl, rfl⟩
  case round =>
    obtain ⟨z, j, hj, rfl, rfl⟩ := hrel
    by_cases hlt : j < len
    · rcases HK.out with h0 | ⟨bc, off, rfl, hbc, hcs⟩
      · omega
      · obtain ⟨y, hy, hy0, hy1⟩ := hcs j hlt
        have d1 : decide ((j : Int) < (len : Int)) = true := by simp; omega
        clear hcs
        by_cases h4 : (j : Int) < 4000
        · go_wp2_with fail
          go_round
          case rel => exact ⟨_, j + 1, by omega, by go_num, rfl⟩
          case measure => simp [intOf]; omega
        · go_wp2_with fail
          go_ret
          exact ⟨rfl, ⟨_, len, cap, 0, _, heap_alloc_new w _, hbase, by omega, by omega, hlen, HK.out.below ((Below.refl _ _).alloc hbase _)⟩, _, rfl⟩
    · have d1 : decide ((j : Int) < (len : Int)) = false := by simp; omega
      go_wp2_with fail
      go_ret
      exact ⟨rfl, ⟨_, len, cap, 0, _, heap_alloc_new w _, hbase, by omega, by omega, hlen, HK.out.below ((Below.refl _ _).alloc hbase _)⟩, _, rfl⟩

theorem big_no (a : Option Addr) (len cap : Nat) (w : World) (h : (len : Int) ≤ 1048576) :
    Calls Tryz.prog 6 #[.slice a len cap] w fun e w' => e = .returned (.bool false) ∧ w' = w := by
  have d : decide ((1048576 : Int) < (len : Int)) = false := by simp; omega
  go_enter Tryz.func6, Tryz.ntmps6
  go_wp2
  go_ret
  exact ⟨rfl, rfl⟩

theorem big_yes (a : Option Addr) (len cap : Nat) (w : World) (h : (1048576 : Int) < len) (_h63 : (len : Int) ≤ 9223372036854775807) :
    Calls Tryz.prog 6 #[.slice a len cap] w fun e w' => e = .returned (.bool true) ∧ w' = w := by
  have d : decide ((1048576 : Int) < (len : Int)) = true := by simpa using h
  go_enter Tryz.func6, Tryz.ntmps6
  go_wp2
  go_ret
  exact ⟨rfl, rfl⟩
end Go.Proofs.YtbcnlggkoidmmaaGreatDoor

namespace Go.Proofs.YtbcnlggkoidmmaaGreatDoor
open Go.RowKit Go.Joins

def DL (e : TypeId) (w0 w : World) (base b g cap : Nat) (vs : List Value) : Prop :=
  Cur w base b ∧ Own e w base g (.slice (some ⟨g, 0, none⟩) vs.length cap) vs ∧ g ≠ b ∧ Below base w0 w

section
variable {e : TypeId} {w0 w w' : World} {base b g cap : Nat} {vs : List Value}
theorem DL.start (hC : Cur w base b) (hB : Below base w0 w) (e : TypeId) : DL e w0 (w.alloc (.cells #[] e)) base b w.heap.size 0 [] := by
  have hl := hC.lt
  have hb := hC.base_le
  refine ⟨hC.alloc _, ⟨0, #[], (0, 0), rfl, by omega, heap_alloc_new w _, .inl rfl, Nat.le_refl _, Nat.zero_le _, rfl, rfl⟩, by omega, hB.alloc (by omega) _⟩
theorem DL.drawn (h : DL e w0 w base b g cap vs) (hg : w.grownBy w' (some b)) (hC : Cur w' base b) : DL e w0 w' base b g cap vs := by
  obtain ⟨h1, h2, h3, h4⟩ := h
  exact ⟨hC, h2.keep (hg.block g h2.lt (by simpa using h3)), h3, h4.trans (below_of_grown hg h1.base_le h1.lt)⟩
/-- Behind a call that turned nothing old. -/
theorem DL.called (h : DL e w0 w base b g cap vs) (hb : Below w.heap.size w w') : DL e w0 w' base b g cap vs := by
  obtain ⟨h1, h2, h3, h4⟩ := h
  have l1 := h1.lt
  have l2 := h2.lt
  have lb := h1.base_le
  exact ⟨h1.keep (hb.block b l1) (hb.mono (by omega)), h2.below hb l2, h3, h4.trans (hb.mono (by omega))⟩
theorem DL.app (h : DL e w0 w base b g cap vs) {o : Obj} {x : Value} {g' : Nat} {u : Value} (hO : Own e w' base g' u (vs ++ [x])) (hg : g' = g ∨ w.heap.size + 1 ≤ g') (hgr : (w.alloc o).grownBy w' (some g)) :
    ∃ c', u = .slice (some ⟨g', 0, none⟩) (vs.length + 1) c' ∧ DL e w0 w' base b g' c' (vs ++ [x]) := by
  obtain ⟨h1, h2, h3, h4⟩ := h
  have l1 := h1.lt
  have l2 := h2.lt
  have hb := h1.base_le
  obtain ⟨c', hu⟩ := hO.form
  have hsz : (w.alloc o).heap.size = w.heap.size + 1 := by simp
  rw [hu] at hO
  refine ⟨c', by rw [hu]; simp, (h1.alloc o).grown hgr (by simpa using h3) (fun k hk => by cases hk; exact h2.base_le), hO, ?_, ?_⟩
  · rcases hg with rfl | hg
    · exact h3
    · omega
  · exact (h4.alloc (by omega) o).grown hgr (by rw [hsz]; omega) (fun k hk => by cases hk; exact h2.base_le)
theorem DL.set (h : DL e w0 w base b g cap vs) (j : Nat) (hj : j < vs.length) (u : Value) : DL e w0 (w.setCell ⟨g, j, none⟩ u) base b g cap (vs.set j u) := by
  obtain ⟨h1, h2, h3, h4⟩ := h
  have h5 := h2.set j hj u
  refine ⟨h1.setCell _ _ h3 h2.base_le, by rw [List.length_set]; exact h5, h3, Below.setCell (p := ⟨g, j, none⟩) h4 h2.base_le _⟩
theorem DL.cell (h : DL e w0 w base b g cap vs) (j : Nat) (hj : j < vs.length) : w.cell? ⟨g, j, none⟩ = some vs[j] := h.2.1.cell j hj
theorem DL.free (h : DL e w0 w base b g cap vs) (j : Nat) (hj : j < vs.length) : w.frozen? ⟨g, j, none⟩ = false := h.2.1.free j hj
theorem DL.drew (h : DL e w0 w base b g cap vs) : DL e w0 w.drew base b g cap vs := by
  obtain ⟨h1, h2, h3, h4⟩ := h
  exact ⟨h1.drew, h2.drewN 1, h3, h4.drew⟩
theorem DL.below (h : DL e w0 w base b g cap vs) : Below base w0 w := h.2.2.2
theorem DL.own (h : DL e w0 w base b g cap vs) : Own e w base g (.slice (some ⟨g, 0, none⟩) vs.length cap) vs := h.2.1
theorem DL.cur (h : DL e w0 w base b g cap vs) : Cur w base b := h.1
end

/-- The numbers of a list, as cells. -/
def i64s (zs : List Int) : List Value := zs.map (Value.int .i64)
theorem i64s_length (zs : List Int) : (i64s zs).length = zs.length := List.length_map _
theorem i64s_app (zs : List Int) (x : Int) : i64s zs ++ [.int .i64 x] = i64s (zs ++ [x]) := by simp [i64s]
theorem i64s_get (zs : List Int) (j : Nat) (h : j < (i64s zs).length) : (i64s zs)[j] = .int .i64 (zs.getD j 0) := by
  have h' : j < zs.length := by rw [← i64s_length]; exact h
  simp [i64s, List.getD_eq_getElem?_getD, List.getElem?_eq_getElem h']
end Go.Proofs.YtbcnlggkoidmmaaGreatDoor
