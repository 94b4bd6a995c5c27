/-
  'append' of several values to a slice of the call's own, whatever of its block is frozen behind its room.
-/
import Derived.Test.YtofblofmejgipaaOwnLib
import Derived.WalkKit
import Derived.Below
import Derived.ArgAppend
import Derived.Laws.IdiomStrings
import Derived.Laws.BytesArg
import Derived.Lib.AppendStr
import Derived.Lib.SmallJoins
namespace Go.Proofs.Ytofblofmejgipaa
open Go.RowKit Go.Joins

def putAll (cur : Array Value) : Nat → List Value → Array Value
  | _, [] => cur
  | o, v :: r => putAll (cur.setIfInBounds o v) (o + 1) r
theorem putAll_size : ∀ (vs : List Value) (o : Nat) (cur : Array Value), (putAll cur o vs).size = cur.size
  | [], _, _ => rfl
  | v :: r, o, cur => by
    show (putAll (cur.setIfInBounds o v) (o + 1) r).size = _
    rw [putAll_size r]
    simp
theorem putAll_take : ∀ (vs : List Value) (o : Nat) (cur : Array Value), o + vs.length ≤ cur.size → (putAll cur o vs).toList.take (o + vs.length) = cur.toList.take o ++ vs
  | [], o, cur, _ => by simp [putAll]
  | v :: r, o, cur, h => by
    have hl : o < cur.toList.length := by simp at h ⊢; omega
    have e := putAll_take r (o + 1) (cur.setIfInBounds o v) (by simp at h ⊢; omega)
    show (putAll (cur.setIfInBounds o v) (o + 1) r).toList.take (o + (r.length + 1)) = _
    rw [show o + (r.length + 1) = o + 1 + r.length by omega, e, Array.toList_setIfInBounds, List.take_succ_eq_append_getElem (by simpa using hl), List.take_set, List.getElem_set_self, List.set_eq_of_length_le (by simp; omega), List.append_assoc]
    rfl
theorem block_setCells {e : TypeId} {fz : Nat × Nat} {g : Nat} : ∀ (vs : List Value) (o : Nat) (w : World) (cur : Array Value), w.heap[g]? = some (.cells cur e fz) → (w.setCells g o vs).heap[g]? = some (.cells (putAll cur o vs) e fz)
  | [], _, _, _, h => h
  | v :: r, o, _, _, h => block_setCells r (o + 1) _ _ (block_setCell (i := o) h v)
theorem other_setCells {g k : Nat} (hk : k ≠ g) : ∀ (vs : List Value) (o : Nat) (w : World), (w.setCells g o vs).heap[k]? = w.heap[k]?
  | [], _, _ => rfl
  | _ :: r, o, w => (other_setCells hk r (o + 1) _).trans (Below.heap_setCell w _ _ k hk)
theorem size_setCells {g : Nat} : ∀ (vs : List Value) (o : Nat) (w : World), (w.setCells g o vs).heap.size = w.heap.size ∧ (w.setCells g o vs).os = w.os ∧ (w.setCells g o vs).tape = w.tape ∧ (w.setCells g o vs).output = w.output
  | [], _, _ => ⟨rfl, rfl, rfl, rfl⟩
  | v :: r, o, w => by
    obtain ⟨h1, h2, h3, h4⟩ := size_setCells r (o + 1) (w.setCell ⟨g, o, none⟩ v)
    exact ⟨h1.trans (by simp), h2, h3, h4⟩

section
variable {e : TypeId} {w : World} {base g : Nat} {v : Value} {xs : List Value} {P : Program}
theorem run_appendN (t ty : TypeId) (i : TypeInfo) (z : Value) (bytes : Nat) (ht : P.underlying t = some (.slice e)) (hi : P.info? e = some i) (hz : i.zero = some z) (hs1 : i.size = 1) (hby : i.bytes = bytes) (hzs : z.cells.size = 1)
    (h : Own e w base g v xs) (ad : Addr) (m c : Nat) (ys : List Value) (hm : m = ys.length) (hm1 : 1 ≤ m) (hnews : ∀ (j : Nat) (u : Value), ys[j]? = some u → w.cell? (ad.add j) = some u) (h1 : ∀ u ∈ ys, u.oneCell' = true) (h63 : xs.length + m ≤ maxLen) (hbytes : (xs.length + m) * bytes ≤ 140737488355328) :
    ∃ g' v' w', (Builtin.append_ #[t, t] ty #[v, .slice (some ad) m c]).run P w = .ok v' w' ∧ Own e w' base g' v' (xs ++ ys) ∧ (g' = g ∨ w.heap.size ≤ g') ∧ w.grownBy w' (some g) := by
  have hlt := h.lt
  obtain ⟨cap, cur, fz, hv, hb, hg, hf, hn, hcm, hcs, htk⟩ := id h
  subst hv
  by_cases hroom : xs.length + m ≤ cap
  · have hc : ∀ j, j < ys.length → (w.cell? ⟨g, 0 + xs.length * i.size + j, none⟩).isSome = true := by
      intro j hj
      rw [hs1, cell_of_block hg, Array.getElem?_eq_getElem (by omega)]
      rfl
    have hfz : ∀ j, j < ys.length → w.frozen? ⟨g, 0 + xs.length * i.size + j, none⟩ = false := by
      intro j hj
      rw [hs1]
      obtain ⟨lo, hi'⟩ := fz
      simp only [World.frozen?, hg]
      simp only at hf
      rw [Bool.and_eq_false_iff]
      rcases hf with hf | hf
      · right; simp; omega
      · left; simp; omega
    have hr := run_append_room_cells (P := P) w t ty e i ht hi g 0 xs.length cap ad m c ys (by simp [hs1, hm]) hnews h1 hroom hc hfz
    rw [hs1, show 0 + xs.length * 1 = xs.length by omega] at hr
    obtain ⟨k1, k2, k3, k4⟩ := size_setCells (g := g) ys xs.length w
    refine ⟨g, _, _, hr, ?_, .inl rfl, ⟨k2, k3, k4, by omega, fun k hk hne => other_setCells (fun q => hne (by rw [q])) ys _ _⟩⟩
    refine ⟨cap, putAll cur xs.length ys, fz, by rw [List.length_append, hm], hb, block_setCells ys _ _ _ hg, hf, by rw [List.length_append]; omega, hcm, by rw [putAll_size]; exact hcs, ?_⟩
    rw [List.length_append, putAll_take _ _ _ (by omega), htk]
  · obtain ⟨v', w', hrun, r1, r2⟩ := run_append_arg_grows (P := P) w t ty e i z 1 bytes ht hi hz hs1 hby hzs (by decide) ⟨g, 0, none⟩ xs.length cap xs (by simp) (fun j u hj => by
      have hj' : j < xs.length := by
        rcases Nat.lt_or_ge j xs.length with k | k
        · exact k
        · rw [List.getElem?_eq_none k] at hj; cases hj
      rw [List.getElem?_eq_getElem hj'] at hj
      have := h.cell j hj'
      rw [Addr.add_lit, Nat.zero_add, this, hj]) ad m c ys (by omega) hnews (by omega) h63 hbytes
    obtain ⟨g', hg', ho⟩ := own_of_ownsRow r1 (by omega)
    refine ⟨g', v', w', hrun, ho.mono ?_, .inr hg', ?_⟩
    · omega
    · obtain ⟨a1, a2, a3, a4, a5⟩ := r2
      exact ⟨a1, a2, a3, a4, fun k hk _ => a5 k hk (by simp)⟩
/-- 'append(v, ys...)', as an operation that a drawn region carries out. -/
theorem wp_appendN {o : Oper} {a : Act} {K : Act → World → Prop} {Q : Exit → Act → World → Prop} (s y : Operand) (t : TypeId)
    (hop : o.op = .call { callee := .builtin .append, args := #[s, y], argTypes := #[t, t] })
    (i : TypeInfo) (z : Value) (bytes : Nat) (ht : P.underlying t = some (.slice e)) (hi : P.info? e = some i) (hz : i.zero = some z) (hs1 : i.size = 1) (hby : i.bytes = bytes) (hzs : z.cells.size = 1)
    (hs : a.eval s = v) (h : Own e w base g v xs) (ad : Addr) (m c : Nat) (ys : List Value) (hy : a.eval y = .slice (some ad) m c) (hm : m = ys.length) (hm1 : 1 ≤ m) (hnews : ∀ (j : Nat) (u : Value), ys[j]? = some u → w.cell? (ad.add j) = some u) (h1 : ∀ u ∈ ys, u.oneCell' = true) (h63 : xs.length + m ≤ maxLen) (hbytes : (xs.length + m) * bytes ≤ 140737488355328)
    (hK : ∀ g' v' w', Own e w' base g' v' (xs ++ ys) → (g' = g ∨ w.heap.size ≤ g') → w.grownBy w' (some g) → K (a.put o.dst v') w') : o.wp P a w K Q := by
  obtain ⟨g', v', w', hrun, r1, r2, r3⟩ := run_appendN (P := P) t o.type i z bytes ht hi hz hs1 hby hzs h ad m c ys hm hm1 hnews h1 h63 hbytes
  unfold Oper.wp
  simp [execOp, hop, resolve, invoke, builtin, hs, hy, hrun, Result.andThen]
  exact hK g' v' w' r1 r2 r3
open Go.Lib (strCells strCells_length strCells_oneCell run_firstCells_string run_append_grow_string) in
/-- 'append(v, s...)' of a text's bytes. -/
theorem run_appendS (t u ty : TypeId) (i : TypeInfo) (ht : P.underlying t = some (.slice e)) (hu : P.underlying u = some .string) (hi : P.info? e = some i) (hz : i.zero = some (.int .u8 0)) (hs1 : i.size = 1) (hby : i.bytes = 1)
    (h : Own e w base g v xs) (s : ByteArray) (h63 : xs.length + s.size ≤ maxLen) (hbytes : xs.length + s.size ≤ 140737488355328) :
    ∃ g' v' w', (Builtin.append_ #[t, u] ty #[v, .string s]).run P w = .ok v' w' ∧ Own e w' base g' v' (xs ++ strCells s) ∧ (g' = g ∨ w.heap.size ≤ g') ∧ w.grownBy w' (some g) := by
  have hlt := h.lt
  obtain ⟨cap, cur, fz, hv, hb, hg, hf, hn, hcm, hcs, htk⟩ := id h
  subst hv
  have hsl := strCells_length s
  by_cases hroom : xs.length + s.size ≤ cap
  · have hc : ∀ j, j < (strCells s).length → (w.cell? ⟨g, xs.length + j, none⟩).isSome = true := by
      intro j hj
      rw [cell_of_block hg, Array.getElem?_eq_getElem (by omega)]
      rfl
    have hfz : ∀ j, j < (strCells s).length → w.frozen? ⟨g, xs.length + j, none⟩ = false := by
      intro j hj
      obtain ⟨lo, hi'⟩ := fz
      simp only [World.frozen?, hg]
      simp only at hf
      rw [Bool.and_eq_false_iff]
      rcases hf with hf | hf
      · right; simp; omega
      · left; simp; omega
    have hfc := run_firstCells_string (P := P) w 1 s
    have hst := run_storeCells_cells (P := P) g xs.length (strCells s) 0 w (by simpa using hc) (by simpa using hfz) (strCells_oneCell s)
    simp only [Nat.add_zero] at hst
    have hr : (Builtin.append_ #[t, u] ty #[.slice (some ⟨g, 0, none⟩) xs.length cap, .string s]).run P w = .ok (.slice (some ⟨g, 0, none⟩) (xs.length + s.size) cap) (w.setCells g xs.length (strCells s)) := by
      simp [Builtin.append_, run_underlying ht, run_underlying hu, sizeOf, typeInfo, hi, hs1, Builtin.lenOf, hroom, hfc, Addr.add_lit, hst]
    obtain ⟨k1, k2, k3, k4⟩ := size_setCells (g := g) (strCells s) xs.length w
    refine ⟨g, _, _, hr, ?_, .inl rfl, ⟨k2, k3, k4, by omega, fun k hk hne => other_setCells (fun q => hne (by rw [q])) _ _ _⟩⟩
    refine ⟨cap, putAll cur xs.length (strCells s), fz, by rw [List.length_append, hsl], hb, block_setCells _ _ _ _ hg, hf, by rw [List.length_append]; omega, hcm, by rw [putAll_size]; exact hcs, ?_⟩
    rw [List.length_append, putAll_take _ _ _ (by omega), htk]
  · have hge := grownCap_ge w (xs.length + s.size) cap e
    have hr := run_append_grow_string (P := P) w t u ty e i (.int .u8 0) ht hu hi hz ⟨g, 0, none⟩ xs.length cap xs (by rw [hs1, Nat.mul_one]) (fun j u hj => by
      have hj' : j < xs.length := by
        rcases Nat.lt_or_ge j xs.length with k | k
        · exact k
        · rw [List.getElem?_eq_none k] at hj; cases hj
      rw [List.getElem?_eq_getElem hj'] at hj
      have := h.cell j hj'
      rw [Addr.add_lit, Nat.zero_add, this, hj]) s (by omega) (by unfold maxLen at h63; omega) (by rw [hby]; exact growslice_fits (by omega) (by omega))
    refine ⟨w.heap.size, _, _, hr, ⟨_, _, (0, 0), by rw [List.length_append, hsl], by omega, heap_alloc_new w.drew _, .inl rfl, by rw [List.length_append, hsl]; exact hge, grownCap_le_maxLen w _ cap e h63, ?_, ?_⟩, .inr (Nat.le_refl _), ⟨rfl, rfl, rfl, by simp, fun k hk _ => Below.heap_alloc w.drew _ k hk⟩⟩
    · have hz1 : (Value.int IntKind.u8 0).cells.size = 1 := rfl
      simp only [Array.size_append, List.size_toArray, size_zeroCells, hz1, hsl]
      omega
    · simp only [Array.toList_append, List.append_assoc]
      rw [← List.append_assoc]
      exact List.take_left
open Go.Lib (strCells) in
/-- .., for the walk. -/
theorem wpList_appendS {ops : Array Oper} {rest : List Oper} {o : Oper} {a : Act} {Q : Exit → Act → World → Prop} (hgd : o.guard = none) (sl y : Operand) (t u : TypeId)
    (hop : o.op = .call { callee := .builtin .append, args := #[sl, y], argTypes := #[t, u] })
    (i : TypeInfo) (ht : P.underlying t = some (.slice e)) (hu : P.underlying u = some .string) (hi : P.info? e = some i) (hz : i.zero = some (.int .u8 0)) (hs1 : i.size = 1) (hby : i.bytes = 1)
    (hs : a.eval sl = v) (h : Own e w base g v xs) (s : ByteArray) (hy : a.eval y = .string s) (h63 : xs.length + s.size ≤ maxLen) (hbytes : xs.length + s.size ≤ 140737488355328)
    (hK : ∀ g' v' w', Own e w' base g' v' (xs ++ strCells s) → (g' = g ∨ w.heap.size ≤ g') → w.grownBy w' (some g) → wpList P ops Q rest (a.put o.dst v') w') : wpList P ops Q (o :: rest) a w := by
  refine wpList_plain hgd fun K hK' => ?_
  obtain ⟨g', v', w', hrun, r1, r2, r3⟩ := run_appendS (P := P) t u o.type i ht hu hi hz hs1 hby h s h63 hbytes
  unfold Oper.wp
  simp [execOp, hop, resolve, invoke, builtin, hs, hy, hrun, Result.andThen]
  exact hK' _ _ (hK g' v' w' r1 r2 r3)

end

end Go.Proofs.Ytofblofmejgipaa
