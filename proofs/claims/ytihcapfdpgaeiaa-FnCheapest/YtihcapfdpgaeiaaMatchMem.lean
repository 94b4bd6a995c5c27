/-
  A map from three bytes to lists of numbers, by what list stands at which three bytes.
  The places at which three bytes stand, and the best repeat out of them, in plain numbers. Nothing here speaks of the program.
  What a matcher holds: the text, how many places are looked at, the map of the places, and how many stand ahead of each.
  Lists of numbers that a call made itself, one for each three bytes, and one besides: no two lie in one block.
-/
import Derived.Test.YtihcapfdpgaeiaaRows
import Derived.Test.YtihcapfdpgaeiaaBase
import Derived.Test.YtihcapfdpgaeiaaTokMath
import Derived.Test.YtihcapfdpgaeiaaSearchMath
import Derived.Test.YtihcapfdpgaeiaaIntsLib
import Derived.Test.YtihcapfdpgaeiaaTextLib
import Derived.WideKeyPair
import Derived.Maps.Keyed
import Derived.Laws.AppendOwn
import Derived.WalkKit
import Derived.Below
import Derived.Laws.OwnMore
import Derived.Deep.AppendLies
namespace Go.Proofs.Ytihcapfdpgaeiaa
open Go.RowKit Go.Maps Go.WideMaps
open Go.ChangeMaps (setBlock heap_setBlock_same heap_setBlock_other modify_eq_set)

/-- The key of three bytes. -/
abbrev kv (a b c : Nat) : Value := .agg #[.int .u8 (a : Int), .int .u8 (b : Int), .int .u8 (c : Int)]

theorem arr3 : ArrKey Try.prog 65 5 3 := ⟨Try.underlying65, by kernel_rfl, by kernel_rfl, by kernel_rfl⟩
theorem some_types : ∃ m, Try.prog.types.size = m + 1 := by
  have h : decide (0 < Try.prog.types.size) = true := by kernel_rfl
  have := of_decide_eq_true h
  exact ⟨Try.prog.types.size - 1, by omega⟩
theorem keyOf_three {a b c : Nat} (ha : a < 256) (hb : b < 256) (hc : c < 256) : ∃ l, keyOf Try.prog 65 (kv a b c) = some l := by
  have hkt := arr3.keyType some_types
  obtain ⟨m, hm⟩ := some_types
  have wf : ∀ x : Nat, x < 256 → (Lit.int .u8 (x : Int)).wf = true := fun x hx => by
    simp [Lit.wf, IntKind.min, IntKind.max, IntKind.signed, IntKind.bits]
    omega
  have wa := wf a ha
  have wb := wf b hb
  have wc := wf c hc
  refine ⟨.string (keyBytes [.int .u8 (a : Int), .int .u8 (b : Int), .int .u8 (c : Int)]), ?_⟩
  unfold keyOf
  simp only [arr3.hu]
  rw [if_pos (by simp [hkt, Value.formed, arr3.hu, arr3.size]), hm]
  unfold Program.keyLits
  simp only [arr3.hu, Value.cells]
  rw [if_pos (by rw [arr3.size]; rfl), show List.range 3 = [0, 1, 2] from rfl, List.mapM_cons, List.mapM_cons, List.mapM_cons, List.mapM_nil]
  simp [arr3.one, Program.keyLits, Try.underlying5, wa, wb, wc]
theorem key3 : Keyed Try.prog 65 := Keyed.of_law arr3.law
theorem kv_inj {a b c a' b' c' : Nat} (h : kv a b c = kv a' b' c') : a = a' ∧ b = b' ∧ c = c' := by
  simp only [kv, Value.agg.injEq, Array.mk.injEq, List.cons.injEq, Value.int.injEq, and_true, true_and] at h
  omega

/-- G with v at three bytes. -/
def putG (G : Nat → Nat → Nat → Value) (a b c : Nat) (v : Value) : Nat → Nat → Nat → Value := fun x y z => if x = a ∧ y = b ∧ z = c then v else G x y z
theorem putG_same (G : Nat → Nat → Nat → Value) (a b c : Nat) (v : Value) : putG G a b c v a b c = v := by simp [putG]
theorem putG_other (G : Nat → Nat → Nat → Value) {a b c : Nat} (v : Value) {x y z : Nat} (h : ¬ (x = a ∧ y = b ∧ z = c)) : putG G a b c v x y z = G x y z := by unfold putG; rw [if_neg h]

/-- Block M is a map that holds at three bytes what G tells, and nothing where G tells the empty list. -/
def KM (w : World) (M : Nat) (G : Nat → Nat → Nat → Value) : Prop :=
  ∃ es clock, w.heap[M]? = some (.map es clock) ∧ es.toList.Pairwise (fun x y => x.key ≠ y.key) ∧ (∀ e ∈ es.toList, ∃ a b c, a < 256 ∧ b < 256 ∧ c < 256 ∧ e.key = kv a b c ∧ e.val = G a b c) ∧
    ∀ a b c, a < 256 → b < 256 → c < 256 → (∀ e ∈ es.toList, e.key ≠ kv a b c) → G a b c = .slice none 0 0
section
variable {w w' : World} {M : Nat} {G : Nat → Nat → Nat → Value}
theorem KM.lt (h : KM w M G) : M < w.heap.size := by
  obtain ⟨es, clock, h1, _⟩ := h
  exact block_lt h1
theorem KM.keep (h : KM w M G) (hk : w'.heap[M]? = w.heap[M]?) : KM w' M G := by
  obtain ⟨es, clock, h1, h2⟩ := h
  exact ⟨es, clock, hk.trans h1, h2⟩
theorem KM.called (h : KM w M G) (hb : Below w.heap.size w w') : KM w' M G := h.keep (hb.block M h.lt)
theorem KM.grown {row : Option Nat} (h : KM w M G) (hg : w.grownBy w' row) (hne : row ≠ some M) : KM w' M G := h.keep (hg.block M h.lt (Ne.symm hne))
theorem KM.made (w : World) : KM (w.alloc (.map #[] 0)) w.heap.size (fun _ _ _ => .slice none 0 0) :=
  ⟨#[], 0, heap_alloc_new w _, by simp, by simp, fun _ _ _ _ _ _ _ => rfl⟩
theorem zero_list (w : World) : (zeroValue 25).run Try.prog w = .ok (.slice none 0 0) w := by kernel_rfl
theorem KM.keys {es : Array MapEntry} (h : ∀ e ∈ es.toList, ∃ a b c, a < 256 ∧ b < 256 ∧ c < 256 ∧ e.key = kv a b c ∧ e.val = G a b c) : ∀ e ∈ es.toList, ∃ l, keyOf Try.prog 65 e.key = some l := fun e he => by
  obtain ⟨a, b, c, ha, hb, hc, hk, _⟩ := h e he
  rw [hk]
  exact keyOf_three ha hb hc
/-- What is looked up. -/
theorem KM.look (h : KM w M G) {a b c : Nat} (ha : a < 256) (hb : b < 256) (hc : c < 256) : (Instr.lookup 62 (.map (some M)) (kv a b c) false).run Try.prog w = .ok (G a b c) w := by
  obtain ⟨es, clock, h1, h2, h3, h4⟩ := h
  obtain ⟨kl, hkey⟩ := keyOf_three ha hb hc
  rcases key3.find w hkey es.toList (KM.keys h3) with ⟨f1, f2⟩ | ⟨j, e0, f1, f2, f3⟩
  · rw [h4 a b c ha hb hc f2]
    simp [Instr.lookup, run_underlying Try.underlying62, MapKept.run_getObj_map h1, key3.check w _ hkey, f1, Result.andThen]
  · have hm0 : e0 ∈ es.toList := List.mem_of_getElem? f2
    obtain ⟨a', b', c', _, _, _, hk, hv⟩ := h3 e0 hm0
    obtain ⟨rfl, rfl, rfl⟩ := kv_inj (f3.symm.trans hk)
    rw [← hv]
    simp [Instr.lookup, run_underlying Try.underlying62, MapKept.run_getObj_map h1, key3.check w _ hkey, f1, Result.andThen]
/-- What is stored. -/
theorem KM.store (h : KM w M G) {a b c : Nat} (ha : a < 256) (hb : b < 256) (hc : c < 256) (v : Value) : ∃ w2, (Instr.mapUpdate 62 (.map (some M)) (kv a b c) v).run Try.prog w = .ok () w2 ∧ KM w2 M (putG G a b c v) ∧ w.grownBy w2 (some M) := by
  obtain ⟨es, clock, h1, h2, h3, h4⟩ := h
  obtain ⟨kl, hkey⟩ := keyOf_three ha hb hc
  have hg : ∀ o, w.grownBy (setBlock w M o) (some M) := fun o => ⟨rfl, rfl, rfl, by simp [setBlock], fun i _ hi => heap_setBlock_other h1 _ (fun e1 => hi (by rw [e1]))⟩
  rcases key3.find w hkey es.toList (KM.keys h3) with ⟨f1, f2⟩ | ⟨j, e0, f1, f2, f3⟩
  · refine ⟨setBlock w M (.map (es.push ⟨kv a b c, v, clock⟩) (clock + 1)), ?_, ⟨_, _, heap_setBlock_same h1 _, ?_, fun e he => ?_, fun x y z hx hy hz hno => ?_⟩, hg _⟩
    · simp [Instr.mapUpdate, run_underlying Try.underlying62, MapKept.run_getObj_map h1, key3.check w false hkey, f1, MapKept.run_setObj_map _ h1, Result.andThen, setBlock]
    · rw [Array.toList_push, List.pairwise_append]
      refine ⟨h2, List.pairwise_singleton _ _, fun x hx y hy => ?_⟩
      rw [List.mem_singleton.mp hy]
      exact f2 x hx
    · rw [Array.toList_push] at he
      rcases List.mem_append.mp he with he | he
      · obtain ⟨a', b', c', k1, k2, k3, k4, k5⟩ := h3 e he
        refine ⟨a', b', c', k1, k2, k3, k4, ?_⟩
        rw [putG_other G v (fun q => f2 e he (by rw [k4, q.1, q.2.1, q.2.2]))]
        exact k5
      · rw [List.mem_singleton.mp he]
        exact ⟨a, b, c, ha, hb, hc, rfl, (putG_same G a b c v).symm⟩
    · rw [Array.toList_push] at hno
      rw [putG_other G v (fun q => hno ⟨kv a b c, v, clock⟩ (List.mem_append_right _ (List.mem_singleton.mpr rfl)) (by rw [q.1, q.2.1, q.2.2]))]
      exact h4 x y z hx hy hz (fun e he => hno e (List.mem_append_left _ he))
  · have hj : es[j]? = some e0 := by simpa using f2
    have hjl : j < es.toList.length := (List.getElem?_eq_some_iff.1 f2).1
    have hlist : (es.modify j (fun e' => { e' with key := kv a b c, val := v })).toList = es.toList.set j { e0 with key := kv a b c, val := v } := by rw [Array.toList_modify, modify_eq_set _ _ _ _ f2]
    have hkeys : (es.toList.set j { e0 with key := kv a b c, val := v }).map (·.key) = es.toList.map (·.key) := by
      rw [List.map_set]
      refine List.ext_getElem (by simp) fun i q1 q2 => ?_
      rw [List.getElem_set]
      split
      · rename_i e
        subst e
        rw [List.getElem_map]
        have := List.getElem?_eq_getElem hjl
        rw [f2] at this
        rw [← Option.some.inj this]
        exact f3.symm
      · rfl
    have hne : ∀ i (hi : i < es.toList.length), i ≠ j → (es.toList[i]'hi).key ≠ kv a b c := fun i hi hij => by
      have e1 : (es.toList[j]'hjl) = e0 := by
        have := List.getElem?_eq_getElem hjl
        rw [f2] at this
        exact (Option.some.inj this).symm
      rw [← f3, ← e1]
      rcases Nat.lt_or_ge i j with q | q
      · exact List.pairwise_iff_getElem.mp h2 i j hi hjl q
      · exact Ne.symm (List.pairwise_iff_getElem.mp h2 j i hjl hi (by omega))
    refine ⟨setBlock w M (.map (es.modify j (fun e' => { e' with key := kv a b c, val := v })) clock), ?_, ⟨_, _, heap_setBlock_same h1 _, ?_, fun e he => ?_, fun x y z hx hy hz hno => ?_⟩, hg _⟩
    · simp [Instr.mapUpdate, run_underlying Try.underlying62, MapKept.run_getObj_map h1, key3.check w false hkey, f1, hj, f3, key3.stays w hkey, MapKept.run_setObj_map _ h1, Result.andThen, setBlock]
    · rw [hlist]
      have p1 : (es.toList.map (·.key)).Pairwise (fun x y => x ≠ y) := List.pairwise_map.mpr h2
      rw [← hkeys] at p1
      exact List.pairwise_map.mp p1
    · rw [hlist] at he
      obtain ⟨i, hi, ex⟩ := List.getElem_of_mem he
      rw [List.getElem_set] at ex
      split at ex
      · rw [← ex]
        exact ⟨a, b, c, ha, hb, hc, rfl, (putG_same G a b c v).symm⟩
      · rename_i hij
        have hi' : i < es.toList.length := by simpa using hi
        obtain ⟨a', b', c', k1, k2, k3, k4, k5⟩ := h3 _ (List.getElem_mem hi')
        refine ⟨a', b', c', k1, k2, k3, by rw [← ex]; exact k4, ?_⟩
        rw [putG_other G v (fun q => hne i hi' (fun e => hij e.symm) (by rw [k4, q.1, q.2.1, q.2.2])), ← ex]
        exact k5
    · rw [hlist] at hno
      have hmem : ∀ k, (∃ e ∈ es.toList, e.key = k) → ∃ e ∈ es.toList.set j { e0 with key := kv a b c, val := v }, e.key = k := fun k ⟨e, he, hk⟩ => by
        have : k ∈ (es.toList.set j { e0 with key := kv a b c, val := v }).map (·.key) := by
          rw [hkeys]
          exact List.mem_map.mpr ⟨e, he, hk⟩
        obtain ⟨e', he', hk'⟩ := List.mem_map.mp this
        exact ⟨e', he', hk'⟩
      have hold : ∀ e ∈ es.toList, e.key ≠ kv x y z := fun e he hk => by
        obtain ⟨e', he', hk'⟩ := hmem _ ⟨e, he, hk⟩
        exact hno e' he' hk'
      rw [putG_other G v (fun q => hold e0 (List.mem_of_getElem? f2) (by rw [f3, q.1, q.2.1, q.2.2]))]
      exact h4 x y z hx hy hz hold
end

end Go.Proofs.Ytihcapfdpgaeiaa

namespace Go.Proofs.Ytihcapfdpgaeiaa.SearchMath
open TokMath

/-- The places below K at which three bytes stand, in their order. -/
def occ (f : Nat → Nat) (a b c : Nat) : Nat → List Nat
  | 0 => []
  | K + 1 => if f K = a ∧ f (K + 1) = b ∧ f (K + 2) = c then occ f a b c K ++ [K] else occ f a b c K
/-- Those at which the bytes stand that stand at i. -/
def occAt (f : Nat → Nat) (i K : Nat) : List Nat := occ f (f i) (f (i + 1)) (f (i + 2)) K
section
variable {f : Nat → Nat} {N : Nat}
theorem occ_lt {a b c : Nat} : ∀ {K k : Nat}, k ∈ occ f a b c K → k < K
  | 0, _, h => by cases h
  | K + 1, k, h => by
    unfold occ at h
    split at h
    · rcases List.mem_append.mp h with h | h
      · have := occ_lt h
        omega
      · rw [List.mem_singleton.mp h]
        exact Nat.lt_succ_self K
    · have := occ_lt h
      omega
theorem occ_length_le {a b c : Nat} (K : Nat) : (occ f a b c K).length ≤ K := by
  induction K with
  | zero => exact Nat.le_refl _
  | succ K this =>
    unfold occ
    split
    · rw [List.length_append, List.length_singleton]
      omega
    · omega
theorem occ_here (i : Nat) : occAt f i (i + 1) = occAt f i i ++ [i] := by
  unfold occAt
  rw [occ, if_pos ⟨rfl, rfl, rfl⟩]
theorem occ_step {a b c K : Nat} (h : ¬ (f K = a ∧ f (K + 1) = b ∧ f (K + 2) = c)) : occ f a b c (K + 1) = occ f a b c K := by
  rw [occ, if_neg h]
theorem occ_more {a b c : Nat} (d K : Nat) : ∃ r, occ f a b c (K + d) = occ f a b c K ++ r := by
  induction d with
  | zero => exact ⟨[], by simp⟩
  | succ d ih =>
    obtain ⟨r, hr⟩ := ih
    rw [show K + (d + 1) = K + d + 1 by omega, occ]
    split
    · exact ⟨r ++ [K + d], by rw [hr, List.append_assoc]⟩
    · exact ⟨r, hr⟩
/-- The first of them, by their number. -/
theorem occ_take {a b c k K : Nat} (h : k ≤ K) : (occ f a b c k).length ≤ (occ f a b c K).length ∧ ∀ j, j < (occ f a b c k).length → (occ f a b c K).getD j 0 = (occ f a b c k).getD j 0 := by
  obtain ⟨d, rfl⟩ := Nat.exists_eq_add_of_le h
  obtain ⟨r, hr⟩ := occ_more (f := f) (a := a) (b := b) (c := c) d k
  rw [hr]
  refine ⟨by rw [List.length_append]; omega, fun j hj => ?_⟩
  rw [List.getD_eq_getElem?_getD, List.getD_eq_getElem?_getD, List.getElem?_append_left hj]
theorem occ_pos {i K : Nat} (h : i < K) : 0 < (occAt f i K).length := by
  have h1 := (occ_take (f := f) (a := f i) (b := f (i + 1)) (c := f (i + 2)) (k := i + 1) (K := K) h).1
  have h2 := congrArg List.length (occ_here (f := f) i)
  rw [List.length_append, List.length_singleton] at h2
  unfold occAt at h2 ⊢
  omega
theorem places_occ {at' : Nat} (h : at' + 2 < N) : ∀ K, places f N at' K = (occAt f at' K).reverse
  | 0 => rfl
  | K + 1 => by
    have ih := places_occ h K
    unfold occAt at ih ⊢
    rw [places, occ]
    by_cases q : f K = f at' ∧ f (K + 1) = f (at' + 1) ∧ f (K + 2) = f (at' + 2)
    · rw [if_pos (show Three f N K at' from ⟨h, q⟩), if_pos q, ih, List.reverse_append]
      rfl
    · rw [if_neg (fun k : Three f N K at' => q k.2), if_neg q, ih]
theorem pick_app (at' : Nat) : ∀ (l r : List Nat) (b d : Nat), pick f N at' (l ++ r) b d = pick f N at' r (pick f N at' l b d).1 (pick f N at' l b d).2
  | [], r, b, d => rfl
  | k :: l, r, b, d => by
    rw [List.cons_append, pick, pick]
    split
    · exact pick_app at' l r _ _
    · exact pick_app at' l r b d
/-- No repeat is longer than what is left of the text. -/
theorem common_room (a b : Nat) (hb : b < N) : common f N a b 258 ≤ N - b := by
  rcases Nat.eq_zero_or_pos (common f N a b 258) with h | h
  · omega
  · have := (common_same (f := f) (N := N) 258 a b (common f N a b 258 - 1) (by omega)).1
    omega
theorem pick_full {at' : Nat} (hat : at' < N) : ∀ (l : List Nat) (b d : Nat), min 258 (N - at') ≤ b → pick f N at' l b d = (b, d)
  | [], _, _, _ => rfl
  | k :: l, b, d, h => by
    have h1 := common_le (f := f) (N := N) 258 k at'
    have h2 := common_room (f := f) k at' hat
    rw [pick, if_neg (by omega)]
    exact pick_full hat l b d h
/-- What is looked at, the nearest first: of the last of the places ahead, from their end on. -/
theorem places_last {at' c : Nat} (h : at' + 2 < N) : (places f N at' at').take c = (List.range ((occAt f at' at').length - ((occAt f at' at').length - c))).map fun j => (occAt f at' at').getD ((occAt f at' at').length - 1 - j) 0 := by
  rw [places_occ h]
  refine List.ext_getElem ?_ fun j h1 h2 => ?_
  · rw [List.length_take, List.length_reverse, List.length_map, List.length_range]
    omega
  · rw [List.length_map, List.length_range] at h2
    rw [List.getElem_take, List.getElem_reverse, List.getElem_map, List.getElem_range, List.getD_eq_getElem?_getD, List.getElem?_eq_getElem (by omega)]
    rfl
/-- How many bytes are alike, found by going on. -/
theorem common_run {a b n : Nat} (hb : b < N) (hn : n ≤ min 258 (N - b)) (h : ∀ i, i < n → f (a + i) = f (b + i)) (hs : n = min 258 (N - b) ∨ f (a + n) ≠ f (b + n)) : common f N a b 258 = n := by
  refine common_eq (by omega) (fun i hi => ⟨by omega, h i hi⟩) ?_
  rcases hs with q | q
  · rcases Nat.lt_or_ge (N - b) 258 with k | k
    · exact .inr (fun e => by omega)
    · exact .inl (by omega)
  · exact .inr (fun e => q e.2)
theorem common_short (a b : Nat) (hb : b < N) : common f N a b (min 258 (N - b)) = common f N a b 258 := by
  have h1 := common_le (f := f) (N := N) (min 258 (N - b)) a b
  have h2 := common_same (f := f) (N := N) (min 258 (N - b)) a b
  have h3 := common_stop (f := f) (N := N) (min 258 (N - b)) a b
  generalize common f N a b (min 258 (N - b)) = n at *
  refine (common_run hb h1 (fun i hi => (h2 i hi).2) ?_).symm
  by_cases q : n = min 258 (N - b)
  · exact .inl q
  · rcases h3 with k | k
    · exact .inl k
    · exact .inr (fun e => k ⟨by omega, e⟩)
/-- One place more. -/
theorem pick_more {at' m k b d : Nat} {l : List Nat} (hat : at' < N) (hm : m = min 258 (N - at')) (h : pick f N at' l 0 0 = (b, d)) : pick f N at' (l ++ [k]) 0 0 = if b < common f N k at' m then (common f N k at' m, at' - k) else (b, d) := by
  rw [pick_app, h, hm, common_short _ _ hat]
  show (if b < common f N k at' 258 then pick f N at' [] _ _ else pick f N at' [] b d) = _
  split <;> rfl
/-- Where nothing can be better any more. -/
theorem pick_stop {at' m n k b d : Nat} {g : Nat → Nat} (hat : at' < N) (hm : m = min 258 (N - at')) (hk : k ≤ n) (h : pick f N at' ((List.range k).map g) 0 0 = (b, d)) (hb : b = m) : pick f N at' ((List.range n).map g) 0 0 = (b, d) := by
  obtain ⟨e, rfl⟩ := Nat.exists_eq_add_of_le hk
  rw [List.range_add, List.map_append, pick_app, h]
  exact pick_full hat _ _ _ (by omega)
end
end Go.Proofs.Ytihcapfdpgaeiaa.SearchMath

namespace Go.Proofs.Ytihcapfdpgaeiaa
open Go.RowKit SearchMath

/-- The cells of the matcher's struct. -/
def MtCells (w : World) (p : Nat) (s : ByteArray) (c : Nat) (M : Nat) (a : Option Addr) (n cap : Nat) : Prop :=
  w.cell? ⟨p, 0, none⟩ = some (.string s) ∧ w.cell? ⟨p, 1, none⟩ = some (.int .i64 (c : Int)) ∧ w.cell? ⟨p, 2, none⟩ = some (.map (some M)) ∧ w.cell? ⟨p, 3, none⟩ = some (.slice a n cap) ∧ p < w.heap.size
/-- The list that the map holds for the three bytes at i. -/
def MtList (w : World) (s : ByteArray) (v : Value) (i : Nat) : Prop := ∃ g cap, v = .slice (some ⟨g, 0, none⟩) (occAt (txt s) i (s.size - 2)).length cap ∧ (occAt (txt s) i (s.size - 2)).length ≤ cap ∧ g < w.heap.size ∧ ∀ j, j < (occAt (txt s) i (s.size - 2)).length → w.cell? ⟨g, j, none⟩ = some (.int .i64 ((occAt (txt s) i (s.size - 2)).getD j 0 : Nat))
/-- A matcher stands behind block p. -/
def Mt (w : World) (p : Nat) (s : ByteArray) (c : Nat) : Prop :=
  ∃ M a cap G, MtCells w p s c M a (s.size - 2) cap ∧ s.size - 2 ≤ cap ∧ Came w a (s.size - 2) (fun i => ((occAt (txt s) i i).length : Nat)) ∧ KM w M G ∧ ∀ i, i + 2 < s.size → MtList w s (G (txt s i) (txt s (i + 1)) (txt s (i + 2))) i
section
variable {w w' : World} {p : Nat} {s : ByteArray} {c : Nat}
theorem MtCells.called {M : Nat} {a : Option Addr} {n cap : Nat} (h : MtCells w p s c M a n cap) (hb : Below w.heap.size w w') : MtCells w' p s c M a n cap := by
  obtain ⟨h0, h1, h2, h3, h4⟩ := h
  exact ⟨(hb.cell (p := ⟨p, 0, none⟩) h4).trans h0, (hb.cell (p := ⟨p, 1, none⟩) h4).trans h1, (hb.cell (p := ⟨p, 2, none⟩) h4).trans h2, (hb.cell (p := ⟨p, 3, none⟩) h4).trans h3, Nat.lt_of_lt_of_le h4 hb.size⟩
theorem Mt.called (h : Mt w p s c) (hb : Below w.heap.size w w') : Mt w' p s c := by
  obtain ⟨M, a, cap, G, h1, h2, h3, h4, h5⟩ := h
  refine ⟨M, a, cap, G, h1.called hb, h2, h3.called hb, h4.called hb, fun i hi => ?_⟩
  obtain ⟨g, cp, e1, e2, e3, e4⟩ := h5 i hi
  exact ⟨g, cp, e1, e2, Nat.lt_of_lt_of_le e3 hb.size, fun j hj => (hb.cell (p := ⟨g, j, none⟩) e3).trans (e4 j hj)⟩
theorem Mt.text (h : Mt w p s c) : w.cell? ⟨p, 0, none⟩ = some (.string s) ∧ p < w.heap.size := by
  obtain ⟨M, a, cap, G, h1, _⟩ := h
  exact ⟨h1.1, h1.2.2.2.2⟩
end

end Go.Proofs.Ytihcapfdpgaeiaa

namespace Go.Proofs.Ytihcapfdpgaeiaa
open Go.RowKit

/-- The slice v is the call's own and holds the numbers zs. -/
def IR (w : World) (base : Nat) (v : Value) (zs : List Int) : Prop := w.ownsRow base 3 1 v zs.length (zs.map (Value.int .i64))
section
variable {w w' : World} {base : Nat} {v : Value} {zs : List Int}
theorem IR.nil (w : World) (base : Nat) : IR w base (.slice none 0 0) [] := World.ownsRow_nil _ _ _ _
theorem IR.kept {row : Option Nat} (h : IR w base v zs) (hg : w.grownBy w' row) (hne : v.ownBlock = none ∨ v.ownBlock ≠ row) : IR w' base v zs := World.ownsRow.kept h hg hne
theorem IR.alloc (h : IR w base v zs) (o : Obj) : IR (w.alloc o) base v zs := World.ownsRow.alloc h o
theorem IR.lt (h : IR w base v zs) {k : Nat} (e : v.ownBlock = some k) : base ≤ k ∧ k < w.heap.size := World.ownsRow.lt h k e
theorem IR.form (h : IR w base v zs) : ∃ a c, v = .slice a zs.length c := by
  rcases h.2 with ⟨rfl, h0⟩ | ⟨g, cap, cur, rfl, _⟩
  · exact ⟨none, 0, by rw [h0]⟩
  · exact ⟨_, cap, rfl⟩
theorem IR.room (h : IR w base v zs) {a : Option Addr} {n c : Nat} (e : v = .slice a n c) : zs.length ≤ c := by
  rcases h.2 with ⟨rfl, h0⟩ | ⟨g, cap, cur, rfl, _, _, hn, _⟩
  · omega
  · cases e
    exact hn
theorem IR.cells (h : IR w base v zs) (hn : 0 < zs.length) : ∃ g cap, v = .slice (some ⟨g, 0, none⟩) zs.length cap ∧ zs.length ≤ cap ∧ g < w.heap.size ∧ ∀ j, j < zs.length → w.cell? ⟨g, j, none⟩ = some (.int .i64 (zs.getD j 0)) := by
  have h' : w.ownsRow base 3 1 v zs.length (zs.map (Value.int .i64)) := h
  obtain ⟨g, cap, rfl, hb, hg⟩ := World.ownsRow.form h' hn
  refine ⟨g, cap, rfl, h.room rfl, hg, fun j hj => ?_⟩
  rw [World.ownsRow.cellAt h' j (by omega), List.getElem?_map, List.getElem?_eq_getElem hj, List.getD_eq_getElem?_getD, List.getElem?_eq_getElem hj]
  rfl
end

/-- The lists by three bytes, and the one besides. -/
def Rws (w : World) (base : Nat) (P : Nat → Nat → Nat → List Int) (LA : List Int) (G : Nat → Nat → Nat → Value) (va : Value) : Prop :=
  (∀ x y z, IR w base (G x y z) (P x y z)) ∧ IR w base va LA ∧ (∀ x y z x' y' z', ¬ (x = x' ∧ y = y' ∧ z = z') → (G x y z).ownBlock = none ∨ (G x y z).ownBlock ≠ (G x' y' z').ownBlock) ∧ ∀ x y z, (G x y z).ownBlock = none ∨ (G x y z).ownBlock ≠ va.ownBlock
section
variable {w w' : World} {base : Nat} {P : Nat → Nat → Nat → List Int} {LA : List Int} {G : Nat → Nat → Nat → Value} {va : Value}
theorem Rws.start (w : World) (base : Nat) : Rws w base (fun _ _ _ => []) [] (fun _ _ _ => .slice none 0 0) (.slice none 0 0) :=
  ⟨fun _ _ _ => IR.nil _ _, IR.nil _ _, fun _ _ _ _ _ _ _ => .inl rfl, fun _ _ _ => .inl rfl⟩
/-- What turns a block below them leaves them. -/
theorem Rws.grown {row : Option Nat} (h : Rws w base P LA G va) (hg : w.grownBy w' row) (hr : ∀ k, row = some k → k < base ∨ w.heap.size ≤ k) : Rws w' base P LA G va := by
  have key : ∀ {v zs}, IR w base v zs → v.ownBlock = none ∨ v.ownBlock ≠ row := fun {v zs} hv => by
    cases e : v.ownBlock with
    | none => exact .inl rfl
    | some k =>
      refine .inr (fun e1 => ?_)
      have h1 := hv.lt e
      have h2 := hr k e1.symm
      omega
  exact ⟨fun x y z => (h.1 x y z).kept hg (key (h.1 x y z)), h.2.1.kept hg (key h.2.1), h.2.2.1, h.2.2.2⟩
theorem Rws.called (h : Rws w base P LA G va) (hb : Below w.heap.size w w') : Rws w' base P LA G va :=
  h.grown (row := none) ⟨hb.os, hb.tape, hb.output, hb.size, fun k hk _ => hb.block k hk⟩ (fun k e => by cases e)
/-- The one besides, gone on with. -/
theorem Rws.ahead {va' : Value} {LA' : List Int} {o : Obj} (h : Rws w base P LA G va) (hg : (w.alloc o).grownBy w' va.ownBlock) (hv : IR w' base va' LA') (hl : va'.ownBlock = va.ownBlock ∨ ∃ g, va'.ownBlock = some g ∧ w.heap.size ≤ g) : Rws w' base P LA' G va' := by
  refine ⟨fun x y z => ((h.1 x y z).alloc o).kept hg (h.2.2.2 x y z), hv, h.2.2.1, fun x y z => ?_⟩
  rcases hl with e | ⟨g, e, hgl⟩
  · rw [e]
    exact h.2.2.2 x y z
  · cases q : (G x y z).ownBlock with
    | none => exact .inl rfl
    | some k =>
      refine .inr (fun e1 => ?_)
      rw [e] at e1
      have := ((h.1 x y z).lt q).2
      cases e1
      omega
/-- One by three bytes, gone on with. -/
theorem Rws.put {a b c : Nat} {v' : Value} {P' : Nat → Nat → Nat → List Int} {o : Obj} (h : Rws w base P LA G va) (hg : (w.alloc o).grownBy w' (G a b c).ownBlock) (hv : IR w' base v' (P' a b c)) (hP : ∀ x y z, ¬ (x = a ∧ y = b ∧ z = c) → P' x y z = P x y z) (hl : v'.ownBlock = (G a b c).ownBlock ∨ ∃ g, v'.ownBlock = some g ∧ w.heap.size ≤ g) :
    Rws w' base P' LA (putG G a b c v') va := by
  have apart : ∀ {v zs}, IR w base v zs → (v.ownBlock = none ∨ v.ownBlock ≠ (G a b c).ownBlock) → v.ownBlock = none ∨ v.ownBlock ≠ v'.ownBlock := fun {v zs} hvz hne => by
    rcases hl with e | ⟨g, e, hgl⟩
    · rw [e]
      exact hne
    · cases q : v.ownBlock with
      | none => exact .inl rfl
      | some k =>
        refine .inr (fun e1 => ?_)
        rw [e] at e1
        have := (hvz.lt q).2
        cases e1
        omega
  have flip : ∀ {u u' : Option Nat}, (u = none ∨ u ≠ u') → (u' = none ∨ u' ≠ u) := fun {u u'} k => by
    cases u' with
    | none => exact .inl rfl
    | some q =>
      refine .inr (fun e => ?_)
      rcases k with k | k
      · rw [k] at e
        cases e
      · exact k e.symm
  refine ⟨fun x y z => ?_, (h.2.1.alloc o).kept hg (flip (h.2.2.2 a b c)), fun x y z x' y' z' hne => ?_, fun x y z => ?_⟩
  · by_cases q : x = a ∧ y = b ∧ z = c
    · rw [q.1, q.2.1, q.2.2, putG_same]
      exact hv
    · rw [hP x y z q, putG_other G v' q]
      exact ((h.1 x y z).alloc o).kept hg (h.2.2.1 x y z a b c q)
  · by_cases q : x = a ∧ y = b ∧ z = c
    · have q' : ¬ (x' = a ∧ y' = b ∧ z' = c) := fun k => hne ⟨q.1.trans k.1.symm, q.2.1.trans k.2.1.symm, q.2.2.trans k.2.2.symm⟩
      rw [putG_other G v' q', q.1, q.2.1, q.2.2, putG_same]
      exact flip (apart (h.1 x' y' z') (h.2.2.1 x' y' z' a b c q'))
    · rw [putG_other G v' q]
      by_cases q' : x' = a ∧ y' = b ∧ z' = c
      · rw [q'.1, q'.2.1, q'.2.2, putG_same]
        exact apart (h.1 x y z) (h.2.2.1 x y z a b c q)
      · rw [putG_other G v' q']
        exact h.2.2.1 x y z x' y' z' hne
  · by_cases q : x = a ∧ y = b ∧ z = c
    · rw [q.1, q.2.1, q.2.2, putG_same]
      exact flip (apart h.2.1 (flip (h.2.2.2 a b c)))
    · rw [putG_other G v' q]
      exact h.2.2.2 x y z
end

end Go.Proofs.Ytihcapfdpgaeiaa
