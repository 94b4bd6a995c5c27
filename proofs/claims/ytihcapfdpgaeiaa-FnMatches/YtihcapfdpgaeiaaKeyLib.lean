/-
  A map from three bytes to lists of numbers, by what list stands at which three bytes.
-/
import Derived.Test.YtihcapfdpgaeiaaRows
import Derived.Test.YtihcapfdpgaeiaaBase
import Derived.WideKeyPair
import Derived.Maps.Keyed
import Derived.Laws.AppendOwn
import Derived.WalkKit
import Derived.Below
namespace Go.Proofs.Ytihcapfdpgaeiaa
open Go.RowKit Go.Maps Go.WideMaps
open Go.ChangeMaps (setBlock heap_setBlock_same heap_setBlock_other modify_eq_set)

/-- The key of three bytes. -/
abbrev kv (a b c : Nat) : Value := .agg #[.int .u8 (a : Int), .int .u8 (b : Int), .int .u8 (c : Int)]

theorem arr3 : ArrKey Try.prog 65 5 3 := ⟨Try.underlying65, by kernel_rfl, by kernel_rfl, by kernel_rfl⟩
theorem some_types : ∃ m, Try.prog.types.size = m + 1 := by
  have h : decide (0 < Try.prog.types.size) = true := by kernel_rfl
  have := of_decide_eq_true h
  exact ⟨Try.prog.types.size - 1, by omega⟩
theorem keyOf_three {a b c : Nat} (ha : a < 256) (hb : b < 256) (hc : c < 256) : ∃ l, keyOf Try.prog 65 (kv a b c) = some l := by
  have hkt := arr3.keyType some_types
  obtain ⟨m, hm⟩ := some_types
  have wf : ∀ x : Nat, x < 256 → (Lit.int .u8 (x : Int)).wf = true := fun x hx => by
    simp [Lit.wf, IntKind.min, IntKind.max, IntKind.signed, IntKind.bits]
    omega
  have wa := wf a ha
  have wb := wf b hb
  have wc := wf c hc
  refine ⟨.string (keyBytes [.int .u8 (a : Int), .int .u8 (b : Int), .int .u8 (c : Int)]), ?_⟩
  unfold keyOf
  simp only [arr3.hu]
  rw [if_pos (by simp [hkt, Value.formed, arr3.hu, arr3.size]), hm]
  unfold Program.keyLits
  simp only [arr3.hu, Value.cells]
  rw [if_pos (by rw [arr3.size]; rfl), show List.range 3 = [0, 1, 2] from rfl, List.mapM_cons, List.mapM_cons, List.mapM_cons, List.mapM_nil]
  simp [arr3.one, Program.keyLits, Try.underlying5, wa, wb, wc]
theorem key3 : Keyed Try.prog 65 := Keyed.of_law arr3.law
theorem kv_inj {a b c a' b' c' : Nat} (h : kv a b c = kv a' b' c') : a = a' ∧ b = b' ∧ c = c' := by
  simp only [kv, Value.agg.injEq, Array.mk.injEq, List.cons.injEq, Value.int.injEq, and_true, true_and] at h
  omega

/-- G with v at three bytes. -/
def putG (G : Nat → Nat → Nat → Value) (a b c : Nat) (v : Value) : Nat → Nat → Nat → Value := fun x y z => if x = a ∧ y = b ∧ z = c then v else G x y z
theorem putG_same (G : Nat → Nat → Nat → Value) (a b c : Nat) (v : Value) : putG G a b c v a b c = v := by simp [putG]
theorem putG_other (G : Nat → Nat → Nat → Value) {a b c : Nat} (v : Value) {x y z : Nat} (h : ¬ (x = a ∧ y = b ∧ z = c)) : putG G a b c v x y z = G x y z := by unfold putG; rw [if_neg h]

/-- Block M is a map that holds at three bytes what G tells, and nothing where G tells the empty list. -/
def KM (w : World) (M : Nat) (G : Nat → Nat → Nat → Value) : Prop :=
  ∃ es clock, w.heap[M]? = some (.map es clock) ∧ es.toList.Pairwise (fun x y => x.key ≠ y.key) ∧ (∀ e ∈ es.toList, ∃ a b c, a < 256 ∧ b < 256 ∧ c < 256 ∧ e.key = kv a b c ∧ e.val = G a b c) ∧
    ∀ a b c, a < 256 → b < 256 → c < 256 → (∀ e ∈ es.toList, e.key ≠ kv a b c) → G a b c = .slice none 0 0
section
variable {w w' : World} {M : Nat} {G : Nat → Nat → Nat → Value}
theorem KM.lt (h : KM w M G) : M < w.heap.size := by
  obtain ⟨es, clock, h1, _⟩ := h
  exact block_lt h1
theorem KM.keep (h : KM w M G) (hk : w'.heap[M]? = w.heap[M]?) : KM w' M G := by
  obtain ⟨es, clock, h1, h2⟩ := h
  exact ⟨es, clock, hk.trans h1, h2⟩
theorem KM.called (h : KM w M G) (hb : Below w.heap.size w w') : KM w' M G := h.keep (hb.block M h.lt)
theorem KM.grown {row : Option Nat} (h : KM w M G) (hg : w.grownBy w' row) (hne : row ≠ some M) : KM w' M G := h.keep (hg.block M h.lt (Ne.symm hne))
theorem KM.made (w : World) : KM (w.alloc (.map #[] 0)) w.heap.size (fun _ _ _ => .slice none 0 0) :=
  ⟨#[], 0, heap_alloc_new w _, by simp, by simp, fun _ _ _ _ _ _ _ => rfl⟩
theorem zero_list (w : World) : (zeroValue 25).run Try.prog w = .ok (.slice none 0 0) w := by kernel_rfl
theorem KM.keys {es : Array MapEntry} (h : ∀ e ∈ es.toList, ∃ a b c, a < 256 ∧ b < 256 ∧ c < 256 ∧ e.key = kv a b c ∧ e.val = G a b c) : ∀ e ∈ es.toList, ∃ l, keyOf Try.prog 65 e.key = some l := fun e he => by
  obtain ⟨a, b, c, ha, hb, hc, hk, _⟩ := h e he
  rw [hk]
  exact keyOf_three ha hb hc
/-- What is looked up. -/
theorem KM.look (h : KM w M G) {a b c : Nat} (ha : a < 256) (hb : b < 256) (hc : c < 256) : (Instr.lookup 62 (.map (some M)) (kv a b c) false).run Try.prog w = .ok (G a b c) w := by
  obtain ⟨es, clock, h1, h2, h3, h4⟩ := h
  obtain ⟨kl, hkey⟩ := keyOf_three ha hb hc
  rcases key3.find w hkey es.toList (KM.keys h3) with ⟨f1, f2⟩ | ⟨j, e0, f1, f2, f3⟩
  · rw [h4 a b c ha hb hc f2]
    simp [Instr.lookup, run_underlying Try.underlying62, MapKept.run_getObj_map h1, key3.check w _ hkey, f1, Result.andThen]
  · have hm0 : e0 ∈ es.toList := List.mem_of_getElem? f2
    obtain ⟨a', b', c', _, _, _, hk, hv⟩ := h3 e0 hm0
    obtain ⟨rfl, rfl, rfl⟩ := kv_inj (f3.symm.trans hk)
    rw [← hv]
    simp [Instr.lookup, run_underlying Try.underlying62, MapKept.run_getObj_map h1, key3.check w _ hkey, f1, Result.andThen]
/-- What is stored. -/
theorem KM.store (h : KM w M G) {a b c : Nat} (ha : a < 256) (hb : b < 256) (hc : c < 256) (v : Value) : ∃ w2, (Instr.mapUpdate 62 (.map (some M)) (kv a b c) v).run Try.prog w = .ok () w2 ∧ KM w2 M (putG G a b c v) ∧ w.grownBy w2 (some M) := by
  obtain ⟨es, clock, h1, h2, h3, h4⟩ := h
  obtain ⟨kl, hkey⟩ := keyOf_three ha hb hc
  have hg : ∀ o, w.grownBy (setBlock w M o) (some M) := fun o => ⟨rfl, rfl, rfl, by simp [setBlock], fun i _ hi => heap_setBlock_other h1 _ (fun e1 => hi (by rw [e1]))⟩
  rcases key3.find w hkey es.toList (KM.keys h3) with ⟨f1, f2⟩ | ⟨j, e0, f1, f2, f3⟩
  · refine ⟨setBlock w M (.map (es.push ⟨kv a b c, v, clock⟩) (clock + 1)), ?_, ⟨_, _, heap_setBlock_same h1 _, ?_, fun e he => ?_, fun x y z hx hy hz hno => ?_⟩, hg _⟩
    · simp [Instr.mapUpdate, run_underlying Try.underlying62, MapKept.run_getObj_map h1, key3.check w false hkey, f1, MapKept.run_setObj_map _ h1, Result.andThen, setBlock]
    · rw [Array.toList_push, List.pairwise_append]
      refine ⟨h2, List.pairwise_singleton _ _, fun x hx y hy => ?_⟩
      rw [List.mem_singleton.mp hy]
      exact f2 x hx
    · rw [Array.toList_push] at he
      rcases List.mem_append.mp he with he | he
      · obtain ⟨a', b', c', k1, k2, k3, k4, k5⟩ := h3 e he
        refine ⟨a', b', c', k1, k2, k3, k4, ?_⟩
        rw [putG_other G v (fun q => f2 e he (by rw [k4, q.1, q.2.1, q.2.2]))]
        exact k5
      · rw [List.mem_singleton.mp he]
        exact ⟨a, b, c, ha, hb, hc, rfl, (putG_same G a b c v).symm⟩
    · rw [Array.toList_push] at hno
      rw [putG_other G v (fun q => hno ⟨kv a b c, v, clock⟩ (List.mem_append_right _ (List.mem_singleton.mpr rfl)) (by rw [q.1, q.2.1, q.2.2]))]
      exact h4 x y z hx hy hz (fun e he => hno e (List.mem_append_left _ he))
  · have hj : es[j]? = some e0 := by simpa using f2
    have hjl : j < es.toList.length := (List.getElem?_eq_some_iff.1 f2).1
    have hlist : (es.modify j (fun e' => { e' with key := kv a b c, val := v })).toList = es.toList.set j { e0 with key := kv a b c, val := v } := by rw [Array.toList_modify, modify_eq_set _ _ _ _ f2]
    have hkeys : (es.toList.set j { e0 with key := kv a b c, val := v }).map (·.key) = es.toList.map (·.key) := by
      rw [List.map_set]
      refine List.ext_getElem (by simp) fun i q1 q2 => ?_
      rw [List.getElem_set]
      split
      · rename_i e
        subst e
        rw [List.getElem_map]
        have := List.getElem?_eq_getElem hjl
        rw [f2] at this
        rw [← Option.some.inj this]
        exact f3.symm
      · rfl
    have hne : ∀ i (hi : i < es.toList.length), i ≠ j → (es.toList[i]'hi).key ≠ kv a b c := fun i hi hij => by
      have e1 : (es.toList[j]'hjl) = e0 := by
        have := List.getElem?_eq_getElem hjl
        rw [f2] at this
        exact (Option.some.inj this).symm
      rw [← f3, ← e1]
      rcases Nat.lt_or_ge i j with q | q
      · exact List.pairwise_iff_getElem.mp h2 i j hi hjl q
      · exact Ne.symm (List.pairwise_iff_getElem.mp h2 j i hjl hi (by omega))
    refine ⟨setBlock w M (.map (es.modify j (fun e' => { e' with key := kv a b c, val := v })) clock), ?_, ⟨_, _, heap_setBlock_same h1 _, ?_, fun e he => ?_, fun x y z hx hy hz hno => ?_⟩, hg _⟩
    · simp [Instr.mapUpdate, run_underlying Try.underlying62, MapKept.run_getObj_map h1, key3.check w false hkey, f1, hj, f3, key3.stays w hkey, MapKept.run_setObj_map _ h1, Result.andThen, setBlock]
    · rw [hlist]
      have p1 : (es.toList.map (·.key)).Pairwise (fun x y => x ≠ y) := List.pairwise_map.mpr h2
      rw [← hkeys] at p1
      exact List.pairwise_map.mp p1
    · rw [hlist] at he
      obtain ⟨i, hi, ex⟩ := List.getElem_of_mem he
      rw [List.getElem_set] at ex
      split at ex
      · rw [← ex]
        exact ⟨a, b, c, ha, hb, hc, rfl, (putG_same G a b c v).symm⟩
      · rename_i hij
        have hi' : i < es.toList.length := by simpa using hi
        obtain ⟨a', b', c', k1, k2, k3, k4, k5⟩ := h3 _ (List.getElem_mem hi')
        refine ⟨a', b', c', k1, k2, k3, by rw [← ex]; exact k4, ?_⟩
        rw [putG_other G v (fun q => hne i hi' (fun e => hij e.symm) (by rw [k4, q.1, q.2.1, q.2.2])), ← ex]
        exact k5
    · rw [hlist] at hno
      have hmem : ∀ k, (∃ e ∈ es.toList, e.key = k) → ∃ e ∈ es.toList.set j { e0 with key := kv a b c, val := v }, e.key = k := fun k ⟨e, he, hk⟩ => by
        have : k ∈ (es.toList.set j { e0 with key := kv a b c, val := v }).map (·.key) := by
          rw [hkeys]
          exact List.mem_map.mpr ⟨e, he, hk⟩
        obtain ⟨e', he', hk'⟩ := List.mem_map.mp this
        exact ⟨e', he', hk'⟩
      have hold : ∀ e ∈ es.toList, e.key ≠ kv x y z := fun e he hk => by
        obtain ⟨e', he', hk'⟩ := hmem _ ⟨e, he, hk⟩
        exact hno e' he' hk'
      rw [putG_other G v (fun q => hold e0 (List.mem_of_getElem? f2) (by rw [f3, q.1, q.2.1, q.2.2]))]
      exact h4 x y z hx hy hz hold
end

end Go.Proofs.Ytihcapfdpgaeiaa
