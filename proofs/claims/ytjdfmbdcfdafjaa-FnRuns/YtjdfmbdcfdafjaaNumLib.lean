/-
  What a draw of counts has at hand: its cursor, and its list of small numbers.
-/
import Derived.Test.YtjdfmbdcfdafjaaRows
import Derived.Test.YtjdfmbdcfdafjaaBase
import Derived.Test.YtjdfmbdcfdafjaaOwnLib
import Derived.Test.YtjdfmbdcfdafjaaRowLib
import Derived.Test.YtjdfmbdcfdafjaaIntsLib
import Derived.Test.YtjdfmbdcfdafjaaDrawLib
import Derived.Test.YtjdfmbdcfdafjaaDrawList
import Derived.WalkKit
import Derived.ProofKit
import Derived.Lib.SmallJoins
namespace Go.Proofs.Ytjdfmbdcfdafjaa
open Go.RowKit Go.Joins

theorem info_num : (Try.prog.info? 3).map (fun i => (i.zero, i.size, i.bytes)) = some (some (.int .i64 0), 1, 8) := by kernel_rfl

def numOf : Value → Nat
  | .slice _ n _ => n
  | _ => 0

/-- The list v has n numbers, all small counts, or -1. -/
def NumSt (w0 w : World) (base b n : Nat) (v : Value) : Prop :=
  ∃ (g cap : Nat) (zs : List Int), v = .slice (some ⟨g, 0, none⟩) n cap ∧ zs.length = n ∧ (∀ z ∈ zs, -1 ≤ z ∧ z ≤ 20000) ∧ DL 3 w0 w base b g cap (i64s zs)

section
variable {w0 w w' : World} {base b n g cap : Nat}
theorem NumSt.cur {v : Value} (h : NumSt w0 w base b n v) : Cur w base b := by
  obtain ⟨_, _, _, _, _, _, h⟩ := h
  exact h.cur
theorem NumSt.form {v : Value} (h : NumSt w0 w base b n v) : ∃ g cap, v = .slice (some ⟨g, 0, none⟩) n cap := by
  obtain ⟨g, cap, _, h, _⟩ := h
  exact ⟨g, cap, h⟩
theorem NumSt.drawn {v : Value} (h : NumSt w0 w base b n v) (hg : w.grownBy w' (some b)) (hC : Cur w' base b) : NumSt w0 w' base b n v := by
  obtain ⟨g, cap, zs, h1, h2, h3, h4⟩ := h
  exact ⟨g, cap, zs, h1, h2, h3, h4.drawn hg hC⟩
theorem NumSt.drew {v : Value} (h : NumSt w0 w base b n v) : NumSt w0 w.drew base b n v := by
  obtain ⟨g, cap, zs, h1, h2, h3, h4⟩ := h
  exact ⟨g, cap, zs, h1, h2, h3, h4.drew⟩
theorem NumSt.alloc {v : Value} (h : NumSt w0 w base b n v) (o : Obj) : NumSt w0 (w.alloc o) base b n v := by
  obtain ⟨g, cap, zs, h1, h2, h3, h4, h5, h6, h7⟩ := h
  have hl := h4.lt
  have hb := h4.base_le
  exact ⟨g, cap, zs, h1, h2, h3, h4.alloc o, h5.alloc o, h6, h7.alloc (by omega) o⟩
theorem NumSt.lt (h : NumSt w0 w base b n (.slice (some ⟨g, 0, none⟩) n cap)) : g < w.heap.size ∧ g ≠ b := by
  obtain ⟨g', cap', zs, h1, h2, h3, h4⟩ := h
  cases h1
  exact ⟨h4.2.1.lt, h4.2.2.1⟩
theorem NumSt.get (h : NumSt w0 w base b n (.slice (some ⟨g, 0, none⟩) n cap)) (j : Nat) (hj : j < n) : ∃ z : Int, w.cell? ⟨g, j, none⟩ = some (.int .i64 z) ∧ -1 ≤ z ∧ z ≤ 20000 ∧ w.frozen? ⟨g, j, none⟩ = false := by
  obtain ⟨g', cap', zs, h1, h2, h3, h4⟩ := h
  cases h1
  have hj' : j < (i64s zs).length := by rw [i64s_length]; omega
  refine ⟨zs.getD j 0, by rw [h4.cell j hj', i64s_get], (h3 _ ?_).1, (h3 _ ?_).2, h4.free j hj'⟩
  all_goals
    rw [List.getD_eq_getElem?_getD, List.getElem?_eq_getElem (by omega)]
    exact List.getElem_mem _
theorem NumSt.set (h : NumSt w0 w base b n (.slice (some ⟨g, 0, none⟩) n cap)) (j : Nat) (hj : j < n) (z : Int) (h0 : -1 ≤ z) (hz : z ≤ 20000) : NumSt w0 (w.setCell ⟨g, j, none⟩ (.int .i64 z)) base b n (.slice (some ⟨g, 0, none⟩) n cap) := by
  obtain ⟨g', cap', zs, h1, h2, h3, h4⟩ := h
  cases h1
  have hj' : j < (i64s zs).length := by rw [i64s_length]; omega
  have h5 := h4.set j hj' (.int .i64 z)
  rw [i64s_set] at h5
  refine ⟨g, cap, zs.set j z, rfl, by rw [List.length_set]; exact h2, fun y hy => ?_, h5⟩
  rcases List.mem_or_eq_of_mem_set hy with q | q
  · exact h3 y q
  · rw [q]; exact ⟨h0, hz⟩
theorem NumSt.below {v : Value} (h : NumSt w0 w base b n v) : Below base w0 w := by
  obtain ⟨_, _, _, _, _, _, h⟩ := h
  exact h.below
/-- A literal of numbers is a list. -/
theorem NumSt.lit (hC : Cur w base b) (hB : Below base w0 w) (zs : List Int) (hz : ∀ z ∈ zs, -1 ≤ z ∧ z ≤ 20000) (hn : zs.length = n) (h9 : n ≤ 1000) : NumSt w0 (w.alloc (.cells (i64s zs).toArray 3)) base b n (.slice (some ⟨w.heap.size, 0, none⟩) n n) := by
  have hl := hC.lt
  have hb := hC.base_le
  refine ⟨w.heap.size, n, zs, rfl, hn, hz, hC.alloc _, ?_, by omega, hB.alloc (by omega) _⟩
  refine ⟨n, (i64s zs).toArray, (0, 0), rfl, by omega, heap_alloc_new w _, .inl rfl, by rw [i64s_length]; omega, by unfold maxLen; omega, by simp [i64s_length, hn], ?_⟩
  simp

/-- What the list is at last. -/
theorem NumSt.out (h : NumSt w0 w base b n (.slice (some ⟨g, 0, none⟩) n cap)) : ∃ f : Nat → Int, IOwn w base g n cap f ∧ ∀ i, i < n → -1 ≤ f i ∧ f i ≤ 20000 := by
  obtain ⟨g', cap', zs, h1, h2, h3, h4⟩ := h
  cases h1
  refine ⟨fun j => zs.getD j 0, ?_, fun i hi => h3 _ ?_⟩
  · have h5 := h4.own
    have e : i64s zs = fints (fun j => zs.getD j 0) n := by
      refine List.ext_getElem (by rw [i64s_length, fints_length]; exact h2) fun i k1 k2 => ?_
      rw [i64s_get, fints_get]
    rw [i64s_length, h2, e] at h5
    exact h5
  · show zs.getD i 0 ∈ zs
    rw [List.getD_eq_getElem?_getD, List.getElem?_eq_getElem (by omega)]
    exact List.getElem_mem _

/-- 'append(v, x)'. -/
theorem num_append {ops : Array Oper} {rest : List Oper} {o : Oper} {a : Act} {Q : Exit → Act → World → Prop} (hgd : o.guard = none) (s y : Operand)
    (hop : o.op = .call { callee := .builtin .append, args := #[s, y], argTypes := #[24, 24] }) (hs : a.eval s = .slice (some ⟨g, 0, none⟩) n cap) (hL : NumSt w0 w base b n (.slice (some ⟨g, 0, none⟩) n cap)) (x : Int) (h0 : -1 ≤ x) (h1 : x ≤ 20000) (hy : a.eval y = .slice (some ⟨w.heap.size, 0, none⟩) 1 1) (hn : n ≤ 1000)
    (hK : ∀ g' cap' w', NumSt w0 w' base b (n + 1) (.slice (some ⟨g', 0, none⟩) (n + 1) cap') → wpList Try.prog ops Q rest (a.put o.dst (.slice (some ⟨g', 0, none⟩) (n + 1) cap')) w') :
    wpList Try.prog ops Q (o :: rest) a (w.alloc (.cells #[.int .i64 x] 3)) := by
  obtain ⟨g', cap', zs, e1, h2, h3, h4⟩ := hL
  cases e1
  obtain ⟨i0, hi0, hz0, hz1, hz2⟩ := info_parts info_num
  have hO := h4.own
  rw [i64s_length, h2] at hO
  refine wpList_append1 hgd s y 24 hop i0 (.int .i64 0) 8 Try.underlying24 hi0 hz0 hz1 hz2 rfl hs (hO.alloc _) ⟨w.heap.size, 0, none⟩ 1 (.int .i64 x) hy (by simp) rfl rfl (by rw [i64s_length]; unfold maxLen; omega) (by rw [i64s_length]; omega) ?_
  intro g1 v1 w2 hO1 hg1 hgr
  obtain ⟨c1, hv1, hD⟩ := h4.app hO1 (by simpa using hg1) hgr
  rw [i64s_app] at hD
  rw [i64s_length, h2] at hv1
  subst hv1
  refine hK g1 c1 w2 ⟨g1, c1, zs ++ [x], rfl, by simp [h2], fun z hz => ?_, hD⟩
  rcases List.mem_append.mp hz with q | q
  · exact h3 z q
  · rw [List.mem_singleton.mp q]; exact ⟨h0, h1⟩
end

end Go.Proofs.Ytjdfmbdcfdafjaa
