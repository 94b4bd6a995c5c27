/-
  What a draw of samples has at hand: its cursor, and its list of numbers.
-/
import Derived.Test.YtpocfmopeaajaaaRows
import Derived.Test.YtpocfmopeaajaaaBase
import Derived.Test.YtpocfmopeaajaaaOwnLib
import Derived.Test.YtpocfmopeaajaaaRowLib
import Derived.Test.YtpocfmopeaajaaaIntsLib
import Derived.Test.YtpocfmopeaajaaaDrawLib
import Derived.Test.YtpocfmopeaajaaaDrawList
import Derived.WalkKit
import Derived.ProofKit
import Derived.Lib.SmallJoins
namespace Go.Proofs.Ytpocfmopeaajaaa
open Go.RowKit Go.Joins

theorem info_numz : (Try.prog.info? 3).map (fun i => (i.zero, i.size, i.bytes)) = some (some (.int .i64 0), 1, 8) := by kernel_rfl

def numOfZ : Value → Nat
  | .slice _ n _ => n
  | _ => 0

/-- The list v has n numbers, whatever they are. -/
def NumZ (w0 w : World) (base b n : Nat) (v : Value) : Prop :=
  ∃ (g cap : Nat) (zs : List Int), v = .slice (some ⟨g, 0, none⟩) n cap ∧ zs.length = n ∧ DL 3 w0 w base b g cap (i64s zs)

section
variable {w0 w w' : World} {base b n g cap : Nat}
theorem NumZ.cur {v : Value} (h : NumZ w0 w base b n v) : Cur w base b := by
  obtain ⟨_, _, _, _, _, h⟩ := h
  exact h.cur
theorem NumZ.form {v : Value} (h : NumZ w0 w base b n v) : ∃ g cap, v = .slice (some ⟨g, 0, none⟩) n cap := by
  obtain ⟨g, cap, _, h, _⟩ := h
  exact ⟨g, cap, h⟩
theorem NumZ.drawn {v : Value} (h : NumZ w0 w base b n v) (hg : w.grownBy w' (some b)) (hC : Cur w' base b) : NumZ w0 w' base b n v := by
  obtain ⟨g, cap, zs, h1, h2, h4⟩ := h
  exact ⟨g, cap, zs, h1, h2, h4.drawn hg hC⟩
theorem NumZ.drew {v : Value} (h : NumZ w0 w base b n v) : NumZ w0 w.drew base b n v := by
  obtain ⟨g, cap, zs, h1, h2, h4⟩ := h
  exact ⟨g, cap, zs, h1, h2, h4.drew⟩
theorem NumZ.alloc {v : Value} (h : NumZ w0 w base b n v) (o : Obj) : NumZ w0 (w.alloc o) base b n v := by
  obtain ⟨g, cap, zs, h1, h2, h4, h5, h6, h7⟩ := h
  have hl := h4.lt
  have hb := h4.base_le
  exact ⟨g, cap, zs, h1, h2, h4.alloc o, h5.alloc o, h6, h7.alloc (by omega) o⟩
theorem NumZ.lt (h : NumZ w0 w base b n (.slice (some ⟨g, 0, none⟩) n cap)) : g < w.heap.size ∧ g ≠ b := by
  obtain ⟨g', cap', zs, h1, h2, h4⟩ := h
  cases h1
  exact ⟨h4.2.1.lt, h4.2.2.1⟩
theorem NumZ.below {v : Value} (h : NumZ w0 w base b n v) : Below base w0 w := by
  obtain ⟨_, _, _, _, _, h⟩ := h
  exact h.below
/-- A literal of numbers is a list. -/
theorem NumZ.lit (hC : Cur w base b) (hB : Below base w0 w) (zs : List Int) (hn : zs.length = n) (h9 : n ≤ 1000) : NumZ w0 (w.alloc (.cells (i64s zs).toArray 3)) base b n (.slice (some ⟨w.heap.size, 0, none⟩) n n) := by
  have hl := hC.lt
  have hb := hC.base_le
  refine ⟨w.heap.size, n, zs, rfl, hn, hC.alloc _, ?_, by omega, hB.alloc (by omega) _⟩
  refine ⟨n, (i64s zs).toArray, (0, 0), rfl, by omega, heap_alloc_new w _, .inl rfl, by rw [i64s_length]; omega, by unfold maxLen; omega, by simp [i64s_length, hn], ?_⟩
  simp

/-- What the list is at last. -/
theorem NumZ.out (h : NumZ w0 w base b n (.slice (some ⟨g, 0, none⟩) n cap)) : ∃ f : Nat → Int, IOwn w base g n cap f := by
  obtain ⟨g', cap', zs, h1, h2, h4⟩ := h
  cases h1
  refine ⟨fun j => zs.getD j 0, ?_⟩
  have h5 := h4.own
  have e : i64s zs = fints (fun j => zs.getD j 0) n := by
    refine List.ext_getElem (by rw [i64s_length, fints_length]; exact h2) fun i k1 k2 => ?_
    rw [i64s_get, fints_get]
  rw [i64s_length, h2, e] at h5
  exact h5

/-- 'append(v, x)'. -/
theorem numz_append {ops : Array Oper} {rest : List Oper} {o : Oper} {a : Act} {Q : Exit → Act → World → Prop} (hgd : o.guard = none) (s y : Operand)
    (hop : o.op = .call { callee := .builtin .append, args := #[s, y], argTypes := #[24, 24] }) (hs : a.eval s = .slice (some ⟨g, 0, none⟩) n cap) (hL : NumZ w0 w base b n (.slice (some ⟨g, 0, none⟩) n cap)) (x : Int) (hy : a.eval y = .slice (some ⟨w.heap.size, 0, none⟩) 1 1) (hn : n ≤ 1000)
    (hK : ∀ g' cap' w', NumZ w0 w' base b (n + 1) (.slice (some ⟨g', 0, none⟩) (n + 1) cap') → wpList Try.prog ops Q rest (a.put o.dst (.slice (some ⟨g', 0, none⟩) (n + 1) cap')) w') :
    wpList Try.prog ops Q (o :: rest) a (w.alloc (.cells #[.int .i64 x] 3)) := by
  obtain ⟨g', cap', zs, e1, h2, h4⟩ := hL
  cases e1
  obtain ⟨i0, hi0, hz0, hz1, hz2⟩ := info_parts info_numz
  have hO := h4.own
  rw [i64s_length, h2] at hO
  refine wpList_append1 hgd s y 24 hop i0 (.int .i64 0) 8 Try.underlying24 hi0 hz0 hz1 hz2 rfl hs (hO.alloc _) ⟨w.heap.size, 0, none⟩ 1 (.int .i64 x) hy (by simp) rfl rfl (by rw [i64s_length]; unfold maxLen; omega) (by rw [i64s_length]; omega) ?_
  intro g1 v1 w2 hO1 hg1 hgr
  obtain ⟨c1, hv1, hD⟩ := h4.app hO1 (by simpa using hg1) hgr
  rw [i64s_app] at hD
  rw [i64s_length, h2] at hv1
  subst hv1
  exact hK g1 c1 w2 ⟨g1, c1, zs ++ [x], rfl, by simp [h2], hD⟩
end

end Go.Proofs.Ytpocfmopeaajaaa
