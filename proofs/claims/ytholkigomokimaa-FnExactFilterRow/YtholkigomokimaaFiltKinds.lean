/-
  The program's map from kinds of filters to what they foretell: made, and looked into; and what each kind foretells.
-/
import Derived.Test.YtholkigomokimaaRows
import Derived.Test.YtholkigomokimaaBase
import Derived.Test.YtholkigomokimaaFiltMath
import Derived.Test.YtholkigomokimaaFiltSmall
import Derived.Maps.Keyed
import Derived.WalkKit
import Derived.ProofKit
import Derived.WalkLawsBesides
import Derived.RegionTactic
import Derived.BigRegion
import Derived.Below
import Derived.Lib.SmallJoins
namespace Go.Proofs.Ytholkigomokimaa
open Go.RowKit Go.Joins Go.Maps TakeMath FiltMath
open Go.ChangeMaps (setBlock heap_setBlock_same heap_setBlock_other)

theorem keyI13 : Keyed Try.prog 3 := int_keyed Try.underlying3
/-- A map under way: nothing stands at the key k, then v does. -/
theorem kind_put {w : World} {M clock : Nat} {es : Array MapEntry} (h1 : w.heap[M]? = some (.map es clock)) (hk : ∀ e ∈ es.toList, ∃ n : Int, (Lit.int .i64 n).wf = true ∧ e.key = .int .i64 n) {k : Int} (hw : (Lit.int .i64 k).wf = true) (hno : ∀ e ∈ es.toList, e.key ≠ .int .i64 k) (v : Value) :
    (Instr.mapUpdate 71 (.map (some M)) (.int .i64 k) v).run Try.prog w = .ok () (setBlock w M (.map (es.push ⟨.int .i64 k, v, clock⟩) (clock + 1))) := by
  have hkey := keyOf_int_mk (P := Try.prog) Try.underlying3 hw
  rcases keyI13.find w hkey es.toList (fun e he => by obtain ⟨n, hn, hq⟩ := hk e he; rw [hq]; exact ⟨_, keyOf_int_mk Try.underlying3 hn⟩) with ⟨f1, f2⟩ | ⟨j, e0, f1, f2, f3⟩
  · simp [Instr.mapUpdate, run_underlying Try.underlying71, MapKept.run_getObj_map h1, keyI13.check w false hkey, f1, MapKept.run_setObj_map _ h1, Result.andThen, setBlock]
  · exact absurd f3 (hno e0 (List.mem_of_getElem? f2))
abbrev fnV (f : Nat) : Value := .func (.func f) #[] #[]
def kindsE : Array MapEntry := #[⟨.int .i64 0, fnV 64, 0⟩, ⟨.int .i64 1, fnV 65, 1⟩, ⟨.int .i64 2, fnV 66, 2⟩, ⟨.int .i64 3, fnV 67, 3⟩, ⟨.int .i64 4, fnV 68, 4⟩]
theorem wf_small13 (n : Int) (h : 0 ≤ n ∧ n ≤ 4) : (Lit.int .i64 n).wf = true := by
  simp [Lit.wf, IntKind.min, IntKind.max, IntKind.signed, IntKind.bits]
  omega
theorem kind_step {w W : World} {M clock : Nat} {es : Array MapEntry} (h1 : W.heap[M]? = some (.map es clock)) (hM : w.heap.size ≤ M) (hb : Below w.heap.size w W) (hk : ∀ e ∈ es.toList, ∃ n : Int, (Lit.int .i64 n).wf = true ∧ e.key = .int .i64 n) {k : Int} (hw : (Lit.int .i64 k).wf = true) (hno : ∀ e ∈ es.toList, e.key ≠ .int .i64 k) (v : Value) :
    ∃ W', (Instr.mapUpdate 71 (.map (some M)) (.int .i64 k) v).run Try.prog W = .ok () W' ∧ W'.heap[M]? = some (.map (es.push ⟨.int .i64 k, v, clock⟩) (clock + 1)) ∧ Below w.heap.size w W' :=
  ⟨_, kind_put h1 hk hw hno v, heap_setBlock_same h1 _, ⟨hb.os, hb.tape, hb.output, by simp [setBlock]; exact hb.size, fun i hi => (heap_setBlock_other h1 _ (by omega)).trans (hb.block i hi)⟩⟩
theorem kinds_any (w : World) : Calls Try.prog 60 #[] w fun e w' => e = .returned (.map (some w.heap.size)) ∧ w'.heap[w.heap.size]? = some (.map kindsE 5) ∧ Below w.heap.size w w' := by
  have hmm := @run_makeMap Try.prog
  obtain ⟨w1, p1, g1, b1⟩ := kind_step (w := w) (heap_alloc_new w (.map #[] 0)) (Nat.le_refl _) (bstart _ _) (by simp) (wf_small13 0 (by omega)) (by simp) (fnV 64)
  obtain ⟨w2, p2, g2, b2⟩ := kind_step (w := w) g1 (Nat.le_refl _) b1 (by simp; exact by decide) (wf_small13 1 (by omega)) (by simp) (fnV 65)
  obtain ⟨w3, p3, g3, b3⟩ := kind_step (w := w) g2 (Nat.le_refl _) b2 (by simp; exact ⟨by decide, by decide⟩) (wf_small13 2 (by omega)) (by simp) (fnV 66)
  obtain ⟨w4, p4, g4, b4⟩ := kind_step (w := w) g3 (Nat.le_refl _) b3 (by simp; exact ⟨by decide, by decide, by decide⟩) (wf_small13 3 (by omega)) (by simp) (fnV 67)
  obtain ⟨w5, p5, g5, b5⟩ := kind_step (w := w) g4 (Nat.le_refl _) b4 (by simp; exact ⟨by decide, by decide, by decide, by decide⟩) (wf_small13 4 (by omega)) (by simp) (fnV 68)
  have H5 : Hid (w5.heap[w.heap.size]? = some (.map kindsE 5) ∧ Below w.heap.size w w5) := ⟨g5, b5⟩
  clear g1 g2 g3 g4 g5 b1 b2 b3 b4 b5
  go_enter Try.func60, Try.ntmps60
  go_wp2_with fail
  go_ret
  exact ⟨rfl, H5.out⟩
/-- The function of a kind. -/
def kindF (k : Int) : Nat := if k = 0 then 64 else if k = 1 then 65 else if k = 2 then 66 else if k = 3 then 67 else 68
theorem kindsE_keys : ∀ e ∈ kindsE.toList, ∃ l, keyOf Try.prog 3 e.key = some l := by
  intro e he
  have hm : ∀ n : Int, 0 ≤ n ∧ n ≤ 4 → ∃ l, keyOf Try.prog 3 (.int .i64 n) = some l := fun n hn => ⟨_, keyOf_int_mk Try.underlying3 (wf_small13 n hn)⟩
  simp only [kindsE, List.mem_cons, List.not_mem_nil, or_false] at he
  rcases he with rfl | rfl | rfl | rfl | rfl
  · exact hm 0 (by omega)
  · exact hm 1 (by omega)
  · exact hm 2 (by omega)
  · exact hm 3 (by omega)
  · exact hm 4 (by omega)
theorem kind_take {w : World} {M : Nat} (h1 : w.heap[M]? = some (.map kindsE 5)) (k : Int) (hk : 0 ≤ k ∧ k ≤ 4) : (Instr.lookup 71 (.map (some M)) (.int .i64 k) false).run Try.prog w = .ok (fnV (kindF k)) w := by
  have hkey := keyOf_int_mk (P := Try.prog) Try.underlying3 (wf_small13 k hk)
  rcases keyI13.find w hkey kindsE.toList kindsE_keys with ⟨f1, f2⟩ | ⟨j, e0, f1, f2, f3⟩
  · refine absurd rfl (f2 ⟨.int .i64 k, fnV (kindF k), k.toNat⟩ ?_)
    obtain rfl | rfl | rfl | rfl | rfl : k = 0 ∨ k = 1 ∨ k = 2 ∨ k = 3 ∨ k = 4 := by omega
    all_goals simp [kindsE, kindF]
  · have hm := List.mem_of_getElem? f2
    have hv : e0.val = fnV (kindF k) := by
      simp only [kindsE, List.mem_cons, List.not_mem_nil, or_false] at hm
      rcases hm with rfl | rfl | rfl | rfl | rfl <;> (cases f3; rfl)
    rw [← hv]
    simp [Instr.lookup, run_underlying Try.underlying71, MapKept.run_getObj_map h1, keyI13.check w _ hkey, f1, Result.andThen]
/-- The three bytes by which one is foretold. -/
abbrev bsV (l u c : Int) : Value := .agg #[.int .i64 l, .int .i64 u, .int .i64 c]
theorem nothing_any (l u c : Int) (w : World) : Calls Try.prog 64 #[bsV l u c] w fun e w' => e = .returned (.int .i64 (told 0 l u c)) ∧ Below w.heap.size w w' := by
  go_enter Try.func64, Try.ntmps64
  go_wp2_with fail
  go_ret
  exact ⟨rfl, bstart _ _⟩
theorem ahead_any (l u c : Int) (w : World) : Calls Try.prog 65 #[bsV l u c] w fun e w' => e = .returned (.int .i64 (told 1 l u c)) ∧ Below w.heap.size w w' := by
  go_enter Try.func65, Try.ntmps65
  go_wp2_with fail
  go_ret
  exact ⟨rfl, bstart _ _⟩
theorem above_any (l u c : Int) (w : World) : Calls Try.prog 66 #[bsV l u c] w fun e w' => e = .returned (.int .i64 (told 2 l u c)) ∧ Below w.heap.size w w' := by
  go_enter Try.func66, Try.ntmps66
  go_wp2_with fail
  go_ret
  exact ⟨rfl, bstart _ _⟩
theorem middle_any (l u c : Int) (w : World) (hl : 0 ≤ l ∧ l < 256) (hu : 0 ≤ u ∧ u < 256) : Calls Try.prog 67 #[bsV l u c] w fun e w' => e = .returned (.int .i64 (told 3 l u c)) ∧ Below w.heap.size w w' := by
  have t2 : (l + u).tdiv 2 = (l + u) / 2 := Int.tdiv_eq_ediv_of_nonneg (by omega)
  go_enter Try.func67, Try.ntmps67
  go_wp2_with fail
  go_ret
  exact ⟨rfl, bstart _ _⟩
theorem nearest_any (l u c : Int) (w : World) (hl : 0 ≤ l ∧ l < 256) (hu : 0 ≤ u ∧ u < 256) (hc : 0 ≤ c ∧ c < 256) : Calls Try.prog 68 #[bsV l u c] w fun e w' => e = .returned (.int .i64 (told 4 l u c)) ∧ Below w.heap.size w w' := by
  have hp := fun W => implPaeth_in l u c W ⟨by omega, by omega⟩ ⟨by omega, by omega⟩ ⟨by omega, by omega⟩
  go_enter Try.func68, Try.ntmps68
  go_wp2_with fail
  refine (hp _).mono ?_
  rintro e w1 ⟨rfl, rfl⟩
  go_wp2_with fail
  go_ret
  exact ⟨rfl, bstart _ _⟩
end Go.Proofs.Ytholkigomokimaa
