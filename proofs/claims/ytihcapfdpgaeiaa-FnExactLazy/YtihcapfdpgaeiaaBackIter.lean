/-
  The library's slices.Backward, ranged over: its contract.
-/
import Derived.Test.YtihcapfdpgaeiaaRows
import Derived.Test.YtihcapfdpgaeiaaBase
import Derived.RangeFuncBox
import Derived.RangeFuncLeaves
import Derived.Shelf.Abstract
import Derived.WalkKit
import Derived.OwnWalkIn
import Derived.TacticsInMore
import Derived.LoopNIn
import Derived.LoopIn
import Derived.Below
namespace Go.Proofs.Ytihcapfdpgaeiaa
open Go.RowKit Go.Shelf

attribute [local go_sem] Oper.semAt_some

/-- What has come when k rounds are over. -/
def upto {α : Type} (f : Nat → α) (k : Nat) : List α := (List.range k).map f
theorem upto_succ {α : Type} (f : Nat → α) (k : Nat) : upto f (k + 1) = upto f k ++ [f k] := by simp [upto, List.range_succ]
theorem upto_length {α : Type} (f : Nat → α) (k : Nat) : (upto f k).length = k := by simp [upto]

/-- Two blocks lie as they lay. -/
def Two (a b : Nat) (W W' : World) : Prop := W'.heap[a]? = W.heap[a]? ∧ W'.heap[b]? = W.heap[b]?
theorem two_refl (a b : Nat) (W : World) : Two a b W W := ⟨rfl, rfl⟩
theorem two_t {a b : Nat} {A B C : World} (h : Two a b A B) (k : Two a b B C) : Two a b A C := ⟨k.1.trans h.1, k.2.trans h.2⟩
theorem two_b {a b : Nat} {w : World} (ha : a < w.heap.size) (hb : b < w.heap.size) (W : World) (l : Nat) (o o' : Obj) (hl : w.heap.size ≤ l) (_ : W.heap[l]? = some o) (_ : o.isCells = false) (_ : o.isWalk = false) : Two a b W (W.putObj l o') :=
  ⟨World.putObj_heap_other (by omega), World.putObj_heap_other (by omega)⟩
theorem cell_heap {W W' : World} {g : Nat} (h : W'.heap[g]? = W.heap[g]?) (j : Nat) : W'.cell? ⟨g, j, none⟩ = W.cell? ⟨g, j, none⟩ := by
  unfold World.cell?
  rw [h]

set_option maxRecDepth 100000 in
set_option maxHeartbeats 2000000 in
theorem back1_in {α : Type} (F : Nat → α) (encs : α → Array Value) (n : Nat) (hn : 1 ≤ n) (l Bs g off len cap : Nat) (z : Nat → Int) (hlen : len ≤ 1048576)
    (hF : ∀ m, m < len → encs (F (len - (m + 1))) = #[.int .i64 (m : Int), .int .i64 (z m)]) (J Jx : List α → World → Prop)
    (hY : ∀ pre x W, J pre W → pre.length < len → YieldAt Fence.wide (n - 1) Try.prog l (encs x) W fun e W' =>
      (e = .returned (.bool true) ∧ J (pre ++ [x]) W' ∧ Two Bs g W W') ∨ (e = .returned (.bool false) ∧ Jx (pre ++ [x]) W'))
    (W : World) (hBs : W.cell? ⟨Bs, 0, none⟩ = some (.slice (some ⟨g, off, none⟩) len cap)) (hc : ∀ j, j < len → W.cell? ⟨g, off + j, none⟩ = some (.int .i64 (z j))) (h0 : J [] W) :
    CallsIn Fence.wide n Try.prog 60 #[.func (.yield l) #[] #[], .pointer (some ⟨Bs, 0, none⟩)] W fun e W' => (∃ v, e = .returned v) ∧
      ((∃ ys, ys = upto F len ∧ J ys W') ∨ (∃ pre, (∃ k, k ≤ len ∧ pre = upto F k) ∧ Jx pre W')) := by
  refine callsIn_of_wp Try.func60 rfl trivial ?_ rfl
  simp only [Try.ntmps60, List.size_toArray, List.length_cons, List.length_nil, Nat.reduceAdd, Nat.reduceSub, Array.replicate_succ, Array.replicate_zero, List.push_toArray, List.append_toArray, List.nil_append, List.cons_append]
  gi_wp2
  gi_loopw [3] (fun i wr => ∃ r : Nat, r ≤ len ∧ i = .int .i64 ((r : Int) - 1) ∧ J (upto F (len - r)) wr ∧ Hid (Two Bs g W wr))
    (fun i _ => (intOf i + 1).toNat)
  case atStart => exact ⟨len, Nat.le_refl _, rfl, by rw [Nat.sub_self]; exact h0, two_refl _ _ _⟩
  case round =>
    obtain ⟨r, hr, rfl, hJs, hnx⟩ := hrel
    have hBs' : wr.cell? ⟨Bs, 0, none⟩ = some (.slice (some ⟨g, off, none⟩) len cap) := (cell_heap hnx.out.1 0).trans hBs
    cases r with
    | zero =>
      gi_wp2
      go_end0
      exact ⟨⟨_, rfl⟩, .inl ⟨_, rfl, hJs⟩⟩
    | succ m =>
      have em : (((m + 1 : Nat) : Int)) - 1 = (m : Int) := by omega
      rw [em]
      obtain ⟨fn, tmps, assign, body, hy, hR⟩ := hY _ (F (len - (m + 1))) wr hJs (by rw [upto_length]; omega)
      rw [hF m (by omega)] at hy
      have hcx : wr.cell? ⟨g, off + m, none⟩ = some (.int .i64 (z m)) := (cell_heap hnx.out.2 (off + m)).trans (hc m (by omega))
      have hlt : (m : Int) < (len : Int) := by omega
      gi_wp2
      refine hR.mono ?_
      rintro e W3 (⟨rfl, hJ3, hk3⟩ | ⟨rfl, hJx3⟩)
      · gi_wp2
        go_roundw
        case rel => exact ⟨m, by omega, by simp, by rw [show len - m = len - (m + 1) + 1 by omega, upto_succ]; exact hJ3, two_t hnx.out hk3⟩
        case measure => simp [intOf]
      · gi_wp2
        refine bodyPost_ret (results_none rfl _ _ _) rfl ?_
        exact ⟨⟨_, rfl⟩, .inr ⟨_, ⟨len - (m + 1) + 1, by omega, (upto_succ _ _).symm⟩, hJx3⟩⟩

/-- slices.Backward(s): the slice is boxed; the function captures the box. -/
theorem back_any (a : Option Addr) (len cap : Nat) (w : World) :
    Calls Try.prog 50 #[.slice a len cap] w fun e w' => e = .returned (.func (.func 60) #[] #[.pointer (some ⟨w.heap.size, 0, none⟩)]) ∧ w' = w.alloc (.cells #[.slice a len cap] 25) := by
  go_enter Try.func50, Try.ntmps50
  go_wp2_with fail
  go_ret
  exact ⟨rfl, rfl⟩

/-- What it hands back goes from the last to the first, or stops. -/
theorem back_stops {α : Type} (F : Nat → α) (encs : α → Array Value) (n : Nat) (hn : 1 ≤ n) (Bs g off len cap : Nat) (z : Nat → Int) (hlen : len ≤ 1048576)
    (hF : ∀ m, m < len → encs (F (len - (m + 1))) = #[.int .i64 (m : Int), .int .i64 (z m)]) (w : World) (hBs : Bs < w.heap.size) (hg : g < w.heap.size)
    (hbox : w.cell? ⟨Bs, 0, none⟩ = some (.slice (some ⟨g, off, none⟩) len cap)) (hc : ∀ j, j < len → w.cell? ⟨g, off + j, none⟩ = some (.int .i64 (z j))) :
    SeqStopsK Fence.wide n Try.prog 60 #[.pointer (some ⟨Bs, 0, none⟩)] encs (Two Bs g) (fun ys => ys = upto F len) (fun pre => ∃ k, k ≤ len ∧ pre = upto F k) len w := fun l J Jx W hW _ _ hY h0 =>
  back1_in F encs n hn l Bs g off len cap z hlen hF J Jx hY W ((hW.cell (p := ⟨Bs, 0, none⟩) hBs).trans hbox) (fun j hj => (hW.cell (p := ⟨g, off + j, none⟩) hg).trans (hc j hj)) h0

end Go.Proofs.Ytihcapfdpgaeiaa
