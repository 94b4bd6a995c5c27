/-
  A range over slices.Backward, where the caller stands: the law that its walk goes by.
-/
import Derived.Test.YtihcapfdpgaeiaaRows
import Derived.Test.YtihcapfdpgaeiaaBase
import Derived.Test.YtihcapfdpgaeiaaBackIter
import Derived.RangeFuncNested
import Derived.RangeFuncBound
import Derived.RangeFuncCalls
import Derived.RangeFuncLeaves
import Derived.Shelf.Abstract
import Derived.Shelf.RegionOpen
import Derived.WalkKit
import Derived.OwnWalkIn
import Derived.TacticsInMore
import Derived.LoopNIn
import Derived.LoopIn
import Derived.ProofKit
import Derived.WalkLawsBesides
import Derived.RegionTactic
import Derived.BigRegion
import Derived.BigQuiet
import Derived.Deep.RegionHeld3
import Derived.Below
import Derived.Lib.SmallJoins
namespace Go.Proofs.Ytihcapfdpgaeiaa
open Go.RowKit Go.Joins Go.Shelf

theorem calls_of_marks {P : Program} {f : FuncId} {fn : Func} {c : Code} {args : Array Value} {w : World} {R : Ending → World → Prop} (hf : P.funcs[f]? = some fn) (hb : fn.body = some c)
    (h : c.wp P (bodyPostM Fence.wide 6 P fn R) { tmps := args ++ Array.replicate (fn.ntmps - args.size) undef, defers := [] } w) : Calls P f args w R :=
  (callsIn_wide (n := 6)).1 (callsIn_of_wp_marks hf hb trivial (wpIn_wide.2 h) rfl)

/-- A range over slices.Backward, where the caller stands. -/
theorem wp_back {α : Type} {T : Array Value} {assign body : Code} {Q : Exit → Act → World → Prop} {W : World} (Bs g off len cap : Nat) (z : Nat → Int) (F : Nat → α) (e1 e2 : α → Value)
    (hf : ({ tmps := T, defers := [] } : Act).eval (.tmp 61) = .func (.func 60) #[] #[.pointer (some ⟨Bs, 0, none⟩)])
    (hlen : len ≤ 1048576) (hF : ∀ m, m < len → (#[e1 (F (len - (m + 1))), e2 (F (len - (m + 1)))] : Array Value) = #[.int .i64 (m : Int), .int .i64 (z m)]) (hBs : Bs < W.heap.size) (hg : g < W.heap.size)
    (hbox : W.cell? ⟨Bs, 0, none⟩ = some (.slice (some ⟨g, off, none⟩) len cap)) (hc : ∀ j, j < len → W.cell? ⟨g, off + j, none⟩ = some (.int .i64 (z j)))
    (I : List α → World → Prop) (Ix : Code → List α → World → Prop) (hI : OwnFrom W.heap.size I) (hIx : ∀ c, OwnFrom W.heap.size (Ix c)) (h0 : I [] W)
    (hassign : ∀ (l : Nat) (x : α) (V : World) (K : Act → World → Prop), K { tmps := ((T.setIfInBounds 62 (e1 x)).setIfInBounds 63 (e2 x)).setIfInBounds 9 (e2 x), defers := [] } V →
      assign.wpIn (Fence.wide.inRound l) 4 Try.prog (Exit.then K (fun _ _ _ => False)) { tmps := (T.setIfInBounds 62 (e1 x)).setIfInBounds 63 (e2 x), defers := [] } V)
    (hbody : ∀ (l : Nat) (pre : List α) (x : α) (V : World), I pre V → body.wpIn (Fence.wide.inRound l) 4 Try.prog (ownPostG W.heap.size (Two Bs g) I Ix (pre ++ [x]) V) { tmps := ((T.setIfInBounds 62 (e1 x)).setIfInBounds 63 (e2 x)).setIfInBounds 9 (e2 x), defers := [] } V)
    (hdone : ∀ (D : Nat) (V : World), W.heap.size ≤ D → I (upto F len) V → V.heap[D]? = some (.deferred (some [])) → Q .normal { tmps := T, defers := [{ target := .collected D, args := #[] }] } V)
    (hstop : ∀ (D : Nat) (c : Code) (k : Nat) (V : World), W.heap.size ≤ D → k ≤ len → Ix c (upto F k) V → V.heap[D]? = some (.deferred (some [])) → c.wp Try.prog Q { tmps := T, defers := [{ target := .collected D, args := #[] }] } V) :
    (Code.rangeFunc (.tmp 61) #[62, 63] assign body).wp Try.prog Q { tmps := T, defers := [] } W := by
  refine (wpIn_wide (n := 6)).1 ?_
  refine wpIn_rangeFunc_ownG rfl (by omega) (gf := 60) (lb := #[.pointer (some ⟨Bs, 0, none⟩)]) hf trivial (enters_of Try.func60 (by kernel_rfl) rfl)
    (back_stops F (fun x => #[e1 x, e2 x]) 5 (by omega) Bs g off len cap z hlen hF W hBs hg hbox hc) two_t (two_b hBs hg) (Below.refl _ _) (fun _ => rfl) I Ix hI hIx h0
    (fun x => { tmps := ((T.setIfInBounds 62 (e1 x)).setIfInBounds 63 (e2 x)).setIfInBounds 9 (e2 x), defers := [] }) ?assign ?body ?done ?stop
  case assign =>
    intro l x V K hK
    refine Eq.mp (congrArg (fun T' => Code.wpIn (Fence.wide.inRound l) 4 Try.prog assign (Exit.then K fun _ _ _ => False) { tmps := T', defers := [] } V) ?_) (hassign l x V K hK)
    simp
  case body =>
    intro l pre x V hi _
    exact hbody l pre x V hi
  case done =>
    rintro D xs V hD rfl hi hK
    exact hdone D V hD hi hK
  case stop =>
    rintro D c pre V hD ⟨k, hk, rfl⟩ hi hK
    exact wpIn_wide.2 (hstop D c k V hD hk hi hK)

end Go.Proofs.Ytihcapfdpgaeiaa
