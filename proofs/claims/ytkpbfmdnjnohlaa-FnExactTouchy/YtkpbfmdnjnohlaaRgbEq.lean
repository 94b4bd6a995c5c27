/-
  The walks of the laws' helpers that hold colors against colors.
-/
import Derived.Test.YtkpbfmdnjnohlaaRows
import Derived.Test.YtkpbfmdnjnohlaaBase
import Derived.Test.YtkpbfmdnjnohlaaHeadMath
import Derived.Test.YtkpbfmdnjnohlaaRgbLib
import Derived.WalkKit
import Derived.ProofKit
import Derived.WalkLawsBesides
import Derived.Below
import Derived.OwnWalk
import Derived.Laws.MakeOwn
import Derived.Sort.Grow
import Derived.Shelf.SlSortCmp.QuietGrown
import Derived.Lib.SmallJoins
namespace Go.Proofs.Ytkpbfmdnjnohlaa
open Go.RowKit Go.Joins Go.Sort HeadMath

theorem eqRgb_same (x y z : Int) (W : World) : Calls Try.prog 79 #[.agg #[.int .i64 x, .int .i64 y, .int .i64 z], .agg #[.int .i64 x, .int .i64 y, .int .i64 z]] W fun e w' => e = .returned (.bool true) ∧ ∃ k os', w' = grow (W.drewN k) os' := by
  go_enter Try.func79, Try.ntmps79
  go_wp2_with fail
  go_ret
  exact ⟨rfl, 0, _, by rw [alloc_eq_grow, alloc_eq_grow, grow_grow]; rfl⟩

set_option maxHeartbeats 1600000 in
theorem eqRgbS_same (a b : Option Addr) (n c1 c2 : Nat) (F : Nat → Rgb3) (w : World) (ha : RgbCame w a n F) (hb : RgbCame w b n F) (hn : n ≤ 1048576) :
    Calls Try.prog 38 #[.slice a n c1, .slice b n c2] w fun e w' => e = .returned (.bool true) ∧ Below w.heap.size w w' := by
  have mixed : Try.prog.follows .mixedOrders = true := by kernel_rfl
  have HA := hid_of ha
  have HB := hid_of hb
  clear ha hb
  go_enter Try.func38, Try.ntmps38
  go_wp2_with fail
  go_loopw [5] (fun i w' => ∃ (j : Nat), j ≤ n ∧ i = .int .i64 j ∧ Hid (Below w.heap.size w w')) (fun i _ => n - (intOf i).toNat)
  case atStart => exact ⟨0, Nat.zero_le _, rfl, Below.refl _ _⟩
  case round =>
    obtain ⟨j, hj, rfl, hBj⟩ := hrel
    by_cases hlt : j < n
    · rcases HA.out with h0 | ⟨g, off, rfl, hg, hc⟩
      · omega
      · rcases HB.out with h0 | ⟨g', off', rfl, hg', hc'⟩
        · omega
        · have hbg : ∀ n' os, Below w.heap.size w (grow (wr.drewN n') os) := fun n' os => by
            refine hBj.out.trans ⟨rfl, rfl, rfl, ?_, fun k hk => heap_grow_old (wr.drewN n') os (by show k < wr.heap.size; have := hBj.out.size; omega)⟩
            rw [size_grow]
            show wr.heap.size ≤ wr.heap.size + os.size
            omega
          have k0 := fun n' os => ((hbg n' os).cell (p := ⟨g, off + j * 3, none⟩) hg).trans (hc j hlt).1
          have k1 := fun n' os => ((hbg n' os).cell (p := ⟨g, off + j * 3 + 1, none⟩) hg).trans (hc j hlt).2.1
          have k2 := fun n' os => ((hbg n' os).cell (p := ⟨g, off + j * 3 + 2, none⟩) hg).trans (hc j hlt).2.2
          have l0 := fun n' os => ((hbg n' os).cell (p := ⟨g', off' + j * 3, none⟩) hg').trans (hc' j hlt).1
          have l1 := fun n' os => ((hbg n' os).cell (p := ⟨g', off' + j * 3 + 1, none⟩) hg').trans (hc' j hlt).2.1
          have l2 := fun n' os => ((hbg n' os).cell (p := ⟨g', off' + j * 3 + 2, none⟩) hg').trans (hc' j hlt).2.2
          have HBG := hid_of hbg
          have hcb := fun (n' : Nat) (os : Array Obj) => eqRgb_same (F j).1 (F j).2.1 (F j).2.2 (grow (wr.drewN n') os)
          generalize (F j).1 = x at k0 l0 hcb
          generalize (F j).2.1 = y at k1 l1 hcb
          generalize (F j).2.2 = z at k2 l2 hcb
          clear hc hc' hbg
          go_wp2_with fail
          go_quiet_grown (refine Calls.grown_of (hcb _ _))
          have HN := hid_of (HBG.out nq osq)
          clear k0 k1 k2 l0 l1 l2 hcb HBG
          generalize grow (wr.drewN nq) osq = w2 at HN
          go_wp2_with fail
          go_roundw
          case rel => exact ⟨j + 1, by omega, by go_num, HN⟩
          case measure => simp [intOf]; omega
    · go_wp2_with fail
      go_ret
      exact ⟨rfl, hBj.out⟩

end Go.Proofs.Ytkpbfmdnjnohlaa
