/-
  A copy of what a picture means, and two compared. (Printed by tools/mkmeanto.py.)
-/
import Derived.Test.YtbadpggmjmodlaaRows
import Derived.Test.YtbadpggmjmodlaaBase
import Derived.Test.YtbadpggmjmodlaaIntsWalks
import Derived.Test.YtbadpggmjmodlaaChkArgs
import Derived.Test.YtbadpggmjmodlaaChkWalks
import Derived.Test.YtbadpggmjmodlaaPngTo
import Derived.Test.YtbadpggmjmodlaaMeanMem
import Derived.WalkKit
import Derived.ProofKit
import Derived.WalkLawsBesides
import Derived.Below
import Derived.Lib.SmallJoins
namespace Go.Proofs.Ytbadpggmjmodlaa
open Go.RowKit Go.Joins ChunkMath

/-- The copy that is under way. -/
def TM (w W : World) (A O : Array Value) : Prop := W.heap[w.heap.size]? = some (.cells A 50 (0, 0)) ∧ (∃ Z, W.heap[w.heap.size + 1]? = some (.cells Z 43 (0, 0)) ∧ Z.size = 4) ∧ W.heap[w.heap.size + 1 + 1]? = some (.cells O 43 (0, 0)) ∧ Below w.heap.size w W
theorem TM.called {w W W' : World} {A O : Array Value} (h : TM w W A O) (hb : Below W.heap.size W W') : TM w W' A O := by
  obtain ⟨h1, ⟨Z, h2, hz⟩, h3, h4⟩ := h
  exact ⟨(hb.block _ (block_lt h1)).trans h1, ⟨Z, (hb.block _ (block_lt h2)).trans h2, hz⟩, (hb.block _ (block_lt h3)).trans h3, bnext h4 hb⟩
theorem TM.set {w W : World} {A O : Array Value} (h : TM w W A O) (k : Nat) (v : Value) : TM w (W.setCell ⟨w.heap.size + 1 + 1, k, none⟩ v) A (O.setIfInBounds k v) := by
  obtain ⟨h1, ⟨Z, h2, hz⟩, h3, h4⟩ := h
  refine ⟨?_, ⟨Z, ?_, hz⟩, ?_, h4.setCell (p := ⟨w.heap.size + 1 + 1, k, none⟩) (by simp; omega) v⟩
  · rw [Below.heap_setCell _ _ _ _ (by simp; omega)]; exact h1
  · rw [Below.heap_setCell _ _ _ _ (by simp)]; exact h2
  · simp [World.setCell, Array.getElem?_modify, h3]
theorem TM.facts {w W : World} {A O : Array Value} (h : TM w W A O) : w.heap.size < W.heap.size ∧ w.heap.size + 1 < W.heap.size ∧ w.heap.size + 1 + 1 < W.heap.size ∧ (∀ k, W.cell? ⟨w.heap.size, k, none⟩ = A[k]?) ∧ (∀ k, W.cell? ⟨w.heap.size + 1 + 1, k, none⟩ = O[k]?) ∧ (∀ k, k < 4 → ∃ u, W.cell? ⟨w.heap.size + 1, k, none⟩ = some u) ∧ (∀ k, W.frozen? ⟨w.heap.size + 1 + 1, k, none⟩ = false) ∧ (∀ k, W.frozen? ⟨w.heap.size + 1, k, none⟩ = false) := by
  obtain ⟨h1, ⟨Z, h2, hz⟩, h3, h4⟩ := h
  refine ⟨block_lt h1, block_lt h2, block_lt h3, fun k => cell_of_block h1 k, fun k => cell_of_block h3 k, fun k hk => ⟨Z[k]'(by omega), (cell_of_block h2 k).trans (Array.getElem?_eq_getElem (by omega))⟩, fun k => by simp [World.frozen?, h3], fun k => by simp [World.frozen?, h2]⟩
/-- What a copy is. -/
def MeanCopy (w : World) (m : Mea) (e : Ending) (w' : World) : Prop := ∃ gp gk, e = .returned (meanV m (meaA m gp gk)) ∧ MeanOwn w' w.heap.size m gp gk ∧ Below w.heap.size w w'
set_option maxRecDepth 100000 in
set_option maxHeartbeats 6400000 in
theorem toMean_any (m : Mea) (q : MeaA) (w : World) (hP : MeanIn w m q) (hZ : MeanSz m) :
    Calls Try.prog 19 #[meanV m q] w (MeanCopy w m) := by
  obtain ⟨mw, mh, pn, P, kn, K⟩ := m
  obtain ⟨pa, pc, ka, kc⟩ := q
  have HC : Hid (Came w pa pn P) := hid_of hP.p
  have HK : Hid (KCame w ka kn K) := hid_of hP.k
  have hc2 : pn ≤ 1048576 := hZ.p
  have hk' : kn ≤ 1048576 := hZ.k
  clear hP hZ
  have H1' : Hid (TM w (((w.alloc (.cells #[.int .i64 mw, .int .i64 mh, .slice pa pn pc, .slice ka kn kc] 50)).alloc (.cells #[.int .i64 0, .int .i64 0, .slice none 0 0, .slice none 0 0] 43)).alloc (.cells #[.int .i64 mw, .int .i64 mh, .slice none 0 0, .slice none 0 0] 43)) #[.int .i64 mw, .int .i64 mh, .slice pa pn pc, .slice ka kn kc] #[.int .i64 mw, .int .i64 mh, .slice none 0 0, .slice none 0 0]) := by
    refine ⟨?_, ⟨#[.int .i64 0, .int .i64 0, .slice none 0 0, .slice none 0 0], ?_, rfl⟩, ?_, bal (bal (bstart _ _) _) _⟩
    rotate_left
    · show (((w.heap.push _).push _).push _)[w.heap.size + 1]? = _
      rw [Array.getElem?_push, if_neg (by simp), Array.getElem?_push, if_pos (by simp)]
    · show (((w.heap.push _).push _).push _)[w.heap.size + 1 + 1]? = _
      rw [Array.getElem?_push, if_pos (by simp)]
    · show (((w.heap.push _).push _).push _)[w.heap.size]? = _
      rw [Array.getElem?_push, if_neg (by simp; omega), Array.getElem?_push, if_neg (by simp), Array.getElem?_push, if_pos (by simp)]
  show Calls Try.prog 19 #[.agg #[.int .i64 mw, .int .i64 mh, .slice pa pn pc, .slice ka kn kc]] w _
  go_enter Try.func19, Try.ntmps19
  go_wp2_with fail
  refine (toIntS_g pa pn pc P _ (HC.out.called H1'.out.2.2.2) hc2).mono ?_
  rintro e w2 ⟨gp, rfl, hge, hlt, hO, hB⟩
  have H2 := hid_of (H1'.out.called hB)
  have hz : w.heap.size + 1 + 1 < _ := block_lt H1'.out.2.2.1
  have G1 : Hid (IOwn w2 w.heap.size gp pn pn P ∧ w.heap.size + 1 + 1 < gp ∧ gp < w2.heap.size) := ⟨hO _ (by omega), by omega, hlt⟩
  clear hge hlt hO hB hz H1'
  obtain ⟨l0, l1, l2, cA, cO, cZ, fO, fZ⟩ := H2.out.facts
  have a3 := (cA 3).trans rfl
  have o2 := (cO 2).trans rfl
  clear cA cO cZ fZ
  go_wp2_with fail
  clear l0 l1 l2 fO a3 o2
  have H2' : Hid (TM w _ #[.int .i64 mw, .int .i64 mh, .slice pa pn pc, .slice ka kn kc] #[.int .i64 mw, .int .i64 mh, .slice (some ⟨gp, 0, none⟩) pn pn, .slice none 0 0]) := H2.out.set 2 (.slice (some ⟨gp, 0, none⟩) pn pn)
  clear H2
  refine (toChunkS_g ka kn kc K _ (HK.out.called H2'.out.2.2.2) hk').mono ?_
  rintro e w3 ⟨gk, rfl, hge, hlt, hO, hB⟩
  have H3 := hid_of (H2'.out.called hB)
  have hz : w.heap.size + 1 + 1 < _ := block_lt H2'.out.2.2.1
  have q1 := G1.out.2
  have G2 : Hid (KOwn w3 w.heap.size gk kn K ∧ w.heap.size + 1 + 1 < gk) := ⟨hO _ (by omega), by omega⟩
  have G1' : Hid (IOwn w3 w.heap.size gp pn pn P ∧ w.heap.size + 1 + 1 < gp) := ⟨(G1.out.1.keep (by repeat' rw [Below.heap_setCell _ _ _ _ (by first | (simp; done) | (simp; omega))])).called hB, by omega⟩
  have L : Hid (gp < gk) := by show _ < _; simp at hge; omega
  clear hge hlt hO hB hz H2' G1 q1
  obtain ⟨l0, l1, l2, cA, cO, cZ, fO, fZ⟩ := H3.out.facts
  have o0 := (cO 0).trans rfl
  have o1 := (cO 1).trans rfl
  have o2 := (cO 2).trans rfl
  have o3 := (cO 3).trans rfl
  obtain ⟨u0, z0⟩ := cZ 0 (by omega)
  obtain ⟨u1, z1⟩ := cZ 1 (by omega)
  obtain ⟨u2, z2⟩ := cZ 2 (by omega)
  obtain ⟨u3, z3⟩ := cZ 3 (by omega)
  clear cA cO cZ
  go_wp2_with fail
  refine bodyPost_ret (v := .agg #[.int .i64 mw, .int .i64 mh, .slice (some ⟨gp, 0, none⟩) pn pn, .slice (some ⟨gk, 0, none⟩) kn kn]) ?_ rfl ⟨gp, gk, rfl, ⟨?_, ?_, ?_⟩, ?_⟩
  · simp [results, Try.results19, go_sem, *]
  · have q := G1'.out.2
    refine G1'.out.1.keep ?_
    repeat' rw [Below.heap_setCell _ _ _ _ (by first | (simp; done) | (simp; omega))]
  · have q := G2.out.2
    refine G2.out.1.keep ?_
    repeat' rw [Below.heap_setCell _ _ _ _ (by first | (simp; done) | (simp; omega))]
  · exact L.out
  · repeat' refine Below.setCell ?_ (by first | (simp; done) | (simp; omega)) _
    exact H3.out.2.2.2
set_option maxRecDepth 100000 in
set_option maxHeartbeats 3200000 in
theorem eqMean_same (m : Mea) (q r : MeaA) (w : World) (hP : MeanIn w m q) (hQ : MeanIn w m r) (hZ : MeanSz m) :
    Calls Try.prog 13 #[meanV m q, meanV m r] w fun e w' => e = .returned (.bool true) ∧ Below w.heap.size w w' := by
  obtain ⟨mw, mh, pn, P, kn, K⟩ := m
  obtain ⟨pa, pc, ka, kc⟩ := q
  obtain ⟨pa2, pc2, ka2, kc2⟩ := r
  have HC : Hid (Came w pa pn P ∧ Came w pa2 pn P) := ⟨hP.p, hQ.p⟩
  have HK : Hid (KCame w ka kn K ∧ KCame w ka2 kn K) := ⟨hP.k, hQ.k⟩
  have hc2 : pn ≤ 1048576 := hZ.p
  have hk' : kn ≤ 1048576 := hZ.k
  have n0 : (mw != mw) = false := by simp
  have n1 : (mh != mh) = false := by simp
  clear hP hQ hZ
  have H0 : Hid (((w.alloc (.cells #[.int .i64 mw, .int .i64 mh, .slice pa pn pc, .slice ka kn kc] 43)).alloc (.cells #[.int .i64 mw, .int .i64 mh, .slice pa2 pn pc2, .slice ka2 kn kc2] 43)).heap[w.heap.size]? = some (.cells #[.int .i64 mw, .int .i64 mh, .slice pa pn pc, .slice ka kn kc] 43 (0, 0)) ∧ ((w.alloc (.cells #[.int .i64 mw, .int .i64 mh, .slice pa pn pc, .slice ka kn kc] 43)).alloc (.cells #[.int .i64 mw, .int .i64 mh, .slice pa2 pn pc2, .slice ka2 kn kc2] 43)).heap[w.heap.size + 1]? = some (.cells #[.int .i64 mw, .int .i64 mh, .slice pa2 pn pc2, .slice ka2 kn kc2] 43 (0, 0)) ∧ Below w.heap.size w ((w.alloc (.cells #[.int .i64 mw, .int .i64 mh, .slice pa pn pc, .slice ka kn kc] 43)).alloc (.cells #[.int .i64 mw, .int .i64 mh, .slice pa2 pn pc2, .slice ka2 kn kc2] 43))) := by
    refine ⟨?_, ?_, bal (bstart _ _) _⟩
    · show ((w.heap.push _).push _)[w.heap.size]? = _
      rw [Array.getElem?_push, if_neg (by simp), Array.getElem?_push, if_pos (by simp)]
    · show ((w.heap.push _).push _)[w.heap.size + 1]? = _
      rw [Array.getElem?_push, if_pos (by simp)]
  show Calls Try.prog 13 #[.agg #[.int .i64 mw, .int .i64 mh, .slice pa pn pc, .slice ka kn kc], .agg #[.int .i64 mw, .int .i64 mh, .slice pa2 pn pc2, .slice ka2 kn kc2]] w _
  go_enter Try.func13, Try.ntmps13
  go_wp2_with fail
  refine (eqIntS_same pa pa2 pn pc pc2 P _ (HC.out.1.called H0.out.2.2) (HC.out.2.called H0.out.2.2) hc2).mono ?_
  rintro e w1 ⟨rfl, hB⟩
  have H1 : Hid (w1.heap[w.heap.size]? = some (.cells #[.int .i64 mw, .int .i64 mh, .slice pa pn pc, .slice ka kn kc] 43 (0, 0)) ∧ w1.heap[w.heap.size + 1]? = some (.cells #[.int .i64 mw, .int .i64 mh, .slice pa2 pn pc2, .slice ka2 kn kc2] 43 (0, 0)) ∧ Below w.heap.size w w1) := ⟨(hB.block _ (block_lt H0.out.1)).trans H0.out.1, (hB.block _ (block_lt H0.out.2.1)).trans H0.out.2.1, bnext H0.out.2.2 hB⟩
  clear hB H0
  have l0 := block_lt H1.out.1
  have l1 := block_lt H1.out.2.1
  have a3 := (cell_of_block H1.out.1 3).trans rfl
  have b3 := (cell_of_block H1.out.2.1 3).trans rfl
  go_wp2_with fail
  clear l0 l1 a3 b3
  refine (eqChunkS_same ka ka2 kn kc kc2 K _ (HK.out.1.called H1.out.2.2) (HK.out.2.called H1.out.2.2) hk').mono ?_
  rintro e w2 ⟨rfl, hB⟩
  have H2 := hid_of (bnext H1.out.2.2 hB)
  clear hB H1
  go_wp2_with fail
  go_ret
  exact ⟨rfl, H2.out⟩
end Go.Proofs.Ytbadpggmjmodlaa
