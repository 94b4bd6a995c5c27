/-
  FnExactSameMeaning over what the model and the program answer. (Printed by tools/mksamelaw.py.)
-/
import Derived.Test.YtbadpggmjmodlaaRows
import Derived.Test.YtbadpggmjmodlaaBase
import Derived.Test.YtbadpggmjmodlaaPartLen12
import Derived.Test.YtbadpggmjmodlaaMeanMem
import Derived.Test.YtbadpggmjmodlaaMeanArgs
import Derived.Test.YtbadpggmjmodlaaMeanTo
import Derived.WalkKit
import Derived.ProofKit
import Derived.WalkLawsBesides
import Derived.Deep.RegionHeld3
import Derived.BigQuiet
import Derived.Below
import Derived.Lib.SmallJoins
namespace Go.Proofs.Ytbadpggmjmodlaa
open Go.RowKit Go.Joins ChunkMath

/-- The law's own two arguments in their boxes. -/
def MSt (w : World) (A B : Array Value) (m m2 : Mea) (q q2 : MeaA) (u : World) : Prop := u.heap[w.heap.size]? = some (.cells A 50 (0, 0)) ∧ u.heap[w.heap.size + 1]? = some (.cells B 50 (0, 0)) ∧ Below w.heap.size w u ∧ MeanIn u m q ∧ MeanIn u m2 q2
theorem MSt.called {w u u' : World} {A B : Array Value} {m m2 : Mea} {q q2 : MeaA} (h : MSt w A B m m2 q q2 u) (hb : Below u.heap.size u u') : MSt w A B m m2 q q2 u' := ⟨(hb.block _ (block_lt h.1)).trans h.1, (hb.block _ (block_lt h.2.1)).trans h.2.1, bnext h.2.2.1 hb, h.2.2.2.1.called hb, h.2.2.2.2.called hb⟩
def MBx (u : World) (X : Nat) (A : Array Value) : Prop := u.heap[X]? = some (.cells A 43 (0, 0))
theorem MBx.called {u u' : World} {A : Array Value} {X : Nat} (h : MBx u X A) (hb : Below u.heap.size u u') : MBx u' X A := (hb.block _ (block_lt h)).trans h
/-- And the two copies in theirs. -/
def MSt2 (w : World) (A B : Array Value) (m m2 : Mea) (q q2 : MeaA) (X Y : Nat) (C D : Array Value) (r r2 : MeaA) (u : World) : Prop := MSt w A B m m2 q q2 u ∧ MBx u X C ∧ MBx u Y D ∧ MeanIn u m r ∧ MeanIn u m2 r2
theorem MSt2.called {w u u' : World} {A B C D : Array Value} {m m2 : Mea} {q q2 r r2 : MeaA} {X Y : Nat} (h : MSt2 w A B m m2 q q2 X Y C D r r2 u) (hb : Below u.heap.size u u') : MSt2 w A B m m2 q q2 X Y C D r r2 u' := ⟨h.1.called hb, h.2.1.called hb, h.2.2.1.called hb, h.2.2.2.1.called hb, h.2.2.2.2.called hb⟩

set_option maxRecDepth 100000 in
set_option maxHeartbeats 6400000 in
theorem FnExactSameMeaning_over
    (hx : ∀ m m2 q q2 w, MeanIn w m q → MeanIn w m2 q2 → MeanSz m → MeanSz m2 → Calls Try.prog 18 #[meanV m q, meanV m2 q2] w (LikePost (LikeM m m2) w))
    (hy : ∀ m m2 q q2 w, MeanIn w m q → MeanIn w m2 q2 → MeanSz m → MeanSz m2 → Calls Try.prog 20 #[meanV m q, meanV m2 q2] w (LikePost (LikeM m m2) w))
    (m m2 : Mea) (q q2 : MeaA) (w : World) (hP : MeanIn w m q) (hs : m.pn ≤ maxLen) (hk : m.kn ≤ maxLen) (hm : ∀ i, i < m.kn → (m.K i).1.size ≤ maxLen ∧ (m.K i).2.size ≤ maxLen) (hQ : MeanIn w m2 q2) (hs2 : m2.pn ≤ maxLen) (hk2 : m2.kn ≤ maxLen) (hm2 : ∀ i, i < m2.kn → (m2.K i).1.size ≤ maxLen ∧ (m2.K i).2.size ≤ maxLen) :
    Calls Try.prog 5 #[meanV m q, meanV m2 q2] w fun e w' => e = .returned (.bool true) ∧ Below w.heap.size w w' := by
  have hsz := fun W h => szMean_any m q 1048576 W (by omega) (by omega) h hs hk hm
  have hsz2 := fun z W h0 h1 h => szMean_any m2 q2 z W h0 h1 h hs2 hk2 hm2
  have hto := fun W h hz => toMean_any m q W h hz
  have hto2 := fun W h hz => toMean_any m2 q2 W h hz
  have heq := fun r1 r2 W h1 h2 hz => eqMean_same m r1 r2 W h1 h2 hz
  have heq2 := fun r1 r2 W h1 h2 hz => eqMean_same m2 r1 r2 W h1 h2 hz
  have hx1 := fun r r2 W h h' hz hz' => hx m m2 r r2 W h h' hz hz'
  have hy1 := fun r r2 W h h' hz hz' => hy m m2 r r2 W h h' hz hz'
  clear hs hk hm hs2 hk2 hm2 hx hy
  have HP := hid_of hP
  have HQ := hid_of hQ
  clear hP hQ
  obtain ⟨mw, mh, pn, P, kn, K⟩ := m
  obtain ⟨mw2, mh2, pn2, P2, kn2, K2⟩ := m2
  obtain ⟨pa, pc, ka, kc⟩ := q
  obtain ⟨pa2, pc2, ka2, kc2⟩ := q2
  simp only [meanV] at hsz hsz2 hto hto2 heq heq2 hx1 hy1 ⊢
  have H0 : Hid (MSt w #[.int .i64 mw, .int .i64 mh, .slice pa pn pc, .slice ka kn kc] #[.int .i64 mw2, .int .i64 mh2, .slice pa2 pn2 pc2, .slice ka2 kn2 kc2] ⟨mw, mh, pn, P, kn, K⟩ ⟨mw2, mh2, pn2, P2, kn2, K2⟩ ⟨pa, pc, ka, kc⟩ ⟨pa2, pc2, ka2, kc2⟩ ((w.alloc (.cells #[.int .i64 mw, .int .i64 mh, .slice pa pn pc, .slice ka kn kc] 50)).alloc (.cells #[.int .i64 mw2, .int .i64 mh2, .slice pa2 pn2 pc2, .slice ka2 kn2 kc2] 50))) := by
    have hb : Below w.heap.size w ((w.alloc (.cells #[.int .i64 mw, .int .i64 mh, .slice pa pn pc, .slice ka kn kc] 50)).alloc (.cells #[.int .i64 mw2, .int .i64 mh2, .slice pa2 pn2 pc2, .slice ka2 kn2 kc2] 50)) := bal (bstart _ _) _
    refine ⟨?_, ?_, hb, HP.out.called hb, HQ.out.called hb⟩
    · show ((w.heap.push _).push _)[w.heap.size]? = _
      rw [Array.getElem?_push, if_neg (by simp), Array.getElem?_push, if_pos (by simp)]
    · show ((w.heap.push _).push _)[w.heap.size + 1]? = _
      rw [Array.getElem?_push, if_pos (by simp)]
  clear HP HQ
  go_enter Try.func5, Try.ntmps5
  go_wp2_with fail
  refine (hsz _ H0.out.2.2.2.1).mono ?_
  rintro e w1 ⟨z, rfl, hz, hB⟩
  have H1 := hid_of (H0.out.called hB)
  clear hB H0 hsz
  rcases hz with hz | ⟨hz, hz', hZ⟩
  · have dz : decide (z < 0) = true := decide_eq_true hz
    clear hz
    go_wp2_with fail
    go_ret
    exact ⟨rfl, H1.out.2.2.1⟩
  have dz : decide (z < 0) = false := decide_eq_false (by omega)
  have HZ := hid_of hZ
  clear hZ
  have lb := block_lt H1.out.2.1
  have b0 := (cell_of_block H1.out.2.1 0).trans rfl
  have b1 := (cell_of_block H1.out.2.1 1).trans rfl
  have b2 := (cell_of_block H1.out.2.1 2).trans rfl
  have b3 := (cell_of_block H1.out.2.1 3).trans rfl
  go_wp2_with fail
  clear lb b0 b1 b2 b3
  refine (hsz2 z _ hz hz' H1.out.2.2.2.2).mono ?_
  rintro e w2 ⟨z2, rfl, hz2, hB⟩
  have H2 := hid_of (H1.out.called hB)
  clear hB H1 hsz2 dz hz hz'
  rcases hz2 with hz | ⟨hz, hz', hZ⟩
  · have dz : decide (z2 < 0) = true := decide_eq_true hz
    clear hz
    go_wp2_with fail
    go_ret
    exact ⟨rfl, H2.out.2.2.1⟩
  have dz : decide (z2 < 0) = false := decide_eq_false (by omega)
  have HY := hid_of hZ
  clear hZ hz hz'
  go_wp2_with fail
  have HS0 : MSt w #[.int .i64 mw, .int .i64 mh, .slice pa pn pc, .slice ka kn kc] #[.int .i64 mw2, .int .i64 mh2, .slice pa2 pn2 pc2, .slice ka2 kn2 kc2] ⟨mw, mh, pn, P, kn, K⟩ ⟨mw2, mh2, pn2, P2, kn2, K2⟩ ⟨pa, pc, ka, kc⟩ ⟨pa2, pc2, ka2, kc2⟩ w2.drew := H2.out.called (bdraws (Below.refl _ _) 1)
  clear H2
  refine wp_region_held (S := MSt w #[.int .i64 mw, .int .i64 mh, .slice pa pn pc, .slice ka kn kc] #[.int .i64 mw2, .int .i64 mh2, .slice pa2 pn2 pc2, .slice ka2 kn2 kc2] ⟨mw, mh, pn, P, kn, K⟩ ⟨mw2, mh2, pn2, P2, kn2, K2⟩ ⟨pa, pc, ka, kc⟩ ⟨pa2, pc2, ka2, kc2⟩) (by kernel_rfl) ?_
  show wpAnyH _ _ _ _ _ _ _ _ w2.drew
  generalize w2.drew = u0 at HS0 ⊢
  refine wpAnyH_take (i := 0) (v := .agg #[.int .i64 mw, .int .i64 mh, .slice pa pn pc, .slice ka kn kc]) rfl (by kernel_rfl) (by kernel_rfl) (by kernel_rfl) (fun _ _ _ h => h) (Or.inl ⟨by rfl, ?_⟩) HS0 ?_
  · intro w' hS
    have c0 := (cell_of_block hS.1 0).trans rfl; have c1 := (cell_of_block hS.1 1).trans rfl; have c2 := (cell_of_block hS.1 2).trans rfl; have c3 := (cell_of_block hS.1 3).trans rfl; have cl := block_lt hS.1
    go_simp
  simp only [Act.put, List.getElem_toArray, List.getElem_cons_zero, List.setIfInBounds_toArray, List.set_cons_zero, List.set_cons_succ]
  refine wpAnyH_take (i := 2) (v := .agg #[.int .i64 mw2, .int .i64 mh2, .slice pa2 pn2 pc2, .slice ka2 kn2 kc2]) rfl (by kernel_rfl) (by kernel_rfl) (by kernel_rfl) (fun _ _ _ h => h) (Or.inl ⟨by rfl, ?_⟩) HS0 ?_
  · intro w' hS
    have c0 := (cell_of_block hS.2.1 0).trans rfl; have c1 := (cell_of_block hS.2.1 1).trans rfl; have c2 := (cell_of_block hS.2.1 2).trans rfl; have c3 := (cell_of_block hS.2.1 3).trans rfl; have cl := block_lt hS.2.1
    go_simp
  simp only [Act.put, List.getElem_toArray, List.getElem_cons_zero, List.getElem_cons_succ, List.setIfInBounds_toArray, List.set_cons_zero, List.set_cons_succ]
  refine wpAnyH_ready (rs := [1]) (by kernel_rfl) (by simp) ?_
  refine AllReadyH.cons rfl (fun K1 hK => ?_) AllReadyH.nil
  refine if_wanted (wanted_none rfl) ?_
  simp only [List.getElem_toArray, List.getElem_cons_zero, List.getElem_cons_succ]
  go_simp
  refine (hto _ HS0.2.2.2.1 HZ.out).mono ?_
  rintro e u1 ⟨gp1, gk1, he, hO, hB⟩
  simp only [meanV, meaA] at he
  subst he
  have HT := HS0.called hB
  refine hK.out _ _ HT (fun HS1 => ?_)
  have O1 := hid_of hO
  clear hK hB HT hO
  refine wpAnyH_ready (rs := [3]) (by kernel_rfl) (by simp) ?_
  refine AllReadyH.cons rfl (fun K1 hK => ?_) AllReadyH.nil
  refine if_wanted (wanted_none rfl) ?_
  simp only [List.getElem_toArray, List.getElem_cons_zero, List.getElem_cons_succ]
  go_simp
  refine (hto2 _ HS1.2.2.2.2 HY.out).mono ?_
  rintro e u2 ⟨gp2, gk2, he, hO, hB⟩
  simp only [meanV, meaA] at he
  subst he
  have HT := HS1.called hB
  refine hK.out _ _ HT (fun HS2 => ?_)
  have O2 := hid_of hO
  have HR1 := hid_of (O1.out.called hB)
  clear hB hO HT
  refine wpAnyH_ready (rs := [4]) (by kernel_rfl) (by simp) ?_
  refine AllReadyH.cons rfl (fun K1 hK => ?_) AllReadyH.nil
  refine if_wanted (wanted_none rfl) ?_
  simp only [List.getElem_toArray, List.getElem_cons_zero, List.getElem_cons_succ]
  go_simp
  refine (hx1 (meaA ⟨mw, mh, pn, P, kn, K⟩ gp1 gk1) (meaA ⟨mw2, mh2, pn2, P2, kn2, K2⟩ gp2 gk2) _ HR1.out.lie O2.out.lie HZ.out HY.out).mono ?_
  rintro e u3 ⟨b, rfl, hb, hB⟩
  have HT := HS2.called hB
  refine hK.out _ _ HT (fun HS3 => ?_)
  have HL := hid_of hb
  clear hK hB HT hb HR1 O1 O2
  refine wpAnyH_take (i := 5) (v := .bool b) rfl (by kernel_rfl) (by kernel_rfl) (by kernel_rfl) (fun _ _ _ h => h) (Or.inl ⟨by rfl, ?_⟩) HS3 ?_
  · intro w' _
    go_simp
  simp only [Act.put, List.getElem_toArray, List.getElem_cons_zero, List.getElem_cons_succ, List.setIfInBounds_toArray, List.set_cons_zero, List.set_cons_succ]
  refine wpAnyH_done (by kernel_rfl) ?_ _
  have H3 := hid_of HS3
  clear HS0 HS1 HS2 HS3
  generalize u3 = w3 at H3 ⊢
  have la := block_lt H3.out.1
  have a0 := (cell_of_block H3.out.1 0).trans rfl
  have a1 := (cell_of_block H3.out.1 1).trans rfl
  have a2 := (cell_of_block H3.out.1 2).trans rfl
  have a3 := (cell_of_block H3.out.1 3).trans rfl
  go_wp2_with fail
  clear la a0 a1 a2 a3
  refine (hto _ H3.out.2.2.2.1 HZ.out).mono ?_
  rintro e w4 ⟨gp3, gk3, he, hO, hB⟩
  simp only [meanV, meaA] at he
  subst he
  have H4 := hid_of (H3.out.called hB)
  have O3 := hid_of hO
  clear hB hO H3
  have lb := block_lt H4.out.2.1
  have b0 := (cell_of_block H4.out.2.1 0).trans rfl
  have b1 := (cell_of_block H4.out.2.1 1).trans rfl
  have b2 := (cell_of_block H4.out.2.1 2).trans rfl
  have b3 := (cell_of_block H4.out.2.1 3).trans rfl
  go_wp2_with fail
  clear lb b0 b1 b2 b3
  have H5 := hid_of (H4.out.called (bstart w4 (.cells #[.int .i64 mw, .int .i64 mh, .slice (some ⟨gp3, 0, none⟩) pn pn, .slice (some ⟨gk3, 0, none⟩) kn kn] 43)))
  have X3 : Hid (MBx (w4.alloc (.cells #[.int .i64 mw, .int .i64 mh, .slice (some ⟨gp3, 0, none⟩) pn pn, .slice (some ⟨gk3, 0, none⟩) kn kn] 43)) w4.heap.size #[.int .i64 mw, .int .i64 mh, .slice (some ⟨gp3, 0, none⟩) pn pn, .slice (some ⟨gk3, 0, none⟩) kn kn]) := hid_of (heap_alloc_new _ _)
  have O3 := hid_of (O3.out.called (bstart w4 (.cells #[.int .i64 mw, .int .i64 mh, .slice (some ⟨gp3, 0, none⟩) pn pn, .slice (some ⟨gk3, 0, none⟩) kn kn] 43)))
  clear H4
  generalize w4.alloc (.cells #[.int .i64 mw, .int .i64 mh, .slice (some ⟨gp3, 0, none⟩) pn pn, .slice (some ⟨gk3, 0, none⟩) kn kn] 43) = w5 at H5 X3 O3 ⊢
  generalize w4.heap.size = X at X3 ⊢
  refine (hto2 _ H5.out.2.2.2.2 HY.out).mono ?_
  rintro e w6 ⟨gp4, gk4, he, hO, hB⟩
  simp only [meanV, meaA] at he
  subst he
  have H6 := hid_of (H5.out.called hB)
  have O4 := hid_of hO
  have X3' := hid_of (X3.out.called hB)
  have O3' := hid_of (O3.out.called hB)
  clear hB hO H5 X3 O3
  have l3 := block_lt X3'.out
  have x0 := (cell_of_block X3'.out 0).trans rfl
  have x1 := (cell_of_block X3'.out 1).trans rfl
  have x2 := (cell_of_block X3'.out 2).trans rfl
  have x3 := (cell_of_block X3'.out 3).trans rfl
  go_wp2_with fail
  clear l3 x0 x1 x2 x3
  have H7 := hid_of (H6.out.called (bstart w6 (.cells #[.int .i64 mw2, .int .i64 mh2, .slice (some ⟨gp4, 0, none⟩) pn2 pn2, .slice (some ⟨gk4, 0, none⟩) kn2 kn2] 43)))
  have X4 : Hid (MBx (w6.alloc (.cells #[.int .i64 mw2, .int .i64 mh2, .slice (some ⟨gp4, 0, none⟩) pn2 pn2, .slice (some ⟨gk4, 0, none⟩) kn2 kn2] 43)) w6.heap.size #[.int .i64 mw2, .int .i64 mh2, .slice (some ⟨gp4, 0, none⟩) pn2 pn2, .slice (some ⟨gk4, 0, none⟩) kn2 kn2]) := hid_of (heap_alloc_new _ _)
  have O4 := hid_of (O4.out.called (bstart w6 (.cells #[.int .i64 mw2, .int .i64 mh2, .slice (some ⟨gp4, 0, none⟩) pn2 pn2, .slice (some ⟨gk4, 0, none⟩) kn2 kn2] 43)))
  have X3 := hid_of (X3'.out.called (bstart w6 (.cells #[.int .i64 mw2, .int .i64 mh2, .slice (some ⟨gp4, 0, none⟩) pn2 pn2, .slice (some ⟨gk4, 0, none⟩) kn2 kn2] 43)))
  have O3 := hid_of (O3'.out.called (bstart w6 (.cells #[.int .i64 mw2, .int .i64 mh2, .slice (some ⟨gp4, 0, none⟩) pn2 pn2, .slice (some ⟨gk4, 0, none⟩) kn2 kn2] 43)))
  clear H6 X3' O3'
  generalize w6.alloc (.cells #[.int .i64 mw2, .int .i64 mh2, .slice (some ⟨gp4, 0, none⟩) pn2 pn2, .slice (some ⟨gk4, 0, none⟩) kn2 kn2] 43) = w7 at H7 X3 O3 X4 O4 ⊢
  generalize w6.heap.size = Y at X4 ⊢
  refine (hy1 (meaA ⟨mw, mh, pn, P, kn, K⟩ gp3 gk3) (meaA ⟨mw2, mh2, pn2, P2, kn2, K2⟩ gp4 gk4) _ O3.out.lie O4.out.lie HZ.out HY.out).mono ?_
  rintro e w8 ⟨b2, rfl, hb, hB⟩
  obtain rfl : b2 = b := by
    cases b <;> cases b2
    · rfl
    · exact absurd (HL.out.mpr (hb.mp rfl)) (by simp)
    · exact absurd (hb.mpr (HL.out.mp rfl)) (by simp)
    · rfl
  have nb : (b2 != b2) = false := by simp
  have H8 : Hid (MSt2 w #[.int .i64 mw, .int .i64 mh, .slice pa pn pc, .slice ka kn kc] #[.int .i64 mw2, .int .i64 mh2, .slice pa2 pn2 pc2, .slice ka2 kn2 kc2] ⟨mw, mh, pn, P, kn, K⟩ ⟨mw2, mh2, pn2, P2, kn2, K2⟩ ⟨pa, pc, ka, kc⟩ ⟨pa2, pc2, ka2, kc2⟩ X Y #[.int .i64 mw, .int .i64 mh, .slice (some ⟨gp3, 0, none⟩) pn pn, .slice (some ⟨gk3, 0, none⟩) kn kn] #[.int .i64 mw2, .int .i64 mh2, .slice (some ⟨gp4, 0, none⟩) pn2 pn2, .slice (some ⟨gk4, 0, none⟩) kn2 kn2] (meaA ⟨mw, mh, pn, P, kn, K⟩ gp3 gk3) (meaA ⟨mw2, mh2, pn2, P2, kn2, K2⟩ gp4 gk4) w8) := ⟨H7.out.called hB, X3.out.called hB, X4.out.called hB, O3.out.lie.called hB, O4.out.lie.called hB⟩
  clear hB hb H7 X3 X4 O3 O4 HL
  go_wp2_with fail
  have HS0 : MSt2 w #[.int .i64 mw, .int .i64 mh, .slice pa pn pc, .slice ka kn kc] #[.int .i64 mw2, .int .i64 mh2, .slice pa2 pn2 pc2, .slice ka2 kn2 kc2] ⟨mw, mh, pn, P, kn, K⟩ ⟨mw2, mh2, pn2, P2, kn2, K2⟩ ⟨pa, pc, ka, kc⟩ ⟨pa2, pc2, ka2, kc2⟩ X Y #[.int .i64 mw, .int .i64 mh, .slice (some ⟨gp3, 0, none⟩) pn pn, .slice (some ⟨gk3, 0, none⟩) kn kn] #[.int .i64 mw2, .int .i64 mh2, .slice (some ⟨gp4, 0, none⟩) pn2 pn2, .slice (some ⟨gk4, 0, none⟩) kn2 kn2] (meaA ⟨mw, mh, pn, P, kn, K⟩ gp3 gk3) (meaA ⟨mw2, mh2, pn2, P2, kn2, K2⟩ gp4 gk4) w8.drew := H8.out.called (bdraws (Below.refl _ _) 1)
  clear H8
  refine wp_region_held (S := MSt2 w #[.int .i64 mw, .int .i64 mh, .slice pa pn pc, .slice ka kn kc] #[.int .i64 mw2, .int .i64 mh2, .slice pa2 pn2 pc2, .slice ka2 kn2 kc2] ⟨mw, mh, pn, P, kn, K⟩ ⟨mw2, mh2, pn2, P2, kn2, K2⟩ ⟨pa, pc, ka, kc⟩ ⟨pa2, pc2, ka2, kc2⟩ X Y #[.int .i64 mw, .int .i64 mh, .slice (some ⟨gp3, 0, none⟩) pn pn, .slice (some ⟨gk3, 0, none⟩) kn kn] #[.int .i64 mw2, .int .i64 mh2, .slice (some ⟨gp4, 0, none⟩) pn2 pn2, .slice (some ⟨gk4, 0, none⟩) kn2 kn2] (meaA ⟨mw, mh, pn, P, kn, K⟩ gp3 gk3) (meaA ⟨mw2, mh2, pn2, P2, kn2, K2⟩ gp4 gk4)) (by kernel_rfl) ?_
  show wpAnyH _ _ _ _ _ _ _ _ w8.drew
  generalize w8.drew = u0 at HS0 ⊢
  refine wpAnyH_take (i := 0) (v := .agg #[.int .i64 mw, .int .i64 mh, .slice (some ⟨gp3, 0, none⟩) pn pn, .slice (some ⟨gk3, 0, none⟩) kn kn]) rfl (by kernel_rfl) (by kernel_rfl) (by kernel_rfl) (fun _ _ _ h => h) (Or.inl ⟨by rfl, ?_⟩) HS0 ?_
  · intro w' hS
    have c0 := (cell_of_block hS.2.1 0).trans rfl; have c1 := (cell_of_block hS.2.1 1).trans rfl; have c2 := (cell_of_block hS.2.1 2).trans rfl; have c3 := (cell_of_block hS.2.1 3).trans rfl; have cl := block_lt hS.2.1
    go_simp
  simp only [Act.put, List.getElem_toArray, List.getElem_cons_zero, List.setIfInBounds_toArray, List.set_cons_zero, List.set_cons_succ]
  refine wpAnyH_take (i := 1) (v := .agg #[.int .i64 mw, .int .i64 mh, .slice pa pn pc, .slice ka kn kc]) rfl (by kernel_rfl) (by kernel_rfl) (by kernel_rfl) (fun _ _ _ h => h) (Or.inl ⟨by rfl, ?_⟩) HS0 ?_
  · intro w' hS
    have c0 := (cell_of_block hS.1.1 0).trans rfl; have c1 := (cell_of_block hS.1.1 1).trans rfl; have c2 := (cell_of_block hS.1.1 2).trans rfl; have c3 := (cell_of_block hS.1.1 3).trans rfl; have cl := block_lt hS.1.1
    go_simp
  simp only [Act.put, List.getElem_toArray, List.getElem_cons_zero, List.getElem_cons_succ, List.setIfInBounds_toArray, List.set_cons_zero, List.set_cons_succ]
  refine wpAnyH_ready (rs := [2]) (by kernel_rfl) (by simp) ?_
  refine AllReadyH.cons rfl (fun K1 hK => ?_) AllReadyH.nil
  refine if_wanted (wanted_none rfl) ?_
  simp only [List.getElem_toArray, List.getElem_cons_zero, List.getElem_cons_succ]
  go_simp
  refine (hto _ HS0.1.2.2.2.1 HZ.out).mono ?_
  rintro e u1 ⟨gp5, gk5, he, hO, hB⟩
  simp only [meanV, meaA] at he
  subst he
  have HT := HS0.called hB
  refine hK.out _ _ HT (fun HS1 => ?_)
  have O5 := hid_of hO
  clear hK hB HT hO
  refine wpAnyH_ready (rs := [3]) (by kernel_rfl) (by simp) ?_
  refine AllReadyH.cons rfl (fun K1 hK => ?_) AllReadyH.nil
  refine if_wanted (wanted_none rfl) ?_
  simp only [List.getElem_toArray, List.getElem_cons_zero, List.getElem_cons_succ]
  go_simp
  refine (heq (meaA ⟨mw, mh, pn, P, kn, K⟩ gp3 gk3) (meaA ⟨mw, mh, pn, P, kn, K⟩ gp5 gk5) _ HS1.2.2.2.1 O5.out.lie HZ.out).mono ?_
  rintro e u2 ⟨rfl, hB⟩
  have HT := HS1.called hB
  refine hK.out _ _ HT (fun HS2 => ?_)
  clear hK hB HT O5
  refine wpAnyH_take (i := 4) (v := .bool false) rfl (by kernel_rfl) (by kernel_rfl) (by kernel_rfl) (fun _ _ _ h => h) (Or.inl ⟨by rfl, ?_⟩) HS2 ?_
  · intro w' _
    go_simp
  simp only [Act.put, List.getElem_toArray, List.getElem_cons_zero, List.getElem_cons_succ, List.setIfInBounds_toArray, List.set_cons_zero, List.set_cons_succ]
  refine wpAnyH_done (by kernel_rfl) ?_ _
  have H9 := hid_of HS2
  clear HS0 HS1 HS2
  generalize u2 = w9 at H9 ⊢
  go_wp2_with fail
  have HS0 : MSt2 w #[.int .i64 mw, .int .i64 mh, .slice pa pn pc, .slice ka kn kc] #[.int .i64 mw2, .int .i64 mh2, .slice pa2 pn2 pc2, .slice ka2 kn2 kc2] ⟨mw, mh, pn, P, kn, K⟩ ⟨mw2, mh2, pn2, P2, kn2, K2⟩ ⟨pa, pc, ka, kc⟩ ⟨pa2, pc2, ka2, kc2⟩ X Y #[.int .i64 mw, .int .i64 mh, .slice (some ⟨gp3, 0, none⟩) pn pn, .slice (some ⟨gk3, 0, none⟩) kn kn] #[.int .i64 mw2, .int .i64 mh2, .slice (some ⟨gp4, 0, none⟩) pn2 pn2, .slice (some ⟨gk4, 0, none⟩) kn2 kn2] (meaA ⟨mw, mh, pn, P, kn, K⟩ gp3 gk3) (meaA ⟨mw2, mh2, pn2, P2, kn2, K2⟩ gp4 gk4) w9.drew := H9.out.called (bdraws (Below.refl _ _) 1)
  clear H9
  refine wp_region_held (S := MSt2 w #[.int .i64 mw, .int .i64 mh, .slice pa pn pc, .slice ka kn kc] #[.int .i64 mw2, .int .i64 mh2, .slice pa2 pn2 pc2, .slice ka2 kn2 kc2] ⟨mw, mh, pn, P, kn, K⟩ ⟨mw2, mh2, pn2, P2, kn2, K2⟩ ⟨pa, pc, ka, kc⟩ ⟨pa2, pc2, ka2, kc2⟩ X Y #[.int .i64 mw, .int .i64 mh, .slice (some ⟨gp3, 0, none⟩) pn pn, .slice (some ⟨gk3, 0, none⟩) kn kn] #[.int .i64 mw2, .int .i64 mh2, .slice (some ⟨gp4, 0, none⟩) pn2 pn2, .slice (some ⟨gk4, 0, none⟩) kn2 kn2] (meaA ⟨mw, mh, pn, P, kn, K⟩ gp3 gk3) (meaA ⟨mw2, mh2, pn2, P2, kn2, K2⟩ gp4 gk4)) (by kernel_rfl) ?_
  show wpAnyH _ _ _ _ _ _ _ _ w9.drew
  generalize w9.drew = u0 at HS0 ⊢
  refine wpAnyH_take (i := 0) (v := .agg #[.int .i64 mw2, .int .i64 mh2, .slice (some ⟨gp4, 0, none⟩) pn2 pn2, .slice (some ⟨gk4, 0, none⟩) kn2 kn2]) rfl (by kernel_rfl) (by kernel_rfl) (by kernel_rfl) (fun _ _ _ h => h) (Or.inl ⟨by rfl, ?_⟩) HS0 ?_
  · intro w' hS
    have c0 := (cell_of_block hS.2.2.1 0).trans rfl; have c1 := (cell_of_block hS.2.2.1 1).trans rfl; have c2 := (cell_of_block hS.2.2.1 2).trans rfl; have c3 := (cell_of_block hS.2.2.1 3).trans rfl; have cl := block_lt hS.2.2.1
    go_simp
  simp only [Act.put, List.getElem_toArray, List.getElem_cons_zero, List.setIfInBounds_toArray, List.set_cons_zero, List.set_cons_succ]
  refine wpAnyH_take (i := 1) (v := .agg #[.int .i64 mw2, .int .i64 mh2, .slice pa2 pn2 pc2, .slice ka2 kn2 kc2]) rfl (by kernel_rfl) (by kernel_rfl) (by kernel_rfl) (fun _ _ _ h => h) (Or.inl ⟨by rfl, ?_⟩) HS0 ?_
  · intro w' hS
    have c0 := (cell_of_block hS.1.2.1 0).trans rfl; have c1 := (cell_of_block hS.1.2.1 1).trans rfl; have c2 := (cell_of_block hS.1.2.1 2).trans rfl; have c3 := (cell_of_block hS.1.2.1 3).trans rfl; have cl := block_lt hS.1.2.1
    go_simp
  simp only [Act.put, List.getElem_toArray, List.getElem_cons_zero, List.getElem_cons_succ, List.setIfInBounds_toArray, List.set_cons_zero, List.set_cons_succ]
  refine wpAnyH_ready (rs := [2]) (by kernel_rfl) (by simp) ?_
  refine AllReadyH.cons rfl (fun K1 hK => ?_) AllReadyH.nil
  refine if_wanted (wanted_none rfl) ?_
  simp only [List.getElem_toArray, List.getElem_cons_zero, List.getElem_cons_succ]
  go_simp
  refine (hto2 _ HS0.1.2.2.2.2 HY.out).mono ?_
  rintro e u1 ⟨gp5, gk5, he, hO, hB⟩
  simp only [meanV, meaA] at he
  subst he
  have HT := HS0.called hB
  refine hK.out _ _ HT (fun HS1 => ?_)
  have O5 := hid_of hO
  clear hK hB HT hO
  refine wpAnyH_ready (rs := [3]) (by kernel_rfl) (by simp) ?_
  refine AllReadyH.cons rfl (fun K1 hK => ?_) AllReadyH.nil
  refine if_wanted (wanted_none rfl) ?_
  simp only [List.getElem_toArray, List.getElem_cons_zero, List.getElem_cons_succ]
  go_simp
  refine (heq2 (meaA ⟨mw2, mh2, pn2, P2, kn2, K2⟩ gp4 gk4) (meaA ⟨mw2, mh2, pn2, P2, kn2, K2⟩ gp5 gk5) _ HS1.2.2.2.2 O5.out.lie HY.out).mono ?_
  rintro e u2 ⟨rfl, hB⟩
  have HT := HS1.called hB
  refine hK.out _ _ HT (fun HS2 => ?_)
  clear hK hB HT O5
  refine wpAnyH_take (i := 4) (v := .bool false) rfl (by kernel_rfl) (by kernel_rfl) (by kernel_rfl) (fun _ _ _ h => h) (Or.inl ⟨by rfl, ?_⟩) HS2 ?_
  · intro w' _
    go_simp
  simp only [Act.put, List.getElem_toArray, List.getElem_cons_zero, List.getElem_cons_succ, List.setIfInBounds_toArray, List.set_cons_zero, List.set_cons_succ]
  refine wpAnyH_done (by kernel_rfl) ?_ _
  have H10 := hid_of HS2
  clear HS0 HS1 HS2
  generalize u2 = w10 at H10 ⊢
  go_wp2_with fail
  go_ret
  exact ⟨rfl, H10.out.1.2.2.1⟩
end Go.Proofs.Ytbadpggmjmodlaa
