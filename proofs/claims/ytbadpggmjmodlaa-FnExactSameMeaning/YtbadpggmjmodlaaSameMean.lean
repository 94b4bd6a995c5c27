/-
  Whether two pictures mean the same: the model and the program. (Printed by tools/mksame.py.)
-/
import Derived.Test.YtbadpggmjmodlaaRows
import Derived.Test.YtbadpggmjmodlaaBase
import Derived.Test.YtbadpggmjmodlaaIntsLib
import Derived.Test.YtbadpggmjmodlaaChkWalks
import Derived.Test.YtbadpggmjmodlaaKeptSpec
import Derived.Test.YtbadpggmjmodlaaLikeImpl
import Derived.Test.YtbadpggmjmodlaaMeanMem
import Derived.WalkKit
import Derived.ProofKit
import Derived.WalkLawsBesides
import Derived.BigQuiet
import Derived.Below
import Derived.Lib.SmallJoins
namespace Go.Proofs.Ytbadpggmjmodlaa
open Go.RowKit Go.Joins ChunkMath

/-- Both in their boxes. -/
def MB2 (w W : World) (A B : Array Value) : Prop := W.heap[w.heap.size]? = some (.cells A 43 (0, 0)) ∧ W.heap[w.heap.size + 1]? = some (.cells B 43 (0, 0)) ∧ Below w.heap.size w W
theorem MB2.called {w W W' : World} {A B : Array Value} (h : MB2 w W A B) (hb : Below W.heap.size W W') : MB2 w W' A B := ⟨(hb.block _ (block_lt h.1)).trans h.1, (hb.block _ (block_lt h.2.1)).trans h.2.1, bnext h.2.2 hb⟩
/-- What the rings have at hand. -/
def LkI (w W : World) (A B : Array Value) (f g : Nat → Int) (j : Nat) : Prop := MB2 w W A B ∧ ∀ i, i < j → f i = g i
def LkK (w W : World) (A B : Array Value) (f g : Nat → Chk) (j : Nat) : Prop := MB2 w W A B ∧ ∀ i, i < j → f i = g i

set_option maxRecDepth 100000 in
set_option maxHeartbeats 6400000 in
theorem implSame (m m2 : Mea) (q q2 : MeaA) (w : World) (hP : MeanIn w m q) (hQ : MeanIn w m2 q2) (hZ : MeanSz m) (hY : MeanSz m2) :
    Calls Try.prog 20 #[meanV m q, meanV m2 q2] w (LikePost (LikeM m m2) w) := by
  obtain ⟨mw, mh, pn, P, kn, K⟩ := m
  obtain ⟨mw2, mh2, pn2, P2, kn2, K2⟩ := m2
  obtain ⟨pa, pc, ka, kc⟩ := q
  obtain ⟨pa2, pc2, ka2, kc2⟩ := q2
  have HC : Hid (Came w pa pn P) := hid_of hP.p
  have HC2 : Hid (Came w pa2 pn2 P2) := hid_of hQ.p
  have HK : Hid (KCame w ka kn K) := hid_of hP.k
  have HK2 : Hid (KCame w ka2 kn2 K2) := hid_of hQ.k
  have hp1 : pn ≤ 1048576 := hZ.p
  have hp2 : pn2 ≤ 1048576 := hY.p
  have hk1 : kn ≤ 1048576 := hZ.k
  have hk2 : kn2 ≤ 1048576 := hY.k
  clear hP hQ hZ hY
  suffices hsuf : ∀ p0 : Prop, (p0 ↔ LikeM ⟨mw, mh, pn, P, kn, K⟩ ⟨mw2, mh2, pn2, P2, kn2, K2⟩) → Calls Try.prog 20 #[.agg #[.int .i64 mw, .int .i64 mh, .slice pa pn pc, .slice ka kn kc], .agg #[.int .i64 mw2, .int .i64 mh2, .slice pa2 pn2 pc2, .slice ka2 kn2 kc2]] w (LikePost p0 w) from hsuf _ Iff.rfl
  intro p0 hp0
  have HR : Hid (p0 ↔ (mw = mw2 ∧ mh = mh2) ∧ LikeI pn pn2 P P2 ∧ LikeK kn kn2 K K2) := hp0
  have HNo : Hid (¬ p0 → ∀ W, Below w.heap.size w W → LikePost p0 w (.returned (.bool false)) W) := fun h W b => like_no h b
  have HYes : Hid (p0 → ∀ W, Below w.heap.size w W → LikePost p0 w (.returned (.bool true)) W) := fun h W b => like_yes h b
  have H0 : Hid (MB2 w ((w.alloc (.cells #[.int .i64 mw, .int .i64 mh, .slice pa pn pc, .slice ka kn kc] 43)).alloc (.cells #[.int .i64 mw2, .int .i64 mh2, .slice pa2 pn2 pc2, .slice ka2 kn2 kc2] 43)) #[.int .i64 mw, .int .i64 mh, .slice pa pn pc, .slice ka kn kc] #[.int .i64 mw2, .int .i64 mh2, .slice pa2 pn2 pc2, .slice ka2 kn2 kc2]) := by
    refine ⟨?_, ?_, bal (bstart _ _) _⟩
    · show ((w.heap.push _).push _)[w.heap.size]? = _
      rw [Array.getElem?_push, if_neg (by simp), Array.getElem?_push, if_pos (by simp)]
    · show ((w.heap.push _).push _)[w.heap.size + 1]? = _
      rw [Array.getElem?_push, if_pos (by simp)]
  clear hp0
  by_cases h0 : mw = mw2
  case neg =>
    have HN := hid_of (HNo.out fun h => h0 (HR.out.mp h).1.1)
    have n0 : ((mw : Int) != (mw2 : Int)) = true := by simp only [bne_iff_ne, ne_eq]; omega
    clear HNo HYes HR h0 HC HC2 HK HK2
    go_enter Try.func20, Try.ntmps20
    go_wp2_with fail
    go_ret
    exact HN.out _ H0.out.2.2
  have n0 : ((mw : Int) != (mw2 : Int)) = false := by simp only [bne_eq_false_iff_eq]; omega
  have E0 := hid_of h0
  clear h0
  by_cases h1 : mh = mh2
  case neg =>
    have HN := hid_of (HNo.out fun h => h1 (HR.out.mp h).1.2)
    have n1 : ((mh : Int) != (mh2 : Int)) = true := by simp only [bne_iff_ne, ne_eq]; omega
    clear HNo HYes HR h1 HC HC2 HK HK2
    go_enter Try.func20, Try.ntmps20
    go_wp2_with fail
    go_ret
    exact HN.out _ H0.out.2.2
  have n1 : ((mh : Int) != (mh2 : Int)) = false := by simp only [bne_eq_false_iff_eq]; omega
  have E1 := hid_of h1
  clear h1
  by_cases h3 : LikeI pn pn2 P P2
  case neg =>
    have HQ := hid_of h3
    have HN := hid_of (HNo.out fun h => h3 (HR.out.mp h).2.1)
    clear HNo HYes HR h3
    go_enter Try.func20, Try.ntmps20
    go_wp2_with fail
    refine (likeI_any pa pa2 pn pn2 pc pc2 P P2 _ (HC.out.called H0.out.2.2) (HC2.out.called H0.out.2.2) hp1 hp2).mono ?_
    rintro e w1 ⟨b, rfl, hb, hB⟩
    obtain rfl : b = false := by
      cases b
      · rfl
      · exact absurd (hb.mp rfl) HQ.out
    have H1 := hid_of (H0.out.called hB)
    clear hB hb H0
    go_wp2_with fail
    go_ret
    exact HN.out _ H1.out.2.2
  have E3 := hid_of h3
  have HE : Hid (LikeK kn kn2 K K2 ↔ p0) := ⟨fun h => HR.out.mpr ⟨⟨E0.out, E1.out⟩, E3.out, h⟩, fun h => (HR.out.mp h).2.2⟩
  clear h3 HNo HYes HR
  go_enter Try.func20, Try.ntmps20
  go_wp2_with fail
  refine (likeI_any pa pa2 pn pn2 pc pc2 P P2 _ (HC.out.called H0.out.2.2) (HC2.out.called H0.out.2.2) hp1 hp2).mono ?_
  rintro e w1 ⟨b, rfl, hb, hB⟩
  obtain rfl : b = true := hb.mpr E3.out
  have H1 := hid_of (H0.out.called hB)
  clear hB hb H0
  have l0 := block_lt H1.out.1
  have l1 := block_lt H1.out.2.1
  have a3 := (cell_of_block H1.out.1 3).trans rfl
  have b3 := (cell_of_block H1.out.2.1 3).trans rfl
  go_wp2_with fail
  clear l0 l1 a3 b3
  refine (likeK_any ka ka2 kn kn2 kc kc2 K K2 _ (HK.out.called H1.out.2.2) (HK2.out.called H1.out.2.2) hk1 hk2).mono ?_
  rintro e w2 ⟨b, rfl, hb, hB⟩
  have H2 := hid_of (bnext H1.out.2.2 hB)
  have HG := hid_of (hb.trans HE.out)
  clear hB hb H1 HE
  go_wp2_with fail
  go_ret
  exact ⟨b, rfl, HG.out, H2.out⟩
set_option maxRecDepth 100000 in
set_option maxHeartbeats 6400000 in
theorem specSame (m m2 : Mea) (q q2 : MeaA) (w : World) (hP : MeanIn w m q) (hQ : MeanIn w m2 q2) (hZ : MeanSz m) (hY : MeanSz m2) :
    Calls Try.prog 18 #[meanV m q, meanV m2 q2] w (LikePost (LikeM m m2) w) := by
  obtain ⟨mw, mh, pn, P, kn, K⟩ := m
  obtain ⟨mw2, mh2, pn2, P2, kn2, K2⟩ := m2
  obtain ⟨pa, pc, ka, kc⟩ := q
  obtain ⟨pa2, pc2, ka2, kc2⟩ := q2
  have HC : Hid (Came w pa pn P) := hid_of hP.p
  have HC2 : Hid (Came w pa2 pn2 P2) := hid_of hQ.p
  have HK : Hid (KCame w ka kn K) := hid_of hP.k
  have HK2 : Hid (KCame w ka2 kn2 K2) := hid_of hQ.k
  have hp1 : pn ≤ 1048576 := hZ.p
  have hp2 : pn2 ≤ 1048576 := hY.p
  have hk1 : kn ≤ 1048576 := hZ.k
  have hk2 : kn2 ≤ 1048576 := hY.k
  clear hP hQ hZ hY
  suffices hsuf : ∀ p0 : Prop, (p0 ↔ LikeM ⟨mw, mh, pn, P, kn, K⟩ ⟨mw2, mh2, pn2, P2, kn2, K2⟩) → Calls Try.prog 18 #[.agg #[.int .i64 mw, .int .i64 mh, .slice pa pn pc, .slice ka kn kc], .agg #[.int .i64 mw2, .int .i64 mh2, .slice pa2 pn2 pc2, .slice ka2 kn2 kc2]] w (LikePost p0 w) from hsuf _ Iff.rfl
  intro p0 hp0
  have HR : Hid (p0 ↔ (mw = mw2 ∧ mh = mh2) ∧ LikeI pn pn2 P P2 ∧ LikeK kn kn2 K K2) := hp0
  have HNo : Hid (¬ p0 → ∀ W, Below w.heap.size w W → LikePost p0 w (.returned (.bool false)) W) := fun h W b => like_no h b
  have HYes : Hid (p0 → ∀ W, Below w.heap.size w W → LikePost p0 w (.returned (.bool true)) W) := fun h W b => like_yes h b
  have H0 : Hid (MB2 w ((w.alloc (.cells #[.int .i64 mw, .int .i64 mh, .slice pa pn pc, .slice ka kn kc] 43)).alloc (.cells #[.int .i64 mw2, .int .i64 mh2, .slice pa2 pn2 pc2, .slice ka2 kn2 kc2] 43)) #[.int .i64 mw, .int .i64 mh, .slice pa pn pc, .slice ka kn kc] #[.int .i64 mw2, .int .i64 mh2, .slice pa2 pn2 pc2, .slice ka2 kn2 kc2]) := by
    refine ⟨?_, ?_, bal (bstart _ _) _⟩
    · show ((w.heap.push _).push _)[w.heap.size]? = _
      rw [Array.getElem?_push, if_neg (by simp), Array.getElem?_push, if_pos (by simp)]
    · show ((w.heap.push _).push _)[w.heap.size + 1]? = _
      rw [Array.getElem?_push, if_pos (by simp)]
  clear hp0
  by_cases h0 : mw = mw2
  case neg =>
    have HN := hid_of (HNo.out fun h => h0 (HR.out.mp h).1.1)
    have n0 : ((mw : Int) != (mw2 : Int)) = true := by simp only [bne_iff_ne, ne_eq]; omega
    clear HNo HYes HR h0 HC HC2 HK HK2
    go_enter Try.func18, Try.ntmps18
    go_wp2_with fail
    go_ret
    exact HN.out _ H0.out.2.2
  have n0 : ((mw : Int) != (mw2 : Int)) = false := by simp only [bne_eq_false_iff_eq]; omega
  have E0 := hid_of h0
  clear h0
  by_cases h1 : mh = mh2
  case neg =>
    have HN := hid_of (HNo.out fun h => h1 (HR.out.mp h).1.2)
    have n1 : ((mh : Int) != (mh2 : Int)) = true := by simp only [bne_iff_ne, ne_eq]; omega
    clear HNo HYes HR h1 HC HC2 HK HK2
    go_enter Try.func18, Try.ntmps18
    go_wp2_with fail
    go_ret
    exact HN.out _ H0.out.2.2
  have n1 : ((mh : Int) != (mh2 : Int)) = false := by simp only [bne_eq_false_iff_eq]; omega
  have E1 := hid_of h1
  clear h1
  by_cases h2 : pn = pn2
  case neg =>
    have HN := hid_of (HNo.out fun h => h2 (HR.out.mp h).2.1.1)
    have n2 : ((pn : Int) != (pn2 : Int)) = true := by simp only [bne_iff_ne, ne_eq]; omega
    clear HNo HYes HR h2 HC HC2 HK HK2
    go_enter Try.func18, Try.ntmps18
    go_wp2_with fail
    go_ret
    exact HN.out _ H0.out.2.2
  have n2 : ((pn : Int) != (pn2 : Int)) = false := by simp only [bne_eq_false_iff_eq]; omega
  have E2 := hid_of h2
  clear h2
  by_cases h3 : kn = kn2
  case neg =>
    have HN := hid_of (HNo.out fun h => h3 (HR.out.mp h).2.2.1)
    have n3 : ((kn : Int) != (kn2 : Int)) = true := by simp only [bne_iff_ne, ne_eq]; omega
    clear HNo HYes HR h3 HC HC2 HK HK2
    go_enter Try.func18, Try.ntmps18
    go_wp2_with fail
    go_ret
    exact HN.out _ H0.out.2.2
  have n3 : ((kn : Int) != (kn2 : Int)) = false := by simp only [bne_eq_false_iff_eq]; omega
  have E3 := hid_of h3
  clear h3
  obtain rfl : pn = pn2 := E2.out
  obtain rfl : kn = kn2 := E3.out
  go_enter Try.func18, Try.ntmps18
  go_wp2_with fail
  go_loopw [5] (fun i w' => ∃ j : Nat, j ≤ pn ∧ i = .int .i64 j ∧ Hid (LkI w w' #[.int .i64 mw, .int .i64 mh, .slice pa pn pc, .slice ka kn kc] #[.int .i64 mw2, .int .i64 mh2, .slice pa2 pn pc2, .slice ka2 kn kc2] P P2 j)) (fun i _ => pn - (intOf i).toNat)
  case atStart => exact ⟨0, Nat.zero_le _, rfl, H0.out, fun i hi => absurd hi (Nat.not_lt_zero i)⟩
  case round =>
    clear H0
    obtain ⟨j, hj, rfl, hI⟩ := hrel
    have l0 := block_lt hI.out.1.1
    have l1 := block_lt hI.out.1.2.1
    have a2 := (cell_of_block hI.out.1.1 2).trans rfl
    have b2 := (cell_of_block hI.out.1.2.1 2).trans rfl
    by_cases hlt : j < pn
    · have HJ : Hid (P j = P2 j → ∀ W, MB2 w W #[.int .i64 mw, .int .i64 mh, .slice pa pn pc, .slice ka kn kc] #[.int .i64 mw2, .int .i64 mh2, .slice pa2 pn pc2, .slice ka2 kn kc2] → LkI w W #[.int .i64 mw, .int .i64 mh, .slice pa pn pc, .slice ka kn kc] #[.int .i64 mw2, .int .i64 mh2, .slice pa2 pn pc2, .slice ka2 kn kc2] P P2 (j + 1)) := fun hv W hW => ⟨hW, fun i hi => by
        by_cases e : i = j
        · rw [e]; exact hv
        · exact hI.out.2 i (by omega)⟩
      have HZ : Hid (¬ P j = P2 j → ∀ W, Below w.heap.size w W → LikePost p0 w (.returned (.bool false)) W) := fun hv => HNo.out fun h => hv ((HR.out.mp h).2.1.2 j hlt)
      rcases HC.out.called hI.out.1.2.2 with h0 | ⟨g1, o1, rfl, hg, hc⟩
      · omega
      · rcases HC2.out.called hI.out.1.2.2 with h0 | ⟨g2, o2, rfl, hg', hc'⟩
        · omega
        · have c0 := hc j hlt
          have c1 := hc' j hlt
          clear hc hc'
          by_cases hv : P j = P2 j
          · have HJ := hid_of (HJ.out hv)
            have dv : (P j != P2 j) = false := by simpa using hv
            generalize P j = x at c0 dv
            generalize P2 j = y at c1 dv
            clear hv HZ
            go_wp2_with fail
            go_quiet (fail)
            have HB2 := hid_of (HJ.out _ (hI.out.1.called (bdraws (Below.refl _ _) nq)))
            clear hI HJ
            go_wp2_with fail
            go_roundw
            case rel => exact ⟨j + 1, by omega, by go_num, HB2⟩
            case measure => simp [intOf]; omega
          · have HZ := hid_of (HZ.out hv)
            have dv : (P j != P2 j) = true := by simpa using hv
            generalize P j = x at c0 dv
            generalize P2 j = y at c1 dv
            clear hv HJ
            go_wp2_with fail
            go_quiet (fail)
            have HB2 := hid_of (hI.out.1.called (bdraws (Below.refl _ _) nq)).2.2
            clear hI
            go_wp2_with fail
            go_ret
            exact HZ.out _ HB2.out
    · obtain rfl : j = pn := by omega
      have EP : Hid (LikeI j j P P2) := ⟨rfl, hI.out.2⟩
      have H0 := hid_of hI.out.1
      clear hI
      go_wp2_with fail
      clear l0 l1 a2 b2
      go_loopw [6] (fun i w' => ∃ k : Nat, k ≤ kn ∧ i = .int .i64 k ∧ Hid (LkK w w' #[.int .i64 mw, .int .i64 mh, .slice pa j pc, .slice ka kn kc] #[.int .i64 mw2, .int .i64 mh2, .slice pa2 j pc2, .slice ka2 kn kc2] K K2 k)) (fun i _ => kn - (intOf i).toNat)
      case atStart => exact ⟨0, Nat.zero_le _, rfl, H0.out, fun i hi => absurd hi (Nat.not_lt_zero i)⟩
      case round =>
        clear H0
        obtain ⟨k, hk, rfl, hI⟩ := hrel
        have l0 := block_lt hI.out.1.1
        have l1 := block_lt hI.out.1.2.1
        have a3 := (cell_of_block hI.out.1.1 3).trans rfl
        have b3 := (cell_of_block hI.out.1.2.1 3).trans rfl
        by_cases hlt : k < kn
        · have HJ : Hid (K k = K2 k → ∀ W, MB2 w W #[.int .i64 mw, .int .i64 mh, .slice pa j pc, .slice ka kn kc] #[.int .i64 mw2, .int .i64 mh2, .slice pa2 j pc2, .slice ka2 kn kc2] → LkK w W #[.int .i64 mw, .int .i64 mh, .slice pa j pc, .slice ka kn kc] #[.int .i64 mw2, .int .i64 mh2, .slice pa2 j pc2, .slice ka2 kn kc2] K K2 (k + 1)) := fun hv W hW => ⟨hW, fun i hi => by
            by_cases e : i = k
            · rw [e]; exact hv
            · exact hI.out.2 i (by omega)⟩
          have HZ : Hid (¬ K k = K2 k → ∀ W, Below w.heap.size w W → LikePost p0 w (.returned (.bool false)) W) := fun hv => HNo.out fun h => hv ((HR.out.mp h).2.2.2 k hlt)
          have HQ : Hid (K k = K2 k ↔ (K k).1 = (K2 k).1 ∧ (K k).2 = (K2 k).2) := Prod.ext_iff
          rcases HK.out.called hI.out.1.2.2 with h0 | ⟨g1, o1, rfl, hg, hc⟩
          · omega
          · rcases HK2.out.called hI.out.1.2.2 with h0 | ⟨g2, o2, rfl, hg', hc'⟩
            · omega
            · have c0 := (hc k hlt).1
              have c1 := (hc k hlt).2
              have k0 := (hc' k hlt).1
              have k1 := (hc' k hlt).2
              clear hc hc'
              generalize (K k).1 = x at *
              generalize (K k).2 = y at *
              generalize (K2 k).1 = u at *
              generalize (K2 k).2 = v at *
              by_cases h1 : x = u
              · have d1 : (x.toList == u.toList) = true := text_is h1
                by_cases h2 : y = v
                · have d2 : (y.toList == v.toList) = true := text_is h2
                  have HJ := hid_of (HJ.out (HQ.out.mpr ⟨h1, h2⟩))
                  clear h1 h2 HZ HQ
                  go_wp2_with fail
                  go_quiet (fail)
                  have HB2 := hid_of (HJ.out _ (hI.out.1.called (bdraws (Below.refl _ _) nq)))
                  clear hI HJ
                  go_wp2_with fail
                  go_roundw
                  case rel => exact ⟨k + 1, by omega, by go_num, HB2⟩
                  case measure => simp [intOf]; omega
                · have d2 : (y.toList == v.toList) = false := text_not h2
                  have HZ := hid_of (HZ.out fun e => h2 (HQ.out.mp e).2)
                  clear h1 h2 HJ HQ
                  go_wp2_with fail
                  go_quiet (fail)
                  have HB2 := hid_of (hI.out.1.called (bdraws (Below.refl _ _) nq)).2.2
                  clear hI
                  go_wp2_with fail
                  go_ret
                  exact HZ.out _ HB2.out
              · have d1 : (x.toList == u.toList) = false := text_not h1
                have HZ := hid_of (HZ.out fun e => h1 (HQ.out.mp e).1)
                clear h1 HJ HQ
                go_wp2_with fail
                go_quiet (fail)
                have HB2 := hid_of (hI.out.1.called (bdraws (Below.refl _ _) nq)).2.2
                clear hI
                go_wp2_with fail
                go_ret
                exact HZ.out _ HB2.out
        · obtain rfl : k = kn := by omega
          have HY := hid_of (HYes.out (HR.out.mpr ⟨⟨E0.out, E1.out⟩, EP.out, ⟨rfl, hI.out.2⟩⟩))
          go_wp2_with fail
          go_ret
          exact HY.out _ hI.out.1.2.2
end Go.Proofs.Ytbadpggmjmodlaa
