/-
  The walks of the document's model where it draws a raster's colour, depth and greatest side.
-/
import Derived.Test.YtcnlcbkgbcnloaaRows
import Derived.Test.YtcnlcbkgbcnloaaHk01
import Derived.Test.YtcnlcbkgbcnloaaHk02
import Derived.Test.YtcnlcbkgbcnloaaHk03
import Derived.Test.YtcnlcbkgbcnloaaHk24
import Derived.Test.YtcnlcbkgbcnloaaHk05
import Derived.Test.YtcnlcbkgbcnloaaHk07
import Derived.Test.YtcnlcbkgbcnloaaHk04
import Derived.Test.YtcnlcbkgbcnloaaHk30
import Derived.WalkKit
import Derived.ProofKit
import Derived.WalkLawsBesides
import Derived.Below
import Derived.Deep.AppendLies
import Derived.Lib.SmallJoins
namespace Go.Proofs.Ytcnlcbkgbcnloaa
open Go.RowKit Go.Joins RastMath

/-- A colour. -/
abbrev ColR (x : Int) : Prop := x = 0 ∨ x = 2 ∨ x = 3 ∨ x = 4 ∨ x = 6
theorem grown_alloc14 {w w' : World} {o : Obj} {row : Option Nat} (h : (w.alloc o).grownBy w' row) : w.grownBy w' row :=
  ⟨h.os, h.tape, h.output, Nat.le_trans (by simp) h.size, fun k hk hne => (h.block k (by simp; omega) hne).trans (Below.heap_alloc w o k hk)⟩
/-- What was turned besides lies behind what was there. -/
theorem grown_more {w w1 w2 : World} {b : Nat} {row : Option Nat} (h : w.grownBy w1 (some b)) (k : w1.grownBy w2 row) (hr : ∀ q, row = some q → q = b ∨ w.heap.size ≤ q) : w.grownBy w2 (some b) :=
  ⟨k.os.trans h.os, k.tape.trans h.tape, k.output.trans h.output, Nat.le_trans h.size k.size, fun i hi hne => (k.block i (Nat.lt_of_lt_of_le hi h.size) (fun e => by
    rcases hr i e.symm with q | q
    · exact hne (by rw [q])
    · omega)).trans (h.block i hi hne)⟩
theorem own_block14 {w : World} {S n : Nat} {e : TypeId} {m : Nat} {v : Value} {xs : List Value} (h : w.ownsRow S e m v n xs) : ∀ q, v.ownBlock = some q → S ≤ q := by
  intro q hq
  rcases h.2 with ⟨rfl, _⟩ | ⟨g, c, cur, rfl, h1, _⟩
  · cases hq
  · cases hq
    exact h1
theorem draw_color (base b : Nat) (w : World) (hC : Cur w base b) : Calls Try.prog 62 #[.pointer (some ⟨b, 0, none⟩)] w fun e w' => ∃ x : Int, e = .returned (.int .i64 x) ∧ ColR x ∧ Cur w' base b ∧ w.grownBy w' (some b) := by
  have HC := hid_of hC
  have hl := hC.lt
  have HC2 : Hid (Cur (w.alloc (.cells #[.int .i64 0, .int .i64 2, .int .i64 3, .int .i64 4, .int .i64 6] 3)) base b) := hC.alloc _
  clear hC
  go_enter Try.func62, Try.ntmps62
  go_wp2_with fail
  refine (draw_pickInt base b w.heap.size 5 5 ColR _ HC2.out (by omega) (by omega) (by simp) (fun j hj => ?_)).mono ?_
  · match j, hj with
    | 0, _ => exact ⟨0, by simp, .inl rfl⟩
    | 1, _ => exact ⟨2, by simp, .inr (.inl rfl)⟩
    | 2, _ => exact ⟨3, by simp, .inr (.inr (.inl rfl))⟩
    | 3, _ => exact ⟨4, by simp, .inr (.inr (.inr (.inl rfl)))⟩
    | 4, _ => exact ⟨6, by simp, .inr (.inr (.inr (.inr rfl)))⟩
  rintro e w3 ⟨x, rfl, hx, hC3, hg3⟩
  have HE : Hid (ColR x ∧ Cur w3 base b ∧ w.grownBy w3 (some b)) := ⟨hx, hC3, grown_alloc14 hg3⟩
  clear hx hC3 hg3
  go_wp2_with fail
  go_ret
  exact ⟨x, rfl, HE.out⟩
/-- The depths that are listed so far. -/
def DepI (w w' : World) (base b : Nat) (c : Int) (g cap n : Nat) (j : Nat) : Prop := ∃ zs : List Int, zs.length = n ∧ (∀ z ∈ zs, DepthR c z) ∧ (9 ≤ j → 1 ≤ n) ∧ n ≤ j ∧ w'.ownsRow w.heap.size 3 1 (.slice (some ⟨g, 0, none⟩) n cap) n (zs.map (Value.int .i64)) ∧ Cur w' base b ∧ w.grownBy w' (some b)
theorem depth_eight {c : Int} (h : ColR c) : DepthR c 8 := by
  rcases h with rfl | rfl | rfl | rfl | rfl
  · exact .inl ⟨rfl, .inr (.inr (.inr (.inl rfl)))⟩
  · exact .inr (.inr ⟨.inl rfl, .inl rfl⟩)
  · exact .inr (.inl ⟨rfl, .inr (.inr (.inr (.inl rfl))), by omega⟩)
  · exact .inr (.inr ⟨.inr (.inl rfl), .inl rfl⟩)
  · exact .inr (.inr ⟨.inr (.inr rfl), .inl rfl⟩)
theorem info_num14 : (Try.prog.info? 3).map (fun i => (i.zero, i.size, i.bytes)) = some (some (.int .i64 0), 1, 8) := by kernel_rfl
set_option maxHeartbeats 1600000 in
theorem draw_depthOf (base b : Nat) (c : Int) (w : World) (hC : Cur w base b) (hc : ColR c) : Calls Try.prog 64 #[.pointer (some ⟨b, 0, none⟩), .int .i64 c] w fun e w' => ∃ x : Int, e = .returned (.int .i64 x) ∧ DepthR c x ∧ Cur w' base b ∧ w.grownBy w' (some b) := by
  have hok := fun d V => specDepthOk c d V
  have hbl := hC.lt
  have H0 : Hid (DepI w (w.alloc (.cells #[] 3)) base b c w.heap.size 0 0 1) := ⟨[], rfl, (fun z hz => by cases hz), by omega, by omega, ⟨rfl, .inr ⟨_, _, #[], rfl, Nat.le_refl _, heap_alloc_new w _, Nat.le_refl _, Nat.zero_le _, rfl, rfl⟩⟩, hC.alloc _, ⟨rfl, rfl, rfl, by simp, fun k hk _ => Below.heap_alloc w _ k hk⟩⟩
  have HD8 := hid_of (depth_eight hc)
  clear hC hc
  go_enter Try.func64, Try.ntmps64
  go_wp2_with fail
  go_loopw [5, 6] (fun v i w' => ∃ (j n g cap : Nat), 1 ≤ j ∧ j ≤ 17 ∧ i = .int .i64 (j : Int) ∧ v = .slice (some ⟨g, 0, none⟩) n cap ∧ Hid (DepI w w' base b c g cap n j)) (fun _ i _ => 17 - (intOf i).toNat)
  case atStart => exact ⟨1, 0, _, _, by omega, by omega, rfl, rfl, H0⟩
  case round =>
    clear H0
    obtain ⟨j, n, g, cap, hj1, hj, rfl, rfl, hI⟩ := hrel
    by_cases hlt : j ≤ 16
    · have dl : decide ((j : Int) ≤ 16) = true := decide_eq_true (by omega)
      by_cases hd : DepthR c (j : Int)
      · have hk := fun V => hok (j : Int) V
        rw [decide_eq_true hd] at hk
        obtain ⟨zs, h1, h2, h3, h4, h5, h6, h7⟩ := hI.out
        have hgb := own_block14 h5 g rfl
        have HO : Hid ((wr.alloc (.cells #[.int .i64 (j : Int)] 3)).ownsRow w.heap.size 3 1 (.slice (some ⟨g, 0, none⟩) n cap) n (zs.map (Value.int .i64))) := World.ownsRow.alloc h5 _
        have HNX : Hid (∀ w3 g' cap', w3.ownsRow w.heap.size 3 1 (.slice (some ⟨g', 0, none⟩) (n + 1) cap') (n + 1) (zs.map (Value.int .i64) ++ [.int .i64 (j : Int)]) → (wr.alloc (.cells #[.int .i64 (j : Int)] 3)).grownBy w3 (some g) → DepI w w3 base b c g' cap' (n + 1) (j + 1)) := fun w3 g' cap' q1 q2 => by
          refine ⟨zs ++ [(j : Int)], by simp [h1], fun z hz => ?_, by omega, by omega, by simpa using q1, (h6.alloc _).grown q2 (by intro e; have := Option.some.inj e; omega) (fun k hk => by cases hk; have := h6.base_le; omega), grown_more h7 (grown_alloc14 q2) (fun q hq => by cases hq; exact .inr hgb)⟩
          rcases List.mem_append.mp hz with q | q
          · exact h2 z q
          · rw [List.mem_singleton.mp q]; exact hd
        have hws := h7.size
        clear h1 h2 h3 h5 h6 h7 hI
        obtain ⟨i0, hi0, hz0, hz1, hz2⟩ := info_parts info_num14
        go_wp2_with fail
        refine (hk _).mono ?_
        rintro e w2 ⟨rfl, rfl⟩
        go_wp2_with (at_builtin; refine wpList_append_lies _ rfl (.tmp 15) (.tmp 17) 39 rfl w.heap.size 3 i0 _ 1 8 Try.underlying39 hi0 hz0 hz1 hz2 rfl (by omega) (.slice (some ⟨g, 0, none⟩) n cap) n (zs.map (Value.int .i64)) (by rfl) (by exact HO.out) ⟨w2.heap.size, 0, none⟩ 1 1 [.int .i64 (j : Int)] (by rfl) rfl (by exact World.news_of_block (heap_alloc_new w2 _)) (by simp [Value.oneCell']) (by omega) (by unfold maxLen; omega) (by omega) (by simp; omega) _ rfl ?_)
        intro g' cap' w3 y1 y2 y3 y4
        have HN := hid_of (HNX.out w3 g' cap' y1 y2)
        clear y1 y2 y3 y4 HNX HO
        go_wp2_with fail
        go_roundw
        case rel => exact ⟨j + 1, n + 1, g', cap', by omega, by omega, by go_num, rfl, HN⟩
        case measure => simp [intOf]; omega
      · have hk := fun V => hok (j : Int) V
        rw [decide_eq_false hd] at hk
        have HN : Hid (DepI w wr base b c g cap n (j + 1)) := by
          obtain ⟨zs, h1, h2, h3, h4, h5⟩ := hI.out
          refine ⟨zs, h1, h2, fun q => ?_, by omega, h5⟩
          by_cases e : j = 8
          · subst e
            exact absurd HD8.out hd
          · exact h3 (by omega)
        clear hI
        go_wp2_with fail
        refine (hk _).mono ?_
        rintro e w2 ⟨rfl, rfl⟩
        go_wp2_with fail
        go_roundw
        case rel => exact ⟨j + 1, n, g, cap, by omega, by omega, by go_num, rfl, HN⟩
        case measure => simp [intOf]; omega
    · have dl : decide ((j : Int) ≤ 16) = false := decide_eq_false (by omega)
      obtain ⟨zs, h1, h2, h3, h4, h5, h6, h7⟩ := hI.out
      have hgb := own_block14 h5 g rfl
      obtain ⟨hgl, hcell⟩ : g < wr.heap.size ∧ ∀ i, i < n → wr.cell? ⟨g, i, none⟩ = (zs.map (Value.int .i64))[i]? := by
        rcases h5.2 with ⟨e, _⟩ | ⟨g9, c9, cur, e, _, q2, _, _, _, q6⟩
        · cases e
        · cases e
          refine ⟨block_lt q2, fun i hi => ?_⟩
          rw [cell_of_block q2 i, ← q6, List.getElem?_take, if_pos (by omega)]
          simp
      have hpk := draw_pickInt base b g n cap (fun x => DepthR c x) wr h6 (h3 (by omega)) (by omega) hgl (fun i hi => by
        have hi' : i < zs.length := by omega
        refine ⟨zs[i], ?_, h2 _ (List.getElem_mem hi')⟩
        rw [hcell i hi, List.getElem?_map, List.getElem?_eq_getElem hi']
        rfl)
      have HG := hid_of h7
      clear h1 h2 h3 h4 h5 h6 h7 hI hcell hok
      go_wp2_with fail
      refine hpk.mono ?_
      rintro e w3 ⟨x, rfl, hx, hC3, hg3⟩
      have HE : Hid (DepthR c x ∧ Cur w3 base b ∧ w.grownBy w3 (some b)) := ⟨hx, hC3, grown_more HG.out hg3 (fun q hq => .inl (Option.some.inj hq).symm)⟩
      clear hx hC3 hg3
      go_wp2_with fail
      go_ret
      exact ⟨x, rfl, HE.out⟩
end Go.Proofs.Ytcnlcbkgbcnloaa
