/-
  The walks of the program's smaller functions of the search: canMatch, keyAt, same, byteAt, stepSize.
-/
import Derived.Test.YtihcapfdpgaeiaaRows
import Derived.Test.YtihcapfdpgaeiaaBase
import Derived.Test.YtihcapfdpgaeiaaRetLib
import Derived.Test.YtihcapfdpgaeiaaTextLib
import Derived.Test.YtihcapfdpgaeiaaKeyLib
import Derived.Test.YtihcapfdpgaeiaaOccMath
import Derived.Test.YtihcapfdpgaeiaaMatchLib
import Derived.WalkKit
import Derived.ProofKit
import Derived.WalkLawsBesides
import Derived.RegionTactic
import Derived.BigRegion
import Derived.BigQuiet
import Derived.Deep.RegionLaw
import Derived.Laws.CopyRow
import Derived.Laws.CopyOwn
import Derived.Deep.LoopGhost
import Derived.Below
import Derived.Lib.SmallJoins
namespace Go.Proofs.Ytihcapfdpgaeiaa
open Go.RowKit Go.Joins SearchMath

theorem canMatch_any (s : ByteArray) (c : Int) (w : World) (hs : s.size ≤ 1048576) :
    Calls Try.prog 30 #[.string s, .int .i64 c] w fun e w' => e = .returned (.bool (decide (s.size ≤ 2600 ∧ 1 ≤ c ∧ c ≤ 64))) ∧ w' = w := by
  by_cases h1 : s.size ≤ 2600
  · have d1 : decide ((s.size : Int) ≤ 2600) = true := decide_eq_true (by omega)
    have d1' : decide (s.size ≤ 2600) = true := decide_eq_true h1
    by_cases h2 : 1 ≤ c
    · have d2 : decide (1 ≤ c) = true := decide_eq_true h2
      by_cases h3 : c ≤ 64
      · have d3 : decide (c ≤ 64) = true := decide_eq_true h3
        go_enter Try.func30, Try.ntmps30
        go_wp2_with fail
        go_ret
        exact ⟨ret_b (by simp [h1, h2, h3]), rfl⟩
      · have d3 : decide (c ≤ 64) = false := decide_eq_false h3
        go_enter Try.func30, Try.ntmps30
        go_wp2_with fail
        go_ret
        exact ⟨ret_b (by simp), rfl⟩
    · have d2 : decide (1 ≤ c) = false := decide_eq_false h2
      go_enter Try.func30, Try.ntmps30
      go_wp2_with fail
      go_ret
      exact ⟨ret_b (by simp), rfl⟩
  · have d1 : decide ((s.size : Int) ≤ 2600) = false := decide_eq_false (by omega)
    have d1' : decide (s.size ≤ 2600) = false := decide_eq_false h1
    go_enter Try.func30, Try.ntmps30
    go_wp2_with fail
    go_ret
    exact ⟨ret_b (by simp [h1]), rfl⟩

theorem stepSize_any (x y z : Int) (w : World) :
    Calls Try.prog 49 #[.agg #[.int .i64 x, .int .i64 y, .int .i64 z]] w fun e w' => e = .returned (.int .i64 (max 1 y)) ∧ Below w.heap.size w w' := by
  have HG : Hid (Below w.heap.size w (w.alloc (.cells #[.int .i64 x, .int .i64 y, .int .i64 z] 51))) := bstart _ _
  go_enter Try.func49, Try.ntmps49
  go_wp2_with fail
  all_goals
    go_ret
    exact ⟨ret_i (by omega), HG.out⟩

set_option maxHeartbeats 800000 in
theorem byteAt_any (p : Nat) (s : ByteArray) (t : Nat) (w : World) (h0 : w.cell? ⟨p, 0, none⟩ = some (.string s)) (hp : p < w.heap.size) (ht : t < s.size) (_ : s.size ≤ 1048576) :
    Calls Try.prog 36 #[.pointer (some ⟨p, 0, none⟩), .int .i64 (t : Int)] w fun e w' => e = .returned (.agg #[.int .i64 (txt s t : Nat), .int .i64 0, .int .i64 0]) ∧ Below w.heap.size w w' := by
  have i0 : (0 : Int) ≤ (t : Int) := by omega
  have i1 : (t : Int) < (s.size : Int) := by omega
  have hb := txt_lt s t
  have hx := txt_get s t ht
  have HG : Hid (Below w.heap.size w (w.alloc (.cells #[.int .i64 (txt s t : Nat), .int .i64 0, .int .i64 0] 51))) := bstart _ _
  go_enter Try.func36, Try.ntmps36
  go_wp2_with fail
  exact bodyPost_ret (v := .agg #[.int .i64 (txt s t : Nat), .int .i64 0, .int .i64 0]) (by simp [results, Try.results36, go_sem]) rfl ⟨rfl, HG.out⟩

theorem txt_part (s : ByteArray) (t k : Nat) (h : t + k < s.size) : txt (s.extract t s.size) k = txt s (t + k) := by
  have hk : k < (s.extract t s.size).size := by rw [ByteArray.size_extract]; omega
  rw [← txt_get _ _ hk, ← txt_get _ _ h]
  simp [ByteArray.getElem_extract]
theorem three_first (s : ByteArray) (h : 3 ≤ s.size) : List.take 3 (List.map (fun b => Value.int .u8 (b.toNat : Int)) s.data.toList) = [.int .u8 (txt s 0 : Nat), .int .u8 (txt s 1 : Nat), .int .u8 (txt s 2 : Nat)] := by
  have hz : 3 ≤ s.data.size := h
  refine List.ext_getElem (by simp; omega) fun i h1 h2 => ?_
  have hi : i < 3 := by simpa using h2
  have e : ((s.data[i]'(by omega)).toNat : Int) = (txt s i : Nat) := by
    unfold txt
    rw [Array.getElem?_eq_getElem (by omega)]
    rfl
  rw [List.getElem_take, List.getElem_map, Array.getElem_toList, e]
  obtain rfl | rfl | rfl : i = 0 ∨ i = 1 ∨ i = 2 := by omega
  all_goals rfl
/-- 'copy' of a text's first three bytes, as one step of a region that draws. -/
theorem step_copy_three {ops : Array Oper} {o : Oper} {a : Act} {w : World} {K : Act → World → Prop} {Q : Exit → Act → World → Prop} {E : Prop} (hgd : o.guard = none) (d s : Operand) (dT sT elem : TypeId)
    (ho : o.op = .call { callee := .builtin .copy, args := #[d, s], argTypes := #[dT, sT] }) (hu : Try.prog.underlying dT = some (.slice elem)) (hsz : (Try.prog.info? elem).map (·.size) = some 1)
    (g : Nat) (str : ByteArray) (hd : a.eval d = .slice (some ⟨g, 0, none⟩) 3 3) (hs : a.eval s = .string str) (hl : 3 ≤ str.size)
    (cur : Array Value) (t : TypeId) (hg : w.heap[g]? = some (.cells cur t (0, 0))) (hc : cur.size = 3)
    (h : ∀ w', w'.heap[g]? = some (.cells #[.int .u8 (txt str 0 : Nat), .int .u8 (txt str 1 : Nat), .int .u8 (txt str 2 : Nat)] t (0, 0)) → w.grownBy w' (some g) → K (a.put o.dst (.int .i64 3)) w') :
    if Region.wanted o (yielded ops a.tmps) = true then Oper.wp Try.prog o a w K Q else E := by
  have hw : Region.wanted o (yielded ops a.tmps) = true := by simp [Region.wanted, hgd]
  rw [if_pos hw]
  have hst := run_storeCells_at Try.prog g 0 t [.int .u8 (txt str 0 : Nat), .int .u8 (txt str 1 : Nat), .int .u8 (txt str 2 : Nat)] 0 cur w hg (by simp [hc]) (by simp [Value.oneCell'])
  have hm : Nat.min str.size 3 = 3 := Nat.min_eq_right hl
  have hf := three_first str hl
  have hrun : (Builtin.copy_ #[dT, sT] o.type #[.slice (some ⟨g, 0, none⟩) 3 3, .string str]).run Try.prog w = .ok (.int .i64 3) (w.setRow g #[.int .u8 (txt str 0 : Nat), .int .u8 (txt str 1 : Nat), .int .u8 (txt str 2 : Nat)]) := by
    have e3 : (cur.toList.take (0 + 0) ++ [Value.int .u8 (txt str 0 : Nat), Value.int .u8 (txt str 1 : Nat), Value.int .u8 (txt str 2 : Nat)] ++ cur.toList.drop (0 + 0 + [Value.int .u8 (txt str 0 : Nat), Value.int .u8 (txt str 1 : Nat), Value.int .u8 (txt str 2 : Nat)].length)).toArray = #[Value.int .u8 (txt str 0 : Nat), Value.int .u8 (txt str 1 : Nat), Value.int .u8 (txt str 2 : Nat)] := by
      rw [List.drop_of_length_le (by simp [hc])]
      simp
    rw [e3] at hst
    cases hq : Try.prog.info? elem with
    | none => simp [hq] at hsz
    | some _ =>
      simp [Builtin.copy_, run_underlying hu, Builtin.lenOf, Builtin.firstCells, sizeOf, typeInfo, hq, hm, hf, hst]
      rfl
  unfold Oper.wp
  simp [execOp, ho, resolve, invoke, builtin, hd, hs, hrun, Result.andThen]
  refine h _ (setRow_heap w g _ _ t _ hg) ⟨rfl, rfl, rfl, by simp [World.setRow], fun i hi hne => ?_⟩
  simp [World.setRow, Array.getElem?_modify, show ¬ g = i from fun e => hne (by rw [e])]

set_option maxHeartbeats 1600000 in
theorem keyAt_any (s : ByteArray) (t : Nat) (w : World) (ht : t + 2 < s.size) (hs : s.size ≤ 1048576) :
    Calls Try.prog 48 #[.string s, .int .i64 (t : Int)] w fun e w' => e = .returned (kv (txt s t) (txt s (t + 1)) (txt s (t + 2))) ∧ Below w.heap.size w w' := by
  have i0 : (0 : Int) ≤ (t : Int) := by omega
  have i1 : (t : Int) ≤ (s.size : Int) := by omega
  have hu := Try.underlying22
  have hsz : (Try.prog.info? 5).map (·.size) = some 1 := by kernel_rfl
  have p0 := txt_part s t 0 (by omega)
  have p1 := txt_part s t 1 (by omega)
  have p2 := txt_part s t 2 (by omega)
  have hl : 3 ≤ (s.extract t s.size).size := by rw [ByteArray.size_extract]; omega
  rw [Nat.add_zero] at p0
  obtain ⟨W, hW⟩ : ∃ W, W = ((w.alloc (.cells #[.int .u8 0, .int .u8 0, .int .u8 0] 65)).alloc (.cells #[.int .u8 0, .int .u8 0, .int .u8 0] 65)).drew := ⟨_, rfl⟩
  have hg : W.heap[w.heap.size + 1]? = some (.cells #[.int .u8 0, .int .u8 0, .int .u8 0] 65 (0, 0)) := by
    have := heap_alloc_new (w.alloc (.cells #[.int .u8 0, .int .u8 0, .int .u8 0] 65)) (.cells #[.int .u8 0, .int .u8 0, .int .u8 0] 65)
    rw [World.size_alloc] at this
    rw [hW]
    exact this
  have hr : W.heap[w.heap.size]? = some (.cells #[.int .u8 0, .int .u8 0, .int .u8 0] 65 (0, 0)) := by
    have h1 := heap_alloc_new w (.cells #[.int .u8 0, .int .u8 0, .int .u8 0] 65)
    have h2 := (bstart (w.alloc (.cells #[.int .u8 0, .int .u8 0, .int .u8 0] 65)) (.cells #[.int .u8 0, .int .u8 0, .int .u8 0] 65)).block w.heap.size (by simp)
    rw [hW]
    exact h2.trans h1
  have hBW : Below w.heap.size w W := by
    rw [hW]
    exact (bal (bstart _ _) _).drew
  have hWs : W.heap.size = w.heap.size + 2 := by rw [hW]; simp
  have HALL := hid_of (And.intro hr (And.intro hBW hWs))
  clear hr hBW hWs
  subst hW
  go_enter Try.func48, Try.ntmps48
  go_wp2_with fail
  go_region_law (refine step_copy_three rfl (.tmp 6) (.tmp 9) 22 9 5 rfl hu hsz (w.heap.size + 1) (s.extract t s.size) (by rfl) (by rfl) hl _ _ hg rfl ?_; intro w4 g4 gr4)
  rw [p0, p1, p2] at g4
  have c0 : w4.cell? ⟨w.heap.size + 1, 0, none⟩ = some (.int .u8 (txt s t : Nat)) := (cell_of_block g4 0).trans rfl
  have c1 : w4.cell? ⟨w.heap.size + 1, 1, none⟩ = some (.int .u8 (txt s (t + 1) : Nat)) := (cell_of_block g4 1).trans rfl
  have c2 : w4.cell? ⟨w.heap.size + 1, 2, none⟩ = some (.int .u8 (txt s (t + 2) : Nat)) := (cell_of_block g4 2).trans rfl
  have gr : w4.heap[w.heap.size]? = some (.cells #[.int .u8 0, .int .u8 0, .int .u8 0] 65 (0, 0)) := (gr4.block w.heap.size (by simp; omega) (by simp)).trans HALL.out.1
  have r0 : w4.cell? ⟨w.heap.size, 0, none⟩ = some (.int .u8 0) := (cell_of_block gr 0).trans rfl
  have r1 : w4.cell? ⟨w.heap.size, 1, none⟩ = some (.int .u8 0) := (cell_of_block gr 1).trans rfl
  have r2 : w4.cell? ⟨w.heap.size, 2, none⟩ = some (.int .u8 0) := (cell_of_block gr 2).trans rfl
  have z0 : ∀ k, w4.frozen? ⟨w.heap.size, k, none⟩ = false := fun k => by simp [World.frozen?, gr]
  have lt : w.heap.size < w4.heap.size := block_lt gr
  have HB : Hid (Below w.heap.size w (((w4.setCell ⟨w.heap.size, 0, none⟩ (.int .u8 (txt s t : Nat))).setCell ⟨w.heap.size, 1, none⟩ (.int .u8 (txt s (t + 1) : Nat))).setCell ⟨w.heap.size, 2, none⟩ (.int .u8 (txt s (t + 2) : Nat)))) := by
    have h1 : Below w.heap.size w w4 := HALL.out.2.1.grown gr4 HALL.out.2.1.size (fun k e => by cases e; omega)
    exact Below.setCell (p := ⟨w.heap.size, 2, none⟩) (two_below h1 (Nat.le_refl _) _ _) (Nat.le_refl _) _
  clear HALL g4 gr4 gr hg hl p0 p1 p2
  go_wp2_with fail
  exact bodyPost_ret (v := kv (txt s t) (txt s (t + 1)) (txt s (t + 2))) (by simp [results, Try.results48, go_sem, r0, r1, r2]) rfl ⟨rfl, HB.out⟩

set_option maxHeartbeats 1600000 in
theorem same_any (p : Nat) (s : ByteArray) (k t m : Nat) (w : World) (h0 : w.cell? ⟨p, 0, none⟩ = some (.string s)) (hp : p < w.heap.size) (hk : k ≤ t) (ht : t + m ≤ s.size) (hs : s.size ≤ 1048576) :
    Calls Try.prog 51 #[.pointer (some ⟨p, 0, none⟩), .int .i64 (k : Int), .int .i64 (t : Int), .int .i64 (m : Int)] w fun e w' => e = .returned (.int .i64 (common (txt s) s.size k t m : Nat)) ∧ Below w.heap.size w w' := by
  go_enter Try.func51, Try.ntmps51
  go_wp2_with fail
  go_loopg [9] (m + 1) (fun gk v w' => ∃ j : Nat, j ≤ m ∧ m - j ≤ gk ∧ v = .int .i64 j ∧ Hid (Below w.heap.size w w' ∧ ∀ i, i < j → txt s (k + i) = txt s (t + i)))
  case atStart => exact ⟨0, Nat.zero_le _, by omega, rfl, Below.refl _ _, fun i hi => absurd hi (Nat.not_lt_zero i)⟩
  case round =>
    obtain ⟨j, hj, hgk, rfl, hS⟩ := hrel
    have c0 : wr.cell? ⟨p, 0, none⟩ = some (.string s) := (hS.out.1.cell (p := ⟨p, 0, none⟩) hp).trans h0
    by_cases hlt : j < m
    · have dl : decide ((j : Int) < (m : Int)) = true := decide_eq_true (by omega)
      have dl' : (j : Int) < (m : Int) := by omega
      have e1 : ((t : Int) + (j : Int)).toNat = t + j := by omega
      have e2 : ((k : Int) + (j : Int)).toNat = k + j := by omega
      have a1 : (0 : Int) ≤ (k : Int) + (j : Int) := by omega
      have a2 : (k : Int) + (j : Int) < (s.size : Int) := by omega
      have b1 : (0 : Int) ≤ (t : Int) + (j : Int) := by omega
      have b2 : (t : Int) + (j : Int) < (s.size : Int) := by omega
      have h1 : k + j < s.size := by omega
      have h2 : t + j < s.size := by omega
      have g1 := txt_get s (k + j) h1
      have g2 := txt_get s (t + j) h2
      by_cases he : txt s (k + j) = txt s (t + j)
      · have d2 : (((s[k + j]'h1).toNat : Int) == ((s[t + j]'h2).toNat : Int)) = true := by
          rw [g1, g2, he]
          simp
        have HN : Hid (∀ i, i < j + 1 → txt s (k + i) = txt s (t + i)) := fun i hi => by
          by_cases e : i = j
          · subst e
            exact he
          · exact hS.out.2 i (by omega)
        clear he g1 g2
        go_wp2_with fail
        go_quiet (fail)
        go_wp2_with fail
        go_roundg (m - (j + 1))
        case measure => omega
        case rel => exact ⟨j + 1, by omega, Nat.le_refl _, by go_num, bdraws hS.out.1 _, HN.out⟩
      · have d2 : (((s[k + j]'h1).toNat : Int) == ((s[t + j]'h2).toNat : Int)) = false := by
          rw [g1, g2]
          simp
          omega
        have HN : Hid (common (txt s) s.size k t m = j) := common_eq (by omega) (fun i hi => ⟨by omega, hS.out.2 i hi⟩) (.inr (fun q => he q.2))
        clear he g1 g2
        go_wp2_with fail
        go_quiet (fail)
        go_wp2_with fail
        go_ret
        rw [HN.out]
        exact ⟨rfl, bdraws hS.out.1 _⟩
    · obtain rfl : j = m := by omega
      have dl : decide ((j : Int) < (j : Int)) = false := decide_eq_false (by omega)
      have dl' : ¬ (j : Int) < (j : Int) := by omega
      have HN : Hid (common (txt s) s.size k t j = j) := common_eq (Nat.le_refl _) (fun i hi => ⟨by omega, hS.out.2 i hi⟩) (.inl rfl)
      go_wp2_with fail
      go_quiet (fail)
      go_wp2_with fail
      go_ret
      rw [HN.out]
      exact ⟨rfl, bdraws hS.out.1 _⟩

end Go.Proofs.Ytihcapfdpgaeiaa
