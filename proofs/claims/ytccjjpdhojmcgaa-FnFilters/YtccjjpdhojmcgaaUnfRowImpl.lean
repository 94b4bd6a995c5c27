/-
  The walks of the program's UnfilterRow, a kind each. (Printed by tools/mkfiltimpl.py.)
-/
import Derived.Test.YtccjjpdhojmcgaaRows
import Derived.Test.YtccjjpdhojmcgaaBase
import Derived.Test.YtccjjpdhojmcgaaOwnLib
import Derived.Test.YtccjjpdhojmcgaaByteDef
import Derived.Test.YtccjjpdhojmcgaaByteLib
import Derived.Test.YtccjjpdhojmcgaaBytesFn
import Derived.Test.YtccjjpdhojmcgaaPartLen12
import Derived.Test.YtccjjpdhojmcgaaFiltMath
import Derived.Test.YtccjjpdhojmcgaaFiltVal
import Derived.Test.YtccjjpdhojmcgaaFiltAns
import Derived.Test.YtccjjpdhojmcgaaFiltSmall
import Derived.Test.YtccjjpdhojmcgaaFiltKinds
import Derived.Test.YtccjjpdhojmcgaaFiltBeside
import Derived.WalkKit
import Derived.ProofKit
import Derived.WalkLawsBesides
import Derived.Below
import Derived.Deep.RegionHeld3
import Derived.Lib.SmallJoins
namespace Go.Proofs.Ytccjjpdhojmcgaa
open Go.RowKit Go.Joins TakeMath FiltMath TokMath

/-- What the ring of the program's UnfilterRow has at hand. -/
def UnfI (w w' : World) (g n : Nat) (L : List Int) (j : Nat) : Prop := ∃ h, BFn w' w.heap.size g n n h ∧ (∀ i, i < j → h i = L.getD i 0) ∧ L.length = j ∧ Below w.heap.size w w'
theorem unfI_next {w wr w' : World} {g n : Nat} {L : List Int} {j : Nat} {x : Int} (hS : UnfI w wr g n L j) (hj : j < n) (hb : Below wr.heap.size wr w') : UnfI w (w'.setCell ⟨g, j, none⟩ (.int .u8 x)) g n (L ++ [x]) (j + 1) := by
  obtain ⟨h, hO, hh, hl, hB⟩ := hS
  have hg : g < wr.heap.size := Own.lt hO
  have hO' : BFn w' w.heap.size g n n h := Own.keep hO (hb.block g hg)
  refine ⟨upd h j x, hO'.set j hj x, fun i hi => ?_, by rw [List.length_append, hl]; rfl, Below.setCell (p := ⟨g, j, none⟩) (bnext hB hb) (Own.base_le hO) _⟩
  unfold upd
  by_cases e : i = j
  · rw [if_pos e, e, ← hl]
    simp
  · rw [if_neg e, hh i (by omega), List.getD_eq_getElem?_getD, List.getD_eq_getElem?_getD, List.getElem?_append_left (by omega)]
set_option maxRecDepth 100000 in
set_option maxHeartbeats 3200000 in
theorem implUnfilter_0 (row above : ByteArray) (unit : Nat) (w : World) (h : FiltR 0 row above (unit : Int)) :
    Calls Try.prog 14 #[.int .i64 0, .string row, .string above, .int .i64 (unit : Int)] w fun e w' => e = .returned (.tuple #[.string (unfT 0 row above unit), .bool true]) ∧ Below w.heap.size w w' := by
  have hcan := fun W => canFilter_any row above (unit : Int) W
  rw [decide_eq_true (h.kind (j := 0) (by omega))] at hcan
  obtain ⟨-, hu, hs, hn⟩ := h
  have hu' : 1 ≤ unit ∧ unit ≤ 8 := by omega
  have HS0 := hid_of hs
  have ha : above.size ≤ 200 := by omega
  clear hs
  go_enter Try.func14, Try.ntmps14
  go_wp2_with fail
  refine (kinds_any _).mono ?_
  rintro e w1 ⟨rfl, hm, hB1⟩
  have lk : (Instr.lookup 45 (.map (some w.heap.size)) (.int .i64 0) true).run Try.prog w1 = .ok (.tuple #[fnV 37, .bool true]) w1 := kind_look hm 0 (by omega)
  have HB1 := hid_of hB1
  clear hm hB1
  go_wp2_with fail
  refine (hcan _).mono ?_
  rintro e w2 ⟨rfl, rfl⟩
  clear hcan lk
  have hmk := make_bytes12 w2 row.size (by omega)
  have H0 : Hid (UnfI w (w2.alloc (.cells (madeCells #[Value.int .u8 0] row.size) 5)) w2.heap.size row.size (unfL 0 (bts row) (bts above) unit 0) 0) :=
    ⟨fun _ => 0, BFn.made (base := w.heap.size) w2 row.size (by unfold maxLen; omega) HB1.out.size, fun i hi => absurd hi (Nat.not_lt_zero i), rfl, bal HB1.out _⟩
  generalize w2.alloc (.cells (madeCells #[Value.int .u8 0] row.size) 5) = w3 at hmk H0
  generalize w2.heap.size = G at hmk H0
  go_wp2_with fail
  go_loopw [34] (fun i w' => ∃ j : Nat, j ≤ row.size ∧ i = .int .i64 (j : Int) ∧ Hid (UnfI w w' G row.size (unfL 0 (bts row) (bts above) unit j) j)) (fun i _ => row.size - (intOf i).toNat)
  case atStart => exact ⟨0, Nat.zero_le _, rfl, H0⟩
  case round =>
    clear H0 hmk
    obtain ⟨j, hj, rfl, hS⟩ := hrel
    by_cases hlt : j < row.size
    · have hal : j < above.size := by rw [← HS0.out]; exact hlt
      obtain ⟨h, hO, hh, hl, hBB⟩ := hS.out
      have gl : G < wr.heap.size := Own.lt hO
      have hrow : unit ≤ j → ∃ g, (some ⟨G, 0, none⟩ : Option Addr) = some ⟨g, 0, none⟩ ∧ j - unit < row.size ∧ g < wr.drew.heap.size ∧ wr.drew.cell? ⟨g, j - unit, none⟩ = some (.int .u8 ((fun i => (unfL 0 (bts row) (bts above) unit j).getD i 0) (j - unit))) := fun hq => by
        refine ⟨_, rfl, by omega, gl, ?_⟩
        show _ = some (Value.int .u8 ((unfL 0 (bts row) (bts above) unit j).getD (j - unit) 0))
        rw [← hh (j - unit) (by omega)]
        exact hO.cell (j - unit) (by omega)
      have hbes := beside_any (some ⟨G, 0, none⟩) row.size row.size (fun i => (unfL 0 (bts row) (bts above) unit j).getD i 0) above unit j wr.drew hu' hal ha (fun i => getD_byte13 (unfL_byte _ _ _ _ _) i) hrow
      have HC : Hid (∀ w', Below wr.heap.size wr w' → w'.cell? ⟨G, j, none⟩ = some (.int .u8 (h j)) ∧ w'.frozen? ⟨G, j, none⟩ = false ∧ G < w'.heap.size) := fun w' hb => ⟨((bcell hb).1 _ _ gl).trans (hO.cell j hlt), ((bcell hb).2 _ _ gl).trans (hO.free j hlt), Nat.lt_of_lt_of_le gl hb.size⟩
      have HBY : Hid ((row[j]'hlt).toNat = byteAt row j) := byteAt_get row j hlt
      obtain ⟨X, hX⟩ : ∃ X : Int, X = ((row[j]'hlt).toNat : Int) := ⟨_, rfl⟩
      have hX0 : 0 ≤ X ∧ X < 256 := by have : (row[j]'hlt).toNat < 256 := UInt8.toNat_lt _; omega
      have hXr := hX.symm
      have x0 : (0 : Int) ≤ (j : Int) := by omega
      have x1 : (j : Int) < (row.size : Int) := by omega
      clear hh hBB hO hrow hl
      obtain ⟨L, hL⟩ : ∃ L, L = aheadB (fun i => (unfL 0 (bts row) (bts above) unit j).getD i 0) unit j := ⟨_, rfl⟩
      obtain ⟨U, hU⟩ : ∃ U, U = bts above j := ⟨_, rfl⟩
      obtain ⟨C, hC⟩ : ∃ C, C = aheadB (bts above) unit j := ⟨_, rfl⟩
      rw [← hL, ← hU, ← hC] at hbes
      have hL0 : 0 ≤ L ∧ L < 256 := by rw [hL]; exact ahead_byte (fun i => getD_byte13 (unfL_byte _ _ _ _ _) i) _ _
      have hU0 : 0 ≤ U ∧ U < 256 := by rw [hU]; exact bts_byte above j
      have hC0 : 0 ≤ C ∧ C < 256 := by rw [hC]; exact ahead_byte (bts_byte above) _ _
      have hkd := fun W => nothing_any L U C W
      have HY : Hid (told 0 L U C = says 0 (fun i => (unfL 0 (bts row) (bts above) unit j).getD i 0) (bts above) unit j) := by
        show _ = _
        unfold says
        rw [hL, hU, hC]
      obtain ⟨Y, hY⟩ : ∃ Y, Y = told 0 L U C := ⟨_, rfl⟩
      have hY0 : 0 ≤ Y ∧ Y < 256 := by rw [hY]; exact told_byte 0 hL0 hU0 hC0
      rw [← hY] at hkd HY
      obtain ⟨Z, hZ⟩ : ∃ Z, Z = (X + Y) % 256 := ⟨_, rfl⟩
      have hZ0 : 0 ≤ Z ∧ Z < 256 := by omega
      have u8w : IntKind.u8.wrap (X + Y) = Z := by show (X + Y) % 256 = Z; omega
      have HN : Hid (unfL 0 (bts row) (bts above) unit (j + 1) = unfL 0 (bts row) (bts above) unit j ++ [Z]) := by
        show _ = _
        rw [unfL_next, ← HY.out, hZ, hX, HBY.out]
        rfl
      have u8y : IntKind.u8.wrap Y = Y := by show Y % 256 = Y; omega
      have dl : decide ((j : Int) < (row.size : Int)) = true := decide_eq_true (by omega)
      clear hX hY hZ hL hU hC
      go_wp2_with fail
      refine wp_region_held (S := fun _ => True) (by kernel_rfl) ?_
      show wpAnyH _ _ _ _ _ _ _ _ wr.drew
      refine wpAnyH_take (i := 0) (v := .slice (some ⟨G, 0, none⟩) row.size row.size) rfl (by kernel_rfl) (by kernel_rfl) (by kernel_rfl) (fun _ _ _ h => h) (Or.inl ⟨by rfl, ?_⟩) trivial ?_
      · intro w' _
        go_simp
      simp only [Act.put, List.getElem_toArray, List.getElem_cons_zero, List.setIfInBounds_toArray, List.set_cons_zero, List.set_cons_succ]
      refine wpAnyH_take (i := 1) (v := .int .i64 (j : Int)) rfl (by kernel_rfl) (by kernel_rfl) (by kernel_rfl) (fun _ _ _ h => h) (Or.inl ⟨by rfl, ?_⟩) trivial ?_
      · intro w' _
        go_simp
      simp only [Act.put, List.getElem_toArray, List.getElem_cons_zero, List.getElem_cons_succ, List.setIfInBounds_toArray, List.set_cons_zero, List.set_cons_succ]
      refine wpAnyH_take (i := 2) (v := .string row) rfl (by kernel_rfl) (by kernel_rfl) (by kernel_rfl) (fun _ _ _ h => h) (Or.inl ⟨by rfl, ?_⟩) trivial ?_
      · intro w' _
        go_simp
      simp only [Act.put, List.getElem_toArray, List.getElem_cons_zero, List.getElem_cons_succ, List.setIfInBounds_toArray, List.set_cons_zero, List.set_cons_succ]
      refine wpAnyH_take (i := 3) (v := .int .i64 (j : Int)) rfl (by kernel_rfl) (by kernel_rfl) (by kernel_rfl) (fun _ _ _ h => h) (Or.inl ⟨by rfl, ?_⟩) trivial ?_
      · intro w' _
        go_simp
      simp only [Act.put, List.getElem_toArray, List.getElem_cons_zero, List.getElem_cons_succ, List.setIfInBounds_toArray, List.set_cons_zero, List.set_cons_succ]
      refine wpAnyH_take (i := 4) (v := .int .u8 X) rfl (by kernel_rfl) (by kernel_rfl) (by kernel_rfl) (fun _ _ _ h => h) (Or.inl ⟨by rfl, ?_⟩) trivial ?_
      · intro w' _
        go_simp
      simp only [Act.put, List.getElem_toArray, List.getElem_cons_zero, List.getElem_cons_succ, List.setIfInBounds_toArray, List.set_cons_zero, List.set_cons_succ]
      refine wpAnyH_take (i := 5) (v := fnV 37) rfl (by kernel_rfl) (by kernel_rfl) (by kernel_rfl) (fun _ _ _ h => h) (Or.inl ⟨by rfl, ?_⟩) trivial ?_
      · intro w' _
        go_simp
      simp only [Act.put, List.getElem_toArray, List.getElem_cons_zero, List.getElem_cons_succ, List.setIfInBounds_toArray, List.set_cons_zero, List.set_cons_succ]
      refine wpAnyH_take (i := 6) (v := .slice (some ⟨G, 0, none⟩) row.size row.size) rfl (by kernel_rfl) (by kernel_rfl) (by kernel_rfl) (fun _ _ _ h => h) (Or.inl ⟨by rfl, ?_⟩) trivial ?_
      · intro w' _
        go_simp
      simp only [Act.put, List.getElem_toArray, List.getElem_cons_zero, List.getElem_cons_succ, List.setIfInBounds_toArray, List.set_cons_zero, List.set_cons_succ]
      refine wpAnyH_take (i := 7) (v := .string above) rfl (by kernel_rfl) (by kernel_rfl) (by kernel_rfl) (fun _ _ _ h => h) (Or.inl ⟨by rfl, ?_⟩) trivial ?_
      · intro w' _
        go_simp
      simp only [Act.put, List.getElem_toArray, List.getElem_cons_zero, List.getElem_cons_succ, List.setIfInBounds_toArray, List.set_cons_zero, List.set_cons_succ]
      refine wpAnyH_take (i := 8) (v := .int .i64 (j : Int)) rfl (by kernel_rfl) (by kernel_rfl) (by kernel_rfl) (fun _ _ _ h => h) (Or.inl ⟨by rfl, ?_⟩) trivial ?_
      · intro w' _
        go_simp
      simp only [Act.put, List.getElem_toArray, List.getElem_cons_zero, List.getElem_cons_succ, List.setIfInBounds_toArray, List.set_cons_zero, List.set_cons_succ]
      refine wpAnyH_take (i := 9) (v := .int .i64 (unit : Int)) rfl (by kernel_rfl) (by kernel_rfl) (by kernel_rfl) (fun _ _ _ h => h) (Or.inl ⟨by rfl, ?_⟩) trivial ?_
      · intro w' _
        go_simp
      simp only [Act.put, List.getElem_toArray, List.getElem_cons_zero, List.getElem_cons_succ, List.setIfInBounds_toArray, List.set_cons_zero, List.set_cons_succ]
      refine wpAnyH_ready (rs := [10]) (by kernel_rfl) (by simp) ?_
      refine AllReadyH.cons rfl (fun K hK => ?_) AllReadyH.nil
      refine if_wanted (wanted_none rfl) ?_
      simp only [List.getElem_toArray, List.getElem_cons_zero, List.getElem_cons_succ]
      go_simp
      refine hbes.mono ?_
      rintro e w4 ⟨rfl, hB4⟩
      have HB4 : Hid (Below wr.heap.size wr w4) := ⟨hB4.1, hB4.2, hB4.3, hB4.4, hB4.5⟩
      clear hB4 hbes
      refine hK.out _ _ trivial (fun _ => ?_)
      clear hK K
      refine wpAnyH_ready (rs := [11]) (by kernel_rfl) (by simp) ?_
      refine AllReadyH.cons rfl (fun K hK => ?_) AllReadyH.nil
      refine if_wanted (wanted_none rfl) ?_
      simp only [List.getElem_toArray, List.getElem_cons_zero, List.getElem_cons_succ]
      go_simp
      refine (hkd _).mono ?_
      rintro e w5 ⟨rfl, hB5⟩
      have HB5 : Hid (Below wr.heap.size wr w5) := bnext HB4.out hB5
      clear hB5 hkd HB4
      refine hK.out _ _ trivial (fun _ => ?_)
      clear hK K
      refine wpAnyH_take (i := 12) (v := .int .u8 Y) rfl (by kernel_rfl) (by kernel_rfl) (by kernel_rfl) (fun _ _ _ h => h) (Or.inl ⟨by rfl, ?_⟩) trivial ?_
      · intro w' _
        go_simp
      simp only [Act.put, List.getElem_toArray, List.getElem_cons_zero, List.getElem_cons_succ, List.setIfInBounds_toArray, List.set_cons_zero, List.set_cons_succ]
      refine wpAnyH_take (i := 13) (v := .int .u8 Z) rfl (by kernel_rfl) (by kernel_rfl) (by kernel_rfl) (fun _ _ _ h => h) (Or.inl ⟨by rfl, ?_⟩) trivial ?_
      · intro w' _
        go_simp
      simp only [Act.put, List.getElem_toArray, List.getElem_cons_zero, List.getElem_cons_succ, List.setIfInBounds_toArray, List.set_cons_zero, List.set_cons_succ]
      refine wpAnyH_take (i := 14) (v := .pointer (some ⟨G, j, none⟩)) rfl (by kernel_rfl) (by kernel_rfl) (by kernel_rfl) (fun _ _ _ h => h) (Or.inl ⟨by rfl, ?_⟩) trivial ?_
      · intro w' _
        go_simp
      simp only [Act.put, List.getElem_toArray, List.getElem_cons_zero, List.getElem_cons_succ, List.setIfInBounds_toArray, List.set_cons_zero, List.set_cons_succ]
      obtain ⟨g1, g2, g3⟩ := HC.out w5 HB5.out
      refine wpAnyH_ready (rs := [15]) (by kernel_rfl) (by simp) ?_
      refine AllReadyH.cons rfl (fun K hK => ?_) AllReadyH.nil
      refine if_wanted (wanted_none rfl) ?_
      simp only [List.getElem_toArray, List.getElem_cons_zero, List.getElem_cons_succ]
      go_simp
      refine hK.out _ _ trivial (fun _ => ?_)
      clear hK K
      refine wpAnyH_done (by kernel_rfl) ?_ _
      go_wp2_with fail
      go_roundw
      case rel => exact ⟨j + 1, by omega, by go_num, by rw [HN.out]; exact unfI_next hS.out hlt HB5.out⟩
      case measure => simp [intOf]; omega
    · obtain rfl : j = row.size := by omega
      have dl : decide ((row.size : Int) < (row.size : Int)) = false := decide_eq_false (by omega)
      obtain ⟨h, hO, hh, hl, hBB⟩ := hS.out
      have hcv := hO.text (unfL 0 (bts row) (bts above) unit row.size) (unfL_length _ _ _ _ _) (fun i hi => (hh i hi).symm)
      have HBE := hid_of hBB
      clear hS hO hh hl hBB
      go_wp2_with fail
      refine bodyPost_ret (v := .tuple #[.string (strOfNums (unfL 0 (bts row) (bts above) unit row.size)), .bool true]) ?_ rfl ⟨rfl, HBE.out⟩
      simp [results, Try.results14, go_sem]
set_option maxRecDepth 100000 in
set_option maxHeartbeats 3200000 in
theorem implUnfilter_1 (row above : ByteArray) (unit : Nat) (w : World) (h : FiltR 1 row above (unit : Int)) :
    Calls Try.prog 14 #[.int .i64 1, .string row, .string above, .int .i64 (unit : Int)] w fun e w' => e = .returned (.tuple #[.string (unfT 1 row above unit), .bool true]) ∧ Below w.heap.size w w' := by
  have hcan := fun W => canFilter_any row above (unit : Int) W
  rw [decide_eq_true (h.kind (j := 0) (by omega))] at hcan
  obtain ⟨-, hu, hs, hn⟩ := h
  have hu' : 1 ≤ unit ∧ unit ≤ 8 := by omega
  have HS0 := hid_of hs
  have ha : above.size ≤ 200 := by omega
  clear hs
  go_enter Try.func14, Try.ntmps14
  go_wp2_with fail
  refine (kinds_any _).mono ?_
  rintro e w1 ⟨rfl, hm, hB1⟩
  have lk : (Instr.lookup 45 (.map (some w.heap.size)) (.int .i64 1) true).run Try.prog w1 = .ok (.tuple #[fnV 38, .bool true]) w1 := kind_look hm 1 (by omega)
  have HB1 := hid_of hB1
  clear hm hB1
  go_wp2_with fail
  refine (hcan _).mono ?_
  rintro e w2 ⟨rfl, rfl⟩
  clear hcan lk
  have hmk := make_bytes12 w2 row.size (by omega)
  have H0 : Hid (UnfI w (w2.alloc (.cells (madeCells #[Value.int .u8 0] row.size) 5)) w2.heap.size row.size (unfL 1 (bts row) (bts above) unit 0) 0) :=
    ⟨fun _ => 0, BFn.made (base := w.heap.size) w2 row.size (by unfold maxLen; omega) HB1.out.size, fun i hi => absurd hi (Nat.not_lt_zero i), rfl, bal HB1.out _⟩
  generalize w2.alloc (.cells (madeCells #[Value.int .u8 0] row.size) 5) = w3 at hmk H0
  generalize w2.heap.size = G at hmk H0
  go_wp2_with fail
  go_loopw [34] (fun i w' => ∃ j : Nat, j ≤ row.size ∧ i = .int .i64 (j : Int) ∧ Hid (UnfI w w' G row.size (unfL 1 (bts row) (bts above) unit j) j)) (fun i _ => row.size - (intOf i).toNat)
  case atStart => exact ⟨0, Nat.zero_le _, rfl, H0⟩
  case round =>
    clear H0 hmk
    obtain ⟨j, hj, rfl, hS⟩ := hrel
    by_cases hlt : j < row.size
    · have hal : j < above.size := by rw [← HS0.out]; exact hlt
      obtain ⟨h, hO, hh, hl, hBB⟩ := hS.out
      have gl : G < wr.heap.size := Own.lt hO
      have hrow : unit ≤ j → ∃ g, (some ⟨G, 0, none⟩ : Option Addr) = some ⟨g, 0, none⟩ ∧ j - unit < row.size ∧ g < wr.drew.heap.size ∧ wr.drew.cell? ⟨g, j - unit, none⟩ = some (.int .u8 ((fun i => (unfL 1 (bts row) (bts above) unit j).getD i 0) (j - unit))) := fun hq => by
        refine ⟨_, rfl, by omega, gl, ?_⟩
        show _ = some (Value.int .u8 ((unfL 1 (bts row) (bts above) unit j).getD (j - unit) 0))
        rw [← hh (j - unit) (by omega)]
        exact hO.cell (j - unit) (by omega)
      have hbes := beside_any (some ⟨G, 0, none⟩) row.size row.size (fun i => (unfL 1 (bts row) (bts above) unit j).getD i 0) above unit j wr.drew hu' hal ha (fun i => getD_byte13 (unfL_byte _ _ _ _ _) i) hrow
      have HC : Hid (∀ w', Below wr.heap.size wr w' → w'.cell? ⟨G, j, none⟩ = some (.int .u8 (h j)) ∧ w'.frozen? ⟨G, j, none⟩ = false ∧ G < w'.heap.size) := fun w' hb => ⟨((bcell hb).1 _ _ gl).trans (hO.cell j hlt), ((bcell hb).2 _ _ gl).trans (hO.free j hlt), Nat.lt_of_lt_of_le gl hb.size⟩
      have HBY : Hid ((row[j]'hlt).toNat = byteAt row j) := byteAt_get row j hlt
      obtain ⟨X, hX⟩ : ∃ X : Int, X = ((row[j]'hlt).toNat : Int) := ⟨_, rfl⟩
      have hX0 : 0 ≤ X ∧ X < 256 := by have : (row[j]'hlt).toNat < 256 := UInt8.toNat_lt _; omega
      have hXr := hX.symm
      have x0 : (0 : Int) ≤ (j : Int) := by omega
      have x1 : (j : Int) < (row.size : Int) := by omega
      clear hh hBB hO hrow hl
      obtain ⟨L, hL⟩ : ∃ L, L = aheadB (fun i => (unfL 1 (bts row) (bts above) unit j).getD i 0) unit j := ⟨_, rfl⟩
      obtain ⟨U, hU⟩ : ∃ U, U = bts above j := ⟨_, rfl⟩
      obtain ⟨C, hC⟩ : ∃ C, C = aheadB (bts above) unit j := ⟨_, rfl⟩
      rw [← hL, ← hU, ← hC] at hbes
      have hL0 : 0 ≤ L ∧ L < 256 := by rw [hL]; exact ahead_byte (fun i => getD_byte13 (unfL_byte _ _ _ _ _) i) _ _
      have hU0 : 0 ≤ U ∧ U < 256 := by rw [hU]; exact bts_byte above j
      have hC0 : 0 ≤ C ∧ C < 256 := by rw [hC]; exact ahead_byte (bts_byte above) _ _
      have hkd := fun W => ahead_any L U C W
      have HY : Hid (told 1 L U C = says 1 (fun i => (unfL 1 (bts row) (bts above) unit j).getD i 0) (bts above) unit j) := by
        show _ = _
        unfold says
        rw [hL, hU, hC]
      obtain ⟨Y, hY⟩ : ∃ Y, Y = told 1 L U C := ⟨_, rfl⟩
      have hY0 : 0 ≤ Y ∧ Y < 256 := by rw [hY]; exact told_byte 1 hL0 hU0 hC0
      rw [← hY] at hkd HY
      obtain ⟨Z, hZ⟩ : ∃ Z, Z = (X + Y) % 256 := ⟨_, rfl⟩
      have hZ0 : 0 ≤ Z ∧ Z < 256 := by omega
      have u8w : IntKind.u8.wrap (X + Y) = Z := by show (X + Y) % 256 = Z; omega
      have HN : Hid (unfL 1 (bts row) (bts above) unit (j + 1) = unfL 1 (bts row) (bts above) unit j ++ [Z]) := by
        show _ = _
        rw [unfL_next, ← HY.out, hZ, hX, HBY.out]
        rfl
      have u8y : IntKind.u8.wrap Y = Y := by show Y % 256 = Y; omega
      have dl : decide ((j : Int) < (row.size : Int)) = true := decide_eq_true (by omega)
      clear hX hY hZ hL hU hC
      go_wp2_with fail
      refine wp_region_held (S := fun _ => True) (by kernel_rfl) ?_
      show wpAnyH _ _ _ _ _ _ _ _ wr.drew
      refine wpAnyH_take (i := 0) (v := .slice (some ⟨G, 0, none⟩) row.size row.size) rfl (by kernel_rfl) (by kernel_rfl) (by kernel_rfl) (fun _ _ _ h => h) (Or.inl ⟨by rfl, ?_⟩) trivial ?_
      · intro w' _
        go_simp
      simp only [Act.put, List.getElem_toArray, List.getElem_cons_zero, List.setIfInBounds_toArray, List.set_cons_zero, List.set_cons_succ]
      refine wpAnyH_take (i := 1) (v := .int .i64 (j : Int)) rfl (by kernel_rfl) (by kernel_rfl) (by kernel_rfl) (fun _ _ _ h => h) (Or.inl ⟨by rfl, ?_⟩) trivial ?_
      · intro w' _
        go_simp
      simp only [Act.put, List.getElem_toArray, List.getElem_cons_zero, List.getElem_cons_succ, List.setIfInBounds_toArray, List.set_cons_zero, List.set_cons_succ]
      refine wpAnyH_take (i := 2) (v := .string row) rfl (by kernel_rfl) (by kernel_rfl) (by kernel_rfl) (fun _ _ _ h => h) (Or.inl ⟨by rfl, ?_⟩) trivial ?_
      · intro w' _
        go_simp
      simp only [Act.put, List.getElem_toArray, List.getElem_cons_zero, List.getElem_cons_succ, List.setIfInBounds_toArray, List.set_cons_zero, List.set_cons_succ]
      refine wpAnyH_take (i := 3) (v := .int .i64 (j : Int)) rfl (by kernel_rfl) (by kernel_rfl) (by kernel_rfl) (fun _ _ _ h => h) (Or.inl ⟨by rfl, ?_⟩) trivial ?_
      · intro w' _
        go_simp
      simp only [Act.put, List.getElem_toArray, List.getElem_cons_zero, List.getElem_cons_succ, List.setIfInBounds_toArray, List.set_cons_zero, List.set_cons_succ]
      refine wpAnyH_take (i := 4) (v := .int .u8 X) rfl (by kernel_rfl) (by kernel_rfl) (by kernel_rfl) (fun _ _ _ h => h) (Or.inl ⟨by rfl, ?_⟩) trivial ?_
      · intro w' _
        go_simp
      simp only [Act.put, List.getElem_toArray, List.getElem_cons_zero, List.getElem_cons_succ, List.setIfInBounds_toArray, List.set_cons_zero, List.set_cons_succ]
      refine wpAnyH_take (i := 5) (v := fnV 38) rfl (by kernel_rfl) (by kernel_rfl) (by kernel_rfl) (fun _ _ _ h => h) (Or.inl ⟨by rfl, ?_⟩) trivial ?_
      · intro w' _
        go_simp
      simp only [Act.put, List.getElem_toArray, List.getElem_cons_zero, List.getElem_cons_succ, List.setIfInBounds_toArray, List.set_cons_zero, List.set_cons_succ]
      refine wpAnyH_take (i := 6) (v := .slice (some ⟨G, 0, none⟩) row.size row.size) rfl (by kernel_rfl) (by kernel_rfl) (by kernel_rfl) (fun _ _ _ h => h) (Or.inl ⟨by rfl, ?_⟩) trivial ?_
      · intro w' _
        go_simp
      simp only [Act.put, List.getElem_toArray, List.getElem_cons_zero, List.getElem_cons_succ, List.setIfInBounds_toArray, List.set_cons_zero, List.set_cons_succ]
      refine wpAnyH_take (i := 7) (v := .string above) rfl (by kernel_rfl) (by kernel_rfl) (by kernel_rfl) (fun _ _ _ h => h) (Or.inl ⟨by rfl, ?_⟩) trivial ?_
      · intro w' _
        go_simp
      simp only [Act.put, List.getElem_toArray, List.getElem_cons_zero, List.getElem_cons_succ, List.setIfInBounds_toArray, List.set_cons_zero, List.set_cons_succ]
      refine wpAnyH_take (i := 8) (v := .int .i64 (j : Int)) rfl (by kernel_rfl) (by kernel_rfl) (by kernel_rfl) (fun _ _ _ h => h) (Or.inl ⟨by rfl, ?_⟩) trivial ?_
      · intro w' _
        go_simp
      simp only [Act.put, List.getElem_toArray, List.getElem_cons_zero, List.getElem_cons_succ, List.setIfInBounds_toArray, List.set_cons_zero, List.set_cons_succ]
      refine wpAnyH_take (i := 9) (v := .int .i64 (unit : Int)) rfl (by kernel_rfl) (by kernel_rfl) (by kernel_rfl) (fun _ _ _ h => h) (Or.inl ⟨by rfl, ?_⟩) trivial ?_
      · intro w' _
        go_simp
      simp only [Act.put, List.getElem_toArray, List.getElem_cons_zero, List.getElem_cons_succ, List.setIfInBounds_toArray, List.set_cons_zero, List.set_cons_succ]
      refine wpAnyH_ready (rs := [10]) (by kernel_rfl) (by simp) ?_
      refine AllReadyH.cons rfl (fun K hK => ?_) AllReadyH.nil
      refine if_wanted (wanted_none rfl) ?_
      simp only [List.getElem_toArray, List.getElem_cons_zero, List.getElem_cons_succ]
      go_simp
      refine hbes.mono ?_
      rintro e w4 ⟨rfl, hB4⟩
      have HB4 : Hid (Below wr.heap.size wr w4) := ⟨hB4.1, hB4.2, hB4.3, hB4.4, hB4.5⟩
      clear hB4 hbes
      refine hK.out _ _ trivial (fun _ => ?_)
      clear hK K
      refine wpAnyH_ready (rs := [11]) (by kernel_rfl) (by simp) ?_
      refine AllReadyH.cons rfl (fun K hK => ?_) AllReadyH.nil
      refine if_wanted (wanted_none rfl) ?_
      simp only [List.getElem_toArray, List.getElem_cons_zero, List.getElem_cons_succ]
      go_simp
      refine (hkd _).mono ?_
      rintro e w5 ⟨rfl, hB5⟩
      have HB5 : Hid (Below wr.heap.size wr w5) := bnext HB4.out hB5
      clear hB5 hkd HB4
      refine hK.out _ _ trivial (fun _ => ?_)
      clear hK K
      refine wpAnyH_take (i := 12) (v := .int .u8 Y) rfl (by kernel_rfl) (by kernel_rfl) (by kernel_rfl) (fun _ _ _ h => h) (Or.inl ⟨by rfl, ?_⟩) trivial ?_
      · intro w' _
        go_simp
      simp only [Act.put, List.getElem_toArray, List.getElem_cons_zero, List.getElem_cons_succ, List.setIfInBounds_toArray, List.set_cons_zero, List.set_cons_succ]
      refine wpAnyH_take (i := 13) (v := .int .u8 Z) rfl (by kernel_rfl) (by kernel_rfl) (by kernel_rfl) (fun _ _ _ h => h) (Or.inl ⟨by rfl, ?_⟩) trivial ?_
      · intro w' _
        go_simp
      simp only [Act.put, List.getElem_toArray, List.getElem_cons_zero, List.getElem_cons_succ, List.setIfInBounds_toArray, List.set_cons_zero, List.set_cons_succ]
      refine wpAnyH_take (i := 14) (v := .pointer (some ⟨G, j, none⟩)) rfl (by kernel_rfl) (by kernel_rfl) (by kernel_rfl) (fun _ _ _ h => h) (Or.inl ⟨by rfl, ?_⟩) trivial ?_
      · intro w' _
        go_simp
      simp only [Act.put, List.getElem_toArray, List.getElem_cons_zero, List.getElem_cons_succ, List.setIfInBounds_toArray, List.set_cons_zero, List.set_cons_succ]
      obtain ⟨g1, g2, g3⟩ := HC.out w5 HB5.out
      refine wpAnyH_ready (rs := [15]) (by kernel_rfl) (by simp) ?_
      refine AllReadyH.cons rfl (fun K hK => ?_) AllReadyH.nil
      refine if_wanted (wanted_none rfl) ?_
      simp only [List.getElem_toArray, List.getElem_cons_zero, List.getElem_cons_succ]
      go_simp
      refine hK.out _ _ trivial (fun _ => ?_)
      clear hK K
      refine wpAnyH_done (by kernel_rfl) ?_ _
      go_wp2_with fail
      go_roundw
      case rel => exact ⟨j + 1, by omega, by go_num, by rw [HN.out]; exact unfI_next hS.out hlt HB5.out⟩
      case measure => simp [intOf]; omega
    · obtain rfl : j = row.size := by omega
      have dl : decide ((row.size : Int) < (row.size : Int)) = false := decide_eq_false (by omega)
      obtain ⟨h, hO, hh, hl, hBB⟩ := hS.out
      have hcv := hO.text (unfL 1 (bts row) (bts above) unit row.size) (unfL_length _ _ _ _ _) (fun i hi => (hh i hi).symm)
      have HBE := hid_of hBB
      clear hS hO hh hl hBB
      go_wp2_with fail
      refine bodyPost_ret (v := .tuple #[.string (strOfNums (unfL 1 (bts row) (bts above) unit row.size)), .bool true]) ?_ rfl ⟨rfl, HBE.out⟩
      simp [results, Try.results14, go_sem]
set_option maxRecDepth 100000 in
set_option maxHeartbeats 3200000 in
theorem implUnfilter_2 (row above : ByteArray) (unit : Nat) (w : World) (h : FiltR 2 row above (unit : Int)) :
    Calls Try.prog 14 #[.int .i64 2, .string row, .string above, .int .i64 (unit : Int)] w fun e w' => e = .returned (.tuple #[.string (unfT 2 row above unit), .bool true]) ∧ Below w.heap.size w w' := by
  have hcan := fun W => canFilter_any row above (unit : Int) W
  rw [decide_eq_true (h.kind (j := 0) (by omega))] at hcan
  obtain ⟨-, hu, hs, hn⟩ := h
  have hu' : 1 ≤ unit ∧ unit ≤ 8 := by omega
  have HS0 := hid_of hs
  have ha : above.size ≤ 200 := by omega
  clear hs
  go_enter Try.func14, Try.ntmps14
  go_wp2_with fail
  refine (kinds_any _).mono ?_
  rintro e w1 ⟨rfl, hm, hB1⟩
  have lk : (Instr.lookup 45 (.map (some w.heap.size)) (.int .i64 2) true).run Try.prog w1 = .ok (.tuple #[fnV 39, .bool true]) w1 := kind_look hm 2 (by omega)
  have HB1 := hid_of hB1
  clear hm hB1
  go_wp2_with fail
  refine (hcan _).mono ?_
  rintro e w2 ⟨rfl, rfl⟩
  clear hcan lk
  have hmk := make_bytes12 w2 row.size (by omega)
  have H0 : Hid (UnfI w (w2.alloc (.cells (madeCells #[Value.int .u8 0] row.size) 5)) w2.heap.size row.size (unfL 2 (bts row) (bts above) unit 0) 0) :=
    ⟨fun _ => 0, BFn.made (base := w.heap.size) w2 row.size (by unfold maxLen; omega) HB1.out.size, fun i hi => absurd hi (Nat.not_lt_zero i), rfl, bal HB1.out _⟩
  generalize w2.alloc (.cells (madeCells #[Value.int .u8 0] row.size) 5) = w3 at hmk H0
  generalize w2.heap.size = G at hmk H0
  go_wp2_with fail
  go_loopw [34] (fun i w' => ∃ j : Nat, j ≤ row.size ∧ i = .int .i64 (j : Int) ∧ Hid (UnfI w w' G row.size (unfL 2 (bts row) (bts above) unit j) j)) (fun i _ => row.size - (intOf i).toNat)
  case atStart => exact ⟨0, Nat.zero_le _, rfl, H0⟩
  case round =>
    clear H0 hmk
    obtain ⟨j, hj, rfl, hS⟩ := hrel
    by_cases hlt : j < row.size
    · have hal : j < above.size := by rw [← HS0.out]; exact hlt
      obtain ⟨h, hO, hh, hl, hBB⟩ := hS.out
      have gl : G < wr.heap.size := Own.lt hO
      have hrow : unit ≤ j → ∃ g, (some ⟨G, 0, none⟩ : Option Addr) = some ⟨g, 0, none⟩ ∧ j - unit < row.size ∧ g < wr.drew.heap.size ∧ wr.drew.cell? ⟨g, j - unit, none⟩ = some (.int .u8 ((fun i => (unfL 2 (bts row) (bts above) unit j).getD i 0) (j - unit))) := fun hq => by
        refine ⟨_, rfl, by omega, gl, ?_⟩
        show _ = some (Value.int .u8 ((unfL 2 (bts row) (bts above) unit j).getD (j - unit) 0))
        rw [← hh (j - unit) (by omega)]
        exact hO.cell (j - unit) (by omega)
      have hbes := beside_any (some ⟨G, 0, none⟩) row.size row.size (fun i => (unfL 2 (bts row) (bts above) unit j).getD i 0) above unit j wr.drew hu' hal ha (fun i => getD_byte13 (unfL_byte _ _ _ _ _) i) hrow
      have HC : Hid (∀ w', Below wr.heap.size wr w' → w'.cell? ⟨G, j, none⟩ = some (.int .u8 (h j)) ∧ w'.frozen? ⟨G, j, none⟩ = false ∧ G < w'.heap.size) := fun w' hb => ⟨((bcell hb).1 _ _ gl).trans (hO.cell j hlt), ((bcell hb).2 _ _ gl).trans (hO.free j hlt), Nat.lt_of_lt_of_le gl hb.size⟩
      have HBY : Hid ((row[j]'hlt).toNat = byteAt row j) := byteAt_get row j hlt
      obtain ⟨X, hX⟩ : ∃ X : Int, X = ((row[j]'hlt).toNat : Int) := ⟨_, rfl⟩
      have hX0 : 0 ≤ X ∧ X < 256 := by have : (row[j]'hlt).toNat < 256 := UInt8.toNat_lt _; omega
      have hXr := hX.symm
      have x0 : (0 : Int) ≤ (j : Int) := by omega
      have x1 : (j : Int) < (row.size : Int) := by omega
      clear hh hBB hO hrow hl
      obtain ⟨L, hL⟩ : ∃ L, L = aheadB (fun i => (unfL 2 (bts row) (bts above) unit j).getD i 0) unit j := ⟨_, rfl⟩
      obtain ⟨U, hU⟩ : ∃ U, U = bts above j := ⟨_, rfl⟩
      obtain ⟨C, hC⟩ : ∃ C, C = aheadB (bts above) unit j := ⟨_, rfl⟩
      rw [← hL, ← hU, ← hC] at hbes
      have hL0 : 0 ≤ L ∧ L < 256 := by rw [hL]; exact ahead_byte (fun i => getD_byte13 (unfL_byte _ _ _ _ _) i) _ _
      have hU0 : 0 ≤ U ∧ U < 256 := by rw [hU]; exact bts_byte above j
      have hC0 : 0 ≤ C ∧ C < 256 := by rw [hC]; exact ahead_byte (bts_byte above) _ _
      have hkd := fun W => above_any L U C W
      have HY : Hid (told 2 L U C = says 2 (fun i => (unfL 2 (bts row) (bts above) unit j).getD i 0) (bts above) unit j) := by
        show _ = _
        unfold says
        rw [hL, hU, hC]
      obtain ⟨Y, hY⟩ : ∃ Y, Y = told 2 L U C := ⟨_, rfl⟩
      have hY0 : 0 ≤ Y ∧ Y < 256 := by rw [hY]; exact told_byte 2 hL0 hU0 hC0
      rw [← hY] at hkd HY
      obtain ⟨Z, hZ⟩ : ∃ Z, Z = (X + Y) % 256 := ⟨_, rfl⟩
      have hZ0 : 0 ≤ Z ∧ Z < 256 := by omega
      have u8w : IntKind.u8.wrap (X + Y) = Z := by show (X + Y) % 256 = Z; omega
      have HN : Hid (unfL 2 (bts row) (bts above) unit (j + 1) = unfL 2 (bts row) (bts above) unit j ++ [Z]) := by
        show _ = _
        rw [unfL_next, ← HY.out, hZ, hX, HBY.out]
        rfl
      have u8y : IntKind.u8.wrap Y = Y := by show Y % 256 = Y; omega
      have dl : decide ((j : Int) < (row.size : Int)) = true := decide_eq_true (by omega)
      clear hX hY hZ hL hU hC
      go_wp2_with fail
      refine wp_region_held (S := fun _ => True) (by kernel_rfl) ?_
      show wpAnyH _ _ _ _ _ _ _ _ wr.drew
      refine wpAnyH_take (i := 0) (v := .slice (some ⟨G, 0, none⟩) row.size row.size) rfl (by kernel_rfl) (by kernel_rfl) (by kernel_rfl) (fun _ _ _ h => h) (Or.inl ⟨by rfl, ?_⟩) trivial ?_
      · intro w' _
        go_simp
      simp only [Act.put, List.getElem_toArray, List.getElem_cons_zero, List.setIfInBounds_toArray, List.set_cons_zero, List.set_cons_succ]
      refine wpAnyH_take (i := 1) (v := .int .i64 (j : Int)) rfl (by kernel_rfl) (by kernel_rfl) (by kernel_rfl) (fun _ _ _ h => h) (Or.inl ⟨by rfl, ?_⟩) trivial ?_
      · intro w' _
        go_simp
      simp only [Act.put, List.getElem_toArray, List.getElem_cons_zero, List.getElem_cons_succ, List.setIfInBounds_toArray, List.set_cons_zero, List.set_cons_succ]
      refine wpAnyH_take (i := 2) (v := .string row) rfl (by kernel_rfl) (by kernel_rfl) (by kernel_rfl) (fun _ _ _ h => h) (Or.inl ⟨by rfl, ?_⟩) trivial ?_
      · intro w' _
        go_simp
      simp only [Act.put, List.getElem_toArray, List.getElem_cons_zero, List.getElem_cons_succ, List.setIfInBounds_toArray, List.set_cons_zero, List.set_cons_succ]
      refine wpAnyH_take (i := 3) (v := .int .i64 (j : Int)) rfl (by kernel_rfl) (by kernel_rfl) (by kernel_rfl) (fun _ _ _ h => h) (Or.inl ⟨by rfl, ?_⟩) trivial ?_
      · intro w' _
        go_simp
      simp only [Act.put, List.getElem_toArray, List.getElem_cons_zero, List.getElem_cons_succ, List.setIfInBounds_toArray, List.set_cons_zero, List.set_cons_succ]
      refine wpAnyH_take (i := 4) (v := .int .u8 X) rfl (by kernel_rfl) (by kernel_rfl) (by kernel_rfl) (fun _ _ _ h => h) (Or.inl ⟨by rfl, ?_⟩) trivial ?_
      · intro w' _
        go_simp
      simp only [Act.put, List.getElem_toArray, List.getElem_cons_zero, List.getElem_cons_succ, List.setIfInBounds_toArray, List.set_cons_zero, List.set_cons_succ]
      refine wpAnyH_take (i := 5) (v := fnV 39) rfl (by kernel_rfl) (by kernel_rfl) (by kernel_rfl) (fun _ _ _ h => h) (Or.inl ⟨by rfl, ?_⟩) trivial ?_
      · intro w' _
        go_simp
      simp only [Act.put, List.getElem_toArray, List.getElem_cons_zero, List.getElem_cons_succ, List.setIfInBounds_toArray, List.set_cons_zero, List.set_cons_succ]
      refine wpAnyH_take (i := 6) (v := .slice (some ⟨G, 0, none⟩) row.size row.size) rfl (by kernel_rfl) (by kernel_rfl) (by kernel_rfl) (fun _ _ _ h => h) (Or.inl ⟨by rfl, ?_⟩) trivial ?_
      · intro w' _
        go_simp
      simp only [Act.put, List.getElem_toArray, List.getElem_cons_zero, List.getElem_cons_succ, List.setIfInBounds_toArray, List.set_cons_zero, List.set_cons_succ]
      refine wpAnyH_take (i := 7) (v := .string above) rfl (by kernel_rfl) (by kernel_rfl) (by kernel_rfl) (fun _ _ _ h => h) (Or.inl ⟨by rfl, ?_⟩) trivial ?_
      · intro w' _
        go_simp
      simp only [Act.put, List.getElem_toArray, List.getElem_cons_zero, List.getElem_cons_succ, List.setIfInBounds_toArray, List.set_cons_zero, List.set_cons_succ]
      refine wpAnyH_take (i := 8) (v := .int .i64 (j : Int)) rfl (by kernel_rfl) (by kernel_rfl) (by kernel_rfl) (fun _ _ _ h => h) (Or.inl ⟨by rfl, ?_⟩) trivial ?_
      · intro w' _
        go_simp
      simp only [Act.put, List.getElem_toArray, List.getElem_cons_zero, List.getElem_cons_succ, List.setIfInBounds_toArray, List.set_cons_zero, List.set_cons_succ]
      refine wpAnyH_take (i := 9) (v := .int .i64 (unit : Int)) rfl (by kernel_rfl) (by kernel_rfl) (by kernel_rfl) (fun _ _ _ h => h) (Or.inl ⟨by rfl, ?_⟩) trivial ?_
      · intro w' _
        go_simp
      simp only [Act.put, List.getElem_toArray, List.getElem_cons_zero, List.getElem_cons_succ, List.setIfInBounds_toArray, List.set_cons_zero, List.set_cons_succ]
      refine wpAnyH_ready (rs := [10]) (by kernel_rfl) (by simp) ?_
      refine AllReadyH.cons rfl (fun K hK => ?_) AllReadyH.nil
      refine if_wanted (wanted_none rfl) ?_
      simp only [List.getElem_toArray, List.getElem_cons_zero, List.getElem_cons_succ]
      go_simp
      refine hbes.mono ?_
      rintro e w4 ⟨rfl, hB4⟩
      have HB4 : Hid (Below wr.heap.size wr w4) := ⟨hB4.1, hB4.2, hB4.3, hB4.4, hB4.5⟩
      clear hB4 hbes
      refine hK.out _ _ trivial (fun _ => ?_)
      clear hK K
      refine wpAnyH_ready (rs := [11]) (by kernel_rfl) (by simp) ?_
      refine AllReadyH.cons rfl (fun K hK => ?_) AllReadyH.nil
      refine if_wanted (wanted_none rfl) ?_
      simp only [List.getElem_toArray, List.getElem_cons_zero, List.getElem_cons_succ]
      go_simp
      refine (hkd _).mono ?_
      rintro e w5 ⟨rfl, hB5⟩
      have HB5 : Hid (Below wr.heap.size wr w5) := bnext HB4.out hB5
      clear hB5 hkd HB4
      refine hK.out _ _ trivial (fun _ => ?_)
      clear hK K
      refine wpAnyH_take (i := 12) (v := .int .u8 Y) rfl (by kernel_rfl) (by kernel_rfl) (by kernel_rfl) (fun _ _ _ h => h) (Or.inl ⟨by rfl, ?_⟩) trivial ?_
      · intro w' _
        go_simp
      simp only [Act.put, List.getElem_toArray, List.getElem_cons_zero, List.getElem_cons_succ, List.setIfInBounds_toArray, List.set_cons_zero, List.set_cons_succ]
      refine wpAnyH_take (i := 13) (v := .int .u8 Z) rfl (by kernel_rfl) (by kernel_rfl) (by kernel_rfl) (fun _ _ _ h => h) (Or.inl ⟨by rfl, ?_⟩) trivial ?_
      · intro w' _
        go_simp
      simp only [Act.put, List.getElem_toArray, List.getElem_cons_zero, List.getElem_cons_succ, List.setIfInBounds_toArray, List.set_cons_zero, List.set_cons_succ]
      refine wpAnyH_take (i := 14) (v := .pointer (some ⟨G, j, none⟩)) rfl (by kernel_rfl) (by kernel_rfl) (by kernel_rfl) (fun _ _ _ h => h) (Or.inl ⟨by rfl, ?_⟩) trivial ?_
      · intro w' _
        go_simp
      simp only [Act.put, List.getElem_toArray, List.getElem_cons_zero, List.getElem_cons_succ, List.setIfInBounds_toArray, List.set_cons_zero, List.set_cons_succ]
      obtain ⟨g1, g2, g3⟩ := HC.out w5 HB5.out
      refine wpAnyH_ready (rs := [15]) (by kernel_rfl) (by simp) ?_
      refine AllReadyH.cons rfl (fun K hK => ?_) AllReadyH.nil
      refine if_wanted (wanted_none rfl) ?_
      simp only [List.getElem_toArray, List.getElem_cons_zero, List.getElem_cons_succ]
      go_simp
      refine hK.out _ _ trivial (fun _ => ?_)
      clear hK K
      refine wpAnyH_done (by kernel_rfl) ?_ _
      go_wp2_with fail
      go_roundw
      case rel => exact ⟨j + 1, by omega, by go_num, by rw [HN.out]; exact unfI_next hS.out hlt HB5.out⟩
      case measure => simp [intOf]; omega
    · obtain rfl : j = row.size := by omega
      have dl : decide ((row.size : Int) < (row.size : Int)) = false := decide_eq_false (by omega)
      obtain ⟨h, hO, hh, hl, hBB⟩ := hS.out
      have hcv := hO.text (unfL 2 (bts row) (bts above) unit row.size) (unfL_length _ _ _ _ _) (fun i hi => (hh i hi).symm)
      have HBE := hid_of hBB
      clear hS hO hh hl hBB
      go_wp2_with fail
      refine bodyPost_ret (v := .tuple #[.string (strOfNums (unfL 2 (bts row) (bts above) unit row.size)), .bool true]) ?_ rfl ⟨rfl, HBE.out⟩
      simp [results, Try.results14, go_sem]
set_option maxRecDepth 100000 in
set_option maxHeartbeats 3200000 in
theorem implUnfilter_3 (row above : ByteArray) (unit : Nat) (w : World) (h : FiltR 3 row above (unit : Int)) :
    Calls Try.prog 14 #[.int .i64 3, .string row, .string above, .int .i64 (unit : Int)] w fun e w' => e = .returned (.tuple #[.string (unfT 3 row above unit), .bool true]) ∧ Below w.heap.size w w' := by
  have hcan := fun W => canFilter_any row above (unit : Int) W
  rw [decide_eq_true (h.kind (j := 0) (by omega))] at hcan
  obtain ⟨-, hu, hs, hn⟩ := h
  have hu' : 1 ≤ unit ∧ unit ≤ 8 := by omega
  have HS0 := hid_of hs
  have ha : above.size ≤ 200 := by omega
  clear hs
  go_enter Try.func14, Try.ntmps14
  go_wp2_with fail
  refine (kinds_any _).mono ?_
  rintro e w1 ⟨rfl, hm, hB1⟩
  have lk : (Instr.lookup 45 (.map (some w.heap.size)) (.int .i64 3) true).run Try.prog w1 = .ok (.tuple #[fnV 40, .bool true]) w1 := kind_look hm 3 (by omega)
  have HB1 := hid_of hB1
  clear hm hB1
  go_wp2_with fail
  refine (hcan _).mono ?_
  rintro e w2 ⟨rfl, rfl⟩
  clear hcan lk
  have hmk := make_bytes12 w2 row.size (by omega)
  have H0 : Hid (UnfI w (w2.alloc (.cells (madeCells #[Value.int .u8 0] row.size) 5)) w2.heap.size row.size (unfL 3 (bts row) (bts above) unit 0) 0) :=
    ⟨fun _ => 0, BFn.made (base := w.heap.size) w2 row.size (by unfold maxLen; omega) HB1.out.size, fun i hi => absurd hi (Nat.not_lt_zero i), rfl, bal HB1.out _⟩
  generalize w2.alloc (.cells (madeCells #[Value.int .u8 0] row.size) 5) = w3 at hmk H0
  generalize w2.heap.size = G at hmk H0
  go_wp2_with fail
  go_loopw [34] (fun i w' => ∃ j : Nat, j ≤ row.size ∧ i = .int .i64 (j : Int) ∧ Hid (UnfI w w' G row.size (unfL 3 (bts row) (bts above) unit j) j)) (fun i _ => row.size - (intOf i).toNat)
  case atStart => exact ⟨0, Nat.zero_le _, rfl, H0⟩
  case round =>
    clear H0 hmk
    obtain ⟨j, hj, rfl, hS⟩ := hrel
    by_cases hlt : j < row.size
    · have hal : j < above.size := by rw [← HS0.out]; exact hlt
      obtain ⟨h, hO, hh, hl, hBB⟩ := hS.out
      have gl : G < wr.heap.size := Own.lt hO
      have hrow : unit ≤ j → ∃ g, (some ⟨G, 0, none⟩ : Option Addr) = some ⟨g, 0, none⟩ ∧ j - unit < row.size ∧ g < wr.drew.heap.size ∧ wr.drew.cell? ⟨g, j - unit, none⟩ = some (.int .u8 ((fun i => (unfL 3 (bts row) (bts above) unit j).getD i 0) (j - unit))) := fun hq => by
        refine ⟨_, rfl, by omega, gl, ?_⟩
        show _ = some (Value.int .u8 ((unfL 3 (bts row) (bts above) unit j).getD (j - unit) 0))
        rw [← hh (j - unit) (by omega)]
        exact hO.cell (j - unit) (by omega)
      have hbes := beside_any (some ⟨G, 0, none⟩) row.size row.size (fun i => (unfL 3 (bts row) (bts above) unit j).getD i 0) above unit j wr.drew hu' hal ha (fun i => getD_byte13 (unfL_byte _ _ _ _ _) i) hrow
      have HC : Hid (∀ w', Below wr.heap.size wr w' → w'.cell? ⟨G, j, none⟩ = some (.int .u8 (h j)) ∧ w'.frozen? ⟨G, j, none⟩ = false ∧ G < w'.heap.size) := fun w' hb => ⟨((bcell hb).1 _ _ gl).trans (hO.cell j hlt), ((bcell hb).2 _ _ gl).trans (hO.free j hlt), Nat.lt_of_lt_of_le gl hb.size⟩
      have HBY : Hid ((row[j]'hlt).toNat = byteAt row j) := byteAt_get row j hlt
      obtain ⟨X, hX⟩ : ∃ X : Int, X = ((row[j]'hlt).toNat : Int) := ⟨_, rfl⟩
      have hX0 : 0 ≤ X ∧ X < 256 := by have : (row[j]'hlt).toNat < 256 := UInt8.toNat_lt _; omega
      have hXr := hX.symm
      have x0 : (0 : Int) ≤ (j : Int) := by omega
      have x1 : (j : Int) < (row.size : Int) := by omega
      clear hh hBB hO hrow hl
      obtain ⟨L, hL⟩ : ∃ L, L = aheadB (fun i => (unfL 3 (bts row) (bts above) unit j).getD i 0) unit j := ⟨_, rfl⟩
      obtain ⟨U, hU⟩ : ∃ U, U = bts above j := ⟨_, rfl⟩
      obtain ⟨C, hC⟩ : ∃ C, C = aheadB (bts above) unit j := ⟨_, rfl⟩
      rw [← hL, ← hU, ← hC] at hbes
      have hL0 : 0 ≤ L ∧ L < 256 := by rw [hL]; exact ahead_byte (fun i => getD_byte13 (unfL_byte _ _ _ _ _) i) _ _
      have hU0 : 0 ≤ U ∧ U < 256 := by rw [hU]; exact bts_byte above j
      have hC0 : 0 ≤ C ∧ C < 256 := by rw [hC]; exact ahead_byte (bts_byte above) _ _
      have hkd := fun W => middle_any L U C W hL0 hU0
      have HY : Hid (told 3 L U C = says 3 (fun i => (unfL 3 (bts row) (bts above) unit j).getD i 0) (bts above) unit j) := by
        show _ = _
        unfold says
        rw [hL, hU, hC]
      obtain ⟨Y, hY⟩ : ∃ Y, Y = told 3 L U C := ⟨_, rfl⟩
      have hY0 : 0 ≤ Y ∧ Y < 256 := by rw [hY]; exact told_byte 3 hL0 hU0 hC0
      rw [← hY] at hkd HY
      obtain ⟨Z, hZ⟩ : ∃ Z, Z = (X + Y) % 256 := ⟨_, rfl⟩
      have hZ0 : 0 ≤ Z ∧ Z < 256 := by omega
      have u8w : IntKind.u8.wrap (X + Y) = Z := by show (X + Y) % 256 = Z; omega
      have HN : Hid (unfL 3 (bts row) (bts above) unit (j + 1) = unfL 3 (bts row) (bts above) unit j ++ [Z]) := by
        show _ = _
        rw [unfL_next, ← HY.out, hZ, hX, HBY.out]
        rfl
      have u8y : IntKind.u8.wrap Y = Y := by show Y % 256 = Y; omega
      have dl : decide ((j : Int) < (row.size : Int)) = true := decide_eq_true (by omega)
      clear hX hY hZ hL hU hC
      go_wp2_with fail
      refine wp_region_held (S := fun _ => True) (by kernel_rfl) ?_
      show wpAnyH _ _ _ _ _ _ _ _ wr.drew
      refine wpAnyH_take (i := 0) (v := .slice (some ⟨G, 0, none⟩) row.size row.size) rfl (by kernel_rfl) (by kernel_rfl) (by kernel_rfl) (fun _ _ _ h => h) (Or.inl ⟨by rfl, ?_⟩) trivial ?_
      · intro w' _
        go_simp
      simp only [Act.put, List.getElem_toArray, List.getElem_cons_zero, List.setIfInBounds_toArray, List.set_cons_zero, List.set_cons_succ]
      refine wpAnyH_take (i := 1) (v := .int .i64 (j : Int)) rfl (by kernel_rfl) (by kernel_rfl) (by kernel_rfl) (fun _ _ _ h => h) (Or.inl ⟨by rfl, ?_⟩) trivial ?_
      · intro w' _
        go_simp
      simp only [Act.put, List.getElem_toArray, List.getElem_cons_zero, List.getElem_cons_succ, List.setIfInBounds_toArray, List.set_cons_zero, List.set_cons_succ]
      refine wpAnyH_take (i := 2) (v := .string row) rfl (by kernel_rfl) (by kernel_rfl) (by kernel_rfl) (fun _ _ _ h => h) (Or.inl ⟨by rfl, ?_⟩) trivial ?_
      · intro w' _
        go_simp
      simp only [Act.put, List.getElem_toArray, List.getElem_cons_zero, List.getElem_cons_succ, List.setIfInBounds_toArray, List.set_cons_zero, List.set_cons_succ]
      refine wpAnyH_take (i := 3) (v := .int .i64 (j : Int)) rfl (by kernel_rfl) (by kernel_rfl) (by kernel_rfl) (fun _ _ _ h => h) (Or.inl ⟨by rfl, ?_⟩) trivial ?_
      · intro w' _
        go_simp
      simp only [Act.put, List.getElem_toArray, List.getElem_cons_zero, List.getElem_cons_succ, List.setIfInBounds_toArray, List.set_cons_zero, List.set_cons_succ]
      refine wpAnyH_take (i := 4) (v := .int .u8 X) rfl (by kernel_rfl) (by kernel_rfl) (by kernel_rfl) (fun _ _ _ h => h) (Or.inl ⟨by rfl, ?_⟩) trivial ?_
      · intro w' _
        go_simp
      simp only [Act.put, List.getElem_toArray, List.getElem_cons_zero, List.getElem_cons_succ, List.setIfInBounds_toArray, List.set_cons_zero, List.set_cons_succ]
      refine wpAnyH_take (i := 5) (v := fnV 40) rfl (by kernel_rfl) (by kernel_rfl) (by kernel_rfl) (fun _ _ _ h => h) (Or.inl ⟨by rfl, ?_⟩) trivial ?_
      · intro w' _
        go_simp
      simp only [Act.put, List.getElem_toArray, List.getElem_cons_zero, List.getElem_cons_succ, List.setIfInBounds_toArray, List.set_cons_zero, List.set_cons_succ]
      refine wpAnyH_take (i := 6) (v := .slice (some ⟨G, 0, none⟩) row.size row.size) rfl (by kernel_rfl) (by kernel_rfl) (by kernel_rfl) (fun _ _ _ h => h) (Or.inl ⟨by rfl, ?_⟩) trivial ?_
      · intro w' _
        go_simp
      simp only [Act.put, List.getElem_toArray, List.getElem_cons_zero, List.getElem_cons_succ, List.setIfInBounds_toArray, List.set_cons_zero, List.set_cons_succ]
      refine wpAnyH_take (i := 7) (v := .string above) rfl (by kernel_rfl) (by kernel_rfl) (by kernel_rfl) (fun _ _ _ h => h) (Or.inl ⟨by rfl, ?_⟩) trivial ?_
      · intro w' _
        go_simp
      simp only [Act.put, List.getElem_toArray, List.getElem_cons_zero, List.getElem_cons_succ, List.setIfInBounds_toArray, List.set_cons_zero, List.set_cons_succ]
      refine wpAnyH_take (i := 8) (v := .int .i64 (j : Int)) rfl (by kernel_rfl) (by kernel_rfl) (by kernel_rfl) (fun _ _ _ h => h) (Or.inl ⟨by rfl, ?_⟩) trivial ?_
      · intro w' _
        go_simp
      simp only [Act.put, List.getElem_toArray, List.getElem_cons_zero, List.getElem_cons_succ, List.setIfInBounds_toArray, List.set_cons_zero, List.set_cons_succ]
      refine wpAnyH_take (i := 9) (v := .int .i64 (unit : Int)) rfl (by kernel_rfl) (by kernel_rfl) (by kernel_rfl) (fun _ _ _ h => h) (Or.inl ⟨by rfl, ?_⟩) trivial ?_
      · intro w' _
        go_simp
      simp only [Act.put, List.getElem_toArray, List.getElem_cons_zero, List.getElem_cons_succ, List.setIfInBounds_toArray, List.set_cons_zero, List.set_cons_succ]
      refine wpAnyH_ready (rs := [10]) (by kernel_rfl) (by simp) ?_
      refine AllReadyH.cons rfl (fun K hK => ?_) AllReadyH.nil
      refine if_wanted (wanted_none rfl) ?_
      simp only [List.getElem_toArray, List.getElem_cons_zero, List.getElem_cons_succ]
      go_simp
      refine hbes.mono ?_
      rintro e w4 ⟨rfl, hB4⟩
      have HB4 : Hid (Below wr.heap.size wr w4) := ⟨hB4.1, hB4.2, hB4.3, hB4.4, hB4.5⟩
      clear hB4 hbes
      refine hK.out _ _ trivial (fun _ => ?_)
      clear hK K
      refine wpAnyH_ready (rs := [11]) (by kernel_rfl) (by simp) ?_
      refine AllReadyH.cons rfl (fun K hK => ?_) AllReadyH.nil
      refine if_wanted (wanted_none rfl) ?_
      simp only [List.getElem_toArray, List.getElem_cons_zero, List.getElem_cons_succ]
      go_simp
      refine (hkd _).mono ?_
      rintro e w5 ⟨rfl, hB5⟩
      have HB5 : Hid (Below wr.heap.size wr w5) := bnext HB4.out hB5
      clear hB5 hkd HB4
      refine hK.out _ _ trivial (fun _ => ?_)
      clear hK K
      refine wpAnyH_take (i := 12) (v := .int .u8 Y) rfl (by kernel_rfl) (by kernel_rfl) (by kernel_rfl) (fun _ _ _ h => h) (Or.inl ⟨by rfl, ?_⟩) trivial ?_
      · intro w' _
        go_simp
      simp only [Act.put, List.getElem_toArray, List.getElem_cons_zero, List.getElem_cons_succ, List.setIfInBounds_toArray, List.set_cons_zero, List.set_cons_succ]
      refine wpAnyH_take (i := 13) (v := .int .u8 Z) rfl (by kernel_rfl) (by kernel_rfl) (by kernel_rfl) (fun _ _ _ h => h) (Or.inl ⟨by rfl, ?_⟩) trivial ?_
      · intro w' _
        go_simp
      simp only [Act.put, List.getElem_toArray, List.getElem_cons_zero, List.getElem_cons_succ, List.setIfInBounds_toArray, List.set_cons_zero, List.set_cons_succ]
      refine wpAnyH_take (i := 14) (v := .pointer (some ⟨G, j, none⟩)) rfl (by kernel_rfl) (by kernel_rfl) (by kernel_rfl) (fun _ _ _ h => h) (Or.inl ⟨by rfl, ?_⟩) trivial ?_
      · intro w' _
        go_simp
      simp only [Act.put, List.getElem_toArray, List.getElem_cons_zero, List.getElem_cons_succ, List.setIfInBounds_toArray, List.set_cons_zero, List.set_cons_succ]
      obtain ⟨g1, g2, g3⟩ := HC.out w5 HB5.out
      refine wpAnyH_ready (rs := [15]) (by kernel_rfl) (by simp) ?_
      refine AllReadyH.cons rfl (fun K hK => ?_) AllReadyH.nil
      refine if_wanted (wanted_none rfl) ?_
      simp only [List.getElem_toArray, List.getElem_cons_zero, List.getElem_cons_succ]
      go_simp
      refine hK.out _ _ trivial (fun _ => ?_)
      clear hK K
      refine wpAnyH_done (by kernel_rfl) ?_ _
      go_wp2_with fail
      go_roundw
      case rel => exact ⟨j + 1, by omega, by go_num, by rw [HN.out]; exact unfI_next hS.out hlt HB5.out⟩
      case measure => simp [intOf]; omega
    · obtain rfl : j = row.size := by omega
      have dl : decide ((row.size : Int) < (row.size : Int)) = false := decide_eq_false (by omega)
      obtain ⟨h, hO, hh, hl, hBB⟩ := hS.out
      have hcv := hO.text (unfL 3 (bts row) (bts above) unit row.size) (unfL_length _ _ _ _ _) (fun i hi => (hh i hi).symm)
      have HBE := hid_of hBB
      clear hS hO hh hl hBB
      go_wp2_with fail
      refine bodyPost_ret (v := .tuple #[.string (strOfNums (unfL 3 (bts row) (bts above) unit row.size)), .bool true]) ?_ rfl ⟨rfl, HBE.out⟩
      simp [results, Try.results14, go_sem]
set_option maxRecDepth 100000 in
set_option maxHeartbeats 3200000 in
theorem implUnfilter_4 (row above : ByteArray) (unit : Nat) (w : World) (h : FiltR 4 row above (unit : Int)) :
    Calls Try.prog 14 #[.int .i64 4, .string row, .string above, .int .i64 (unit : Int)] w fun e w' => e = .returned (.tuple #[.string (unfT 4 row above unit), .bool true]) ∧ Below w.heap.size w w' := by
  have hcan := fun W => canFilter_any row above (unit : Int) W
  rw [decide_eq_true (h.kind (j := 0) (by omega))] at hcan
  obtain ⟨-, hu, hs, hn⟩ := h
  have hu' : 1 ≤ unit ∧ unit ≤ 8 := by omega
  have HS0 := hid_of hs
  have ha : above.size ≤ 200 := by omega
  clear hs
  go_enter Try.func14, Try.ntmps14
  go_wp2_with fail
  refine (kinds_any _).mono ?_
  rintro e w1 ⟨rfl, hm, hB1⟩
  have lk : (Instr.lookup 45 (.map (some w.heap.size)) (.int .i64 4) true).run Try.prog w1 = .ok (.tuple #[fnV 41, .bool true]) w1 := kind_look hm 4 (by omega)
  have HB1 := hid_of hB1
  clear hm hB1
  go_wp2_with fail
  refine (hcan _).mono ?_
  rintro e w2 ⟨rfl, rfl⟩
  clear hcan lk
  have hmk := make_bytes12 w2 row.size (by omega)
  have H0 : Hid (UnfI w (w2.alloc (.cells (madeCells #[Value.int .u8 0] row.size) 5)) w2.heap.size row.size (unfL 4 (bts row) (bts above) unit 0) 0) :=
    ⟨fun _ => 0, BFn.made (base := w.heap.size) w2 row.size (by unfold maxLen; omega) HB1.out.size, fun i hi => absurd hi (Nat.not_lt_zero i), rfl, bal HB1.out _⟩
  generalize w2.alloc (.cells (madeCells #[Value.int .u8 0] row.size) 5) = w3 at hmk H0
  generalize w2.heap.size = G at hmk H0
  go_wp2_with fail
  go_loopw [34] (fun i w' => ∃ j : Nat, j ≤ row.size ∧ i = .int .i64 (j : Int) ∧ Hid (UnfI w w' G row.size (unfL 4 (bts row) (bts above) unit j) j)) (fun i _ => row.size - (intOf i).toNat)
  case atStart => exact ⟨0, Nat.zero_le _, rfl, H0⟩
  case round =>
    clear H0 hmk
    obtain ⟨j, hj, rfl, hS⟩ := hrel
    by_cases hlt : j < row.size
    · have hal : j < above.size := by rw [← HS0.out]; exact hlt
      obtain ⟨h, hO, hh, hl, hBB⟩ := hS.out
      have gl : G < wr.heap.size := Own.lt hO
      have hrow : unit ≤ j → ∃ g, (some ⟨G, 0, none⟩ : Option Addr) = some ⟨g, 0, none⟩ ∧ j - unit < row.size ∧ g < wr.drew.heap.size ∧ wr.drew.cell? ⟨g, j - unit, none⟩ = some (.int .u8 ((fun i => (unfL 4 (bts row) (bts above) unit j).getD i 0) (j - unit))) := fun hq => by
        refine ⟨_, rfl, by omega, gl, ?_⟩
        show _ = some (Value.int .u8 ((unfL 4 (bts row) (bts above) unit j).getD (j - unit) 0))
        rw [← hh (j - unit) (by omega)]
        exact hO.cell (j - unit) (by omega)
      have hbes := beside_any (some ⟨G, 0, none⟩) row.size row.size (fun i => (unfL 4 (bts row) (bts above) unit j).getD i 0) above unit j wr.drew hu' hal ha (fun i => getD_byte13 (unfL_byte _ _ _ _ _) i) hrow
      have HC : Hid (∀ w', Below wr.heap.size wr w' → w'.cell? ⟨G, j, none⟩ = some (.int .u8 (h j)) ∧ w'.frozen? ⟨G, j, none⟩ = false ∧ G < w'.heap.size) := fun w' hb => ⟨((bcell hb).1 _ _ gl).trans (hO.cell j hlt), ((bcell hb).2 _ _ gl).trans (hO.free j hlt), Nat.lt_of_lt_of_le gl hb.size⟩
      have HBY : Hid ((row[j]'hlt).toNat = byteAt row j) := byteAt_get row j hlt
      obtain ⟨X, hX⟩ : ∃ X : Int, X = ((row[j]'hlt).toNat : Int) := ⟨_, rfl⟩
      have hX0 : 0 ≤ X ∧ X < 256 := by have : (row[j]'hlt).toNat < 256 := UInt8.toNat_lt _; omega
      have hXr := hX.symm
      have x0 : (0 : Int) ≤ (j : Int) := by omega
      have x1 : (j : Int) < (row.size : Int) := by omega
      clear hh hBB hO hrow hl
      obtain ⟨L, hL⟩ : ∃ L, L = aheadB (fun i => (unfL 4 (bts row) (bts above) unit j).getD i 0) unit j := ⟨_, rfl⟩
      obtain ⟨U, hU⟩ : ∃ U, U = bts above j := ⟨_, rfl⟩
      obtain ⟨C, hC⟩ : ∃ C, C = aheadB (bts above) unit j := ⟨_, rfl⟩
      rw [← hL, ← hU, ← hC] at hbes
      have hL0 : 0 ≤ L ∧ L < 256 := by rw [hL]; exact ahead_byte (fun i => getD_byte13 (unfL_byte _ _ _ _ _) i) _ _
      have hU0 : 0 ≤ U ∧ U < 256 := by rw [hU]; exact bts_byte above j
      have hC0 : 0 ≤ C ∧ C < 256 := by rw [hC]; exact ahead_byte (bts_byte above) _ _
      have hkd := fun W => nearest_any L U C W hL0 hU0 hC0
      have HY : Hid (told 4 L U C = says 4 (fun i => (unfL 4 (bts row) (bts above) unit j).getD i 0) (bts above) unit j) := by
        show _ = _
        unfold says
        rw [hL, hU, hC]
      obtain ⟨Y, hY⟩ : ∃ Y, Y = told 4 L U C := ⟨_, rfl⟩
      have hY0 : 0 ≤ Y ∧ Y < 256 := by rw [hY]; exact told_byte 4 hL0 hU0 hC0
      rw [← hY] at hkd HY
      obtain ⟨Z, hZ⟩ : ∃ Z, Z = (X + Y) % 256 := ⟨_, rfl⟩
      have hZ0 : 0 ≤ Z ∧ Z < 256 := by omega
      have u8w : IntKind.u8.wrap (X + Y) = Z := by show (X + Y) % 256 = Z; omega
      have HN : Hid (unfL 4 (bts row) (bts above) unit (j + 1) = unfL 4 (bts row) (bts above) unit j ++ [Z]) := by
        show _ = _
        rw [unfL_next, ← HY.out, hZ, hX, HBY.out]
        rfl
      have u8y : IntKind.u8.wrap Y = Y := by show Y % 256 = Y; omega
      have dl : decide ((j : Int) < (row.size : Int)) = true := decide_eq_true (by omega)
      clear hX hY hZ hL hU hC
      go_wp2_with fail
      refine wp_region_held (S := fun _ => True) (by kernel_rfl) ?_
      show wpAnyH _ _ _ _ _ _ _ _ wr.drew
      refine wpAnyH_take (i := 0) (v := .slice (some ⟨G, 0, none⟩) row.size row.size) rfl (by kernel_rfl) (by kernel_rfl) (by kernel_rfl) (fun _ _ _ h => h) (Or.inl ⟨by rfl, ?_⟩) trivial ?_
      · intro w' _
        go_simp
      simp only [Act.put, List.getElem_toArray, List.getElem_cons_zero, List.setIfInBounds_toArray, List.set_cons_zero, List.set_cons_succ]
      refine wpAnyH_take (i := 1) (v := .int .i64 (j : Int)) rfl (by kernel_rfl) (by kernel_rfl) (by kernel_rfl) (fun _ _ _ h => h) (Or.inl ⟨by rfl, ?_⟩) trivial ?_
      · intro w' _
        go_simp
      simp only [Act.put, List.getElem_toArray, List.getElem_cons_zero, List.getElem_cons_succ, List.setIfInBounds_toArray, List.set_cons_zero, List.set_cons_succ]
      refine wpAnyH_take (i := 2) (v := .string row) rfl (by kernel_rfl) (by kernel_rfl) (by kernel_rfl) (fun _ _ _ h => h) (Or.inl ⟨by rfl, ?_⟩) trivial ?_
      · intro w' _
        go_simp
      simp only [Act.put, List.getElem_toArray, List.getElem_cons_zero, List.getElem_cons_succ, List.setIfInBounds_toArray, List.set_cons_zero, List.set_cons_succ]
      refine wpAnyH_take (i := 3) (v := .int .i64 (j : Int)) rfl (by kernel_rfl) (by kernel_rfl) (by kernel_rfl) (fun _ _ _ h => h) (Or.inl ⟨by rfl, ?_⟩) trivial ?_
      · intro w' _
        go_simp
      simp only [Act.put, List.getElem_toArray, List.getElem_cons_zero, List.getElem_cons_succ, List.setIfInBounds_toArray, List.set_cons_zero, List.set_cons_succ]
      refine wpAnyH_take (i := 4) (v := .int .u8 X) rfl (by kernel_rfl) (by kernel_rfl) (by kernel_rfl) (fun _ _ _ h => h) (Or.inl ⟨by rfl, ?_⟩) trivial ?_
      · intro w' _
        go_simp
      simp only [Act.put, List.getElem_toArray, List.getElem_cons_zero, List.getElem_cons_succ, List.setIfInBounds_toArray, List.set_cons_zero, List.set_cons_succ]
      refine wpAnyH_take (i := 5) (v := fnV 41) rfl (by kernel_rfl) (by kernel_rfl) (by kernel_rfl) (fun _ _ _ h => h) (Or.inl ⟨by rfl, ?_⟩) trivial ?_
      · intro w' _
        go_simp
      simp only [Act.put, List.getElem_toArray, List.getElem_cons_zero, List.getElem_cons_succ, List.setIfInBounds_toArray, List.set_cons_zero, List.set_cons_succ]
      refine wpAnyH_take (i := 6) (v := .slice (some ⟨G, 0, none⟩) row.size row.size) rfl (by kernel_rfl) (by kernel_rfl) (by kernel_rfl) (fun _ _ _ h => h) (Or.inl ⟨by rfl, ?_⟩) trivial ?_
      · intro w' _
        go_simp
      simp only [Act.put, List.getElem_toArray, List.getElem_cons_zero, List.getElem_cons_succ, List.setIfInBounds_toArray, List.set_cons_zero, List.set_cons_succ]
      refine wpAnyH_take (i := 7) (v := .string above) rfl (by kernel_rfl) (by kernel_rfl) (by kernel_rfl) (fun _ _ _ h => h) (Or.inl ⟨by rfl, ?_⟩) trivial ?_
      · intro w' _
        go_simp
      simp only [Act.put, List.getElem_toArray, List.getElem_cons_zero, List.getElem_cons_succ, List.setIfInBounds_toArray, List.set_cons_zero, List.set_cons_succ]
      refine wpAnyH_take (i := 8) (v := .int .i64 (j : Int)) rfl (by kernel_rfl) (by kernel_rfl) (by kernel_rfl) (fun _ _ _ h => h) (Or.inl ⟨by rfl, ?_⟩) trivial ?_
      · intro w' _
        go_simp
      simp only [Act.put, List.getElem_toArray, List.getElem_cons_zero, List.getElem_cons_succ, List.setIfInBounds_toArray, List.set_cons_zero, List.set_cons_succ]
      refine wpAnyH_take (i := 9) (v := .int .i64 (unit : Int)) rfl (by kernel_rfl) (by kernel_rfl) (by kernel_rfl) (fun _ _ _ h => h) (Or.inl ⟨by rfl, ?_⟩) trivial ?_
      · intro w' _
        go_simp
      simp only [Act.put, List.getElem_toArray, List.getElem_cons_zero, List.getElem_cons_succ, List.setIfInBounds_toArray, List.set_cons_zero, List.set_cons_succ]
      refine wpAnyH_ready (rs := [10]) (by kernel_rfl) (by simp) ?_
      refine AllReadyH.cons rfl (fun K hK => ?_) AllReadyH.nil
      refine if_wanted (wanted_none rfl) ?_
      simp only [List.getElem_toArray, List.getElem_cons_zero, List.getElem_cons_succ]
      go_simp
      refine hbes.mono ?_
      rintro e w4 ⟨rfl, hB4⟩
      have HB4 : Hid (Below wr.heap.size wr w4) := ⟨hB4.1, hB4.2, hB4.3, hB4.4, hB4.5⟩
      clear hB4 hbes
      refine hK.out _ _ trivial (fun _ => ?_)
      clear hK K
      refine wpAnyH_ready (rs := [11]) (by kernel_rfl) (by simp) ?_
      refine AllReadyH.cons rfl (fun K hK => ?_) AllReadyH.nil
      refine if_wanted (wanted_none rfl) ?_
      simp only [List.getElem_toArray, List.getElem_cons_zero, List.getElem_cons_succ]
      go_simp
      refine (hkd _).mono ?_
      rintro e w5 ⟨rfl, hB5⟩
      have HB5 : Hid (Below wr.heap.size wr w5) := bnext HB4.out hB5
      clear hB5 hkd HB4
      refine hK.out _ _ trivial (fun _ => ?_)
      clear hK K
      refine wpAnyH_take (i := 12) (v := .int .u8 Y) rfl (by kernel_rfl) (by kernel_rfl) (by kernel_rfl) (fun _ _ _ h => h) (Or.inl ⟨by rfl, ?_⟩) trivial ?_
      · intro w' _
        go_simp
      simp only [Act.put, List.getElem_toArray, List.getElem_cons_zero, List.getElem_cons_succ, List.setIfInBounds_toArray, List.set_cons_zero, List.set_cons_succ]
      refine wpAnyH_take (i := 13) (v := .int .u8 Z) rfl (by kernel_rfl) (by kernel_rfl) (by kernel_rfl) (fun _ _ _ h => h) (Or.inl ⟨by rfl, ?_⟩) trivial ?_
      · intro w' _
        go_simp
      simp only [Act.put, List.getElem_toArray, List.getElem_cons_zero, List.getElem_cons_succ, List.setIfInBounds_toArray, List.set_cons_zero, List.set_cons_succ]
      refine wpAnyH_take (i := 14) (v := .pointer (some ⟨G, j, none⟩)) rfl (by kernel_rfl) (by kernel_rfl) (by kernel_rfl) (fun _ _ _ h => h) (Or.inl ⟨by rfl, ?_⟩) trivial ?_
      · intro w' _
        go_simp
      simp only [Act.put, List.getElem_toArray, List.getElem_cons_zero, List.getElem_cons_succ, List.setIfInBounds_toArray, List.set_cons_zero, List.set_cons_succ]
      obtain ⟨g1, g2, g3⟩ := HC.out w5 HB5.out
      refine wpAnyH_ready (rs := [15]) (by kernel_rfl) (by simp) ?_
      refine AllReadyH.cons rfl (fun K hK => ?_) AllReadyH.nil
      refine if_wanted (wanted_none rfl) ?_
      simp only [List.getElem_toArray, List.getElem_cons_zero, List.getElem_cons_succ]
      go_simp
      refine hK.out _ _ trivial (fun _ => ?_)
      clear hK K
      refine wpAnyH_done (by kernel_rfl) ?_ _
      go_wp2_with fail
      go_roundw
      case rel => exact ⟨j + 1, by omega, by go_num, by rw [HN.out]; exact unfI_next hS.out hlt HB5.out⟩
      case measure => simp [intOf]; omega
    · obtain rfl : j = row.size := by omega
      have dl : decide ((row.size : Int) < (row.size : Int)) = false := decide_eq_false (by omega)
      obtain ⟨h, hO, hh, hl, hBB⟩ := hS.out
      have hcv := hO.text (unfL 4 (bts row) (bts above) unit row.size) (unfL_length _ _ _ _ _) (fun i hi => (hh i hi).symm)
      have HBE := hid_of hBB
      clear hS hO hh hl hBB
      go_wp2_with fail
      refine bodyPost_ret (v := .tuple #[.string (strOfNums (unfL 4 (bts row) (bts above) unit row.size)), .bool true]) ?_ rfl ⟨rfl, HBE.out⟩
      simp [results, Try.results14, go_sem]
theorem implUnfilter_kind (k : Int) (row above : ByteArray) (unit : Int) (w : World) (hw : (Lit.int .i64 k).wf = true) (h : ¬ (0 ≤ k ∧ k ≤ 4)) :
    Calls Try.prog 14 #[.int .i64 k, .string row, .string above, .int .i64 unit] w fun e w' => e = .returned (.tuple #[.string ⟨#[]⟩, .bool false]) ∧ Below w.heap.size w w' := by
  go_enter Try.func14, Try.ntmps14
  go_wp2_with fail
  refine (kinds_any _).mono ?_
  rintro e w1 ⟨rfl, hm, hB1⟩
  have lk := kind_none hm k hw h
  have HB1 := hid_of hB1
  clear hm hB1
  go_wp2_with fail
  refine bodyPost_ret (v := .tuple #[.string ⟨#[]⟩, .bool false]) ?_ rfl ⟨rfl, HB1.out⟩
  simp [results, Try.results14, go_sem]
theorem implUnfilter_can (k : Int) (row above : ByteArray) (unit : Int) (w : World) (hk : 0 ≤ k ∧ k ≤ 4) (h : ¬ FiltR 0 row above unit) :
    Calls Try.prog 14 #[.int .i64 k, .string row, .string above, .int .i64 unit] w fun e w' => e = .returned (.tuple #[.string ⟨#[]⟩, .bool false]) ∧ Below w.heap.size w w' := by
  have hcan := fun W => canFilter_any row above unit W
  rw [decide_eq_false h] at hcan
  clear h
  go_enter Try.func14, Try.ntmps14
  go_wp2_with fail
  refine (kinds_any _).mono ?_
  rintro e w1 ⟨rfl, hm, hB1⟩
  have lk := kind_look hm k hk
  have HB1 := hid_of hB1
  clear hm hB1
  go_wp2_with fail
  refine (hcan _).mono ?_
  rintro e w2 ⟨rfl, rfl⟩
  go_wp2_with fail
  refine bodyPost_ret (v := .tuple #[.string ⟨#[]⟩, .bool false]) ?_ rfl ⟨rfl, HB1.out⟩
  simp [results, Try.results14, go_sem]
theorem unfilter_answer : UnfilterAnswer := by
  intro k row above unit w hk hu h1 h2
  unfold unfV
  by_cases h : FiltR k row above unit
  · rw [if_pos h, decide_eq_true h]
    obtain ⟨u, rfl⟩ : ∃ u : Nat, unit = (u : Int) := ⟨unit.toNat, by have := h.2.1; omega⟩
    obtain rfl | rfl | rfl | rfl | rfl : k = 0 ∨ k = 1 ∨ k = 2 ∨ k = 3 ∨ k = 4 := by have := h.1; omega
    · exact implUnfilter_0 row above u w h
    · exact implUnfilter_1 row above u w h
    · exact implUnfilter_2 row above u w h
    · exact implUnfilter_3 row above u w h
    · exact implUnfilter_4 row above u w h
  · rw [if_neg h, decide_eq_false h]
    by_cases hq : 0 ≤ k ∧ k ≤ 4
    · exact implUnfilter_can k row above unit w hq (fun hc => h (hc.kind hq))
    · exact implUnfilter_kind k row above unit w hk hq
end Go.Proofs.Ytccjjpdhojmcgaa
