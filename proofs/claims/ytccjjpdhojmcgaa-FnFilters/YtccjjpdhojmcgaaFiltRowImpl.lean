/-
  The walks of the program's FilterRow, a kind each. (Printed by tools/mkfiltimpl.py.)
-/
import Derived.Test.YtccjjpdhojmcgaaRows
import Derived.Test.YtccjjpdhojmcgaaBase
import Derived.Test.YtccjjpdhojmcgaaOwnLib
import Derived.Test.YtccjjpdhojmcgaaByteDef
import Derived.Test.YtccjjpdhojmcgaaByteLib
import Derived.Test.YtccjjpdhojmcgaaBytesFn
import Derived.Test.YtccjjpdhojmcgaaPartLen12
import Derived.Test.YtccjjpdhojmcgaaFiltMath
import Derived.Test.YtccjjpdhojmcgaaFiltVal
import Derived.Test.YtccjjpdhojmcgaaFiltAns
import Derived.Test.YtccjjpdhojmcgaaFiltSmall
import Derived.Test.YtccjjpdhojmcgaaFiltKinds
import Derived.Test.YtccjjpdhojmcgaaFiltBeside
import Derived.WalkKit
import Derived.ProofKit
import Derived.WalkLawsBesides
import Derived.Below
import Derived.Deep.RegionHeld3
import Derived.Lib.SmallJoins
namespace Go.Proofs.Ytccjjpdhojmcgaa
open Go.RowKit Go.Joins TakeMath FiltMath TokMath

theorem bts_of13 (s : ByteArray) (i : Nat) (h : i < s.size) : (bytesOf s).getD i 0 = bts s i := by
  unfold bts
  rw [← byteAt_get s i h]
  have h' : i < s.data.size := h
  simp [bytesOf, List.getD_eq_getElem?_getD, Array.getElem?_eq_getElem h']
  rfl
/-- What the ring of the program's FilterRow has at hand. -/
def FltI (w w' : World) (g gb cz : Nat) (row : ByteArray) (F : Nat → Int) (j : Nat) : Prop :=
  ∃ h, BFn w' w.heap.size g row.size row.size h ∧ (∀ i, i < j → h i = F i) ∧ BOwn w' w.heap.size gb row.size cz (bytesOf row) ∧ gb < g ∧ Below w.heap.size w w'
theorem fltI_next {w wr w' : World} {g gb cz : Nat} {row : ByteArray} {F : Nat → Int} {j : Nat} {x : Int} (hS : FltI w wr g gb cz row F j) (hj : j < row.size) (hb : Below wr.heap.size wr w') (hx : x = F j) : FltI w (w'.setCell ⟨g, j, none⟩ (.int .u8 x)) g gb cz row F (j + 1) := by
  obtain ⟨h, hO, hh, hR, hne, hB⟩ := hS
  have hg : g < wr.heap.size := Own.lt hO
  have hO' : BFn w' w.heap.size g row.size row.size h := Own.keep hO (hb.block g hg)
  refine ⟨upd h j x, hO'.set j hj x, fun i hi => ?_, (hR.called hb).keep ?_, hne, Below.setCell (p := ⟨g, j, none⟩) (bnext hB hb) (Own.base_le hO) _⟩
  · unfold upd
    by_cases e : i = j
    · rw [if_pos e, e, hx]
    · rw [if_neg e]; exact hh i (by omega)
  · exact heap_setCell_other _ _ _ _ (by show ¬ gb = g; omega)
set_option maxRecDepth 100000 in
set_option maxHeartbeats 3200000 in
theorem implFilter_0 (row above : ByteArray) (unit : Nat) (w : World) (h : FiltR 0 row above (unit : Int)) :
    Calls Try.prog 13 #[.int .i64 0, .string row, .string above, .int .i64 (unit : Int)] w fun e w' => e = .returned (.tuple #[.string (filtT 0 row above unit), .bool true]) ∧ Below w.heap.size w w' := by
  have hcan := fun W => canFilter_any row above (unit : Int) W
  rw [decide_eq_true (h.kind (j := 0) (by omega))] at hcan
  obtain ⟨-, hu, hs, hn⟩ := h
  have hu' : 1 ≤ unit ∧ unit ≤ 8 := by omega
  have HS0 := hid_of hs
  have ha : above.size ≤ 200 := by omega
  clear hs
  go_enter Try.func13, Try.ntmps13
  go_wp2_with fail
  refine (kinds_any _).mono ?_
  rintro e w1 ⟨rfl, hm, hB1⟩
  have lk : (Instr.lookup 45 (.map (some w.heap.size)) (.int .i64 0) true).run Try.prog w1 = .ok (.tuple #[fnV 37, .bool true]) w1 := kind_look hm 0 (by omega)
  have HB1 := hid_of hB1
  clear hm hB1
  go_wp2_with fail
  refine (hcan _).mono ?_
  rintro e w2 ⟨rfl, rfl⟩
  clear hcan lk
  obtain ⟨W7, cz, hcv, hO7, hB7⟩ := bown_of_text w2 row (by omega)
  have hmk := make_bytes12 W7 row.size (by omega)
  have H0 : Hid (FltI w (W7.alloc (.cells (madeCells #[Value.int .u8 0] row.size) 5)) W7.heap.size w2.heap.size cz row (filtB 0 (bts row) (bts above) unit) 0) :=
    ⟨fun _ => 0, BFn.made (base := w.heap.size) W7 row.size (by unfold maxLen; omega) (Nat.le_trans HB1.out.size hB7.size), fun i hi => absurd hi (Nat.not_lt_zero i), ⟨hO7.1, (Own.mono hO7.2 HB1.out.size).alloc _⟩, hO7.lt, bal (bnext HB1.out hB7) _⟩
  clear hO7 hB7
  generalize w2.heap.size = GB at hcv H0
  generalize W7.alloc (.cells (madeCells #[Value.int .u8 0] row.size) 5) = w3 at hmk H0
  generalize W7.heap.size = G at hmk H0
  go_wp2_with fail
  go_loopw [37] (fun i w' => ∃ j : Nat, j ≤ row.size ∧ i = .int .i64 (j : Int) ∧ Hid (FltI w w' G GB cz row (filtB 0 (bts row) (bts above) unit) j)) (fun i _ => row.size - (intOf i).toNat)
  case atStart => exact ⟨0, Nat.zero_le _, rfl, H0⟩
  case round =>
    clear H0 hmk hcv
    obtain ⟨j, hj, rfl, hS⟩ := hrel
    by_cases hlt : j < row.size
    · have hal : j < above.size := by rw [← HS0.out]; exact hlt
      obtain ⟨h, hO, hh, hR, hne, hBB⟩ := hS.out
      have cb := hR.cell j hlt
      rw [bts_of13 _ _ hlt] at cb
      have hbl := hR.lt
      have hrow : unit ≤ j → ∃ g, (some ⟨GB, 0, none⟩ : Option Addr) = some ⟨g, 0, none⟩ ∧ j - unit < row.size ∧ g < wr.drew.heap.size ∧ wr.drew.cell? ⟨g, j - unit, none⟩ = some (.int .u8 (bts row (j - unit))) := fun _ => by
        refine ⟨_, rfl, by omega, hbl, ?_⟩
        rw [← bts_of13 row _ (by omega)]
        exact hR.cell (j - unit) (by omega)
      have hbes := beside_any (some ⟨GB, 0, none⟩) row.size cz (bts row) above unit j wr.drew hu' hal ha (bts_byte row) hrow
      have gl : G < wr.heap.size := Own.lt hO
      have HC : Hid (∀ w', Below wr.heap.size wr w' → w'.cell? ⟨G, j, none⟩ = some (.int .u8 (h j)) ∧ w'.frozen? ⟨G, j, none⟩ = false ∧ G < w'.heap.size) := fun w' hb => ⟨((bcell hb).1 _ _ gl).trans (hO.cell j hlt), ((bcell hb).2 _ _ gl).trans (hO.free j hlt), Nat.lt_of_lt_of_le gl hb.size⟩
      have hGne : ¬ GB = G := by omega
      obtain ⟨X, hX⟩ : ∃ X, X = bts row j := ⟨_, rfl⟩
      have hX0 : 0 ≤ X ∧ X < 256 := by rw [hX]; exact bts_byte row j
      rw [← hX] at cb
      clear hh hR hBB hO hrow hne
      obtain ⟨L, hL⟩ : ∃ L, L = aheadB (bts row) unit j := ⟨_, rfl⟩
      obtain ⟨U, hU⟩ : ∃ U, U = bts above j := ⟨_, rfl⟩
      obtain ⟨C, hC⟩ : ∃ C, C = aheadB (bts above) unit j := ⟨_, rfl⟩
      rw [← hL, ← hU, ← hC] at hbes
      have hL0 : 0 ≤ L ∧ L < 256 := by rw [hL]; exact ahead_byte (bts_byte row) _ _
      have hU0 : 0 ≤ U ∧ U < 256 := by rw [hU]; exact bts_byte above j
      have hC0 : 0 ≤ C ∧ C < 256 := by rw [hC]; exact ahead_byte (bts_byte above) _ _
      have hkd := fun W => nothing_any L U C W
      have HY : Hid (told 0 L U C = says 0 (bts row) (bts above) unit j) := by
        show _ = _
        unfold says
        rw [hL, hU, hC]
      obtain ⟨Y, hY⟩ : ∃ Y, Y = told 0 L U C := ⟨_, rfl⟩
      have hY0 : 0 ≤ Y ∧ Y < 256 := by rw [hY]; exact told_byte 0 hL0 hU0 hC0
      rw [← hY] at hkd HY
      obtain ⟨Z, hZ⟩ : ∃ Z, Z = (X + 256 - Y) % 256 := ⟨_, rfl⟩
      have hZ0 : 0 ≤ Z ∧ Z < 256 := by omega
      have u8w : IntKind.u8.wrap (X - Y) = Z := by show (X - Y) % 256 = Z; omega
      have HN : Hid (Z = filtB 0 (bts row) (bts above) unit j) := by
        show Z = _
        unfold filtB
        rw [← HY.out, ← hX, hZ]
      have u8y : IntKind.u8.wrap Y = Y := by show Y % 256 = Y; omega
      have dl : decide ((j : Int) < (row.size : Int)) = true := decide_eq_true (by omega)
      clear hX hY hZ hL hU hC
      go_wp2_with fail
      refine wp_region_held (S := fun u => u.cell? ⟨GB, j, none⟩ = some (.int .u8 X) ∧ GB < u.heap.size) (by kernel_rfl) ?_
      show wpAnyH _ _ _ _ _ _ _ _ wr.drew
      have HS : wr.drew.cell? ⟨GB, j, none⟩ = some (.int .u8 X) ∧ GB < wr.drew.heap.size := ⟨cb, hbl⟩
      refine wpAnyH_take (i := 0) (v := .slice (some ⟨G, 0, none⟩) row.size row.size) rfl (by kernel_rfl) (by kernel_rfl) (by kernel_rfl) (fun _ _ _ h => h) (Or.inl ⟨by rfl, ?_⟩) HS ?_
      · intro w' hS
        obtain ⟨s0, s1⟩ := hS
        go_simp
      simp only [Act.put, List.getElem_toArray, List.getElem_cons_zero, List.setIfInBounds_toArray, List.set_cons_zero, List.set_cons_succ]
      refine wpAnyH_take (i := 1) (v := .int .i64 (j : Int)) rfl (by kernel_rfl) (by kernel_rfl) (by kernel_rfl) (fun _ _ _ h => h) (Or.inl ⟨by rfl, ?_⟩) HS ?_
      · intro w' hS
        obtain ⟨s0, s1⟩ := hS
        go_simp
      simp only [Act.put, List.getElem_toArray, List.getElem_cons_zero, List.getElem_cons_succ, List.setIfInBounds_toArray, List.set_cons_zero, List.set_cons_succ]
      refine wpAnyH_take (i := 2) (v := .slice (some ⟨GB, 0, none⟩) row.size cz) rfl (by kernel_rfl) (by kernel_rfl) (by kernel_rfl) (fun _ _ _ h => h) (Or.inl ⟨by rfl, ?_⟩) HS ?_
      · intro w' hS
        obtain ⟨s0, s1⟩ := hS
        go_simp
      simp only [Act.put, List.getElem_toArray, List.getElem_cons_zero, List.getElem_cons_succ, List.setIfInBounds_toArray, List.set_cons_zero, List.set_cons_succ]
      refine wpAnyH_take (i := 3) (v := .int .i64 (j : Int)) rfl (by kernel_rfl) (by kernel_rfl) (by kernel_rfl) (fun _ _ _ h => h) (Or.inl ⟨by rfl, ?_⟩) HS ?_
      · intro w' hS
        obtain ⟨s0, s1⟩ := hS
        go_simp
      simp only [Act.put, List.getElem_toArray, List.getElem_cons_zero, List.getElem_cons_succ, List.setIfInBounds_toArray, List.set_cons_zero, List.set_cons_succ]
      refine wpAnyH_take (i := 4) (v := .pointer (some ⟨GB, j, none⟩)) rfl (by kernel_rfl) (by kernel_rfl) (by kernel_rfl) (fun _ _ _ h => h) (Or.inl ⟨by rfl, ?_⟩) HS ?_
      · intro w' hS
        obtain ⟨s0, s1⟩ := hS
        go_simp
      simp only [Act.put, List.getElem_toArray, List.getElem_cons_zero, List.getElem_cons_succ, List.setIfInBounds_toArray, List.set_cons_zero, List.set_cons_succ]
      refine wpAnyH_take (i := 5) (v := .int .u8 X) rfl (by kernel_rfl) (by kernel_rfl) (by kernel_rfl) (fun _ _ _ h => h) (Or.inl ⟨by rfl, ?_⟩) HS ?_
      · intro w' hS
        obtain ⟨s0, s1⟩ := hS
        go_simp
      simp only [Act.put, List.getElem_toArray, List.getElem_cons_zero, List.getElem_cons_succ, List.setIfInBounds_toArray, List.set_cons_zero, List.set_cons_succ]
      refine wpAnyH_take (i := 6) (v := fnV 37) rfl (by kernel_rfl) (by kernel_rfl) (by kernel_rfl) (fun _ _ _ h => h) (Or.inl ⟨by rfl, ?_⟩) HS ?_
      · intro w' hS
        obtain ⟨s0, s1⟩ := hS
        go_simp
      simp only [Act.put, List.getElem_toArray, List.getElem_cons_zero, List.getElem_cons_succ, List.setIfInBounds_toArray, List.set_cons_zero, List.set_cons_succ]
      refine wpAnyH_take (i := 7) (v := .slice (some ⟨GB, 0, none⟩) row.size cz) rfl (by kernel_rfl) (by kernel_rfl) (by kernel_rfl) (fun _ _ _ h => h) (Or.inl ⟨by rfl, ?_⟩) HS ?_
      · intro w' hS
        obtain ⟨s0, s1⟩ := hS
        go_simp
      simp only [Act.put, List.getElem_toArray, List.getElem_cons_zero, List.getElem_cons_succ, List.setIfInBounds_toArray, List.set_cons_zero, List.set_cons_succ]
      refine wpAnyH_take (i := 8) (v := .string above) rfl (by kernel_rfl) (by kernel_rfl) (by kernel_rfl) (fun _ _ _ h => h) (Or.inl ⟨by rfl, ?_⟩) HS ?_
      · intro w' hS
        obtain ⟨s0, s1⟩ := hS
        go_simp
      simp only [Act.put, List.getElem_toArray, List.getElem_cons_zero, List.getElem_cons_succ, List.setIfInBounds_toArray, List.set_cons_zero, List.set_cons_succ]
      refine wpAnyH_take (i := 9) (v := .int .i64 (j : Int)) rfl (by kernel_rfl) (by kernel_rfl) (by kernel_rfl) (fun _ _ _ h => h) (Or.inl ⟨by rfl, ?_⟩) HS ?_
      · intro w' hS
        obtain ⟨s0, s1⟩ := hS
        go_simp
      simp only [Act.put, List.getElem_toArray, List.getElem_cons_zero, List.getElem_cons_succ, List.setIfInBounds_toArray, List.set_cons_zero, List.set_cons_succ]
      refine wpAnyH_take (i := 10) (v := .int .i64 (unit : Int)) rfl (by kernel_rfl) (by kernel_rfl) (by kernel_rfl) (fun _ _ _ h => h) (Or.inl ⟨by rfl, ?_⟩) HS ?_
      · intro w' hS
        obtain ⟨s0, s1⟩ := hS
        go_simp
      simp only [Act.put, List.getElem_toArray, List.getElem_cons_zero, List.getElem_cons_succ, List.setIfInBounds_toArray, List.set_cons_zero, List.set_cons_succ]
      refine wpAnyH_ready (rs := [11]) (by kernel_rfl) (by simp) ?_
      refine AllReadyH.cons rfl (fun K hK => ?_) AllReadyH.nil
      refine if_wanted (wanted_none rfl) ?_
      simp only [List.getElem_toArray, List.getElem_cons_zero, List.getElem_cons_succ]
      go_simp
      refine hbes.mono ?_
      rintro e w4 ⟨rfl, hB4⟩
      have HB4 : Hid (Below wr.heap.size wr w4) := ⟨hB4.1, hB4.2, hB4.3, hB4.4, hB4.5⟩
      have cb4 : w4.cell? ⟨GB, j, none⟩ = some (.int .u8 X) := ((bcell HB4.out).1 _ _ hbl).trans cb
      have hb4 : GB < w4.heap.size := Nat.lt_of_lt_of_le hbl HB4.out.size
      clear hB4 hbes HS
      refine hK.out _ _ ⟨cb4, hb4⟩ (fun HS => ?_)
      clear hK K
      refine wpAnyH_ready (rs := [12]) (by kernel_rfl) (by simp) ?_
      refine AllReadyH.cons rfl (fun K hK => ?_) AllReadyH.nil
      refine if_wanted (wanted_none rfl) ?_
      simp only [List.getElem_toArray, List.getElem_cons_zero, List.getElem_cons_succ]
      go_simp
      refine (hkd _).mono ?_
      rintro e w5 ⟨rfl, hB5⟩
      have HB5 : Hid (Below wr.heap.size wr w5) := bnext HB4.out hB5
      have cb5 : w5.cell? ⟨GB, j, none⟩ = some (.int .u8 X) := ((bcell HB5.out).1 _ _ hbl).trans cb
      have hb5 : GB < w5.heap.size := Nat.lt_of_lt_of_le hbl HB5.out.size
      clear hB5 hkd HB4 HS cb4 hb4
      refine hK.out _ _ ⟨cb5, hb5⟩ (fun HS => ?_)
      clear hK K
      refine wpAnyH_take (i := 13) (v := .int .u8 Y) rfl (by kernel_rfl) (by kernel_rfl) (by kernel_rfl) (fun _ _ _ h => h) (Or.inl ⟨by rfl, ?_⟩) HS ?_
      · intro w' hS
        obtain ⟨s0, s1⟩ := hS
        go_simp
      simp only [Act.put, List.getElem_toArray, List.getElem_cons_zero, List.getElem_cons_succ, List.setIfInBounds_toArray, List.set_cons_zero, List.set_cons_succ]
      refine wpAnyH_take (i := 14) (v := .int .u8 Z) rfl (by kernel_rfl) (by kernel_rfl) (by kernel_rfl) (fun _ _ _ h => h) (Or.inl ⟨by rfl, ?_⟩) HS ?_
      · intro w' hS
        obtain ⟨s0, s1⟩ := hS
        go_simp
      simp only [Act.put, List.getElem_toArray, List.getElem_cons_zero, List.getElem_cons_succ, List.setIfInBounds_toArray, List.set_cons_zero, List.set_cons_succ]
      refine wpAnyH_take (i := 15) (v := .pointer (some ⟨G, j, none⟩)) rfl (by kernel_rfl) (by kernel_rfl) (by kernel_rfl) (fun _ _ _ h => h) (Or.inl ⟨by rfl, ?_⟩) HS ?_
      · intro w' hS
        obtain ⟨s0, s1⟩ := hS
        go_simp
      simp only [Act.put, List.getElem_toArray, List.getElem_cons_zero, List.getElem_cons_succ, List.setIfInBounds_toArray, List.set_cons_zero, List.set_cons_succ]
      obtain ⟨g1, g2, g3⟩ := HC.out w5 HB5.out
      refine wpAnyH_ready (rs := [16]) (by kernel_rfl) (by simp) ?_
      refine AllReadyH.cons rfl (fun K hK => ?_) AllReadyH.nil
      refine if_wanted (wanted_none rfl) ?_
      simp only [List.getElem_toArray, List.getElem_cons_zero, List.getElem_cons_succ]
      go_simp
      refine hK.out _ _ ⟨by rw [World.cell?_setCell_other _ _ _ _ (by intro e; cases e; exact hGne rfl)]; exact cb5, by simp; exact hb5⟩ (fun _ => ?_)
      clear hK K
      refine wpAnyH_done (by kernel_rfl) ?_ _
      go_wp2_with fail
      go_roundw
      case rel => exact ⟨j + 1, by omega, by go_num, fltI_next hS.out hlt HB5.out HN.out⟩
      case measure => simp [intOf]; omega
    · obtain rfl : j = row.size := by omega
      have dl : decide ((row.size : Int) < (row.size : Int)) = false := decide_eq_false (by omega)
      obtain ⟨h, hO, hh, hR, hne, hBB⟩ := hS.out
      have hcv := hO.text (filtL 0 (bts row) (bts above) unit row.size) (filtL_length _ _ _ _ _) (fun i hi => by rw [filtL_get _ _ _ _ _ _ hi, hh i hi])
      have HBE := hid_of hBB
      clear hS hO hh hR hne hBB
      go_wp2_with fail
      refine bodyPost_ret (v := .tuple #[.string (strOfNums (filtL 0 (bts row) (bts above) unit row.size)), .bool true]) ?_ rfl ⟨rfl, HBE.out⟩
      simp [results, Try.results13, go_sem]
set_option maxRecDepth 100000 in
set_option maxHeartbeats 3200000 in
theorem implFilter_1 (row above : ByteArray) (unit : Nat) (w : World) (h : FiltR 1 row above (unit : Int)) :
    Calls Try.prog 13 #[.int .i64 1, .string row, .string above, .int .i64 (unit : Int)] w fun e w' => e = .returned (.tuple #[.string (filtT 1 row above unit), .bool true]) ∧ Below w.heap.size w w' := by
  have hcan := fun W => canFilter_any row above (unit : Int) W
  rw [decide_eq_true (h.kind (j := 0) (by omega))] at hcan
  obtain ⟨-, hu, hs, hn⟩ := h
  have hu' : 1 ≤ unit ∧ unit ≤ 8 := by omega
  have HS0 := hid_of hs
  have ha : above.size ≤ 200 := by omega
  clear hs
  go_enter Try.func13, Try.ntmps13
  go_wp2_with fail
  refine (kinds_any _).mono ?_
  rintro e w1 ⟨rfl, hm, hB1⟩
  have lk : (Instr.lookup 45 (.map (some w.heap.size)) (.int .i64 1) true).run Try.prog w1 = .ok (.tuple #[fnV 38, .bool true]) w1 := kind_look hm 1 (by omega)
  have HB1 := hid_of hB1
  clear hm hB1
  go_wp2_with fail
  refine (hcan _).mono ?_
  rintro e w2 ⟨rfl, rfl⟩
  clear hcan lk
  obtain ⟨W7, cz, hcv, hO7, hB7⟩ := bown_of_text w2 row (by omega)
  have hmk := make_bytes12 W7 row.size (by omega)
  have H0 : Hid (FltI w (W7.alloc (.cells (madeCells #[Value.int .u8 0] row.size) 5)) W7.heap.size w2.heap.size cz row (filtB 1 (bts row) (bts above) unit) 0) :=
    ⟨fun _ => 0, BFn.made (base := w.heap.size) W7 row.size (by unfold maxLen; omega) (Nat.le_trans HB1.out.size hB7.size), fun i hi => absurd hi (Nat.not_lt_zero i), ⟨hO7.1, (Own.mono hO7.2 HB1.out.size).alloc _⟩, hO7.lt, bal (bnext HB1.out hB7) _⟩
  clear hO7 hB7
  generalize w2.heap.size = GB at hcv H0
  generalize W7.alloc (.cells (madeCells #[Value.int .u8 0] row.size) 5) = w3 at hmk H0
  generalize W7.heap.size = G at hmk H0
  go_wp2_with fail
  go_loopw [37] (fun i w' => ∃ j : Nat, j ≤ row.size ∧ i = .int .i64 (j : Int) ∧ Hid (FltI w w' G GB cz row (filtB 1 (bts row) (bts above) unit) j)) (fun i _ => row.size - (intOf i).toNat)
  case atStart => exact ⟨0, Nat.zero_le _, rfl, H0⟩
  case round =>
    clear H0 hmk hcv
    obtain ⟨j, hj, rfl, hS⟩ := hrel
    by_cases hlt : j < row.size
    · have hal : j < above.size := by rw [← HS0.out]; exact hlt
      obtain ⟨h, hO, hh, hR, hne, hBB⟩ := hS.out
      have cb := hR.cell j hlt
      rw [bts_of13 _ _ hlt] at cb
      have hbl := hR.lt
      have hrow : unit ≤ j → ∃ g, (some ⟨GB, 0, none⟩ : Option Addr) = some ⟨g, 0, none⟩ ∧ j - unit < row.size ∧ g < wr.drew.heap.size ∧ wr.drew.cell? ⟨g, j - unit, none⟩ = some (.int .u8 (bts row (j - unit))) := fun _ => by
        refine ⟨_, rfl, by omega, hbl, ?_⟩
        rw [← bts_of13 row _ (by omega)]
        exact hR.cell (j - unit) (by omega)
      have hbes := beside_any (some ⟨GB, 0, none⟩) row.size cz (bts row) above unit j wr.drew hu' hal ha (bts_byte row) hrow
      have gl : G < wr.heap.size := Own.lt hO
      have HC : Hid (∀ w', Below wr.heap.size wr w' → w'.cell? ⟨G, j, none⟩ = some (.int .u8 (h j)) ∧ w'.frozen? ⟨G, j, none⟩ = false ∧ G < w'.heap.size) := fun w' hb => ⟨((bcell hb).1 _ _ gl).trans (hO.cell j hlt), ((bcell hb).2 _ _ gl).trans (hO.free j hlt), Nat.lt_of_lt_of_le gl hb.size⟩
      have hGne : ¬ GB = G := by omega
      obtain ⟨X, hX⟩ : ∃ X, X = bts row j := ⟨_, rfl⟩
      have hX0 : 0 ≤ X ∧ X < 256 := by rw [hX]; exact bts_byte row j
      rw [← hX] at cb
      clear hh hR hBB hO hrow hne
      obtain ⟨L, hL⟩ : ∃ L, L = aheadB (bts row) unit j := ⟨_, rfl⟩
      obtain ⟨U, hU⟩ : ∃ U, U = bts above j := ⟨_, rfl⟩
      obtain ⟨C, hC⟩ : ∃ C, C = aheadB (bts above) unit j := ⟨_, rfl⟩
      rw [← hL, ← hU, ← hC] at hbes
      have hL0 : 0 ≤ L ∧ L < 256 := by rw [hL]; exact ahead_byte (bts_byte row) _ _
      have hU0 : 0 ≤ U ∧ U < 256 := by rw [hU]; exact bts_byte above j
      have hC0 : 0 ≤ C ∧ C < 256 := by rw [hC]; exact ahead_byte (bts_byte above) _ _
      have hkd := fun W => ahead_any L U C W
      have HY : Hid (told 1 L U C = says 1 (bts row) (bts above) unit j) := by
        show _ = _
        unfold says
        rw [hL, hU, hC]
      obtain ⟨Y, hY⟩ : ∃ Y, Y = told 1 L U C := ⟨_, rfl⟩
      have hY0 : 0 ≤ Y ∧ Y < 256 := by rw [hY]; exact told_byte 1 hL0 hU0 hC0
      rw [← hY] at hkd HY
      obtain ⟨Z, hZ⟩ : ∃ Z, Z = (X + 256 - Y) % 256 := ⟨_, rfl⟩
      have hZ0 : 0 ≤ Z ∧ Z < 256 := by omega
      have u8w : IntKind.u8.wrap (X - Y) = Z := by show (X - Y) % 256 = Z; omega
      have HN : Hid (Z = filtB 1 (bts row) (bts above) unit j) := by
        show Z = _
        unfold filtB
        rw [← HY.out, ← hX, hZ]
      have u8y : IntKind.u8.wrap Y = Y := by show Y % 256 = Y; omega
      have dl : decide ((j : Int) < (row.size : Int)) = true := decide_eq_true (by omega)
      clear hX hY hZ hL hU hC
      go_wp2_with fail
      refine wp_region_held (S := fun u => u.cell? ⟨GB, j, none⟩ = some (.int .u8 X) ∧ GB < u.heap.size) (by kernel_rfl) ?_
      show wpAnyH _ _ _ _ _ _ _ _ wr.drew
      have HS : wr.drew.cell? ⟨GB, j, none⟩ = some (.int .u8 X) ∧ GB < wr.drew.heap.size := ⟨cb, hbl⟩
      refine wpAnyH_take (i := 0) (v := .slice (some ⟨G, 0, none⟩) row.size row.size) rfl (by kernel_rfl) (by kernel_rfl) (by kernel_rfl) (fun _ _ _ h => h) (Or.inl ⟨by rfl, ?_⟩) HS ?_
      · intro w' hS
        obtain ⟨s0, s1⟩ := hS
        go_simp
      simp only [Act.put, List.getElem_toArray, List.getElem_cons_zero, List.setIfInBounds_toArray, List.set_cons_zero, List.set_cons_succ]
      refine wpAnyH_take (i := 1) (v := .int .i64 (j : Int)) rfl (by kernel_rfl) (by kernel_rfl) (by kernel_rfl) (fun _ _ _ h => h) (Or.inl ⟨by rfl, ?_⟩) HS ?_
      · intro w' hS
        obtain ⟨s0, s1⟩ := hS
        go_simp
      simp only [Act.put, List.getElem_toArray, List.getElem_cons_zero, List.getElem_cons_succ, List.setIfInBounds_toArray, List.set_cons_zero, List.set_cons_succ]
      refine wpAnyH_take (i := 2) (v := .slice (some ⟨GB, 0, none⟩) row.size cz) rfl (by kernel_rfl) (by kernel_rfl) (by kernel_rfl) (fun _ _ _ h => h) (Or.inl ⟨by rfl, ?_⟩) HS ?_
      · intro w' hS
        obtain ⟨s0, s1⟩ := hS
        go_simp
      simp only [Act.put, List.getElem_toArray, List.getElem_cons_zero, List.getElem_cons_succ, List.setIfInBounds_toArray, List.set_cons_zero, List.set_cons_succ]
      refine wpAnyH_take (i := 3) (v := .int .i64 (j : Int)) rfl (by kernel_rfl) (by kernel_rfl) (by kernel_rfl) (fun _ _ _ h => h) (Or.inl ⟨by rfl, ?_⟩) HS ?_
      · intro w' hS
        obtain ⟨s0, s1⟩ := hS
        go_simp
      simp only [Act.put, List.getElem_toArray, List.getElem_cons_zero, List.getElem_cons_succ, List.setIfInBounds_toArray, List.set_cons_zero, List.set_cons_succ]
      refine wpAnyH_take (i := 4) (v := .pointer (some ⟨GB, j, none⟩)) rfl (by kernel_rfl) (by kernel_rfl) (by kernel_rfl) (fun _ _ _ h => h) (Or.inl ⟨by rfl, ?_⟩) HS ?_
      · intro w' hS
        obtain ⟨s0, s1⟩ := hS
        go_simp
      simp only [Act.put, List.getElem_toArray, List.getElem_cons_zero, List.getElem_cons_succ, List.setIfInBounds_toArray, List.set_cons_zero, List.set_cons_succ]
      refine wpAnyH_take (i := 5) (v := .int .u8 X) rfl (by kernel_rfl) (by kernel_rfl) (by kernel_rfl) (fun _ _ _ h => h) (Or.inl ⟨by rfl, ?_⟩) HS ?_
      · intro w' hS
        obtain ⟨s0, s1⟩ := hS
        go_simp
      simp only [Act.put, List.getElem_toArray, List.getElem_cons_zero, List.getElem_cons_succ, List.setIfInBounds_toArray, List.set_cons_zero, List.set_cons_succ]
      refine wpAnyH_take (i := 6) (v := fnV 38) rfl (by kernel_rfl) (by kernel_rfl) (by kernel_rfl) (fun _ _ _ h => h) (Or.inl ⟨by rfl, ?_⟩) HS ?_
      · intro w' hS
        obtain ⟨s0, s1⟩ := hS
        go_simp
      simp only [Act.put, List.getElem_toArray, List.getElem_cons_zero, List.getElem_cons_succ, List.setIfInBounds_toArray, List.set_cons_zero, List.set_cons_succ]
      refine wpAnyH_take (i := 7) (v := .slice (some ⟨GB, 0, none⟩) row.size cz) rfl (by kernel_rfl) (by kernel_rfl) (by kernel_rfl) (fun _ _ _ h => h) (Or.inl ⟨by rfl, ?_⟩) HS ?_
      · intro w' hS
        obtain ⟨s0, s1⟩ := hS
        go_simp
      simp only [Act.put, List.getElem_toArray, List.getElem_cons_zero, List.getElem_cons_succ, List.setIfInBounds_toArray, List.set_cons_zero, List.set_cons_succ]
      refine wpAnyH_take (i := 8) (v := .string above) rfl (by kernel_rfl) (by kernel_rfl) (by kernel_rfl) (fun _ _ _ h => h) (Or.inl ⟨by rfl, ?_⟩) HS ?_
      · intro w' hS
        obtain ⟨s0, s1⟩ := hS
        go_simp
      simp only [Act.put, List.getElem_toArray, List.getElem_cons_zero, List.getElem_cons_succ, List.setIfInBounds_toArray, List.set_cons_zero, List.set_cons_succ]
      refine wpAnyH_take (i := 9) (v := .int .i64 (j : Int)) rfl (by kernel_rfl) (by kernel_rfl) (by kernel_rfl) (fun _ _ _ h => h) (Or.inl ⟨by rfl, ?_⟩) HS ?_
      · intro w' hS
        obtain ⟨s0, s1⟩ := hS
        go_simp
      simp only [Act.put, List.getElem_toArray, List.getElem_cons_zero, List.getElem_cons_succ, List.setIfInBounds_toArray, List.set_cons_zero, List.set_cons_succ]
      refine wpAnyH_take (i := 10) (v := .int .i64 (unit : Int)) rfl (by kernel_rfl) (by kernel_rfl) (by kernel_rfl) (fun _ _ _ h => h) (Or.inl ⟨by rfl, ?_⟩) HS ?_
      · intro w' hS
        obtain ⟨s0, s1⟩ := hS
        go_simp
      simp only [Act.put, List.getElem_toArray, List.getElem_cons_zero, List.getElem_cons_succ, List.setIfInBounds_toArray, List.set_cons_zero, List.set_cons_succ]
      refine wpAnyH_ready (rs := [11]) (by kernel_rfl) (by simp) ?_
      refine AllReadyH.cons rfl (fun K hK => ?_) AllReadyH.nil
      refine if_wanted (wanted_none rfl) ?_
      simp only [List.getElem_toArray, List.getElem_cons_zero, List.getElem_cons_succ]
      go_simp
      refine hbes.mono ?_
      rintro e w4 ⟨rfl, hB4⟩
      have HB4 : Hid (Below wr.heap.size wr w4) := ⟨hB4.1, hB4.2, hB4.3, hB4.4, hB4.5⟩
      have cb4 : w4.cell? ⟨GB, j, none⟩ = some (.int .u8 X) := ((bcell HB4.out).1 _ _ hbl).trans cb
      have hb4 : GB < w4.heap.size := Nat.lt_of_lt_of_le hbl HB4.out.size
      clear hB4 hbes HS
      refine hK.out _ _ ⟨cb4, hb4⟩ (fun HS => ?_)
      clear hK K
      refine wpAnyH_ready (rs := [12]) (by kernel_rfl) (by simp) ?_
      refine AllReadyH.cons rfl (fun K hK => ?_) AllReadyH.nil
      refine if_wanted (wanted_none rfl) ?_
      simp only [List.getElem_toArray, List.getElem_cons_zero, List.getElem_cons_succ]
      go_simp
      refine (hkd _).mono ?_
      rintro e w5 ⟨rfl, hB5⟩
      have HB5 : Hid (Below wr.heap.size wr w5) := bnext HB4.out hB5
      have cb5 : w5.cell? ⟨GB, j, none⟩ = some (.int .u8 X) := ((bcell HB5.out).1 _ _ hbl).trans cb
      have hb5 : GB < w5.heap.size := Nat.lt_of_lt_of_le hbl HB5.out.size
      clear hB5 hkd HB4 HS cb4 hb4
      refine hK.out _ _ ⟨cb5, hb5⟩ (fun HS => ?_)
      clear hK K
      refine wpAnyH_take (i := 13) (v := .int .u8 Y) rfl (by kernel_rfl) (by kernel_rfl) (by kernel_rfl) (fun _ _ _ h => h) (Or.inl ⟨by rfl, ?_⟩) HS ?_
      · intro w' hS
        obtain ⟨s0, s1⟩ := hS
        go_simp
      simp only [Act.put, List.getElem_toArray, List.getElem_cons_zero, List.getElem_cons_succ, List.setIfInBounds_toArray, List.set_cons_zero, List.set_cons_succ]
      refine wpAnyH_take (i := 14) (v := .int .u8 Z) rfl (by kernel_rfl) (by kernel_rfl) (by kernel_rfl) (fun _ _ _ h => h) (Or.inl ⟨by rfl, ?_⟩) HS ?_
      · intro w' hS
        obtain ⟨s0, s1⟩ := hS
        go_simp
      simp only [Act.put, List.getElem_toArray, List.getElem_cons_zero, List.getElem_cons_succ, List.setIfInBounds_toArray, List.set_cons_zero, List.set_cons_succ]
      refine wpAnyH_take (i := 15) (v := .pointer (some ⟨G, j, none⟩)) rfl (by kernel_rfl) (by kernel_rfl) (by kernel_rfl) (fun _ _ _ h => h) (Or.inl ⟨by rfl, ?_⟩) HS ?_
      · intro w' hS
        obtain ⟨s0, s1⟩ := hS
        go_simp
      simp only [Act.put, List.getElem_toArray, List.getElem_cons_zero, List.getElem_cons_succ, List.setIfInBounds_toArray, List.set_cons_zero, List.set_cons_succ]
      obtain ⟨g1, g2, g3⟩ := HC.out w5 HB5.out
      refine wpAnyH_ready (rs := [16]) (by kernel_rfl) (by simp) ?_
      refine AllReadyH.cons rfl (fun K hK => ?_) AllReadyH.nil
      refine if_wanted (wanted_none rfl) ?_
      simp only [List.getElem_toArray, List.getElem_cons_zero, List.getElem_cons_succ]
      go_simp
      refine hK.out _ _ ⟨by rw [World.cell?_setCell_other _ _ _ _ (by intro e; cases e; exact hGne rfl)]; exact cb5, by simp; exact hb5⟩ (fun _ => ?_)
      clear hK K
      refine wpAnyH_done (by kernel_rfl) ?_ _
      go_wp2_with fail
      go_roundw
      case rel => exact ⟨j + 1, by omega, by go_num, fltI_next hS.out hlt HB5.out HN.out⟩
      case measure => simp [intOf]; omega
    · obtain rfl : j = row.size := by omega
      have dl : decide ((row.size : Int) < (row.size : Int)) = false := decide_eq_false (by omega)
      obtain ⟨h, hO, hh, hR, hne, hBB⟩ := hS.out
      have hcv := hO.text (filtL 1 (bts row) (bts above) unit row.size) (filtL_length _ _ _ _ _) (fun i hi => by rw [filtL_get _ _ _ _ _ _ hi, hh i hi])
      have HBE := hid_of hBB
      clear hS hO hh hR hne hBB
      go_wp2_with fail
      refine bodyPost_ret (v := .tuple #[.string (strOfNums (filtL 1 (bts row) (bts above) unit row.size)), .bool true]) ?_ rfl ⟨rfl, HBE.out⟩
      simp [results, Try.results13, go_sem]
set_option maxRecDepth 100000 in
set_option maxHeartbeats 3200000 in
theorem implFilter_2 (row above : ByteArray) (unit : Nat) (w : World) (h : FiltR 2 row above (unit : Int)) :
    Calls Try.prog 13 #[.int .i64 2, .string row, .string above, .int .i64 (unit : Int)] w fun e w' => e = .returned (.tuple #[.string (filtT 2 row above unit), .bool true]) ∧ Below w.heap.size w w' := by
  have hcan := fun W => canFilter_any row above (unit : Int) W
  rw [decide_eq_true (h.kind (j := 0) (by omega))] at hcan
  obtain ⟨-, hu, hs, hn⟩ := h
  have hu' : 1 ≤ unit ∧ unit ≤ 8 := by omega
  have HS0 := hid_of hs
  have ha : above.size ≤ 200 := by omega
  clear hs
  go_enter Try.func13, Try.ntmps13
  go_wp2_with fail
  refine (kinds_any _).mono ?_
  rintro e w1 ⟨rfl, hm, hB1⟩
  have lk : (Instr.lookup 45 (.map (some w.heap.size)) (.int .i64 2) true).run Try.prog w1 = .ok (.tuple #[fnV 39, .bool true]) w1 := kind_look hm 2 (by omega)
  have HB1 := hid_of hB1
  clear hm hB1
  go_wp2_with fail
  refine (hcan _).mono ?_
  rintro e w2 ⟨rfl, rfl⟩
  clear hcan lk
  obtain ⟨W7, cz, hcv, hO7, hB7⟩ := bown_of_text w2 row (by omega)
  have hmk := make_bytes12 W7 row.size (by omega)
  have H0 : Hid (FltI w (W7.alloc (.cells (madeCells #[Value.int .u8 0] row.size) 5)) W7.heap.size w2.heap.size cz row (filtB 2 (bts row) (bts above) unit) 0) :=
    ⟨fun _ => 0, BFn.made (base := w.heap.size) W7 row.size (by unfold maxLen; omega) (Nat.le_trans HB1.out.size hB7.size), fun i hi => absurd hi (Nat.not_lt_zero i), ⟨hO7.1, (Own.mono hO7.2 HB1.out.size).alloc _⟩, hO7.lt, bal (bnext HB1.out hB7) _⟩
  clear hO7 hB7
  generalize w2.heap.size = GB at hcv H0
  generalize W7.alloc (.cells (madeCells #[Value.int .u8 0] row.size) 5) = w3 at hmk H0
  generalize W7.heap.size = G at hmk H0
  go_wp2_with fail
  go_loopw [37] (fun i w' => ∃ j : Nat, j ≤ row.size ∧ i = .int .i64 (j : Int) ∧ Hid (FltI w w' G GB cz row (filtB 2 (bts row) (bts above) unit) j)) (fun i _ => row.size - (intOf i).toNat)
  case atStart => exact ⟨0, Nat.zero_le _, rfl, H0⟩
  case round =>
    clear H0 hmk hcv
    obtain ⟨j, hj, rfl, hS⟩ := hrel
    by_cases hlt : j < row.size
    · have hal : j < above.size := by rw [← HS0.out]; exact hlt
      obtain ⟨h, hO, hh, hR, hne, hBB⟩ := hS.out
      have cb := hR.cell j hlt
      rw [bts_of13 _ _ hlt] at cb
      have hbl := hR.lt
      have hrow : unit ≤ j → ∃ g, (some ⟨GB, 0, none⟩ : Option Addr) = some ⟨g, 0, none⟩ ∧ j - unit < row.size ∧ g < wr.drew.heap.size ∧ wr.drew.cell? ⟨g, j - unit, none⟩ = some (.int .u8 (bts row (j - unit))) := fun _ => by
        refine ⟨_, rfl, by omega, hbl, ?_⟩
        rw [← bts_of13 row _ (by omega)]
        exact hR.cell (j - unit) (by omega)
      have hbes := beside_any (some ⟨GB, 0, none⟩) row.size cz (bts row) above unit j wr.drew hu' hal ha (bts_byte row) hrow
      have gl : G < wr.heap.size := Own.lt hO
      have HC : Hid (∀ w', Below wr.heap.size wr w' → w'.cell? ⟨G, j, none⟩ = some (.int .u8 (h j)) ∧ w'.frozen? ⟨G, j, none⟩ = false ∧ G < w'.heap.size) := fun w' hb => ⟨((bcell hb).1 _ _ gl).trans (hO.cell j hlt), ((bcell hb).2 _ _ gl).trans (hO.free j hlt), Nat.lt_of_lt_of_le gl hb.size⟩
      have hGne : ¬ GB = G := by omega
      obtain ⟨X, hX⟩ : ∃ X, X = bts row j := ⟨_, rfl⟩
      have hX0 : 0 ≤ X ∧ X < 256 := by rw [hX]; exact bts_byte row j
      rw [← hX] at cb
      clear hh hR hBB hO hrow hne
      obtain ⟨L, hL⟩ : ∃ L, L = aheadB (bts row) unit j := ⟨_, rfl⟩
      obtain ⟨U, hU⟩ : ∃ U, U = bts above j := ⟨_, rfl⟩
      obtain ⟨C, hC⟩ : ∃ C, C = aheadB (bts above) unit j := ⟨_, rfl⟩
      rw [← hL, ← hU, ← hC] at hbes
      have hL0 : 0 ≤ L ∧ L < 256 := by rw [hL]; exact ahead_byte (bts_byte row) _ _
      have hU0 : 0 ≤ U ∧ U < 256 := by rw [hU]; exact bts_byte above j
      have hC0 : 0 ≤ C ∧ C < 256 := by rw [hC]; exact ahead_byte (bts_byte above) _ _
      have hkd := fun W => above_any L U C W
      have HY : Hid (told 2 L U C = says 2 (bts row) (bts above) unit j) := by
        show _ = _
        unfold says
        rw [hL, hU, hC]
      obtain ⟨Y, hY⟩ : ∃ Y, Y = told 2 L U C := ⟨_, rfl⟩
      have hY0 : 0 ≤ Y ∧ Y < 256 := by rw [hY]; exact told_byte 2 hL0 hU0 hC0
      rw [← hY] at hkd HY
      obtain ⟨Z, hZ⟩ : ∃ Z, Z = (X + 256 - Y) % 256 := ⟨_, rfl⟩
      have hZ0 : 0 ≤ Z ∧ Z < 256 := by omega
      have u8w : IntKind.u8.wrap (X - Y) = Z := by show (X - Y) % 256 = Z; omega
      have HN : Hid (Z = filtB 2 (bts row) (bts above) unit j) := by
        show Z = _
        unfold filtB
        rw [← HY.out, ← hX, hZ]
      have u8y : IntKind.u8.wrap Y = Y := by show Y % 256 = Y; omega
      have dl : decide ((j : Int) < (row.size : Int)) = true := decide_eq_true (by omega)
      clear hX hY hZ hL hU hC
      go_wp2_with fail
      refine wp_region_held (S := fun u => u.cell? ⟨GB, j, none⟩ = some (.int .u8 X) ∧ GB < u.heap.size) (by kernel_rfl) ?_
      show wpAnyH _ _ _ _ _ _ _ _ wr.drew
      have HS : wr.drew.cell? ⟨GB, j, none⟩ = some (.int .u8 X) ∧ GB < wr.drew.heap.size := ⟨cb, hbl⟩
      refine wpAnyH_take (i := 0) (v := .slice (some ⟨G, 0, none⟩) row.size row.size) rfl (by kernel_rfl) (by kernel_rfl) (by kernel_rfl) (fun _ _ _ h => h) (Or.inl ⟨by rfl, ?_⟩) HS ?_
      · intro w' hS
        obtain ⟨s0, s1⟩ := hS
        go_simp
      simp only [Act.put, List.getElem_toArray, List.getElem_cons_zero, List.setIfInBounds_toArray, List.set_cons_zero, List.set_cons_succ]
      refine wpAnyH_take (i := 1) (v := .int .i64 (j : Int)) rfl (by kernel_rfl) (by kernel_rfl) (by kernel_rfl) (fun _ _ _ h => h) (Or.inl ⟨by rfl, ?_⟩) HS ?_
      · intro w' hS
        obtain ⟨s0, s1⟩ := hS
        go_simp
      simp only [Act.put, List.getElem_toArray, List.getElem_cons_zero, List.getElem_cons_succ, List.setIfInBounds_toArray, List.set_cons_zero, List.set_cons_succ]
      refine wpAnyH_take (i := 2) (v := .slice (some ⟨GB, 0, none⟩) row.size cz) rfl (by kernel_rfl) (by kernel_rfl) (by kernel_rfl) (fun _ _ _ h => h) (Or.inl ⟨by rfl, ?_⟩) HS ?_
      · intro w' hS
        obtain ⟨s0, s1⟩ := hS
        go_simp
      simp only [Act.put, List.getElem_toArray, List.getElem_cons_zero, List.getElem_cons_succ, List.setIfInBounds_toArray, List.set_cons_zero, List.set_cons_succ]
      refine wpAnyH_take (i := 3) (v := .int .i64 (j : Int)) rfl (by kernel_rfl) (by kernel_rfl) (by kernel_rfl) (fun _ _ _ h => h) (Or.inl ⟨by rfl, ?_⟩) HS ?_
      · intro w' hS
        obtain ⟨s0, s1⟩ := hS
        go_simp
      simp only [Act.put, List.getElem_toArray, List.getElem_cons_zero, List.getElem_cons_succ, List.setIfInBounds_toArray, List.set_cons_zero, List.set_cons_succ]
      refine wpAnyH_take (i := 4) (v := .pointer (some ⟨GB, j, none⟩)) rfl (by kernel_rfl) (by kernel_rfl) (by kernel_rfl) (fun _ _ _ h => h) (Or.inl ⟨by rfl, ?_⟩) HS ?_
      · intro w' hS
        obtain ⟨s0, s1⟩ := hS
        go_simp
      simp only [Act.put, List.getElem_toArray, List.getElem_cons_zero, List.getElem_cons_succ, List.setIfInBounds_toArray, List.set_cons_zero, List.set_cons_succ]
      refine wpAnyH_take (i := 5) (v := .int .u8 X) rfl (by kernel_rfl) (by kernel_rfl) (by kernel_rfl) (fun _ _ _ h => h) (Or.inl ⟨by rfl, ?_⟩) HS ?_
      · intro w' hS
        obtain ⟨s0, s1⟩ := hS
        go_simp
      simp only [Act.put, List.getElem_toArray, List.getElem_cons_zero, List.getElem_cons_succ, List.setIfInBounds_toArray, List.set_cons_zero, List.set_cons_succ]
      refine wpAnyH_take (i := 6) (v := fnV 39) rfl (by kernel_rfl) (by kernel_rfl) (by kernel_rfl) (fun _ _ _ h => h) (Or.inl ⟨by rfl, ?_⟩) HS ?_
      · intro w' hS
        obtain ⟨s0, s1⟩ := hS
        go_simp
      simp only [Act.put, List.getElem_toArray, List.getElem_cons_zero, List.getElem_cons_succ, List.setIfInBounds_toArray, List.set_cons_zero, List.set_cons_succ]
      refine wpAnyH_take (i := 7) (v := .slice (some ⟨GB, 0, none⟩) row.size cz) rfl (by kernel_rfl) (by kernel_rfl) (by kernel_rfl) (fun _ _ _ h => h) (Or.inl ⟨by rfl, ?_⟩) HS ?_
      · intro w' hS
        obtain ⟨s0, s1⟩ := hS
        go_simp
      simp only [Act.put, List.getElem_toArray, List.getElem_cons_zero, List.getElem_cons_succ, List.setIfInBounds_toArray, List.set_cons_zero, List.set_cons_succ]
      refine wpAnyH_take (i := 8) (v := .string above) rfl (by kernel_rfl) (by kernel_rfl) (by kernel_rfl) (fun _ _ _ h => h) (Or.inl ⟨by rfl, ?_⟩) HS ?_
      · intro w' hS
        obtain ⟨s0, s1⟩ := hS
        go_simp
      simp only [Act.put, List.getElem_toArray, List.getElem_cons_zero, List.getElem_cons_succ, List.setIfInBounds_toArray, List.set_cons_zero, List.set_cons_succ]
      refine wpAnyH_take (i := 9) (v := .int .i64 (j : Int)) rfl (by kernel_rfl) (by kernel_rfl) (by kernel_rfl) (fun _ _ _ h => h) (Or.inl ⟨by rfl, ?_⟩) HS ?_
      · intro w' hS
        obtain ⟨s0, s1⟩ := hS
        go_simp
      simp only [Act.put, List.getElem_toArray, List.getElem_cons_zero, List.getElem_cons_succ, List.setIfInBounds_toArray, List.set_cons_zero, List.set_cons_succ]
      refine wpAnyH_take (i := 10) (v := .int .i64 (unit : Int)) rfl (by kernel_rfl) (by kernel_rfl) (by kernel_rfl) (fun _ _ _ h => h) (Or.inl ⟨by rfl, ?_⟩) HS ?_
      · intro w' hS
        obtain ⟨s0, s1⟩ := hS
        go_simp
      simp only [Act.put, List.getElem_toArray, List.getElem_cons_zero, List.getElem_cons_succ, List.setIfInBounds_toArray, List.set_cons_zero, List.set_cons_succ]
      refine wpAnyH_ready (rs := [11]) (by kernel_rfl) (by simp) ?_
      refine AllReadyH.cons rfl (fun K hK => ?_) AllReadyH.nil
      refine if_wanted (wanted_none rfl) ?_
      simp only [List.getElem_toArray, List.getElem_cons_zero, List.getElem_cons_succ]
      go_simp
      refine hbes.mono ?_
      rintro e w4 ⟨rfl, hB4⟩
      have HB4 : Hid (Below wr.heap.size wr w4) := ⟨hB4.1, hB4.2, hB4.3, hB4.4, hB4.5⟩
      have cb4 : w4.cell? ⟨GB, j, none⟩ = some (.int .u8 X) := ((bcell HB4.out).1 _ _ hbl).trans cb
      have hb4 : GB < w4.heap.size := Nat.lt_of_lt_of_le hbl HB4.out.size
      clear hB4 hbes HS
      refine hK.out _ _ ⟨cb4, hb4⟩ (fun HS => ?_)
      clear hK K
      refine wpAnyH_ready (rs := [12]) (by kernel_rfl) (by simp) ?_
      refine AllReadyH.cons rfl (fun K hK => ?_) AllReadyH.nil
      refine if_wanted (wanted_none rfl) ?_
      simp only [List.getElem_toArray, List.getElem_cons_zero, List.getElem_cons_succ]
      go_simp
      refine (hkd _).mono ?_
      rintro e w5 ⟨rfl, hB5⟩
      have HB5 : Hid (Below wr.heap.size wr w5) := bnext HB4.out hB5
      have cb5 : w5.cell? ⟨GB, j, none⟩ = some (.int .u8 X) := ((bcell HB5.out).1 _ _ hbl).trans cb
      have hb5 : GB < w5.heap.size := Nat.lt_of_lt_of_le hbl HB5.out.size
      clear hB5 hkd HB4 HS cb4 hb4
      refine hK.out _ _ ⟨cb5, hb5⟩ (fun HS => ?_)
      clear hK K
      refine wpAnyH_take (i := 13) (v := .int .u8 Y) rfl (by kernel_rfl) (by kernel_rfl) (by kernel_rfl) (fun _ _ _ h => h) (Or.inl ⟨by rfl, ?_⟩) HS ?_
      · intro w' hS
        obtain ⟨s0, s1⟩ := hS
        go_simp
      simp only [Act.put, List.getElem_toArray, List.getElem_cons_zero, List.getElem_cons_succ, List.setIfInBounds_toArray, List.set_cons_zero, List.set_cons_succ]
      refine wpAnyH_take (i := 14) (v := .int .u8 Z) rfl (by kernel_rfl) (by kernel_rfl) (by kernel_rfl) (fun _ _ _ h => h) (Or.inl ⟨by rfl, ?_⟩) HS ?_
      · intro w' hS
        obtain ⟨s0, s1⟩ := hS
        go_simp
      simp only [Act.put, List.getElem_toArray, List.getElem_cons_zero, List.getElem_cons_succ, List.setIfInBounds_toArray, List.set_cons_zero, List.set_cons_succ]
      refine wpAnyH_take (i := 15) (v := .pointer (some ⟨G, j, none⟩)) rfl (by kernel_rfl) (by kernel_rfl) (by kernel_rfl) (fun _ _ _ h => h) (Or.inl ⟨by rfl, ?_⟩) HS ?_
      · intro w' hS
        obtain ⟨s0, s1⟩ := hS
        go_simp
      simp only [Act.put, List.getElem_toArray, List.getElem_cons_zero, List.getElem_cons_succ, List.setIfInBounds_toArray, List.set_cons_zero, List.set_cons_succ]
      obtain ⟨g1, g2, g3⟩ := HC.out w5 HB5.out
      refine wpAnyH_ready (rs := [16]) (by kernel_rfl) (by simp) ?_
      refine AllReadyH.cons rfl (fun K hK => ?_) AllReadyH.nil
      refine if_wanted (wanted_none rfl) ?_
      simp only [List.getElem_toArray, List.getElem_cons_zero, List.getElem_cons_succ]
      go_simp
      refine hK.out _ _ ⟨by rw [World.cell?_setCell_other _ _ _ _ (by intro e; cases e; exact hGne rfl)]; exact cb5, by simp; exact hb5⟩ (fun _ => ?_)
      clear hK K
      refine wpAnyH_done (by kernel_rfl) ?_ _
      go_wp2_with fail
      go_roundw
      case rel => exact ⟨j + 1, by omega, by go_num, fltI_next hS.out hlt HB5.out HN.out⟩
      case measure => simp [intOf]; omega
    · obtain rfl : j = row.size := by omega
      have dl : decide ((row.size : Int) < (row.size : Int)) = false := decide_eq_false (by omega)
      obtain ⟨h, hO, hh, hR, hne, hBB⟩ := hS.out
      have hcv := hO.text (filtL 2 (bts row) (bts above) unit row.size) (filtL_length _ _ _ _ _) (fun i hi => by rw [filtL_get _ _ _ _ _ _ hi, hh i hi])
      have HBE := hid_of hBB
      clear hS hO hh hR hne hBB
      go_wp2_with fail
      refine bodyPost_ret (v := .tuple #[.string (strOfNums (filtL 2 (bts row) (bts above) unit row.size)), .bool true]) ?_ rfl ⟨rfl, HBE.out⟩
      simp [results, Try.results13, go_sem]
set_option maxRecDepth 100000 in
set_option maxHeartbeats 3200000 in
theorem implFilter_3 (row above : ByteArray) (unit : Nat) (w : World) (h : FiltR 3 row above (unit : Int)) :
    Calls Try.prog 13 #[.int .i64 3, .string row, .string above, .int .i64 (unit : Int)] w fun e w' => e = .returned (.tuple #[.string (filtT 3 row above unit), .bool true]) ∧ Below w.heap.size w w' := by
  have hcan := fun W => canFilter_any row above (unit : Int) W
  rw [decide_eq_true (h.kind (j := 0) (by omega))] at hcan
  obtain ⟨-, hu, hs, hn⟩ := h
  have hu' : 1 ≤ unit ∧ unit ≤ 8 := by omega
  have HS0 := hid_of hs
  have ha : above.size ≤ 200 := by omega
  clear hs
  go_enter Try.func13, Try.ntmps13
  go_wp2_with fail
  refine (kinds_any _).mono ?_
  rintro e w1 ⟨rfl, hm, hB1⟩
  have lk : (Instr.lookup 45 (.map (some w.heap.size)) (.int .i64 3) true).run Try.prog w1 = .ok (.tuple #[fnV 40, .bool true]) w1 := kind_look hm 3 (by omega)
  have HB1 := hid_of hB1
  clear hm hB1
  go_wp2_with fail
  refine (hcan _).mono ?_
  rintro e w2 ⟨rfl, rfl⟩
  clear hcan lk
  obtain ⟨W7, cz, hcv, hO7, hB7⟩ := bown_of_text w2 row (by omega)
  have hmk := make_bytes12 W7 row.size (by omega)
  have H0 : Hid (FltI w (W7.alloc (.cells (madeCells #[Value.int .u8 0] row.size) 5)) W7.heap.size w2.heap.size cz row (filtB 3 (bts row) (bts above) unit) 0) :=
    ⟨fun _ => 0, BFn.made (base := w.heap.size) W7 row.size (by unfold maxLen; omega) (Nat.le_trans HB1.out.size hB7.size), fun i hi => absurd hi (Nat.not_lt_zero i), ⟨hO7.1, (Own.mono hO7.2 HB1.out.size).alloc _⟩, hO7.lt, bal (bnext HB1.out hB7) _⟩
  clear hO7 hB7
  generalize w2.heap.size = GB at hcv H0
  generalize W7.alloc (.cells (madeCells #[Value.int .u8 0] row.size) 5) = w3 at hmk H0
  generalize W7.heap.size = G at hmk H0
  go_wp2_with fail
  go_loopw [37] (fun i w' => ∃ j : Nat, j ≤ row.size ∧ i = .int .i64 (j : Int) ∧ Hid (FltI w w' G GB cz row (filtB 3 (bts row) (bts above) unit) j)) (fun i _ => row.size - (intOf i).toNat)
  case atStart => exact ⟨0, Nat.zero_le _, rfl, H0⟩
  case round =>
    clear H0 hmk hcv
    obtain ⟨j, hj, rfl, hS⟩ := hrel
    by_cases hlt : j < row.size
    · have hal : j < above.size := by rw [← HS0.out]; exact hlt
      obtain ⟨h, hO, hh, hR, hne, hBB⟩ := hS.out
      have cb := hR.cell j hlt
      rw [bts_of13 _ _ hlt] at cb
      have hbl := hR.lt
      have hrow : unit ≤ j → ∃ g, (some ⟨GB, 0, none⟩ : Option Addr) = some ⟨g, 0, none⟩ ∧ j - unit < row.size ∧ g < wr.drew.heap.size ∧ wr.drew.cell? ⟨g, j - unit, none⟩ = some (.int .u8 (bts row (j - unit))) := fun _ => by
        refine ⟨_, rfl, by omega, hbl, ?_⟩
        rw [← bts_of13 row _ (by omega)]
        exact hR.cell (j - unit) (by omega)
      have hbes := beside_any (some ⟨GB, 0, none⟩) row.size cz (bts row) above unit j wr.drew hu' hal ha (bts_byte row) hrow
      have gl : G < wr.heap.size := Own.lt hO
      have HC : Hid (∀ w', Below wr.heap.size wr w' → w'.cell? ⟨G, j, none⟩ = some (.int .u8 (h j)) ∧ w'.frozen? ⟨G, j, none⟩ = false ∧ G < w'.heap.size) := fun w' hb => ⟨((bcell hb).1 _ _ gl).trans (hO.cell j hlt), ((bcell hb).2 _ _ gl).trans (hO.free j hlt), Nat.lt_of_lt_of_le gl hb.size⟩
      have hGne : ¬ GB = G := by omega
      obtain ⟨X, hX⟩ : ∃ X, X = bts row j := ⟨_, rfl⟩
      have hX0 : 0 ≤ X ∧ X < 256 := by rw [hX]; exact bts_byte row j
      rw [← hX] at cb
      clear hh hR hBB hO hrow hne
      obtain ⟨L, hL⟩ : ∃ L, L = aheadB (bts row) unit j := ⟨_, rfl⟩
      obtain ⟨U, hU⟩ : ∃ U, U = bts above j := ⟨_, rfl⟩
      obtain ⟨C, hC⟩ : ∃ C, C = aheadB (bts above) unit j := ⟨_, rfl⟩
      rw [← hL, ← hU, ← hC] at hbes
      have hL0 : 0 ≤ L ∧ L < 256 := by rw [hL]; exact ahead_byte (bts_byte row) _ _
      have hU0 : 0 ≤ U ∧ U < 256 := by rw [hU]; exact bts_byte above j
      have hC0 : 0 ≤ C ∧ C < 256 := by rw [hC]; exact ahead_byte (bts_byte above) _ _
      have hkd := fun W => middle_any L U C W hL0 hU0
      have HY : Hid (told 3 L U C = says 3 (bts row) (bts above) unit j) := by
        show _ = _
        unfold says
        rw [hL, hU, hC]
      obtain ⟨Y, hY⟩ : ∃ Y, Y = told 3 L U C := ⟨_, rfl⟩
      have hY0 : 0 ≤ Y ∧ Y < 256 := by rw [hY]; exact told_byte 3 hL0 hU0 hC0
      rw [← hY] at hkd HY
      obtain ⟨Z, hZ⟩ : ∃ Z, Z = (X + 256 - Y) % 256 := ⟨_, rfl⟩
      have hZ0 : 0 ≤ Z ∧ Z < 256 := by omega
      have u8w : IntKind.u8.wrap (X - Y) = Z := by show (X - Y) % 256 = Z; omega
      have HN : Hid (Z = filtB 3 (bts row) (bts above) unit j) := by
        show Z = _
        unfold filtB
        rw [← HY.out, ← hX, hZ]
      have u8y : IntKind.u8.wrap Y = Y := by show Y % 256 = Y; omega
      have dl : decide ((j : Int) < (row.size : Int)) = true := decide_eq_true (by omega)
      clear hX hY hZ hL hU hC
      go_wp2_with fail
      refine wp_region_held (S := fun u => u.cell? ⟨GB, j, none⟩ = some (.int .u8 X) ∧ GB < u.heap.size) (by kernel_rfl) ?_
      show wpAnyH _ _ _ _ _ _ _ _ wr.drew
      have HS : wr.drew.cell? ⟨GB, j, none⟩ = some (.int .u8 X) ∧ GB < wr.drew.heap.size := ⟨cb, hbl⟩
      refine wpAnyH_take (i := 0) (v := .slice (some ⟨G, 0, none⟩) row.size row.size) rfl (by kernel_rfl) (by kernel_rfl) (by kernel_rfl) (fun _ _ _ h => h) (Or.inl ⟨by rfl, ?_⟩) HS ?_
      · intro w' hS
        obtain ⟨s0, s1⟩ := hS
        go_simp
      simp only [Act.put, List.getElem_toArray, List.getElem_cons_zero, List.setIfInBounds_toArray, List.set_cons_zero, List.set_cons_succ]
      refine wpAnyH_take (i := 1) (v := .int .i64 (j : Int)) rfl (by kernel_rfl) (by kernel_rfl) (by kernel_rfl) (fun _ _ _ h => h) (Or.inl ⟨by rfl, ?_⟩) HS ?_
      · intro w' hS
        obtain ⟨s0, s1⟩ := hS
        go_simp
      simp only [Act.put, List.getElem_toArray, List.getElem_cons_zero, List.getElem_cons_succ, List.setIfInBounds_toArray, List.set_cons_zero, List.set_cons_succ]
      refine wpAnyH_take (i := 2) (v := .slice (some ⟨GB, 0, none⟩) row.size cz) rfl (by kernel_rfl) (by kernel_rfl) (by kernel_rfl) (fun _ _ _ h => h) (Or.inl ⟨by rfl, ?_⟩) HS ?_
      · intro w' hS
        obtain ⟨s0, s1⟩ := hS
        go_simp
      simp only [Act.put, List.getElem_toArray, List.getElem_cons_zero, List.getElem_cons_succ, List.setIfInBounds_toArray, List.set_cons_zero, List.set_cons_succ]
      refine wpAnyH_take (i := 3) (v := .int .i64 (j : Int)) rfl (by kernel_rfl) (by kernel_rfl) (by kernel_rfl) (fun _ _ _ h => h) (Or.inl ⟨by rfl, ?_⟩) HS ?_
      · intro w' hS
        obtain ⟨s0, s1⟩ := hS
        go_simp
      simp only [Act.put, List.getElem_toArray, List.getElem_cons_zero, List.getElem_cons_succ, List.setIfInBounds_toArray, List.set_cons_zero, List.set_cons_succ]
      refine wpAnyH_take (i := 4) (v := .pointer (some ⟨GB, j, none⟩)) rfl (by kernel_rfl) (by kernel_rfl) (by kernel_rfl) (fun _ _ _ h => h) (Or.inl ⟨by rfl, ?_⟩) HS ?_
      · intro w' hS
        obtain ⟨s0, s1⟩ := hS
        go_simp
      simp only [Act.put, List.getElem_toArray, List.getElem_cons_zero, List.getElem_cons_succ, List.setIfInBounds_toArray, List.set_cons_zero, List.set_cons_succ]
      refine wpAnyH_take (i := 5) (v := .int .u8 X) rfl (by kernel_rfl) (by kernel_rfl) (by kernel_rfl) (fun _ _ _ h => h) (Or.inl ⟨by rfl, ?_⟩) HS ?_
      · intro w' hS
        obtain ⟨s0, s1⟩ := hS
        go_simp
      simp only [Act.put, List.getElem_toArray, List.getElem_cons_zero, List.getElem_cons_succ, List.setIfInBounds_toArray, List.set_cons_zero, List.set_cons_succ]
      refine wpAnyH_take (i := 6) (v := fnV 40) rfl (by kernel_rfl) (by kernel_rfl) (by kernel_rfl) (fun _ _ _ h => h) (Or.inl ⟨by rfl, ?_⟩) HS ?_
      · intro w' hS
        obtain ⟨s0, s1⟩ := hS
        go_simp
      simp only [Act.put, List.getElem_toArray, List.getElem_cons_zero, List.getElem_cons_succ, List.setIfInBounds_toArray, List.set_cons_zero, List.set_cons_succ]
      refine wpAnyH_take (i := 7) (v := .slice (some ⟨GB, 0, none⟩) row.size cz) rfl (by kernel_rfl) (by kernel_rfl) (by kernel_rfl) (fun _ _ _ h => h) (Or.inl ⟨by rfl, ?_⟩) HS ?_
      · intro w' hS
        obtain ⟨s0, s1⟩ := hS
        go_simp
      simp only [Act.put, List.getElem_toArray, List.getElem_cons_zero, List.getElem_cons_succ, List.setIfInBounds_toArray, List.set_cons_zero, List.set_cons_succ]
      refine wpAnyH_take (i := 8) (v := .string above) rfl (by kernel_rfl) (by kernel_rfl) (by kernel_rfl) (fun _ _ _ h => h) (Or.inl ⟨by rfl, ?_⟩) HS ?_
      · intro w' hS
        obtain ⟨s0, s1⟩ := hS
        go_simp
      simp only [Act.put, List.getElem_toArray, List.getElem_cons_zero, List.getElem_cons_succ, List.setIfInBounds_toArray, List.set_cons_zero, List.set_cons_succ]
      refine wpAnyH_take (i := 9) (v := .int .i64 (j : Int)) rfl (by kernel_rfl) (by kernel_rfl) (by kernel_rfl) (fun _ _ _ h => h) (Or.inl ⟨by rfl, ?_⟩) HS ?_
      · intro w' hS
        obtain ⟨s0, s1⟩ := hS
        go_simp
      simp only [Act.put, List.getElem_toArray, List.getElem_cons_zero, List.getElem_cons_succ, List.setIfInBounds_toArray, List.set_cons_zero, List.set_cons_succ]
      refine wpAnyH_take (i := 10) (v := .int .i64 (unit : Int)) rfl (by kernel_rfl) (by kernel_rfl) (by kernel_rfl) (fun _ _ _ h => h) (Or.inl ⟨by rfl, ?_⟩) HS ?_
      · intro w' hS
        obtain ⟨s0, s1⟩ := hS
        go_simp
      simp only [Act.put, List.getElem_toArray, List.getElem_cons_zero, List.getElem_cons_succ, List.setIfInBounds_toArray, List.set_cons_zero, List.set_cons_succ]
      refine wpAnyH_ready (rs := [11]) (by kernel_rfl) (by simp) ?_
      refine AllReadyH.cons rfl (fun K hK => ?_) AllReadyH.nil
      refine if_wanted (wanted_none rfl) ?_
      simp only [List.getElem_toArray, List.getElem_cons_zero, List.getElem_cons_succ]
      go_simp
      refine hbes.mono ?_
      rintro e w4 ⟨rfl, hB4⟩
      have HB4 : Hid (Below wr.heap.size wr w4) := ⟨hB4.1, hB4.2, hB4.3, hB4.4, hB4.5⟩
      have cb4 : w4.cell? ⟨GB, j, none⟩ = some (.int .u8 X) := ((bcell HB4.out).1 _ _ hbl).trans cb
      have hb4 : GB < w4.heap.size := Nat.lt_of_lt_of_le hbl HB4.out.size
      clear hB4 hbes HS
      refine hK.out _ _ ⟨cb4, hb4⟩ (fun HS => ?_)
      clear hK K
      refine wpAnyH_ready (rs := [12]) (by kernel_rfl) (by simp) ?_
      refine AllReadyH.cons rfl (fun K hK => ?_) AllReadyH.nil
      refine if_wanted (wanted_none rfl) ?_
      simp only [List.getElem_toArray, List.getElem_cons_zero, List.getElem_cons_succ]
      go_simp
      refine (hkd _).mono ?_
      rintro e w5 ⟨rfl, hB5⟩
      have HB5 : Hid (Below wr.heap.size wr w5) := bnext HB4.out hB5
      have cb5 : w5.cell? ⟨GB, j, none⟩ = some (.int .u8 X) := ((bcell HB5.out).1 _ _ hbl).trans cb
      have hb5 : GB < w5.heap.size := Nat.lt_of_lt_of_le hbl HB5.out.size
      clear hB5 hkd HB4 HS cb4 hb4
      refine hK.out _ _ ⟨cb5, hb5⟩ (fun HS => ?_)
      clear hK K
      refine wpAnyH_take (i := 13) (v := .int .u8 Y) rfl (by kernel_rfl) (by kernel_rfl) (by kernel_rfl) (fun _ _ _ h => h) (Or.inl ⟨by rfl, ?_⟩) HS ?_
      · intro w' hS
        obtain ⟨s0, s1⟩ := hS
        go_simp
      simp only [Act.put, List.getElem_toArray, List.getElem_cons_zero, List.getElem_cons_succ, List.setIfInBounds_toArray, List.set_cons_zero, List.set_cons_succ]
      refine wpAnyH_take (i := 14) (v := .int .u8 Z) rfl (by kernel_rfl) (by kernel_rfl) (by kernel_rfl) (fun _ _ _ h => h) (Or.inl ⟨by rfl, ?_⟩) HS ?_
      · intro w' hS
        obtain ⟨s0, s1⟩ := hS
        go_simp
      simp only [Act.put, List.getElem_toArray, List.getElem_cons_zero, List.getElem_cons_succ, List.setIfInBounds_toArray, List.set_cons_zero, List.set_cons_succ]
      refine wpAnyH_take (i := 15) (v := .pointer (some ⟨G, j, none⟩)) rfl (by kernel_rfl) (by kernel_rfl) (by kernel_rfl) (fun _ _ _ h => h) (Or.inl ⟨by rfl, ?_⟩) HS ?_
      · intro w' hS
        obtain ⟨s0, s1⟩ := hS
        go_simp
      simp only [Act.put, List.getElem_toArray, List.getElem_cons_zero, List.getElem_cons_succ, List.setIfInBounds_toArray, List.set_cons_zero, List.set_cons_succ]
      obtain ⟨g1, g2, g3⟩ := HC.out w5 HB5.out
      refine wpAnyH_ready (rs := [16]) (by kernel_rfl) (by simp) ?_
      refine AllReadyH.cons rfl (fun K hK => ?_) AllReadyH.nil
      refine if_wanted (wanted_none rfl) ?_
      simp only [List.getElem_toArray, List.getElem_cons_zero, List.getElem_cons_succ]
      go_simp
      refine hK.out _ _ ⟨by rw [World.cell?_setCell_other _ _ _ _ (by intro e; cases e; exact hGne rfl)]; exact cb5, by simp; exact hb5⟩ (fun _ => ?_)
      clear hK K
      refine wpAnyH_done (by kernel_rfl) ?_ _
      go_wp2_with fail
      go_roundw
      case rel => exact ⟨j + 1, by omega, by go_num, fltI_next hS.out hlt HB5.out HN.out⟩
      case measure => simp [intOf]; omega
    · obtain rfl : j = row.size := by omega
      have dl : decide ((row.size : Int) < (row.size : Int)) = false := decide_eq_false (by omega)
      obtain ⟨h, hO, hh, hR, hne, hBB⟩ := hS.out
      have hcv := hO.text (filtL 3 (bts row) (bts above) unit row.size) (filtL_length _ _ _ _ _) (fun i hi => by rw [filtL_get _ _ _ _ _ _ hi, hh i hi])
      have HBE := hid_of hBB
      clear hS hO hh hR hne hBB
      go_wp2_with fail
      refine bodyPost_ret (v := .tuple #[.string (strOfNums (filtL 3 (bts row) (bts above) unit row.size)), .bool true]) ?_ rfl ⟨rfl, HBE.out⟩
      simp [results, Try.results13, go_sem]
set_option maxRecDepth 100000 in
set_option maxHeartbeats 3200000 in
theorem implFilter_4 (row above : ByteArray) (unit : Nat) (w : World) (h : FiltR 4 row above (unit : Int)) :
    Calls Try.prog 13 #[.int .i64 4, .string row, .string above, .int .i64 (unit : Int)] w fun e w' => e = .returned (.tuple #[.string (filtT 4 row above unit), .bool true]) ∧ Below w.heap.size w w' := by
  have hcan := fun W => canFilter_any row above (unit : Int) W
  rw [decide_eq_true (h.kind (j := 0) (by omega))] at hcan
  obtain ⟨-, hu, hs, hn⟩ := h
  have hu' : 1 ≤ unit ∧ unit ≤ 8 := by omega
  have HS0 := hid_of hs
  have ha : above.size ≤ 200 := by omega
  clear hs
  go_enter Try.func13, Try.ntmps13
  go_wp2_with fail
  refine (kinds_any _).mono ?_
  rintro e w1 ⟨rfl, hm, hB1⟩
  have lk : (Instr.lookup 45 (.map (some w.heap.size)) (.int .i64 4) true).run Try.prog w1 = .ok (.tuple #[fnV 41, .bool true]) w1 := kind_look hm 4 (by omega)
  have HB1 := hid_of hB1
  clear hm hB1
  go_wp2_with fail
  refine (hcan _).mono ?_
  rintro e w2 ⟨rfl, rfl⟩
  clear hcan lk
  obtain ⟨W7, cz, hcv, hO7, hB7⟩ := bown_of_text w2 row (by omega)
  have hmk := make_bytes12 W7 row.size (by omega)
  have H0 : Hid (FltI w (W7.alloc (.cells (madeCells #[Value.int .u8 0] row.size) 5)) W7.heap.size w2.heap.size cz row (filtB 4 (bts row) (bts above) unit) 0) :=
    ⟨fun _ => 0, BFn.made (base := w.heap.size) W7 row.size (by unfold maxLen; omega) (Nat.le_trans HB1.out.size hB7.size), fun i hi => absurd hi (Nat.not_lt_zero i), ⟨hO7.1, (Own.mono hO7.2 HB1.out.size).alloc _⟩, hO7.lt, bal (bnext HB1.out hB7) _⟩
  clear hO7 hB7
  generalize w2.heap.size = GB at hcv H0
  generalize W7.alloc (.cells (madeCells #[Value.int .u8 0] row.size) 5) = w3 at hmk H0
  generalize W7.heap.size = G at hmk H0
  go_wp2_with fail
  go_loopw [37] (fun i w' => ∃ j : Nat, j ≤ row.size ∧ i = .int .i64 (j : Int) ∧ Hid (FltI w w' G GB cz row (filtB 4 (bts row) (bts above) unit) j)) (fun i _ => row.size - (intOf i).toNat)
  case atStart => exact ⟨0, Nat.zero_le _, rfl, H0⟩
  case round =>
    clear H0 hmk hcv
    obtain ⟨j, hj, rfl, hS⟩ := hrel
    by_cases hlt : j < row.size
    · have hal : j < above.size := by rw [← HS0.out]; exact hlt
      obtain ⟨h, hO, hh, hR, hne, hBB⟩ := hS.out
      have cb := hR.cell j hlt
      rw [bts_of13 _ _ hlt] at cb
      have hbl := hR.lt
      have hrow : unit ≤ j → ∃ g, (some ⟨GB, 0, none⟩ : Option Addr) = some ⟨g, 0, none⟩ ∧ j - unit < row.size ∧ g < wr.drew.heap.size ∧ wr.drew.cell? ⟨g, j - unit, none⟩ = some (.int .u8 (bts row (j - unit))) := fun _ => by
        refine ⟨_, rfl, by omega, hbl, ?_⟩
        rw [← bts_of13 row _ (by omega)]
        exact hR.cell (j - unit) (by omega)
      have hbes := beside_any (some ⟨GB, 0, none⟩) row.size cz (bts row) above unit j wr.drew hu' hal ha (bts_byte row) hrow
      have gl : G < wr.heap.size := Own.lt hO
      have HC : Hid (∀ w', Below wr.heap.size wr w' → w'.cell? ⟨G, j, none⟩ = some (.int .u8 (h j)) ∧ w'.frozen? ⟨G, j, none⟩ = false ∧ G < w'.heap.size) := fun w' hb => ⟨((bcell hb).1 _ _ gl).trans (hO.cell j hlt), ((bcell hb).2 _ _ gl).trans (hO.free j hlt), Nat.lt_of_lt_of_le gl hb.size⟩
      have hGne : ¬ GB = G := by omega
      obtain ⟨X, hX⟩ : ∃ X, X = bts row j := ⟨_, rfl⟩
      have hX0 : 0 ≤ X ∧ X < 256 := by rw [hX]; exact bts_byte row j
      rw [← hX] at cb
      clear hh hR hBB hO hrow hne
      obtain ⟨L, hL⟩ : ∃ L, L = aheadB (bts row) unit j := ⟨_, rfl⟩
      obtain ⟨U, hU⟩ : ∃ U, U = bts above j := ⟨_, rfl⟩
      obtain ⟨C, hC⟩ : ∃ C, C = aheadB (bts above) unit j := ⟨_, rfl⟩
      rw [← hL, ← hU, ← hC] at hbes
      have hL0 : 0 ≤ L ∧ L < 256 := by rw [hL]; exact ahead_byte (bts_byte row) _ _
      have hU0 : 0 ≤ U ∧ U < 256 := by rw [hU]; exact bts_byte above j
      have hC0 : 0 ≤ C ∧ C < 256 := by rw [hC]; exact ahead_byte (bts_byte above) _ _
      have hkd := fun W => nearest_any L U C W hL0 hU0 hC0
      have HY : Hid (told 4 L U C = says 4 (bts row) (bts above) unit j) := by
        show _ = _
        unfold says
        rw [hL, hU, hC]
      obtain ⟨Y, hY⟩ : ∃ Y, Y = told 4 L U C := ⟨_, rfl⟩
      have hY0 : 0 ≤ Y ∧ Y < 256 := by rw [hY]; exact told_byte 4 hL0 hU0 hC0
      rw [← hY] at hkd HY
      obtain ⟨Z, hZ⟩ : ∃ Z, Z = (X + 256 - Y) % 256 := ⟨_, rfl⟩
      have hZ0 : 0 ≤ Z ∧ Z < 256 := by omega
      have u8w : IntKind.u8.wrap (X - Y) = Z := by show (X - Y) % 256 = Z; omega
      have HN : Hid (Z = filtB 4 (bts row) (bts above) unit j) := by
        show Z = _
        unfold filtB
        rw [← HY.out, ← hX, hZ]
      have u8y : IntKind.u8.wrap Y = Y := by show Y % 256 = Y; omega
      have dl : decide ((j : Int) < (row.size : Int)) = true := decide_eq_true (by omega)
      clear hX hY hZ hL hU hC
      go_wp2_with fail
      refine wp_region_held (S := fun u => u.cell? ⟨GB, j, none⟩ = some (.int .u8 X) ∧ GB < u.heap.size) (by kernel_rfl) ?_
      show wpAnyH _ _ _ _ _ _ _ _ wr.drew
      have HS : wr.drew.cell? ⟨GB, j, none⟩ = some (.int .u8 X) ∧ GB < wr.drew.heap.size := ⟨cb, hbl⟩
      refine wpAnyH_take (i := 0) (v := .slice (some ⟨G, 0, none⟩) row.size row.size) rfl (by kernel_rfl) (by kernel_rfl) (by kernel_rfl) (fun _ _ _ h => h) (Or.inl ⟨by rfl, ?_⟩) HS ?_
      · intro w' hS
        obtain ⟨s0, s1⟩ := hS
        go_simp
      simp only [Act.put, List.getElem_toArray, List.getElem_cons_zero, List.setIfInBounds_toArray, List.set_cons_zero, List.set_cons_succ]
      refine wpAnyH_take (i := 1) (v := .int .i64 (j : Int)) rfl (by kernel_rfl) (by kernel_rfl) (by kernel_rfl) (fun _ _ _ h => h) (Or.inl ⟨by rfl, ?_⟩) HS ?_
      · intro w' hS
        obtain ⟨s0, s1⟩ := hS
        go_simp
      simp only [Act.put, List.getElem_toArray, List.getElem_cons_zero, List.getElem_cons_succ, List.setIfInBounds_toArray, List.set_cons_zero, List.set_cons_succ]
      refine wpAnyH_take (i := 2) (v := .slice (some ⟨GB, 0, none⟩) row.size cz) rfl (by kernel_rfl) (by kernel_rfl) (by kernel_rfl) (fun _ _ _ h => h) (Or.inl ⟨by rfl, ?_⟩) HS ?_
      · intro w' hS
        obtain ⟨s0, s1⟩ := hS
        go_simp
      simp only [Act.put, List.getElem_toArray, List.getElem_cons_zero, List.getElem_cons_succ, List.setIfInBounds_toArray, List.set_cons_zero, List.set_cons_succ]
      refine wpAnyH_take (i := 3) (v := .int .i64 (j : Int)) rfl (by kernel_rfl) (by kernel_rfl) (by kernel_rfl) (fun _ _ _ h => h) (Or.inl ⟨by rfl, ?_⟩) HS ?_
      · intro w' hS
        obtain ⟨s0, s1⟩ := hS
        go_simp
      simp only [Act.put, List.getElem_toArray, List.getElem_cons_zero, List.getElem_cons_succ, List.setIfInBounds_toArray, List.set_cons_zero, List.set_cons_succ]
      refine wpAnyH_take (i := 4) (v := .pointer (some ⟨GB, j, none⟩)) rfl (by kernel_rfl) (by kernel_rfl) (by kernel_rfl) (fun _ _ _ h => h) (Or.inl ⟨by rfl, ?_⟩) HS ?_
      · intro w' hS
        obtain ⟨s0, s1⟩ := hS
        go_simp
      simp only [Act.put, List.getElem_toArray, List.getElem_cons_zero, List.getElem_cons_succ, List.setIfInBounds_toArray, List.set_cons_zero, List.set_cons_succ]
      refine wpAnyH_take (i := 5) (v := .int .u8 X) rfl (by kernel_rfl) (by kernel_rfl) (by kernel_rfl) (fun _ _ _ h => h) (Or.inl ⟨by rfl, ?_⟩) HS ?_
      · intro w' hS
        obtain ⟨s0, s1⟩ := hS
        go_simp
      simp only [Act.put, List.getElem_toArray, List.getElem_cons_zero, List.getElem_cons_succ, List.setIfInBounds_toArray, List.set_cons_zero, List.set_cons_succ]
      refine wpAnyH_take (i := 6) (v := fnV 41) rfl (by kernel_rfl) (by kernel_rfl) (by kernel_rfl) (fun _ _ _ h => h) (Or.inl ⟨by rfl, ?_⟩) HS ?_
      · intro w' hS
        obtain ⟨s0, s1⟩ := hS
        go_simp
      simp only [Act.put, List.getElem_toArray, List.getElem_cons_zero, List.getElem_cons_succ, List.setIfInBounds_toArray, List.set_cons_zero, List.set_cons_succ]
      refine wpAnyH_take (i := 7) (v := .slice (some ⟨GB, 0, none⟩) row.size cz) rfl (by kernel_rfl) (by kernel_rfl) (by kernel_rfl) (fun _ _ _ h => h) (Or.inl ⟨by rfl, ?_⟩) HS ?_
      · intro w' hS
        obtain ⟨s0, s1⟩ := hS
        go_simp
      simp only [Act.put, List.getElem_toArray, List.getElem_cons_zero, List.getElem_cons_succ, List.setIfInBounds_toArray, List.set_cons_zero, List.set_cons_succ]
      refine wpAnyH_take (i := 8) (v := .string above) rfl (by kernel_rfl) (by kernel_rfl) (by kernel_rfl) (fun _ _ _ h => h) (Or.inl ⟨by rfl, ?_⟩) HS ?_
      · intro w' hS
        obtain ⟨s0, s1⟩ := hS
        go_simp
      simp only [Act.put, List.getElem_toArray, List.getElem_cons_zero, List.getElem_cons_succ, List.setIfInBounds_toArray, List.set_cons_zero, List.set_cons_succ]
      refine wpAnyH_take (i := 9) (v := .int .i64 (j : Int)) rfl (by kernel_rfl) (by kernel_rfl) (by kernel_rfl) (fun _ _ _ h => h) (Or.inl ⟨by rfl, ?_⟩) HS ?_
      · intro w' hS
        obtain ⟨s0, s1⟩ := hS
        go_simp
      simp only [Act.put, List.getElem_toArray, List.getElem_cons_zero, List.getElem_cons_succ, List.setIfInBounds_toArray, List.set_cons_zero, List.set_cons_succ]
      refine wpAnyH_take (i := 10) (v := .int .i64 (unit : Int)) rfl (by kernel_rfl) (by kernel_rfl) (by kernel_rfl) (fun _ _ _ h => h) (Or.inl ⟨by rfl, ?_⟩) HS ?_
      · intro w' hS
        obtain ⟨s0, s1⟩ := hS
        go_simp
      simp only [Act.put, List.getElem_toArray, List.getElem_cons_zero, List.getElem_cons_succ, List.setIfInBounds_toArray, List.set_cons_zero, List.set_cons_succ]
      refine wpAnyH_ready (rs := [11]) (by kernel_rfl) (by simp) ?_
      refine AllReadyH.cons rfl (fun K hK => ?_) AllReadyH.nil
      refine if_wanted (wanted_none rfl) ?_
      simp only [List.getElem_toArray, List.getElem_cons_zero, List.getElem_cons_succ]
      go_simp
      refine hbes.mono ?_
      rintro e w4 ⟨rfl, hB4⟩
      have HB4 : Hid (Below wr.heap.size wr w4) := ⟨hB4.1, hB4.2, hB4.3, hB4.4, hB4.5⟩
      have cb4 : w4.cell? ⟨GB, j, none⟩ = some (.int .u8 X) := ((bcell HB4.out).1 _ _ hbl).trans cb
      have hb4 : GB < w4.heap.size := Nat.lt_of_lt_of_le hbl HB4.out.size
      clear hB4 hbes HS
      refine hK.out _ _ ⟨cb4, hb4⟩ (fun HS => ?_)
      clear hK K
      refine wpAnyH_ready (rs := [12]) (by kernel_rfl) (by simp) ?_
      refine AllReadyH.cons rfl (fun K hK => ?_) AllReadyH.nil
      refine if_wanted (wanted_none rfl) ?_
      simp only [List.getElem_toArray, List.getElem_cons_zero, List.getElem_cons_succ]
      go_simp
      refine (hkd _).mono ?_
      rintro e w5 ⟨rfl, hB5⟩
      have HB5 : Hid (Below wr.heap.size wr w5) := bnext HB4.out hB5
      have cb5 : w5.cell? ⟨GB, j, none⟩ = some (.int .u8 X) := ((bcell HB5.out).1 _ _ hbl).trans cb
      have hb5 : GB < w5.heap.size := Nat.lt_of_lt_of_le hbl HB5.out.size
      clear hB5 hkd HB4 HS cb4 hb4
      refine hK.out _ _ ⟨cb5, hb5⟩ (fun HS => ?_)
      clear hK K
      refine wpAnyH_take (i := 13) (v := .int .u8 Y) rfl (by kernel_rfl) (by kernel_rfl) (by kernel_rfl) (fun _ _ _ h => h) (Or.inl ⟨by rfl, ?_⟩) HS ?_
      · intro w' hS
        obtain ⟨s0, s1⟩ := hS
        go_simp
      simp only [Act.put, List.getElem_toArray, List.getElem_cons_zero, List.getElem_cons_succ, List.setIfInBounds_toArray, List.set_cons_zero, List.set_cons_succ]
      refine wpAnyH_take (i := 14) (v := .int .u8 Z) rfl (by kernel_rfl) (by kernel_rfl) (by kernel_rfl) (fun _ _ _ h => h) (Or.inl ⟨by rfl, ?_⟩) HS ?_
      · intro w' hS
        obtain ⟨s0, s1⟩ := hS
        go_simp
      simp only [Act.put, List.getElem_toArray, List.getElem_cons_zero, List.getElem_cons_succ, List.setIfInBounds_toArray, List.set_cons_zero, List.set_cons_succ]
      refine wpAnyH_take (i := 15) (v := .pointer (some ⟨G, j, none⟩)) rfl (by kernel_rfl) (by kernel_rfl) (by kernel_rfl) (fun _ _ _ h => h) (Or.inl ⟨by rfl, ?_⟩) HS ?_
      · intro w' hS
        obtain ⟨s0, s1⟩ := hS
        go_simp
      simp only [Act.put, List.getElem_toArray, List.getElem_cons_zero, List.getElem_cons_succ, List.setIfInBounds_toArray, List.set_cons_zero, List.set_cons_succ]
      obtain ⟨g1, g2, g3⟩ := HC.out w5 HB5.out
      refine wpAnyH_ready (rs := [16]) (by kernel_rfl) (by simp) ?_
      refine AllReadyH.cons rfl (fun K hK => ?_) AllReadyH.nil
      refine if_wanted (wanted_none rfl) ?_
      simp only [List.getElem_toArray, List.getElem_cons_zero, List.getElem_cons_succ]
      go_simp
      refine hK.out _ _ ⟨by rw [World.cell?_setCell_other _ _ _ _ (by intro e; cases e; exact hGne rfl)]; exact cb5, by simp; exact hb5⟩ (fun _ => ?_)
      clear hK K
      refine wpAnyH_done (by kernel_rfl) ?_ _
      go_wp2_with fail
      go_roundw
      case rel => exact ⟨j + 1, by omega, by go_num, fltI_next hS.out hlt HB5.out HN.out⟩
      case measure => simp [intOf]; omega
    · obtain rfl : j = row.size := by omega
      have dl : decide ((row.size : Int) < (row.size : Int)) = false := decide_eq_false (by omega)
      obtain ⟨h, hO, hh, hR, hne, hBB⟩ := hS.out
      have hcv := hO.text (filtL 4 (bts row) (bts above) unit row.size) (filtL_length _ _ _ _ _) (fun i hi => by rw [filtL_get _ _ _ _ _ _ hi, hh i hi])
      have HBE := hid_of hBB
      clear hS hO hh hR hne hBB
      go_wp2_with fail
      refine bodyPost_ret (v := .tuple #[.string (strOfNums (filtL 4 (bts row) (bts above) unit row.size)), .bool true]) ?_ rfl ⟨rfl, HBE.out⟩
      simp [results, Try.results13, go_sem]
theorem implFilter_kind (k : Int) (row above : ByteArray) (unit : Int) (w : World) (hw : (Lit.int .i64 k).wf = true) (h : ¬ (0 ≤ k ∧ k ≤ 4)) :
    Calls Try.prog 13 #[.int .i64 k, .string row, .string above, .int .i64 unit] w fun e w' => e = .returned (.tuple #[.string ⟨#[]⟩, .bool false]) ∧ Below w.heap.size w w' := by
  go_enter Try.func13, Try.ntmps13
  go_wp2_with fail
  refine (kinds_any _).mono ?_
  rintro e w1 ⟨rfl, hm, hB1⟩
  have lk := kind_none hm k hw h
  have HB1 := hid_of hB1
  clear hm hB1
  go_wp2_with fail
  refine bodyPost_ret (v := .tuple #[.string ⟨#[]⟩, .bool false]) ?_ rfl ⟨rfl, HB1.out⟩
  simp [results, Try.results13, go_sem]
theorem implFilter_can (k : Int) (row above : ByteArray) (unit : Int) (w : World) (hk : 0 ≤ k ∧ k ≤ 4) (h : ¬ FiltR 0 row above unit) :
    Calls Try.prog 13 #[.int .i64 k, .string row, .string above, .int .i64 unit] w fun e w' => e = .returned (.tuple #[.string ⟨#[]⟩, .bool false]) ∧ Below w.heap.size w w' := by
  have hcan := fun W => canFilter_any row above unit W
  rw [decide_eq_false h] at hcan
  clear h
  go_enter Try.func13, Try.ntmps13
  go_wp2_with fail
  refine (kinds_any _).mono ?_
  rintro e w1 ⟨rfl, hm, hB1⟩
  have lk := kind_look hm k hk
  have HB1 := hid_of hB1
  clear hm hB1
  go_wp2_with fail
  refine (hcan _).mono ?_
  rintro e w2 ⟨rfl, rfl⟩
  go_wp2_with fail
  refine bodyPost_ret (v := .tuple #[.string ⟨#[]⟩, .bool false]) ?_ rfl ⟨rfl, HB1.out⟩
  simp [results, Try.results13, go_sem]
theorem filter_answer : FilterAnswer := by
  intro k row above unit w hk hu h1 h2
  unfold filtV
  by_cases h : FiltR k row above unit
  · rw [if_pos h, decide_eq_true h]
    obtain ⟨u, rfl⟩ : ∃ u : Nat, unit = (u : Int) := ⟨unit.toNat, by have := h.2.1; omega⟩
    obtain rfl | rfl | rfl | rfl | rfl : k = 0 ∨ k = 1 ∨ k = 2 ∨ k = 3 ∨ k = 4 := by have := h.1; omega
    · exact implFilter_0 row above u w h
    · exact implFilter_1 row above u w h
    · exact implFilter_2 row above u w h
    · exact implFilter_3 row above u w h
    · exact implFilter_4 row above u w h
  · rw [if_neg h, decide_eq_false h]
    by_cases hq : 0 ≤ k ∧ k ≤ 4
    · exact implFilter_can k row above unit w hq (fun hc => h (hc.kind hq))
    · exact implFilter_kind k row above unit w hk hq
end Go.Proofs.Ytccjjpdhojmcgaa
