/-
  The program's Inflate and BlockTypes, where they end well.
  The walk of the laws' sameInts, of two lists that are the same.
  The walk of the law FnBlocks, over what the program's functions answer.
-/
import Derived.Test.YtbcnlggkoidmmaaGreatDoorQk28
import Derived.Test.YtbcnlggkoidmmaaGreatDoorQk23
import Derived.Test.YtbcnlggkoidmmaaGreatDoorRows
import Derived.Test.YtbcnlggkoidmmaaGreatDoorQk01
import Derived.Test.YtbcnlggkoidmmaaGreatDoorQk07
import Derived.Test.YtbcnlggkoidmmaaGreatDoorQk02
import Derived.Test.YtbcnlggkoidmmaaGreatDoorQk03
import Derived.Test.YtbcnlggkoidmmaaGreatDoorQk04
import Derived.Test.YtbcnlggkoidmmaaGreatDoorQk10
import Derived.Test.YtbcnlggkoidmmaaGreatDoorQk12
import Derived.WalkKit
import Derived.ProofKit
import Derived.WalkLawsBesides
import Derived.RegionTactic
import Derived.Deep.RegionWith
import Derived.Deep.RegionHeld3
import Derived.Below
import Derived.Lib.SmallJoins
import Derived.Deep.QuietTactic
import Derived.Deep.LoopGhost
namespace Go.Proofs.YtbcnlggkoidmmaaGreatDoor
open Go.RowKit Go.Joins OutMath TokMath InfMath

theorem inflateP_ok {s : ByteArray} {most : Int} {r : List Int × Nat × List Int} (h : inflateE s most = .ok r) : inflateP s most = .ok r := by
  rcases inflate_alike s most with ⟨r', h1, h2⟩ | ⟨c, c', _, h2⟩
  · rw [h] at h2
    cases h2
    exact h1
  · rw [h] at h2
    cases h2
set_option maxRecDepth 100000 in
set_option maxHeartbeats 3200000 in
theorem implInflate_ok (s : ByteArray) (most : Int) (O : List Int) (p : Nat) (Ty : List Int) (w : World) (hs : s.size ≤ 12000) (hG : OrderG w) (h : inflateE s most = .ok (O, p, Ty)) :
    Calls Tryz.prog 13 #[.string s, .int .i64 most] w fun e w' => e = .returned (.tuple #[.string (strOfNums O), .int .i64 (((p + 7) / 8 : Nat) : Int), .int .i64 0]) ∧ Below w.heap.size w w' := by
  have hi := inflated_any s most w (by omega) hG
  rw [inflateP_ok h] at hi
  go_enter Tryz.func13, Tryz.ntmps13
  go_wp2_with fail
  refine hi.mono ?_
  clear hi
  rintro e w1 ⟨hB, ⟨O', p', Ty', fb, rb, vo, vt, n, hr, hp, hT, hsz, hmo, rfl, hps⟩ | ⟨c, hr, rfl⟩⟩
  · cases hr
    have hcs := hps.1.cells
    have hrd := hps.2.1
    have hl := hps.ltf
    have hlr := hps.ltr
    have hcv := or_text hps.2.2.1 w1.drew (fun g _ => rfl)
    have HBB := hid_of hB
    obtain ⟨av, cv, hv⟩ := hps.2.2.1.form
    subst hv
    have HBF : Hid (∀ W : World, Calls Tryz.prog 41 #[.int .i64 (p : Int)] W fun e w' => e = .returned (.int .i64 (((p + 7) / 8 : Nat) : Int)) ∧ w' = W) := fun W => by
      have hb := bytesFor_any (p : Int) W (by omega) (by omega)
      rw [show ((p : Int) + 7) / 8 = (((p + 7) / 8 : Nat) : Int) by omega] at hb
      exact hb
    obtain ⟨c0, c1, _, _⟩ := hcs
    have d1 : w1.cell? ⟨rb, 1, none⟩ = some (.int .i64 (p : Int)) := hrd.c1
    clear hps hB hrd
    go_wp2_with fail
    go_region_with (go_at_call 41; refine (HBF.out _).mono ?_; rintro e w' ⟨rfl, rfl⟩)
    all_goals
      go_wp2_with fail
      refine bodyPost_ret (v := .tuple #[.string (strOfNums O), .int .i64 (((p + 7) / 8 : Nat) : Int), .int .i64 0]) ?_ rfl ⟨rfl, ?_⟩
      · simp [results, Tryz.results13, go_sem]
      · first | exact HBB.out | exact HBB.out.drew
  · cases hr
/-- The types of a text that is unpacked. -/
theorem implTypes_ok (s : ByteArray) (most : Int) (O : List Int) (p : Nat) (Ty : List Int) (w : World) (hs : s.size ≤ 12000) (hG : OrderG w) (h : inflateE s most = .ok (O, p, Ty)) :
    Calls Tryz.prog 14 #[.string s, .int .i64 most] w fun e w' => ∃ a c, e = .returned (.tuple #[.slice a Ty.length c, .bool true]) ∧ NumRow w' w.heap.size (.slice a Ty.length c) Ty ∧ Below w.heap.size w w' := by
  refine (implTypes_any s most w (by omega) hG).mono ?_
  rw [inflateP_ok h]
  rintro e w' ⟨hB, ⟨O', p', Ty', a, c, hr, _, rfl, hN⟩ | ⟨c, a, k, hr, _⟩⟩
  · cases hr
    exact ⟨a, c, rfl, hN, hB⟩
  · cases hr
end Go.Proofs.YtbcnlggkoidmmaaGreatDoor

namespace Go.Proofs.YtbcnlggkoidmmaaGreatDoor
open Go.RowKit Go.Joins

set_option maxHeartbeats 800000 in
theorem sameInts_same (a b : Option Addr) (n c1 c2 : Nat) (f : Nat → Int) (w : World) (ha : Came w a n f) (hb : Came w b n f) (hn : n ≤ 1048576) :
    Calls Tryz.prog 15 #[.slice a n c1, .slice b n c2] w fun e w' => e = .returned (.bool true) ∧ Below w.heap.size w w' := by
  have HA : Hid (Came w a n f) := ha
  have HB : Hid (Came w b n f) := hb
  clear ha hb
  go_enter Tryz.func15, Tryz.ntmps15
  go_wp2_with fail
  go_loopw [5] (fun i w' => ∃ (j : Nat), j ≤ n ∧ i = .int .i64 j ∧ Hid (Below w.heap.size w w')) (fun i _ => n - (intOf i).toNat)
  case atStart => exact ⟨0, Nat.zero_le _, rfl, Below.refl _ _⟩
  case round =>
    obtain ⟨j, hj, rfl, hBj⟩ := hrel
    by_cases hlt : j < n
    · rcases HA.out with h0 | ⟨g, off, rfl, hg, hc⟩
      · omega
      · rcases HB.out with h0 | ⟨g', off', rfl, hg', hc'⟩
        · omega
        · have k0 : wr.cell? ⟨g, off + j, none⟩ = some (.int .i64 (f j)) := (hBj.out.cell (p := ⟨g, off + j, none⟩) hg).trans (hc j hlt)
          have k1 : wr.cell? ⟨g', off' + j, none⟩ = some (.int .i64 (f j)) := (hBj.out.cell (p := ⟨g', off' + j, none⟩) hg').trans (hc' j hlt)
          have l0 : g < wr.heap.size := Nat.lt_of_lt_of_le hg hBj.out.size
          have l1 : g' < wr.heap.size := Nat.lt_of_lt_of_le hg' hBj.out.size
          clear hc hc'
          go_wp2_with fail
          go_region
          all_goals
            go_wp2_with fail
            go_roundw
            case rel => exact ⟨j + 1, by omega, by go_num, hBj.out.drew⟩
            case measure => simp [intOf]; omega
    · go_wp2_with fail
      go_ret
      exact ⟨rfl, hBj.out⟩

end Go.Proofs.YtbcnlggkoidmmaaGreatDoor

namespace Go.Proofs.YtbcnlggkoidmmaaGreatDoor
open Go.RowKit Go.Joins OutMath TokMath TrimMath InfMath BlockMath StandMath

/-- Tokens cut in two: both parts, what they make. -/
theorem run_cut {L : List Tok} {F : List Int} (h : run [] L = some F) (m : Nat) : ∃ A M, run [] (L.take m) = some A ∧ run A (L.drop m) = some (A ++ M) ∧ F = A ++ M := by
  rw [← List.take_append_drop m L, run_app] at h
  cases hA : run [] (L.take m) with
  | none => rw [hA] at h; cases h
  | some A =>
    rw [hA] at h
    have h1 : run A (L.drop m) = some F := h
    obtain ⟨M, e, _⟩ := run_grow h1
    exact ⟨A, M, rfl, by rw [← e]; exact h1, e⟩
theorem run_bytes8 : ∀ {L : List Tok} {O F : List Int}, Bytes O → run O L = some F → Bytes F
  | [], _, _, hO, h => by cases h; exact hO
  | t :: R, O, F, hO, h => by
    unfold run at h
    split at h
    · rename_i q
      exact run_bytes8 (app_bytes q.1 hO) h
    · cases h
theorem tcame_take8 {w : World} {L : List Tok} {a : Option Addr} (h : TCame w a L.length (fun j => L.getD j (0, 0, 0))) {k : Nat} (hk : k ≤ L.length) : TCame w a (L.take k).length (fun j => (L.take k).getD j (0, 0, 0)) := by
  have hl : (L.take k).length = k := by rw [List.length_take]; omega
  rw [hl]
  refine (h.shorter hk).congr (fun j hj => ?_)
  rw [List.getD_eq_getElem?_getD, List.getD_eq_getElem?_getD, List.getElem?_take, if_pos hj]
theorem tcame_drop8 {w : World} {L : List Tok} {g off : Nat} (h : TCame w (some ⟨g, off, none⟩) L.length (fun j => L.getD j (0, 0, 0))) {k : Nat} (hk : k ≤ L.length) : TCame w (some ⟨g, off + k * 3, none⟩) (L.drop k).length (fun j => (L.drop k).getD j (0, 0, 0)) := by
  have hl : (L.drop k).length = L.length - k := List.length_drop
  rw [hl]
  refine (h.part (m := L.length - k) (k := k) (by omega)).congr (fun j hj => ?_)
  rw [List.getD_eq_getElem?_getD, List.getD_eq_getElem?_getD, List.getElem?_drop]
theorem str_app8 (A B : List Int) : strOfNums A ++ strOfNums B = strOfNums (A ++ B) := by
  apply ByteArray.ext
  rw [ByteArray.data_append]
  unfold strOfNums
  simp
/-- The ring's boxes: the Out so far, both types. -/
def FbS (w4 X : World) (k1 k2 : Nat) (os : ByteArray) (oc : Nat) : Prop := Below w4.heap.size w4 X ∧ X.heap[w4.heap.size]? = some (.cells #[.string os, .int .i64 (oc : Int)] 31 (0, 0)) ∧ X.heap[w4.heap.size + 1]? = some (.cells #[.int .i64 (k1 : Int), .int .i64 (k2 : Int)] 3 (0, 0))
theorem FbS.called {w4 X Y : World} {k1 k2 oc : Nat} {os : ByteArray} (h : FbS w4 X k1 k2 os oc) (hb : Below X.heap.size X Y) : FbS w4 Y k1 k2 os oc := ⟨bnext h.1 hb, (hb.block _ (block_lt h.2.1)).trans h.2.1, (hb.block _ (block_lt h.2.2)).trans h.2.2⟩
theorem FbS.put {w4 X : World} {k1 k2 oc : Nat} {os : ByteArray} (h : FbS w4 X k1 k2 os oc) {rb : Nat} (hr : w4.heap.size + 2 ≤ rb) (u v : Value) (s' : ByteArray) (c' : Nat) : FbS w4 ((((X.setCell ⟨rb, 0, none⟩ u).setCell ⟨rb, 1, none⟩ v).setCell ⟨w4.heap.size, 0, none⟩ (.string s')).setCell ⟨w4.heap.size, 1, none⟩ (.int .i64 (c' : Int))) k1 k2 s' c' := by
  have e : ∀ g, g < w4.heap.size + 2 → ((X.setCell ⟨rb, 0, none⟩ u).setCell ⟨rb, 1, none⟩ v).heap[g]? = X.heap[g]? := fun g hg => (Below.heap_setCell _ _ _ _ (by show g ≠ rb; omega)).trans (Below.heap_setCell _ _ _ _ (by show g ≠ rb; omega))
  refine ⟨two_below (two_below h.1 (by omega) _ _) (Nat.le_refl _) _ _, two_set ((e _ (by omega)).trans h.2.1) _ _, ?_⟩
  exact (Below.heap_setCell _ _ _ _ (by show w4.heap.size + 1 ≠ w4.heap.size; omega)).trans ((Below.heap_setCell _ _ _ _ (by show w4.heap.size + 1 ≠ w4.heap.size; omega)).trans ((e _ (by omega)).trans h.2.2))
theorem blk_some {kind : Nat} {s : ByteArray} {c : Nat} {t : ByteArray} {L : List Tok} {last : Bool} (hk : kind ≤ 2) (ho : outB s (c : Int) = true) (hc : c ≤ 50000) (hR : TokensRight L) (h40 : L.length ≤ 40) (ht : kind = 0 → t.size ≤ 2600) : ∃ o, blkOut kind s c t L last = some o ∧ outB o.1 (o.2 : Int) = true ∧ o.2 ≤ c + 30003 := by
  have hb := blkBits_len (kind := kind) (p := c + 3) (t := t) hR h40 ht
  have hl : (headBits kind last ++ blkBits kind (c + 3) t L).length ≤ 30003 := by rw [List.length_append, headBits_length]; omega
  have e := blkOut_bits (last := last) hk ho hR ht
  have hs := BlockMath.bitsOut_some (bs := headBits kind last ++ blkBits kind (c + 3) t L) ho (by omega)
  have hr := BlockMath.bitsOut_right hs ((headBits_01 _ _).append (blkBits_01 _ _ _ _))
  exact ⟨_, e.trans hs, hr.1, by have := hr.2.1; simp only [] at this ⊢; omega⟩
/-- What stands in the Out ahead of each round. -/
def StF (BK0 BK1 : ByteArray → Nat → Option (ByteArray × Nat)) (i : Nat) (os : ByteArray) (oc : Nat) : Prop :=
  if i = 0 then os = ⟨#[]⟩ ∧ oc = 0 else if i = 1 then BK0 ⟨#[]⟩ 0 = some (os, oc) else ∃ o1, BK0 ⟨#[]⟩ 0 = some o1 ∧ BK1 o1.1 o1.2 = some (os, oc)
theorem blk_small {kind : Nat} {s : ByteArray} {c : Int} {t : ByteArray} {L : List Tok} {last : Bool} {o : ByteArray × Nat} (h : blkOut kind s c t L last = some o) : kind = 0 → t.size ≤ 2600 := by
  rintro rfl
  have h' : storedOut s c t last = some o := h
  unfold storedOut at h'
  split at h'
  · assumption
  · cases h'
theorem blk_none {kind : Nat} {s : ByteArray} {c : Nat} {t : ByteArray} {L : List Tok} {last : Bool} (hk : kind ≤ 2) (ho : outB s (c : Int) = true) (hc : c ≤ 50000) (hR : TokensRight L) (h40 : L.length ≤ 40) (h : blkOut kind s c t L last = none) : 2600 < t.size := by
  rcases Nat.lt_or_ge 2600 t.size with q | q
  · exact q
  · obtain ⟨o, e, _⟩ := blk_some (last := last) hk ho hc hR h40 (t := t) (fun _ => q)
    rw [h] at e
    cases e
end Go.Proofs.YtbcnlggkoidmmaaGreatDoor
