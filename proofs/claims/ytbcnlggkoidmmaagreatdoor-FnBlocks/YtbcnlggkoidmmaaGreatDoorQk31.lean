/-
  The walk of the program's numberPart.
  Bytes that a call made itself, by their numbers.
  The walks of the program's writer of bits.
  The walk of a code put by the program's writer.
  The walk of a number put by the program's writer.
-/
import Derived.Test.YtbcnlggkoidmmaaGreatDoorRows
import Derived.Test.YtbcnlggkoidmmaaGreatDoorQk01
import Derived.Test.YtbcnlggkoidmmaaGreatDoorQk04
import Derived.WalkKit
import Derived.ProofKit
import Derived.WalkLawsBesides
import Derived.Below
import Derived.Lib.SmallJoins
import Derived.RegionTactic
import Derived.BigRegion
import Derived.Deep.RegionWith
import Derived.Deep.DrawnRows
namespace Go.Proofs.YtbcnlggkoidmmaaGreatDoor
open Go.RowKit Go.Joins

set_option maxHeartbeats 400000 in
theorem numberPart_any (x n : Int) (w : World) :
    Calls Tryz.prog 32 #[.int .i64 x, .int .i64 n] w fun e w' => e = .returned (.agg #[.int .i64 x, .int .i64 n, .bool false]) ∧ Below w.heap.size w w' := by
  go_enter Tryz.func32, Tryz.ntmps32
  go_wp2_with fail
  refine bodyPost_ret (v := .agg #[.int .i64 x, .int .i64 n, .bool false]) ?_ rfl ⟨rfl, ?_⟩
  · simp [results, Tryz.results32, go_sem]
  · exact bstart _ _
end Go.Proofs.YtbcnlggkoidmmaaGreatDoor

namespace Go.Proofs.YtbcnlggkoidmmaaGreatDoor
open Go.RowKit Go.Joins OutMath PutMath

theorem info_u8 : (Tryz.prog.info? 5).map (fun i => (i.zero, i.size, i.bytes)) = some (some (.int .u8 0), 1, 1) := by kernel_rfl
theorem info_int : (Tryz.prog.info? 3).map (fun i => (i.zero, i.size, i.bytes)) = some (some (.int .i64 0), 1, 8) := by kernel_rfl

def u8s (xs : List Int) : List Value := xs.map (Value.int .u8)

theorem u8s_set (ys : List Int) (m : Nat) (z : Int) : (u8s ys).set m (.int .u8 z) = u8s (ys.set m z) := by unfold u8s; rw [List.map_set]
theorem u8s_snoc (ys : List Int) (z : Int) : u8s ys ++ [.int .u8 z] = u8s (ys ++ [z]) := by simp [u8s]
theorem u8s_length (ys : List Int) : (u8s ys).length = ys.length := by simp [u8s]
theorem own_u8 {e : TypeId} {w : World} {base g : Nat} {v : Value} {ys : List Int} (hO : Own e w base g v (u8s ys)) (m : Nat) (hm : m < ys.length) : w.cell? ⟨g, m, none⟩ = some (.int .u8 (ys.getD m 0)) ∧ w.frozen? ⟨g, m, none⟩ = false := by
  have h' : m < (u8s ys).length := by rw [u8s_length]; exact hm
  refine ⟨?_, hO.free m h'⟩
  rw [hO.cell m h']
  simp [u8s, hm]

/-- Behind the store of a bit. -/
theorem own_bstep {e : TypeId} {w : World} {base g : Nat} {v : Value} {ys : List Int} {k m : Nat} {y b : Int} (hO : Own e w base g v (u8s (pre ys k))) (hI : Inv ys k) (hm : k / 8 = m) (hy : y = (pre ys k).getD m 0) :
    Own e (w.setCell ⟨g, m, none⟩ (.int .u8 (y + b * p2 (k % 8)))).drew base g v (u8s (bstep ys k b)) := by
  subst hm hy
  have hl : k / 8 < (u8s (pre ys k)).length := by rw [u8s_length, pre_len hI]; omega
  have h := hO.set (k / 8) hl (.int .u8 ((pre ys k).getD (k / 8) 0 + b * p2 (k % 8)))
  rw [u8s_set] at h
  exact h.keep rfl

end Go.Proofs.YtbcnlggkoidmmaaGreatDoor

namespace Go.Proofs.YtbcnlggkoidmmaaGreatDoor
open Go.RowKit Go.Joins OutMath PutMath

/-- Block b is a writer: its bytes are xs, in block g; c bits were put. -/
def Wr (w : World) (base b g L cap : Nat) (xs : List Int) (c : Int) : Prop :=
  w.heap[b]? = some (.cells #[.slice (some ⟨g, 0, none⟩) L cap, .int .i64 c] 123 (0, 0)) ∧ Own 5 w base g (.slice (some ⟨g, 0, none⟩) L cap) (u8s xs) ∧ b ≠ g ∧ base ≤ b
section
variable {w : World} {base b g L cap : Nat} {xs : List Int} {c : Int}
theorem Wr.c0 (h : Wr w base b g L cap xs c) : w.cell? ⟨b, 0, none⟩ = some (.slice (some ⟨g, 0, none⟩) L cap) := cell_of_block h.1 0
theorem Wr.c1 (h : Wr w base b g L cap xs c) : w.cell? ⟨b, 1, none⟩ = some (.int .i64 c) := cell_of_block h.1 1
theorem Wr.f (h : Wr w base b g L cap xs c) (i : Nat) : w.frozen? ⟨b, i, none⟩ = false := unfrozen_of_block h.1 i
theorem Wr.len (h : Wr w base b g L cap xs c) : L = xs.length := by
  obtain ⟨cp, hv⟩ := h.2.1.form
  simp [u8s] at hv
  exact hv.1
theorem Wr.lt (h : Wr w base b g L cap xs c) : b < w.heap.size := by
  rcases Nat.lt_or_ge b w.heap.size with k | k
  · exact k
  · have := h.1; rw [Array.getElem?_eq_none k] at this; cases this
end

theorem bytes_u8s (s : ByteArray) : u8s (s.data.toList.map fun b => (b.toNat : Int)) = s.data.toList.map fun b => .int .u8 b.toNat := by simp [u8s]

set_option maxHeartbeats 400000 in
theorem newWriter (s : ByteArray) (c : Int) (w : World) (hs : s.size ≤ 12000) :
    Calls Tryz.prog 61 #[.agg #[.string s, .int .i64 c]] w fun e w' => ∃ b g cap, e = .returned (.pointer (some ⟨b, 0, none⟩)) ∧ Wr w' w.heap.size b g s.size cap (s.data.toList.map fun b => (b.toNat : Int)) c ∧ Below w.heap.size w w' := by
  have hcv := fun w' => run_bytes_of_string (P := Tryz.prog) w' 9 22 5 s Tryz.underlying9 Tryz.underlying22 Tryz.underlying5
  go_enter Tryz.func61, Tryz.ntmps61
  go_wp2
  go_ret
  have hO := own_of_bytes (base := w.heap.size) (w.alloc (.cells #[.string s, .int .i64 c] 31)) 5 s (by unfold maxLen; omega) (by simp)
  refine ⟨w.heap.size + 1 + 1, w.heap.size + 1, grownCap (w.alloc (.cells #[.string s, .int .i64 c] 31)) s.size 0 5, rfl, ⟨?_, ?_, by omega, by omega⟩, ?_⟩
  · show (((w.heap.push _).push _).push _)[w.heap.size + 1 + 1]? = _
    rw [Array.getElem?_push, if_pos (by simp)]
  · rw [bytes_u8s]
    have hO2 := hO.alloc (.cells #[.slice (some ⟨w.heap.size + 1, 0, none⟩) s.size (grownCap (w.alloc (.cells #[.string s, .int .i64 c] 31)) s.size 0 5), .int .i64 c] 123)
    rw [show (w.alloc (.cells #[.string s, .int .i64 c] 31)).heap.size = w.heap.size + 1 by simp] at hO2
    exact hO2.keep rfl
  · exact (bal (bal (bstart _ _) _) _).drew

theorem putWorld {w : World} {base b g m cap : Nat} {v : Value} {xs : List Int} {c : Nat} {y bit : Int}
    (hb : w.heap[b]? = some (.cells #[.slice (some ⟨g, 0, none⟩) (m + 1) cap, .int .i64 c] 123 (0, 0))) (hO : Own 5 w base g (.slice (some ⟨g, 0, none⟩) (m + 1) cap) (u8s (pre xs c))) (hne : b ≠ g) (hbase : base ≤ b) (hI : Inv xs c) (hm : c / 8 = m) (hy : y = (pre xs c).getD m 0) (hv : v = .int .u8 (y + bit * p2 (c % 8))) :
    Wr ((w.setCell ⟨g, m, none⟩ v).setCell ⟨b, 1, none⟩ (.int .i64 ((c : Int) + 1))).drew base b g (m + 1) cap (bstep xs c bit) ((c : Int) + 1) := by
  subst hv
  have h1 := own_bstep (b := bit) hO hI hm hy
  have hb1 : (w.setCell ⟨g, m, none⟩ (.int .u8 (y + bit * p2 (c % 8)))).heap[b]? = some (.cells #[.slice (some ⟨g, 0, none⟩) (m + 1) cap, .int .i64 c] 123 (0, 0)) := by
    rw [Below.heap_setCell w _ _ b (by simpa using hne)]; exact hb
  refine ⟨?_, ?_, hne, hbase⟩
  · have := block_setCell (i := 1) hb1 (.int .i64 ((c : Int) + 1))
    simp at this
    exact this
  · refine h1.keep ?_
    exact Below.heap_setCell (w.setCell ⟨g, m, none⟩ (.int .u8 (y + bit * p2 (c % 8)))) ⟨b, 1, none⟩ _ g (by simpa using Ne.symm hne)

set_option maxHeartbeats 800000 in
theorem putBit_some (bit : Int) (b g m cap : Nat) (xs : List Int) (c : Nat) (base : Nat) (w : World) (hW : Wr w base b g (m + 1) cap xs c) (hI : Inv xs c) (hm1 : 8 * m ≤ c) (hm2 : c < 8 * m + 8) (h8 : ¬ c % 8 = 0) (hc : c < 96000) (h0 : 0 ≤ bit) (h1 : bit ≤ 1) :
    Calls Tryz.prog 133 #[.pointer (some ⟨b, 0, none⟩), .int .i64 bit] w fun e w' => e = .returned (.tuple #[]) ∧ Wr w' base b g (m + 1) cap (bstep xs c bit) ((c : Int) + 1) ∧ Below base w w' := by
  have c0 := hW.c0
  have c1 := hW.c1
  have fb := hW.f
  have ht : (c : Int).tmod 8 = (c : Int) % 8 := Int.tmod_eq_emod_of_nonneg (by omega)
  have hd : (c : Int).tdiv 8 = m := by rw [Int.tdiv_eq_ediv_of_nonneg (by omega)]; omega
  have hd' : (c : Int) / 8 = m := by omega
  have d8 : ((c : Int) % 8 == 0) = false := by simp; omega
  have hpr : pre xs c = xs := by unfold pre; rw [if_neg h8]
  have em : c / 8 = m := by omega
  have hl : xs.length = m + 1 := hW.len.symm
  have hcy := own_u8 hW.2.1 m (by omega)
  obtain ⟨y, hy⟩ : ∃ y, y = xs.getD m 0 := ⟨_, rfl⟩
  rw [← hy] at hcy
  obtain ⟨cy, fy⟩ := hcy
  have hyb := pre_last hI
  rw [hpr, em, ← hy] at hyb
  have HV : Hid (bits .or .u8 y (wrap64 (bit * 2 ^ (c % 8)) % 256) = y + bit * p2 (c % 8)) := or_put y bit (c % 8) (by omega) hyb.1 hyb.2 h0 h1
  have HW : Hid (Wr w base b g (m + 1) cap xs c) := hW
  have HI : Hid (Inv xs c) := hI
  have HP : Hid (pre xs c = xs) := hpr
  have HE : Hid (c / 8 = m) := em
  have HY : Hid (y = xs.getD m 0) := hy
  have e2 : IntKind.i64.wrap (m : Int) = m := by rw [IntKind.wrap_i64]; omega
  have b1 : (0 : Int) ≤ m := by omega
  have b2 : (m : Int) < (m : Int) + 1 := by omega
  have hne := hW.2.2.1
  clear hW hI hpr em hl hy h8 hyb
  go_enter Tryz.func133, Tryz.ntmps133
  go_wp2_with fail
  go_region
  go_wp2_with fail
  go_end0
  refine ⟨rfl, putWorld (y := y) (bit := bit) HW.out.1 (by rw [HP.out]; exact HW.out.2.1) hne HW.out.2.2.2 HI.out HE.out (by rw [HP.out]; exact HY.out) (by rw [HV.out]), ?_⟩
  exact (((Below.refl _ _).setCell HW.out.2.1.base_le _).setCell HW.out.2.2.2 _).drew

set_option maxHeartbeats 800000 in
theorem putBit_none (bit : Int) (b g m cap : Nat) (xs : List Int) (c : Nat) (base : Nat) (w : World) (hW : Wr w base b g m cap xs c) (hI : Inv xs c) (hm : c = 8 * m) (hc : c < 96000) (h0 : 0 ≤ bit) (h1 : bit ≤ 1) :
    Calls Tryz.prog 133 #[.pointer (some ⟨b, 0, none⟩), .int .i64 bit] w fun e w' => ∃ g' cap', e = .returned (.tuple #[]) ∧ Wr w' base b g' (m + 1) cap' (bstep xs c bit) ((c : Int) + 1) ∧ Below base w w' := by
  have c0 := hW.c0
  have c1 := hW.c1
  have fb := hW.f
  have hblt := hW.lt
  have hne := hW.2.2.1
  have hbb := hW.2.2.2
  have hbg := hW.2.1.base_le
  have hglt := hW.2.1.lt
  have ht : (c : Int).tmod 8 = (c : Int) % 8 := Int.tmod_eq_emod_of_nonneg (by omega)
  have hd : (c : Int).tdiv 8 = m := by rw [Int.tdiv_eq_ediv_of_nonneg (by omega)]; omega
  have hd' : (c : Int) / 8 = m := by omega
  have d8 : ((c : Int) % 8 == 0) = true := by simp; omega
  have HPR : Hid (u8s xs ++ [.int .u8 0] = u8s (pre xs c)) := by unfold pre; rw [if_pos (by omega)]; exact u8s_snoc xs 0
  have HE : Hid (c / 8 = m) := by show c / 8 = m; omega
  have HI : Hid (Inv xs c) := hI
  have hl63 : (u8s xs).length + 1 ≤ maxLen ∧ ((u8s xs).length + 1) * 1 ≤ 140737488355328 := by rw [u8s_length, hI.1]; unfold maxLen; omega
  have hyb := pre_last hI
  rw [HE.out] at hyb
  obtain ⟨y, hy⟩ : ∃ y, y = (pre xs c).getD m 0 := ⟨_, rfl⟩
  rw [← hy] at hyb
  have HV : Hid (bits .or .u8 y (wrap64 (bit * 2 ^ (c % 8)) % 256) = y + bit * p2 (c % 8)) := or_put y bit (c % 8) (by omega) hyb.1 hyb.2 h0 h1
  have HY : Hid (y = (pre xs c).getD m 0) := hy
  have HW : Hid (Wr w base b g m cap xs c) := hW
  have e2 : IntKind.i64.wrap (m : Int) = m := by rw [IntKind.wrap_i64]; omega
  have b1 : (0 : Int) ≤ m := by omega
  have b2 : (m : Int) < (m : Int) + 1 := by omega
  have hm1 : 8 * m ≤ c := by omega
  have hm2 : c < 8 * m + 8 := by omega
  clear hW hI hy hyb hm
  obtain ⟨i0, hi0, hz0, hz1, hz2⟩ := info_parts info_u8
  go_enter Tryz.func133, Tryz.ntmps133
  go_wp2_with (at_builtin; refine wpList_append1 rfl _ _ 22 rfl i0 (.int .u8 0) 1 Tryz.underlying22 hi0 hz0 hz1 hz2 rfl rfl (HW.out.2.1.alloc _) ⟨w.heap.size, 0, none⟩ 1 (.int .u8 0) rfl ?c1 rfl rfl hl63.1 hl63.2 ?_)
  case c1 => simp
  · intro g1 v1 w1 hO1 hg1 hgr
    have hO2 : Own 5 w1 base g1 v1 (u8s (pre xs c)) := by rw [← HPR.out]; exact hO1
    have hB1 : Below base w w1 := ((Below.refl _ _).alloc (by omega) _).grown hgr (by simp; omega) (fun k hk => by cases hk; exact hbg)
    obtain ⟨cap1, hv1⟩ := hO2.form
    have hpl1 : (u8s (pre xs c)).length = m + 1 := by rw [u8s_length, pre_len HI.out, HE.out]
    rw [hpl1] at hv1
    rw [hv1]
    rw [hv1] at hO2
    have hne1 : b ≠ g1 := by
      rcases hg1 with rfl | hg1
      · exact hne
      · omega
    have hblk : w1.heap[b]? = some (.cells #[.slice (some ⟨g, 0, none⟩) m cap, .int .i64 c] 123 (0, 0)) := by
      rw [hgr.block b (by simp; omega) (by simpa using hne), Below.heap_alloc w _ b hblt]
      exact HW.out.1
    have hblk2 := block_setCell (i := 0) hblk (.slice (some ⟨g1, 0, none⟩) (m + 1) cap1)
    have hO3 : Own 5 (w1.setCell ⟨b, 0, none⟩ (.slice (some ⟨g1, 0, none⟩) (m + 1) cap1)) base g1 (.slice (some ⟨g1, 0, none⟩) (m + 1) cap1) (u8s (pre xs c)) := hO2.keep (Below.heap_setCell w1 ⟨b, 0, none⟩ _ g1 (by simpa using Ne.symm hne1))
    have q0 : w1.cell? ⟨b, 0, none⟩ = some (.slice (some ⟨g, 0, none⟩) m cap) := cell_of_block hblk 0
    have q1 : w1.cell? ⟨b, 1, none⟩ = some (.int .i64 c) := cell_of_block hblk 1
    have qf : ∀ i, w1.frozen? ⟨b, i, none⟩ = false := unfrozen_of_block hblk
    have hcy := own_u8 hO2 m (by have := pre_len HI.out; rw [HE.out] at this; omega)
    rw [← HY.out] at hcy
    obtain ⟨cy, fy⟩ := hcy
    have HB : Hid ((w1.setCell ⟨b, 0, none⟩ (.slice (some ⟨g1, 0, none⟩) (m + 1) cap1)).heap[b]? = some (.cells #[.slice (some ⟨g1, 0, none⟩) (m + 1) cap1, .int .i64 c] 123 (0, 0))) := by
      have hh := hblk2
      simp at hh
      exact hh
    have HO3 : Hid (Own 5 (w1.setCell ⟨b, 0, none⟩ (.slice (some ⟨g1, 0, none⟩) (m + 1) cap1)) base g1 (.slice (some ⟨g1, 0, none⟩) (m + 1) cap1) (u8s (pre xs c))) := hO3
    have hbl1 := hO1.base_le
    clear hO1 hg1 hgr hpl1 hv1 hO2 hO3 hblk hblk2 hl63 hi0 hz0 hz1 hz2 c0 c1 fb
    go_wp2_with fail
    go_region
    go_wp2_with fail
    go_end0
    refine ⟨g1, cap1, rfl, putWorld (y := y) (bit := bit) HB.out HO3.out hne1 hbb HI.out HE.out HY.out (by rw [HV.out]), ?_⟩
    exact ((((hB1.setCell hbb _)).setCell hbl1 _).setCell hbb _).drew

theorem putBit_any (bit : Int) (b g L cap : Nat) (xs : List Int) (c : Nat) (base : Nat) (w : World) (hW : Wr w base b g L cap xs c) (hI : Inv xs c) (hc : c < 96000) (h0 : 0 ≤ bit) (h1 : bit ≤ 1) :
    Calls Tryz.prog 133 #[.pointer (some ⟨b, 0, none⟩), .int .i64 bit] w fun e w' => ∃ g' L' cap', e = .returned (.tuple #[]) ∧ Wr w' base b g' L' cap' (bstep xs c bit) ((c : Int) + 1) ∧ Below base w w' := by
  have hl := hW.len
  have hi := hI.1
  by_cases h8 : c % 8 = 0
  · obtain rfl : L = c / 8 := by omega
    refine (putBit_none bit b g (c / 8) cap xs c base w hW hI (by omega) hc h0 h1).mono ?_
    rintro e w1 ⟨g', cap', h⟩
    exact ⟨g', _, cap', h⟩
  · obtain rfl : L = c / 8 + 1 := by omega
    refine (putBit_some bit b g (c / 8) cap xs c base w hW hI (by omega) (by omega) h8 hc h0 h1).mono ?_
    rintro e w1 h
    exact ⟨g, _, cap, h⟩

set_option maxHeartbeats 400000 in
theorem writerOut (b g L cap : Nat) (xs : List Int) (c : Int) (base : Nat) (w : World) (hW : Wr w base b g L cap xs c) :
    Calls Tryz.prog 63 #[.pointer (some ⟨b, 0, none⟩)] w fun e w' => e = .returned (.agg #[.string (strOfNums xs), .int .i64 c]) ∧ Below w.heap.size w w' := by
  have c0 := hW.c0
  have c1 := hW.c1
  have hblt := hW.lt
  have hO := hW.2.1
  have kc := fun (o : Obj) => own_string (P := Tryz.prog) xs 22 9 Tryz.underlying22 Tryz.underlying5 Tryz.underlying9 (hO.alloc o)
  have kd := fun (o : Obj) => own_string (P := Tryz.prog) xs 22 9 Tryz.underlying22 Tryz.underlying5 Tryz.underlying9 ((hO.alloc o).keep (w' := (w.alloc o).drew) rfl)
  clear hW hO
  go_enter Tryz.func63, Tryz.ntmps63
  go_wp2
  go_region
  all_goals
    go_wp2
    exact bodyPost_ret (v := .agg #[.string (strOfNums xs), .int .i64 c]) (by simp [results, Tryz.results63, go_sem]) rfl ⟨rfl, (bstart _ _).drew⟩
end Go.Proofs.YtbcnlggkoidmmaaGreatDoor

namespace Go.Proofs.YtbcnlggkoidmmaaGreatDoor
open Go.RowKit Go.Joins OutMath PutMath

set_option maxHeartbeats 800000 in
theorem putCode_any (x : Int) (n : Nat) (b g0 L0 cap0 : Nat) (xs : List Int) (c : Nat) (base : Nat) (w : World) (hW : Wr w base b g0 L0 cap0 xs c) (hI : Inv xs c) (h4 : 0 ≤ x) (hx : x ≤ 16777216) (hn : n ≤ 24) (hc : c + n ≤ 96000) :
    Calls Tryz.prog 99 #[.pointer (some ⟨b, 0, none⟩), .int .i64 x, .int .i64 n] w fun e w' => ∃ g' L' cap', e = .returned (.tuple #[]) ∧ Wr w' base b g' L' cap' (puts xs c (fun j => bitOf x (n - 1 - j)) n) ((c + n : Nat) : Int) ∧ Below base w w' := by
  have HW : Hid (Wr w base b g0 L0 cap0 xs c) := hW
  have HI : Hid (Inv xs c) := hI
  clear hW hI
  go_enter Tryz.func99, Tryz.ntmps99
  go_wp2_with fail
  go_loopw [6] (fun i w' => ∃ j g L cap : Nat, j ≤ n ∧ i = .int .i64 ((n : Int) - 1 - j) ∧ Hid (Wr w' base b g L cap (puts xs c (fun j => bitOf x (n - 1 - j)) j) ((c + j : Nat) : Int)) ∧ Below base w w') (fun i _ => (intOf i + 1).toNat)
  case atStart => exact ⟨0, g0, L0, cap0, Nat.zero_le _, by simp, HW, Below.refl _ _⟩
  case round =>
    obtain ⟨j, g, L, cap, hj, rfl, hWr, hB⟩ := hrel
    have hIj := inv_puts (f := fun j => bitOf x (n - 1 - j)) HI.out (fun k => bitOf_01 _ _) j
    have HIj : Hid (Inv (puts xs c (fun j => bitOf x (n - 1 - j)) j) (c + j)) := hIj
    clear hIj
    by_cases hlt : j < n
    · have hbw := bit_shr x (n - 1 - j) h4 hx (by omega)
      have h01 := bitOf_01 x (n - 1 - j)
      have en : ((n : Int) - 1 - (j : Int)).toNat = n - 1 - j := by omega
      go_wp2_with fail
      refine (putBit_any _ b g L cap _ (c + j) base _ hWr.out HIj.out (by omega) h01.1 h01.2).mono ?_
      rintro e w3 ⟨g', L', cap', rfl, hW3, hb3⟩
      have HW3 : Hid (Wr w3 base b g' L' cap' (puts xs c (fun j => bitOf x (n - 1 - j)) (j + 1)) ((c + (j + 1) : Nat) : Int)) := by
        have e : ((c + j : Nat) : Int) + 1 = ((c + (j + 1) : Nat) : Int) := by omega
        rw [← e]
        exact hW3
      clear hW3
      go_wp2_with fail
      go_roundw
      case rel => exact ⟨j + 1, g', L', cap', by omega, by go_num, HW3, hB.trans hb3⟩
      case measure => simp [intOf]; omega
    · obtain rfl : n = j := by omega
      go_wp2_with fail
      go_end0
      exact ⟨g, L, cap, rfl, hWr.out, hB⟩

end Go.Proofs.YtbcnlggkoidmmaaGreatDoor

namespace Go.Proofs.YtbcnlggkoidmmaaGreatDoor
open Go.RowKit Go.Joins OutMath PutMath

set_option maxHeartbeats 800000 in
theorem putNumber_any (x : Int) (n : Nat) (b g0 L0 cap0 : Nat) (xs : List Int) (c : Nat) (base : Nat) (w : World) (hW : Wr w base b g0 L0 cap0 xs c) (hI : Inv xs c) (h4 : 0 ≤ x) (hx : x ≤ 16777216) (hn : n ≤ 24) (hc : c + n ≤ 96000) :
    Calls Tryz.prog 100 #[.pointer (some ⟨b, 0, none⟩), .int .i64 x, .int .i64 n] w fun e w' => ∃ g' L' cap', e = .returned (.tuple #[]) ∧ Wr w' base b g' L' cap' (puts xs c (fun j => bitOf x j) n) ((c + n : Nat) : Int) ∧ Below base w w' := by
  have HW : Hid (Wr w base b g0 L0 cap0 xs c) := hW
  have HI : Hid (Inv xs c) := hI
  clear hW hI
  go_enter Tryz.func100, Tryz.ntmps100
  go_wp2_with fail
  go_loopw [8] (fun i w' => ∃ j g L cap : Nat, j ≤ n ∧ i = .int .i64 (j : Int) ∧ Hid (Wr w' base b g L cap (puts xs c (fun j => bitOf x j) j) ((c + j : Nat) : Int)) ∧ Below base w w') (fun i _ => ((n : Int) - intOf i).toNat)
  case atStart => exact ⟨0, g0, L0, cap0, Nat.zero_le _, by simp, HW, Below.refl _ _⟩
  case round =>
    obtain ⟨j, g, L, cap, hj, rfl, hWr, hB⟩ := hrel
    have hIj := inv_puts (f := fun j => bitOf x j) HI.out (fun k => bitOf_01 _ _) j
    have HIj : Hid (Inv (puts xs c (fun j => bitOf x j) j) (c + j)) := hIj
    clear hIj
    by_cases hlt : j < n
    · have hbw := bit_shr x j h4 hx (by omega)
      have h01 := bitOf_01 x j
      go_wp2_with fail
      refine (putBit_any _ b g L cap _ (c + j) base _ hWr.out HIj.out (by omega) h01.1 h01.2).mono ?_
      rintro e w3 ⟨g', L', cap', rfl, hW3, hb3⟩
      have HW3 : Hid (Wr w3 base b g' L' cap' (puts xs c (fun j => bitOf x j) (j + 1)) ((c + (j + 1) : Nat) : Int)) := by
        have e : ((c + j : Nat) : Int) + 1 = ((c + (j + 1) : Nat) : Int) := by omega
        rw [← e]
        exact hW3
      clear hW3
      go_wp2_with fail
      go_roundw
      case rel => exact ⟨j + 1, g', L', cap', by omega, by go_num, HW3, hB.trans hb3⟩
      case measure => simp [intOf]; omega
    · obtain rfl : n = j := by omega
      go_wp2_with fail
      go_end0
      exact ⟨g, L, cap, rfl, hWr.out, hB⟩

end Go.Proofs.YtbcnlggkoidmmaaGreatDoor
