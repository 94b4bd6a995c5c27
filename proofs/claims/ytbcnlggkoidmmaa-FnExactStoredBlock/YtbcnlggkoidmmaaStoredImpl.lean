/-
  The walk of the program's StoredBlock.
-/
import Derived.Test.YtbcnlggkoidmmaaRows
import Derived.Test.YtbcnlggkoidmmaaBase
import Derived.Test.YtbcnlggkoidmmaaOutMath
import Derived.Test.YtbcnlggkoidmmaaPutMath
import Derived.Test.YtbcnlggkoidmmaaBlockMath
import Derived.Test.YtbcnlggkoidmmaaPartMath
import Derived.Test.YtbcnlggkoidmmaaPartLib
import Derived.Test.YtbcnlggkoidmmaaBlkAns
import Derived.Test.YtbcnlggkoidmmaaBlkParts
import Derived.Test.YtbcnlggkoidmmaaStoredAns
import Derived.WalkKit
import Derived.ProofKit
import Derived.WalkLawsBesides
import Derived.RegionTactic
import Derived.Deep.RegionWith
import Derived.Deep.CutRange
import Derived.Below
import Derived.OwnWalk
import Derived.Maps.AppendAt
import Derived.Deep.LoopGhost
import Derived.Lib.SmallJoins
namespace Go.Proofs.Ytbcnlggkoidmmaa
open Go.RowKit Go.Joins OutMath PutMath BlockMath PartMath

theorem i64_and7 (x : Int) : bits .and .i64 x 7 = x % 8 := by
  have h2 : (BitVec.ofInt 64 (7 : Int)).toNat = 7 := by decide +kernel
  have h1 : (BitVec.ofInt 64 x).toNat = (x % 18446744073709551616).toNat := by
    rw [BitVec.toNat_ofInt]
    rfl
  show IntKind.i64.wrap ((BitVec.ofInt 64 x &&& BitVec.ofInt 64 (7 : Int)).toNat : Int) = _
  rw [BitVec.toNat_and, h1, h2, IntKind.wrap_i64]
  have h3 := Nat.and_two_pow_sub_one_eq_mod (x % 18446744073709551616).toNat 3
  rw [show 2 ^ 3 - 1 = 7 from rfl, show 2 ^ 3 = 8 from rfl] at h3
  rw [h3]
  omega

theorem info_part : (Try.prog.info? 67).map (fun i => (i.zero, i.size, i.bytes)) = some (some (.agg #[.int .i64 0, .int .i64 0, .bool false]), 3, 24) := by kernel_rfl

/-- The parts of a block of type 0. -/
def storedHead (c : Int) (t : ByteArray) (last : Bool) : List Part := [headP 0 last, (0, ((-(c + 3)) % 8).toNat, false), ((t.size : Int), 16, false), (65535 - (t.size : Int), 16, false)]
def byteParts (l : List Int) : List Part := l.map fun y => (y, 8, false)
theorem byteParts_bits : ∀ l : List Int, partBits (byteParts l) = byteBits l
  | [] => rfl
  | y :: l => by
    show bitsP (y, 8, false) ++ partBits (byteParts l) = pieceBits y 8 false ++ byteBits l
    rw [byteParts_bits l]
    rfl
theorem zero_bits (n : Nat) : bitsP (0, n, false) = List.replicate n 0 := by
  refine List.eq_replicate_iff.mpr ⟨bitsP_length _, fun b hb => ?_⟩
  obtain ⟨k, _, rfl⟩ := List.mem_map.mp hb
  simp [bitOf]
theorem stored_bits (k : Nat) (t : ByteArray) (last : Bool) : partBits (storedHead k t last ++ byteParts (numsOf t)) = headBits 0 last ++ storedBits (k + 3) t := by
  rw [partBits_app, byteParts_bits]
  show (bitsP (headP 0 last) ++ (bitsP (0, _, false) ++ (bitsP ((t.size : Int), 16, false) ++ (bitsP (65535 - (t.size : Int), 16, false) ++ [])))) ++ _ = _
  rw [headP_bits (by omega), zero_bits]
  unfold storedBits fillBits
  rw [show ((-((k : Int) + 3)) % 8).toNat = (8 - (k + 3) % 8) % 8 by omega]
  simp only [List.append_assoc, List.append_nil]
  rfl
theorem stored_right (c : Int) (t : ByteArray) (last : Bool) (ht : t.size ≤ 2600) : ∀ p ∈ storedHead c t last ++ byteParts (numsOf t), Right p := by
  intro p hp
  rcases List.mem_append.mp hp with hp | hp
  · unfold storedHead at hp
    simp only [List.mem_cons, List.not_mem_nil, or_false] at hp
    rcases hp with rfl | rfl | rfl | rfl
    · exact headP_right (by omega) last
    · refine ⟨by simp, by simp, ?_⟩
      show ((-(c + 3)) % 8).toNat ≤ 24
      omega
    · refine ⟨?_, ?_, ?_⟩ <;> simp only [] <;> omega
    · refine ⟨?_, ?_, ?_⟩ <;> simp only [] <;> omega
  · obtain ⟨y, hy, rfl⟩ := List.mem_map.mp hp
    obtain ⟨b, _, rfl⟩ := List.mem_map.mp hy
    have := UInt8.toNat_lt b
    refine ⟨?_, ?_, ?_⟩ <;> simp only [] <;> omega

/-- The boxes of the call. -/
def SBx (w X : World) (s : ByteArray) (c : Int) : Prop := Below w.heap.size w X ∧ X.heap[w.heap.size]? = some (.cells #[.string s, .int .i64 c] 37 (0, 0)) ∧ X.heap[w.heap.size + 1]? = some (.cells #[.string ⟨#[]⟩, .int .i64 0] 37 (0, 0))
theorem SBx.start (w : World) (s : ByteArray) (c : Int) : SBx w ((w.alloc (.cells #[.string s, .int .i64 c] 37)).alloc (.cells #[.string ⟨#[]⟩, .int .i64 0] 37)) s c := ⟨bal (bstart _ _) _, heap_two' w _ _, heap_second' w _ _⟩
theorem SBx.called {w X Y : World} {s : ByteArray} {c : Int} (h : SBx w X s c) (hb : Below X.heap.size X Y) : SBx w Y s c := ⟨bnext h.1 hb, lay_called2 hb h.2.1, lay_called2 hb h.2.2⟩
theorem SBx.drew {w X : World} {s : ByteArray} {c : Int} (h : SBx w X s c) : SBx w X.drew s c := ⟨h.1.drew, h.2⟩
theorem SBx.grown {w X Y : World} {s : ByteArray} {c : Int} {g : Nat} (h : SBx w X s c) (hg : X.grownBy Y (some g)) (hl : w.heap.size + 2 ≤ g) : SBx w Y s c := by
  obtain ⟨k1, k2, k3⟩ := h
  have h1 := k1.size
  refine ⟨k1.grown hg h1 (fun q hq => by obtain rfl : g = q := Option.some.inj hq; exact Nat.le_trans (by omega) hl), ?_, ?_⟩
  · exact (hg.block _ (block_lt k2) (fun e => by have := Option.some.inj e; omega)).trans k2
  · exact (hg.block _ (block_lt k3) (fun e => by have := Option.some.inj e; omega)).trans k3
theorem SBx.cells {w X : World} {s : ByteArray} {c : Int} (h : SBx w X s c) : X.cell? ⟨w.heap.size, 0, none⟩ = some (.string s) ∧ X.cell? ⟨w.heap.size, 1, none⟩ = some (.int .i64 c) ∧ w.heap.size < X.heap.size := ⟨(cell_of_block h.2.1 0).trans rfl, (cell_of_block h.2.1 1).trans rfl, block_lt h.2.1⟩
theorem SBx.res {w X : World} {s : ByteArray} {c : Int} (h : SBx w X s c) : X.cell? ⟨w.heap.size + 1, 0, none⟩ = some (.string ⟨#[]⟩) ∧ X.cell? ⟨w.heap.size + 1, 1, none⟩ = some (.int .i64 0) ∧ (∀ i, X.frozen? ⟨w.heap.size + 1, i, none⟩ = false) ∧ w.heap.size + 1 < X.heap.size := ⟨(cell_of_block h.2.2 0).trans rfl, (cell_of_block h.2.2 1).trans rfl, fun i => by simp [World.frozen?, h.2.2], block_lt h.2.2⟩

theorem bytes_take {t : ByteArray} {j : Nat} (h : j < t.size) : byteParts ((numsOf t).take (j + 1)) = byteParts ((numsOf t).take j) ++ [(((t[j]'h).toNat : Int), 8, false)] := by
  have h1 : (numsOf t)[j]? = some ((t[j]'h).toNat : Int) := by
    unfold numsOf
    rw [List.getElem?_map, Array.getElem?_toList, Array.getElem?_eq_getElem (show j < t.data.size from h)]
    rfl
  unfold byteParts
  rw [List.take_add_one, h1, List.map_append]
  rfl
theorem own_slice {w : World} {e : TypeId} {S m n : Nat} {v : Value} {L : List Value} (h : w.ownsRow S e m v n L) (hn : 0 < n) : ∃ g cap, v = .slice (some ⟨g, 0, none⟩) n cap := by
  rcases h.2 with ⟨_, h0⟩ | ⟨g, cap, cur, rfl, _⟩
  · omega
  · exact ⟨g, cap, rfl⟩
/-- Under way: the list of parts so far. -/
def StW (w X : World) (s : ByteArray) (c : Int) (L : List Part) (v : Value) : Prop := SBx w X s c ∧ X.ownsRow (w.heap.size + 2) 67 3 v L.length (pcells L)

set_option maxRecDepth 100000 in
set_option maxHeartbeats 3200000 in
theorem stored_good (s : ByteArray) (c : Int) (t : ByteArray) (last : Bool) (w : World) (hs : s.size ≤ 1048576) (hc1 : -9223372036854775808 ≤ c) (hc2 : c ≤ 9223372036854775807) (ht : t.size ≤ 2600) :
    Calls Try.prog 18 #[.agg #[.string s, .int .i64 c], .string t, .bool last] w fun e w' => e = .returned (blkAns ((outSt s c).bind fun o => bitsOut o (partBits (storedHead c t last ++ byteParts (numsOf t))))) ∧ Below w.heap.size w w' := by
  have dt : decide ((2600 : Int) < (t.size : Int)) = false := decide_eq_false (by omega)
  have dt' : decide (2600 < t.size) = false := decide_eq_false (by omega)
  have HX := hid_of (SBx.start w s c)
  go_enter Try.func18, Try.ntmps18
  go_wp2_with fail
  generalize (w.alloc _).alloc _ = X at HX ⊢
  go_cut [8] from 14 to 29 (fun v wx => Hid (SBx w wx s c) ∧ ∃ g, v = .slice (some ⟨g, 0, none⟩) 4 4 ∧ Hid (wx.ownsRow (w.heap.size + 2) 67 3 v 4 (pcells (storedHead c t last))))
  case first =>
    obtain ⟨x0, x1, xl⟩ := HX.out.cells
    have e7 : Hid (bits BinOp.and IntKind.i64 (IntKind.i64.wrap (-IntKind.i64.wrap (c + 3))) 7 = (((-(c + 3)) % 8).toNat : Int)) := by
      show _ = _
      rw [i64_and7, IntKind.wrap_i64, IntKind.wrap_i64]
      omega
    have e8 : Hid (IntKind.i64.wrap (65535 - (t.size : Int)) = 65535 - (t.size : Int)) := by show _ = _; rw [IntKind.wrap_i64]; omega
    have HP : Hid ((pcells (storedHead c t last)).toArray = #[.int .i64 (headP 0 last).1, .int .i64 3, .bool false, .int .i64 0, .int .i64 (((-(c + 3)) % 8).toNat : Int), .bool false, .int .i64 (t.size : Int), .int .i64 16, .bool false, .int .i64 (65535 - (t.size : Int)), .int .i64 16, .bool false]) := rfl
    go_region_with (first | (go_at_call 37; refine (headPart_any 0 last _ (by omega)).mono ?_; rintro e w' ⟨rfl, hB⟩; have HY := hid_of ((by first | exact HX.out | exact HX.out.drew : SBx w _ s c).called hB); clear HX hB x0 x1 xl; have HX := HY; clear HY; obtain ⟨x0, x1, xl⟩ := HX.out.cells) | (go_at_call 38; refine (numberPart_any _ _ _).mono ?_; rintro e w' ⟨rfl, hB⟩; have HY := hid_of ((by first | exact HX.out | exact HX.out.drew : SBx w _ s c).called hB); clear HX hB x0 x1 xl; have HX := HY; clear HY; obtain ⟨x0, x1, xl⟩ := HX.out.cells))
    all_goals
      go_wp2_with fail
      go_meet
      case rel =>
        rw [e7.out, e8.out]
        exact ⟨HX.out.called (bstart _ _), _, rfl, by have := own_lit w' 67 (w.heap.size + 2) (by have := HX.out.res.2.2.2; omega) (storedHead c t last) (by simp [storedHead]); rw [HP.out] at this; exact this⟩
  case rest =>
    obtain ⟨hX, g, rfl, hO⟩ := hcut
    clear HX X
    have HX := hX
    have H0 : Hid (StW w wc s c (storedHead c t last) (.slice (some ⟨g, 0, none⟩) 4 4)) := ⟨hX.out, hO.out⟩
    clear hX hO
    go_wp2_with fail
    go_loopg [8, 32] (t.size + 1) (fun gk v i w' => ∃ (j g1 c1 : Nat), j ≤ t.size ∧ t.size - j ≤ gk ∧ i = .int .i64 j ∧ v = .slice (some ⟨g1, 0, none⟩) (4 + j) c1 ∧ Hid (StW w w' s c (storedHead c t last ++ byteParts ((numsOf t).take j)) (.slice (some ⟨g1, 0, none⟩) (4 + j) c1)))
    case atStart => exact ⟨0, g, 4, Nat.zero_le _, by omega, rfl, rfl, by simpa [byteParts] using H0⟩
    case round =>
      obtain ⟨j, g1, cp1, hj, hgk, rfl, rfl, hS⟩ := hrel
      by_cases hlt : j < t.size
      · have dl : decide ((j : Int) < (t.size : Int)) = true := decide_eq_true (by omega)
        have b0 : (0 : Int) ≤ (j : Int) := by omega
        have b1 : (j : Int) < (t.size : Int) := by omega
        have HT := hid_of (bytes_take hlt)
        have hw : wrap64 ((t[j]'hlt).toNat : Int) = ((t[j]'hlt).toNat : Int) := by have := UInt8.toNat_lt (t[j]'hlt); unfold wrap64; omega
        have hl : (storedHead c t last ++ byteParts ((numsOf t).take j)).length = 4 + j := by simp [storedHead, byteParts, numsOf_length]; omega
        have HL := hid_of hl
        clear hl
        go_wp2_with fail
        refine (numberPart_any _ _ _).mono ?_
        rintro e w' ⟨rfl, hB⟩
        have HS : Hid (StW w w' s c (storedHead c t last ++ byteParts ((numsOf t).take j)) (.slice (some ⟨g1, 0, none⟩) (4 + j) cp1)) := ⟨hS.out.1.called hB, row_called hS.out.2 hB⟩
        clear hB hS
        go_wp2_with (at_builtin; refine parts_append Try.underlying70 info_part (S := w.heap.size + 2) (xs := storedHead c t last ++ byteParts ((numsOf t).take j)) (ys := [(((t[j]'hlt).toNat : Int), 8, false)]) rfl _ _ rfl rfl (World.ownsRow.alloc HS.out.2 _) ⟨w'.heap.size, 0, none⟩ 1 1 rfl rfl (news_part w' _ _ _ _ _ rfl) (by rw [HL.out]; simp only [List.length_singleton]; omega) (by have := HS.out.1.res.2.2.2; simp; omega) ?_)
        intro v' w5 y1 y2 y3
        have y4 : w5.ownsRow (w.heap.size + 2) 67 3 v' (storedHead c t last ++ byteParts ((numsOf t).take (j + 1))).length (pcells (storedHead c t last ++ byteParts ((numsOf t).take (j + 1)))) := by
          rw [HT.out]
          simpa using y1
        have hl2 : (storedHead c t last ++ byteParts ((numsOf t).take (j + 1))).length = 4 + (j + 1) := by simp [storedHead, byteParts, numsOf_length]; omega
        have hX5 : SBx w w5 s c := (HS.out.1.called (bstart w' (.cells #[.int .i64 ((t[j]'hlt).toNat : Int), .int .i64 8, .bool false] 67))).grown y2 (HS.out.2.lt g1 rfl).1
        obtain ⟨g5, cp5, rfl⟩ := own_slice y4 (by omega)
        rw [hl2]
        have HN : Hid (StW w w5 s c (storedHead c t last ++ byteParts ((numsOf t).take (j + 1))) (.slice (some ⟨g5, 0, none⟩) (4 + (j + 1)) cp5)) := ⟨hX5, by rw [hl2] at y4; rw [hl2]; exact y4⟩
        clear y1 y2 y3 y4 hX5 hl2
        go_wp2_with fail
        go_roundg (t.size - (j + 1))
        case measure => omega
        case rel => exact ⟨j + 1, g5, cp5, by omega, Nat.le_refl _, by go_num, rfl, HN⟩
      · obtain rfl : j = t.size := by omega
        have dl : decide ((t.size : Int) < (t.size : Int)) = false := decide_eq_false (by omega)
        obtain ⟨x0, x1, xl⟩ := hS.out.1.cells
        have hl : (storedHead c t last ++ byteParts (numsOf t)).length = 4 + t.size := by simp [storedHead, byteParts, numsOf_length]; omega
        have hfull : (numsOf t).take t.size = numsOf t := by rw [← numsOf_length, List.take_length]
        rw [hfull] at hS
        obtain ⟨a2, c2, hv, _, _, _, hPC, _⟩ := pcame_of_own hS.out.2 rfl
        rw [hl] at hv
        cases hv
        have hW := withParts_any s c _ cp1 _ wr hPC (stored_right c t last ht) (by rw [hl]; omega) (by unfold maxLen; omega) hc1 hc2
        rw [hl] at hW
        have HX := hid_of hS.out.1
        clear hPC hS hl hfull
        go_wp2_with fail
        refine hW.mono ?_
        rintro e w5 ⟨rfl, hB⟩
        clear hW
        obtain ⟨z0, z1, zf, zl⟩ := (HX.out.called hB).res
        have HBB : Hid (Below w.heap.size w w5) := (HX.out.called hB).1
        clear hB
        obtain ⟨tt, n, b, he⟩ := blkAns_form ((outSt s c).bind fun o => bitsOut o (partBits (storedHead c t last ++ byteParts (numsOf t))))
        rw [he]
        go_wp2_with fail
        refine bodyPost_ret (v := .tuple #[.agg #[.string tt, .int .i64 n], .bool b]) ?_ rfl ⟨by rw [he], ?_⟩
        · simp [results, Try.results18, go_sem, z0, z1]
        · exact two_below HBB.out (Nat.le_succ _) _ _

set_option maxHeartbeats 800000 in
theorem stored_answer : StoredAnswer := by
  intro s c t last w hs hc1 hc2 ht
  by_cases h : t.size ≤ 2600
  · have hg := stored_good s c t last w hs hc1 hc2 h
    have e : storedOut s c t last = (outSt s c).bind fun o => bitsOut o (partBits (storedHead c t last ++ byteParts (numsOf t))) := by
      unfold storedOut
      rw [if_pos h]
      unfold outSt
      split
      · rename_i hb
        have hf := fits_of_outB s c hb
        obtain ⟨k, rfl⟩ := Int.eq_ofNat_of_zero_le hf.2.1
        show bitsOut _ _ = bitsOut _ _
        rw [stored_bits]
        rfl
      · rfl
    rw [e]
    exact hg
  · have dt : decide ((2600 : Int) < (t.size : Int)) = true := decide_eq_true (by omega)
    have dt' : decide (2600 < t.size) = true := decide_eq_true (by omega)
    have e : storedOut s c t last = none := if_neg h
    rw [e]
    have HX := hid_of (SBx.start w s c)
    go_enter Try.func18, Try.ntmps18
    go_wp2_with fail
    generalize (w.alloc _).alloc _ = X at HX ⊢
    obtain ⟨z0, z1, zf, zl⟩ := HX.out.res
    refine bodyPost_ret (v := .tuple #[.agg #[.string ⟨#[]⟩, .int .i64 0], .bool false]) ?_ rfl ⟨rfl, ?_⟩
    · simp [results, Try.results18, go_sem, z0, z1]
    · exact HX.out.1
end Go.Proofs.Ytbcnlggkoidmmaa
