/-
  The walk of the document's model of a block of type 0.
  The walk of the document's model of the lengths of type 1.
-/
import Derived.Test.YtbcnlggkoidmmaaGreatDoorRows
import Derived.Test.YtbcnlggkoidmmaaGreatDoorPk01
import Derived.Test.YtbcnlggkoidmmaaGreatDoorPk04
import Derived.Test.YtbcnlggkoidmmaaGreatDoorPk02
import Derived.Test.YtbcnlggkoidmmaaGreatDoorPk06
import Derived.Test.YtbcnlggkoidmmaaGreatDoorPk09
import Derived.Test.YtbcnlggkoidmmaaGreatDoorPk07
import Derived.WalkKit
import Derived.ProofKit
import Derived.WalkLawsBesides
import Derived.OwnWalk
import Derived.BigQuiet
import Derived.Deep.LoopGhost
import Derived.Deep.AppendLies
import Derived.Below
import Derived.Lib.SmallJoins
namespace Go.Proofs.YtbcnlggkoidmmaaGreatDoor
open Go.RowKit Go.Joins OutMath TakeMath TokMath InfMath

/-- What a block leaves. -/
def BlockPost (w0 : World) (b : Nat) (s : ByteArray) (most : Nat) (Ty : List Int) (res : Except Nat (List Int × Nat)) (w' : World) : Prop :=
  ∃ p' O' c' vo' vt', RS w0 w' b s p' O' most c' Ty vo' vt' ∧ p' ≤ 8 * s.size ∧ Bytes O' ∧ O'.length ≤ most ∧ ((c' = 0 ∧ res = .ok (O', p')) ∨ (c' ≠ 0 ∧ c' ≤ 8 ∧ res = .error c'))

theorem bitsR_ok {s : ByteArray} {p n : Nat} (h : p + n ≤ 8 * s.size) : bitsR s p 0 n = (num s p n, p + n, 0) := by
  unfold bitsR
  rw [if_neg (fun h => h rfl), if_pos h]
theorem bitsR_end {s : ByteArray} {p n : Nat} (h : ¬ p + n ≤ 8 * s.size) : bitsR s p 0 n = (0, p, 2) := by
  unfold bitsR
  rw [if_neg (fun h => h rfl), if_neg h]
theorem bitsR_bad {s : ByteArray} {p c n : Nat} (h : c ≠ 0) : bitsR s p c n = (0, p, c) := by
  unfold bitsR
  rw [if_pos h]
theorem whole_le {s : ByteArray} {p : Nat} (h : p ≤ 8 * s.size) : wholeAt p ≤ 8 * s.size := by
  unfold wholeAt
  omega

theorem bytesAt_next (s : ByteArray) (p j : Nat) : bytesAt s p (j + 1) = bytesAt s p j ++ [num s (p + 8 * j) 8] := by simp [bytesAt, List.range_succ]
theorem bytesAt_length (s : ByteArray) (p j : Nat) : (bytesAt s p j).length = j := by simp [bytesAt]
theorem wrap_u8 {z : Int} (h0 : 0 ≤ z) (h1 : z < 256) : IntKind.u8.wrap z = z := by
  simp [IntKind.wrap, IntKind.signed, IntKind.bits]
  omega
/-- What the ring of the bytes has at hand. -/
def StoSt (w0 : World) (b : Nat) (s : ByteArray) (p0 : Nat) (O : List Int) (most : Nat) (Ty : List Int) (vt : Value) (n j pp c : Nat) (OO : List Int) (vo' : Value) (w' : World) : Prop :=
  RS w0 w' b s pp OO most c Ty vo' vt ∧ pp ≤ 8 * s.size ∧ Bytes OO ∧ OO.length ≤ most ∧ ((c = 0 ∧ pp = p0 + 32 + 8 * j ∧ OO = O ++ bytesAt s (p0 + 32) j) ∨ (c = 2 ∧ ¬ p0 + 32 + 8 * n ≤ 8 * s.size))

set_option maxRecDepth 100000 in
set_option maxHeartbeats 6400000 in
theorem l08Stored_any (w0 : World) (b : Nat) (s : ByteArray) (p : Nat) (O : List Int) (most : Nat) (Ty : List Int) (vo vt : Value) (w : World) (h : RS w0 w b s p O most 0 Ty vo vt) (hs : s.size ≤ 12000) (hp : p ≤ 8 * s.size) (hB : Bytes O) (hO : O.length ≤ most) (hm : most ≤ 12000) :
    Calls Tryz.prog 84 #[.pointer (some ⟨b, 0, none⟩)] w fun e w' => e = .returned (.tuple #[]) ∧ BlockPost w0 b s most Ty (storedE s most p O) w' := by
  have HH := hid_of h
  have HBY := hid_of hB
  obtain ⟨i0, hi0, hz0, hz1, hz2⟩ := info_parts info_byte
  obtain ⟨c0, c1, _⟩ := h.1.cells
  have fz := h.1.free
  have hl := h.lt
  have hnx := fun w => specNext_yes s (p : Int) w hs (by omega) (by omega)
  rw [show (8 * (((p : Int) + 7) / 8)) = ((wholeAt p : Nat) : Int) by unfold wholeAt; omega] at hnx
  have hwl := whole_le hp
  obtain ⟨p0, hp0⟩ : ∃ p0, p0 = wholeAt p := ⟨_, rfl⟩
  have HE : Hid (storedE s most p O = if p0 + 32 ≤ 8 * s.size then (if num s p0 16 + num s (p0 + 16) 16 ≠ 65535 then .error 4 else if (most : Int) - O.length < num s p0 16 then .error 8 else if p0 + 32 + 8 * (num s p0 16).toNat ≤ 8 * s.size then .ok (O ++ bytesAt s (p0 + 32) (num s p0 16).toNat, p0 + 32 + 8 * (num s p0 16).toNat) else .error 2) else .error 2) := by
    show storedE s most p O = _
    rw [hp0]
    rfl
  rw [← hp0] at hnx hwl
  clear hp0 h hB
  go_enter Tryz.func84, Tryz.ntmps84
  go_wp2_with fail
  refine (hnx _).mono ?_
  rintro e w1 ⟨rfl, hB1⟩
  clear hnx
  have h1 := HH.out.called hB1
  obtain ⟨d0, d1, _⟩ := h1.1.cells
  have df := h1.1.free
  have hl1 := h1.lt
  have H2 := hid_of (h1.setBits p0)
  clear h1 hB1 HH c0 c1 fz
  have hb16 := fun (p c : Nat) (vo vt : Value) (w : World) (h : RB w b s p vo most c vt) (hp : p ≤ 8 * s.size) => l08Bits_any b s p vo most c vt 16 w h hs hp (by omega)
  obtain ⟨W2, hW2⟩ : ∃ W, W = (w1.setCell ⟨b, 0, none⟩ (.string s)).setCell ⟨b, 1, none⟩ (.int .i64 ((p0 : Nat) : Int)) := ⟨_, rfl⟩
  rw [← hW2] at H2
  have HW2 := hid_of hW2
  clear hW2
  have HB16 := hid_of hb16
  clear hb16
  by_cases h32 : p0 + 32 ≤ 8 * s.size
  · have hf := HB16.out p0 0 vo vt W2 H2.out.1 hwl
    rw [bitsR_ok (by omega)] at hf
    have hxr := num_bd s p0 16
    have hyr := num_bd s (p0 + 16) 16
    rw [show p2 16 = 65536 by decide +kernel] at hxr hyr
    have HB17 := hid_of (fun (vo vt : Value) (w : World) (h : RB w b s (p0 + 16) vo most 0 vt) => HB16.out (p0 + 16) 0 vo vt w h (by omega))
    rw [if_pos h32] at HE
    have hbr : bitsR s (p0 + 16) 0 16 = (num s (p0 + 16) 16, p0 + 32, 0) := by
      rw [bitsR_ok (by omega)]
    rw [hbr] at HB17
    clear hbr
    generalize num s p0 16 = x at hf hxr HE
    generalize num s (p0 + 16) 16 = y at HB17 hyr HE
    go_wp2_with fail
    rw [← HW2.out]
    refine hf.mono ?_
    rintro e w3 ⟨rfl, hR3, hg3⟩
    have HS3 := hid_of (H2.out.turned hR3 hg3)
    have hf2 := HB17.out vo vt w3 hR3
    clear hf hR3 hg3 d0 d1 df H2 HW2
    go_wp2_with fail
    refine hf2.mono ?_
    rintro e w4 ⟨rfl, hR4, hg4⟩
    have HS4 : Hid (RS w0 w4 b s (p0 + 32) O most 0 Ty vo vt) := HS3.out.turned hR4 hg4
    clear hf2 hR4 hg4 HS3 HB17
    have k4 : w4.cell? ⟨b, 4, none⟩ = some (.int .i64 0) := HS4.out.1.cells.2.2.2.2.1
    have df := HS4.out.1.free
    have hl4 := HS4.out.lt
    by_cases hne : x + y = 65535
    · have dne : ((x + y) != (65535 : Int)) = false := by simp [hne]
      rw [if_neg (fun h => h hne)] at HE
      have k3 : w4.cell? ⟨b, 3, none⟩ = some (.int .i64 (most : Int)) := HS4.out.1.cells.2.2.2.1
      obtain ⟨av, cv, hv⟩ := HS4.out.2.1.form
      have k2 : w4.cell? ⟨b, 2, none⟩ = some (.slice av O.length cv) := by
        rw [← hv]
        exact HS4.out.1.cells.2.2.1
      have HV := hid_of hv
      clear hv hne
      have e1 : IntKind.i64.wrap ((most : Int) - (O.length : Int)) = (most : Int) - (O.length : Int) := by
        rw [IntKind.wrap_i64]
        omega
      by_cases hmo : (most : Int) - (O.length : Int) < x
      · have HR : Hid (storedE s most p O = .error 8) := by
          show storedE s most p O = .error 8
          rw [HE.out, if_pos hmo]
        have dmo : decide ((most : Int) - (O.length : Int) < x) = true := decide_eq_true hmo
        clear HE
        go_wp2_with fail
        go_quiet (fail)
        have HS5 := hid_of (HS4.out.drewN nq)
        generalize w4.drewN nq = W5 at HS5
        have k4' : W5.cell? ⟨b, 4, none⟩ = some (.int .i64 0) := HS5.out.1.cells.2.2.2.2.1
        have df' := HS5.out.1.free
        have hl5 := HS5.out.lt
        have HS4' : Hid (RS w0 (W5.setCell ⟨b, 4, none⟩ (.int .i64 8)) b s (p0 + 32) O most 8 Ty vo vt) := HS5.out.setCode 8
        clear HS5 HS4 k4 k3 k2 df
        have HS4 := HS4'
        clear HS4'
        have HS5 := HS4
        clear HS4
        go_wp2_with fail
        go_loopg [4] 1 (fun _ v w' => v = .int .i64 0 ∧ Hid (RS w0 w' b s (p0 + 32) O most 8 Ty vo vt))
        case atStart => exact ⟨rfl, HS5⟩
        case round =>
          obtain ⟨rfl, hS⟩ := hrel
          have k4 : wr.cell? ⟨b, 4, none⟩ = some (.int .i64 8) := hS.out.1.cells.2.2.2.2.1
          have HZ : Hid (BlockPost w0 b s most Ty (storedE s most p O) wr) := ⟨(p0 + 32), O, 8, vo, vt, hS.out, by omega, HBY.out, hO, .inr ⟨by decide, by decide, HR.out⟩⟩
          by_cases hx0 : 0 < x
          · have dx : decide (0 < x) = true := decide_eq_true hx0
            go_wp2_with fail
            go_end0
            exact ⟨rfl, HZ.out⟩
          · have dx : decide (0 < x) = false := decide_eq_false hx0
            go_wp2_with fail
            go_end0
            exact ⟨rfl, HZ.out⟩
      · have dmo : decide ((most : Int) - (O.length : Int) < x) = false := decide_eq_false hmo
        rw [if_neg hmo] at HE
        obtain ⟨n, rfl⟩ := Int.eq_ofNat_of_zero_le hxr.1
        rw [show ((n : Int)).toNat = n from rfl] at HE
        have hn16 : n < 65536 := by omega
        have hfit : O.length + n ≤ most := by omega
        have HB8 := hid_of (fun (p c : Nat) (vo vt : Value) (w : World) (h : RB w b s p vo most c vt) (hp : p ≤ 8 * s.size) => l08Bits_any b s p vo most c vt 8 w h hs hp (by omega))
        go_wp2_with fail
        go_quiet (fail)
        have HS5 := hid_of (HS4.out.drewN nq)
        generalize w4.drewN nq = W5 at HS5
        clear HS4 k4 k3 k2 df HB16 dmo dne
        go_wp2_with fail
        go_loopg [4] (n + 2) (fun gk v w' => ∃ (j pp c : Nat) (OO : List Int) (vo' : Value), j ≤ n ∧ n + 1 - j ≤ gk ∧ v = .int .i64 j ∧ Hid (StoSt w0 b s p0 O most Ty vt n j pp c OO vo' w'))
        case atStart => exact ⟨0, p0 + 32, 0, O, vo, Nat.zero_le _, by omega, rfl, HS5.out, h32, HBY.out, hO, .inl ⟨rfl, rfl, by simp [bytesAt]⟩⟩
        case round =>
          clear HS5
          obtain ⟨j, pp, c, OO, vo', hj, hgk, rfl, hS⟩ := hrel
          have k4 : wr.cell? ⟨b, 4, none⟩ = some (.int .i64 (c : Int)) := hS.out.1.1.cells.2.2.2.2.1
          have hlr := hS.out.1.lt
          by_cases hc : c = 0
          · subst hc
            have hpp : pp = p0 + 32 + 8 * j ∧ OO = O ++ bytesAt s (p0 + 32) j := by
              rcases hS.out.2.2.2.2 with ⟨_, h1, h2⟩ | ⟨h1, _⟩
              · exact ⟨h1, h2⟩
              · exact absurd h1 (by decide)
            by_cases hlt : j < n
            · have dl : decide ((j : Int) < (n : Int)) = true := decide_eq_true (by omega)
              have hf := HB8.out pp 0 vo' vt wr hS.out.1.1 hS.out.2.1
              rw [show ((8 : Nat) : Int) = 8 from rfl] at hf
              by_cases h8 : pp + 8 ≤ 8 * s.size
              · rw [bitsR_ok h8] at hf
                have hzr := num_bd s pp 8
                rw [show p2 8 = 256 by decide +kernel] at hzr
                have HNX0 : Hid (O ++ bytesAt s (p0 + 32) (j + 1) = OO ++ [num s pp 8]) := by
                  show O ++ bytesAt s (p0 + 32) (j + 1) = OO ++ [num s pp 8]
                  rw [hpp.2, hpp.1, List.append_assoc, bytesAt_next]
                generalize num s pp 8 = z at hf hzr HNX0
                have HPP := hid_of hpp
                clear hpp
                have hlen : OO.length + 1 ≤ most := by
                  have h := congrArg List.length HNX0.out
                  rw [List.length_append, List.length_append, bytesAt_length, List.length_singleton] at h
                  omega
                go_wp2_with fail
                refine hf.mono ?_
                rintro e w6 ⟨rfl, hR6, hg6⟩
                have HS6 : Hid (RS w0 w6 b s (pp + 8) OO most 0 Ty vo' vt) := hS.out.1.turned hR6 hg6
                clear hf hR6 hg6 k4
                have k4 : w6.cell? ⟨b, 4, none⟩ = some (.int .i64 0) := HS6.out.1.cells.2.2.2.2.1
                obtain ⟨av, cv, rfl⟩ := HS6.out.2.1.form
                have k2 : w6.cell? ⟨b, 2, none⟩ = some (.slice av OO.length cv) := HS6.out.1.cells.2.2.1
                have hl6 := HS6.out.lt
                have HOW : Hid (w6.ownsRow w0.heap.size 5 1 (.slice av OO.length cv) OO.length (u8l OO)) := HS6.out.2.1
                have hsz6 := HS6.out.2.2.2.2.2.1.size
                have hwz : IntKind.u8.wrap z = z := wrap_u8 hzr.1 hzr.2
                go_wp2_with (at_builtin; refine wpList_append_lies _ rfl _ _ _ rfl w0.heap.size 5 i0 _ 1 1 Tryz.underlying22 hi0 hz0 hz1 hz2 rfl (by omega) (.slice av OO.length cv) OO.length (u8l OO) rfl (World.ownsRow.alloc HOW.out _) ⟨w6.heap.size, 0, none⟩ 1 1 [.int .u8 z] rfl rfl (World.news_of_block (heap_alloc_new w6 _)) (by simp [Value.oneCell']) (by omega) (by unfold maxLen; omega) (by omega) (by simp; omega) (w6.heap.size + 1) (by simp) ?_; intro g7 cap7 w7 y1 y2 y3 y4; obtain ⟨hR7, hS7⟩ := HS6.out.more y1 y2 y3; have k27 : w7.cell? ⟨b, 2, none⟩ = some (.slice av OO.length cv) := hR7.cells.2.2.1; have f27 := hR7.free 2; have hl7 := hR7.lt; have HS7 := hid_of hS7; clear y1 y2 y3 y4 hR7 hS7)
                have HNX : Hid (StoSt w0 b s p0 O most Ty vt n (j + 1) (pp + 8) 0 (OO ++ [z]) (.slice (some ⟨g7, 0, none⟩) (OO.length + 1) cap7) (w7.setCell ⟨b, 2, none⟩ (.slice (some ⟨g7, 0, none⟩) (OO.length + 1) cap7))) := by
                  refine ⟨HS7.out, h8, bytes_snoc hS.out.2.2.1 (by omega), by rw [List.length_append, List.length_singleton]; exact hlen, .inl ⟨rfl, ?_, HNX0.out.symm⟩⟩
                  rw [HPP.out.1]
                  omega
                clear hS HS6 HOW HS7 HNX0
                go_wp2_with fail
                go_roundg (n + 1 - (j + 1))
                case measure => omega
                case rel => exact ⟨j + 1, pp + 8, 0, _, _, by omega, Nat.le_refl _, by go_num, HNX⟩
              · rw [bitsR_end h8] at hf
                have HNN : Hid (¬ p0 + 32 + 8 * n ≤ 8 * s.size) := by
                  show ¬ p0 + 32 + 8 * n ≤ 8 * s.size
                  omega
                go_wp2_with fail
                refine hf.mono ?_
                rintro e w6 ⟨rfl, hR6, hg6⟩
                have HNX : Hid (StoSt w0 b s p0 O most Ty vt n (j + 1) pp 2 OO vo' w6) := ⟨hS.out.1.turned hR6 hg6, hS.out.2.1, hS.out.2.2.1, hS.out.2.2.2.1, .inr ⟨rfl, HNN.out⟩⟩
                have k6 : w6.cell? ⟨b, 4, none⟩ = some (.int .i64 2) := hR6.cells.2.2.2.2.1
                clear hf hR6 hg6 k4 hS hpp
                go_wp2_with fail
                go_roundg (n + 1 - (j + 1))
                case measure => omega
                case rel => exact ⟨j + 1, pp, 2, OO, vo', by omega, Nat.le_refl _, by go_num, HNX⟩
            · obtain rfl : j = n := by omega
              have dl : decide ((j : Int) < (j : Int)) = false := decide_eq_false (by omega)
              have HZ : Hid (BlockPost w0 b s most Ty (storedE s most p O) wr) := by
                refine ⟨pp, OO, 0, vo', vt, hS.out.1, hS.out.2.1, hS.out.2.2.1, hS.out.2.2.2.1, .inl ⟨rfl, ?_⟩⟩
                have := hS.out.2.1
                rw [HE.out, if_pos (by omega), hpp.1, hpp.2]
              clear hS
              go_wp2_with fail
              go_end0
              exact ⟨rfl, HZ.out⟩
          · have hc2 : c = 2 ∧ ¬ p0 + 32 + 8 * n ≤ 8 * s.size := by
              rcases hS.out.2.2.2.2 with ⟨h1, _⟩ | ⟨h1, h2⟩
              · exact absurd h1 hc
              · exact ⟨h1, h2⟩
            obtain ⟨rfl, hnn⟩ := hc2
            have HZ : Hid (BlockPost w0 b s most Ty (storedE s most p O) wr) := by
              refine ⟨pp, OO, 2, vo', vt, hS.out.1, hS.out.2.1, hS.out.2.2.1, hS.out.2.2.2.1, .inr ⟨by decide, by decide, ?_⟩⟩
              rw [HE.out, if_neg hnn]
            by_cases hlt : j < n
            · have dl : decide ((j : Int) < (n : Int)) = true := decide_eq_true (by omega)
              clear hS
              go_wp2_with fail
              go_end0
              exact ⟨rfl, HZ.out⟩
            · have dl : decide ((j : Int) < (n : Int)) = false := decide_eq_false (by omega)
              clear hS
              go_wp2_with fail
              go_end0
              exact ⟨rfl, HZ.out⟩
    · have HR : Hid (storedE s most p O = .error 4) := by
        show storedE s most p O = .error 4
        rw [HE.out, if_pos hne]
      have dne : ((x + y) != (65535 : Int)) = true := by simp [hne]
      have HS4' : Hid (RS w0 (w4.setCell ⟨b, 4, none⟩ (.int .i64 4)) b s (p0 + 32) O most 4 Ty vo vt) := HS4.out.setCode 4
      obtain ⟨W4, hW4⟩ : ∃ W, W = w4.setCell ⟨b, 4, none⟩ (.int .i64 4) := ⟨_, rfl⟩
      rw [← hW4] at HS4'
      have HW4 := hid_of hW4
      clear HE HS4 hW4
      have HS4 := HS4'
      clear HS4'
      have k4' : W4.cell? ⟨b, 4, none⟩ = some (.int .i64 4) := HS4.out.1.cells.2.2.2.2.1
      go_wp2_with fail
      rw [← HW4.out]
      clear k4 df
      have dk : ((4 : Int) == 0) = false := by decide
      go_quiet (fail)
      have HS5 := hid_of (HS4.out.drewN nq)
      generalize W4.drewN nq = W5 at HS5
      clear HS4 k4'
      go_wp2_with fail
      go_loopg [4] 1 (fun _ v w' => v = .int .i64 0 ∧ Hid (RS w0 w' b s (p0 + 32) O most 4 Ty vo vt))
      case atStart => exact ⟨rfl, HS5⟩
      case round =>
        obtain ⟨rfl, hS⟩ := hrel
        have k4 : wr.cell? ⟨b, 4, none⟩ = some (.int .i64 4) := hS.out.1.cells.2.2.2.2.1
        have HZ : Hid (BlockPost w0 b s most Ty (storedE s most p O) wr) := ⟨(p0 + 32), O, 4, vo, vt, hS.out, by omega, HBY.out, hO, .inr ⟨by decide, by decide, HR.out⟩⟩
        by_cases hx0 : 0 < x
        · have dx : decide (0 < x) = true := decide_eq_true hx0
          go_wp2_with fail
          go_end0
          exact ⟨rfl, HZ.out⟩
        · have dx : decide (0 < x) = false := decide_eq_false hx0
          go_wp2_with fail
          go_end0
          exact ⟨rfl, HZ.out⟩
  · have HR : Hid (storedE s most p O = .error 2) := by
      show storedE s most p O = .error 2
      rw [HE.out, if_neg h32]
    clear HE
    by_cases h16 : p0 + 16 ≤ 8 * s.size
    · have hf := HB16.out p0 0 vo vt W2 H2.out.1 hwl
      rw [bitsR_ok h16] at hf
      have hxr := num_bd s p0 16
      rw [show p2 16 = 65536 by decide +kernel] at hxr
      generalize num s p0 16 = x at hf hxr
      go_wp2_with fail
      rw [← HW2.out]
      refine hf.mono ?_
      rintro e w3 ⟨rfl, hR3, hg3⟩
      have HS3 := hid_of (H2.out.turned hR3 hg3)
      have hf2 := HB16.out (p0 + 16) 0 vo vt w3 hR3 h16
      rw [bitsR_end (by omega)] at hf2
      clear hf hR3 hg3 d0 d1 df H2 HW2
      go_wp2_with fail
      refine hf2.mono ?_
      rintro e w4 ⟨rfl, hR4, hg4⟩
      have HS4 : Hid (RS w0 w4 b s (p0 + 16) O most 2 Ty vo vt) := HS3.out.turned hR4 hg4
      clear hf2 hR4 hg4 HS3
      have k4 : w4.cell? ⟨b, 4, none⟩ = some (.int .i64 2) := HS4.out.1.cells.2.2.2.2.1
      have dk : ((2 : Int) == 0) = false := by decide
      go_wp2_with fail
      go_quiet (fail)
      have HS5 := hid_of (HS4.out.drewN nq)
      generalize w4.drewN nq = W5 at HS5
      clear HS4 k4
      go_wp2_with fail
      go_loopg [4] 1 (fun _ v w' => v = .int .i64 0 ∧ Hid (RS w0 w' b s (p0 + 16) O most 2 Ty vo vt))
      case atStart => exact ⟨rfl, HS5⟩
      case round =>
        obtain ⟨rfl, hS⟩ := hrel
        have k4 : wr.cell? ⟨b, 4, none⟩ = some (.int .i64 2) := hS.out.1.cells.2.2.2.2.1
        have HZ : Hid (BlockPost w0 b s most Ty (storedE s most p O) wr) := ⟨(p0 + 16), O, 2, vo, vt, hS.out, by omega, HBY.out, hO, .inr ⟨by decide, by decide, HR.out⟩⟩
        by_cases hx0 : 0 < x
        · have dx : decide (0 < x) = true := decide_eq_true hx0
          go_wp2_with fail
          go_end0
          exact ⟨rfl, HZ.out⟩
        · have dx : decide (0 < x) = false := decide_eq_false hx0
          go_wp2_with fail
          go_end0
          exact ⟨rfl, HZ.out⟩
    · have hf := HB16.out p0 0 vo vt W2 H2.out.1 hwl
      rw [bitsR_end h16] at hf
      go_wp2_with fail
      rw [← HW2.out]
      refine hf.mono ?_
      rintro e w3 ⟨rfl, hR3, hg3⟩
      have HS3 := hid_of (H2.out.turned hR3 hg3)
      have hf2 := HB16.out p0 2 vo vt w3 hR3 hwl
      rw [bitsR_bad (by decide)] at hf2
      clear hf hR3 hg3 d0 d1 df H2 HW2
      go_wp2_with fail
      refine hf2.mono ?_
      rintro e w4 ⟨rfl, hR4, hg4⟩
      have HS4 : Hid (RS w0 w4 b s p0 O most 2 Ty vo vt) := HS3.out.turned hR4 hg4
      clear hf2 hR4 hg4 HS3
      have k4 : w4.cell? ⟨b, 4, none⟩ = some (.int .i64 2) := HS4.out.1.cells.2.2.2.2.1
      have dk : ((2 : Int) == 0) = false := by decide
      go_wp2_with fail
      go_quiet (fail)
      have HS5 := hid_of (HS4.out.drewN nq)
      generalize w4.drewN nq = W5 at HS5
      clear HS4 k4
      go_wp2_with fail
      go_loopg [4] 1 (fun _ v w' => v = .int .i64 0 ∧ Hid (RS w0 w' b s p0 O most 2 Ty vo vt))
      case atStart => exact ⟨rfl, HS5⟩
      case round =>
        obtain ⟨rfl, hS⟩ := hrel
        have k4 : wr.cell? ⟨b, 4, none⟩ = some (.int .i64 2) := hS.out.1.cells.2.2.2.2.1
        have HZ : Hid (BlockPost w0 b s most Ty (storedE s most p O) wr) := ⟨p0, O, 2, vo, vt, hS.out, by omega, HBY.out, hO, .inr ⟨by decide, by decide, HR.out⟩⟩
        go_wp2_with fail
        go_end0
        exact ⟨rfl, HZ.out⟩

end Go.Proofs.YtbcnlggkoidmmaaGreatDoor

namespace Go.Proofs.YtbcnlggkoidmmaaGreatDoor
open Go.RowKit Go.Joins InfMath

/-- The first j lengths. -/
def firstJ (f : Nat → Int) (j : Nat) : List Int := (List.range j).map f
theorem firstJ_next (f : Nat → Int) (j : Nat) : firstJ f (j + 1) = firstJ f j ++ [f j] := by simp [firstJ, List.range_succ]
theorem firstJ_length (f : Nat → Int) (j : Nat) : (firstJ f j).length = j := by simp [firstJ]
theorem firstJ_getD (f : Nat → Int) {j i : Nat} (h : i < j) : (firstJ f j).getD i 0 = f i := by simp [firstJ, List.getD_eq_getElem?_getD, List.getElem?_map, List.getElem?_range h]
/-- What the rings have at hand. -/
def FixSt (w w' : World) (v : Value) (j : Nat) : Prop := NumRow w' w.heap.size v (firstJ fixed1 j) ∧ Below w.heap.size w w'
def FixSt2 (w w' : World) (K : Nat) (v v2 : Value) (j : Nat) : Prop := NumRow w' w.heap.size v (firstJ fixed1 288) ∧ NumRow w' K v2 (firstJ fixed2 j) ∧ (∀ k, v.ownBlock = some k → k < K) ∧ Below w.heap.size w w' ∧ w.heap.size ≤ K ∧ K ≤ w'.heap.size

set_option maxHeartbeats 1600000 in
theorem specFixed (w : World) :
    Calls Tryz.prog 85 #[] w fun e w' => ∃ v1 v2 K, e = .returned (.tuple #[v1, v2]) ∧ FixSt2 w w' K v1 v2 32 := by
  have H0 : Hid (FixSt w (w.alloc (.cells #[] 3)) (.slice (some ⟨w.heap.size, 0, none⟩) 0 0) 0) := ⟨NumRow.empty w w.heap.size (Nat.le_refl _), bstart _ _⟩
  go_enter Tryz.func85, Tryz.ntmps85
  go_wp2_with fail
  go_loopg [2, 3] 289 (fun gk v z w' => ∃ j : Nat, j ≤ 288 ∧ z = .int .i64 j ∧ 288 - j ≤ gk ∧ Hid (FixSt w w' v j))
  case atStart => exact ⟨0, Nat.zero_le _, rfl, by omega, H0⟩
  case round =>
    clear H0
    obtain ⟨j, hj, rfl, hk, hS⟩ := hrel
    by_cases hlt : j < 288
    · have dl : decide ((j : Int) < 288) = true := decide_eq_true (by omega)
      have dl2 : (j : Int) < 288 := by omega
      have hs := hS.out.2.size
      have key : ∀ (x : Int), x = fixed1 j → ∀ v1 w1, NumRow w1 w.heap.size v1 (firstJ fixed1 j ++ [x]) → (wr.alloc (.cells #[.int .i64 x] 3)).grownBy w1 u2.ownBlock → Hid (FixSt w w1 v1 (j + 1)) := by
        intro x hx v1 w1 y1 y2
        refine ⟨?_, (bal hS.out.2 _).grown y2 (by simp; omega) (fun q hq => (hS.out.1.lt q hq).1)⟩
        rw [firstJ_next, ← hx]
        exact y1
      have HKEY := hid_of key
      clear key
      by_cases q1 : j < 144
      · have c1 : decide ((144 : Int) ≤ (j : Int)) = false := decide_eq_false (by omega)
        have c2 : ¬ (144 : Int) ≤ (j : Int) := by omega
        have c3 : decide ((256 : Int) ≤ (j : Int)) = false := decide_eq_false (by omega)
        have c4 : ¬ (256 : Int) ≤ (j : Int) := by omega
        go_wp2_with (at_builtin; refine nums_append (S := w.heap.size) (xs := firstJ fixed1 j) (ys := [8]) rfl _ _ rfl rfl (hS.out.1.called (bstart _ _)) (some ⟨wr.heap.size, 0, none⟩) 1 1 rfl rfl (fun ad e => by cases e; exact World.news_of_block (cs := #[.int .i64 (8)]) (t := 3) (fr := (0, 0)) (heap_alloc_new wr _)) (fun h => by cases h) (by rw [firstJ_length]; simp only [List.length_cons, List.length_nil]; omega) (by simp; omega) ?_)
        intro v1 w1 y1 y2
        have HS1 := HKEY.out 8 (by unfold fixed1; rw [if_pos q1]) v1 w1 y1 y2
        clear y1 y2 HKEY hS
        go_wp2_with fail
        go_roundg (288 - (j + 1))
        case measure => omega
        case rel => exact ⟨j + 1, by omega, by go_num, Nat.le_refl _, HS1⟩
      · have c1 : decide ((144 : Int) ≤ (j : Int)) = true := decide_eq_true (by omega)
        have c2 : (144 : Int) ≤ (j : Int) := by omega
        by_cases q2 : j < 256
        · have c3 : decide ((256 : Int) ≤ (j : Int)) = false := decide_eq_false (by omega)
          have c4 : ¬ (256 : Int) ≤ (j : Int) := by omega
          have c5 : decide ((j : Int) < 256) = true := decide_eq_true (by omega)
          have c6 : (j : Int) < 256 := by omega
          go_wp2_with (at_builtin; refine nums_append (S := w.heap.size) (xs := firstJ fixed1 j) (ys := [9]) rfl _ _ rfl rfl (hS.out.1.called (bstart _ _)) (some ⟨wr.heap.size, 0, none⟩) 1 1 rfl rfl (fun ad e => by cases e; exact World.news_of_block (cs := #[.int .i64 (9)]) (t := 3) (fr := (0, 0)) (heap_alloc_new wr _)) (fun h => by cases h) (by rw [firstJ_length]; simp only [List.length_cons, List.length_nil]; omega) (by simp; omega) ?_)
          intro v1 w1 y1 y2
          have HS1 := HKEY.out 9 (by unfold fixed1; rw [if_neg q1, if_pos q2]) v1 w1 y1 y2
          clear y1 y2 HKEY hS
          go_wp2_with fail
          go_roundg (288 - (j + 1))
          case measure => omega
          case rel => exact ⟨j + 1, by omega, by go_num, Nat.le_refl _, HS1⟩
        · have c3 : decide ((256 : Int) ≤ (j : Int)) = true := decide_eq_true (by omega)
          have c4 : (256 : Int) ≤ (j : Int) := by omega
          have c5 : decide ((j : Int) < 256) = false := decide_eq_false (by omega)
          have c6 : ¬ (j : Int) < 256 := by omega
          by_cases q3 : j < 280
          · have c7 : decide ((j : Int) < 280) = true := decide_eq_true (by omega)
            have c8 : (j : Int) < 280 := by omega
            go_wp2_with (at_builtin; refine nums_append (S := w.heap.size) (xs := firstJ fixed1 j) (ys := [7]) rfl _ _ rfl rfl (hS.out.1.called (bstart _ _)) (some ⟨wr.heap.size, 0, none⟩) 1 1 rfl rfl (fun ad e => by cases e; exact World.news_of_block (cs := #[.int .i64 (7)]) (t := 3) (fr := (0, 0)) (heap_alloc_new wr _)) (fun h => by cases h) (by rw [firstJ_length]; simp only [List.length_cons, List.length_nil]; omega) (by simp; omega) ?_)
            intro v1 w1 y1 y2
            have HS1 := HKEY.out 7 (by unfold fixed1; rw [if_neg q1, if_neg q2, if_pos q3]) v1 w1 y1 y2
            clear y1 y2 HKEY hS
            go_wp2_with fail
            go_roundg (288 - (j + 1))
            case measure => omega
            case rel => exact ⟨j + 1, by omega, by go_num, Nat.le_refl _, HS1⟩
          · have c7 : decide ((j : Int) < 280) = false := decide_eq_false (by omega)
            have c8 : ¬ (j : Int) < 280 := by omega
            go_wp2_with (at_builtin; refine nums_append (S := w.heap.size) (xs := firstJ fixed1 j) (ys := [8]) rfl _ _ rfl rfl (hS.out.1.called (bstart _ _)) (some ⟨wr.heap.size, 0, none⟩) 1 1 rfl rfl (fun ad e => by cases e; exact World.news_of_block (cs := #[.int .i64 (8)]) (t := 3) (fr := (0, 0)) (heap_alloc_new wr _)) (fun h => by cases h) (by rw [firstJ_length]; simp only [List.length_cons, List.length_nil]; omega) (by simp; omega) ?_)
            intro v1 w1 y1 y2
            have HS1 := HKEY.out 8 (by unfold fixed1; rw [if_neg q1, if_neg q2, if_neg q3]) v1 w1 y1 y2
            clear y1 y2 HKEY hS
            go_wp2_with fail
            go_roundg (288 - (j + 1))
            case measure => omega
            case rel => exact ⟨j + 1, by omega, by go_num, Nat.le_refl _, HS1⟩
    · obtain rfl : j = 288 := by omega
      have dl : decide (((288 : Nat) : Int) < 288) = false := decide_eq_false (by omega)
      have HS2 : Hid (FixSt2 w (wr.alloc (.cells #[] 3)) wr.heap.size u2 (.slice (some ⟨wr.heap.size, 0, none⟩) 0 0) 0) := ⟨hS.out.1.called (bstart _ _), NumRow.empty wr wr.heap.size (Nat.le_refl _), fun k hk => (hS.out.1.lt k hk).2, bal hS.out.2 _, hS.out.2.size, by simp⟩
      have hKs : wr.heap.size ≤ (wr.alloc (.cells #[] 3)).heap.size := by simp
      clear hS
      go_wp2_with fail
      generalize wr.alloc (.cells #[] 3) = W2 at HS2 hKs
      generalize wr.heap.size = K at HS2 hKs
      go_loopg [5, 6] 33 (fun gk v z w' => ∃ j : Nat, j ≤ 32 ∧ z = .int .i64 j ∧ 32 - j ≤ gk ∧ Hid (FixSt2 w w' K u2 v j))
      case atStart => exact ⟨0, Nat.zero_le _, rfl, by omega, HS2⟩
      case round =>
        clear HS2
        obtain ⟨j, hj, rfl, hk, hS⟩ := hrel
        by_cases hlt : j < 32
        · have dl : decide ((j : Int) < 32) = true := decide_eq_true (by omega)
          have dl2 : (j : Int) < 32 := by omega
          have hs := hS.out.2.2.2.1.size
          have hb2 := hS.out.2.2.2.2.2
          go_wp2_with (at_builtin; refine nums_append (S := K) (xs := firstJ fixed2 j) (ys := [5]) rfl _ _ rfl rfl (hS.out.2.1.called (bstart _ _)) (some ⟨wr.heap.size, 0, none⟩) 1 1 rfl rfl (fun ad e => by cases e; exact World.news_of_block (cs := #[.int .i64 (5)]) (t := 3) (fr := (0, 0)) (heap_alloc_new wr _)) (fun h => by cases h) (by rw [firstJ_length]; simp only [List.length_cons, List.length_nil]; omega) (by simp; omega) ?_)
          intro v1 w1 y1 y2
          have HS1 : Hid (FixSt2 w w1 K u2 v1 (j + 1)) := by
            refine ⟨World.ownsRow.kept (hS.out.1.called (bstart _ _)) y2 ?_, ?_, hS.out.2.2.1, (bal hS.out.2.2.2.1 _).grown y2 (by simp; omega) (fun q hq => Nat.le_trans hS.out.2.2.2.2.1 (World.ownsRow.lt hS.out.2.1 q hq).1), hS.out.2.2.2.2.1, by have := y2.size; simp at this; omega⟩
            · cases e : u2.ownBlock with
              | none => exact .inl rfl
              | some k =>
                refine .inr (fun e1 => ?_)
                have h1 := hS.out.2.2.1 k e
                have h2 := (World.ownsRow.lt hS.out.2.1 k e1.symm).1
                omega
            · rw [firstJ_next]
              exact y1
          clear y1 y2 hS
          go_wp2_with fail
          go_roundg (32 - (j + 1))
          case measure => omega
          case rel => exact ⟨j + 1, by omega, by go_num, Nat.le_refl _, HS1⟩
        · obtain rfl : j = 32 := by omega
          have dl : decide (((32 : Nat) : Int) < 32) = false := decide_eq_false (by omega)
          go_wp2_with fail
          go_ret2
          exact ⟨u2, u5, K, rfl, hS.out⟩

end Go.Proofs.YtbcnlggkoidmmaaGreatDoor
