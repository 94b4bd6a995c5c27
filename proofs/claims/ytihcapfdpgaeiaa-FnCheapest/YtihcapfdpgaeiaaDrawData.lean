/-
  The walk of the model's draw of a text with repeats.
-/
import Derived.Test.YtihcapfdpgaeiaaRows
import Derived.Test.YtihcapfdpgaeiaaBase
import Derived.Test.YtihcapfdpgaeiaaRowLib
import Derived.Test.YtihcapfdpgaeiaaOwnLib
import Derived.Test.YtihcapfdpgaeiaaDrawLib
import Derived.Test.YtihcapfdpgaeiaaDrawOnce
import Derived.Test.YtihcapfdpgaeiaaDrawPick
import Derived.Test.YtihcapfdpgaeiaaDrawSize
import Derived.Test.YtihcapfdpgaeiaaTokMath
import Derived.Test.YtihcapfdpgaeiaaByteLib
import Derived.WalkKit
import Derived.ProofKit
import Derived.WalkLawsBesides
import Derived.Below
import Derived.Deep.LoopGhost
import Derived.Lib.SmallJoins
namespace Go.Proofs.Ytihcapfdpgaeiaa
open Go.RowKit Go.Joins TokMath

/-- What is drawn so far: the cursor, and the bytes. -/
def ByD (w0 w : World) (base b g n cap : Nat) (O : List Int) : Prop := Cur w base b ∧ BOwn w base g n cap O ∧ Below base w0 w ∧ g ≠ b
section
variable {w0 w w' : World} {base b g n cap : Nat} {O : List Int}
theorem ByD.drawn (h : ByD w0 w base b g n cap O) (hg : w.grownBy w' (some b)) (hC : Cur w' base b) : ByD w0 w' base b g n cap O := by
  obtain ⟨h1, h2, h3, h4⟩ := h
  exact ⟨hC, h2.keep (hg.block g h2.lt (fun e => h4 (Option.some.inj e))), h3.trans (below_of_grown hg h1.base_le h1.lt), h4⟩
theorem ByD.called (h : ByD w0 w base b g n cap O) (hb : Below w.heap.size w w') : ByD w0 w' base b g n cap O := by
  obtain ⟨h1, h2, h3, h4⟩ := h
  have hl := h1.lt
  have hbb := h1.base_le
  exact ⟨h1.keep (hb.block _ hl) (hb.mono (by omega)), h2.called hb, h3.trans (hb.mono (by omega)), h4⟩
theorem ByD.app {x : Int} {o : Obj} {g1 cap1 : Nat} (h : ByD w0 w base b g n cap O) (hO : BOwn w' base g1 (n + 1) cap1 (O ++ [x])) (hg : g1 = g ∨ w.heap.size + 1 ≤ g1) (hgr : (w.alloc o).grownBy w' (some g)) : ByD w0 w' base b g1 (n + 1) cap1 (O ++ [x]) := by
  have hA := h.called (bstart w o)
  obtain ⟨h1, h2, h3, h4⟩ := hA
  have hb := h2.base_le
  have hl := h2.lt
  have hlb := h.1.lt
  refine ⟨h1.grown hgr (fun e => h4 (Option.some.inj e)) (fun k hk => by cases hk; exact hb), hO, h3.grown hgr (by omega) (fun k hk => by cases hk; exact hb), ?_⟩
  rcases hg with e | e
  · rw [e]; exact h4
  · omega
end

set_option maxHeartbeats 8000000 in
theorem draw_text7 (base b : Nat) (n : Nat) (w : World) (hC : Cur w base b) (hn : n ≤ 300) :
    Calls Try.prog 25 #[.pointer (some ⟨b, 0, none⟩), .int .i64 (n : Int)] w fun e w' => ∃ s : ByteArray, e = .returned (.string s) ∧ s.size ≤ 400 ∧ Below base w w' := by
  have H0 : Hid (ByD w (w.alloc (.cells #[] 5)) base b w.heap.size 0 0 []) := by
    have h1 := hC.lt
    have h2 := hC.base_le
    refine ⟨hC.alloc _, ⟨rfl, 0, #[], (0, 0), rfl, by omega, heap_alloc_new w _, .inl rfl, Nat.le_refl _, Nat.zero_le _, rfl, rfl⟩, (Below.refl base w).alloc (by omega) _, by omega⟩
  clear hC
  go_enter Try.func25, Try.ntmps25
  go_wp2_with fail
  refine (draw_below base b ((n : Int) + 1) _ H0.out.1).mono ?_
  rintro e w1 ⟨q, rfl, hq, hC1, hg1⟩
  have hq0 := hq.1
  have hq1 := hq.2.1 (by omega)
  have H1 := hid_of (H0.out.drawn hg1 hC1)
  obtain ⟨W, rfl⟩ := Int.eq_ofNat_of_zero_le hq0
  have hW : W ≤ 300 := by omega
  obtain ⟨gz, hgz⟩ : ∃ gz, gz = w.heap.size := ⟨_, rfl⟩
  have H2 : Hid (ByD w w1 base b gz 0 0 []) := by rw [hgz]; exact H1
  rw [← hgz]
  clear hq hq0 hq1 hC1 hg1 H0 H1 hgz
  go_wp2_with fail
  go_loopg [5] (W + 1) (fun gk v w' => ∃ (g m cp : Nat) (O : List Int), v = .slice (some ⟨g, 0, none⟩) m cp ∧ W - m ≤ gk ∧ m ≤ W + 13 ∧ Hid (ByD w w' base b g m cp O))
  case atStart => exact ⟨gz, 0, 0, [], rfl, by omega, by omega, H2⟩
  case round =>
    clear H2
    obtain ⟨g, m, cp, O, rfl, hgk, hm, hS⟩ := hrel
    by_cases hlt : m < W
    · have dl : decide ((m : Int) < (W : Int)) = true := decide_eq_true (by omega)
      by_cases h3 : 3 < m
      · have d3 : decide ((3 : Int) < (m : Int)) = true := decide_eq_true (by omega)
        have d3' : decide (3 < m) = true := decide_eq_true h3
        go_wp2_with fail
        refine (draw_once base b 2 _ hS.out.1).mono ?_
        rintro e w2 ⟨bo, rfl, hC2, hg2⟩
        have H2 := hid_of (hS.out.drawn hg2 hC2)
        clear hC2 hg2 hS
        cases bo
        · go_wp2_with fail
          refine (draw_byte base b _ H2.out.1).mono ?_
          rintro e w5 ⟨xb, rfl, hb0, hb1, hC5, hg5⟩
          have H5 := hid_of (H2.out.drawn hg5 hC5)
          have H6 := hid_of (H5.out.called (bstart w5 (.cells #[.int .i64 97, .int .i64 98, .int .i64 99, .int .i64 0, .int .i64 200, .int .i64 xb] 3)))
          have hlb := H5.out.1.lt
          clear hC5 hg5 H2
          go_wp2_with fail
          refine (draw_pickInt base b w5.heap.size 6 6 (fun x => 0 ≤ x ∧ x ≤ 255) _ H6.out.1 (by omega) (by omega) (by simp) (fun j hj => ?_)).mono ?_
          · match j, hj with
            | 0, _ => exact ⟨97, by simp, by omega, by omega⟩
            | 1, _ => exact ⟨98, by simp, by omega, by omega⟩
            | 2, _ => exact ⟨99, by simp, by omega, by omega⟩
            | 3, _ => exact ⟨0, by simp, by omega, by omega⟩
            | 4, _ => exact ⟨200, by simp, by omega, by omega⟩
            | 5, _ => exact ⟨xb, by simp, by omega, by omega⟩
          rintro e w6 ⟨x, rfl, ⟨hx0, hx1⟩, hC6, hg6⟩
          have H7 := hid_of (H6.out.drawn hg6 hC6)
          clear hC6 hg6 H6 H5
          have hw8 : IntKind.u8.wrap x = x := by
            simp [IntKind.wrap, IntKind.bits, IntKind.signed]
            omega
          go_wp2_with (at_builtin; refine bytes_append (base := base) (O := O) rfl _ _ rfl rfl (H7.out.2.1.called (bstart _ _)) w6.heap.size 1 x rfl (by simp) (by omega) ?_)
          intro g1 cap1 w7 y1 y2 y3
          have H8 := hid_of (H7.out.app y1 (by simpa using y2) y3)
          clear y1 y2 y3 H7
          go_wp2_with fail
          go_roundg (W - (m + 1))
          case measure => omega
          case rel => exact ⟨g1, m + 1, cap1, _, rfl, Nat.le_refl _, by omega, H8⟩
        · go_wp2_with fail
          refine (draw_below base b (m : Int) _ H2.out.1).mono ?_
          rintro e w3 ⟨q, rfl, hq, hC3, hg3⟩
          have hq0 := hq.1
          have hq1 := hq.2.1 (by omega)
          obtain ⟨fr, rfl⟩ := Int.eq_ofNat_of_zero_le hq0
          have hfr : fr < m := by omega
          have H3 := hid_of (H2.out.drawn hg3 hC3)
          clear hq hq0 hq1 hC3 hg3 H2
          go_wp2_with fail
          go_loopg [5, 8] 14 (fun gk v y w' => ∃ (k g2 cp2 : Nat) (O2 : List Int), k ≤ 13 ∧ 13 - k ≤ gk ∧ y = .int .i64 (k : Int) ∧ v = .slice (some ⟨g2, 0, none⟩) (m + k) cp2 ∧ Hid (ByD w w' base b g2 (m + k) cp2 O2))
          case atStart => exact ⟨0, g, cp, O, by omega, by omega, rfl, rfl, H3⟩
          case round =>
            clear H3
            obtain ⟨k, g2, cp2, O2, hk, hgk2, rfl, rfl, hS2⟩ := hrel
            go_wp2_with fail
            refine (draw_below base b 12 _ hS2.out.1).mono ?_
            rintro e w4 ⟨q, rfl, hq, hC4, hg4⟩
            have hq0 := hq.1
            have hq1 := hq.2.1 (by omega)
            have H4 := hid_of (hS2.out.drawn hg4 hC4)
            clear hq hC4 hg4 hS2
            by_cases hkq : (k : Int) < 2 + q
            · have dk : decide ((k : Int) < 2 + q) = true := decide_eq_true hkq
              have k1 : ((fr : Int) + (k : Int)).toNat = fr + k := by omega
              have k2 : (0 : Int) ≤ (fr : Int) + (k : Int) := by omega
              have k3 : (fr : Int) + (k : Int) < ((m + k : Nat) : Int) := by omega
              have k4 : (fr : Int) + (k : Int) < (m : Int) + (k : Int) := by omega
              have cq := H4.out.2.1.cell (fr + k) (by omega)
              have mg := H4.out.2.1.lt
              obtain ⟨x, hx⟩ : ∃ x, x = O2.getD (fr + k) 0 := ⟨_, rfl⟩
              rw [← hx] at cq
              clear hx
              go_wp2_with (at_builtin; refine bytes_append (base := base) (O := O2) rfl _ _ rfl rfl (H4.out.2.1.called (bstart _ _)) w4.heap.size 1 x rfl (by simp) (by omega) ?_)
              intro g1 cap1 w7 y1 y2 y3
              have H8 := hid_of (H4.out.app y1 (by simpa using y2) y3)
              clear y1 y2 y3 H4
              go_wp2_with fail
              go_roundg (13 - (k + 1))
              case measure => omega
              case rel => exact ⟨k + 1, g1, cap1, _, by omega, Nat.le_refl _, by go_num, rfl, H8⟩
            · have dk : decide ((k : Int) < 2 + q) = false := decide_eq_false hkq
              go_wp2_with fail
              go_roundg (W - (m + k))
              case measure => omega
              case rel => exact ⟨g2, m + k, cp2, O2, rfl, Nat.le_refl _, by omega, H4⟩
      · have d3 : decide ((3 : Int) < (m : Int)) = false := decide_eq_false (by omega)
        have d3' : decide (3 < m) = false := decide_eq_false h3
        go_wp2_with fail
        refine (draw_byte base b _ hS.out.1).mono ?_
        rintro e w5 ⟨xb, rfl, hb0, hb1, hC5, hg5⟩
        have H5 := hid_of (hS.out.drawn hg5 hC5)
        have H6 := hid_of (H5.out.called (bstart w5 (.cells #[.int .i64 97, .int .i64 98, .int .i64 99, .int .i64 0, .int .i64 200, .int .i64 xb] 3)))
        have hlb := H5.out.1.lt
        clear hC5 hg5 hS
        go_wp2_with fail
        refine (draw_pickInt base b w5.heap.size 6 6 (fun x => 0 ≤ x ∧ x ≤ 255) _ H6.out.1 (by omega) (by omega) (by simp) (fun j hj => ?_)).mono ?_
        · match j, hj with
          | 0, _ => exact ⟨97, by simp, by omega, by omega⟩
          | 1, _ => exact ⟨98, by simp, by omega, by omega⟩
          | 2, _ => exact ⟨99, by simp, by omega, by omega⟩
          | 3, _ => exact ⟨0, by simp, by omega, by omega⟩
          | 4, _ => exact ⟨200, by simp, by omega, by omega⟩
          | 5, _ => exact ⟨xb, by simp, by omega, by omega⟩
        rintro e w6 ⟨x, rfl, ⟨hx0, hx1⟩, hC6, hg6⟩
        have H7 := hid_of (H6.out.drawn hg6 hC6)
        clear hC6 hg6 H6 H5
        have hw8 : IntKind.u8.wrap x = x := by
          simp [IntKind.wrap, IntKind.bits, IntKind.signed]
          omega
        go_wp2_with (at_builtin; refine bytes_append (base := base) (O := O) rfl _ _ rfl rfl (H7.out.2.1.called (bstart _ _)) w6.heap.size 1 x rfl (by simp) (by omega) ?_)
        intro g1 cap1 w7 y1 y2 y3
        have H8 := hid_of (H7.out.app y1 (by simpa using y2) y3)
        clear y1 y2 y3 H7
        go_wp2_with fail
        go_roundg (W - (m + 1))
        case measure => omega
        case rel => exact ⟨g1, m + 1, cap1, _, rfl, Nat.le_refl _, by omega, H8⟩
    · have dl : decide ((m : Int) < (W : Int)) = false := decide_eq_false (by omega)
      have hct := bown_text (k := 0) (c := cp) hS.out.2.1 (Nat.zero_le _)
      rw [Nat.sub_zero, List.drop_zero] at hct
      have HZ : Hid ((strOfNums O).size ≤ 400 ∧ Below base w wr) := by
        refine ⟨?_, hS.out.2.2.1⟩
        have h1 := hS.out.2.1.1
        rw [strOfNums_size]
        omega
      go_wp2_with fail
      go_ret
      exact ⟨_, rfl, HZ.out⟩

set_option maxHeartbeats 800000 in
theorem draw_data (a : Option Addr) (len cap : Nat) (base : Nat) (w : World) (hK : CodeAt w base a len) (hlen : len ≤ 1048576) (hbase : base ≤ w.heap.size) :
    Calls Try.prog 10 #[.slice a len cap] w fun e w' => ∃ s : ByteArray, e = .returned (.string s) ∧ s.size ≤ 400 ∧ Below base w w' := by
  have HK : Hid (CodeAt w base a len) := hK
  clear hK
  go_enter Try.func10, Try.ntmps10
  go_wp2_with fail
  refine (draw_new a len cap base w HK.out hlen hbase).mono ?_
  rintro e w1 ⟨rfl, hC1, o, rfl⟩
  have HB1 : Hid (Below base w (w.alloc o)) := (Below.refl base w).alloc hbase o
  obtain ⟨b, hb⟩ : ∃ b, b = w.heap.size := ⟨_, rfl⟩
  have HC1 : Hid (Cur (w.alloc o) base b) := by rw [hb]; exact hC1
  clear hC1
  generalize w.alloc o = w2 at *
  rw [← hb]
  clear hb hbase
  go_wp2_with fail
  refine (draw_size a len cap _ hlen).mono ?_
  rintro e w3 ⟨n, rfl, hn0, hn1, rfl⟩
  obtain ⟨k, rfl⟩ := Int.eq_ofNat_of_zero_le (show 0 ≤ n by omega)
  have hdt := draw_text7 base b k w3 HC1.out (by omega)
  go_wp2_with fail
  refine hdt.mono ?_
  rintro e w5 ⟨s, rfl, hs, hB⟩
  have HZ := hid_of (And.intro hs (HB1.out.trans hB))
  clear hs hB hdt
  go_wp2_with fail
  go_ret
  exact ⟨s, rfl, HZ.out⟩

end Go.Proofs.Ytihcapfdpgaeiaa
