/-
  The walk of the model's draw of whole lengths.
-/
import Derived.Test.YtpecmolloohklaaRows
import Derived.Test.YtpecmolloohklaaBase
import Derived.Test.YtpecmolloohklaaOutMath
import Derived.Test.YtpecmolloohklaaCodeMath
import Derived.Test.YtpecmolloohklaaRoomMath
import Derived.Test.YtpecmolloohklaaOwnLib
import Derived.Test.YtpecmolloohklaaRowLib
import Derived.Test.YtpecmolloohklaaIntsLib
import Derived.Test.YtpecmolloohklaaDrawLib
import Derived.Test.YtpecmolloohklaaDrawList
import Derived.WalkKit
import Derived.ProofKit
import Derived.WalkLawsBesides
import Derived.Lib.SmallJoins
namespace Go.Proofs.Ytpecmolloohklaa
open Go.RowKit Go.Joins OutMath CodeMath RoomMath

theorem info_whole : (Try.prog.info? 3).map (fun i => (i.zero, i.size, i.bytes)) = some (some (.int .i64 0), 1, 8) := by kernel_rfl

/-- The draw's list holds f 0, .., f (n - 1). -/
def WL (w0 w : World) (base b g n cap : Nat) (f : Nat → Int) : Prop := DL 3 w0 w base b g cap (fints f n)
section
variable {w0 w w' : World} {base b g n cap : Nat} {f : Nat → Int}
theorem WL.cur (h : WL w0 w base b g n cap f) : Cur w base b := h.1
theorem WL.drawn (h : WL w0 w base b g n cap f) (hg : w.grownBy w' (some b)) (hC : Cur w' base b) : WL w0 w' base b g n cap f := DL.drawn h hg hC
theorem WL.cell (h : WL w0 w base b g n cap f) (j : Nat) (hj : j < n) : w.cell? ⟨g, j, none⟩ = some (.int .i64 (f j)) := by
  have hj' : j < (fints f n).length := by rw [fints_length]; exact hj
  rw [DL.cell h j hj', fints_get]
theorem WL.free (h : WL w0 w base b g n cap f) (j : Nat) (hj : j < n) : w.frozen? ⟨g, j, none⟩ = false := DL.free h j (by rw [fints_length]; exact hj)
theorem WL.lt (h : WL w0 w base b g n cap f) : g < w.heap.size ∧ g ≠ b := ⟨h.2.1.lt, h.2.2.1⟩
theorem WL.set (h : WL w0 w base b g n cap f) (j : Nat) (hj : j < n) (x : Int) : WL w0 (w.setCell ⟨g, j, none⟩ (.int .i64 x)) base b g n cap (upd f j x) := by
  have k := DL.set h j (by rw [fints_length]; exact hj) (.int .i64 x)
  rw [fints_set] at k
  exact k
theorem WL.own (h : WL w0 w base b g n cap f) : IOwn w base g n cap f := by
  have k := DL.own h
  rw [fints_length] at k
  exact k
/-- 'append(v, x)'. -/
theorem whole_append {ops : Array Oper} {rest : List Oper} {o : Oper} {a : Act} {Q : Exit → Act → World → Prop} (hgd : o.guard = none) (s y : Operand)
    (hop : o.op = .call { callee := .builtin .append, args := #[s, y], argTypes := #[24, 24] }) (hs : a.eval s = .slice (some ⟨g, 0, none⟩) n cap) (hL : WL w0 w base b g n cap f) (x : Int) (hy : a.eval y = .slice (some ⟨w.heap.size, 0, none⟩) 1 1) (hn : n ≤ 1000)
    (hK : ∀ g' cap' w', WL w0 w' base b g' (n + 1) cap' (upd f n x) → wpList Try.prog ops Q rest (a.put o.dst (.slice (some ⟨g', 0, none⟩) (n + 1) cap')) w') :
    wpList Try.prog ops Q (o :: rest) a (w.alloc (.cells #[.int .i64 x] 3)) := by
  obtain ⟨i0, hi0, hz0, hz1, hz2⟩ := info_parts info_whole
  have hO : Own 3 w base g (.slice (some ⟨g, 0, none⟩) n cap) (fints f n) := hL.own
  refine wpList_append1 hgd s y 24 hop i0 (.int .i64 0) 8 Try.underlying24 hi0 hz0 hz1 hz2 rfl hs (hO.alloc _) ⟨w.heap.size, 0, none⟩ 1 (.int .i64 x) hy (by simp) rfl rfl (by rw [fints_length]; unfold maxLen; omega) (by rw [fints_length]; omega) ?_
  intro g1 v1 w2 hO1 hg1 hgr
  obtain ⟨c1, hv1, hD⟩ := DL.app hL hO1 (by simpa using hg1) hgr
  rw [fints_app] at hD
  rw [fints_length] at hv1
  subst hv1
  exact hK g1 c1 w2 hD
end

set_option maxHeartbeats 1600000 in
theorem draw_whole (a : Option Addr) (len cap : Nat) (base : Nat) (w : World) (hK : CodeAt w base a len) (hlen : len ≤ 1048576) (hbase : base ≤ w.heap.size) :
    Calls Try.prog 13 #[.slice a len cap] w fun e w' => ∃ (g n cap : Nat) (f : Nat → Int), e = .returned (.slice (some ⟨g, 0, none⟩) n cap) ∧ 2 ≤ n ∧ n ≤ 20 ∧ Whole f n ∧ IOwn w' base g n cap f ∧ Below base w w' := by
  have HK : Hid (CodeAt w base a len) := hK
  clear hK
  go_enter Try.func13, Try.ntmps13
  go_wp2_with fail
  refine (draw_new a len cap base w HK.out hlen hbase).mono ?_
  rintro e w1 ⟨rfl, hC1, o, rfl⟩
  have H0 : Hid (WL w ((w.alloc o).alloc (.cells #[.int .i64 1, .int .i64 1] 3)) base w.heap.size (w.heap.size + 1) 2 2 (fun _ => 1)) := by
    have hl := hC1.lt
    have hb := hC1.base_le
    have hz : (w.alloc o).heap.size = w.heap.size + 1 := by simp
    refine ⟨hC1.alloc _, ⟨2, #[.int .i64 1, .int .i64 1], (0, 0), rfl, by omega, ?_, .inl rfl, by rw [fints_length]; exact Nat.le_refl _, by unfold maxLen; omega, rfl, rfl⟩, by omega, ((Below.refl base w).alloc hbase o).alloc (by omega) _⟩
    rw [← hz]
    exact heap_alloc_new (w.alloc o) _
  clear hC1
  go_wp2_with fail
  go_loopw [4, 5] (fun v i w' => ∃ (j n g cap : Nat) (f : Nat → Int), j ≤ 14 ∧ 2 ≤ n ∧ n ≤ j + 2 ∧ i = .int .i64 j ∧ v = .slice (some ⟨g, 0, none⟩) n cap ∧ Hid (Whole f n) ∧ Hid (WL w w' base w.heap.size g n cap f)) (fun _ i _ => 14 - (intOf i).toNat)
  case atStart => exact ⟨0, 2, w.heap.size + 1, 2, _, by omega, by omega, by omega, rfl, rfl, whole_start, H0⟩
  case round =>
    clear H0
    obtain ⟨j, n, g, cap, f, hj, hn1, hn2, rfl, rfl, hW, hL⟩ := hrel
    go_wp2_with fail
    refine (draw_below base _ _ _ hL.out.cur).mono ?_
    rintro e w1 ⟨x, rfl, hx, hC1, hg1⟩
    have HL1 : Hid (WL w w1 base w.heap.size g n cap f) := hL.out.drawn hg1 hC1
    have hx1 : 0 ≤ x ∧ x < 14 := ⟨hx.1, hx.2.1 (by omega)⟩
    clear hC1 hg1 hx hL
    by_cases hlt : (j : Int) < x
    · go_wp2_with fail
      refine (draw_below base _ _ _ HL1.out.cur).mono ?_
      rintro e w2 ⟨y, rfl, hy, hC2, hg2⟩
      have HL2 : Hid (WL w w2 base w.heap.size g n cap f) := HL1.out.drawn hg2 hC2
      have hy1 : 0 ≤ y ∧ y < n := ⟨hy.1, hy.2.1 (by omega)⟩
      clear hC2 hg2 hy HL1
      obtain ⟨k, rfl⟩ := Int.eq_ofNat_of_zero_le hy1.1
      have hkn : k < n := by omega
      have hz := HL2.out.cell k hkn
      have hzf := HL2.out.free k hkn
      have hzb := hW.out.1 k hkn
      have hlg := HL2.out.lt
      by_cases h15 : f k < 15
      · have HL3 : Hid (WL w (w2.setCell ⟨g, k, none⟩ (.int .i64 (f k + 1))) base w.heap.size g n cap (upd f k (f k + 1))) := HL2.out.set k hkn (f k + 1)
        have hsz : (w2.setCell ⟨g, k, none⟩ (.int .i64 (f k + 1))).heap.size = w2.heap.size := by simp
        have HWn : Hid (Whole (upd (upd f k (f k + 1)) n (f k + 1)) (n + 1)) := whole_split hW.out hkn h15
        go_wp2_with (at_builtin; refine whole_append rfl _ _ rfl rfl HL3.out (f k + 1) ?c1 (by omega) ?_)
        case c1 => rw [hsz]; rfl
        · intro g1 c1 w3 hL3
          have HL4 : Hid (WL w w3 base w.heap.size g1 (n + 1) c1 (upd (upd f k (f k + 1)) n (f k + 1))) := hL3
          clear hL3 HL3 hz hzf hsz
          go_wp2_with fail
          go_roundw
          case rel => exact ⟨j + 1, n + 1, g1, c1, _, by omega, by omega, by omega, by go_num, rfl, HWn, HL4⟩
          case measure => simp [intOf]; omega
      · have d : decide (f k < 15) = false := by simpa using h15
        go_wp2_with fail
        go_roundw
        case rel => exact ⟨j + 1, n, g, cap, f, by omega, by omega, by omega, by go_num, rfl, hW, HL2⟩
        case measure => simp [intOf]; omega
    · go_wp2_with fail
      have hn0 : n ≤ 16 := by omega
      clear hj hn2 hx1 hlt
      go_loopw [7] (fun i w' => ∃ (j : Nat) (f : Nat → Int), j ≤ n ∧ i = .int .i64 j ∧ Hid (Whole f n) ∧ Hid (WL w w' base w.heap.size g n cap f)) (fun i _ => n - (intOf i).toNat)
      case atStart => exact ⟨0, f, by omega, rfl, hW, HL1⟩
      case round =>
        clear HL1 hW
        obtain ⟨j3, f3, hj, rfl, hW, hL⟩ := hrel
        by_cases hlt : j3 < n
        · go_wp2_with fail
          refine (draw_below base _ _ _ hL.out.cur).mono ?_
          rintro e w5 ⟨y, rfl, hy, hC2, hg2'⟩
          have HL2 : Hid (WL w w5 base w.heap.size g n cap f3) := hL.out.drawn hg2' hC2
          have hy1 : 0 ≤ y ∧ y < n := ⟨hy.1, hy.2.1 (by omega)⟩
          clear hC2 hg2' hy hL
          obtain ⟨k, rfl⟩ := Int.eq_ofNat_of_zero_le hy1.1
          have hkn : k < n := by omega
          have hz := HL2.out.cell k hkn
          have hzf := HL2.out.free k hkn
          have hu := HL2.out.cell j3 hlt
          have huf := HL2.out.free j3 hlt
          have hlg := HL2.out.lt
          have HL3 : Hid (WL w (w5.setCell ⟨g, j3, none⟩ (.int .i64 (f3 k))) base w.heap.size g n cap (upd f3 j3 (f3 k))) := HL2.out.set j3 hlt (f3 k)
          have HL4 : Hid (WL w ((w5.setCell ⟨g, j3, none⟩ (.int .i64 (f3 k))).setCell ⟨g, k, none⟩ (.int .i64 (f3 j3))) base w.heap.size g n cap (upd (upd f3 j3 (f3 k)) k (f3 j3))) := HL3.out.set k hkn (f3 j3)
          have hz' := HL3.out.cell k hkn
          have hzf' := HL3.out.free k hkn
          have HWn : Hid (Whole (upd (upd f3 j3 (f3 k)) k (f3 j3)) n) := whole_swap hW.out hlt hkn
          go_wp2_with fail
          go_roundw
          case rel => exact ⟨j3 + 1, _, by omega, by go_num, HWn, HL4⟩
          case measure => simp [intOf]; omega
        · go_wp2_with fail
          go_ret
          exact ⟨g, n, cap, f3, rfl, hn1, by omega, hW.out, hL.out.own, hL.out.2.2.2⟩

end Go.Proofs.Ytpecmolloohklaa
