/-
  The walks of the program's small functions on rasters: channels, depths, sides, rows' bytes.
  Bytes of the call's own, by a function: made, stored, and their text.
  The walk of the program's UnpackRow.
  The walk of the program's PackRow.
-/
import Derived.Test.YtmanafegckibjaaDoorRows
import Derived.Test.YtmanafegckibjaaDoorRk01
import Derived.Test.YtmanafegckibjaaDoorRk02
import Derived.Test.YtmanafegckibjaaDoorRk08
import Derived.Test.YtmanafegckibjaaDoorRk09
import Derived.Test.YtmanafegckibjaaDoorRk14
import Derived.Test.YtmanafegckibjaaDoorRk10
import Derived.WalkKit
import Derived.ProofKit
import Derived.WalkLawsBesides
import Derived.Below
import Derived.Lib.SmallJoins
import Derived.Laws.MakeOwn
import Derived.OwnWalk
import Derived.RegionTactic
import Derived.BigRegion
import Derived.Deep.RegionWith
namespace Go.Proofs.YtmanafegckibjaaDoor
open Go.RowKit Go.Joins RastMath

theorem beq_of1 {a b : Int} (h : a = b) : (a == b) = true := by simpa using h
theorem beq_no1 {a b : Int} (h : ¬ a = b) : (a == b) = false := by simpa using h
/-- What slices.Index answers of a list of numbers. -/
def IdxPost (f : Nat → Int) (n : Nat) (x : Int) (w : World) (e : Ending) (w' : World) : Prop := ∃ z : Int, e = .returned (.int .i64 z) ∧ (0 ≤ z ↔ ∃ i, i < n ∧ f i = x) ∧ w' = w
set_option maxHeartbeats 800000 in
theorem index_any (a : Option Addr) (n cap : Nat) (f : Nat → Int) (x : Int) (w : World) (hC : Came w a n f) (hn : n ≤ 1048576) :
    Calls Tryd.prog 67 #[.slice a n cap, .int .i64 x] w (IdxPost f n x w) := by
  have HC := hid_of hC
  clear hC
  go_enter Tryd.func67, Tryd.ntmps67
  go_wp2_with fail
  go_loop [8] (fun i => ∃ j : Nat, j ≤ n ∧ i = .int .i64 j ∧ Hid (∀ i, i < j → ¬ f i = x)) (fun i => n - (intOf i).toNat)
  case atStart => exact ⟨0, Nat.zero_le _, rfl, fun i hi => absurd hi (Nat.not_lt_zero i)⟩
  case round =>
    obtain ⟨j, hj, rfl, hok⟩ := hrel
    by_cases hlt : j < n
    · rcases HC.out with h0 | ⟨g, off, rfl, hg, hc⟩
      · omega
      · have c0 := hc j hlt
        clear hc
        by_cases hin : f j = x
        · have HK : Hid (∃ i, i < n ∧ f i = x) := ⟨j, hlt, hin⟩
          have d0 : (x == f j) = true := beq_of1 hin.symm
          clear hin
          go_wp2_with fail
          go_ret
          exact ⟨(j : Int), rfl, ⟨fun _ => HK.out, fun _ => by omega⟩, rfl⟩
        · have HN : Hid (∀ i, i < j + 1 → ¬ f i = x) := fun i hi => by
            by_cases e : i = j
            · rw [e]; exact hin
            · exact hok.out i (by omega)
          have d0 : (x == f j) = false := beq_no1 fun h => hin h.symm
          clear hin
          go_wp2_with fail
          go_round
          case rel => exact ⟨j + 1, by omega, by go_num, HN⟩
          case measure => simp [intOf]; omega
    · obtain rfl : j = n := by omega
      go_wp2_with fail
      go_ret
      exact ⟨-1, rfl, ⟨fun h => absurd h (by omega), fun ⟨i, hi, h⟩ => absurd h (hok.out i hi)⟩, rfl⟩
def ContPost (f : Nat → Int) (n : Nat) (x : Int) (w : World) (e : Ending) (w' : World) : Prop := e = .returned (.bool (decide (∃ i, i < n ∧ f i = x))) ∧ w' = w
theorem contains_any (a : Option Addr) (n cap : Nat) (f : Nat → Int) (x : Int) (w : World) (hC : Came w a n f) (hn : n ≤ 1048576) :
    Calls Tryd.prog 66 #[.slice a n cap, .int .i64 x] w (ContPost f n x w) := by
  have h := index_any a n cap f x w hC hn
  clear hC
  go_enter Tryd.func66, Tryd.ntmps66
  go_wp2_with fail
  refine h.mono ?_
  rintro e w1 ⟨z, rfl, hz, rfl⟩
  have hd : decide (0 ≤ z) = decide (∃ i, i < n ∧ f i = x) := decide_eq_decide.mpr hz
  have HD := hid_of hd
  clear hz hd h
  go_wp2_with fail
  go_ret
  refine ⟨?_, rfl⟩
  rw [HD.out]
  rfl
def fiveL (i : Nat) : Int := [1, 2, 4, 8, 16].getD i 0
theorem five_has (d : Int) : (∃ i, i < 5 ∧ fiveL i = d) ↔ Five d := by
  unfold Five fiveL
  constructor
  · rintro ⟨i, hi, rfl⟩
    match i, hi with
    | 0, _ => simp
    | 1, _ => simp
    | 2, _ => simp
    | 3, _ => simp
    | 4, _ => simp
    | k + 5, hk => omega
  · rintro (rfl | rfl | rfl | rfl | rfl)
    · exact ⟨0, by omega, rfl⟩
    · exact ⟨1, by omega, rfl⟩
    · exact ⟨2, by omega, rfl⟩
    · exact ⟨3, by omega, rfl⟩
    · exact ⟨4, by omega, rfl⟩
theorem isDepth_any (d : Int) (w : World) : Calls Tryd.prog 65 #[.int .i64 d] w fun e w' => e = .returned (.bool (decide (Five d))) ∧ Below w.heap.size w w' := by
  have h : Hid (∀ W : World, W = w.alloc (.cells #[.int .i64 1, .int .i64 2, .int .i64 4, .int .i64 8, .int .i64 16] 3) → Calls Tryd.prog 66 #[.slice (some ⟨w.heap.size, 0, none⟩) 5 5, .int .i64 d] W fun e w' => e = .returned (.bool (decide (Five d))) ∧ w' = W) := by
    rintro W rfl
    have hc : Came (w.alloc (.cells #[.int .i64 1, .int .i64 2, .int .i64 4, .int .i64 8, .int .i64 16] 3)) (some ⟨w.heap.size, 0, none⟩) 5 fiveL := by
      refine .inr ⟨w.heap.size, 0, rfl, by simp, fun j hj => ?_⟩
      rw [Nat.zero_add, cell_of_block (heap_alloc_new w _) j]
      match j, hj with
      | 0, _ => rfl
      | 1, _ => rfl
      | 2, _ => rfl
      | 3, _ => rfl
      | 4, _ => rfl
      | k + 5, hk => omega
    refine (contains_any (some ⟨w.heap.size, 0, none⟩) 5 5 fiveL d _ hc (by omega)).mono ?_
    rintro e w' ⟨rfl, rfl⟩
    refine ⟨?_, rfl⟩
    rw [decide_eq_decide.mpr (five_has d)]
  have hB := hid_of (bstart w (.cells #[.int .i64 1, .int .i64 2, .int .i64 4, .int .i64 8, .int .i64 16] 3))
  generalize decide (Five d) = b at h ⊢
  go_enter Tryd.func65, Tryd.ntmps65
  go_wp2_with fail
  refine (h.out _ rfl).mono ?_
  rintro e w1 ⟨rfl, rfl⟩
  go_wp2_with fail
  go_ret
  exact ⟨rfl, hB.out⟩
theorem isSide_any (n : Int) (w : World) : Calls Tryd.prog 35 #[.int .i64 n] w fun e w' => e = .returned (.bool (decide (SideR n))) ∧ w' = w := by
  by_cases h1 : 1 ≤ n
  · have d1 : decide (1 ≤ n) = true := decide_eq_true h1
    have hh : decide (SideR n) = decide (n ≤ 24) := decide_eq_decide.mpr ⟨fun h => h.2, fun h => ⟨h1, h⟩⟩
    rw [hh]
    clear h1 hh
    generalize hb : decide (n ≤ 24) = b
    go_enter Tryd.func35, Tryd.ntmps35
    go_wp2_with fail
    go_ret
    exact ⟨rfl, rfl⟩
  · have d1 : decide (1 ≤ n) = false := decide_eq_false h1
    rw [decide_eq_false (fun h : SideR n => h1 h.1)]
    clear h1
    go_enter Tryd.func35, Tryd.ntmps35
    go_wp2_with fail
    go_ret
    exact ⟨rfl, rfl⟩
theorem implChannels (c : Int) (w : World) : Calls Tryd.prog 62 #[.int .i64 c] w fun e w' => e = .returned (.int .i64 (chan c)) ∧ w' = w := by
  unfold chan
  by_cases h0 : c = 0
  · subst h0
    go_enter Tryd.func62, Tryd.ntmps62
    go_wp2_with fail
    go_ret
    exact ⟨rfl, rfl⟩
  by_cases h3 : c = 3
  · subst h3
    go_enter Tryd.func62, Tryd.ntmps62
    go_wp2_with fail
    go_ret
    exact ⟨rfl, rfl⟩
  by_cases h2 : c = 2
  · subst h2
    go_enter Tryd.func62, Tryd.ntmps62
    go_wp2_with fail
    go_ret
    exact ⟨rfl, rfl⟩
  by_cases h4 : c = 4
  · subst h4
    go_enter Tryd.func62, Tryd.ntmps62
    go_wp2_with fail
    go_ret
    exact ⟨rfl, rfl⟩
  by_cases h6 : c = 6
  · subst h6
    go_enter Tryd.func62, Tryd.ntmps62
    go_wp2_with fail
    go_ret
    exact ⟨rfl, rfl⟩
  rw [if_neg (by omega), if_neg h2, if_neg h4, if_neg h6]
  have b0 := beq_no1 h0
  have b3 := beq_no1 h3
  have b2 := beq_no1 h2
  have b4 := beq_no1 h4
  have b6 := beq_no1 h6
  go_enter Tryd.func62, Tryd.ntmps62
  go_wp2_with fail
  go_ret
  exact ⟨rfl, rfl⟩
theorem implDepth (c d : Int) (w : World) : Calls Tryd.prog 59 #[.int .i64 c, .int .i64 d] w fun e w' => e = .returned (.bool (decide (DepthR c d))) ∧ Below w.heap.size w w' := by
  by_cases h0 : c = 0
  · subst h0
    have h := isDepth_any d
    rw [show decide (Five d) = decide (DepthR 0 d) from decide_eq_decide.mpr ⟨fun h => .inl ⟨rfl, h⟩, depth_five⟩] at h
    generalize decide (DepthR 0 d) = b at h ⊢
    go_enter Tryd.func59, Tryd.ntmps59
    go_wp2_with fail
    refine (h _).mono ?_
    rintro e w1 ⟨rfl, hB⟩
    have HB := hid_of hB
    clear hB
    go_wp2_with fail
    go_ret
    exact ⟨rfl, HB.out⟩
  by_cases h3 : c = 3
  · subst h3
    by_cases h5 : Five d
    · have h := isDepth_any d
      rw [decide_eq_true h5] at h
      have hh : decide (DepthR 3 d) = (d != 16) := by
        by_cases e : d = 16
        · subst e; decide
        · rw [decide_eq_true (show DepthR 3 d from .inr (.inl ⟨rfl, h5, e⟩))]
          simp [e]
      rw [hh]
      clear h5 hh
      generalize hb : (d != 16) = b
      go_enter Tryd.func59, Tryd.ntmps59
      go_wp2_with fail
      refine (h _).mono ?_
      rintro e w1 ⟨rfl, hB⟩
      have HB := hid_of hB
      clear hB
      go_wp2_with fail
      go_ret
      exact ⟨rfl, HB.out⟩
    · have h := isDepth_any d
      rw [decide_eq_false h5] at h
      rw [decide_eq_false (fun h : DepthR 3 d => h5 (depth_five h))]
      clear h5
      go_enter Tryd.func59, Tryd.ntmps59
      go_wp2_with fail
      refine (h _).mono ?_
      rintro e w1 ⟨rfl, hB⟩
      have HB := hid_of hB
      clear hB
      go_wp2_with fail
      go_ret
      exact ⟨rfl, HB.out⟩
  have hd : d = 8 ∨ d = 16 ∨ (¬ d = 8 ∧ ¬ d = 16) := by omega
  have hc : c = 2 ∨ c = 4 ∨ c = 6 ∨ (¬ c = 2 ∧ ¬ c = 4 ∧ ¬ c = 6) := by omega
  rcases hc with rfl | rfl | rfl | ⟨h2, h4, h6⟩
  all_goals
    rcases hd with rfl | rfl | ⟨h8, h16⟩
  all_goals
    first
      | (rw [decide_eq_true (show DepthR _ _ by unfold DepthR Five; omega)])
      | (rw [decide_eq_false (show ¬ DepthR _ _ by unfold DepthR Five; omega)])
    try (have e0 := beq_no1 h0; have e3 := beq_no1 h3; have e2 := beq_no1 h2; have e4 := beq_no1 h4; have e6 := beq_no1 h6; clear h0 h3 h2 h4 h6)
    try (have g8 := beq_no1 h8; have g16 := beq_no1 h16; clear h8 h16)
    go_enter Tryd.func59, Tryd.ntmps59
    go_wp2_with fail
    go_ret
    exact ⟨rfl, Below.refl _ _⟩
end Go.Proofs.YtmanafegckibjaaDoor

namespace Go.Proofs.YtmanafegckibjaaDoor
open Go.RowKit Go.Joins TakeMath

theorem info_u812 : (Tryd.prog.info? 5).map (fun i => (i.zero, i.size, i.bytes)) = some (some (.int .u8 0), 1, 1) := by kernel_rfl
theorem make_bytes12 (w : World) (n : Nat) (hn : n ≤ 1048576) : (Instr.makeSlice 22 (.int .i64 n) (.int .i64 n)).run Tryd.prog w = .ok (.slice (some ⟨w.heap.size, 0, none⟩) n n) (w.alloc (.cells (madeCells #[Value.int .u8 0] n) 5)) := by
  obtain ⟨i0, hi0, hz0, hz1, hz2⟩ := info_parts info_u812
  have h := run_make (P := Tryd.prog) w 22 5 i0 (.int .u8 0) Tryd.underlying22 hi0 hz0 .i64 .i64 n n (by omega) (by omega) (by rw [hz2]; omega) (by omega)
  rw [hz1, Int.toNat_natCast, Nat.mul_one] at h
  exact h
/-- Bytes of the call's own, by a function. -/
def fb8 (h : Nat → Int) (n : Nat) : List Value := (List.range n).map fun i => .int .u8 (h i)
theorem fb8_length (h : Nat → Int) (n : Nat) : (fb8 h n).length = n := by simp [fb8]
theorem fb8_get (f : Nat → Int) (n j : Nat) (h : j < (fb8 f n).length) : (fb8 f n)[j] = .int .u8 (f j) := by simp [fb8]
theorem fb8_set (f : Nat → Int) (n j : Nat) (x : Int) : (fb8 f n).set j (.int .u8 x) = fb8 (upd f j x) n := by
  refine List.ext_getElem (by simp [fb8]) fun i h1 h2 => ?_
  rw [List.getElem_set, fb8_get (upd f j x)]
  by_cases hij : j = i
  · subst hij
    rw [if_pos rfl]
    simp [upd]
  · have hji : ¬ i = j := fun h => hij h.symm
    rw [if_neg hij, fb8_get]
    simp [upd, hji]
def BFn (w : World) (base g n cap : Nat) (f : Nat → Int) : Prop := Own 5 w base g (.slice (some ⟨g, 0, none⟩) n cap) (fb8 f n)
section
variable {w w' : World} {base g n cap : Nat} {f : Nat → Int}
theorem BFn.cell (h : BFn w base g n cap f) (j : Nat) (hj : j < n) : w.cell? ⟨g, j, none⟩ = some (.int .u8 (f j)) := by
  have h' : j < (fb8 f n).length := by rw [fb8_length]; exact hj
  rw [Own.cell h j h', fb8_get]
theorem BFn.free (h : BFn w base g n cap f) (j : Nat) (hj : j < n) : w.frozen? ⟨g, j, none⟩ = false := Own.free h j (by rw [fb8_length]; exact hj)
theorem BFn.set (h : BFn w base g n cap f) (j : Nat) (hj : j < n) (x : Int) : BFn (w.setCell ⟨g, j, none⟩ (.int .u8 x)) base g n cap (upd f j x) := by
  have k := Own.set h j (by rw [fb8_length]; exact hj) (.int .u8 x)
  rw [fb8_set] at k
  exact k
theorem BFn.made (w : World) (n : Nat) (hn : n ≤ maxLen) (hb : base ≤ w.heap.size) : BFn (w.alloc (.cells (madeCells #[Value.int .u8 0] n) 5)) base w.heap.size n n (fun _ => 0) := by
  refine ⟨n, madeCells #[Value.int .u8 0] n, (0, 0), by rw [fb8_length], hb, heap_alloc_new w _, .inl rfl, by rw [fb8_length]; exact Nat.le_refl _, hn, by simp [madeCells], ?_⟩
  have e : (madeCells #[Value.int .u8 0] n).toList = fb8 (fun _ => 0) n := by
    unfold madeCells fb8
    rw [Array.toList_map, Array.toList_range]
    refine List.map_congr_left fun i _ => ?_
    simp [Nat.mod_one]
  rw [e, fb8_length, List.take_of_length_le (by rw [fb8_length]; exact Nat.le_refl _)]
theorem BFn.drew (h : BFn w base g n cap f) : BFn w.drew base g n cap f := Own.drewN h 1
theorem BFn.text (h : BFn w base g n cap f) (zs : List Int) (hl : zs.length = n) (hz : ∀ i, i < n → zs.getD i 0 = f i) : (convert 22 9 (.slice (some ⟨g, 0, none⟩) n cap)).run Tryd.prog w = .ok (.string (strOfNums zs)) w := by
  refine run_convert_bytes_arg w 22 5 Tryd.underlying22 Tryd.underlying5 g 0 _ cap zs hl (fun i hi => ?_) 9 Tryd.underlying9
  rw [Nat.zero_add, h.cell i hi, hz i hi]
end
end Go.Proofs.YtmanafegckibjaaDoor

namespace Go.Proofs.YtmanafegckibjaaDoor
open Go.RowKit Go.Joins OutMath PutMath TakeMath RastMath

/-- What the ring of the program's UnpackRow has at hand. -/
def UnpI (w w' : World) (g : Nat) (s : ByteArray) (d n j : Nat) : Prop := ∃ h : Nat → Int, IOwn w' w.heap.size g n n h ∧ (∀ i, i < j → h i = smp s d i) ∧ Below w.heap.size w w'
theorem unpI_next {w wr : World} {g : Nat} {s : ByteArray} {d n j : Nat} {x : Int} (hS : UnpI w wr g s d n j) (hj : j < n) (hx : x = smp s d j) : UnpI w (wr.setCell ⟨g, j, none⟩ (.int .i64 x)).drew g s d n (j + 1) := by
  obtain ⟨h, hO, hh, hB⟩ := hS
  refine ⟨upd h j x, (hO.set j hj x).drew, fun i hi => ?_, (Below.setCell (p := ⟨g, j, none⟩) hB hO.base_le _).drew⟩
  unfold upd
  by_cases e : i = j
  · rw [if_pos e, e, hx]
  · rw [if_neg e]; exact hh i (by omega)
end Go.Proofs.YtmanafegckibjaaDoor

namespace Go.Proofs.YtmanafegckibjaaDoor
open Go.RowKit Go.Joins OutMath PutMath TakeMath RastMath

/-- What areSamples answers. -/
def SamPost (f : Nat → Int) (n d : Nat) (w : World) (e : Ending) (w' : World) : Prop := ∃ b, e = .returned (.bool b) ∧ (b = true ↔ Fit12 f n d) ∧ w' = w
set_option maxHeartbeats 800000 in
theorem samples_any (a : Option Addr) (n cap d : Nat) (f : Nat → Int) (w : World) (hC : Came w a n f) (hn : n ≤ 1048576) (hd : d ≤ 16) :
    Calls Tryd.prog 60 #[.slice a n cap, .int .i64 (d : Int)] w (SamPost f n d w) := by
  have HC := hid_of hC
  obtain ⟨M, hM⟩ : ∃ M : Int, M = 2 ^ d := ⟨_, rfl⟩
  have hMb : 1 ≤ M ∧ M ≤ 65536 := by
    have h1 := p2_pos d
    have h2 := p2_le hd
    rw [show p2 16 = 65536 by decide +kernel] at h2
    rw [hM]
    exact ⟨h1, h2⟩
  have HM : Hid (M = p2 d) := hM
  have r2 := hM.symm
  have w6 : IntKind.i64.wrap M = M := by rw [IntKind.wrap_i64]; omega
  have m64 : min d 64 = d := by omega
  clear hC hM
  go_enter Tryd.func60, Tryd.ntmps60
  go_wp2_with fail
  go_loop [9] (fun i => ∃ j : Nat, j ≤ n ∧ i = .int .i64 j ∧ Hid (Fit12 f j d)) (fun i => n - (intOf i).toNat)
  case atStart => exact ⟨0, Nat.zero_le _, rfl, fun i hi => absurd hi (Nat.not_lt_zero i)⟩
  case round =>
    obtain ⟨j, hj, rfl, hok⟩ := hrel
    by_cases hlt : j < n
    · rcases HC.out with h0 | ⟨g, off, rfl, hg, hc⟩
      · omega
      · have c0 := hc j hlt
        clear hc
        by_cases hin : 0 ≤ f j ∧ f j < M
        · have HK : Hid (Fit12 f (j + 1) d) := hok.out.next hin.1 (by rw [← HM.out]; exact hin.2)
          have d0 : decide (f j < 0) = false := decide_eq_false (by omega)
          have d1 : decide (M ≤ f j) = false := decide_eq_false (by omega)
          clear hin
          go_wp2_with fail
          go_round
          case rel => exact ⟨j + 1, by omega, by go_num, HK⟩
          case measure => simp [intOf]; omega
        · have HN : Hid (¬ Fit12 f n d) := fun h => hin (by have := h j hlt; rw [← HM.out] at this; exact this)
          by_cases h0 : f j < 0
          · have d0 : decide (f j < 0) = true := decide_eq_true h0
            clear hin
            go_wp2_with fail
            go_ret
            exact ⟨false, rfl, by simp [HN.out], rfl⟩
          · have d0 : decide (f j < 0) = false := decide_eq_false h0
            have d1 : decide (M ≤ f j) = true := decide_eq_true (by omega)
            clear hin
            go_wp2_with fail
            go_ret
            exact ⟨false, rfl, by simp [HN.out], rfl⟩
    · obtain rfl : j = n := by omega
      go_wp2_with fail
      go_ret
      exact ⟨true, rfl, by simp [hok.out], rfl⟩
/-- What the ring of the program's PackRow has at hand: j samples are packed. -/
def PckI (w w' : World) (g : Nat) (f : Nat → Int) (d NB j : Nat) : Prop := ∃ h : Nat → Int, BFn w' w.heap.size g NB NB h ∧ (∀ i, i < NB → h i = packB f j d i) ∧ Below w.heap.size w w'
theorem pckI_one {w wr : World} {g : Nat} {f : Nat → Int} {d NB j m : Nat} {v : Int} (hS : PckI w wr g f d NB j) (hm : m < NB) (hv : v = packB f (j + 1) d m) (ho : ∀ i, ¬ i = m → packB f (j + 1) d i = packB f j d i) : PckI w (wr.setCell ⟨g, m, none⟩ (.int .u8 v)).drew g f d NB (j + 1) := by
  obtain ⟨h, hO, hh, hB⟩ := hS
  refine ⟨upd h m v, (hO.set m hm v).drew, fun i hi => ?_, (Below.setCell (p := ⟨g, m, none⟩) hB (Own.base_le hO) _).drew⟩
  unfold upd
  by_cases e : i = m
  · rw [if_pos e, e, hv]
  · rw [if_neg e, ho i e]; exact hh i hi
theorem pckI_two {w wr : World} {g : Nat} {f : Nat → Int} {NB j m : Nat} {v u : Int} (hS : PckI w wr g f 16 NB j) (hm : m + 1 < NB) (hj : m = 2 * j) (h0 : 0 ≤ f j) (h1 : f j < 65536) (hv : v = f j / 256) (hu : u = f j % 256) : PckI w ((wr.setCell ⟨g, m, none⟩ (.int .u8 v)).setCell ⟨g, m + 1, none⟩ (.int .u8 u)) g f 16 NB (j + 1) := by
  obtain ⟨h, hO, hh, hB⟩ := hS
  obtain ⟨p0, p1, p2⟩ := packB_two f j h0 h1
  have hO1 := hO.set m (by omega) v
  refine ⟨upd (upd h m v) (m + 1) u, hO1.set (m + 1) hm u, fun i hi => ?_, Below.setCell (p := ⟨g, m + 1, none⟩) (Below.setCell (p := ⟨g, m, none⟩) hB (Own.base_le hO) _) (Own.base_le hO) _⟩
  unfold upd
  by_cases e : i = m + 1
  · rw [if_pos e, e, hu, hj, p1]
  · rw [if_neg e]
    by_cases e2 : i = m
    · rw [if_pos e2, e2, hv, hj, p0]
    · rw [if_neg e2, p2 i (by omega) (by omega)]; exact hh i hi
end Go.Proofs.YtmanafegckibjaaDoor
