/-
  The walks of what the model draws for chapter 1: an Out that may be wrong, a number and a size.
-/
import Derived.Test.YtdjpjdjljobalaaRows
import Derived.Test.YtdjpjdjljobalaaBase
import Derived.Test.YtdjpjdjljobalaaOutMath
import Derived.Test.YtdjpjdjljobalaaOutWalks
import Derived.Test.YtdjpjdjljobalaaPutMath
import Derived.Test.YtdjpjdjljobalaaOwnLib
import Derived.Test.YtdjpjdjljobalaaPutSpec
import Derived.Test.YtdjpjdjljobalaaMayWalks
import Derived.Test.YtdjpjdjljobalaaPlacesWalks
import Derived.Test.YtdjpjdjljobalaaPutBitsWalks
import Derived.Test.YtdjpjdjljobalaaDrawLib
import Derived.WalkKit
import Derived.ProofKit
import Derived.WalkLawsBesides
import Derived.Deep.RegionWith
import Derived.Deep.DrawnRows
import Derived.Lib.SmallJoins
namespace Go.Proofs.Ytdjpjdjljobalaa
open Go.RowKit Go.Joins OutMath PutMath

attribute [local go_sem ↓] Go.wp_at_zero Go.wp_at_succ

theorem grown_of_below {w w' : World} (h : Below w.heap.size w w') (row : Option Nat) : w.grownBy w' row := ⟨h.os, h.tape, h.output, h.size, fun k hk _ => h.block k hk⟩
theorem grown_alloc {a b : World} {row : Option Nat} (h : a.grownBy b row) (o : Obj) : a.grownBy (b.alloc o) row :=
  ⟨h.os, h.tape, h.output, by have := h.size; simp; omega, fun k hk hne => (Below.heap_alloc b o k (Nat.lt_of_lt_of_le hk h.size)).trans (h.block k hk hne)⟩
theorem grown_some {a b : World} (h : a.grownBy b none) (g : Nat) : a.grownBy b (some g) := ⟨h.os, h.tape, h.output, h.size, fun k hk _ => h.block k hk (by simp)⟩
theorem Cur.drew {w : World} {base b : Nat} (h : Cur w base b) : Cur w.drew base b := h.keep rfl ⟨rfl, rfl, rfl, Nat.le_refl _, fun _ _ => rfl⟩

theorem size_strOfNums (zs : List Int) : (strOfNums zs).size = zs.length := strOfNums_size zs

theorem made_u8 (n : Nat) : (madeCells #[Value.int .u8 0] n).toList = u8s (List.replicate n 0) := by
  unfold madeCells u8s
  rw [List.map_replicate, Array.toList_map, Array.toList_range]
  have : ∀ l : List Nat, l.map (fun x => (#[Value.int .u8 0] : Array Value)[x % (#[Value.int .u8 0] : Array Value).size]!) = List.replicate l.length (Value.int .u8 0) := by
    intro l
    induction l with
    | nil => rfl
    | cons y l ih =>
      rw [List.map_cons, ih, List.length_cons, List.replicate_succ]
      congr 1
      simp [Nat.mod_one]
  rw [this]
  simp

set_option maxHeartbeats 800000 in
theorem draw_long (n : Nat) (x : Int) (w : World) (hn : 0 < n) (hn1 : n ≤ 20000) :
    Calls Try.prog 56 #[.int .i64 n, .int .u8 x] w fun e w' => ∃ s : ByteArray, e = .returned (.string s) ∧ s.size = n ∧ Below w.heap.size w w' := by
  obtain ⟨i0, hi0, hz0, hz1, hz2⟩ := info_parts info_u8
  go_enter Try.func56, Try.ntmps56
  go_wp2_with (at_make; refine wpList_make_full _ rfl _ _ 22 rfl w.heap.size 5 i0 (.int .u8 0) 1 Try.underlying22 hi0 hz0 hz1 _ _ _ _ n rfl rfl rfl rfl ?c1 ?c2 (Nat.le_refl _) ?_)
  case c1 => rw [hz2]; omega
  case c2 => unfold maxLen; omega
  · intro w1 hown hgr
    rw [made_u8] at hown
    obtain ⟨g, hg, hO⟩ := own_of_ownsRow hown hn
    obtain ⟨cap0, hv⟩ := hO.form
    have hgw : w.heap.size = g := by simp at hv; exact hv.1
    subst hgw
    have hB : Below w.heap.size w w1 := (Below.refl _ _).grown hgr (Nat.le_refl _) (fun k hk => by cases hk)
    have HO : Hid (Own 5 w1 w.heap.size w.heap.size (.slice (some ⟨w.heap.size, 0, none⟩) n n) (u8s (List.replicate n 0))) := hO
    clear hown hgr hO hv hi0 hz0 hz1 hz2
    go_wp2_with fail
    go_loopw [6] (fun i w' => ∃ (j : Nat) (zs : List Int), j ≤ n ∧ i = .int .i64 j ∧ zs.length = n ∧ Hid (Own 5 w' w.heap.size w.heap.size (.slice (some ⟨w.heap.size, 0, none⟩) n n) (u8s zs)) ∧ Below w.heap.size w w') (fun i _ => n - (intOf i).toNat)
    case atStart => exact ⟨0, _, Nat.zero_le _, rfl, by simp, HO, hB⟩
    case round =>
      obtain ⟨j, zs, hj, rfl, hzs, hOj, hBj⟩ := hrel
      have HZ : Hid (zs.length = n) := hzs
      by_cases hlt : j < n
      · have hcy := own_u8 hOj.out j (by omega)
        obtain ⟨cy, fy⟩ := hcy
        have HS : Hid (Own 5 (wr.setCell ⟨w.heap.size, j, none⟩ (.int .u8 x)) w.heap.size w.heap.size (.slice (some ⟨w.heap.size, 0, none⟩) n n) (u8s (zs.set j x))) := by
          have h := hOj.out.set j (by rw [u8s_length]; omega) (.int .u8 x)
          rw [u8s_set] at h
          exact h
        clear hzs
        go_wp2_with fail
        go_roundw
        case rel => exact ⟨j + 1, zs.set j x, by omega, by go_num, by rw [List.length_set]; exact HZ.out, HS, hBj.setCell (Nat.le_refl _) _⟩
        case measure => simp [intOf]; omega
      · have kc := own_string (P := Try.prog) zs 22 9 Try.underlying22 Try.underlying5 Try.underlying9 hOj.out
        clear hzs
        go_wp2_with fail
        go_ret
        exact ⟨_, rfl, by rw [size_strOfNums]; exact HZ.out, hBj⟩

set_option maxHeartbeats 800000 in
theorem draw_bigText (a : Option Addr) (len cap : Nat) (base : Nat) (w : World) (hK : CodeAt w base a len) (hlen : len ≤ 1048576) (hbase : base ≤ w.heap.size) :
    Calls Try.prog 18 #[.slice a len cap] w fun e w' => ∃ n k : Int, e = .returned (.tuple #[.int .i64 n, .int .i64 k]) ∧ 0 ≤ k ∧ k < 6 ∧ Below base w w' := by
  have HK : Hid (CodeAt w base a len) := hK
  clear hK
  go_enter Try.func18, Try.ntmps18
  go_wp2_with fail
  refine (draw_new a len cap base w HK.out hlen hbase).mono ?_
  rintro e w1 ⟨rfl, hC1, o, rfl⟩
  have HC1 : Hid (Cur (w.alloc o) base w.heap.size) := hC1
  clear hC1
  have hB1 : Below base w (w.alloc o) := (Below.refl _ _).alloc hbase o
  go_wp2_with fail
  refine (draw_below base _ _ _ HC1.out).mono ?_
  rintro e w2 ⟨k, rfl, hk, hC2, hg2⟩
  have HC2 : Hid (Cur w2 base w.heap.size) := hC2
  have hB2 : Below base w w2 := hB1.trans (below_of_grown hg2 hbase (by simp))
  have hk1 : 0 ≤ k ∧ k < 6 := ⟨hk.1, hk.2.1 (by omega)⟩
  clear hC2 hk hg2
  go_wp2_with fail
  refine (pow_int _ _ (by omega) (by omega)).mono ?_
  rintro e w3 ⟨rfl, rfl⟩
  go_wp2_with fail
  refine (draw_below base _ _ _ HC2.out).mono ?_
  rintro e w4 ⟨n, rfl, hn, hC4, hg4⟩
  have HC4 : Hid (Cur w4 base w.heap.size) := hC4
  have hB4 : Below base w w4 := hB2.trans (below_of_grown hg4 hbase HC2.out.lt)
  clear hC4 hn hg4
  go_wp2_with fail
  refine (draw_once base _ _ _ HC4.out).mono ?_
  rintro e w5 ⟨once, rfl, hC5, hg5⟩
  have HC5 : Hid (Cur w5 base w.heap.size) := hC5
  have hB5 : Below base w w5 := hB4.trans (below_of_grown hg5 hbase HC4.out.lt)
  have hlt5 := HC5.out.lt
  clear hC5 hg5
  cases once
  · go_wp2_with fail
    go_ret2
    exact ⟨_, _, rfl, hk1.1, hk1.2, hB5⟩
  · go_wp2_with fail
    refine (draw_pickInt base w.heap.size w5.heap.size 10 10 (fun _ => True) _ (HC5.out.alloc _) (by omega) (by omega) (by simp) ?_).mono ?_
    · intro j hj
      have hj10 : j = 0 ∨ j = 1 ∨ j = 2 ∨ j = 3 ∨ j = 4 ∨ j = 5 ∨ j = 6 ∨ j = 7 ∨ j = 8 ∨ j = 9 := by omega
      rcases hj10 with rfl | rfl | rfl | rfl | rfl | rfl | rfl | rfl | rfl | rfl <;> exact ⟨_, cell_of_block (heap_alloc_new w5 _) _, trivial⟩
    · rintro e w6 ⟨y, rfl, _, hC6, hg6⟩
      have HC6 : Hid (Cur w6 base w.heap.size) := hC6
      have hB6 : Below base w w6 := (hB5.alloc (by omega) _).trans (below_of_grown hg6 hbase (by simp; omega))
      clear hC6 hg6
      go_wp2_with fail
      go_ret2
      exact ⟨_, _, rfl, hk1.1, hk1.2, hB6⟩
end Go.Proofs.Ytdjpjdjljobalaa
