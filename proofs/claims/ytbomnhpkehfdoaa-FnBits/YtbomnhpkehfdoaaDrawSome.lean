/-
  The walk of the drawn numbers and their sizes.
-/
import Derived.Test.YtbomnhpkehfdoaaRows
import Derived.Test.YtbomnhpkehfdoaaBase
import Derived.Test.YtbomnhpkehfdoaaOutMath
import Derived.Test.YtbomnhpkehfdoaaOutWalks
import Derived.Test.YtbomnhpkehfdoaaOwnLib
import Derived.Test.YtbomnhpkehfdoaaPutSpec
import Derived.Test.YtbomnhpkehfdoaaDrawLib
import Derived.WalkKit
import Derived.ProofKit
import Derived.WalkLawsBesides
import Derived.Lib.SmallJoins
namespace Go.Proofs.Ytbomnhpkehfdoaa
open Go.RowKit Go.Joins OutMath

/-- The first k numbers of f. -/
def ivals (f : Nat → Int) : Nat → List Value
  | 0 => []
  | k + 1 => ivals f k ++ [.int .i64 (f k)]
theorem ivals_length (f : Nat → Int) : ∀ k, (ivals f k).length = k
  | 0 => rfl
  | k + 1 => by simp [ivals, ivals_length f k]
theorem ivals_get (f : Nat → Int) : ∀ k j (h : j < (ivals f k).length), (ivals f k)[j] = .int .i64 (f j)
  | 0, j, h => by simp [ivals] at h
  | k + 1, j, h => by
    have hl := ivals_length f k
    by_cases hj : j < k
    · simp only [ivals]
      rw [List.getElem_append_left (by omega)]
      exact ivals_get f k j (by omega)
    · simp only [ivals] at h ⊢
      obtain rfl : j = k := by simp [hl] at h; omega
      rw [List.getElem_append_right (by omega)]
      simp [hl]
theorem ivals_congr (f g : Nat → Int) : ∀ k, (∀ i, i < k → f i = g i) → ivals f k = ivals g k
  | 0, _ => rfl
  | k + 1, h => by simp only [ivals]; rw [ivals_congr f g k (fun i hi => h i (by omega)), h k (by omega)]
theorem own_ival {e : TypeId} {w : World} {base g : Nat} {v : Value} {f : Nat → Int} {k : Nat} (hO : Own e w base g v (ivals f k)) (j : Nat) (hj : j < k) : w.cell? ⟨g, j, none⟩ = some (.int .i64 (f j)) := by
  have h' : j < (ivals f k).length := by rw [ivals_length]; exact hj
  rw [hO.cell j h', ivals_get]

/-- f with x at the place j. -/
def putF (f : Nat → Int) (j : Nat) (x : Int) : Nat → Int := fun i => if i = j then x else f i
theorem ivals_put (f : Nat → Int) (j : Nat) (x : Int) : ivals f j ++ [.int .i64 x] = ivals (putF f j x) (j + 1) := by
  simp only [ivals]
  rw [ivals_congr f (putF f j x) j (fun i hi => by unfold putF; rw [if_neg (by omega)])]
  congr 3
  unfold putF
  rw [if_pos rfl]

/-- All that the draw has at hand. -/
def SomeSt (w0 w : World) (base b g1 g2 c1 c2 j : Nat) (v n : Nat → Int) : Prop :=
  Cur w base b ∧ Own 3 w base g1 (.slice (some ⟨g1, 0, none⟩) j c1) (ivals v j) ∧ Own 3 w base g2 (.slice (some ⟨g2, 0, none⟩) j c2) (ivals n j) ∧ g1 ≠ g2 ∧ g1 ≠ b ∧ g2 ≠ b ∧ Below base w0 w
/-- The same where the sizes are one ahead. -/
def SomeMid (w0 w : World) (base b g1 g2 c1 c2 j : Nat) (v n : Nat → Int) : Prop :=
  Cur w base b ∧ Own 3 w base g1 (.slice (some ⟨g1, 0, none⟩) j c1) (ivals v j) ∧ Own 3 w base g2 (.slice (some ⟨g2, 0, none⟩) (j + 1) c2) (ivals n (j + 1)) ∧ g1 ≠ g2 ∧ g1 ≠ b ∧ g2 ≠ b ∧ Below base w0 w

section
variable {w0 w w' : World} {base b g1 g2 c1 c2 j : Nat} {v n : Nat → Int}
theorem SomeSt.grown (h : SomeSt w0 w base b g1 g2 c1 c2 j v n) (hg : w.grownBy w' (some b)) (hC : Cur w' base b) : SomeSt w0 w' base b g1 g2 c1 c2 j v n := by
  obtain ⟨h1, h2, h3, h4, h5, h6, h7⟩ := h
  exact ⟨hC, h2.keep (hg.block g1 h2.lt (by simpa using h5)), h3.keep (hg.block g2 h3.lt (by simpa using h6)), h4, h5, h6, h7.trans (below_of_grown hg h1.base_le h1.lt)⟩
theorem SomeMid.grown (h : SomeMid w0 w base b g1 g2 c1 c2 j v n) (hg : w.grownBy w' (some b)) (hC : Cur w' base b) : SomeMid w0 w' base b g1 g2 c1 c2 j v n := by
  obtain ⟨h1, h2, h3, h4, h5, h6, h7⟩ := h
  exact ⟨hC, h2.keep (hg.block g1 h2.lt (by simpa using h5)), h3.keep (hg.block g2 h3.lt (by simpa using h6)), h4, h5, h6, h7.trans (below_of_grown hg h1.base_le h1.lt)⟩
/-- Behind the append to the sizes. -/
theorem SomeSt.mid (h : SomeSt w0 w base b g1 g2 c1 c2 j v n) {o : Obj} {x : Int} {g' : Nat} {u : Value} (hO : Own 3 w' base g' u (ivals n j ++ [.int .i64 x])) (hg : g' = g2 ∨ w.heap.size + 1 ≤ g') (hgr : (w.alloc o).grownBy w' (some g2)) :
    ∃ c', u = .slice (some ⟨g', 0, none⟩) (j + 1) c' ∧ SomeMid w0 w' base b g1 g' c1 c' j v (putF n j x) := by
  obtain ⟨h1, h2, h3, h4, h5, h6, h7⟩ := h
  have l1 := h1.lt
  have l2 := h2.lt
  have l3 := h3.lt
  have hb := h1.base_le
  rw [ivals_put] at hO
  obtain ⟨c', hu⟩ := hO.form
  rw [ivals_length] at hu
  have hsz : (w.alloc o).heap.size = w.heap.size + 1 := by simp
  refine ⟨c', hu, ?_⟩
  rw [hu] at hO
  refine ⟨(h1.alloc o).grown hgr (by simpa using h6) (fun k hk => by cases hk; exact h3.base_le), (h2.alloc o).keep (hgr.block g1 (by rw [hsz]; omega) (by simpa using h4)), hO, ?_, h5, ?_, ?_⟩
  · rcases hg with rfl | hg
    · exact h4
    · omega
  · rcases hg with rfl | hg
    · exact h6
    · omega
  · exact (h7.alloc (by omega) o).grown hgr (by rw [hsz]; omega) (fun k hk => by cases hk; exact h3.base_le)
/-- Behind the append to the values. -/
theorem SomeMid.next (h : SomeMid w0 w base b g1 g2 c1 c2 j v n) {o : Obj} {x : Int} {g' : Nat} {u : Value} (hO : Own 3 w' base g' u (ivals v j ++ [.int .i64 x])) (hg : g' = g1 ∨ w.heap.size + 1 ≤ g') (hgr : (w.alloc o).grownBy w' (some g1)) :
    ∃ c', u = .slice (some ⟨g', 0, none⟩) (j + 1) c' ∧ SomeSt w0 w' base b g' g2 c' c2 (j + 1) (putF v j x) n := by
  obtain ⟨h1, h2, h3, h4, h5, h6, h7⟩ := h
  have l1 := h1.lt
  have l2 := h2.lt
  have l3 := h3.lt
  have hb := h1.base_le
  rw [ivals_put] at hO
  obtain ⟨c', hu⟩ := hO.form
  rw [ivals_length] at hu
  have hsz : (w.alloc o).heap.size = w.heap.size + 1 := by simp
  refine ⟨c', hu, ?_⟩
  rw [hu] at hO
  refine ⟨(h1.alloc o).grown hgr (by simpa using h5) (fun k hk => by cases hk; exact h2.base_le), hO, (h3.alloc o).keep (hgr.block g2 (by rw [hsz]; omega) (by simpa using Ne.symm h4)), ?_, ?_, h6, ?_⟩
  · rcases hg with rfl | hg
    · exact h4
    · omega
  · rcases hg with rfl | hg
    · exact h5
    · omega
  · exact (h7.alloc (by omega) o).grown hgr (by rw [hsz]; omega) (fun k hk => by cases hk; exact h2.base_le)
end

/-- The drawn numbers fit their sizes. -/
def FitNums (v n : Nat → Int) : Prop := ∀ i, 0 ≤ n i ∧ n i ≤ 24 ∧ 0 ≤ v i ∧ v i < p2 (n i).toNat
theorem fit_put {v n : Nat → Int} (h : FitNums v n) (j : Nat) (x y : Int) (h0 : 0 ≤ y) (h1 : y ≤ 24) (h2 : 0 ≤ x) (h3 : x < p2 y.toNat) : FitNums (putF v j x) (putF n j y) := by
  intro i
  unfold putF
  by_cases hi : i = j
  · simp only [if_pos hi]
    exact ⟨h0, h1, h2, h3⟩
  · simp only [if_neg hi]
    exact h i

set_option maxHeartbeats 1600000 in
theorem draw_some (a : Option Addr) (len cap : Nat) (base : Nat) (w : World) (hK : CodeAt w base a len) (hlen : len ≤ 1048576) (hbase : base ≤ w.heap.size) :
    Calls Try.prog 6 #[.slice a len cap] w fun e w' => ∃ (L g1 g2 c1 c2 : Nat) (v n : Nat → Int), e = .returned (.tuple #[.slice (some ⟨g1, 0, none⟩) L c1, .slice (some ⟨g2, 0, none⟩) L c2]) ∧ 1 ≤ L ∧ L ≤ 20 ∧ FitNums v n ∧ Own 3 w' base g1 (.slice (some ⟨g1, 0, none⟩) L c1) (ivals v L) ∧ Own 3 w' base g2 (.slice (some ⟨g2, 0, none⟩) L c2) (ivals n L) ∧ Below base w w' := by
  have HK : Hid (CodeAt w base a len) := hK
  clear hK
  go_enter Try.func6, Try.ntmps6
  go_wp2_with fail
  refine (draw_new a len cap base w HK.out hlen hbase).mono ?_
  rintro e w1 ⟨rfl, hC1, o, rfl⟩
  have hS0 : SomeSt w (((w.alloc o).alloc (.cells #[] 3)).alloc (.cells #[] 3)) base w.heap.size (w.heap.size + 1) (w.heap.size + 1 + 1) 0 0 0 (fun _ => 0) (fun _ => 0) := by
    refine ⟨(hC1.alloc _).alloc _, ⟨0, #[], (0, 0), rfl, by omega, ?_, .inl rfl, Nat.le_refl _, Nat.zero_le _, rfl, rfl⟩, ⟨0, #[], (0, 0), rfl, by omega, ?_, .inl rfl, Nat.le_refl _, Nat.zero_le _, rfl, rfl⟩, by omega, by omega, by omega, (((Below.refl _ _).alloc hbase _).alloc (by simp; omega) _).alloc (by simp; omega) _⟩
    · show (((w.heap.push _).push _).push _)[w.heap.size + 1]? = _
      rw [Array.getElem?_push, if_neg (by simp), Array.getElem?_push, if_pos (by simp)]
    · show (((w.heap.push _).push _).push _)[w.heap.size + 1 + 1]? = _
      rw [Array.getElem?_push, if_pos (by simp)]
  have HS0 : Hid (SomeSt w (((w.alloc o).alloc (.cells #[] 3)).alloc (.cells #[] 3)) base w.heap.size (w.heap.size + 1) (w.heap.size + 1 + 1) 0 0 0 (fun _ => 0) (fun _ => 0)) := hS0
  clear hC1 hS0
  go_wp2_with fail
  go_loopw [5, 6, 7] (fun s1 s2 i w' => ∃ (j g1 g2 c1 c2 : Nat) (v n : Nat → Int), j ≤ 20 ∧ i = .int .i64 j ∧ s1 = .slice (some ⟨g1, 0, none⟩) j c1 ∧ s2 = .slice (some ⟨g2, 0, none⟩) j c2 ∧ Hid (FitNums v n) ∧ Hid (SomeSt w w' base w.heap.size g1 g2 c1 c2 j v n)) (fun _ _ i _ => 20 - (intOf i).toNat)
  case atStart => exact ⟨0, w.heap.size + 1, w.heap.size + 1 + 1, 0, 0, _, _, by omega, rfl, rfl, rfl, (fun _ => ⟨by omega, by omega, by omega, by have := p2_pos 0; show (0 : Int) < p2 0; omega⟩), HS0⟩
  case round =>
    obtain ⟨j, g1, g2, c1, c2, v, n, hj, rfl, rfl, rfl, hF, hS⟩ := hrel
    go_wp2_with fail
    refine (draw_below base _ _ _ hS.out.1).mono ?_
    rintro e w1 ⟨x, rfl, hx, hC1, hg1⟩
    have HS1 : Hid (SomeSt w w1 base w.heap.size g1 g2 c1 c2 j v n) := hS.out.grown hg1 hC1
    have hx1 : 0 ≤ x ∧ x < 20 := ⟨hx.1, hx.2.1 (by omega)⟩
    clear hC1 hg1 hx
    by_cases hlt : (j : Int) < 1 + x
    · go_wp2_with fail
      refine (draw_below base _ _ _ HS1.out.1).mono ?_
      rintro e w2 ⟨y, rfl, hy, hC2, hg2⟩
      have HS2 : Hid (SomeSt w w2 base w.heap.size g1 g2 c1 c2 j v n) := HS1.out.grown hg2 hC2
      have hy1 : 0 ≤ y ∧ y < 25 := ⟨hy.1, hy.2.1 (by omega)⟩
      clear hC2 hg2 hy
      obtain ⟨i0, hi0, hz0, hz1, hz2⟩ := info_parts info_int
      have hl1 : (ivals n j).length + 1 ≤ maxLen ∧ ((ivals n j).length + 1) * 8 ≤ 140737488355328 := by rw [ivals_length]; unfold maxLen; omega
      have hl2 : (ivals v j).length + 1 ≤ maxLen ∧ ((ivals v j).length + 1) * 8 ≤ 140737488355328 := by rw [ivals_length]; unfold maxLen; omega
      go_wp2_with (at_builtin; refine wpList_append1 rfl _ _ 24 rfl i0 (.int .i64 0) 8 Try.underlying24 hi0 hz0 hz1 hz2 rfl rfl (HS2.out.2.2.1.alloc _) ⟨w2.heap.size, 0, none⟩ 1 (.int .i64 y) rfl ?c1 rfl rfl hl1.1 hl1.2 ?_)
      case c1 => simp
      · intro g2' u2 w3 hO3 hg3 hgr3
        obtain ⟨c2', hu2, hM⟩ := HS2.out.mid hO3 hg3 hgr3
        have HM : Hid (SomeMid w w3 base w.heap.size g1 g2' c1 c2' j v (putF n j y)) := hM
        rw [hu2]
        clear hO3 hg3 hgr3 hu2 hM
        go_wp2_with fail
        refine (pow_int _ _ (by omega) (by omega)).mono ?_
        rintro e w4 ⟨rfl, rfl⟩
        go_wp2_with fail
        refine (draw_below base _ _ _ HM.out.1).mono ?_
        rintro e w5 ⟨z, rfl, hz, hC5, hg5⟩
        have HM5 : Hid (SomeMid w w5 base w.heap.size g1 g2' c1 c2' j v (putF n j y)) := HM.out.grown hg5 hC5
        have hz5 : 0 ≤ z ∧ z < p2 y.toNat := ⟨hz.1, hz.2.1 (by have := p2_pos y.toNat; omega)⟩
        clear hC5 hg5 hz
        go_wp2_with (at_builtin; refine wpList_append1 rfl _ _ 24 rfl i0 (.int .i64 0) 8 Try.underlying24 hi0 hz0 hz1 hz2 rfl rfl (HM5.out.2.1.alloc _) ⟨w5.heap.size, 0, none⟩ 1 (.int .i64 z) rfl ?d1 rfl rfl hl2.1 hl2.2 ?_)
        case d1 => simp
        · intro g1' u1 w6 hO6 hg6 hgr6
          obtain ⟨c1', hu1, hN⟩ := HM5.out.next hO6 hg6 hgr6
          have HN : Hid (SomeSt w w6 base w.heap.size g1' g2' c1' c2' (j + 1) (putF v j z) (putF n j y)) := hN
          have HFN : Hid (FitNums (putF v j z) (putF n j y)) := fit_put hF.out j z y hy1.1 (by omega) hz5.1 hz5.2
          rw [hu1]
          clear hO6 hg6 hgr6 hu1 hN hi0 hz0 hz1 hz2 hl1 hl2
          go_wp2_with fail
          go_roundw
          case rel => exact ⟨j + 1, g1', g2', c1', c2', _, _, by omega, by go_num, rfl, rfl, HFN, HN⟩
          case measure => simp [intOf]; omega
    · go_wp2_with fail
      go_ret2
      exact ⟨j, g1, g2, c1, c2, v, n, rfl, by omega, by omega, hF.out, HS1.out.2.1, HS1.out.2.2.1, HS1.out.2.2.2.2.2.2⟩
end Go.Proofs.Ytbomnhpkehfdoaa
