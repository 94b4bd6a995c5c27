/-
  The walks of the comparison of two coins.
  The walk of the library's exchange of two parts.
  The walk of the library's turn of two parts.
  The walk of the library's insertion sort.
-/
import Derived.Test.YtbcnlggkoidmmaaGreatDoorRows
import Derived.Test.YtbcnlggkoidmmaaGreatDoorQk01
import Derived.Test.YtbcnlggkoidmmaaGreatDoorQk07
import Derived.Test.YtbcnlggkoidmmaaGreatDoorQk37
import Derived.Test.YtbcnlggkoidmmaaGreatDoorQk38
import Derived.WalkKit
import Derived.ProofKit
import Derived.WalkLawsBesides
import Derived.Sort.Grow
import Derived.Shelf.SlSortCmp.QuietGrown
import Derived.Lib.SmallJoins
import Derived.RegionTactic
import Derived.BigRegion
import Derived.Deep.LoopGhost
namespace Go.Proofs.YtbcnlggkoidmmaaGreatDoor
open Go.RowKit Go.Joins Go.Sort

def cmpI (x y : Int) : Int := if x < y then -1 else if y < x then 1 else 0

theorem isNaN_any (x : Int) (w : World) : Calls Tryz.prog 176 #[.int .i64 x] w fun e w' => e = .returned (.bool false) ∧ w' = w := by
  go_enter Tryz.func176, Tryz.ntmps176
  go_wp2_with fail
  go_ret
  simp
theorem compare_any (x y : Int) (w : World) : Calls Tryz.prog 164 #[.int .i64 x, .int .i64 y] w fun e w' => e = .returned (.int .i64 (cmpI x y)) ∧ w' = w := by
  unfold cmpI
  by_cases h1 : x < y
  · rw [if_pos h1]
    go_enter Tryz.func164, Tryz.ntmps164
    go_wp2_with fail
    refine (isNaN_any _ _).mono ?_
    rintro e w1 ⟨rfl, rfl⟩
    go_wp2_with fail
    refine (isNaN_any _ _).mono ?_
    rintro e w1 ⟨rfl, rfl⟩
    go_wp2_with fail
    go_ret
    exact ⟨rfl, rfl⟩
  · rw [if_neg h1]
    by_cases h2 : y < x
    · rw [if_pos h2]
      go_enter Tryz.func164, Tryz.ntmps164
      go_wp2_with fail
      refine (isNaN_any _ _).mono ?_
      rintro e w1 ⟨rfl, rfl⟩
      go_wp2_with fail
      refine (isNaN_any _ _).mono ?_
      rintro e w1 ⟨rfl, rfl⟩
      go_wp2_with fail
      go_ret
      exact ⟨rfl, rfl⟩
    · rw [if_neg h2]
      go_enter Tryz.func164, Tryz.ntmps164
      go_wp2_with fail
      refine (isNaN_any _ _).mono ?_
      rintro e w1 ⟨rfl, rfl⟩
      go_wp2_with fail
      refine (isNaN_any _ _).mono ?_
      rintro e w1 ⟨rfl, rfl⟩
      go_wp2_with fail
      go_ret
      exact ⟨rfl, rfl⟩
theorem byWeight_any (x y p q : Int) (W : World) : Calls Tryz.prog 143 #[.agg #[.int .i64 x, .int .i64 p], .agg #[.int .i64 y, .int .i64 q]] W fun e w' => e = .returned (.int .i64 (cmpI x y)) ∧ ∃ k os', w' = grow (W.drewN k) os' := by
  have hcon := fun W' => compare_any x y W'
  generalize cmpI x y = r at hcon ⊢
  go_enter Tryz.func143, Tryz.ntmps143
  go_wp2_with (go_at_call 164; refine (hcon _).mono ?_; rintro e w' ⟨rfl, rfl⟩)
  go_ret
  exact ⟨rfl, 0, _, by rw [alloc_eq_grow, alloc_eq_grow, grow_grow]; rfl⟩
/-- Called within a test. -/
theorem byWeight_in (x y p q : Int) (W : World) (n : Nat) (os : Array Obj) : Calls Tryz.prog 143 #[.agg #[.int .i64 x, .int .i64 p], .agg #[.int .i64 y, .int .i64 q]] (grow (W.drewN n) os) fun e w' => e = .returned (.int .i64 (cmpI x y)) ∧ ∃ k os', w' = grow ((grow (W.drewN n) os).drewN k) os' := byWeight_any x y p q _

end Go.Proofs.YtbcnlggkoidmmaaGreatDoor

namespace Go.Proofs.YtbcnlggkoidmmaaGreatDoor
open Go.RowKit Go.Joins Go.Sort SortMath

set_option maxHeartbeats 4000000 in
theorem swapRange_any (w0 : World) (g n cap p q m : Nat) (f : Nat → Int) (u : Value) (w : World) (hS : CW w0 g n f w) (hp : p + m ≤ q) (hq : q + m ≤ n) (hn : n ≤ 288) :
    Calls Tryz.prog 188 #[.slice (some ⟨g, 0, none⟩) n cap, .int .i64 p, .int .i64 q, .int .i64 m, u] w fun e w' => e = .returned (.tuple #[]) ∧ CW w0 g n (swr f p q m) w' := by
  have H0 := hid_of (hS.congr (fun i => (swr_zero f p q i).symm))
  clear hS
  go_enter Tryz.func188, Tryz.ntmps188
  go_wp2_with fail
  go_loopw [10] (fun i w' => ∃ j : Nat, j ≤ m ∧ i = .int .i64 j ∧ Hid (CW w0 g n (swr f p q j) w')) (fun i _ => m - (intOf i).toNat)
  case atStart => exact ⟨0, Nat.zero_le _, rfl, H0⟩
  case round =>
    clear H0
    obtain ⟨j, hj, rfl, hS⟩ := hrel
    by_cases hlt : j < m
    · have HS1 := hid_of ((hS.out.swap (p + j) (q + j) (by omega) (by omega) (by omega)).congr (fun i => swr_step f p q j i (by omega))).drew
      have c0 := hS.out.cell0 (p + j) (by omega)
      have c1 := hS.out.cell1 (p + j) (by omega)
      have c2 := hS.out.cell0 (q + j) (by omega)
      have c3 := hS.out.cell1 (q + j) (by omega)
      have fz := hS.out.free
      have gl := hS.out.gl
      generalize swr f p q j (p + j) / 1024 = x0 at c0 HS1
      generalize swr f p q j (p + j) % 1024 = x1 at c1 HS1
      generalize swr f p q j (q + j) / 1024 = y0 at c2 HS1
      generalize swr f p q j (q + j) % 1024 = y1 at c3 HS1
      go_wp2_with fail
      go_region
      all_goals
        go_wp2_with fail
        go_roundw
        case rel => exact ⟨j + 1, by omega, by go_num, HS1⟩
        case measure => simp [intOf]; omega
    · obtain rfl : j = m := by omega
      go_wp2_with fail
      go_end0
      exact ⟨rfl, hS.out⟩

theorem swapRange_z (w0 : World) (g n cap p q m : Nat) (zp zq zm : Int) (f : Nat → Int) (u : Value) (w : World) (hS : CW w0 g n f w) (ep : zp = (p : Int)) (eq : zq = (q : Int)) (em : zm = (m : Int)) (hp : p + m ≤ q) (hq : q + m ≤ n) (hn : n ≤ 288) :
    Calls Tryz.prog 188 #[.slice (some ⟨g, 0, none⟩) n cap, .int .i64 zp, .int .i64 zq, .int .i64 zm, u] w fun e w' => e = .returned (.tuple #[]) ∧ CW w0 g n (swr f p q m) w' := by
  subst ep eq em
  exact swapRange_any w0 g n cap p q m f u w hS hp hq hn

end Go.Proofs.YtbcnlggkoidmmaaGreatDoor

namespace Go.Proofs.YtbcnlggkoidmmaaGreatDoor
open Go.RowKit Go.Joins Go.Sort SortMath

/-- What the ring of the turn has at hand. -/
def RotSt (w0 : World) (g n : Nat) (f : Nat → Int) (a m b i j : Nat) (w : World) : Prop := ∃ cur : Nat → Int, CW w0 g n cur w ∧ ∀ x, rot cur (m - i) m (m + j) x = rot f a m b x

set_option maxHeartbeats 4000000 in
theorem rotate_any (w0 : World) (g n cap a m b : Nat) (f : Nat → Int) (u : Value) (w : World) (hS : CW w0 g n f w) (ha : a < m) (hm : m < b) (hb : b ≤ n) (hn : n ≤ 288) :
    Calls Tryz.prog 183 #[.slice (some ⟨g, 0, none⟩) n cap, .int .i64 a, .int .i64 m, .int .i64 b, u] w fun e w' => e = .returned (.tuple #[]) ∧ CW w0 g n (rot f a m b) w' := by
  have H0 : Hid (RotSt w0 g n f a m b (m - a) (b - m) w) := ⟨f, hS, fun x => by rw [show m - (m - a) = a by omega, show m + (b - m) = b by omega]⟩
  clear hS
  go_enter Tryz.func183, Tryz.ntmps183
  go_wp2_with fail
  go_loopg [10, 11] (n + n) (fun gk zi zj w' => ∃ i j : Nat, zi = .int .i64 i ∧ zj = .int .i64 j ∧ 1 ≤ i ∧ i ≤ m ∧ 1 ≤ j ∧ m + j ≤ n ∧ i + j ≤ gk ∧ Hid (RotSt w0 g n f a m b i j w'))
  case atStart => exact ⟨m - a, b - m, by first | rfl | (congr 1; omega), by first | rfl | (congr 1; omega), by omega, by omega, by omega, by omega, by omega, H0⟩
  case round =>
    clear H0
    obtain ⟨i, j, rfl, rfl, h1, h2, h3, h4, h5, hS⟩ := hrel
    obtain ⟨cur, hC, hR⟩ := hS.out
    have HC := hid_of hC
    have HR := hid_of hR
    clear hC hR hS
    by_cases he : i = j
    · subst he
      have de : ((i : Int) != (i : Int)) = false := by simp
      go_wp2_with fail
      refine (swapRange_z w0 g n cap (m - i) m i _ _ _ cur u _ HC.out (by omega) rfl rfl (by omega) (by omega) hn).mono ?_
      rintro e w1 ⟨rfl, hC1⟩
      go_wp2_with fail
      go_end0
      exact ⟨rfl, hC1.congr (fun x => by rw [rot_last cur m i x h2]; exact HR.out x)⟩
    · have de : ((i : Int) != (j : Int)) = true := by simp; omega
      by_cases hlt : j < i
      · have dl : decide ((j : Int) < (i : Int)) = true := by simp; omega
        go_wp2_with fail
        refine (swapRange_z w0 g n cap (m - i) m j _ _ _ cur u _ HC.out (by omega) rfl rfl (by omega) (by omega) hn).mono ?_
        rintro e w1 ⟨rfl, hC1⟩
        have HS1 : Hid (RotSt w0 g n f a m b (i - j) j w1) := ⟨_, hC1, fun x => by rw [rot_left cur m i j x h2 hlt]; exact HR.out x⟩
        clear hC1
        go_wp2_with fail
        go_roundg (i - j + j)
        case rel => exact ⟨i - j, j, by first | rfl | (congr 1; omega), rfl, by omega, by omega, h3, h4, Nat.le_refl _, HS1⟩
        case measure => omega
      · have dl : decide ((j : Int) < (i : Int)) = false := by simp; omega
        go_wp2_with fail
        refine (swapRange_z w0 g n cap (m - i) (m + j - i) i _ _ _ cur u _ HC.out (by omega) (by omega) rfl (by omega) (by omega) hn).mono ?_
        rintro e w1 ⟨rfl, hC1⟩
        have HS1 : Hid (RotSt w0 g n f a m b i (j - i) w1) := ⟨_, hC1, fun x => by rw [rot_right cur m i j x h2 (by omega)]; exact HR.out x⟩
        clear hC1
        go_wp2_with fail
        go_roundg (i + (j - i))
        case rel => exact ⟨i, j - i, rfl, by first | rfl | (congr 1; omega), h1, h2, by omega, by omega, Nat.le_refl _, HS1⟩
        case measure => omega

theorem rotate_z (w0 : World) (g n cap a m b : Nat) (za zm zb : Int) (f : Nat → Int) (u : Value) (w : World) (hS : CW w0 g n f w) (ea : za = (a : Int)) (em : zm = (m : Int)) (eb : zb = (b : Int)) (ha : a < m) (hm : m < b) (hb : b ≤ n) (hn : n ≤ 288) :
    Calls Tryz.prog 183 #[.slice (some ⟨g, 0, none⟩) n cap, .int .i64 za, .int .i64 zm, .int .i64 zb, u] w fun e w' => e = .returned (.tuple #[]) ∧ CW w0 g n (rot f a m b) w' := by
  subst ea em eb
  exact rotate_any w0 g n cap a m b f u w hS ha hm hb hn

end Go.Proofs.YtbcnlggkoidmmaaGreatDoor

namespace Go.Proofs.YtbcnlggkoidmmaaGreatDoor
open Go.RowKit Go.Joins Go.Sort SortMath

/-- What the outer ring of the insertion sort has at hand. -/
def InsO (w0 : World) (g n : Nat) (f : Nat → Int) (a i : Nat) (w : World) : Prop := ∃ cur : Nat → Int, CW w0 g n cur w ∧ Up cur a i ∧ Of f cur a i
/-- And the inner one. -/
def InsI (w0 : World) (g n : Nat) (f : Nat → Int) (a b j i : Nat) (w : World) : Prop := ∃ h cur : Nat → Int, CW w0 g n cur w ∧ Ins h cur a j i ∧ Of f h a i ∧ Stb h a b

theorem stb_of {f h : Nat → Int} {a i b : Nat} (hs : Stb f a b) (hu : Up h a i) (ho : Of f h a i) : Stb h a b := by
  intro x y h1 h2 h3
  by_cases qy : y < i
  · exact .inl (hu x y h1 h2 qy)
  · rw [ho.2 y (by omega)]
    by_cases qx : x < i
    · obtain ⟨k, p1, p2, e⟩ := ho.1 x h1 qx
      rw [e]
      exact hs k y p1 (by omega) h3
    · rw [ho.2 x (by omega)]
      exact hs x y h1 h2 h3

set_option maxHeartbeats 8000000 in
theorem insertion_any (w0 : World) (g n cap a b : Nat) (f : Nat → Int) (w : World) (hS : CW w0 g n f w) (hab : a ≤ b) (hb : b ≤ n) (hn : n ≤ 288) (hst : Stb f a b) :
    Calls Tryz.prog 174 #[.slice (some ⟨g, 0, none⟩) n cap, .int .i64 a, .int .i64 b, .func (.func 143) #[] #[]] w fun e w' => e = .returned (.tuple #[]) ∧ ∃ f', CW w0 g n f' w' ∧ Up f' a b ∧ Of f f' a b := by
  have mixed : Tryz.prog.follows .mixedOrders = true := by kernel_rfl
  have H0 : Hid (InsO w0 g n f a (a + 1) w) := ⟨f, hS, fun i j h1 h2 h3 => by omega, Of.refl _ _ _⟩
  have H00 := hid_of hS
  have HST := hid_of hst
  clear hS hst
  go_enter Tryz.func174, Tryz.ntmps174
  go_wp2_with fail
  go_loopg [8] (n + 1) (fun gk zi w' => ∃ i : Nat, zi = .int .i64 i ∧ a + 1 ≤ i ∧ (i ≤ b ∨ i = a + 1) ∧ n + 2 - i ≤ gk ∧ Hid (InsO w0 g n f a i w'))
  case atStart => exact ⟨a + 1, by first | rfl | go_num | (congr 1; omega), by omega, .inr rfl, by omega, H0⟩
  case round =>
    clear H0
    obtain ⟨i, rfl, h1, h2, h3, hS⟩ := hrel
    obtain ⟨cur, hC, hU, hO⟩ := hS.out
    by_cases hlt : i < b
    · have HI0 : Hid (InsI w0 g n f a b i i wr) := ⟨cur, cur, hC, ins_start (by omega) hU, hO, stb_of HST.out hU hO⟩
      clear hC hU hO hS
      go_wp2_with fail
      go_loopg [9] (n + 1) (fun gk zj w' => ∃ j : Nat, zj = .int .i64 j ∧ a ≤ j ∧ j ≤ i ∧ j ≤ gk ∧ Hid (InsI w0 g n f a b j i w'))
      case atStart => exact ⟨i, rfl, by omega, by omega, by omega, HI0⟩
      case round =>
        clear HI0
        obtain ⟨j, rfl, q1, q2, q3, hI⟩ := hrel
        obtain ⟨h, cur, hC, hJ, hO, hT⟩ := hI.out
        have HC := hid_of hC
        have HJ := hid_of hJ
        have HO := hid_of hO
        have HT := hid_of hT
        clear hC hJ hO hT hI
        by_cases hja : a < j
        · obtain ⟨k, rfl⟩ : ∃ k, j = k + 1 := ⟨j - 1, by omega⟩
          have dj : decide ((a : Int) < (k : Int) + 1) = true := decide_eq_true (by omega)
          have dj2 : (a : Int) < (k : Int) + 1 := by omega
          have kw : IntKind.i64.wrap (k : Int) = (k : Int) := by rw [IntKind.wrap_i64]; omega
          have k1 : (k : Int) + 1 < (n : Int) := by omega
          have k2 : (k : Int) < (n : Int) := by omega
          have k3 : (0 : Int) ≤ (k : Int) + 1 := by omega
          have k4 : ((k : Int) + 1).toNat = k + 1 := by omega
          have wt := ins_wt HJ.out (by omega) hlt HT.out
          have c0 := fun n' os => (HC.out.grown n' os).cell0 (k + 1) (by omega)
          have c1 := fun n' os => (HC.out.grown n' os).cell1 (k + 1) (by omega)
          have c2 := fun n' os => (HC.out.grown n' os).cell0 k (by omega)
          have c3 := fun n' os => (HC.out.grown n' os).cell1 k (by omega)
          obtain ⟨x0, hx0⟩ : ∃ x, x = cur (k + 1) / 1024 := ⟨_, rfl⟩
          obtain ⟨x1, hx1⟩ : ∃ x, x = cur (k + 1) % 1024 := ⟨_, rfl⟩
          obtain ⟨y0, hy0⟩ : ∃ x, x = cur k / 1024 := ⟨_, rfl⟩
          obtain ⟨y1, hy1⟩ : ∃ x, x = cur k % 1024 := ⟨_, rfl⟩
          rw [← hx0, ← hy0] at wt
          rw [← hx0] at c0
          rw [← hx1] at c1
          rw [← hy0] at c2
          rw [← hy1] at c3
          have HX := hid_of (And.intro (And.intro hx0 hx1) (And.intro hy0 hy1))
          have WT := hid_of wt
          clear hx0 hx1 hy0 hy1 wt
          have hcb := fun n' os => byWeight_in x0 y0 x1 y1 wr n' os
          by_cases hv : x0 < y0
          · have hr : cmpI x0 y0 = -1 := by unfold cmpI; rw [if_pos hv]
            rw [hr] at hcb
            clear hr
            go_wp2_with fail
            go_quiet_grown (refine Calls.grown_of (hcb _ _))
            have HC2 := hid_of (HC.out.grown nq osq)
            clear c0 c1 c2 c3 hcb
            generalize grow (wr.drewN nq) osq = w2 at HC2
            have HS1 := hid_of ((HC2.out.swap (k + 1) k (by omega) (by omega) (by omega))).drew
            have c0 := HC2.out.cell0 (k + 1) (by omega)
            have c1 := HC2.out.cell1 (k + 1) (by omega)
            have c2 := HC2.out.cell0 k (by omega)
            have c3 := HC2.out.cell1 k (by omega)
            rw [← HX.out.1.1] at c0 HS1
            rw [← HX.out.1.2] at c1 HS1
            rw [← HX.out.2.1] at c2 HS1
            rw [← HX.out.2.2] at c3 HS1
            have fz := HC2.out.free
            have gl := HC2.out.gl
            have HI1 : Hid (Ins h (sw cur (k + 1) k) a k i) := ins_step HJ.out (by omega) (WT.out.1 hv)
            have HN : Hid (InsI w0 g n f a b k i ((((w2.setCell ⟨g, (k + 1) * 2, none⟩ (.int .i64 y0)).setCell ⟨g, (k + 1) * 2 + 1, none⟩ (.int .i64 y1)).setCell ⟨g, k * 2, none⟩ (.int .i64 x0)).setCell ⟨g, k * 2 + 1, none⟩ (.int .i64 x1)).drew) := ⟨h, _, HS1.out, HI1.out, HO.out, HT.out⟩
            clear HS1 HI1
            go_wp2_with fail
            go_region
            all_goals
              go_wp2_with fail
              go_roundg k
              case measure => omega
              case rel => exact ⟨k, by first | rfl | go_num | (congr 1; omega), by omega, by omega, by omega, HN⟩
          · have hr : decide (cmpI x0 y0 < 0) = false := by
              unfold cmpI
              rw [if_neg hv]
              by_cases h' : y0 < x0
              · rw [if_pos h']; rfl
              · rw [if_neg h']; rfl
            have HE := hid_of (ins_end HJ.out (.inr (by rw [Nat.add_sub_cancel]; exact WT.out.2 (by omega))))
            have hr2 : ¬ cmpI x0 y0 < 0 := by simpa using hr
            generalize cmpI x0 y0 = r at hcb hr hr2
            go_wp2_with fail
            go_quiet_grown (refine Calls.grown_of (hcb _ _))
            have HN : Hid (InsO w0 g n f a (i + 1) (grow (wr.drewN nq) osq)) := ⟨cur, HC.out.grown nq osq, HE.out.1, (HO.out.wide (Nat.le_refl _) (Nat.le_succ _)).trans HE.out.2⟩
            clear c0 c1 c2 c3 hcb HE
            generalize grow (wr.drewN nq) osq = w2 at HN
            go_wp2_with fail
            go_roundg (n + 2 - (i + 1))
            case measure => omega
            case rel => exact ⟨i + 1, by first | rfl | go_num | (congr 1; omega), by omega, .inl (by omega), Nat.le_refl _, HN⟩
        · have dj : decide ((a : Int) < (j : Int)) = false := decide_eq_false (by omega)
          have dj2 : ¬ (a : Int) < (j : Int) := by omega
          have HE := hid_of (ins_end HJ.out (.inl (by omega)))
          have HN : Hid (InsO w0 g n f a (i + 1) wr.drew) := ⟨cur, HC.out.drew, HE.out.1, (HO.out.wide (Nat.le_refl _) (Nat.le_succ _)).trans HE.out.2⟩
          clear HE
          go_wp2_with fail
          go_region
          all_goals
            go_wp2_with fail
            go_roundg (n + 2 - (i + 1))
            case measure => omega
            case rel => exact ⟨i + 1, by first | rfl | go_num | (congr 1; omega), by omega, .inl (by omega), Nat.le_refl _, HN⟩
    · have HE : Hid (∃ f', CW w0 g n f' wr ∧ Up f' a b ∧ Of f f' a b) := by
        rcases h2 with h2 | h2
        · obtain rfl : i = b := by omega
          exact ⟨cur, hC, hU, hO⟩
        · refine ⟨f, hC.congr (fun x => ?_), fun x y p1 p2 p3 => by omega, Of.refl _ _ _⟩
          by_cases hx : a ≤ x ∧ x < i
          · obtain ⟨y, p1, p2, e⟩ := hO.1 x hx.1 hx.2
            rw [e, show y = x by omega]
          · exact hO.2 x hx
      clear hC hU hO
      go_wp2_with fail
      go_end0
      exact ⟨rfl, HE.out⟩

end Go.Proofs.YtbcnlggkoidmmaaGreatDoor
