/-
  The walk of the library's merge where the first part has one element.
  The walk of the library's merge where the second part has one element.
  What the library's merge is to do, and the search for its cut.
-/
import Derived.Test.YtbcnlggkoidmmaaGreatDoorRows
import Derived.Test.YtbcnlggkoidmmaaGreatDoorQk01
import Derived.Test.YtbcnlggkoidmmaaGreatDoorQk07
import Derived.Test.YtbcnlggkoidmmaaGreatDoorQk37
import Derived.Test.YtbcnlggkoidmmaaGreatDoorQk38
import Derived.Test.YtbcnlggkoidmmaaGreatDoorQk39
import Derived.WalkKit
import Derived.ProofKit
import Derived.WalkLawsBesides
import Derived.RegionTactic
import Derived.BigRegion
import Derived.Shelf.SlSortCmp.QuietGrown
import Derived.Deep.LoopGhost
import Derived.Lib.SmallJoins
namespace Go.Proofs.YtbcnlggkoidmmaaGreatDoor
open Go.RowKit Go.Joins Go.Sort SortMath

/-- What is known of the search for the place of f a. -/
def SeekL (f : Nat → Int) (a b i j : Nat) : Prop := (∀ x, a + 1 ≤ x → x < i → f x < f a) ∧ ∀ x, j ≤ x → x < b → f a < f x

theorem seekL_up {f : Nat → Int} {a b i j h : Nat} (hs : SeekL f a b i j) (hu : Up f (a + 1) b) (_hh : a + 1 ≤ h) (hj : h < j) (hb : j ≤ b) (hw : f h / 1024 < f a / 1024) : SeekL f a b (h + 1) j := by
  refine ⟨fun x p q => ?_, hs.2⟩
  have := Up.le hu p (show x ≤ h by omega) (by omega)
  omega
theorem seekL_down {f : Nat → Int} {a b i j h : Nat} (hs : SeekL f a b i j) (hu : Up f (a + 1) b) (hst : Stb f a b) (hh : a + 1 ≤ h) (_hj : h < j) (_hb : j ≤ b) (hw : ¬ f h / 1024 < f a / 1024) : SeekL f a b i h := by
  refine ⟨hs.1, fun x p q => ?_⟩
  have h1 := Up.le hu hh p q
  have h2 := hst a x (Nat.le_refl _) (by omega) q
  omega

theorem cmp_less {x y : Int} (h : x < y) : cmpI x y < 0 := by unfold cmpI; rw [if_pos h]; decide
theorem cmp_not {x y : Int} (h : ¬ x < y) : ¬ cmpI x y < 0 := by
  unfold cmpI
  rw [if_neg h]
  by_cases h' : y < x
  · rw [if_pos h']; decide
  · rw [if_neg h']; decide

set_option maxHeartbeats 8000000 in
set_option maxRecDepth 100000 in
theorem sym_left (w0 : World) (g n cap a b : Nat) (f : Nat → Int) (w : World) (hS : CW w0 g n f w) (hab : a + 1 < b) (hb : b ≤ n) (hn : n ≤ 288) (hst : Stb f a b) (hu : Up f (a + 1) b) :
    Calls Tryz.prog 175 #[.slice (some ⟨g, 0, none⟩) n cap, .int .i64 a, .int .i64 ((a : Int) + 1), .int .i64 b, .func (.func 143) #[] #[]] w fun e w' => e = .returned (.tuple #[]) ∧ ∃ f', CW w0 g n f' w' ∧ Up f' a b ∧ Of f f' a b := by
  have mixed : Tryz.prog.follows .mixedOrders = true := by kernel_rfl
  have H0 := hid_of hS
  have HST := hid_of hst
  have HU := hid_of hu
  clear hS hst hu
  have em : (a : Int) + 1 - (a : Int) = 1 := by omega
  go_enter Tryz.func175, Tryz.ntmps175
  go_wp2_with fail
  go_loopg [10, 11] (n + 1) (fun gk zi zj w' => ∃ i j : Nat, zi = .int .i64 i ∧ zj = .int .i64 j ∧ a + 1 ≤ i ∧ i ≤ j ∧ j ≤ b ∧ j - i ≤ gk ∧ Hid (SeekL f a b i j) ∧ Hid (CW w0 g n f w'))
  case atStart => exact ⟨a + 1, b, by first | rfl | go_num | (congr 1; omega), rfl, Nat.le_refl _, by omega, Nat.le_refl _, by omega, ⟨fun x p q => by omega, fun x p q => by omega⟩, H0⟩
  case round =>
    clear H0
    obtain ⟨i, j, rfl, rfl, h1, h2, h3, h4, hK, HC⟩ := hrel
    by_cases hlt : i < j
    · obtain ⟨h, hh⟩ : ∃ h, h = (i + j) / 2 := ⟨_, rfl⟩
      have hh1 : i ≤ h ∧ h < j := by omega
      have eh : ((i : Int) + (j : Int)) / 2 = (h : Int) := by omega
      clear hh
      have c0 := fun n' os => (HC.out.grown n' os).cell0 h (by omega)
      have c1 := fun n' os => (HC.out.grown n' os).cell1 h (by omega)
      have c2 := fun n' os => (HC.out.grown n' os).cell0 a (by omega)
      have c3 := fun n' os => (HC.out.grown n' os).cell1 a (by omega)
      have hcb := fun n' os => byWeight_in (f h / 1024) (f a / 1024) (f h % 1024) (f a % 1024) wr n' os
      by_cases hv : f h / 1024 < f a / 1024
      · have HK1 := hid_of (seekL_up hK.out HU.out (show a + 1 ≤ h by omega) hh1.2 h3 hv)
        have hr2 := cmp_less hv
        have hr := decide_eq_true hr2
        generalize cmpI (f h / 1024) (f a / 1024) = r at hcb hr hr2
        clear hv
        generalize f h / 1024 = x0 at c0 hcb
        generalize f h % 1024 = x1 at c1 hcb
        generalize f a / 1024 = y0 at c2 hcb
        generalize f a % 1024 = y1 at c3 hcb
        go_wp2_with fail
        have k2 : (h : Int) < (n : Int) := by omega
        have k3 : (a : Int) < (n : Int) := by omega
        go_quiet_grown (refine Calls.grown_of (hcb _ _))
        have HN := hid_of (HC.out.grown nq osq)
        clear c0 c1 c2 c3 hcb eh
        generalize grow (wr.drewN nq) osq = w2 at HN
        go_wp2_with fail
        go_roundg (j - (h + 1))
        case measure => omega
        case rel => exact ⟨h + 1, j, by first | rfl | go_num | (congr 1; omega), rfl, by omega, by omega, h3, Nat.le_refl _, HK1, HN⟩
      · have HK1 := hid_of (seekL_down hK.out HU.out HST.out (show a + 1 ≤ h by omega) hh1.2 h3 hv)
        have hr2 := cmp_not hv
        have hr := decide_eq_false hr2
        generalize cmpI (f h / 1024) (f a / 1024) = r at hcb hr hr2
        clear hv
        generalize f h / 1024 = x0 at c0 hcb
        generalize f h % 1024 = x1 at c1 hcb
        generalize f a / 1024 = y0 at c2 hcb
        generalize f a % 1024 = y1 at c3 hcb
        go_wp2_with fail
        have k2 : (h : Int) < (n : Int) := by omega
        have k3 : (a : Int) < (n : Int) := by omega
        go_quiet_grown (refine Calls.grown_of (hcb _ _))
        have HN := hid_of (HC.out.grown nq osq)
        clear c0 c1 c2 c3 hcb eh
        generalize grow (wr.drewN nq) osq = w2 at HN
        go_wp2_with fail
        go_roundg (h - i)
        case measure => omega
        case rel => exact ⟨i, h, rfl, rfl, h1, by omega, by omega, Nat.le_refl _, HK1, HN⟩
    · obtain rfl : i = j := by omega
      have HF := hid_of (shl_up HU.out h1 h3 hK.out.1 hK.out.2)
      have HC0 := hid_of (HC.out.congr (fun x => (shl_zero f a x).symm))
      clear HC hK
      go_wp2_with fail
      go_loopg [13] (n + 1) (fun gk zk w' => ∃ k : Nat, zk = .int .i64 k ∧ a ≤ k ∧ k ≤ i - 1 ∧ n - k ≤ gk ∧ Hid (CW w0 g n (shl f a k) w'))
      case atStart => exact ⟨a, rfl, Nat.le_refl _, by omega, by omega, HC0⟩
      case round =>
        clear HC0
        obtain ⟨k, rfl, q1, q2, q3, HC⟩ := hrel
        by_cases hki : k < i - 1
        · have HS1 := hid_of ((HC.out.swap k (k + 1) (by omega) (by omega) (by omega)).congr (fun x => shl_step f a k x q1)).drew
          have c0 := HC.out.cell0 k (by omega)
          have c1 := HC.out.cell1 k (by omega)
          have c2 := HC.out.cell0 (k + 1) (by omega)
          have c3 := HC.out.cell1 (k + 1) (by omega)
          have fz := HC.out.free
          have gl := HC.out.gl
          have dk : decide ((k : Int) < (i : Int) - 1) = true := decide_eq_true (by omega)
          generalize shl f a k k / 1024 = x0 at c0 HS1
          generalize shl f a k k % 1024 = x1 at c1 HS1
          generalize shl f a k (k + 1) / 1024 = y0 at c2 HS1
          generalize shl f a k (k + 1) % 1024 = y1 at c3 HS1
          go_wp2_with fail
          go_region
          all_goals
            go_wp2_with fail
            go_roundg (n - (k + 1))
            case measure => omega
            case rel => exact ⟨k + 1, by first | rfl | go_num | (congr 1; omega), by omega, by omega, Nat.le_refl _, HS1⟩
        · obtain rfl : k = i - 1 := by omega
          have dk : decide (((i - 1 : Nat) : Int) < (i : Int) - 1) = false := decide_eq_false (by omega)
          have dk2 : ¬ ((i - 1 : Nat) : Int) < (i : Int) - 1 := by omega
          go_wp2_with fail
          refine bodyPost_ret (results_none rfl _ _ _) rfl ?_
          exact ⟨rfl, _, HC.out, HF.out.1, HF.out.2⟩

end Go.Proofs.YtbcnlggkoidmmaaGreatDoor

namespace Go.Proofs.YtbcnlggkoidmmaaGreatDoor
open Go.RowKit Go.Joins Go.Sort SortMath

/-- What is known of the search for the place of f m. -/
def SeekR (f : Nat → Int) (a m i j : Nat) : Prop := (∀ x, a ≤ x → x < i → f x < f m) ∧ ∀ x, j ≤ x → x < m → f m < f x

theorem seekR_down {f : Nat → Int} {a m i j h : Nat} (hs : SeekR f a m i j) (hu : Up f a m) (hh : a ≤ h) (hw : f m / 1024 < f h / 1024) : SeekR f a m i h := by
  refine ⟨hs.1, fun x p q => ?_⟩
  have := Up.le hu hh p q
  omega
theorem seekR_up {f : Nat → Int} {a m i j h : Nat} (hs : SeekR f a m i j) (hu : Up f a m) (hst : Stb f a (m + 1)) (hj : h < j) (hb : j ≤ m) (hw : ¬ f m / 1024 < f h / 1024) : SeekR f a m (h + 1) j := by
  refine ⟨fun x p q => ?_, hs.2⟩
  have h1 := Up.le hu p (show x ≤ h by omega) (by omega)
  have h2 := hst x m p (by omega) (by omega)
  omega

set_option maxHeartbeats 8000000 in
set_option maxRecDepth 100000 in
theorem sym_right (w0 : World) (g n cap a m : Nat) (f : Nat → Int) (w : World) (hS : CW w0 g n f w) (ham : a + 1 < m) (hb : m + 1 ≤ n) (hn : n ≤ 288) (hst : Stb f a (m + 1)) (hu : Up f a m) :
    Calls Tryz.prog 175 #[.slice (some ⟨g, 0, none⟩) n cap, .int .i64 a, .int .i64 m, .int .i64 ((m : Int) + 1), .func (.func 143) #[] #[]] w fun e w' => e = .returned (.tuple #[]) ∧ ∃ f', CW w0 g n f' w' ∧ Up f' a (m + 1) ∧ Of f f' a (m + 1) := by
  have mixed : Tryz.prog.follows .mixedOrders = true := by kernel_rfl
  have H0 := hid_of hS
  have HST := hid_of hst
  have HU := hid_of hu
  clear hS hst hu
  have em : (m : Int) + 1 - (m : Int) = 1 := by omega
  have em2 : ((m : Int) - (a : Int) == 1) = false := by simp; omega
  go_enter Tryz.func175, Tryz.ntmps175
  go_wp2_with fail
  go_loopg [14, 15] (n + 1) (fun gk zi zj w' => ∃ i j : Nat, zi = .int .i64 i ∧ zj = .int .i64 j ∧ a ≤ i ∧ i ≤ j ∧ j ≤ m ∧ j - i ≤ gk ∧ Hid (SeekR f a m i j) ∧ Hid (CW w0 g n f w'))
  case atStart => exact ⟨a, m, rfl, rfl, Nat.le_refl _, by omega, Nat.le_refl _, by omega, ⟨fun x p q => by omega, fun x p q => by omega⟩, H0⟩
  case round =>
    clear H0
    obtain ⟨i, j, rfl, rfl, h1, h2, h3, h4, hK, HC⟩ := hrel
    by_cases hlt : i < j
    · obtain ⟨h, hh⟩ : ∃ h, h = (i + j) / 2 := ⟨_, rfl⟩
      have hh1 : i ≤ h ∧ h < j := by omega
      have eh : ((i : Int) + (j : Int)) / 2 = (h : Int) := by omega
      clear hh
      have c0 := fun n' os => (HC.out.grown n' os).cell0 m (by omega)
      have c1 := fun n' os => (HC.out.grown n' os).cell1 m (by omega)
      have c2 := fun n' os => (HC.out.grown n' os).cell0 h (by omega)
      have c3 := fun n' os => (HC.out.grown n' os).cell1 h (by omega)
      have hcb := fun n' os => byWeight_in (f m / 1024) (f h / 1024) (f m % 1024) (f h % 1024) wr n' os
      have k2 : (h : Int) < (n : Int) := by omega
      have k3 : (m : Int) < (n : Int) := by omega
      by_cases hv : f m / 1024 < f h / 1024
      · have HK1 := hid_of (seekR_down hK.out HU.out (show a ≤ h by omega) hv)
        have hr2 := cmp_less hv
        have hr := decide_eq_true hr2
        generalize cmpI (f m / 1024) (f h / 1024) = r at hcb hr hr2
        clear hv
        generalize f m / 1024 = x0 at c0 hcb
        generalize f m % 1024 = x1 at c1 hcb
        generalize f h / 1024 = y0 at c2 hcb
        generalize f h % 1024 = y1 at c3 hcb
        go_wp2_with fail
        go_quiet_grown (refine Calls.grown_of (hcb _ _))
        have HN := hid_of (HC.out.grown nq osq)
        clear c0 c1 c2 c3 hcb eh
        generalize grow (wr.drewN nq) osq = w2 at HN
        go_wp2_with fail
        go_roundg (h - i)
        case measure => omega
        case rel => exact ⟨i, h, rfl, rfl, h1, by omega, by omega, Nat.le_refl _, HK1, HN⟩
      · have HK1 := hid_of (seekR_up hK.out HU.out HST.out hh1.2 h3 hv)
        have hr2 := cmp_not hv
        have hr := decide_eq_false hr2
        generalize cmpI (f m / 1024) (f h / 1024) = r at hcb hr hr2
        clear hv
        generalize f m / 1024 = x0 at c0 hcb
        generalize f m % 1024 = x1 at c1 hcb
        generalize f h / 1024 = y0 at c2 hcb
        generalize f h % 1024 = y1 at c3 hcb
        go_wp2_with fail
        go_quiet_grown (refine Calls.grown_of (hcb _ _))
        have HN := hid_of (HC.out.grown nq osq)
        clear c0 c1 c2 c3 hcb eh
        generalize grow (wr.drewN nq) osq = w2 at HN
        go_wp2_with fail
        go_roundg (j - (h + 1))
        case measure => omega
        case rel => exact ⟨h + 1, j, by first | rfl | go_num | (congr 1; omega), rfl, by omega, by omega, h3, Nat.le_refl _, HK1, HN⟩
    · obtain rfl : i = j := by omega
      have HF := hid_of (shr_up HU.out h1 h3 hK.out.1 hK.out.2)
      have HC0 := hid_of (HC.out.congr (fun x => (shr_zero f m x).symm))
      clear HC hK
      go_wp2_with fail
      go_loopg [17] (n + 1) (fun gk zk w' => ∃ k : Nat, zk = .int .i64 k ∧ i ≤ k ∧ k ≤ m ∧ k ≤ gk ∧ Hid (CW w0 g n (shr f m k) w'))
      case atStart => exact ⟨m, rfl, h3, Nat.le_refl _, by omega, HC0⟩
      case round =>
        clear HC0
        obtain ⟨k', rfl, q1, q2, q3, HC⟩ := hrel
        by_cases hki : i < k'
        · obtain ⟨k, rfl⟩ : ∃ k, k' = k + 1 := ⟨k' - 1, by omega⟩
          have HS1 := hid_of ((HC.out.swap (k + 1) k (by omega) (by omega) (by omega)).congr (fun x => shr_step f m k x (by omega))).drew
          have c0 := HC.out.cell0 (k + 1) (by omega)
          have c1 := HC.out.cell1 (k + 1) (by omega)
          have c2 := HC.out.cell0 k (by omega)
          have c3 := HC.out.cell1 k (by omega)
          have fz := HC.out.free
          have gl := HC.out.gl
          have dk : decide ((i : Int) < (k : Int) + 1) = true := decide_eq_true (by omega)
          have kw : IntKind.i64.wrap (k : Int) = (k : Int) := by rw [IntKind.wrap_i64]; omega
          have k1 : (k : Int) + 1 < (n : Int) := by omega
          have k2 : (k : Int) < (n : Int) := by omega
          have k3 : (0 : Int) ≤ (k : Int) + 1 := by omega
          have k4 : ((k : Int) + 1).toNat = k + 1 := by omega
          generalize shr f m (k + 1) (k + 1) / 1024 = x0 at c0 HS1
          generalize shr f m (k + 1) (k + 1) % 1024 = x1 at c1 HS1
          generalize shr f m (k + 1) k / 1024 = y0 at c2 HS1
          generalize shr f m (k + 1) k % 1024 = y1 at c3 HS1
          go_wp2_with fail
          go_region
          all_goals
            go_wp2_with fail
            go_roundg k
            case measure => omega
            case rel => exact ⟨k, by first | rfl | go_num | (congr 1; omega), by omega, by omega, Nat.le_refl _, HS1⟩
        · obtain rfl : i = k' := by omega
          have dk : decide ((i : Int) < (i : Int)) = false := by simp
          go_wp2_with fail
          refine bodyPost_ret (results_none rfl _ _ _) rfl ?_
          exact ⟨rfl, _, HC.out, HF.out.1, HF.out.2⟩

end Go.Proofs.YtbcnlggkoidmmaaGreatDoor

namespace Go.Proofs.YtbcnlggkoidmmaaGreatDoor
open Go.RowKit Go.Joins Go.Sort SortMath

/-- The merge of [a, m) and [m, b) does what it should. -/
def SymGoes (w0 : World) (g n cap a m b : Nat) : Prop := ∀ (f : Nat → Int) (w : World) (za zm zb : Int), za = (a : Int) → zm = (m : Int) → zb = (b : Int) → CW w0 g n f w → Stb f a b → Up f a m → Up f m b →
    Calls Tryz.prog 175 #[.slice (some ⟨g, 0, none⟩) n cap, .int .i64 za, .int .i64 zm, .int .i64 zb, .func (.func 143) #[] #[]] w fun e w' => e = .returned (.tuple #[]) ∧ ∃ f', CW w0 g n f' w' ∧ Up f' a b ∧ Of f f' a b
/-- What is known of the search for the cut. -/
def SeekM (f : Nat → Int) (t lo hi s r : Nat) : Prop := (s = lo ∨ f (s - 1) < f (t - s)) ∧ (r = hi ∨ f (t - 1 - r) < f r)
theorem seekM_up {f : Nat → Int} {t lo hi s r c a m b : Nat} (hs : SeekM f t lo hi s r) (hst : Stb f a b) (h1 : a ≤ c) (h2 : c < m) (h3 : m ≤ t - 1 - c) (h4 : t - 1 - c < b) (hw : ¬ f (t - 1 - c) / 1024 < f c / 1024) : SeekM f t lo hi (c + 1) r := by
  refine ⟨.inr ?_, hs.2⟩
  have := hst c (t - 1 - c) h1 (by omega) h4
  rw [Nat.add_sub_cancel, show t - (c + 1) = t - 1 - c by omega]
  omega
theorem seekM_down {f : Nat → Int} {t lo hi s r c : Nat} (hs : SeekM f t lo hi s r) (hw : f (t - 1 - c) / 1024 < f c / 1024) : SeekM f t lo hi s c := ⟨hs.1, .inr (by omega)⟩

end Go.Proofs.YtbcnlggkoidmmaaGreatDoor
