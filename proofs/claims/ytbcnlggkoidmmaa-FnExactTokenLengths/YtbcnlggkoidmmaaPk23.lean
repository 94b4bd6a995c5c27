/-
  The walk of the library's stable sort of coins.
-/
import Derived.Test.YtbcnlggkoidmmaaRows
import Derived.Test.YtbcnlggkoidmmaaPk01
import Derived.Test.YtbcnlggkoidmmaaPk02
import Derived.Test.YtbcnlggkoidmmaaPk17
import Derived.Test.YtbcnlggkoidmmaaPk19
import Derived.Test.YtbcnlggkoidmmaaPk21
import Derived.Test.YtbcnlggkoidmmaaPk22
import Derived.WalkKit
import Derived.ProofKit
import Derived.WalkLawsBesides
import Derived.RegionTactic
import Derived.BigRegion
import Derived.Shelf.SlSortCmp.QuietGrown
import Derived.Deep.LoopGhost
import Derived.Lib.SmallJoins
namespace Go.Proofs.Ytbcnlggkoidmmaa
open Go.RowKit Go.Joins Go.Sort SortMath

theorem sym_any (w0 : World) (g n cap : Nat) (hn : n ≤ 288) : ∀ d a m b, b - a = d → a < m → m < b → b ≤ n → SymGoes w0 g n cap a m b := by
  intro d
  induction d using Nat.strongRecOn with
  | _ d ih =>
    intro a m b hd ham hmb hb f w za zm zb ea em eb hS hst hu1 hu2
    subst ea em eb
    by_cases h1 : m = a + 1
    · subst h1
      have := sym_left w0 g n cap a b f w hS hmb hb hn hst hu2
      rw [show ((a + 1 : Nat) : Int) = (a : Int) + 1 by omega]
      exact this
    · by_cases h2 : b = m + 1
      · subst h2
        have := sym_right w0 g n cap a m f w hS (by omega) hb hn hst hu1
        rw [show ((m + 1 : Nat) : Int) = (m : Int) + 1 by omega]
        exact this
      · have IH : ∀ a' m' b', b' - a' < b - a → a' < m' → m' < b' → b' ≤ n → SymGoes w0 g n cap a' m' b' := fun a' m' b' p1 p2 p3 p4 => ih (b' - a') (by omega) a' m' b' rfl p2 p3 p4
        by_cases h3 : (a + b) / 2 < m
        · exact sym_first w0 g n cap a m b _ f w IH hS rfl h3 (by omega) (by omega) hb hn hst hu1 hu2
        · exact sym_second w0 g n cap a m b _ f w IH hS rfl (by omega) (by omega) (by omega) hb hn hst hu1 hu2

/-- What the first ring of the sort has at hand. -/
def StI (w0 : World) (g n : Nat) (f : Nat → Int) (a : Nat) (w : World) : Prop := ∃ (cur : Nat → Int) (t : Nat), a = t * 20 ∧ CW w0 g n cur w ∧ Bl cur 20 0 a ∧ Stb cur 0 n ∧ Of f cur 0 n
/-- The second. -/
def StO (w0 : World) (g n : Nat) (f : Nat → Int) (bs : Nat) (w : World) : Prop := ∃ cur : Nat → Int, CW w0 g n cur w ∧ Bl cur bs 0 n ∧ Stb cur 0 n ∧ Of f cur 0 n
/-- The one within it. -/
def StM (w0 : World) (g n : Nat) (f : Nat → Int) (bs a : Nat) (w : World) : Prop := ∃ (cur : Nat → Int) (t : Nat), a = t * (2 * bs) ∧ CW w0 g n cur w ∧ Bl cur (2 * bs) 0 a ∧ Bl cur bs a n ∧ Stb cur 0 n ∧ Of f cur 0 n

theorem stI_next {w0 w1 : World} {g n : Nat} {f cur cur' : Nat → Int} {t b : Nat} (hC : CW w0 g n cur' w1) (hB : Bl cur 20 0 (t * 20)) (hst : Stb cur 0 n) (hof : Of f cur 0 n) (hb : b ≤ n) (hu : Up cur' (t * 20) b) (ho : Of cur cur' (t * 20) b) : CW w0 g n cur' w1 ∧ Bl cur' 20 0 b ∧ Stb cur' 0 n ∧ Of f cur' 0 n :=
  ⟨hC, bl_next hB hu ho, hst.sorted hb hu ho, hof.trans (ho.wide (Nat.zero_le _) hb)⟩

set_option maxHeartbeats 8000000 in
theorem stable_any (w0 : World) (g n cap : Nat) (f : Nat → Int) (w : World) (hS : CW w0 g n f w) (hn : n ≤ 288) (hst : Stb f 0 n) :
    Calls Try.prog 90 #[.slice (some ⟨g, 0, none⟩) n cap, .int .i64 n, .func (.func 77) #[] #[]] w fun e w' => e = .returned (.tuple #[]) ∧ ∃ f', CW w0 g n f' w' ∧ Up f' 0 n ∧ Of f f' 0 n := by
  have H0 : Hid (StI w0 g n f 0 w) := ⟨f, 0, rfl, hS, bl_none f 20, hst, Of.refl _ _ _⟩
  clear hS hst
  go_enter Try.func90, Try.ntmps90
  go_wp2_with fail
  go_loopg [7, 8] (n + 1) (fun gk za zb w' => ∃ a b : Nat, za = .int .i64 a ∧ zb = .int .i64 b ∧ b = a + 20 ∧ a ≤ n ∧ n - a ≤ gk ∧ Hid (StI w0 g n f a w'))
  case atStart => exact ⟨0, 20, rfl, rfl, rfl, by omega, by omega, H0⟩
  case round =>
    clear H0
    obtain ⟨a, b, rfl, rfl, hb, ha, hk, hI⟩ := hrel
    obtain ⟨cur, t, hat, hC, hB, hT, hO⟩ := hI.out
    have HH := hid_of (And.intro hat (And.intro hC (And.intro hB (And.intro hT hO))))
    clear hat hC hB hT hO hI
    by_cases hlt : b ≤ n
    · have HB := hid_of hb
      have hb2 : a ≤ b := by omega
      have hb3 : n - b < n - a := by omega
      clear hb
      go_wp2_with fail
      refine (insertion_any w0 g n cap a b cur _ HH.out.2.1 hb2 hlt hn (HH.out.2.2.2.1.part (Nat.zero_le _) hlt)).mono ?_
      rintro e w1 ⟨rfl, k, y1, y2, y3⟩
      have HN : Hid (StI w0 g n f b w1) := by
        have e1 := HH.out.1
        subst e1
        exact ⟨k, t + 1, by have := HB.out; omega, stI_next y1 HH.out.2.2.1 HH.out.2.2.2.1 HH.out.2.2.2.2 hlt y2 y3⟩
      clear y1 y2 y3
      go_wp2_with fail
      go_roundg (n - b)
      case measure => omega
      case rel => exact ⟨b, b + 20, rfl, by first | rfl | go_num | (congr 1; omega), rfl, hlt, Nat.le_refl _, HN⟩
    · go_wp2_with fail
      refine (insertion_any w0 g n cap a n cur _ HH.out.2.1 ha (Nat.le_refl _) hn (HH.out.2.2.2.1.part (Nat.zero_le _) (Nat.le_refl _))).mono ?_
      rintro e w1 ⟨rfl, k, y1, y2, y3⟩
      have HN : Hid (StO w0 g n f 20 w1) := by
        have e1 := HH.out.1
        subst e1
        exact ⟨k, stI_next y1 HH.out.2.2.1 HH.out.2.2.2.1 HH.out.2.2.2.2 (Nat.le_refl _) y2 y3⟩
      clear y1 y2 y3 HH hk ha hb hlt
      go_wp2_with fail
      go_loopg [6] (n + 1) (fun gk zs w' => ∃ bs : Nat, zs = .int .i64 bs ∧ 20 ≤ bs ∧ bs ≤ 1000 ∧ n - bs ≤ gk ∧ Hid (StO w0 g n f bs w'))
      case atStart => exact ⟨20, rfl, Nat.le_refl _, by omega, by omega, HN⟩
      case round =>
        clear HN
        obtain ⟨bs, rfl, hs1, hs2, hk, hI⟩ := hrel
        by_cases hlt : bs < n
        · have HM : Hid (StM w0 g n f bs 0 wr) := by
            obtain ⟨cur, y1, y2, y3, y4⟩ := hI.out
            exact ⟨cur, 0, by omega, y1, (bl_start y2).1, (bl_start y2).2, y3, y4⟩
          clear hI
          go_wp2_with fail
          go_loopg [7, 8] (n + 1) (fun gk za zb w' => ∃ a b : Nat, za = .int .i64 a ∧ zb = .int .i64 b ∧ b = a + 2 * bs ∧ a ≤ n ∧ n - a ≤ gk ∧ Hid (StM w0 g n f bs a w'))
          case atStart => exact ⟨0, 2 * bs, rfl, by first | rfl | go_num | (congr 1; omega), by omega, by omega, by omega, HM⟩
          case round =>
            clear HM
            obtain ⟨a, b, rfl, rfl, hb, ha, hk2, hI⟩ := hrel
            obtain ⟨cur, t, hat, hC, hB, hB2, hT, hO⟩ := hI.out
            have HH := hid_of (And.intro hat (And.intro hC (And.intro hB (And.intro hB2 (And.intro hT hO)))))
            clear hat hC hB hB2 hT hO hI
            by_cases hle : b ≤ n
            · have HL : Hid (Up cur a (a + bs) ∧ Up cur (a + bs) b) := by
                have e1 := HH.out.1
                subst e1
                exact bl_half HH.out.2.2.2.1 hle (by omega) (by omega)
              have HB := hid_of hb
              have hb2 : a + bs < b := by omega
              have hb3 : n - b < n - a := by omega
              clear hb
              go_wp2_with fail
              refine (sym_any w0 g n cap hn _ a (a + bs) b rfl (by omega) hb2 hle cur _ _ _ _ (by first | rfl | omega) (by first | rfl | omega) (by first | rfl | omega) HH.out.2.1 (HH.out.2.2.2.2.1.part (Nat.zero_le _) hle) HL.out.1 HL.out.2).mono ?_
              rintro e w1 ⟨rfl, k, y1, y2, y3⟩
              have HN : Hid (StM w0 g n f bs b w1) := by
                have e1 := HH.out.1
                have e2 := HB.out
                subst e1
                subst e2
                exact ⟨k, t + 1, (Nat.succ_mul t (2 * bs)).symm, y1, bl_next HH.out.2.2.1 y2 y3, bl_later (by omega) HH.out.2.2.2.1 y3, HH.out.2.2.2.2.1.sorted hle y2 y3, HH.out.2.2.2.2.2.trans (y3.wide (Nat.zero_le _) hle)⟩
              clear y1 y2 y3
              go_wp2_with fail
              go_roundg (n - b)
              case measure => omega
              case rel => exact ⟨b, b + 2 * bs, rfl, by first | rfl | go_num | (congr 1; omega), rfl, hle, Nat.le_refl _, HN⟩
            · by_cases hm : a + bs < n
              · have HL : Hid (Up cur a (a + bs) ∧ Up cur (a + bs) n) := by
                  have e1 := HH.out.1
                  subst e1
                  exact bl_half HH.out.2.2.2.1 (Nat.le_refl _) (by omega) (by omega)
                have dm : decide ((a : Int) + (bs : Int) < (n : Int)) = true := decide_eq_true (by omega)
                go_wp2_with fail
                refine (sym_any w0 g n cap hn _ a (a + bs) n rfl (by omega) hm (Nat.le_refl _) cur _ _ _ _ (by first | rfl | omega) (by first | rfl | omega) (by first | rfl | omega) HH.out.2.1 (HH.out.2.2.2.2.1.part (Nat.zero_le _) (Nat.le_refl _)) HL.out.1 HL.out.2).mono ?_
                rintro e w1 ⟨rfl, k, y1, y2, y3⟩
                have HN : Hid (StO w0 g n f (2 * bs) w1) := by
                  have e1 := HH.out.1
                  subst e1
                  exact ⟨k, y1, bl_next HH.out.2.2.1 y2 y3, HH.out.2.2.2.2.1.sorted (Nat.le_refl _) y2 y3, HH.out.2.2.2.2.2.trans (y3.wide (Nat.zero_le _) (Nat.le_refl _))⟩
                clear y1 y2 y3
                go_wp2_with fail
                go_roundg (n - 2 * bs)
                case measure => omega
                case rel => exact ⟨2 * bs, by first | rfl | go_num | (congr 1; omega), by omega, by omega, Nat.le_refl _, HN⟩
              · have dm : decide ((a : Int) + (bs : Int) < (n : Int)) = false := decide_eq_false (by omega)
                have dm2 : ¬ (a : Int) + (bs : Int) < (n : Int) := by omega
                have HN : Hid (StO w0 g n f (2 * bs) wr) := by
                  have e1 := HH.out.1
                  subst e1
                  exact ⟨cur, HH.out.2.1, bl_rest (by omega) HH.out.2.2.1 HH.out.2.2.2.1, HH.out.2.2.2.2.1, HH.out.2.2.2.2.2⟩
                go_wp2_with fail
                go_roundg (n - 2 * bs)
                case measure => omega
                case rel => exact ⟨2 * bs, by first | rfl | go_num | (congr 1; omega), by omega, by omega, Nat.le_refl _, HN⟩
        · have HZ : Hid (∃ f', CW w0 g n f' wr ∧ Up f' 0 n ∧ Of f f' 0 n) := by
            obtain ⟨cur, y1, y2, y3, y4⟩ := hI.out
            exact ⟨cur, y1, bl_whole y2 (by omega), y4⟩
          clear hI
          go_wp2_with fail
          go_end0
          exact ⟨rfl, HZ.out⟩

set_option maxHeartbeats 800000 in
theorem sort_any (w0 : World) (g n cap : Nat) (f : Nat → Int) (w : World) (hS : CW w0 g n f w) (hn : n ≤ 288) (hst : Stb f 0 n) :
    Calls Try.prog 76 #[.slice (some ⟨g, 0, none⟩) n cap, .func (.func 77) #[] #[]] w fun e w' => e = .returned (.tuple #[]) ∧ ∃ f', CW w0 g n f' w' ∧ Up f' 0 n ∧ Of f f' 0 n := by
  have hcon := stable_any w0 g n cap f w hS hn hst
  clear hS hst
  go_enter Try.func76, Try.ntmps76
  go_wp2_with fail
  refine hcon.mono ?_
  rintro e w1 ⟨rfl, h⟩
  have HZ := hid_of h
  clear h
  go_wp2_with fail
  go_end0
  exact ⟨rfl, HZ.out⟩

end Go.Proofs.Ytbcnlggkoidmmaa
