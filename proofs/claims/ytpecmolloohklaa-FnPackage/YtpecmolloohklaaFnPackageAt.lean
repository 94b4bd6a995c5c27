/-
  The walk of the law FnPackage, over what the program's LimitedLengths and CostOf answer.
-/
import Derived.Test.YtpecmolloohklaaRows
import Derived.Test.YtpecmolloohklaaBase
import Derived.Test.YtpecmolloohklaaOutMath
import Derived.Test.YtpecmolloohklaaCodeMath
import Derived.Test.YtpecmolloohklaaRoomMath
import Derived.Test.YtpecmolloohklaaPackageMath
import Derived.Test.YtpecmolloohklaaLimitMath
import Derived.Test.YtpecmolloohklaaPackMath
import Derived.Test.YtpecmolloohklaaOwnLib
import Derived.Test.YtpecmolloohklaaRowLib
import Derived.Test.YtpecmolloohklaaIntsLib
import Derived.Test.YtpecmolloohklaaMakeLib
import Derived.Test.YtpecmolloohklaaDrawLib
import Derived.Test.YtpecmolloohklaaDrawLimited
import Derived.Test.YtpecmolloohklaaDrawWhole
import Derived.Test.YtpecmolloohklaaCodeSpec
import Derived.Test.YtpecmolloohklaaCostPost
import Derived.Test.YtpecmolloohklaaCostAns
import Derived.Test.YtpecmolloohklaaCostSpec
import Derived.Test.YtpecmolloohklaaLimitAns
import Derived.Test.YtpecmolloohklaaLimitSpec
import Derived.WalkKit
import Derived.ProofKit
import Derived.WalkLawsBesides
import Derived.RegionTactic
import Derived.Below
import Derived.Lib.SmallJoins
namespace Go.Proofs.Ytpecmolloohklaa
open Go.RowKit Go.Joins OutMath CodeMath RoomMath PackageMath

theorem wf_pack {x : Int} (h0 : -1 ≤ x) (h1 : x ≤ 20000) : (Lit.int .i64 x).wf = true := by
  simp [Lit.wf, IntKind.min, IntKind.max, IntKind.bits, IntKind.signed]
  omega
theorem lim_ok {f : Nat → Int} {n : Nat} {z : Int} (hR : LimitRight f n z) : OkLens (limLen f n z) n := fun i hi => by
  have h := lim_shape hR i hi
  have hz := hR.2.1
  have hz2 := hR.2.2.1
  by_cases e : f i = 0
  · rw [h.1 e]; omega
  · have := h.2 e; omega
theorem lim_cost {f : Nat → Int} {n : Nat} {z : Int} (hR : LimitRight f n z) : CostRight (limLen f n z) f n n := by
  refine ⟨rfl, hR.1, lim_ok hR, fun i hi => ⟨(hR.2.2.2.1 i hi).1, (hR.2.2.2.1 i hi).2, fun q => ?_⟩⟩
  have h := (lim_shape hR i hi).2 (by omega)
  omega
/-- What lasts through the walk of FnPackage. -/
def PackHeld (w w' : World) (g n c : Nat) (f : Nat → Int) (a2 : Option Addr) (c2 : Nat) (z : Int) : Prop := Below w.heap.size w w' ∧ IOwn w' w.heap.size g n c f ∧ SL w' w.heap.size a2 n c2 (limLen f n z)
theorem PackHeld.called {w w' w2 : World} {g n c : Nat} {f : Nat → Int} {a2 : Option Addr} {c2 : Nat} {z : Int} (h : PackHeld w w' g n c f a2 c2 z) (hb : Below w'.heap.size w' w2) : PackHeld w w2 g n c f a2 c2 z := ⟨bnext h.1 hb, h.2.1.called hb, h.2.2.called hb⟩
theorem PackHeld.drew {w w' : World} {g n c : Nat} {f : Nat → Int} {a2 : Option Addr} {c2 : Nat} {z : Int} (h : PackHeld w w' g n c f a2 c2 z) : PackHeld w w'.drew g n c f a2 c2 z := h.called (bdraws (Below.refl _ _) 1)
theorem sl_cell {w : World} {base : Nat} {a : Option Addr} {n cap : Nat} {f : Nat → Int} (h : SL w base a n cap f) (j : Nat) (hj : j < n) : ∃ g, a = some ⟨g, 0, none⟩ ∧ w.cell? ⟨g, j, none⟩ = some (.int .i64 (f j)) ∧ g < w.heap.size := by
  rcases h with h | ⟨g, rfl, h⟩
  · omega
  · exact ⟨g, rfl, h.cell j hj, h.lt⟩
theorem sl_mono {w : World} {base b : Nat} {a : Option Addr} {n cap : Nat} {f : Nat → Int} (h : SL w base a n cap f) (hb : b ≤ base) : SL w b a n cap f := by
  rcases h with h | ⟨g, rfl, h⟩
  · exact .inl h
  · exact .inr ⟨g, rfl, h.mono hb⟩

/-- What the second ring of FnPackage has at hand. -/
def PackTwo (w w' : World) (g n c : Nat) (f : Nat → Int) (gw m cw : Nat) (wh : Nat → Int) (B : Nat) (F : Nat → Int) : Prop := Below w.heap.size w w' ∧ IOwn w' w.heap.size g n c f ∧ IOwn w' w.heap.size gw m cw wh ∧ IOwn w' w.heap.size B n n F ∧ g < B ∧ gw < B ∧ w.heap.size ≤ B
theorem PackTwo.drew {w w' : World} {g n c : Nat} {f : Nat → Int} {gw m cw : Nat} {wh : Nat → Int} {B : Nat} {F : Nat → Int} (h : PackTwo w w' g n c f gw m cw wh B F) : PackTwo w w'.drew g n c f gw m cw wh B F := ⟨bdraws h.1 1, h.2.1.drew, h.2.2.1.drew, h.2.2.2.1.drew, h.2.2.2.2⟩
theorem PackTwo.congr {w w' : World} {g n c : Nat} {f : Nat → Int} {gw m cw : Nat} {wh : Nat → Int} {B : Nat} {F F' : Nat → Int} (h : PackTwo w w' g n c f gw m cw wh B F) (e : ∀ i, i < n → F i = F' i) : PackTwo w w' g n c f gw m cw wh B F' := ⟨h.1, h.2.1, h.2.2.1, h.2.2.2.1.congr e, h.2.2.2.2⟩
theorem PackTwo.set {w w' : World} {g n c : Nat} {f : Nat → Int} {gw m cw : Nat} {wh : Nat → Int} {B : Nat} {F : Nat → Int} (h : PackTwo w w' g n c f gw m cw wh B F) (j : Nat) (hj : j < n) (x : Int) : PackTwo w (w'.setCell ⟨B, j, none⟩ (.int .i64 x)) g n c f gw m cw wh B (fun i => if i = j then x else F i) := by
  obtain ⟨h1, h2, h3, h4, h5, h6, h7⟩ := h
  have hb : Below B w' (w'.setCell ⟨B, j, none⟩ (.int .i64 x)) := Below.setCell (p := ⟨B, j, none⟩) (Below.refl _ _) (Nat.le_refl _) _
  exact ⟨Below.setCell (p := ⟨B, j, none⟩) h1 h7 _, h2.below hb h5, h3.below hb h6, (h4.set j hj x).congr (fun i _ => rfl), h5, h6, h7⟩
theorem lim_says {f : Nat → Int} {n : Nat} {z x : Int} {b : Bool} (hR : LimitRight f n z) (h : CostSays (limLen f n z) f n n x b) : b = true ∧ x = cost (limLen f n z) f n := by
  rcases h with ⟨h1, _, h3⟩ | ⟨_, _, h3⟩
  · exact ⟨h1, h3⟩
  · exact absurd (lim_cost hR) h3
theorem lim_least {f wh : Nat → Int} {n m : Nat} {z x : Int} {b : Bool} (hR : LimitRight f n z) (hW : Whole wh m) (hz : ∀ i, i < posN f n → i < m → wh i ≤ z) (hp : ∀ i, i < n → f i ≠ 0 → posN f i < posN f n) (h : CostSays (othL f wh m n) f n n x b) : b = false ∨ (b = true ∧ cost (limLen f n z) f n ≤ x) := by
  rcases h with ⟨h1, h2, h3⟩ | ⟨h1, _, _⟩
  · refine .inr ⟨h1, ?_⟩
    rw [h3]
    refine lim_best hR _ (fun i hi e => if_neg (by omega)) (fun i hi e => ?_) (oth_not_over f wh m n hW.2)
    have h4 := (h2.2.2.2 i hi).2.2
    have h5 := (hR.2.2.2.1 i hi).1
    by_cases q : posN f i < m
    · have e2 : othL f wh m n i = wh (posN f i) := if_pos ⟨hi, e, q⟩
      rw [e2]
      exact ⟨(hW.1 _ q).1, hz _ (hp i hi e) q⟩
    · have e2 : othL f wh m n i = 0 := if_neg (by omega)
      exact absurd ⟨by omega, e2⟩ h4
  · exact .inl h1
theorem posN_lt (f : Nat → Int) : ∀ n i : Nat, i < n → f i ≠ 0 → posN f i < posN f n
  | 0, i, h, _ => by omega
  | n + 1, i, h, e => by
    rw [posN_up]
    by_cases q : i = n
    · subst q
      rw [if_neg e]; omega
    · have := posN_lt f n i (by omega) e
      omega
theorem CodeAt.up {w : World} {base b : Nat} {a : Option Addr} {len : Nat} (h : CodeAt w base a len) (hb : base ≤ b) : CodeAt w b a len := by
  rcases h with h | ⟨bc, off, h1, h2, h3⟩
  · exact .inl h
  · exact .inr ⟨bc, off, h1, by omega, h3⟩

set_option maxRecDepth 4000 in
set_option maxHeartbeats 3200000 in
theorem FnPackage_at (hA : LimitAnswer) (hQ : CostAnswer) (a : Option Addr) (len cap : Nat) (w : World) (hk : CodeAt w w.heap.size a len) (hlen : (len : Int) ≤ 1048576) :
    Calls Try.prog 3 #[.slice a len cap] w fun e w' => e = .returned (.bool true) ∧ Below w.heap.size w w' := by
  have HA : Hid LimitAnswer := hA
  have HQ : Hid CostAnswer := hQ
  have HD : Hid (CodeAt w w.heap.size a len) := hk
  clear hA hQ hk
  go_enter Try.func3, Try.ntmps3
  go_wp2_with fail
  refine (big_no a len cap _ hlen).mono ?_
  rintro e w0 ⟨rfl, hw0⟩
  obtain rfl : w = w0 := hw0.symm
  clear hw0
  go_wp2_with fail
  refine (draw_limited a len cap _ _ HD.out (by omega) (Nat.le_refl _)).mono ?_
  rintro e w1 ⟨g, n, c, f, z, rfl, hn, hz1, hz2, hO1, hf, hB1⟩
  have HF : Hid (∀ i, i < n → (Lit.int .i64 (f i)).wf = true) := fun i hi => wf_pack (hf i hi).1 (hf i hi).2
  have HZ : Hid ((Lit.int .i64 z).wf = true) := wf_pack (by omega) (by omega)
  have HO1 : Hid (IOwn w1 w.heap.size g n c f) := hO1
  have HB1 : Hid (Below w.heap.size w w1) := hB1
  clear hO1 hB1 hf
  go_wp2_with fail
  by_cases hG : LimitRight f n z
  · refine ((HA.out _ n c f z w1 HO1.out.sl.came (by omega) HF.out HZ.out).1 hG).mono ?_
    rintro e w2 ⟨a2, c2, rfl, hS2, hB2⟩
    obtain ⟨k, rfl⟩ := Int.eq_ofNat_of_zero_le hz1
    have HH2 : Hid (PackHeld w w2 g n c f a2 c2 (k : Int)) := ⟨bnext HB1.out hB2, HO1.out.called hB2, sl_mono hS2 HB1.out.size⟩
    have HG := hid_of hG
    clear hS2 hB2 HB1 HO1 HA hG
    go_wp2_with fail
    refine (specLimit_good _ n c f k w2 HH2.out.2.1.sl.came HG.out).mono ?_
    rintro e w3 ⟨rfl, _, hB3⟩
    have HH3 := hid_of (HH2.out.called hB3)
    clear hB3 HH2
    go_wp2_with fail
    go_loopw [9, 10] (fun x i w' => ∃ j : Nat, j ≤ n ∧ i = .int .i64 j ∧ x = .int .i64 (posN f j : Nat) ∧ Hid (PackHeld w w' g n c f a2 c2 (k : Int))) (fun _ i _ => n - (intOf i).toNat)
    case atStart => exact ⟨0, by omega, rfl, rfl, HH3⟩
    case round =>
      clear HH3
      obtain ⟨j, hj, rfl, rfl, HH3⟩ := hrel
      have hpj : posN f j ≤ j := cN_le _ _
      by_cases hlt : j < n
      · have dj : decide ((j : Int) < (n : Int)) = true := decide_eq_true (by omega)
        have c0 : wr.cell? ⟨g, j, none⟩ = some (.int .i64 (f j)) := HH3.out.2.1.cell j hlt
        have l0 := HH3.out.2.1.lt
        have HH4 : Hid (PackHeld w wr.drew g n c f a2 c2 (k : Int)) := HH3.out.drew
        obtain ⟨g4, rfl, c4, l4⟩ := sl_cell HH3.out.2.2 j hlt
        have hs := lim_shape HG.out j hlt
        have hfj := HG.out.2.2.2.1 j hlt
        obtain ⟨l, hl⟩ : ∃ l, l = limLen f n (k : Int) j := ⟨_, rfl⟩
        rw [← hl] at hs c4
        clear hl
        by_cases e : f j = 0
        · have el := hs.1 e
          have HP : Hid (posN f (j + 1) = posN f j) := by show _ = _; rw [posN_up, if_pos e]; rfl
          have dp : decide (0 < f j) = false := decide_eq_false (by omega)
          have dk : decide ((k : Int) < 0) = false := decide_eq_false (by omega)
          subst el
          clear hs e
          go_wp2_with fail
          go_region
          all_goals
            go_wp2_with fail
            go_roundw
            case rel => exact ⟨j + 1, by omega, by go_num, by rw [HP.out], HH4⟩
            case measure => simp [intOf]; omega
        · have el := hs.2 e
          have HP : Hid (posN f (j + 1) = posN f j + 1) := by show _ = _; rw [posN_up, if_neg e]
          have dp : decide (0 < f j) = true := decide_eq_true (by omega)
          have dl : decide (0 < l) = true := decide_eq_true (by omega)
          have dk : decide ((k : Int) < l) = false := decide_eq_false (by omega)
          clear hs e
          go_wp2_with fail
          go_region
          all_goals
            go_wp2_with fail
            go_roundw
            case rel => exact ⟨j + 1, by omega, by go_num, by rw [HP.out]; go_num, HH4⟩
            case measure => simp [intOf]; omega
      · obtain rfl : j = n := by omega
        have dj : decide ((j : Int) < (j : Int)) = false := decide_eq_false (by omega)
        go_wp2_with fail
        refine (HQ.out a2 _ j j c2 c (limLen f j (k : Int)) f wr HH3.out.2.2.came HH3.out.2.1.sl.came (by omega) (by omega) (fun i hi => wf_pack (by have := lim_ok HG.out i hi; omega) (by have := lim_ok HG.out i hi; omega)) HF.out).mono ?_
        rintro e w4 ⟨x, b, rfl, hsay, hB4⟩
        obtain ⟨rfl, hx⟩ := lim_says HG.out hsay
        have HH4 := hid_of (HH3.out.called hB4)
        have HX : Hid (x = cost (limLen f j (k : Int)) f j) := hx
        clear hsay hB4 HH3 hx HQ
        by_cases h2 : 2 ≤ posN f j
        · have d2 : decide (1 < ((posN f j : Nat) : Int)) = true := decide_eq_true (by omega)
          have d1 : (((posN f j : Nat) : Int) == 1) = false := by simp; omega
          go_wp2_with fail
          refine (specKind a2 j c2 _ w4 HH4.out.2.2.came (by omega)).mono ?_
          rintro e w5 ⟨kk, rfl, hkk, hw5⟩
          obtain rfl : w4 = w5 := hw5.symm
          obtain rfl : kk = 2 := whole_kind hkk HG.out.1 (lim_ok HG.out) (lim_whole HG.out h2)
          clear hw5 hkk
          go_wp2_with fail
          refine (draw_whole a len cap w4.heap.size w4 ((HD.out.below HH4.out.1).up HH4.out.1.size) (by omega) (Nat.le_refl _)).mono ?_
          rintro e w6 ⟨gw, m, cw, wh, rfl, hm1, hm2, hW, hOw, hB6⟩
          have HW := hid_of hW
          have hmk := make_ints w6 j (by omega)
          have hsz := HH4.out.1.size
          have HT0 : Hid (PackTwo w (w6.alloc (.cells (madeCells #[Value.int .i64 0] j) 3)) g j c f gw m cw wh w6.heap.size (othL f wh m 0)) := by
            refine ⟨((bnext HH4.out.1 hB6).alloc (by have := hB6.size; omega) _), (HH4.out.2.1.called hB6).alloc _, (hOw.mono hsz).alloc _, (IOwn.made w6 j (by unfold maxLen; omega) (by have := hB6.size; omega)).congr (fun i _ => ?_), (HH4.out.2.1.called hB6).lt, hOw.lt, by have := hB6.size; omega⟩
            unfold othL
            rw [if_neg (by omega)]
          generalize w6.alloc (.cells (madeCells #[Value.int .i64 0] j) 3) = w7 at hmk HT0
          obtain ⟨B, hBB⟩ : ∃ B, B = w6.heap.size := ⟨_, rfl⟩
          rw [← hBB] at hmk HT0
          clear hW hOw hB6 hsz hBB HH4
          go_wp2_with fail
          go_loopw [15, 16] (fun x i w' => ∃ q : Nat, q ≤ j ∧ i = .int .i64 q ∧ x = .int .i64 ((if posN f q < m then posN f q else m : Nat) : Int) ∧ Hid (PackTwo w w' g j c f gw m cw wh B (othL f wh m q)) ∧ Hid (∀ i, i < posN f q → i < m → wh i ≤ (k : Int))) (fun _ i _ => j - (intOf i).toNat)
          case atStart => exact ⟨0, by omega, rfl, by rw [show posN f 0 = 0 from rfl, if_pos (by omega)]; rfl, HT0, fun i hi => absurd hi (Nat.not_lt_zero i)⟩
          case round =>
            clear HT0 hmk
            obtain ⟨q, hq, rfl, rfl, hT, hL⟩ := hrel
            by_cases hlq : q < j
            · have dq : decide ((q : Int) < (j : Int)) = true := decide_eq_true (by omega)
              have c0 : wr.cell? ⟨g, q, none⟩ = some (.int .i64 (f q)) := hT.out.2.1.cell q hlq
              have l0 := hT.out.2.1.lt
              have hfq := HG.out.2.2.2.1 q hlq
              by_cases e : f q = 0
              · have dp : decide (0 < f q) = false := decide_eq_false (by omega)
                have HT1 := hid_of (hT.out.congr (fun i _ => oth_skip f wh m q (.inl e) i))
                have HP : Hid (posN f (q + 1) = posN f q) := by show _ = _; rw [posN_up, if_pos e]; rfl
                clear e
                go_wp2_with fail
                go_roundw
                case rel => exact ⟨q + 1, by omega, by go_num, by rw [HP.out], HT1, by rw [HP.out]; exact hL⟩
                case measure => simp [intOf]; omega
              · have dp : decide (0 < f q) = true := decide_eq_true (by omega)
                have HE := hid_of e
                have HP : Hid (posN f (q + 1) = posN f q + 1) := by show _ = _; rw [posN_up, if_neg e]
                clear e
                by_cases e2 : posN f q < m
                · have e3 : (if posN f q < m then posN f q else m) = posN f q := if_pos e2
                  rw [e3]
                  clear e3
                  have dm : decide (((posN f q : Nat) : Int) < (m : Int)) = true := decide_eq_true (by omega)
                  have cw : wr.cell? ⟨gw, posN f q, none⟩ = some (.int .i64 (wh (posN f q))) := hT.out.2.2.1.cell _ e2
                  have lw := hT.out.2.2.1.lt
                  by_cases e4 : wh (posN f q) ≤ (k : Int)
                  · have dk : decide ((k : Int) < wh (posN f q)) = false := decide_eq_false (by omega)
                    have HL1 : Hid (∀ i, i < posN f (q + 1) → i < m → wh i ≤ (k : Int)) := fun i hi him => by
                      rw [HP.out] at hi
                      by_cases ee : i = posN f q
                      · rw [ee]; exact e4
                      · exact hL.out i (by omega) him
                    have HT1 := hid_of ((hT.out.set q hlq (wh (posN f q))).congr (fun i _ => oth_here f wh m q HE.out e2 i))
                    have fo := hT.out.2.2.2.1.free q hlq
                    have co := hT.out.2.2.2.1.cell q hlq
                    have lo := hT.out.2.2.2.1.lt
                    have HK : Hid ((if posN f (q + 1) < m then posN f (q + 1) else m) = posN f q + 1) := by show _ = _; rw [HP.out]; split <;> omega
                    have hpq : posN f q ≤ q := cN_le _ _
                    go_wp2_with fail
                    go_roundw
                    case rel => exact ⟨q + 1, by omega, by go_num, by rw [HK.out]; go_num, HT1, HL1⟩
                    case measure => simp [intOf]; omega
                  · have dk : decide ((k : Int) < wh (posN f q)) = true := decide_eq_true (by omega)
                    have HB9 := hid_of hT.out.1
                    clear e4
                    go_wp2_with fail
                    go_ret
                    exact ⟨rfl, HB9.out⟩
                · have e3 : (if posN f q < m then posN f q else m) = m := if_neg e2
                  rw [e3]
                  clear e3
                  have HK : Hid ((if posN f (q + 1) < m then posN f (q + 1) else m) = m) := by show _ = _; rw [HP.out]; split <;> omega
                  have dm : decide ((m : Int) < (m : Int)) = false := decide_eq_false (by omega)
                  have HT1 := hid_of (hT.out.congr (fun i _ => oth_skip f wh m q (.inr (by omega)) i))
                  have HL1 : Hid (∀ i, i < posN f (q + 1) → i < m → wh i ≤ (k : Int)) := fun i hi him => hL.out i (by omega) him
                  go_wp2_with fail
                  go_roundw
                  case rel => exact ⟨q + 1, by omega, by go_num, by rw [HK.out], HT1, HL1⟩
                  case measure => simp [intOf]; omega
            · obtain rfl : q = j := by omega
              have dq : decide ((q : Int) < (q : Int)) = false := decide_eq_false (by omega)
              generalize (if posN f q < m then posN f q else m) = kq
              go_wp2_with fail
              refine (specCost (some ⟨B, 0, none⟩) (some ⟨g, 0, none⟩) q q q c (othL f wh m q) f wr hT.out.2.2.2.1.sl.came hT.out.2.1.sl.came (by omega) (by omega) HF.out).mono ?_
              rintro e w8 ⟨y, b, rfl, hsay, hB8⟩
              have HB8 := hid_of (bnext hT.out.1 hB8)
              have HLL := hid_of (lim_least HG.out HW.out hL.out (posN_lt f q) hsay)
              clear hsay hB8
              cases b
              case false =>
                clear HLL
                go_wp2_with fail
                go_ret
                exact ⟨rfl, HB8.out⟩
              case true =>
                have dle : decide (x ≤ y) = true := decide_eq_true (by
                  rw [HX.out]
                  rcases HLL.out with h | h
                  · cases h
                  · exact h.2)
                clear HLL
                go_wp2_with fail
                go_ret
                exact ⟨rfl, HB8.out⟩
        · have d2 : decide (1 < ((posN f j : Nat) : Int)) = false := decide_eq_false (by omega)
          by_cases p1 : posN f j = 1
          · have d1 : (((posN f j : Nat) : Int) == 1) = true := by simp; omega
            have dx : (x == 0) = false := by
              have := cost_pos (limLen f j (k : Int)) f j (fun i hi => ⟨(HG.out.2.2.2.1 i hi).1, (lim_shape HG.out i hi).1, fun h => ((lim_shape HG.out i hi).2 h).1⟩) (by omega)
              rw [HX.out]
              simp
              omega
            go_wp2_with fail
            refine (draw_whole a len cap w4.heap.size w4 ((HD.out.below HH4.out.1).up HH4.out.1.size) (by omega) (Nat.le_refl _)).mono ?_
            rintro e w6 ⟨gw, m, cw, wh, rfl, hm1, hm2, hW, hOw, hB6⟩
            have HW := hid_of hW
            have hmk := make_ints w6 j (by omega)
            have hsz := HH4.out.1.size
            have HT0 : Hid (PackTwo w (w6.alloc (.cells (madeCells #[Value.int .i64 0] j) 3)) g j c f gw m cw wh w6.heap.size (othL f wh m 0)) := by
              refine ⟨((bnext HH4.out.1 hB6).alloc (by have := hB6.size; omega) _), (HH4.out.2.1.called hB6).alloc _, (hOw.mono hsz).alloc _, (IOwn.made w6 j (by unfold maxLen; omega) (by have := hB6.size; omega)).congr (fun i _ => ?_), (HH4.out.2.1.called hB6).lt, hOw.lt, by have := hB6.size; omega⟩
              unfold othL
              rw [if_neg (by omega)]
            generalize w6.alloc (.cells (madeCells #[Value.int .i64 0] j) 3) = w7 at hmk HT0
            obtain ⟨B, hBB⟩ : ∃ B, B = w6.heap.size := ⟨_, rfl⟩
            rw [← hBB] at hmk HT0
            clear hW hOw hB6 hsz hBB HH4
            go_wp2_with fail
            go_loopw [15, 16] (fun x i w' => ∃ q : Nat, q ≤ j ∧ i = .int .i64 q ∧ x = .int .i64 ((if posN f q < m then posN f q else m : Nat) : Int) ∧ Hid (PackTwo w w' g j c f gw m cw wh B (othL f wh m q)) ∧ Hid (∀ i, i < posN f q → i < m → wh i ≤ (k : Int))) (fun _ i _ => j - (intOf i).toNat)
            case atStart => exact ⟨0, by omega, rfl, by rw [show posN f 0 = 0 from rfl, if_pos (by omega)]; rfl, HT0, fun i hi => absurd hi (Nat.not_lt_zero i)⟩
            case round =>
              clear HT0 hmk
              obtain ⟨q, hq, rfl, rfl, hT, hL⟩ := hrel
              by_cases hlq : q < j
              · have dq : decide ((q : Int) < (j : Int)) = true := decide_eq_true (by omega)
                have c0 : wr.cell? ⟨g, q, none⟩ = some (.int .i64 (f q)) := hT.out.2.1.cell q hlq
                have l0 := hT.out.2.1.lt
                have hfq := HG.out.2.2.2.1 q hlq
                by_cases e : f q = 0
                · have dp : decide (0 < f q) = false := decide_eq_false (by omega)
                  have HT1 := hid_of (hT.out.congr (fun i _ => oth_skip f wh m q (.inl e) i))
                  have HP : Hid (posN f (q + 1) = posN f q) := by show _ = _; rw [posN_up, if_pos e]; rfl
                  clear e
                  go_wp2_with fail
                  go_roundw
                  case rel => exact ⟨q + 1, by omega, by go_num, by rw [HP.out], HT1, by rw [HP.out]; exact hL⟩
                  case measure => simp [intOf]; omega
                · have dp : decide (0 < f q) = true := decide_eq_true (by omega)
                  have HE := hid_of e
                  have HP : Hid (posN f (q + 1) = posN f q + 1) := by show _ = _; rw [posN_up, if_neg e]
                  clear e
                  by_cases e2 : posN f q < m
                  · have e3 : (if posN f q < m then posN f q else m) = posN f q := if_pos e2
                    rw [e3]
                    clear e3
                    have dm : decide (((posN f q : Nat) : Int) < (m : Int)) = true := decide_eq_true (by omega)
                    have cw : wr.cell? ⟨gw, posN f q, none⟩ = some (.int .i64 (wh (posN f q))) := hT.out.2.2.1.cell _ e2
                    have lw := hT.out.2.2.1.lt
                    by_cases e4 : wh (posN f q) ≤ (k : Int)
                    · have dk : decide ((k : Int) < wh (posN f q)) = false := decide_eq_false (by omega)
                      have HL1 : Hid (∀ i, i < posN f (q + 1) → i < m → wh i ≤ (k : Int)) := fun i hi him => by
                        rw [HP.out] at hi
                        by_cases ee : i = posN f q
                        · rw [ee]; exact e4
                        · exact hL.out i (by omega) him
                      have HT1 := hid_of ((hT.out.set q hlq (wh (posN f q))).congr (fun i _ => oth_here f wh m q HE.out e2 i))
                      have fo := hT.out.2.2.2.1.free q hlq
                      have co := hT.out.2.2.2.1.cell q hlq
                      have lo := hT.out.2.2.2.1.lt
                      have HK : Hid ((if posN f (q + 1) < m then posN f (q + 1) else m) = posN f q + 1) := by show _ = _; rw [HP.out]; split <;> omega
                      have hpq : posN f q ≤ q := cN_le _ _
                      go_wp2_with fail
                      go_roundw
                      case rel => exact ⟨q + 1, by omega, by go_num, by rw [HK.out]; go_num, HT1, HL1⟩
                      case measure => simp [intOf]; omega
                    · have dk : decide ((k : Int) < wh (posN f q)) = true := decide_eq_true (by omega)
                      have HB9 := hid_of hT.out.1
                      clear e4
                      go_wp2_with fail
                      go_ret
                      exact ⟨rfl, HB9.out⟩
                  · have e3 : (if posN f q < m then posN f q else m) = m := if_neg e2
                    rw [e3]
                    clear e3
                    have HK : Hid ((if posN f (q + 1) < m then posN f (q + 1) else m) = m) := by show _ = _; rw [HP.out]; split <;> omega
                    have dm : decide ((m : Int) < (m : Int)) = false := decide_eq_false (by omega)
                    have HT1 := hid_of (hT.out.congr (fun i _ => oth_skip f wh m q (.inr (by omega)) i))
                    have HL1 : Hid (∀ i, i < posN f (q + 1) → i < m → wh i ≤ (k : Int)) := fun i hi him => hL.out i (by omega) him
                    go_wp2_with fail
                    go_roundw
                    case rel => exact ⟨q + 1, by omega, by go_num, by rw [HK.out], HT1, HL1⟩
                    case measure => simp [intOf]; omega
              · obtain rfl : q = j := by omega
                have dq : decide ((q : Int) < (q : Int)) = false := decide_eq_false (by omega)
                generalize (if posN f q < m then posN f q else m) = kq
                go_wp2_with fail
                refine (specCost (some ⟨B, 0, none⟩) (some ⟨g, 0, none⟩) q q q c (othL f wh m q) f wr hT.out.2.2.2.1.sl.came hT.out.2.1.sl.came (by omega) (by omega) HF.out).mono ?_
                rintro e w8 ⟨y, b, rfl, hsay, hB8⟩
                have HB8 := hid_of (bnext hT.out.1 hB8)
                have HLL := hid_of (lim_least HG.out HW.out hL.out (posN_lt f q) hsay)
                clear hsay hB8
                cases b
                case false =>
                  clear HLL
                  go_wp2_with fail
                  go_ret
                  exact ⟨rfl, HB8.out⟩
                case true =>
                  have dle : decide (x ≤ y) = true := decide_eq_true (by
                    rw [HX.out]
                    rcases HLL.out with h | h
                    · cases h
                    · exact h.2)
                  clear HLL
                  go_wp2_with fail
                  go_ret
                  exact ⟨rfl, HB8.out⟩
          · have d1 : (((posN f j : Nat) : Int) == 1) = false := by simp; omega
            go_wp2_with fail
            refine (draw_whole a len cap w4.heap.size w4 ((HD.out.below HH4.out.1).up HH4.out.1.size) (by omega) (Nat.le_refl _)).mono ?_
            rintro e w6 ⟨gw, m, cw, wh, rfl, hm1, hm2, hW, hOw, hB6⟩
            have HW := hid_of hW
            have hmk := make_ints w6 j (by omega)
            have hsz := HH4.out.1.size
            have HT0 : Hid (PackTwo w (w6.alloc (.cells (madeCells #[Value.int .i64 0] j) 3)) g j c f gw m cw wh w6.heap.size (othL f wh m 0)) := by
              refine ⟨((bnext HH4.out.1 hB6).alloc (by have := hB6.size; omega) _), (HH4.out.2.1.called hB6).alloc _, (hOw.mono hsz).alloc _, (IOwn.made w6 j (by unfold maxLen; omega) (by have := hB6.size; omega)).congr (fun i _ => ?_), (HH4.out.2.1.called hB6).lt, hOw.lt, by have := hB6.size; omega⟩
              unfold othL
              rw [if_neg (by omega)]
            generalize w6.alloc (.cells (madeCells #[Value.int .i64 0] j) 3) = w7 at hmk HT0
            obtain ⟨B, hBB⟩ : ∃ B, B = w6.heap.size := ⟨_, rfl⟩
            rw [← hBB] at hmk HT0
            clear hW hOw hB6 hsz hBB HH4
            go_wp2_with fail
            go_loopw [15, 16] (fun x i w' => ∃ q : Nat, q ≤ j ∧ i = .int .i64 q ∧ x = .int .i64 ((if posN f q < m then posN f q else m : Nat) : Int) ∧ Hid (PackTwo w w' g j c f gw m cw wh B (othL f wh m q)) ∧ Hid (∀ i, i < posN f q → i < m → wh i ≤ (k : Int))) (fun _ i _ => j - (intOf i).toNat)
            case atStart => exact ⟨0, by omega, rfl, by rw [show posN f 0 = 0 from rfl, if_pos (by omega)]; rfl, HT0, fun i hi => absurd hi (Nat.not_lt_zero i)⟩
            case round =>
              clear HT0 hmk
              obtain ⟨q, hq, rfl, rfl, hT, hL⟩ := hrel
              by_cases hlq : q < j
              · have dq : decide ((q : Int) < (j : Int)) = true := decide_eq_true (by omega)
                have c0 : wr.cell? ⟨g, q, none⟩ = some (.int .i64 (f q)) := hT.out.2.1.cell q hlq
                have l0 := hT.out.2.1.lt
                have hfq := HG.out.2.2.2.1 q hlq
                by_cases e : f q = 0
                · have dp : decide (0 < f q) = false := decide_eq_false (by omega)
                  have HT1 := hid_of (hT.out.congr (fun i _ => oth_skip f wh m q (.inl e) i))
                  have HP : Hid (posN f (q + 1) = posN f q) := by show _ = _; rw [posN_up, if_pos e]; rfl
                  clear e
                  go_wp2_with fail
                  go_roundw
                  case rel => exact ⟨q + 1, by omega, by go_num, by rw [HP.out], HT1, by rw [HP.out]; exact hL⟩
                  case measure => simp [intOf]; omega
                · have dp : decide (0 < f q) = true := decide_eq_true (by omega)
                  have HE := hid_of e
                  have HP : Hid (posN f (q + 1) = posN f q + 1) := by show _ = _; rw [posN_up, if_neg e]
                  clear e
                  by_cases e2 : posN f q < m
                  · have e3 : (if posN f q < m then posN f q else m) = posN f q := if_pos e2
                    rw [e3]
                    clear e3
                    have dm : decide (((posN f q : Nat) : Int) < (m : Int)) = true := decide_eq_true (by omega)
                    have cw : wr.cell? ⟨gw, posN f q, none⟩ = some (.int .i64 (wh (posN f q))) := hT.out.2.2.1.cell _ e2
                    have lw := hT.out.2.2.1.lt
                    by_cases e4 : wh (posN f q) ≤ (k : Int)
                    · have dk : decide ((k : Int) < wh (posN f q)) = false := decide_eq_false (by omega)
                      have HL1 : Hid (∀ i, i < posN f (q + 1) → i < m → wh i ≤ (k : Int)) := fun i hi him => by
                        rw [HP.out] at hi
                        by_cases ee : i = posN f q
                        · rw [ee]; exact e4
                        · exact hL.out i (by omega) him
                      have HT1 := hid_of ((hT.out.set q hlq (wh (posN f q))).congr (fun i _ => oth_here f wh m q HE.out e2 i))
                      have fo := hT.out.2.2.2.1.free q hlq
                      have co := hT.out.2.2.2.1.cell q hlq
                      have lo := hT.out.2.2.2.1.lt
                      have HK : Hid ((if posN f (q + 1) < m then posN f (q + 1) else m) = posN f q + 1) := by show _ = _; rw [HP.out]; split <;> omega
                      have hpq : posN f q ≤ q := cN_le _ _
                      go_wp2_with fail
                      go_roundw
                      case rel => exact ⟨q + 1, by omega, by go_num, by rw [HK.out]; go_num, HT1, HL1⟩
                      case measure => simp [intOf]; omega
                    · have dk : decide ((k : Int) < wh (posN f q)) = true := decide_eq_true (by omega)
                      have HB9 := hid_of hT.out.1
                      clear e4
                      go_wp2_with fail
                      go_ret
                      exact ⟨rfl, HB9.out⟩
                  · have e3 : (if posN f q < m then posN f q else m) = m := if_neg e2
                    rw [e3]
                    clear e3
                    have HK : Hid ((if posN f (q + 1) < m then posN f (q + 1) else m) = m) := by show _ = _; rw [HP.out]; split <;> omega
                    have dm : decide ((m : Int) < (m : Int)) = false := decide_eq_false (by omega)
                    have HT1 := hid_of (hT.out.congr (fun i _ => oth_skip f wh m q (.inr (by omega)) i))
                    have HL1 : Hid (∀ i, i < posN f (q + 1) → i < m → wh i ≤ (k : Int)) := fun i hi him => hL.out i (by omega) him
                    go_wp2_with fail
                    go_roundw
                    case rel => exact ⟨q + 1, by omega, by go_num, by rw [HK.out], HT1, HL1⟩
                    case measure => simp [intOf]; omega
              · obtain rfl : q = j := by omega
                have dq : decide ((q : Int) < (q : Int)) = false := decide_eq_false (by omega)
                generalize (if posN f q < m then posN f q else m) = kq
                go_wp2_with fail
                refine (specCost (some ⟨B, 0, none⟩) (some ⟨g, 0, none⟩) q q q c (othL f wh m q) f wr hT.out.2.2.2.1.sl.came hT.out.2.1.sl.came (by omega) (by omega) HF.out).mono ?_
                rintro e w8 ⟨y, b, rfl, hsay, hB8⟩
                have HB8 := hid_of (bnext hT.out.1 hB8)
                have HLL := hid_of (lim_least HG.out HW.out hL.out (posN_lt f q) hsay)
                clear hsay hB8
                cases b
                case false =>
                  clear HLL
                  go_wp2_with fail
                  go_ret
                  exact ⟨rfl, HB8.out⟩
                case true =>
                  have dle : decide (x ≤ y) = true := decide_eq_true (by
                    rw [HX.out]
                    rcases HLL.out with h | h
                    · cases h
                    · exact h.2)
                  clear HLL
                  go_wp2_with fail
                  go_ret
                  exact ⟨rfl, HB8.out⟩
  · refine ((HA.out _ n c f z w1 HO1.out.sl.came (by omega) HF.out HZ.out).2 hG).mono ?_
    rintro e w2 ⟨a2, c2, rfl, hB2⟩
    have HB2 : Hid (Below w.heap.size w w2) := bnext HB1.out hB2
    have HO2 : Hid (IOwn w2 w.heap.size g n c f) := HO1.out.called hB2
    have HG := hid_of hG
    clear hB2 HB1 HO1 HA hG
    go_wp2_with fail
    refine (specLimit_bad _ n c f z w2 HO2.out.sl.came (by omega) HG.out).mono ?_
    rintro e w3 ⟨g3, rfl, _, hB3⟩
    have HB3 : Hid (Below w.heap.size w w3) := bnext HB2.out hB3
    clear hB3 HB2 HO2
    go_wp2_with fail
    go_ret
    exact ⟨rfl, HB3.out⟩

theorem FnPackage_over (hA : LimitAnswer) (hQ : CostAnswer) (a : Option Addr) (len cap : Nat) (zs : List Int) (w : World) (hr : IsRow .u8 w a len cap zs) :
    Calls Try.prog 3 #[.slice a len cap] w fun e w' => e = .returned (.bool true) ∧ Below w.heap.size w w' := by
  obtain ⟨hC, hl, hc⟩ := codeAt_of_row hr
  unfold maxLen at hc
  by_cases h : (len : Int) ≤ 1048576
  · exact FnPackage_at hA hQ a len cap w hC h
  · have d : (1048576 : Int) < len := by omega
    clear hr hC hA hQ
    go_enter Try.func3, Try.ntmps3
    go_wp2_with fail
    refine (big_yes a len cap _ d (by omega)).mono ?_
    rintro e w1 ⟨rfl, rfl⟩
    go_wp2_with fail
    go_ret
    exact ⟨rfl, Below.refl _ _⟩

end Go.Proofs.Ytpecmolloohklaa
