/-
  The walk of the document's model of the symbol that comes next, by the way in which it comes or does not.
-/
import Derived.Test.YtedbmhelmenknaaDoorRows
import Derived.Test.YtedbmhelmenknaaDoorPk01
import Derived.Test.YtedbmhelmenknaaDoorPk05
import Derived.Test.YtedbmhelmenknaaDoorPk06
import Derived.Test.YtedbmhelmenknaaDoorPk07
import Derived.Test.YtedbmhelmenknaaDoorPk02
import Derived.Test.YtedbmhelmenknaaDoorPk08
import Derived.WalkKit
import Derived.ProofKit
import Derived.WalkLawsBesides
import Derived.Deep.QuietTactic
import Derived.BigQuiet
import Derived.RegionTactic
import Derived.BigRegion
import Derived.Lib.SmallJoins
namespace Go.Proofs.YtedbmhelmenknaaDoor
open Go.RowKit Go.Joins OutMath CodeMath TakeMath HitMath WayMath

/-- What l03Take answers, as a value. -/
noncomputable def wayV (f : Nat → Int) (n : Nat) (s : ByteArray) (a : Nat) : Value :=
  if (symW f n s a).2.2 = 0 then .agg #[.int .i64 ((symW f n s a).1 : Nat), .string s, .int .i64 ((a : Int) + ((symW f n s a).2.1 : Nat)), .int .i64 0] else .agg #[.int .i64 0, .string ⟨#[]⟩, .int .i64 0, .int .i64 ((symW f n s a).2.2 : Nat)]
def WayPost (f : Nat → Int) (n : Nat) (s : ByteArray) (a : Nat) (w : World) (e : Ending) (w' : World) : Prop := Below w.heap.size w w' ∧ e = .returned (wayV f n s a)
theorem WayPost.hit {f : Nat → Int} {n : Nat} {s : ByteArray} {a : Nat} {w w' : World} {i k : Nat} (h : Hit f n s a i k) (hb : Below w.heap.size w w') : WayPost f n s a w (.returned (.agg #[.int .i64 (i : Nat), .string s, .int .i64 ((a : Int) + (k : Nat)), .int .i64 0])) w' := ⟨hb, by
  unfold wayV
  rw [symW_hit h]
  rfl⟩
theorem WayPost.none {f : Nat → Int} {n : Nat} {s : ByteArray} {a : Nat} {w w' : World} (h : NoneBegins f n s a) (hb : Below w.heap.size w w') : WayPost f n s a w (.returned (.agg #[.int .i64 0, .string ⟨#[]⟩, .int .i64 0, .int .i64 1])) w' := ⟨hb, by
  unfold wayV
  rw [symW_none h]
  rfl⟩
theorem WayPost.out {f : Nat → Int} {n : Nat} {s : ByteArray} {a : Nat} {w w' : World} (h : RunsOut f n s a) (hb : Below w.heap.size w w') : WayPost f n s a w (.returned (.agg #[.int .i64 0, .string ⟨#[]⟩, .int .i64 0, .int .i64 2])) w' := ⟨hb, by
  unfold wayV
  rw [symW_out h]
  rfl⟩
/-- The code of symbol i begins with the next k bits. -/
def Beg (f : Nat → Int) (n : Nat) (s : ByteArray) (a i k : Nat) : Prop := f i ≠ 0 ∧ (k : Int) ≤ f i ∧ codeOf f n i / p2 (f i - k).toNat = hi s a k
theorem hit_beg {f : Nat → Int} {n : Nat} {s : ByteArray} {a i k l : Nat} (h : Hit f n s a i l) (hk : k ≤ l) : Beg f n s a i k := by
  obtain ⟨h1, h2, h3, h4, _⟩ := h
  refine ⟨by omega, by omega, ?_⟩
  obtain ⟨d, rfl⟩ := Nat.exists_eq_add_of_le hk
  have e : (f i - (k : Int)).toNat = d := by omega
  rw [e, h4]
  exact hi_div s a k d

/-- What is known of the first j symbols, at k bits. -/
def BegSt (f : Nat → Int) (n : Nat) (s : ByteArray) (a j k : Nat) (bb : Bool) : Prop := (bb = false → ∀ i, i < j → ¬ Beg f n s a i k) ∧ (bb = true → Begins f n s a k)
def WayIn (w : World) (f : Nat → Int) (n : Nat) (s : ByteArray) (a : Nat) (k : Nat) (b z : Value) (w' : World) : Prop :=
  ∃ (j : Nat) (bb : Bool), j ≤ n ∧ z = .int .i64 j ∧ b = .bool bb ∧ Hid (∀ i, i < j → ¬ Hit f n s a i k) ∧ Hid (BegSt f n s a j k bb) ∧ Hid (TakeSt w w' s ((a : Int) + k))

set_option maxHeartbeats 1600000 in
theorem l03Take_way (a1 a2 : Option Addr) (n c1 c2 : Nat) (f : Nat → Int) (s : ByteArray) (a : Nat) (w : World) (h1 : Came w a1 n f) (h2 : Came w a2 n (codeOf f n)) (hG : Coded f n) (hs : s.size ≤ 12000) (ha : a ≤ 8 * s.size) :
    Calls Tryd.prog 46 #[.slice a1 n c1, .slice a2 n c2, .agg #[.string s, .int .i64 (a : Int)]] w (WayPost f n s a w) := by
  have HF : Hid (Came w a1 n f) := h1
  have HC : Hid (Came w a2 n (codeOf f n)) := h2
  have HG : Hid (Coded f n) := hG
  have hn := hG.1
  have HS : Hid (s.size ≤ maxLen) := by
    show s.size ≤ maxLen
    unfold maxLen
    omega
  clear h1 h2 hG
  go_enter Tryd.func46, Tryd.ntmps46
  go_wp2_with fail
  have H0 : Hid (TakeSt w ((w.alloc (.cells #[.string s, .int .i64 (a : Int)] 31)).alloc (.cells #[.int .i64 0, .string ⟨#[]⟩, .int .i64 0, .int .i64 0] 96)) s (a : Int)) := by
    refine ⟨?_, ?_, bal (bstart _ _) _⟩
    · show ((w.heap.push _).push _)[w.heap.size]? = _
      rw [Array.getElem?_push, if_neg (by simp), Array.getElem?_push, if_pos rfl]
    · show ((w.heap.push _).push _)[w.heap.size + 1]? = _
      rw [Array.getElem?_push, if_pos (by simp)]
  go_loopw [7, 8] (fun x z w' => ∃ k : Nat, k ≤ 16 ∧ z = .int .i64 k ∧ x = .int .i64 (hi s a k) ∧ Hid (a + k ≤ 8 * s.size) ∧ Hid ((∀ i l, l < k → ¬ Hit f n s a i l) ∧ ∀ j, j < k → Begins f n s a j) ∧ Hid (TakeSt w w' s ((a : Int) + k))) (fun _ z _ => 16 - (intOf z).toNat)
  case atStart => exact ⟨0, by omega, rfl, rfl, ha, ⟨fun i l h => absurd h (Nat.not_lt_zero l), fun j h => absurd h (Nat.not_lt_zero j)⟩, by simpa using H0⟩
  case round =>
    obtain ⟨k, hk, rfl, rfl, hav, hno, hT⟩ := hrel
    have hx := hi_bd s a k
    have hx2 : hi s a k < 131072 := by
      have h1 := p2_le hk
      have h2 : p2 16 = 65536 := by decide +kernel
      omega
    by_cases hlt : k ≤ 15
    · have dk : decide ((k : Int) ≤ 15) = true := by simp; omega
      go_wp2_with fail
      go_loopw [9, 10] (fun b z w' => WayIn w f n s a k b z w') (fun _ z _ => n - (intOf z).toNat)
      case atStart => exact ⟨0, false, by omega, rfl, rfl, fun i h => absurd h (Nat.not_lt_zero i), ⟨fun _ i h => absurd h (Nat.not_lt_zero i), fun h => (by cases h)⟩, hT⟩
      case round =>
        obtain ⟨j, bb, hj, rfl, rfl, hA, hB, hTj⟩ := hrel
        by_cases hlt2 : j < n
        · rcases HF.out with h0 | ⟨g, off, rfl, hg, hc⟩
          · omega
          rcases HC.out with h0 | ⟨g', off', rfl, hg', hc'⟩
          · omega
          have k0 : wr.cell? ⟨g, off + j, none⟩ = some (.int .i64 (f j)) := (hTj.out.2.2.cell (p := ⟨g, off + j, none⟩) hg).trans (hc j hlt2)
          have k1 : wr.cell? ⟨g', off' + j, none⟩ = some (.int .i64 (codeOf f n j)) := (hTj.out.2.2.cell (p := ⟨g', off' + j, none⟩) hg').trans (hc' j hlt2)
          have hsz := hTj.out.lt
          have l0 : g < wr.heap.size := by omega
          have l1 : g' < wr.heap.size := by omega
          have hfj := HG.out.2.1 j hlt2
          have hcj := code_lt HG.out hlt2
          have hcj2 : codeOf f n j < 32768 := by
            have h1 := p2_le (show (f j).toNat ≤ 15 by omega)
            have h2 : p2 15 = 32768 := by decide +kernel
            omega
          clear hc hc'
          by_cases q : f j ≠ 0 ∧ (k : Int) ≤ f j ∧ codeOf f n j / p2 (f j - k).toNat = hi s a k
          · obtain ⟨q1, q2, q3⟩ := q
            have d1 : (f j == 0) = false := by simpa using q1
            have d2 : decide (f j < (k : Int)) = false := by simp; omega
            have d3 : (codeOf f n j / p2 (f j - k).toNat != hi s a k) = false := by simpa using q3
            have HP : Hid (∀ w, Calls Tryd.prog 45 #[.int .i64 (f j - (k : Int))] w fun e w' => e = .returned (.int .i64 (p2 (f j - k).toNat)) ∧ w' = w) := fun w => pow_int _ w (by omega) (by omega)
            have hQ := p2_pos (f j - k).toNat
            have hQ2 : p2 (f j - k).toNat ≤ 32768 := by
              have h1 := p2_le (show (f j - k).toNat ≤ 15 by omega)
              have h2 : p2 15 = 32768 := by decide +kernel
              omega
            have e1 : IntKind.i64.wrap (f j - (k : Int)) = f j - k := by rw [IntKind.wrap_i64]; omega
            generalize hQe : p2 (f j - k).toNat = Q at HP hQ hQ2 q3 d3
            have HQe : Hid (p2 (f j - k).toNat = Q) := hQe
            have e2 : (codeOf f n j).tdiv Q = codeOf f n j / Q := Int.tdiv_eq_ediv_of_nonneg hcj.1
            have hqd : 0 ≤ codeOf f n j / Q ∧ codeOf f n j / Q ≤ codeOf f n j := ⟨Int.ediv_nonneg hcj.1 (by omega), Int.ediv_le_self _ hcj.1⟩
            have e3 : IntKind.i64.wrap (codeOf f n j / Q) = codeOf f n j / Q := by rw [IntKind.wrap_i64]; omega
            have dQ : (Q == 0) = false := by simp; omega
            clear q1 hQe
            by_cases q4 : f j = (k : Int)
            · have d4 : (f j == (k : Int)) = true := by simpa using q4
              have HN : Hid (Hit f n s a j k) := by
                have e : (f j - (k : Int)).toNat = 0 := by omega
                have hq := HQe.out
                rw [e, p2_zero] at hq
                rw [← hq, Int.ediv_one] at q3
                have q0 : 1 ≤ k := by
                  by_cases z : k = 0
                  · subst z
                    simp at d1
                    omega
                  · omega
                have hv := hav.out
                exact ⟨hlt2, q0, q4, q3, by omega⟩
              clear q4 q3
              have b0 := hTj.out.c0
              have b1 := hTj.out.c1
              have rr := hTj.out.r
              have rf := hTj.out.rf
              go_wp2_with fail
              go_quiet ((go_at_call 45; exact Calls.quiet_of_same (HP.out _)))
              go_wp2_with fail
              have hc := (hTj.out.drewN nq).toldc (.int .i64 (j : Nat)) (.string s) (.int .i64 ((a : Int) + (k : Nat))) (.int .i64 0)
              have hb := (hTj.out.drewN nq).told (.int .i64 (j : Nat)) (.string s) (.int .i64 ((a : Int) + (k : Nat))) (.int .i64 0)
              generalize ((((wr.drewN nq).setCell ⟨w.heap.size + 1, 0, none⟩ (.int .i64 (j : Nat))).setCell ⟨w.heap.size + 1, 1, none⟩ (.string s)).setCell ⟨w.heap.size + 1, 2, none⟩ (.int .i64 ((a : Int) + (k : Nat)))).setCell ⟨w.heap.size + 1, 3, none⟩ (.int .i64 0) = W at hc hb ⊢
              exact way_ret hc rfl rfl (WayPost.hit HN.out hb)
            · have d4 : (f j == (k : Int)) = false := by simpa using q4
              have HN : Hid (∀ i, i < j + 1 → ¬ Hit f n s a i k) := fun i hi h => by
                by_cases e : i = j
                · subst e
                  exact q4 h.2.2.1
                · exact hA.out i (by omega) h
              have HBG : Hid (BegSt f n s a (j + 1) k true) := by
                refine ⟨fun h => (by cases h), fun _ => ⟨j, hlt2, by simpa using d1, q2, ?_⟩⟩
                rw [HQe.out]
                exact q3
              clear q4 q3
              go_wp2_with fail
              go_quiet ((go_at_call 45; exact Calls.quiet_of_same (HP.out _)))
              go_wp2_with fail
              go_roundw
              case rel => exact ⟨j + 1, true, by omega, by go_num, rfl, HN, HBG, hTj.out.drewN nq⟩
              case measure => simp [intOf]; omega
          · have HA1 : Hid (∀ i, i < j + 1 → ¬ Hit f n s a i k) := fun i hi h => by
              by_cases e : i = j
              · subst e
                exact q (hit_beg h (Nat.le_refl k))
              · exact hA.out i (by omega) h
            have HB1 : Hid (BegSt f n s a (j + 1) k bb) := by
              refine ⟨fun hb i hi h => ?_, hB.out.2⟩
              by_cases e : i = j
              · subst e
                exact q h
              · exact hB.out.1 hb i (by omega) h
            by_cases q1 : f j = 0
            · have d1 : (f j == 0) = true := by simpa using q1
              clear q q1
              go_wp2_with fail
              go_quiet (fail)
              go_wp2_with fail
              go_roundw
              case rel => exact ⟨j + 1, bb, by omega, by go_num, rfl, HA1, HB1, hTj.out.drewN nq⟩
              case measure => simp [intOf]; omega
            · have d1 : (f j == 0) = false := by simpa using q1
              by_cases q2 : f j < (k : Int)
              · have d2 : decide (f j < (k : Int)) = true := by simpa using q2
                clear q q1
                go_wp2_with fail
                go_quiet (fail)
                go_wp2_with fail
                go_roundw
                case rel => exact ⟨j + 1, bb, by omega, by go_num, rfl, HA1, HB1, hTj.out.drewN nq⟩
                case measure => simp [intOf]; omega
              · have d2 : decide (f j < (k : Int)) = false := by simpa using q2
                have q3 : ¬ codeOf f n j / p2 (f j - k).toNat = hi s a k := fun e => q ⟨q1, by omega, e⟩
                have HP : Hid (∀ w, Calls Tryd.prog 45 #[.int .i64 (f j - (k : Int))] w fun e w' => e = .returned (.int .i64 (p2 (f j - k).toNat)) ∧ w' = w) := fun w => pow_int _ w (by omega) (by omega)
                have hQ := p2_pos (f j - k).toNat
                have hQ2 : p2 (f j - k).toNat ≤ 32768 := by
                  have h1 := p2_le (show (f j - k).toNat ≤ 15 by omega)
                  have h2 : p2 15 = 32768 := by decide +kernel
                  omega
                have e1 : IntKind.i64.wrap (f j - (k : Int)) = f j - k := by rw [IntKind.wrap_i64]; omega
                generalize p2 (f j - k).toNat = Q at HP hQ hQ2 q3
                have d3 : (codeOf f n j / Q != hi s a k) = true := by simpa using q3
                have e2 : (codeOf f n j).tdiv Q = codeOf f n j / Q := Int.tdiv_eq_ediv_of_nonneg hcj.1
                have hqd : 0 ≤ codeOf f n j / Q ∧ codeOf f n j / Q ≤ codeOf f n j := ⟨Int.ediv_nonneg hcj.1 (by omega), Int.ediv_le_self _ hcj.1⟩
                have e3 : IntKind.i64.wrap (codeOf f n j / Q) = codeOf f n j / Q := by rw [IntKind.wrap_i64]; omega
                have dQ : (Q == 0) = false := by simp; omega
                clear q q1 q3
                go_wp2_with fail
                go_quiet ((go_at_call 45; exact Calls.quiet_of_same (HP.out _)))
                go_wp2_with fail
                go_roundw
                case rel => exact ⟨j + 1, bb, by omega, by go_num, rfl, HA1, HB1, hTj.out.drewN nq⟩
                case measure => simp [intOf]; omega
        · obtain rfl : j = n := by omega
          have b0 := hTj.out.c0
          have b1 := hTj.out.c1
          have bf := hTj.out.f
          have rr := hTj.out.r
          have rf := hTj.out.rf
          have hsz := hTj.out.lt
          cases bb with
          | false =>
            have HM : Hid (NoneBegins f j s a) := by
              refine ⟨fun i l h => ?_, k, hav.out, fun h => ?_⟩
              · have hi := h.1
                rcases Nat.lt_or_ge l k with q | q
                · exact hno.out.1 i l q h
                · exact hB.out.1 rfl i hi (hit_beg h q)
              · obtain ⟨i, h1, h2⟩ := h
                exact hB.out.1 rfl i h1 h2
            go_wp2_with fail
            have hc := hTj.out.toldc (.int .i64 0) (.string ⟨#[]⟩) (.int .i64 0) (.int .i64 1)
            have hb := hTj.out.told (.int .i64 0) (.string ⟨#[]⟩) (.int .i64 0) (.int .i64 1)
            generalize (((wr.setCell ⟨w.heap.size + 1, 0, none⟩ (.int .i64 0)).setCell ⟨w.heap.size + 1, 1, none⟩ (.string ⟨#[]⟩)).setCell ⟨w.heap.size + 1, 2, none⟩ (.int .i64 0)).setCell ⟨w.heap.size + 1, 3, none⟩ (.int .i64 1) = W at hc hb ⊢
            refine way_ret (w := w) hc ?_ ?_ (WayPost.none HM.out hb) <;> rfl
          | true =>
            go_wp2_with fail
            by_cases hv : a + k + 1 ≤ 8 * s.size
            · have HT : Hid (∀ w, Calls Tryd.prog 24 #[.agg #[.string s, .int .i64 ((a : Int) + k)], .int .i64 1] w fun e w' => e = .returned (.tuple #[.int .i64 (bit s (a + k)), .agg #[.string s, .int .i64 ((a : Int) + k + 1)], .bool true]) ∧ Below w.heap.size w w') := fun w => by
                have h := specTake_yes s (a + k) 1 w hs (by omega) (by omega)
                have e1 : ((a + k : Nat) : Int) = (a : Int) + k := by omega
                have e2 : num s (a + k) 1 = bit s (a + k) := by
                  show 0 + bit s (a + k + 0) * p2 0 = _
                  rw [p2_zero]; simp
                rw [e2, e1] at h
                exact h
              have HV : Hid (a + (k + 1) ≤ 8 * s.size) := by
                show a + (k + 1) ≤ 8 * s.size
                omega
              have HX : Hid (hi s a (k + 1) = 2 * hi s a k + bit s (a + k)) := rfl
              have HN : Hid ((∀ i l, l < k + 1 → ¬ Hit f j s a i l) ∧ ∀ q, q < k + 1 → Begins f j s a q) := by
                refine ⟨fun i l hl h => ?_, fun q hq => ?_⟩
                · rcases Nat.lt_or_ge l k with q | q
                  · exact hno.out.1 i l q h
                  · obtain rfl : l = k := by omega
                    exact hA.out i h.1 h
                · rcases Nat.lt_or_ge q k with q' | q'
                  · exact hno.out.2 q q'
                  · obtain rfl : q = k := by omega
                    exact hB.out.2 rfl
              have hbit := bit_01 s (a + k)
              have hv2 : (a : Int) + k + 1 ≤ 8 * s.size := by omega
              clear hv
              refine (HT.out _).mono ?_
              rintro e w2 ⟨rfl, hb2⟩
              have hT2 := hTj.out.called hb2
              have HT3 : Hid (TakeSt w (w2.alloc (.cells #[.string s, .int .i64 ((a : Int) + k + 1)] 31)) s ((a : Int) + k)) := hT2.alloc _
              have g0 := HT3.out.c0
              have g1 := HT3.out.c1
              have gf := HT3.out.f
              have hsz2 := HT3.out.lt
              have HT4 : Hid (TakeSt w (((w2.alloc (.cells #[.string s, .int .i64 ((a : Int) + k + 1)] 31)).setCell ⟨w.heap.size, 0, none⟩ (.string s)).setCell ⟨w.heap.size, 1, none⟩ (.int .i64 ((a : Int) + k + 1))) s ((a : Int) + ((k + 1 : Nat) : Int))) := by
                have h := HT3.out.box ((a : Int) + k + 1)
                rw [show (a : Int) + ((k + 1 : Nat) : Int) = (a : Int) + k + 1 by omega]
                exact h
              have hl2 := hT2.lt
              clear hb2 hT2 b0 b1 bf rr rf
              go_wp2_with fail
              go_roundw
              case rel => exact ⟨k + 1, by omega, by go_num, by rw [HX.out], HV, HN, HT4⟩
              case measure => simp [intOf]; omega
            · have HM : Hid (RunsOut f j s a) := by
                have hv' := hav.out
                refine ⟨fun i l h => ?_, k, by omega, fun q hq => ?_⟩
                · have hi := h.1
                  rcases Nat.lt_trichotomy l k with q | q | q
                  · exact hno.out.1 i l q h
                  · subst q
                    exact hA.out i hi h
                  · have := h.2.2.2.2
                    omega
                · rcases Nat.lt_or_ge q k with q' | q'
                  · exact hno.out.2 q q'
                  · obtain rfl : q = k := by omega
                    exact hB.out.2 rfl
              have HV : Hid (¬ (0 ≤ (1 : Int) ∧ (1 : Int) ≤ 24 ∧ s.size ≤ 12000 ∧ 0 ≤ (a : Int) + (k : Int) ∧ (a : Int) + (k : Int) + 1 ≤ 8 * s.size)) := fun h => hv (by omega)
              clear hv
              refine (specTake_no s _ 1 _ HS.out HV.out).mono ?_
              rintro e w2 ⟨rfl, hb2⟩
              have hT2 := hTj.out.called hb2
              have hc := hT2.toldc (.int .i64 0) (.string ⟨#[]⟩) (.int .i64 0) (.int .i64 2)
              have hb := hT2.told (.int .i64 0) (.string ⟨#[]⟩) (.int .i64 0) (.int .i64 2)
              have r3 := hT2.r
              have rf3 := hT2.rf
              have hl2 := hT2.lt
              clear hb2 hT2 b0 b1 bf rr rf
              go_wp2_with fail
              have hl3 : w.heap.size + 1 < ((((w2.setCell ⟨w.heap.size + 1, 0, none⟩ (.int .i64 0)).setCell ⟨w.heap.size + 1, 1, none⟩ (.string ⟨#[]⟩)).setCell ⟨w.heap.size + 1, 2, none⟩ (.int .i64 0)).setCell ⟨w.heap.size + 1, 3, none⟩ (.int .i64 2)).heap.size := by simpa using hl2
              generalize (((w2.setCell ⟨w.heap.size + 1, 0, none⟩ (.int .i64 0)).setCell ⟨w.heap.size + 1, 1, none⟩ (.string ⟨#[]⟩)).setCell ⟨w.heap.size + 1, 2, none⟩ (.int .i64 0)).setCell ⟨w.heap.size + 1, 3, none⟩ (.int .i64 2) = W at hc hb hl3 ⊢
              refine way_ret (w := w) ((Below.heap_alloc W _ _ hl3).trans hc) ?_ ?_ (WayPost.out HM.out (hb.alloc (by omega) _)) <;> rfl
    · have HM : Hid (NoneBegins f n s a) := by
        refine ⟨fun i l h => ?_, k, hav.out, fun h => ?_⟩
        · have h1 := h.1
          have h2 := h.2.2.1
          have h3 := (HG.out.2.1 i h1).2
          exact hno.out.1 i l (by omega) h
        · obtain ⟨i, h1, h2, h3, _⟩ := h
          have h4 := (HG.out.2.1 i h1).2
          omega
      have hc := hT.out.toldc (.int .i64 0) (.string ⟨#[]⟩) (.int .i64 0) (.int .i64 1)
      have hb := hT.out.told (.int .i64 0) (.string ⟨#[]⟩) (.int .i64 0) (.int .i64 1)
      have rr := hT.out.r
      have rf := hT.out.rf
      have hsz := hT.out.lt
      go_wp2_with fail
      generalize (((wr.setCell ⟨w.heap.size + 1, 0, none⟩ (.int .i64 0)).setCell ⟨w.heap.size + 1, 1, none⟩ (.string ⟨#[]⟩)).setCell ⟨w.heap.size + 1, 2, none⟩ (.int .i64 0)).setCell ⟨w.heap.size + 1, 3, none⟩ (.int .i64 1) = W at hc hb ⊢
      refine way_ret (w := w) hc ?_ ?_ (WayPost.none HM.out hb) <;> rfl

end Go.Proofs.YtedbmhelmenknaaDoor
