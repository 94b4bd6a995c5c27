/-
  The walks of the document's model of the symbol that comes next.
-/
import Derived.Test.YtedbmhelmenknaaDoorRows
import Derived.Test.YtedbmhelmenknaaDoorPk01
import Derived.Test.YtedbmhelmenknaaDoorPk05
import Derived.Test.YtedbmhelmenknaaDoorPk06
import Derived.Test.YtedbmhelmenknaaDoorPk07
import Derived.Test.YtedbmhelmenknaaDoorPk02
import Derived.WalkKit
import Derived.ProofKit
import Derived.WalkLawsBesides
import Derived.Deep.QuietTactic
import Derived.BigQuiet
import Derived.RegionTactic
import Derived.BigRegion
import Derived.Lib.SmallJoins
namespace Go.Proofs.YtedbmhelmenknaaDoor
open Go.RowKit Go.Joins OutMath CodeMath TakeMath HitMath

/-- What l03Take answers. -/
def TakePost (f : Nat → Int) (n : Nat) (s : ByteArray) (a : Int) (w : World) (e : Ending) (w' : World) : Prop :=
  Below w.heap.size w w' ∧ ((∃ i k, Next f n s a i k ∧ e = .returned (.agg #[.int .i64 (i : Nat), .string s, .int .i64 (a + (k : Nat)), .int .i64 0])) ∨
    ((∀ i k, ¬ Next f n s a i k) ∧ ∃ x : Int, x ≠ 0 ∧ e = .returned (.agg #[.int .i64 0, .string ⟨#[]⟩, .int .i64 0, .int .i64 x])))

theorem TakePost.hit {f : Nat → Int} {n : Nat} {s : ByteArray} {a : Int} {w w' : World} {i k : Nat} (h : Next f n s a i k) (hb : Below w.heap.size w w') : TakePost f n s a w (.returned (.agg #[.int .i64 (i : Nat), .string s, .int .i64 (a + (k : Nat)), .int .i64 0])) w' := ⟨hb, .inl ⟨i, k, h, rfl⟩⟩
theorem TakePost.miss {f : Nat → Int} {n : Nat} {s : ByteArray} {a : Int} {w w' : World} {x : Int} (h : ∀ i k, ¬ Next f n s a i k) (hx : x ≠ 0) (hb : Below w.heap.size w w') : TakePost f n s a w (.returned (.agg #[.int .i64 0, .string ⟨#[]⟩, .int .i64 0, .int .i64 x])) w' := ⟨hb, .inr ⟨h, x, hx, rfl⟩⟩

/-- What l03Take has at hand: the Bits in one block, its answer in another. -/
def TakeSt (w w' : World) (s : ByteArray) (x : Int) : Prop :=
  w'.heap[w.heap.size]? = some (.cells #[.string s, .int .i64 x] 31 (0, 0)) ∧ w'.heap[w.heap.size + 1]? = some (.cells #[.int .i64 0, .string ⟨#[]⟩, .int .i64 0, .int .i64 0] 96 (0, 0)) ∧ Below w.heap.size w w'
section
variable {w w' w'' : World} {s : ByteArray} {x : Int}
theorem TakeSt.lt (h : TakeSt w w' s x) : w.heap.size + 1 < w'.heap.size := by
  rcases Nat.lt_or_ge (w.heap.size + 1) w'.heap.size with k | k
  · exact k
  · have h2 := h.2.1; rw [Array.getElem?_eq_none k] at h2; cases h2
theorem TakeSt.called (h : TakeSt w w' s x) (hb : Below w'.heap.size w' w'') : TakeSt w w'' s x := by
  have hl := h.lt
  exact ⟨(hb.block _ (by omega)).trans h.1, (hb.block _ hl).trans h.2.1, bnext h.2.2 hb⟩
theorem TakeSt.drew (h : TakeSt w w' s x) : TakeSt w w'.drew s x := ⟨h.1, h.2.1, h.2.2.drew⟩
theorem TakeSt.drewN (h : TakeSt w w' s x) (n : Nat) : TakeSt w (w'.drewN n) s x := ⟨h.1, h.2.1, bdraws h.2.2 n⟩
theorem TakeSt.told (h : TakeSt w w' s x) (v0 v1 v2 v3 : Value) : Below w.heap.size w ((((w'.setCell ⟨w.heap.size + 1, 0, none⟩ v0).setCell ⟨w.heap.size + 1, 1, none⟩ v1).setCell ⟨w.heap.size + 1, 2, none⟩ v2).setCell ⟨w.heap.size + 1, 3, none⟩ v3) :=
  Below.setCell (p := ⟨w.heap.size + 1, 3, none⟩) (Below.setCell (p := ⟨w.heap.size + 1, 2, none⟩) (Below.setCell (p := ⟨w.heap.size + 1, 1, none⟩) (Below.setCell (p := ⟨w.heap.size + 1, 0, none⟩) h.2.2 (Nat.le_succ _) _) (Nat.le_succ _) _) (Nat.le_succ _) _) (Nat.le_succ _) _
theorem TakeSt.alloc (h : TakeSt w w' s x) (o : Obj) : TakeSt w (w'.alloc o) s x := by
  have hl := h.lt
  exact ⟨(Below.heap_alloc w' o _ (by omega)).trans h.1, (Below.heap_alloc w' o _ hl).trans h.2.1, h.2.2.alloc (by omega) o⟩
theorem TakeSt.box (h : TakeSt w w' s x) (y : Int) : TakeSt w ((w'.setCell ⟨w.heap.size, 0, none⟩ (.string s)).setCell ⟨w.heap.size, 1, none⟩ (.int .i64 y)) s y := by
  have h0 := block_setCell (i := 0) h.1 (.string s)
  have h1 := block_setCell (i := 1) h0 (.int .i64 y)
  refine ⟨by simpa using h1, ?_, Below.setCell (p := ⟨w.heap.size, 1, none⟩) (Below.setCell (p := ⟨w.heap.size, 0, none⟩) h.2.2 (Nat.le_refl _) _) (Nat.le_refl _) _⟩
  rw [Below.heap_setCell _ _ _ _ (by simp), Below.heap_setCell _ _ _ _ (by simp)]
  exact h.2.1
theorem TakeSt.toldc (h : TakeSt w w' s x) (v0 v1 v2 v3 : Value) : ((((w'.setCell ⟨w.heap.size + 1, 0, none⟩ v0).setCell ⟨w.heap.size + 1, 1, none⟩ v1).setCell ⟨w.heap.size + 1, 2, none⟩ v2).setCell ⟨w.heap.size + 1, 3, none⟩ v3).heap[w.heap.size + 1]? = some (.cells #[v0, v1, v2, v3] 96 (0, 0)) := by
  have h0 := block_setCell (i := 0) h.2.1 v0
  have h1 := block_setCell (i := 1) h0 v1
  have h2 := block_setCell (i := 2) h1 v2
  have h3 := block_setCell (i := 3) h2 v3
  simpa using h3
theorem TakeSt.c0 (h : TakeSt w w' s x) : w'.cell? ⟨w.heap.size, 0, none⟩ = some (.string s) := cell_of_block h.1 0
theorem TakeSt.c1 (h : TakeSt w w' s x) : w'.cell? ⟨w.heap.size, 1, none⟩ = some (.int .i64 x) := cell_of_block h.1 1
theorem TakeSt.f (h : TakeSt w w' s x) (i : Nat) : w'.frozen? ⟨w.heap.size, i, none⟩ = false := unfrozen_of_block h.1 i
theorem TakeSt.r (h : TakeSt w w' s x) : w'.cell? ⟨w.heap.size + 1, 0, none⟩ = some (.int .i64 0) ∧ w'.cell? ⟨w.heap.size + 1, 1, none⟩ = some (.string ⟨#[]⟩) ∧ w'.cell? ⟨w.heap.size + 1, 2, none⟩ = some (.int .i64 0) ∧ w'.cell? ⟨w.heap.size + 1, 3, none⟩ = some (.int .i64 0) := ⟨cell_of_block h.2.1 0, cell_of_block h.2.1 1, cell_of_block h.2.1 2, cell_of_block h.2.1 3⟩
theorem TakeSt.rf (h : TakeSt w w' s x) (i : Nat) : w'.frozen? ⟨w.heap.size + 1, i, none⟩ = false := unfrozen_of_block h.2.1 i
end

/-- l03Take hands back what lies in its second block. -/
theorem way_ret {w W : World} {v0 v1 v2 v3 : Value} {post : Ending → World → Prop} {ac : Act} (hc : W.heap[w.heap.size + 1]? = some (.cells #[v0, v1, v2, v3] 96 (0, 0))) (h6 : ac.tmps[6]?.getD undef = .pointer (some ⟨w.heap.size + 1, 0, none⟩)) (hd : ac.defers = []) (h : post (.returned (.agg #[v0, v1, v2, v3])) W) : bodyPost Tryd.prog Tryd.f46 post Exit.ret ac W := by
  have c0 : W.cell? ⟨w.heap.size + 1, 0, none⟩ = some v0 := cell_of_block hc 0
  have c1 : W.cell? ⟨w.heap.size + 1, 1, none⟩ = some v1 := cell_of_block hc 1
  have c2 : W.cell? ⟨w.heap.size + 1, 2, none⟩ = some v2 := cell_of_block hc 2
  have c3 : W.cell? ⟨w.heap.size + 1, 3, none⟩ = some v3 := cell_of_block hc 3
  refine bodyPost_ret (v := .agg #[v0, v1, v2, v3]) (by simp [results, Tryd.results46, go_sem, h6, c0, c1, c2, c3]) hd h

def TakeIn (w : World) (f : Nat → Int) (n : Nat) (s : ByteArray) (a : Int) (k : Nat) (b z : Value) (w' : World) : Prop :=
  ∃ (j : Nat) (bb : Bool), j ≤ n ∧ z = .int .i64 j ∧ b = .bool bb ∧ Hid (∀ i, i < j → ¬ Next f n s a i k) ∧ Hid (bb = false → ∀ i, i < j → ∀ l, k < l → ¬ Next f n s a i l) ∧ Hid (TakeSt w w' s (a + k))

set_option maxHeartbeats 1600000 in
theorem l03Take_any (a1 a2 : Option Addr) (n c1 c2 : Nat) (f : Nat → Int) (s : ByteArray) (a : Int) (w : World) (h1 : Came w a1 n f) (h2 : Came w a2 n (codeOf f n)) (hG : Coded f n) (hs : s.size ≤ maxLen) (ha1 : -9223372036854775808 ≤ a) (ha2 : a ≤ 9223372036854775807) :
    Calls Tryd.prog 46 #[.slice a1 n c1, .slice a2 n c2, .agg #[.string s, .int .i64 a]] w (TakePost f n s a w) := by
  have HF : Hid (Came w a1 n f) := h1
  have HC : Hid (Came w a2 n (codeOf f n)) := h2
  have HG : Hid (Coded f n) := hG
  have hn := hG.1
  have HS : Hid (s.size ≤ maxLen) := hs
  unfold maxLen at hs
  clear h1 h2 hG
  go_enter Tryd.func46, Tryd.ntmps46
  go_wp2_with fail
  have H0 : Hid (TakeSt w ((w.alloc (.cells #[.string s, .int .i64 a] 31)).alloc (.cells #[.int .i64 0, .string ⟨#[]⟩, .int .i64 0, .int .i64 0] 96)) s a) := by
    refine ⟨?_, ?_, bal (bstart _ _) _⟩
    · show ((w.heap.push _).push _)[w.heap.size]? = _
      rw [Array.getElem?_push, if_neg (by simp), Array.getElem?_push, if_pos rfl]
    · show ((w.heap.push _).push _)[w.heap.size + 1]? = _
      rw [Array.getElem?_push, if_pos (by simp)]
  go_loopw [7, 8] (fun x z w' => ∃ k : Nat, k ≤ 16 ∧ z = .int .i64 k ∧ x = .int .i64 (hi s a.toNat k) ∧ Hid (k = 0 ∨ s.size ≤ 12000 ∧ 0 ≤ a ∧ a + k ≤ 8 * s.size) ∧ Hid (∀ i l, l < k → ¬ Next f n s a i l) ∧ Hid (TakeSt w w' s (a + k))) (fun _ z _ => 16 - (intOf z).toNat)
  case atStart => exact ⟨0, by omega, rfl, rfl, .inl rfl, fun i l h => absurd h (Nat.not_lt_zero l), by simpa using H0⟩
  case round =>
    obtain ⟨k, hk, rfl, rfl, hav, hno, hT⟩ := hrel
    have hx := hi_bd s a.toNat k
    have hx2 : hi s a.toNat k < 131072 := by
      have h1 := p2_le hk
      have h2 : p2 16 = 65536 := by decide +kernel
      omega
    by_cases hlt : k ≤ 15
    · have dk : decide ((k : Int) ≤ 15) = true := by simp; omega
      go_wp2_with fail
      go_loopw [9, 10] (fun b z w' => TakeIn w f n s a k b z w') (fun _ z _ => n - (intOf z).toNat)
      case atStart => exact ⟨0, false, by omega, rfl, rfl, fun i h => absurd h (Nat.not_lt_zero i), fun _ i h => absurd h (Nat.not_lt_zero i), hT⟩
      case round =>
        obtain ⟨j, bb, hj, rfl, rfl, hA, hB, hTj⟩ := hrel
        by_cases hlt2 : j < n
        · rcases HF.out with h0 | ⟨g, off, rfl, hg, hc⟩
          · omega
          rcases HC.out with h0 | ⟨g', off', rfl, hg', hc'⟩
          · omega
          have k0 : wr.cell? ⟨g, off + j, none⟩ = some (.int .i64 (f j)) := (hTj.out.2.2.cell (p := ⟨g, off + j, none⟩) hg).trans (hc j hlt2)
          have k1 : wr.cell? ⟨g', off' + j, none⟩ = some (.int .i64 (codeOf f n j)) := (hTj.out.2.2.cell (p := ⟨g', off' + j, none⟩) hg').trans (hc' j hlt2)
          have hsz := hTj.out.lt
          have l0 : g < wr.heap.size := by omega
          have l1 : g' < wr.heap.size := by omega
          have hfj := HG.out.2.1 j hlt2
          have hcj := code_lt HG.out hlt2
          have hcj2 : codeOf f n j < 32768 := by
            have h1 := p2_le (show (f j).toNat ≤ 15 by omega)
            have h2 : p2 15 = 32768 := by decide +kernel
            omega
          clear hc hc'
          by_cases q : f j ≠ 0 ∧ (k : Int) ≤ f j ∧ codeOf f n j / p2 (f j - k).toNat = hi s a.toNat k
          · obtain ⟨q1, q2, q3⟩ := q
            have d1 : (f j == 0) = false := by simpa using q1
            have d2 : decide (f j < (k : Int)) = false := by simp; omega
            have d3 : (codeOf f n j / p2 (f j - k).toNat != hi s a.toNat k) = false := by simpa using q3
            have HP : Hid (∀ w, Calls Tryd.prog 45 #[.int .i64 (f j - (k : Int))] w fun e w' => e = .returned (.int .i64 (p2 (f j - k).toNat)) ∧ w' = w) := fun w => pow_int _ w (by omega) (by omega)
            have hQ := p2_pos (f j - k).toNat
            have hQ2 : p2 (f j - k).toNat ≤ 32768 := by
              have h1 := p2_le (show (f j - k).toNat ≤ 15 by omega)
              have h2 : p2 15 = 32768 := by decide +kernel
              omega
            have e1 : IntKind.i64.wrap (f j - (k : Int)) = f j - k := by rw [IntKind.wrap_i64]; omega
            generalize hQe : p2 (f j - k).toNat = Q at HP hQ hQ2 q3 d3
            have HQe : Hid (p2 (f j - k).toNat = Q) := hQe
            have e2 : (codeOf f n j).tdiv Q = codeOf f n j / Q := Int.tdiv_eq_ediv_of_nonneg hcj.1
            have hqd : 0 ≤ codeOf f n j / Q ∧ codeOf f n j / Q ≤ codeOf f n j := ⟨Int.ediv_nonneg hcj.1 (by omega), Int.ediv_le_self _ hcj.1⟩
            have e3 : IntKind.i64.wrap (codeOf f n j / Q) = codeOf f n j / Q := by rw [IntKind.wrap_i64]; omega
            have dQ : (Q == 0) = false := by simp; omega
            clear q1 hQe
            by_cases q4 : f j = (k : Int)
            · have d4 : (f j == (k : Int)) = true := by simpa using q4
              have HN : Hid (Next f n s a j k) := by
                have e : (f j - (k : Int)).toNat = 0 := by omega
                have hq := HQe.out
                rw [e, p2_zero] at hq
                rw [← hq, Int.ediv_one] at q3
                have q0 : 1 ≤ k := by
                  by_cases z : k = 0
                  · subst z
                    simp at d1
                    omega
                  · omega
                have hv := hav.out
                exact ⟨by omega, by omega, hlt2, q0, q4, q3, by omega⟩
              clear q4 q3
              have b0 := hTj.out.c0
              have b1 := hTj.out.c1
              have rr := hTj.out.r
              have rf := hTj.out.rf
              go_wp2_with fail
              go_quiet ((go_at_call 45; exact Calls.quiet_of_same (HP.out _)))
              go_wp2_with fail
              have hc := (hTj.out.drewN nq).toldc (.int .i64 (j : Nat)) (.string s) (.int .i64 (a + (k : Nat))) (.int .i64 0)
              have hb := (hTj.out.drewN nq).told (.int .i64 (j : Nat)) (.string s) (.int .i64 (a + (k : Nat))) (.int .i64 0)
              generalize ((((wr.drewN nq).setCell ⟨w.heap.size + 1, 0, none⟩ (.int .i64 (j : Nat))).setCell ⟨w.heap.size + 1, 1, none⟩ (.string s)).setCell ⟨w.heap.size + 1, 2, none⟩ (.int .i64 (a + (k : Nat)))).setCell ⟨w.heap.size + 1, 3, none⟩ (.int .i64 0) = W at hc hb ⊢
              exact way_ret hc rfl rfl (TakePost.hit HN.out hb)
            · have d4 : (f j == (k : Int)) = false := by simpa using q4
              have HN : Hid (∀ i, i < j + 1 → ¬ Next f n s a i k) := fun i hi h => by
                by_cases e : i = j
                · subst e
                  exact q4 h.2.2.2.2.1
                · exact hA.out i (by omega) h
              clear q4 q3
              go_wp2_with fail
              go_quiet ((go_at_call 45; exact Calls.quiet_of_same (HP.out _)))
              go_wp2_with fail
              go_roundw
              case rel => exact ⟨j + 1, true, by omega, by go_num, rfl, HN, (fun h => by cases h), hTj.out.drewN nq⟩
              case measure => simp [intOf]; omega
          · have HN : Hid (∀ l, k ≤ l → ¬ Next f n s a j l) := next_no q
            have HA1 : Hid (∀ i, i < j + 1 → ¬ Next f n s a i k) := fun i hi h => by
              by_cases e : i = j
              · subst e
                exact HN.out k (Nat.le_refl k) h
              · exact hA.out i (by omega) h
            have HB1 : Hid (bb = false → ∀ i, i < j + 1 → ∀ l, k < l → ¬ Next f n s a i l) := fun hb i hi l hl h => by
              by_cases e : i = j
              · subst e
                exact HN.out l (by omega) h
              · exact hB.out hb i (by omega) l hl h
            by_cases q1 : f j = 0
            · have d1 : (f j == 0) = true := by simpa using q1
              clear q q1
              go_wp2_with fail
              go_quiet (fail)
              go_wp2_with fail
              go_roundw
              case rel => exact ⟨j + 1, bb, by omega, by go_num, rfl, HA1, HB1, hTj.out.drewN nq⟩
              case measure => simp [intOf]; omega
            · have d1 : (f j == 0) = false := by simpa using q1
              by_cases q2 : f j < (k : Int)
              · have d2 : decide (f j < (k : Int)) = true := by simpa using q2
                clear q q1
                go_wp2_with fail
                go_quiet (fail)
                go_wp2_with fail
                go_roundw
                case rel => exact ⟨j + 1, bb, by omega, by go_num, rfl, HA1, HB1, hTj.out.drewN nq⟩
                case measure => simp [intOf]; omega
              · have d2 : decide (f j < (k : Int)) = false := by simpa using q2
                have q3 : ¬ codeOf f n j / p2 (f j - k).toNat = hi s a.toNat k := fun e => q ⟨q1, by omega, e⟩
                have HP : Hid (∀ w, Calls Tryd.prog 45 #[.int .i64 (f j - (k : Int))] w fun e w' => e = .returned (.int .i64 (p2 (f j - k).toNat)) ∧ w' = w) := fun w => pow_int _ w (by omega) (by omega)
                have hQ := p2_pos (f j - k).toNat
                have hQ2 : p2 (f j - k).toNat ≤ 32768 := by
                  have h1 := p2_le (show (f j - k).toNat ≤ 15 by omega)
                  have h2 : p2 15 = 32768 := by decide +kernel
                  omega
                have e1 : IntKind.i64.wrap (f j - (k : Int)) = f j - k := by rw [IntKind.wrap_i64]; omega
                generalize p2 (f j - k).toNat = Q at HP hQ hQ2 q3
                have d3 : (codeOf f n j / Q != hi s a.toNat k) = true := by simpa using q3
                have e2 : (codeOf f n j).tdiv Q = codeOf f n j / Q := Int.tdiv_eq_ediv_of_nonneg hcj.1
                have hqd : 0 ≤ codeOf f n j / Q ∧ codeOf f n j / Q ≤ codeOf f n j := ⟨Int.ediv_nonneg hcj.1 (by omega), Int.ediv_le_self _ hcj.1⟩
                have e3 : IntKind.i64.wrap (codeOf f n j / Q) = codeOf f n j / Q := by rw [IntKind.wrap_i64]; omega
                have dQ : (Q == 0) = false := by simp; omega
                clear q q1 q3
                go_wp2_with fail
                go_quiet ((go_at_call 45; exact Calls.quiet_of_same (HP.out _)))
                go_wp2_with fail
                go_roundw
                case rel => exact ⟨j + 1, bb, by omega, by go_num, rfl, HA1, HB1, hTj.out.drewN nq⟩
                case measure => simp [intOf]; omega
        · obtain rfl : j = n := by omega
          have b0 := hTj.out.c0
          have b1 := hTj.out.c1
          have bf := hTj.out.f
          have rr := hTj.out.r
          have rf := hTj.out.rf
          have hsz := hTj.out.lt
          cases bb with
          | false =>
            have HM : Hid (∀ i l, ¬ Next f j s a i l) := fun i l h => by
              have hi := h.2.2.1
              rcases Nat.lt_trichotomy l k with q | q | q
              · exact hno.out i l q h
              · subst q; exact hA.out i hi h
              · exact hB.out rfl i hi l q h
            go_wp2_with fail
            have hc := hTj.out.toldc (.int .i64 0) (.string ⟨#[]⟩) (.int .i64 0) (.int .i64 1)
            have hb := hTj.out.told (.int .i64 0) (.string ⟨#[]⟩) (.int .i64 0) (.int .i64 1)
            generalize (((wr.setCell ⟨w.heap.size + 1, 0, none⟩ (.int .i64 0)).setCell ⟨w.heap.size + 1, 1, none⟩ (.string ⟨#[]⟩)).setCell ⟨w.heap.size + 1, 2, none⟩ (.int .i64 0)).setCell ⟨w.heap.size + 1, 3, none⟩ (.int .i64 1) = W at hc hb ⊢
            refine way_ret (w := w) hc ?_ ?_ (TakePost.miss HM.out (by omega) hb) <;> rfl
          | true =>
            go_wp2_with fail
            by_cases hv : s.size ≤ 12000 ∧ 0 ≤ a ∧ a + k + 1 ≤ 8 * s.size
            · have HT : Hid (∀ w, Calls Tryd.prog 24 #[.agg #[.string s, .int .i64 (a + k)], .int .i64 1] w fun e w' => e = .returned (.tuple #[.int .i64 (bit s (a.toNat + k)), .agg #[.string s, .int .i64 (a + k + 1)], .bool true]) ∧ Below w.heap.size w w') := fun w => by
                have h := specTake_yes s (a.toNat + k) 1 w hv.1 (by omega) (by omega)
                have e1 : ((a.toNat + k : Nat) : Int) = a + k := by omega
                have e2 : num s (a.toNat + k) 1 = bit s (a.toNat + k) := by
                  show 0 + bit s (a.toNat + k + 0) * p2 0 = _
                  rw [p2_zero]; simp
                rw [e2, e1] at h
                exact h
              have HV : Hid (k + 1 = 0 ∨ s.size ≤ 12000 ∧ 0 ≤ a ∧ a + ((k + 1 : Nat) : Int) ≤ 8 * s.size) := .inr ⟨hv.1, hv.2.1, by have := hv.2.2; omega⟩
              have HX : Hid (hi s a.toNat (k + 1) = 2 * hi s a.toNat k + bit s (a.toNat + k)) := rfl
              have HN : Hid (∀ i l, l < k + 1 → ¬ Next f j s a i l) := fun i l hl h => by
                rcases Nat.lt_or_ge l k with q | q
                · exact hno.out i l q h
                · obtain rfl : l = k := by omega
                  exact hA.out i h.2.2.1 h
              have hbit := bit_01 s (a.toNat + k)
              have hv2 := hv.2.2
              have hv1 := hv.1
              have hv0 := hv.2.1
              clear hv
              refine (HT.out _).mono ?_
              rintro e w2 ⟨rfl, hb2⟩
              have hT2 := hTj.out.called hb2
              have HT3 : Hid (TakeSt w (w2.alloc (.cells #[.string s, .int .i64 (a + k + 1)] 31)) s (a + k)) := hT2.alloc _
              have g0 := HT3.out.c0
              have g1 := HT3.out.c1
              have gf := HT3.out.f
              have hsz2 := HT3.out.lt
              have HT4 : Hid (TakeSt w (((w2.alloc (.cells #[.string s, .int .i64 (a + k + 1)] 31)).setCell ⟨w.heap.size, 0, none⟩ (.string s)).setCell ⟨w.heap.size, 1, none⟩ (.int .i64 (a + k + 1))) s (a + ((k + 1 : Nat) : Int))) := by
                have h := HT3.out.box (a + k + 1)
                rw [show a + ((k + 1 : Nat) : Int) = a + k + 1 by omega]
                exact h
              have hl2 := hT2.lt
              clear hb2 hT2 b0 b1 bf rr rf
              go_wp2_with fail
              go_roundw
              case rel => exact ⟨k + 1, by omega, by go_num, by rw [HX.out], HV, HN, HT4⟩
              case measure => simp [intOf]; omega
            · have HM : Hid (∀ i l, ¬ Next f j s a i l) := fun i l h => by
                have hi := h.2.2.1
                rcases Nat.lt_trichotomy l k with q | q | q
                · exact hno.out i l q h
                · subst q; exact hA.out i hi h
                · obtain ⟨n1, n2, n3⟩ := h
                  have n4 := n3.2.2.2.2
                  exact hv ⟨n1, n2, by omega⟩
              have HV : Hid (¬ (0 ≤ (1 : Int) ∧ (1 : Int) ≤ 24 ∧ s.size ≤ 12000 ∧ 0 ≤ a + (k : Int) ∧ a + (k : Int) + 1 ≤ 8 * s.size)) := fun h => by
                refine hv ⟨h.2.2.1, ?_, by omega⟩
                rcases hav.out with q | q
                · subst q; have := h.2.2.2.1; omega
                · exact q.2.1
              clear hv
              refine (specTake_no s _ 1 _ HS.out HV.out).mono ?_
              rintro e w2 ⟨rfl, hb2⟩
              have hT2 := hTj.out.called hb2
              have hc := hT2.toldc (.int .i64 0) (.string ⟨#[]⟩) (.int .i64 0) (.int .i64 2)
              have hb := hT2.told (.int .i64 0) (.string ⟨#[]⟩) (.int .i64 0) (.int .i64 2)
              have r3 := hT2.r
              have rf3 := hT2.rf
              have hl2 := hT2.lt
              clear hb2 hT2 b0 b1 bf rr rf
              go_wp2_with fail
              have hl3 : w.heap.size + 1 < ((((w2.setCell ⟨w.heap.size + 1, 0, none⟩ (.int .i64 0)).setCell ⟨w.heap.size + 1, 1, none⟩ (.string ⟨#[]⟩)).setCell ⟨w.heap.size + 1, 2, none⟩ (.int .i64 0)).setCell ⟨w.heap.size + 1, 3, none⟩ (.int .i64 2)).heap.size := by simpa using hl2
              generalize (((w2.setCell ⟨w.heap.size + 1, 0, none⟩ (.int .i64 0)).setCell ⟨w.heap.size + 1, 1, none⟩ (.string ⟨#[]⟩)).setCell ⟨w.heap.size + 1, 2, none⟩ (.int .i64 0)).setCell ⟨w.heap.size + 1, 3, none⟩ (.int .i64 2) = W at hc hb hl3 ⊢
              refine way_ret (w := w) ((Below.heap_alloc W _ _ hl3).trans hc) ?_ ?_ (TakePost.miss HM.out (by omega) (hb.alloc (by omega) _)) <;> rfl
    · have HM : Hid (∀ i l, ¬ Next f n s a i l) := fun i l h => by
        have h1 := h.2.2.1
        have h2 := h.2.2.2.2.1
        have h3 := (HG.out.2.1 i h1).2
        exact hno.out i l (by omega) h
      have hc := hT.out.toldc (.int .i64 0) (.string ⟨#[]⟩) (.int .i64 0) (.int .i64 1)
      have hb := hT.out.told (.int .i64 0) (.string ⟨#[]⟩) (.int .i64 0) (.int .i64 1)
      have rr := hT.out.r
      have rf := hT.out.rf
      have hsz := hT.out.lt
      go_wp2_with fail
      generalize (((wr.setCell ⟨w.heap.size + 1, 0, none⟩ (.int .i64 0)).setCell ⟨w.heap.size + 1, 1, none⟩ (.string ⟨#[]⟩)).setCell ⟨w.heap.size + 1, 2, none⟩ (.int .i64 0)).setCell ⟨w.heap.size + 1, 3, none⟩ (.int .i64 1) = W at hc hb ⊢
      refine way_ret (w := w) hc ?_ ?_ (TakePost.miss HM.out (by omega) hb) <;> rfl

end Go.Proofs.YtedbmhelmenknaaDoor
