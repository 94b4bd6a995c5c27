/-
  The walk of the document's model of TokensCost, and the law FnExactTokensCost over what the program answers.
-/
import Derived.Test.YtihcapfdpgaeiabRows
import Derived.Test.YtihcapfdpgaeiabBase
import Derived.Test.YtihcapfdpgaeiabTokMath
import Derived.Test.YtihcapfdpgaeiabTriLib
import Derived.Test.YtihcapfdpgaeiabTokEq
import Derived.Test.YtihcapfdpgaeiabTokArgs
import Derived.Test.YtihcapfdpgaeiabCheapMath
import Derived.Test.YtihcapfdpgaeiabTokCostAns
import Derived.Test.YtihcapfdpgaeiabTokSpec
import Derived.Test.YtihcapfdpgaeiabPriceSpec
import Derived.WalkKit
import Derived.ProofKit
import Derived.WalkLawsBesides
import Derived.Below
import Derived.Deep.LoopGhost
import Derived.Sort.Grow
import Derived.Lib.SmallJoins
namespace Go.Proofs.Ytihcapfdpgaeiab
open Go.RowKit Go.Joins Go.Sort TokMath CheapMath

theorem below_grown7 {w : World} (n : Nat) (os : Array Obj) : Below w.heap.size w (grow (w.drewN n) os) := by
  refine ⟨rfl, rfl, rfl, ?_, fun k hk => heap_grow_old (w.drewN n) os hk⟩
  rw [size_grow]
  show w.heap.size ≤ w.heap.size + os.size
  omega
set_option maxHeartbeats 1600000 in
theorem specTokensCost (a : Option Addr) (c : Nat) (L : List Tok) (w : World) (hC : TCame w a L.length (fun j => L.getD j (0, 0, 0))) (hn : L.length ≤ 1048576) :
    Calls Try.prog 5 #[.slice a L.length c] w fun e w' => e = .returned (.tuple #[.int .i64 (tokCost L).1, .bool (tokCost L).2]) ∧ Below w.heap.size w w' := by
  have HC := hid_of hC
  clear hC
  by_cases h12 : L.length ≤ 12000
  · have d : decide ((12000 : Int) < (L.length : Int)) = false := decide_eq_false (by omega)
    have d' : decide (12000 < L.length) = false := decide_eq_false (by omega)
    go_enter Try.func5, Try.ntmps5
    go_wp2_with fail
    go_loopg [4, 5] (L.length + 1) (fun gk v i w' => ∃ (j : Nat) (z : Int), j ≤ L.length ∧ L.length - j ≤ gk ∧ i = .int .i64 j ∧ v = .int .i64 z ∧ 0 ≤ z ∧ z ≤ 31 * (j : Int) ∧ Hid (Below w.heap.size w w' ∧ z = sumC (L.take j) ∧ ∀ t ∈ L.take j, TokRight t))
    case atStart => exact ⟨0, 0, Nat.zero_le _, by omega, rfl, rfl, by omega, by omega, Below.refl _ _, rfl, fun t ht => by cases ht⟩
    case round =>
      obtain ⟨j, z, hj, hgk, rfl, rfl, hz0, hz1, hS⟩ := hrel
      by_cases hlt : j < L.length
      · have dl : decide ((j : Int) < (L.length : Int)) = true := decide_eq_true (by omega)
        rcases HC.out with q | ⟨g, off, rfl, hg, hc⟩
        · omega
        obtain ⟨c0, c1, c2⟩ : w.cell? ⟨g, off + j * 3, none⟩ = some (.int .i64 (L.getD j (0, 0, 0)).1) ∧ w.cell? ⟨g, off + j * 3 + 1, none⟩ = some (.int .i64 (L.getD j (0, 0, 0)).2.1) ∧ w.cell? ⟨g, off + j * 3 + 2, none⟩ = some (.int .i64 (L.getD j (0, 0, 0)).2.2) := hc j hlt
        have HST := hid_of (sumC_take hlt)
        have HMEM : Hid (∀ t ∈ L.take (j + 1), t ∈ L.take j ∨ t = L.getD j (0, 0, 0)) := fun t ht => by
          rw [List.take_add_one, List.getElem?_eq_getElem hlt] at ht
          rcases List.mem_append.mp ht with q | q
          · exact .inl q
          · right
            rw [List.getD_eq_getElem?_getD, List.getElem?_eq_getElem hlt]
            exact List.mem_singleton.mp q
        have HIN : Hid (L.getD j (0, 0, 0) ∈ L) := by
          rw [List.getD_eq_getElem?_getD, List.getElem?_eq_getElem hlt]
          exact List.getElem_mem hlt
        obtain ⟨⟨x, y, q⟩, hr⟩ : ∃ r, r = L.getD j (0, 0, 0) := ⟨_, rfl⟩
        rw [← hr] at c0 c1 c2 HST HMEM HIN
        have f0 : wr.cell? ⟨g, off + j * 3, none⟩ = some (.int .i64 x) := (hS.out.1.cell (p := ⟨g, off + j * 3, none⟩) hg).trans c0
        have f1 : wr.cell? ⟨g, off + j * 3 + 1, none⟩ = some (.int .i64 y) := (hS.out.1.cell (p := ⟨g, off + j * 3 + 1, none⟩) hg).trans c1
        have f2 : wr.cell? ⟨g, off + j * 3 + 2, none⟩ = some (.int .i64 q) := (hS.out.1.cell (p := ⟨g, off + j * 3 + 2, none⟩) hg).trans c2
        have hl2 : g < wr.heap.size := Nat.lt_of_lt_of_le hg hS.out.1.size
        have htk := specTokenOk x y q wr
        clear hc c0 c1 c2 hr
        by_cases hright : TokRight (x, y, q)
        · have HR := hid_of hright
          go_wp2_with fail
          refine htk.mono ?_
          rintro e w2 ⟨rfl, hB2⟩
          rw [decide_eq_true hright]
          clear htk hright
          have k0 := (hB2.cell (p := ⟨g, off + j * 3, none⟩) hl2).trans f0
          have k1 := (hB2.cell (p := ⟨g, off + j * 3 + 1, none⟩) hl2).trans f1
          have k2 := (hB2.cell (p := ⟨g, off + j * 3 + 2, none⟩) hl2).trans f2
          have hl3 := Nat.lt_of_lt_of_le hl2 hB2.size
          have HB2 := hid_of (bnext hS.out.1 hB2)
          clear f0 f1 f2 hB2
          have hcs := specCost7 x y q w2
          have hcr := cost_range (x, y, q)
          obtain ⟨T, hT⟩ : ∃ T, T = costT (x, y, q) := ⟨_, rfl⟩
          rw [← hT] at hcs hcr HST
          clear hT
          go_wp2_with fail
          refine hcs.mono ?_
          rintro e w3 ⟨rfl, k, os, rfl⟩
          clear hcs
          have HNX : Hid (Below w.heap.size w (grow (w2.drewN k) os) ∧ z + T = sumC (L.take (j + 1)) ∧ ∀ t ∈ L.take (j + 1), TokRight t) := by
            refine ⟨bnext HB2.out (below_grown7 k os), ?_, fun t ht => ?_⟩
            · rw [HST.out, hS.out.2.1]
            · rcases HMEM.out t ht with q | q
              · exact hS.out.2.2 t q
              · rw [q]
                exact HR.out
          generalize grow (w2.drewN k) os = W3 at HNX
          go_wp2_with fail
          go_roundg (L.length - (j + 1))
          case measure => omega
          case rel => exact ⟨j + 1, z + T, by omega, Nat.le_refl _, by go_num, rfl, by omega, by omega, HNX⟩
        · have HNX : Hid (tokCost L = (0, false)) := by
            show tokCost L = (0, false)
            unfold tokCost
            rw [if_neg (fun k => hright (k.2 _ HIN.out))]
          go_wp2_with fail
          refine htk.mono ?_
          rintro e w2 ⟨rfl, hB2⟩
          rw [decide_eq_false hright]
          have HB2 := hid_of (bnext hS.out.1 hB2)
          clear htk hright hB2
          go_wp2_with fail
          go_ret2
          rw [HNX.out]
          exact ⟨rfl, HB2.out⟩
      · obtain rfl : j = L.length := by omega
        have dl : decide ((L.length : Int) < (L.length : Int)) = false := decide_eq_false (by omega)
        have HZ : Hid (Below w.heap.size w wr ∧ tokCost L = (z, true)) := by
          refine ⟨hS.out.1, ?_⟩
          have h := hS.out.2
          rw [List.take_length] at h
          unfold tokCost
          rw [if_pos ⟨h12, h.2⟩, h.1]
        go_wp2_with fail
        go_ret2
        have hq := HZ.out.2
        rw [hq]
        exact ⟨rfl, HZ.out.1⟩
  · have e0 : tokCost L = (0, false) := by
      unfold tokCost
      rw [if_neg (fun k => h12 k.1)]
    rw [e0]
    have d : decide ((12000 : Int) < (L.length : Int)) = true := decide_eq_true (by omega)
    have d' : decide (12000 < L.length) = true := decide_eq_true (by omega)
    go_enter Try.func5, Try.ntmps5
    go_wp2_with fail
    go_ret2
    exact ⟨rfl, Below.refl _ _⟩

set_option maxHeartbeats 1600000 in
theorem FnExactTokensCost_at (z : Int) (b : Bool) (a : Option Addr) (c m : Nat) (F : Nat → Tok) (w : World) (hn : m ≤ 1048576) (hC : TCame w a m F)
    (hP : ∀ g w, TCame w (some ⟨g, 0, none⟩) m F → Calls Try.prog 5 #[.slice (some ⟨g, 0, none⟩) m m] w fun e w' => e = .returned (.tuple #[.int .i64 z, .bool b]) ∧ Below w.heap.size w w')
    (hQ : ∀ g w, TCame w (some ⟨g, 0, none⟩) m F → Calls Try.prog 7 #[.slice (some ⟨g, 0, none⟩) m m] w fun e w' => e = .returned (.tuple #[.int .i64 z, .bool b]) ∧ Below w.heap.size w w') :
    Calls Try.prog 3 #[.slice a m c] w fun e w' => e = .returned (.bool true) ∧ Below w.heap.size w w' := by
  have HC := hid_of hC
  have HP := hid_of hP
  have HQ := hid_of hQ
  have k0 : ¬ (1048576 : Int) - (m : Int) < 0 := by omega
  have k1 : decide ((1048576 : Int) - (m : Int) < 0) = false := decide_eq_false (by omega)
  clear hC hP hQ
  have hsz : ∀ W, Calls Try.prog 4 #[.slice a m c, .int .i64 1048576] W fun e w' => e = .returned (.int .i64 (1048576 - (m : Int))) ∧ W = w' := fun W => by
    have h := szTokenS_any a m c 1048576 W (by omega) (by omega) (by omega)
    rw [if_pos (show (m : Int) ≤ 1048576 by omega)] at h
    exact h
  go_enter Try.func3, Try.ntmps3
  go_wp2_with fail
  refine (hsz _).mono ?_
  rintro e w1 ⟨rfl, rfl⟩
  clear hsz
  go_wp2_with fail
  refine (toTokenS_any a m c F _ HC.out hn).mono ?_
  rintro e w2 ⟨rfl, hO2, hB2⟩
  have HO2 := hid_of hO2
  have HB2 := hid_of hB2
  clear hO2 hB2
  go_wp2_with fail
  refine (HP.out _ _ HO2.out.came).mono ?_
  rintro e w3 ⟨rfl, hB3⟩
  have HB3 := hid_of (bnext HB2.out hB3)
  clear hB3 HP
  go_wp2_with fail
  refine (toTokenS_any a m c F _ (HC.out.called HB3.out) hn).mono ?_
  rintro e w4 ⟨rfl, hO4, hB4⟩
  have HO4 := hid_of hO4
  have HB4 := hid_of (bnext HB3.out hB4)
  clear hO4 hB4
  go_wp2_with fail
  refine (HQ.out _ _ HO4.out.came).mono ?_
  rintro e w5 ⟨rfl, hB5⟩
  have HO5 := hid_of (HO4.out.called hB5)
  have HB5 := hid_of (bnext HB4.out hB5)
  clear hB5 HQ
  have HT := hid_of (toTokenS_any a m c F w5 (HC.out.called HB5.out) hn)
  cases b
  all_goals
    go_wp2_with fail
    refine HT.out.mono ?_
    rintro e w6 ⟨rfl, hO6, hB6⟩
    have HO6 := hid_of (HO5.out.called hB6)
    have HO7 := hid_of hO6
    have HB6 := hid_of (bnext HB5.out hB6)
    clear hB6 hO6
    go_wp2_with fail
    refine (eqTokenS_same _ _ m m m F _ HO6.out.came HO7.out.came hn).mono ?_
    rintro e w7 ⟨rfl, hB7⟩
    have HB7 := hid_of (bnext HB6.out hB7)
    clear hB7
    go_wp2_with fail
    go_ret
    exact ⟨rfl, HB7.out⟩
theorem FnExactTokensCost_many (a : Option Addr) (c m : Nat) (w : World) (h : ¬ m ≤ 1048576) (hm : m ≤ maxLen) :
    Calls Try.prog 3 #[.slice a m c] w fun e w' => e = .returned (.bool true) ∧ Below w.heap.size w w' := by
  unfold maxLen at hm
  have hsz : ∀ W, Calls Try.prog 4 #[.slice a m c, .int .i64 1048576] W fun e w' => e = .returned (.int .i64 (-1)) ∧ W = w' := fun W => by
    have h := szTokenS_any a m c 1048576 W (by omega) (by omega) (by omega)
    rw [if_neg (show ¬ (m : Int) ≤ 1048576 by omega)] at h
    exact h
  go_enter Try.func3, Try.ntmps3
  go_wp2_with fail
  refine (hsz _).mono ?_
  rintro e w1 ⟨rfl, rfl⟩
  go_wp2_with fail
  go_ret
  exact ⟨rfl, Below.refl _ _⟩
theorem FnExactTokensCost_over (hA : TokCostAnswer) (a : Option Addr) (n cap : Nat) (L : List Tok) (w : World) (hn : n = L.length) (hC : TCame w a n (fun j => L.getD j (0, 0, 0))) (hf : ∀ t ∈ L, (Lit.int .i64 t.1).wf = true ∧ (Lit.int .i64 t.2.1).wf = true ∧ (Lit.int .i64 t.2.2).wf = true) (hl : n ≤ maxLen) :
    Calls Try.prog 3 #[.slice a n cap] w fun e w' => e = .returned (.bool true) ∧ Below w.heap.size w w' := by
  subst hn
  by_cases h2 : L.length ≤ 1048576
  · exact FnExactTokensCost_at (tokCost L).1 (tokCost L).2 a cap L.length _ w h2 hC (fun g W q => specTokensCost _ L.length L W q h2) (fun g W q => hA _ L.length L W q (Nat.le_refl _) h2 hf)
  · exact FnExactTokensCost_many a cap L.length w h2 hl

end Go.Proofs.Ytihcapfdpgaeiab
