/-
  The walk of the document's model of short codes.
  The model of short codes, where it is called wrongly.
  The walk of the document's model: in which order the lengths of the third code come.
  The parts of a block of type 2 that tell both codes, as they are made one behind the other; a list of parts under way. Nothing here speaks of the program.
-/
import Derived.Test.YtbcnlggkoidmmabGreatDoorRows
import Derived.Test.YtbcnlggkoidmmabGreatDoorPk01
import Derived.Test.YtbcnlggkoidmmabGreatDoorPk07
import Derived.Test.YtbcnlggkoidmmabGreatDoorPk08
import Derived.Test.YtbcnlggkoidmmabGreatDoorPk03
import Derived.Test.YtbcnlggkoidmmabGreatDoorPk14
import Derived.Test.YtbcnlggkoidmmabGreatDoorPk04
import Derived.Test.YtbcnlggkoidmmabGreatDoorPk05
import Derived.Test.YtbcnlggkoidmmabGreatDoorPk06
import Derived.Test.YtbcnlggkoidmmabGreatDoorPk16
import Derived.Test.YtbcnlggkoidmmabGreatDoorPk17
import Derived.Test.YtbcnlggkoidmmabGreatDoorPk18
import Derived.Test.YtbcnlggkoidmmabGreatDoorPk10
import Derived.WalkKit
import Derived.ProofKit
import Derived.WalkLawsBesides
import Derived.RegionTactic
import Derived.BigRegion
import Derived.OwnWalk
import Derived.Lib.SmallJoins
import Derived.Below
namespace Go.Proofs.YtbcnlggkoidmmabGreatDoor
open Go.RowKit Go.Joins OutMath PackageMath

theorem small_of {X : List Coin} (h : ∀ x ∈ X, SmallK 0 x) {k : Nat} (hk : k ≤ 14) : Small (lists X k) := fun i hi => by
  have hm : (lists X k).getD i (0, []) ∈ lists X k := by
    rw [List.getD_eq_getElem?_getD, List.getElem?_eq_getElem hi]
    exact List.getElem_mem _
  exact smallK_bd hk (lists_small h k _ hm)
theorem posN_succ (f : Nat → Int) (j : Nat) : posN f (j + 1) = posN f j + (if f j = 0 then 0 else 1) := by
  show cN _ j + (if decide (f j ≠ 0) = true then 1 else 0) = _
  by_cases h : f j = 0
  · rw [if_neg (by simpa using h), if_pos h]
    rfl
  · rw [if_pos (by simpa using h), if_neg h]
    rfl

/-- What lies ready when the first list is made: the answer's place, the list. -/
def LimSt (w w' : World) (n : Nat) (v : Value) (L : List Coin) (F : Nat → Int) : Prop :=
  IOwn w' w.heap.size w.heap.size n n F ∧ ItemsAt 95 w' (w.heap.size + 1) (w.heap.size + 1) v L ∧ Below w.heap.size w w'
theorem LimSt.set {w w' : World} {n : Nat} {v : Value} {L : List Coin} {F : Nat → Int} (h : LimSt w w' n v L F) (s : Nat) (hs : s < n) (x : Int) : LimSt w (w'.setCell ⟨w.heap.size, s, none⟩ (.int .i64 x)) n v L (upd F s x) := by
  refine ⟨h.1.set s hs x, h.2.1.keep (fun k hk => Below.heap_setCell _ _ _ _ ?_) (fun g cur fz hB _ => Below.heap_setCell _ _ _ _ ?_), Below.setCell (p := ⟨w.heap.size, s, none⟩) h.2.2 (Nat.le_refl _) _⟩
  · have := (h.2.1.spine k hk).1
    show k ≠ w.heap.size
    omega
  · show g ≠ w.heap.size
    omega
theorem LimSt.congr {w w' : World} {n : Nat} {v : Value} {L : List Coin} {F F' : Nat → Int} (h : LimSt w w' n v L F) (e : ∀ i, i < n → F i = F' i) : LimSt w w' n v L F' := ⟨h.1.congr e, h.2⟩
theorem LimSt.drew {w w' : World} {n : Nat} {v : Value} {L : List Coin} {F : Nat → Int} (h : LimSt w w' n v L F) : LimSt w w'.drew n v L F := ⟨h.1.drew, h.2.1.keep (fun _ _ => rfl) (fun _ _ _ _ _ => rfl), h.2.2.drew⟩

theorem sm_le {φ : Coin → Int} {c : Int} : ∀ (l : List Coin), (∀ x ∈ l, 0 ≤ φ x ∧ φ x ≤ c) → 0 ≤ sm φ l ∧ sm φ l ≤ c * l.length
  | [], _ => by simp [sm]
  | x :: l, h => by
    have h1 := h x (by simp)
    have h2 := sm_le l (fun y hy => h y (by simp [hy]))
    have e : c * ((x :: l).length : Int) = c + c * (l.length : Int) := by
      rw [show ((x :: l).length : Int) = 1 + (l.length : Int) by simp; omega, Int.mul_add, Int.mul_one]
    show 0 ≤ φ x + sm φ l ∧ φ x + sm φ l ≤ _
    omega
theorem lim_bd {L : List Coin} (h : Small L) (i : Nat) (hi : i ≤ 1000) (k s : Nat) : 0 ≤ sm (ct s) (L.take i) + ((((L.getD i (0, [])).2.take k).count s : Nat) : Int) ∧ sm (ct s) (L.take i) + ((((L.getD i (0, [])).2.take k).count s : Nat) : Int) ≤ 1000000000000 := by
  have hk : ∀ x ∈ L.take i, 0 ≤ ct s x ∧ ct s x ≤ 1000000 := by
    intro x hx
    have hxL := List.mem_of_mem_take hx
    obtain ⟨r, hr, he⟩ := List.getElem_of_mem hxL
    have hs := h r hr
    rw [List.getD_eq_getElem?_getD, List.getElem?_eq_getElem hr] at hs
    have hs' : x.2.length ≤ 1000000 := by rw [← he]; exact hs.2.2.2
    have hc : x.2.count s ≤ x.2.length := List.count_le_length
    show (0 : Int) ≤ (x.2.count s : Nat) ∧ ((x.2.count s : Nat) : Int) ≤ 1000000
    omega
  have h1 := sm_le (φ := ct s) (c := 1000000) (L.take i) hk
  have hl : (L.take i).length ≤ 1000 := by rw [List.length_take]; omega
  have hc : ((L.getD i (0, [])).2.take k).count s ≤ 1000000 := by
    have h2 : ((L.getD i (0, [])).2.take k).count s ≤ ((L.getD i (0, [])).2.take k).length := List.count_le_length
    rw [List.length_take] at h2
    by_cases hi2 : i < L.length
    · have := (h i hi2).2.2.2
      omega
    · rw [List.getD_eq_getElem?_getD, List.getElem?_eq_none (by omega)] at h2 ⊢
      simp at h2 ⊢
  omega

theorem getD_mem' {ps : List Nat} {k : Nat} (h : k < ps.length) : ps.getD k 0 ∈ ps := by
  rw [List.getD_eq_getElem?_getD, List.getElem?_eq_getElem h]
  exact List.getElem_mem _

set_option maxHeartbeats 3200000 in
theorem specLimit_good (a : Option Addr) (n cap : Nat) (f : Nat → Int) (z : Nat) (w : World) (hC : Came w a n f) (hR : LimitRight f n (z : Int)) :
    Calls Tryz.prog 30 #[.slice a n cap, .int .i64 (z : Int)] w fun e w' => e = .returned (.tuple #[.slice (some ⟨w.heap.size, 0, none⟩) n n, .bool true]) ∧ IOwn w' w.heap.size w.heap.size n n (limLen f n (z : Int)) ∧ Below w.heap.size w w' := by
  obtain ⟨hn, hz1, hz2, hf, hpos⟩ := hR
  have HC : Hid (Came w a n f) := hC
  have HF : Hid (∀ i, i < n → 0 ≤ f i ∧ f i ≤ 12000) := hf
  rw [Int.toNat_natCast] at hpos
  have HPOS := hid_of hpos
  have hpn : posN f n ≤ n := cN_le _ _
  clear hC hf hpos
  have dn : decide ((n : Int) ≤ 288) = true := decide_eq_true (by omega)
  have hmk := make_ints w n (by omega)
  have HO := hid_of (IOwn.made (base := w.heap.size) w n (by unfold maxLen; omega) (Nat.le_refl _))
  have HB0 := hid_of (bstart w (.cells (madeCells #[Value.int .i64 0] n) 3))
  have HZ0 : Hid ((w.alloc (.cells (madeCells #[Value.int .i64 0] n) 3)).heap.size = w.heap.size + 1) := by show _ = _; simp
  generalize w.alloc (.cells (madeCells #[Value.int .i64 0] n) 3) = w0 at hmk HO HB0 HZ0
  go_enter Tryz.func30, Tryz.ntmps30
  go_wp2_with fail
  refine (in_yes _ _ _ _ hz1 hz2).mono ?_
  rintro e w1 ⟨rfl, hw1⟩
  obtain rfl : w = w1 := hw1.symm
  clear hw1
  go_wp2_with fail
  go_loop [6, 7, 8] (fun ok x i => ∃ j : Nat, j ≤ n ∧ i = .int .i64 j ∧ x = .int .i64 (posN f j : Nat) ∧ ok = .bool true) (fun _ _ i => n - (intOf i).toNat)
  case atStart => exact ⟨0, by omega, rfl, rfl, rfl⟩
  case round =>
    obtain ⟨j, hj, rfl, rfl, rfl⟩ := hrel
    have hpj : posN f j ≤ j := cN_le _ _
    by_cases hlt : j < n
    · rcases HC.out with q | ⟨g, off, rfl, hg, hc⟩
      · omega
      · have c0 := hc j hlt
        clear hc
        obtain ⟨v0, v1⟩ := HF.out j hlt
        have dj : decide ((j : Int) < (n : Int)) = true := decide_eq_true (by omega)
        go_wp2_with fail
        refine (in_yes _ _ _ _ v0 v1).mono ?_
        rintro e w1 ⟨rfl, hw1⟩
        obtain rfl : w = w1 := hw1.symm
        clear hw1
        by_cases hp : 0 < f j
        · have HP : Hid (posN f (j + 1) = posN f j + 1) := by show _ = _; rw [posN_succ, if_neg (by omega)]
          have dp : decide (0 < f j) = true := decide_eq_true hp
          go_wp2_with fail
          go_round
          case rel => exact ⟨j + 1, by omega, by go_num, by rw [HP.out]; go_num, rfl⟩
          case measure => simp [intOf]; omega
        · have HP : Hid (posN f (j + 1) = posN f j) := by show _ = _; rw [posN_succ, if_pos (by omega)]; omega
          have dp : decide (0 < f j) = false := decide_eq_false hp
          go_wp2_with fail
          go_round
          case rel => exact ⟨j + 1, by omega, by go_num, by rw [HP.out], rfl⟩
          case measure => simp [intOf]; omega
    · obtain rfl : j = n := by omega
      have dj : decide ((j : Int) < (j : Int)) = false := decide_eq_false (by omega)
      go_wp2_with fail
      refine (pow_int _ _ (by omega) (by omega)).mono ?_
      rintro e w1 ⟨rfl, hw1⟩
      obtain rfl : w = w1 := hw1.symm
      clear hw1
      rw [Int.toNat_natCast]
      have dq : decide (p2 z < (posN f j : Int)) = false := decide_eq_false (by have := HPOS.out; show ¬ (2 : Int) ^ z < _; omega)
      go_wp2_with fail
      refine (specFirst a j cap f w0 (HC.out.called HB0.out) hn HF.out).mono ?_
      rintro e w2 ⟨v, rfl, hI, hB2⟩
      have HLEN : Hid ((firstL f j).length = posN f j) := first_length f j
      have HS : Hid (LimSt w w2 j v (firstL f j) (fun _ => 0)) := by
        refine ⟨HO.out.called hB2, ?_, bnext HB0.out hB2⟩
        have h := hI
        rw [HZ0.out] at h
        exact h
      clear hI hB2 hmk HO HB0 HZ0
      obtain ⟨av, cv, hv⟩ := HS.out.2.1.slice
      subst hv
      by_cases p0 : posN f j = 0
      · have d1 : (((posN f j : Nat) : Int) == 1) = false := by simp; omega
        have d2 : decide (((posN f j : Nat) : Int) < 2) = true := decide_eq_true (by omega)
        have HT := hid_of (HS.out.1.congr (fun i _ => lim_none (z := (z : Int)) p0 i))
        go_wp2_with fail
        go_ret2
        exact ⟨rfl, HT.out, HS.out.2.2⟩
      · by_cases p1 : posN f j = 1
        · have d1 : (((posN f j : Nat) : Int) == 1) = true := by simp; omega
          have d2 : decide (((posN f j : Nat) : Int) < 2) = true := decide_eq_true (by omega)
          obtain ⟨g, cg, u, hv, hg, k0, k1, hp⟩ := HS.out.2.1.get 0 (by rw [HLEN.out]; omega)
          obtain ⟨rfl, rfl⟩ : av = some ⟨g, 0, none⟩ ∧ cv = cg := by simpa using hv
          clear hv
          obtain ⟨s, hs, hfs, hx⟩ : ∃ s, s < j ∧ f s ≠ 0 ∧ (firstL f j).getD 0 (0, []) = (f s, [s]) := by
            have hm : (firstL f j).getD 0 (0, []) ∈ firstL f j := by
              rw [List.getD_eq_getElem?_getD, List.getElem?_eq_getElem (by rw [HLEN.out]; omega)]
              exact List.getElem_mem _
            exact first_mem j _ hm
          rw [hx] at hp
          obtain ⟨x0, cx, r0, z0, rfl, m0, n0, o0⟩ := id hp
          have kc := hp.cell.2.2 0 (by simp)
          have kc' : w2.cell? ⟨x0, 0, none⟩ = some (.int .i64 (s : Int)) := kc
          have hx0 := hp.cell.2.1
          have k1' : w2.cell? ⟨g, 1, none⟩ = some (.slice (some ⟨x0, 0, none⟩) 1 cx) := k1
          have hl1 : (firstL f j).length = 1 := by rw [HLEN.out]; exact p1
          have c1 := HS.out.1.cell s hs
          have f1 := HS.out.1.free s hs
          have l1 := HS.out.1.lt
          have HT := hid_of ((HS.out.set s hs 1).congr (F' := limLen f j (z : Int)) (fun i hi => lim_one p1 hs hfs i hi))
          have hs0 : (0 : Int) ≤ (s : Int) := Int.natCast_nonneg _
          have hs1 : (s : Int) < (j : Int) := by omega
          clear k0 k1 kc hp n0 o0 hx
          go_wp2_with fail
          go_ret2
          exact ⟨rfl, HT.out.1, HT.out.2.2⟩
        · have d1 : (((posN f j : Nat) : Int) == 1) = false := by simp; omega
          have d2 : decide (((posN f j : Nat) : Int) < 2) = false := decide_eq_false (by omega)
          have HXS : Hid (∀ x ∈ firstL f j, SmallK 0 x) := first_small HF.out
          have HXL : Hid ((firstL f j).length ≤ 288) := by show _ ≤ _; rw [HLEN.out]; omega
          have H2 : Hid (∀ L' v' w', LimSt w w' j v' L' (fun _ => 0) → LimSt w w' j v' L' (fun q => sm (ct q) (L'.take 0))) := fun L' v' w' h => h.congr (fun i _ => by simp [sm])
          have HLN : Hid (2 * posN f j - 2 ≤ (lists (firstL f j) (z - 1)).length) := by
            have h := (package_syms (c := f) (N := j) (fun i hi => (HF.out i hi).1) (z - 1) (by rw [HLEN.out]; omega) (by
              rw [HLEN.out, show z - 1 + 1 = z by omega]
              exact HPOS.out)).1
            rw [HLEN.out] at h
            exact h
          obtain ⟨X, hX⟩ : ∃ X, X = firstL f j := ⟨_, rfl⟩
          have HXE := hid_of hX
          rw [← hX] at HS HLEN HXS HXL HLN
          rw [← hX]
          clear hX
          go_wp2_with fail
          go_loopw [11, 12] (fun v k w' => ∃ (q cl m : Nat) (al : Option Addr), q + 1 ≤ z ∧ k = .int .i64 ((q : Int) + 1) ∧ v = .slice al m cl ∧ Hid (m = (lists X q).length) ∧ Hid (LimSt w w' j v (lists X q) (fun _ => 0)) ∧ Hid (ItemsAt 95 w' (w.heap.size + 1) (w.heap.size + 1) (.slice av X.length cv) X)) (fun _ k _ => z - (intOf k).toNat)
          case atStart => exact ⟨0, cv, X.length, av, by omega, rfl, rfl, rfl, HS, HS.out.2.1⟩
          case round =>
            clear HS
            obtain ⟨q, cl, m, al, hq, rfl, rfl, hm, hS, hXI⟩ := hrel
            have hsz := hS.out.2.2.size
            have hlt1 := hS.out.1.lt
            by_cases hlt : q + 1 < z
            · have dq2 : decide ((q : Int) + 1 < (z : Int)) = true := decide_eq_true (by omega)
              have HNX := hid_of (specNext av al cv cl (w.heap.size + 1) (w.heap.size + 1) (w.heap.size + 1) X (lists X q) wr hXI.out (by have h := hS.out.2.1; rw [hm.out] at h; exact h) HXL.out (by have h1 := lists_short X q; have h2 := HXL.out; omega) (small_of (k := 0) HXS.out (by omega)) (small_of HXS.out (by omega)) (by omega))
              rw [← hm.out] at HNX
              go_wp2_with fail
              refine HNX.out.mono ?_
              rintro e w3 ⟨v3, rfl, hI3, hB3⟩
              obtain ⟨a3, c3, hv3⟩ := hI3.slice
              have HM3 : Hid ((merge X (pairs (lists X q))).length = (lists X (q + 1)).length) := rfl
              have HS3 : Hid (LimSt w w3 j v3 (lists X (q + 1)) (fun _ => 0)) := ⟨hS.out.1.called hB3, hI3.mono (by omega), bnext hS.out.2.2 hB3⟩
              have HX3 := hid_of (hXI.out.called hB3)
              subst hv3
              clear hI3 hB3 HNX
              go_wp2_with fail
              go_roundw
              case rel => exact ⟨q + 1, c3, _, a3, by omega, by go_num, rfl, HM3.out, HS3, HX3⟩
              case measure => simp [intOf]; omega
            · obtain rfl : z = q + 1 := by omega
              have dq2 : decide ((q : Int) + 1 < ((q + 1 : Nat) : Int)) = false := decide_eq_false (by omega)
              rw [show q + 1 - 1 = q by omega] at HLN
              have HS0 := hid_of (H2.out _ _ _ hS.out)
              have hP2 : 2 ≤ posN f j := by omega
              have hlb : m ≤ 576 := by
                have h1 := lists_short X q
                have h2 := HXL.out
                have h3 := hm.out
                omega
              have HSY : Hid (∀ x ∈ lists X q, ∀ s ∈ x.2, s < j) := lists_syms (by rw [HXE.out]; exact first_syms) q
              have HSM : Hid (Small (lists X q)) := small_of HXS.out (by omega)
              clear hS hXI
              obtain ⟨L, hL⟩ : ∃ L, L = lists X q := ⟨_, rfl⟩
              have HLE := hid_of hL
              rw [← hL] at HS0 HLN HSY HSM hm
              clear hL
              go_wp2_with fail
              go_loopw [13] (fun y w' => ∃ i : Nat, i ≤ 2 * posN f j - 2 ∧ y = .int .i64 i ∧ Hid (LimSt w w' j (.slice al m cl) L (fun s => sm (ct s) (L.take i)))) (fun y _ => 2 * posN f j - 2 - (intOf y).toNat)
              case atStart => exact ⟨0, by omega, rfl, HS0⟩
              case round =>
                clear HS0
                obtain ⟨i, hi, rfl, hS⟩ := hrel
                by_cases hlt2 : i < 2 * posN f j - 2
                · have di : decide ((i : Int) < 2 * ((posN f j : Nat) : Int) - 2) = true := decide_eq_true (by omega)
                  have hiL : i < L.length := by have := HLN.out; omega
                  have HS1 : Hid (LimSt w wr j (.slice al m cl) L (fun s => sm (ct s) (L.take i) + ((((L.getD i (0, [])).2.take 0).count s : Nat) : Int))) := hS.out.congr (fun s _ => by simp)
                  clear hS
                  have hsmall := HSM.out i hiL
                  go_wp2_with fail
                  go_loopw [14] (fun y w' => ∃ k : Nat, k ≤ (L.getD i (0, [])).2.length ∧ y = .int .i64 k ∧ Hid (LimSt w w' j (.slice al m cl) L (fun s => sm (ct s) (L.take i) + ((((L.getD i (0, [])).2.take k).count s : Nat) : Int)))) (fun y _ => (L.getD i (0, [])).2.length - (intOf y).toNat)
                  case atStart => exact ⟨0, by omega, rfl, HS1⟩
                  case round =>
                    clear HS1
                    obtain ⟨k, hk, rfl, hT⟩ := hrel
                    obtain ⟨g, cg, u, hv, hg, k0, k1, hp⟩ := hT.out.2.1.get i hiL
                    have hag : al = some ⟨g, 0, none⟩ := by
                      have h := hv
                      simp at h
                      exact h.1
                    subst hag
                    obtain ⟨x0, cx, r0, z0, rfl, m0, n0, o0⟩ := id hp
                    have hpc := hp.cell
                    have hx0 := hpc.2.1
                    have hi0 : (0 : Int) ≤ (i : Int) := Int.natCast_nonneg _
                    have him : (i : Int) < (m : Int) := by have := hm.out; omega
                    clear hv k0
                    by_cases hlt3 : k < (L.getD i (0, [])).2.length
                    · obtain ⟨s, hs⟩ : ∃ s, s = (L.getD i (0, [])).2.getD k 0 := ⟨_, rfl⟩
                      have kc := hpc.2.2 k hlt3
                      rw [← hs] at kc
                      have hsj : s < j := by
                        have hm1 : L.getD i (0, []) ∈ L := by
                          rw [List.getD_eq_getElem?_getD, List.getElem?_eq_getElem hiL]
                          exact List.getElem_mem _
                        refine HSY.out _ hm1 s ?_
                        rw [hs]
                        exact getD_mem' hlt3
                      have c1 := hT.out.1.cell s hsj
                      have f1 := hT.out.1.free s hsj
                      have l1 := hT.out.1.lt
                      have HT1 := hid_of (((hT.out.set s hsj (sm (ct s) (L.take i) + ((((L.getD i (0, [])).2.take k).count s : Nat) : Int) + 1)).congr (F' := fun q => sm (ct q) (L.take i) + ((((L.getD i (0, [])).2.take (k + 1)).count q : Nat) : Int)) (fun q _ => ct_here L i k hiL hlt3 s hs q)).drew)
                      obtain ⟨cv1, hcv1⟩ : ∃ c, c = sm (ct s) (L.take i) + ((((L.getD i (0, [])).2.take k).count s : Nat) : Int) := ⟨_, rfl⟩
                      have hcb : 0 ≤ cv1 ∧ cv1 ≤ 1000000000000 := by
                        rw [hcv1]
                        exact lim_bd HSM.out i (by omega) k s
                      rw [← hcv1] at c1 HT1
                      have hs0 : (0 : Int) ≤ (s : Int) := Int.natCast_nonneg _
                      have hs1 : (s : Int) < (j : Int) := by omega
                      have hk0 : (0 : Int) ≤ (k : Int) := Int.natCast_nonneg _
                      generalize hpl : (L.getD i (0, [])).2.length = pl at *
                      have hk1 : (k : Int) < (pl : Int) := by omega
                      clear hs hcv1 hp n0 o0 hpc
                      go_wp2_with fail
                      go_region
                      all_goals
                        go_wp2_with fail
                        go_roundw
                        case rel => exact ⟨k + 1, by omega, by go_num, HT1⟩
                        case measure => simp [intOf]; omega
                    · have hke : k = (L.getD i (0, [])).2.length := by omega
                      have HT1 : Hid (LimSt w wr j (.slice (some ⟨g, 0, none⟩) m cl) L (fun s => sm (ct s) (L.take (i + 1)))) := hT.out.congr (fun s _ => by rw [hke]; exact ct_done L i hiL s)
                      clear hp n0 o0 hpc hT
                      generalize hpl : (L.getD i (0, [])).2.length = pl at *
                      subst hke
                      go_wp2_with fail
                      go_roundw
                      case rel => exact ⟨i + 1, by omega, by go_num, HT1⟩
                      case measure => simp [intOf]; omega
                · obtain rfl : i = 2 * posN f j - 2 := by omega
                  have di : decide ((((2 * posN f j - 2 : Nat)) : Int) < 2 * ((posN f j : Nat) : Int) - 2) = false := decide_eq_false (by omega)
                  have HT1 := hid_of (hS.out.1.congr (f' := limLen f j ((q + 1 : Nat) : Int)) (fun s _ => by
                    have h := lim_more (f := f) (n := j) (z := q + 1) hP2 s
                    rw [show q + 1 - 1 = q by omega, ← HXE.out, ← HLE.out] at h
                    exact h))
                  have HB := hid_of hS.out.2.2
                  clear hS
                  generalize (2 * posN f j - 2) = i at *
                  go_wp2_with fail
                  go_ret2
                  exact ⟨rfl, HT1.out, HB.out⟩

end Go.Proofs.YtbcnlggkoidmmabGreatDoor

namespace Go.Proofs.YtbcnlggkoidmmabGreatDoor
open Go.RowKit Go.Joins OutMath PackageMath

end Go.Proofs.YtbcnlggkoidmmabGreatDoor

namespace Go.Proofs.YtbcnlggkoidmmabGreatDoor
open Go.RowKit Go.Joins InfMath

theorem order_cells (w : World) : ∀ i, i < 19 → (w.alloc (.cells #[.int .i64 16, .int .i64 17, .int .i64 18, .int .i64 0, .int .i64 8, .int .i64 7, .int .i64 9, .int .i64 6, .int .i64 10, .int .i64 5, .int .i64 11, .int .i64 4, .int .i64 12, .int .i64 3, .int .i64 13, .int .i64 2, .int .i64 14, .int .i64 1, .int .i64 15] 3)).cell? ⟨w.heap.size, i, none⟩ = some (.int .i64 ((orderL.getD i 0 : Nat) : Int)) := by
  intro i hi
  rw [cell_of_block (heap_alloc_new w _) i]
  have key : ∀ i, i < 19 → (#[Value.int .i64 16, .int .i64 17, .int .i64 18, .int .i64 0, .int .i64 8, .int .i64 7, .int .i64 9, .int .i64 6, .int .i64 10, .int .i64 5, .int .i64 11, .int .i64 4, .int .i64 12, .int .i64 3, .int .i64 13, .int .i64 2, .int .i64 14, .int .i64 1, .int .i64 15] : Array Value)[i]? = some (.int .i64 ((orderL.getD i 0 : Nat) : Int)) := by
    intro i hi
    match i, hi with
    | 0, _ => rfl
    | 1, _ => rfl
    | 2, _ => rfl
    | 3, _ => rfl
    | 4, _ => rfl
    | 5, _ => rfl
    | 6, _ => rfl
    | 7, _ => rfl
    | 8, _ => rfl
    | 9, _ => rfl
    | 10, _ => rfl
    | 11, _ => rfl
    | 12, _ => rfl
    | 13, _ => rfl
    | 14, _ => rfl
    | 15, _ => rfl
    | 16, _ => rfl
    | 17, _ => rfl
    | 18, _ => rfl
    | k + 19, h => exact absurd h (by omega)
  exact key i hi

set_option maxHeartbeats 800000 in
theorem specOrder (w : World) :
    Calls Tryz.prog 32 #[] w fun e w' => e = .returned (.slice (some ⟨w.heap.size, 0, none⟩) 19 19) ∧ w.heap.size < w'.heap.size ∧ Below w.heap.size w w' ∧ ∀ i, i < 19 → w'.cell? ⟨w.heap.size, i, none⟩ = some (.int .i64 ((orderL.getD i 0 : Nat) : Int)) := by
  have HZ := hid_of (order_cells w)
  go_enter Tryz.func32, Tryz.ntmps32
  go_wp2_with fail
  go_ret
  exact ⟨rfl, by simp, bstart _ _, HZ.out⟩

end Go.Proofs.YtbcnlggkoidmmabGreatDoor

namespace Go.Proofs.YtbcnlggkoidmmabGreatDoor
open Go.RowKit Go.Joins TokMath CodeMath RunsMath InfMath TrimMath TokLenMath PartMath BodyMath WovenMath

def whd (nA nB nT : Nat) : List Part := [((nA : Int) - 257, 5, false), ((nB : Int) - 1, 5, false), ((nT : Int) - 4, 4, false)]
/-- The first j lengths of the third code, as they are told. -/
def toldTo (R : List (Int × Int)) (j : Nat) : List Part := (List.range j).map fun i => (toldF R i, 3, false)
theorem toldTo_next (R : List (Int × Int)) (j : Nat) : toldTo R (j + 1) = toldTo R j ++ [(toldF R j, 3, false)] := by
  unfold toldTo
  rw [List.range_succ, List.map_append]
  rfl
theorem toldTo_length (R : List (Int × Int)) (j : Nat) : (toldTo R j).length = j := by simp [toldTo]
theorem runsP_snoc (R Q : List (Int × Int)) (r : Int × Int) : runsP R (Q ++ [r]) = runsP R Q ++ runP R r := by simp [runsP]
theorem runsP_length (R : List (Int × Int)) : ∀ Q : List (Int × Int), (runsP R Q).length = 2 * Q.length
  | [] => rfl
  | r :: Q => by
    show (runP R r ++ runsP R Q).length = _
    rw [List.length_append, runsP_length R Q, List.length_cons]
    show 2 + _ = _
    omega
/-- What the second ring has at hand: the list of parts so far; what was there ahead of it is kept, but the list's own block. -/
def LpQ (e : TypeId) (wQ X : World) (S gv0 : Nat) (v : Value) (P : List Part) : Prop := wQ.grownBy X (some gv0) ∧ X.ownsRow S e 3 v P.length (pcells P) ∧ ∃ g, v.ownBlock = some g ∧ (g = gv0 ∨ wQ.heap.size ≤ g)
theorem LpQ.called {e : TypeId} {wQ X Y : World} {S gv0 : Nat} {v : Value} {P : List Part} (h : LpQ e wQ X S gv0 v P) (hb : Below X.heap.size X Y) : LpQ e wQ Y S gv0 v P := ⟨h.1.trans (⟨hb.os, hb.tape, hb.output, hb.size, fun k hk _ => hb.block k hk⟩ : X.grownBy Y _), row_called h.2.1 hb, h.2.2⟩
theorem LpQ.next {e : TypeId} {wQ X Y : World} {S gv0 g cap n : Nat} {v : Value} {P P' : List Part} (h : LpQ e wQ X S gv0 v P) (hg : X.grownBy Y v.ownBlock) (hr : Y.ownsRow S e 3 (.slice (some ⟨g, 0, none⟩) n cap) P'.length (pcells P')) (hat : v.ownBlock = some g ∨ X.heap.size ≤ g) : LpQ e wQ Y S gv0 (.slice (some ⟨g, 0, none⟩) n cap) P' := by
  obtain ⟨h1, h2, g0, h3, h4⟩ := h
  have hs := h1.size
  refine ⟨⟨hg.os.trans h1.os, hg.tape.trans h1.tape, hg.output.trans h1.output, Nat.le_trans h1.size hg.size, fun k hk hne => ?_⟩, hr, g, rfl, ?_⟩
  · refine (hg.block k (Nat.lt_of_lt_of_le hk hs) ?_).trans (h1.block k hk hne)
    rw [h3]
    intro eq
    have eq := Option.some.inj eq
    rcases h4 with q | q
    · exact hne (by rw [eq, q])
    · omega
  · rcases hat with q | q
    · rw [h3] at q
      have eq := Option.some.inj q
      rw [← eq]
      exact h4
    · exact .inr (Nat.le_trans hs q)

theorem row_mono {w : World} {e : TypeId} {S S' m n : Nat} {v : Value} {L : List Value} (h : w.ownsRow S e m v n L) (hS : S' ≤ S) : w.ownsRow S' e m v n L := by
  refine ⟨h.1, ?_⟩
  rcases h.2 with h | ⟨g, cap, cur, rfl, h1, h3⟩
  · exact .inl h
  · exact .inr ⟨g, cap, cur, rfl, Nat.le_trans hS h1, h3⟩
theorem if_wanted {c A E : Prop} [Decidable c] (hc : c) (h : A) : if c then A else E := by rw [if_pos hc]; exact h
theorem wanted_none {o : Oper} {y : Nat → Option Bool} (h : o.guard = none) : Region.wanted o y = true := by simp [Region.wanted, h]
/-- 'append' of parts, as one operation of a region that draws. -/
theorem wp_parts {e t : TypeId} (ht : Tryz.prog.underlying t = some (.slice e)) (hinf : (Tryz.prog.info? e).map (fun i => (i.zero, i.size, i.bytes)) = some (some (.agg #[.int .i64 0, .int .i64 0, .bool false]), 3, 24)) {w : World} {o : Oper} {a : Act} {K : Act → World → Prop} {Q : Exit → Act → World → Prop} (hgd : o.guard = none) (s x : Operand)
    (ho : o.op = .call { callee := .builtin .append, args := #[s, x], argTypes := #[t, t] }) (S : Nat) (v : Value) (xs ys : List Part) (hs : a.eval s = v) (h : w.ownsRow S e 3 v xs.length (pcells xs)) (ad : Addr) (m c : Nat) (hx : a.eval x = .slice (some ad) m c) (hm : ys.length = m) (hm0 : 0 < m)
    (hc : ∀ j u, (pcells ys)[j]? = some u → w.cell? (ad.add j) = some u) (h63 : xs.length + ys.length ≤ 1000000) (hS : S ≤ w.heap.size) (N : Nat) (hN : (xs ++ ys).length = N)
    (hK : ∀ g cap w', w'.ownsRow S e 3 (.slice (some ⟨g, 0, none⟩) N cap) N (pcells (xs ++ ys)) → w.grownBy w' v.ownBlock → (v.ownBlock = some g ∨ g = w.heap.size) → g < w'.heap.size → K (a.put o.dst (.slice (some ⟨g, 0, none⟩) N cap)) w') : Oper.wp Tryz.prog o a w K Q := by
  have h1 := step_parts (ops := #[]) (E := True) (Q := Q) ht hinf w hgd s x ho S v xs ys hs h ad m c hx hm hm0 hc h63 hS w.heap.size rfl N hN hK
  rwa [if_pos (wanted_none hgd)] at h1
/-- What the first ring has at hand. -/
def Lp1 (e : TypeId) (wK X : World) (P : List Part) (v : Value) : Prop := Below wK.heap.size wK X ∧ X.ownsRow wK.heap.size e 3 v P.length (pcells P)
end Go.Proofs.YtbcnlggkoidmmabGreatDoor
