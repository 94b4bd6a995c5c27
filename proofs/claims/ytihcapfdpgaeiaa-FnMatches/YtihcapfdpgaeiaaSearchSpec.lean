/-
  The walks of the document's model of the search for repeats.
-/
import Derived.Test.YtihcapfdpgaeiaaRows
import Derived.Test.YtihcapfdpgaeiaaBase
import Derived.Test.YtihcapfdpgaeiaaInWalks
import Derived.Test.YtihcapfdpgaeiaaSearchMath
import Derived.Test.YtihcapfdpgaeiaaStepMath
import Derived.Test.YtihcapfdpgaeiaaStepLib
import Derived.Test.YtihcapfdpgaeiaaRetLib
import Derived.Test.YtihcapfdpgaeiaaTextLib
import Derived.WalkKit
import Derived.ProofKit
import Derived.WalkLawsBesides
import Derived.RegionTactic
import Derived.Deep.QuietTactic
import Derived.BigQuiet
import Derived.Below
import Derived.Deep.LoopGhost
import Derived.Lib.SmallJoins
namespace Go.Proofs.Ytihcapfdpgaeiaa
open Go.RowKit Go.Joins TokMath SearchMath

set_option maxHeartbeats 1600000 in
theorem specThree (s : ByteArray) (a b : Nat) (w : World) (hab : a ≤ b) (hb : b < s.size) (hs : s.size ≤ 2600) :
    Calls Try.prog 42 #[.string s, .int .i64 (a : Int), .int .i64 (b : Int)] w fun e w' => e = .returned (.bool (decide (Three (txt s) s.size a b))) ∧ Below w.heap.size w w' := by
  go_enter Try.func42, Try.ntmps42
  go_wp2_with fail
  go_loopw [7] (fun i w' => ∃ (j : Nat), j ≤ 3 ∧ i = .int .i64 j ∧ Hid (Below w.heap.size w w' ∧ ∀ q, q < j → b + q < s.size ∧ txt s (a + q) = txt s (b + q))) (fun i _ => 3 - (intOf i).toNat)
  case atStart => exact ⟨0, Nat.zero_le _, rfl, Below.refl _ _, fun q hq => by omega⟩
  case round =>
    obtain ⟨j, hj, rfl, hS⟩ := hrel
    by_cases hlt : j < 3
    · by_cases hin : b + j < s.size
      · have d1 : decide ((s.size : Int) ≤ (b : Int) + (j : Int)) = false := decide_eq_false (by omega)
        have d1' : ¬ (s.size : Int) ≤ (b : Int) + (j : Int) := by omega
        have e1 : ((b : Int) + (j : Int)).toNat = b + j := by omega
        have e2 : ((a : Int) + (j : Int)).toNat = a + j := by omega
        have e3 : (a : Int) + (j : Int) < (s.size : Int) := by omega
        have e4 : (0 : Int) ≤ (a : Int) + (j : Int) := by omega
        have e5 : (0 : Int) ≤ (b : Int) + (j : Int) := by omega
        have h1 : a + j < s.size := by omega
        have g1 := txt_get s (a + j) h1
        have g2 := txt_get s (b + j) hin
        by_cases hsame : txt s (a + j) = txt s (b + j)
        · have d2 : (((s[a + j]'h1).toNat : Int) != ((s[b + j]'hin).toNat : Int)) = false := by
            rw [g1, g2, hsame]
            simp
          have HN : Hid (∀ q, q < j + 1 → b + q < s.size ∧ txt s (a + q) = txt s (b + q)) := fun q hq => by
            by_cases e : q = j
            · subst e
              exact ⟨hin, hsame⟩
            · exact hS.out.2 q (by omega)
          clear hsame g1 g2
          go_wp2_with fail
          go_quiet (fail)
          go_wp2_with fail
          go_roundw
          case rel => exact ⟨j + 1, by omega, by go_num, bdraws hS.out.1 _, HN.out⟩
          case measure => simp [intOf]; omega
        · have d2 : (((s[a + j]'h1).toNat : Int) != ((s[b + j]'hin).toNat : Int)) = true := by
            rw [g1, g2]
            simp
            omega
          have HN : Hid (decide (Three (txt s) s.size a b) = false) := by
            refine decide_eq_false (fun q => hsame ?_)
            match j, hlt with
            | 0, _ => exact q.2.1
            | 1, _ => exact q.2.2.1
            | 2, _ => exact q.2.2.2
          clear hsame g1 g2
          go_wp2_with fail
          go_quiet (fail)
          go_wp2_with fail
          go_ret
          rw [HN.out]
          exact ⟨rfl, bdraws hS.out.1 _⟩
      · have d1 : decide ((s.size : Int) ≤ (b : Int) + (j : Int)) = true := decide_eq_true (by omega)
        have d1' : (s.size : Int) ≤ (b : Int) + (j : Int) := by omega
        have HN : Hid (decide (Three (txt s) s.size a b) = false) := decide_eq_false (fun q => by have := q.1; omega)
        go_wp2_with fail
        go_quiet (fail)
        go_wp2_with fail
        go_ret
        rw [HN.out]
        exact ⟨rfl, bdraws hS.out.1 _⟩
    · obtain rfl : j = 3 := by omega
      have HN : Hid (decide (Three (txt s) s.size a b) = true) := decide_eq_true ⟨(hS.out.2 2 (by omega)).1, (hS.out.2 0 (by omega)).2, (hS.out.2 1 (by omega)).2, (hS.out.2 2 (by omega)).2⟩
      go_wp2_with fail
      go_ret
      rw [HN.out]
      exact ⟨rfl, hS.out.1⟩

theorem places_yes {f : Nat → Nat} {N at' k : Nat} (h : Three f N k at') : places f N at' (k + 1) = k :: places f N at' k := by
  show (if Three f N k at' then k :: places f N at' k else places f N at' k) = _
  rw [if_pos h]
theorem places_no {f : Nat → Nat} {N at' k : Nat} (h : ¬ Three f N k at') : places f N at' (k + 1) = places f N at' k := by
  show (if Three f N k at' then k :: places f N at' k else places f N at' k) = _
  rw [if_neg h]
theorem pick_take_zero {f : Nat → Nat} {N at' : Nat} (l : List Nat) (b d : Nat) : pick f N at' (l.take 0) b d = (b, d) := by
  rw [List.take_zero]
  rfl

set_option maxHeartbeats 3200000 in
theorem specBest_in (s : ByteArray) (t chain : Nat) (w : World) (ht : t < s.size) (hs : s.size ≤ 2600) (hc1 : 1 ≤ chain) (hc2 : chain ≤ 64) :
    Calls Try.prog 18 #[.string s, .int .i64 (t : Int), .int .i64 (chain : Int)] w fun e w' => e = .returned (.tuple #[.int .i64 ((bestM (txt s) s.size t chain).1 : Nat), .int .i64 ((bestM (txt s) s.size t chain).2 : Nat)]) ∧ Below w.heap.size w w' := by
  obtain ⟨P, hP⟩ : ∃ P, P = bestM (txt s) s.size t chain := ⟨_, rfl⟩
  rw [← hP]
  have HP := hid_of hP
  clear hP
  have d0 : decide ((2600 : Int) < (s.size : Int)) = false := decide_eq_false (by omega)
  have d0' : decide (2600 < s.size) = false := decide_eq_false (by omega)
  go_enter Try.func18, Try.ntmps18
  go_wp2_with fail
  refine (in_yes _ _ _ _ (by omega) (by omega)).mono ?_
  rintro e w1 ⟨rfl, rfl⟩
  go_wp2_with fail
  refine (in_yes _ _ _ _ (by omega) (by omega)).mono ?_
  rintro e w2 ⟨rfl, rfl⟩
  go_wp2_with fail
  go_loopg [8, 9, 10, 11] (t + 1) (fun gk x y z k w' => ∃ (K q b d : Nat), K ≤ gk ∧ K ≤ t ∧ q ≤ chain ∧ k = .int .i64 ((K : Int) - 1) ∧ z = .int .i64 (q : Int) ∧ x = .int .i64 (b : Int) ∧ y = .int .i64 (d : Int) ∧ b ≤ 258 ∧ d ≤ t ∧ Hid (Below w2.heap.size w2 w' ∧ pick (txt s) s.size t ((places (txt s) s.size t K).take (chain - q)) b d = P))
  case atStart => exact ⟨t, 0, 0, 0, by omega, Nat.le_refl _, by omega, rfl, rfl, rfl, rfl, by omega, by omega, Below.refl _ _, by rw [HP.out]; rfl⟩
  case round =>
    obtain ⟨K, q, b, d, hKg, hK, hq, rfl, rfl, rfl, rfl, hb, hd, hS⟩ := hrel
    cases K with
    | zero =>
      have HZ : Hid (Below w2.heap.size w2 wr ∧ (b, d) = P) := by
        refine ⟨hS.out.1, ?_⟩
        rw [← hS.out.2]
        show _ = pick (txt s) s.size t (List.take (chain - q) []) b d
        rw [List.take_nil]
        rfl
      rw [show (((0 : Nat) : Int) - 1) = -1 from rfl]
      go_wp2_with fail
      go_ret2
      rw [← HZ.out.2]
      exact ⟨rfl, HZ.out.1⟩
    | succ k0 =>
      rw [show (((k0 + 1 : Nat) : Int) - 1) = (k0 : Int) by omega]
      by_cases hqc : q < chain
      · have dq : decide ((q : Int) < (chain : Int)) = true := decide_eq_true (by omega)
        have hth := specThree s k0 t wr (by omega) ht hs
        by_cases hT : Three (txt s) s.size k0 t
        · rw [decide_eq_true hT] at hth
          have HT := hid_of hT
          clear hT
          go_wp2_with fail
          refine hth.mono ?_
          rintro e w3 ⟨rfl, hB3⟩
          clear hth
          have HB3 := hid_of (bnext hS.out.1 hB3)
          clear hB3
          go_wp2_with fail
          go_loopg [12] 259 (fun gk v w' => ∃ n : Nat, n ≤ 258 ∧ 258 - n ≤ gk ∧ v = .int .i64 (n : Int) ∧ Hid (Below w2.heap.size w2 w' ∧ ∀ i, i < n → t + i < s.size ∧ txt s (k0 + i) = txt s (t + i)))
          case atStart => exact ⟨0, by omega, by omega, rfl, HB3.out, fun i hi => by omega⟩
          case round =>
            clear HB3
            obtain ⟨n, hn, hgn, rfl, hN⟩ := hrel
            by_cases hn8 : n < 258
            · have dn : decide ((n : Int) < 258) = true := decide_eq_true (by omega)
              have dn' : decide (n < 258) = true := decide_eq_true hn8
              have k1 : ((t : Int) + (n : Int)).toNat = t + n := by omega
              have k2 : ((k0 : Int) + (n : Int)).toNat = k0 + n := by omega
              have k4 : (0 : Int) ≤ (k0 : Int) + (n : Int) := by omega
              have k5 : (0 : Int) ≤ (t : Int) + (n : Int) := by omega
              by_cases hin : t + n < s.size
              · have di : decide ((t : Int) + (n : Int) < (s.size : Int)) = true := decide_eq_true (by omega)
                have di' : (t : Int) + (n : Int) < (s.size : Int) := by omega
                have k3 : (k0 : Int) + (n : Int) < (s.size : Int) := by omega
                have h1 : k0 + n < s.size := by omega
                have g1 := txt_get s (k0 + n) h1
                have g2 := txt_get s (t + n) hin
                by_cases hsame : txt s (k0 + n) = txt s (t + n)
                · have d2 : (((s[k0 + n]'h1).toNat : Int) == ((s[t + n]'hin).toNat : Int)) = true := by
                    rw [g1, g2, hsame]
                    simp
                  have HN : Hid (∀ i, i < n + 1 → t + i < s.size ∧ txt s (k0 + i) = txt s (t + i)) := fun i hi => by
                    by_cases e : i = n
                    · subst e
                      exact ⟨hin, hsame⟩
                    · exact hN.out.2 i (by omega)
                  clear hsame g1 g2
                  go_wp2_with fail
                  go_quiet (fail)
                  go_wp2_with fail
                  go_roundg (258 - (n + 1))
                  case measure => omega
                  case rel => exact ⟨n + 1, by omega, Nat.le_refl _, by go_num, bdraws hN.out.1 _, HN.out⟩
                · have d2 : (((s[k0 + n]'h1).toNat : Int) == ((s[t + n]'hin).toNat : Int)) = false := by
                    rw [g1, g2]
                    simp
                    omega
                  have HC : Hid (common (txt s) s.size k0 t 258 = n) := common_eq hn hN.out.2 (.inr (fun z => hsame z.2))
                  clear hsame g1 g2
                  go_wp2_with fail
                  go_quiet (fail)
                  have HBW := hid_of (bdraws hN.out.1 nq)
                  generalize wr.drewN nq = W at HBW
                  have HPK : Hid (pick (txt s) s.size t ((places (txt s) s.size t (k0 + 1)).take (chain - q)) b d = pick (txt s) s.size t (k0 :: (places (txt s) s.size t k0).take (chain - (q + 1))) b d) := by
                    show _ = _
                    rw [places_yes HT.out, show chain - q = chain - (q + 1) + 1 by omega, List.take_succ_cons]
                  by_cases hbn : b < n
                  · have dbn : decide ((b : Int) < (n : Int)) = true := decide_eq_true (by omega)
                    have dbn' : decide (b < n) = true := decide_eq_true hbn
                    have HX : Hid (Below w2.heap.size w2 W ∧ pick (txt s) s.size t ((places (txt s) s.size t k0).take (chain - (q + 1))) n (t - k0) = P) := by
                      refine ⟨HBW.out, ?_⟩
                      rw [← hS.out.2, HPK.out]
                      show _ = (if b < common (txt s) s.size k0 t 258 then _ else _)
                      rw [HC.out, if_pos hbn]
                    clear HPK HC HBW
                    go_wp2_with fail
                    go_roundg k0
                    case measure => omega
                    case rel => exact ⟨k0, q + 1, n, t - k0, Nat.le_refl _, by omega, by omega, rfl, by go_num, rfl, by rw [show ((t - k0 : Nat) : Int) = (t : Int) - (k0 : Int) by omega], by omega, by omega, HX⟩
                  · have dbn : decide ((b : Int) < (n : Int)) = false := decide_eq_false (by omega)
                    have dbn' : decide (b < n) = false := decide_eq_false hbn
                    have HX : Hid (Below w2.heap.size w2 W ∧ pick (txt s) s.size t ((places (txt s) s.size t k0).take (chain - (q + 1))) b d = P) := by
                      refine ⟨HBW.out, ?_⟩
                      rw [← hS.out.2, HPK.out]
                      show _ = (if b < common (txt s) s.size k0 t 258 then _ else _)
                      rw [HC.out, if_neg hbn]
                    clear HPK HC HBW
                    go_wp2_with fail
                    go_roundg k0
                    case measure => omega
                    case rel => exact ⟨k0, q + 1, b, d, Nat.le_refl _, by omega, by omega, rfl, by go_num, rfl, rfl, by omega, by omega, HX⟩
              · have di : decide ((t : Int) + (n : Int) < (s.size : Int)) = false := decide_eq_false (by omega)
                have di' : ¬ (t : Int) + (n : Int) < (s.size : Int) := by omega
                have HC : Hid (common (txt s) s.size k0 t 258 = n) := common_eq hn hN.out.2 (.inr (fun z => hin z.1))
                go_wp2_with fail
                go_quiet (fail)
                have HBW := hid_of (bdraws hN.out.1 nq)
                generalize wr.drewN nq = W at HBW
                have HPK : Hid (pick (txt s) s.size t ((places (txt s) s.size t (k0 + 1)).take (chain - q)) b d = pick (txt s) s.size t (k0 :: (places (txt s) s.size t k0).take (chain - (q + 1))) b d) := by
                  show _ = _
                  rw [places_yes HT.out, show chain - q = chain - (q + 1) + 1 by omega, List.take_succ_cons]
                by_cases hbn : b < n
                · have dbn : decide ((b : Int) < (n : Int)) = true := decide_eq_true (by omega)
                  have dbn' : decide (b < n) = true := decide_eq_true hbn
                  have HX : Hid (Below w2.heap.size w2 W ∧ pick (txt s) s.size t ((places (txt s) s.size t k0).take (chain - (q + 1))) n (t - k0) = P) := by
                    refine ⟨HBW.out, ?_⟩
                    rw [← hS.out.2, HPK.out]
                    show _ = (if b < common (txt s) s.size k0 t 258 then _ else _)
                    rw [HC.out, if_pos hbn]
                  clear HPK HC HBW
                  go_wp2_with fail
                  go_roundg k0
                  case measure => omega
                  case rel => exact ⟨k0, q + 1, n, t - k0, Nat.le_refl _, by omega, by omega, rfl, by go_num, rfl, by rw [show ((t - k0 : Nat) : Int) = (t : Int) - (k0 : Int) by omega], by omega, by omega, HX⟩
                · have dbn : decide ((b : Int) < (n : Int)) = false := decide_eq_false (by omega)
                  have dbn' : decide (b < n) = false := decide_eq_false hbn
                  have HX : Hid (Below w2.heap.size w2 W ∧ pick (txt s) s.size t ((places (txt s) s.size t k0).take (chain - (q + 1))) b d = P) := by
                    refine ⟨HBW.out, ?_⟩
                    rw [← hS.out.2, HPK.out]
                    show _ = (if b < common (txt s) s.size k0 t 258 then _ else _)
                    rw [HC.out, if_neg hbn]
                  clear HPK HC HBW
                  go_wp2_with fail
                  go_roundg k0
                  case measure => omega
                  case rel => exact ⟨k0, q + 1, b, d, Nat.le_refl _, by omega, by omega, rfl, by go_num, rfl, rfl, by omega, by omega, HX⟩
            · obtain rfl : n = 258 := by omega
              have HC : Hid (common (txt s) s.size k0 t 258 = 258) := common_eq hn hN.out.2 (.inl rfl)
              go_wp2_with fail
              go_quiet (fail)
              have HBW := hid_of (bdraws hN.out.1 nq)
              generalize wr.drewN nq = W at HBW
              have HPK : Hid (pick (txt s) s.size t ((places (txt s) s.size t (k0 + 1)).take (chain - q)) b d = pick (txt s) s.size t (k0 :: (places (txt s) s.size t k0).take (chain - (q + 1))) b d) := by
                show _ = _
                rw [places_yes HT.out, show chain - q = chain - (q + 1) + 1 by omega, List.take_succ_cons]
              by_cases hbn : b < 258
              · have dbn : decide ((b : Int) < (258 : Int)) = true := decide_eq_true (by omega)
                have dbn' : decide (b < 258) = true := decide_eq_true hbn
                have HX : Hid (Below w2.heap.size w2 W ∧ pick (txt s) s.size t ((places (txt s) s.size t k0).take (chain - (q + 1))) 258 (t - k0) = P) := by
                  refine ⟨HBW.out, ?_⟩
                  rw [← hS.out.2, HPK.out]
                  show _ = (if b < common (txt s) s.size k0 t 258 then _ else _)
                  rw [HC.out, if_pos hbn]
                clear HPK HC HBW
                go_wp2_with fail
                go_roundg k0
                case measure => omega
                case rel => exact ⟨k0, q + 1, 258, t - k0, Nat.le_refl _, by omega, by omega, rfl, by go_num, rfl, by rw [show ((t - k0 : Nat) : Int) = (t : Int) - (k0 : Int) by omega], by omega, by omega, HX⟩
              · have dbn : decide ((b : Int) < (258 : Int)) = false := decide_eq_false (by omega)
                have dbn' : decide (b < 258) = false := decide_eq_false hbn
                have HX : Hid (Below w2.heap.size w2 W ∧ pick (txt s) s.size t ((places (txt s) s.size t k0).take (chain - (q + 1))) b d = P) := by
                  refine ⟨HBW.out, ?_⟩
                  rw [← hS.out.2, HPK.out]
                  show _ = (if b < common (txt s) s.size k0 t 258 then _ else _)
                  rw [HC.out, if_neg hbn]
                clear HPK HC HBW
                go_wp2_with fail
                go_roundg k0
                case measure => omega
                case rel => exact ⟨k0, q + 1, b, d, Nat.le_refl _, by omega, by omega, rfl, by go_num, rfl, rfl, by omega, by omega, HX⟩
        · rw [decide_eq_false hT] at hth
          have HX : Hid (pick (txt s) s.size t ((places (txt s) s.size t k0).take (chain - q)) b d = P) := by
            show _ = _
            rw [← hS.out.2, places_no hT]
          clear hT
          go_wp2_with fail
          refine hth.mono ?_
          rintro e w3 ⟨rfl, hB3⟩
          clear hth
          have HB3 := hid_of (bnext hS.out.1 hB3)
          clear hB3
          go_wp2_with fail
          go_roundg k0
          case measure => omega
          case rel => exact ⟨k0, q, b, d, Nat.le_refl _, by omega, hq, rfl, rfl, rfl, rfl, hb, hd, HB3.out, HX.out⟩
      · obtain rfl : q = chain := by omega
        have dq : decide ((q : Int) < (q : Int)) = false := decide_eq_false (by omega)
        have HZ : Hid (Below w2.heap.size w2 wr ∧ (b, d) = P) := by
          refine ⟨hS.out.1, ?_⟩
          rw [← hS.out.2, Nat.sub_self, pick_take_zero]
        go_wp2_with fail
        go_ret2
        rw [← HZ.out.2]
        exact ⟨rfl, HZ.out.1⟩

end Go.Proofs.Ytihcapfdpgaeiaa
