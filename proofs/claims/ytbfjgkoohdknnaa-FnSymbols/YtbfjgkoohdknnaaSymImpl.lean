/-
  The walks of the program's TakeSymbol.
-/
import Derived.Test.YtbfjgkoohdknnaaRows
import Derived.Test.YtbfjgkoohdknnaaBase
import Derived.Test.YtbfjgkoohdknnaaOutMath
import Derived.Test.YtbfjgkoohdknnaaCodeMath
import Derived.Test.YtbfjgkoohdknnaaTakeMath
import Derived.Test.YtbfjgkoohdknnaaHitMath
import Derived.Test.YtbfjgkoohdknnaaSymMath
import Derived.Test.YtbfjgkoohdknnaaOwnLib
import Derived.Test.YtbfjgkoohdknnaaIntsLib
import Derived.Test.YtbfjgkoohdknnaaReaderCore
import Derived.Test.YtbfjgkoohdknnaaTakeBitImpl
import Derived.Test.YtbfjgkoohdknnaaCodesAns
import Derived.Test.YtbfjgkoohdknnaaSymAns
import Derived.WalkKit
import Derived.ProofKit
import Derived.WalkLawsBesides
import Derived.WalkMore
import Derived.Defers
import Derived.Recover
import Derived.RegionTactic
import Derived.Deep.QuietTactic
import Derived.BigQuiet
import Derived.Lib.SmallJoins
namespace Go.Proofs.Ytbfjgkoohdknnaa
open Go.RowKit Go.Joins OutMath CodeMath TakeMath HitMath

/-- What takeSymbol does: it hands the symbol that comes next back, or gives up. -/
def FoundPost (f : Nat → Int) (n : Nat) (s : ByteArray) (a b : Nat) (w : World) (e : Ending) (w' : World) : Prop :=
  Below b w w' ∧ ((∃ i k : Nat, Hit f n s a i k ∧ e = .returned (.int .i64 (i : Int)) ∧ Rd w' b s ((a + k : Nat) : Int)) ∨
    ((∀ i k, ¬ Hit f n s a i k) ∧ e = .panicked [{ v := .iface 85 (.agg #[]), recovered := false }]))
theorem FoundPost.hit {f : Nat → Int} {n : Nat} {s : ByteArray} {a b : Nat} {w w' : World} {i k : Nat} (h : Hit f n s a i k) (hr : Rd w' b s ((a + k : Nat) : Int)) (hb : Below b w w') : FoundPost f n s a b w (.returned (.int .i64 (i : Int))) w' := ⟨hb, .inl ⟨i, k, h, rfl, hr⟩⟩
theorem FoundPost.miss {f : Nat → Int} {n : Nat} {s : ByteArray} {a b : Nat} {w w' : World} (h : ∀ i k, ¬ Hit f n s a i k) (hb : Below b w w') : FoundPost f n s a b w (.panicked [{ v := .iface 85 (.agg #[]), recovered := false }]) w' := ⟨hb, .inr ⟨h, rfl⟩⟩

set_option maxHeartbeats 1600000 in
theorem takeSymbol_any (a1 a2 : Option Addr) (n c1 c2 : Nat) (f : Nat → Int) (s : ByteArray) (a b : Nat) (W w : World) (h1 : Came W a1 n f) (h2 : Came W a2 n (codeOf f n)) (hG : Coded f n) (hR : Rd w b s (a : Int)) (hW : Below W.heap.size W w) (hWb : W.heap.size ≤ b) (hs : s.size ≤ 12000) (ha : a ≤ 8 * s.size) :
    Calls Try.prog 50 #[.pointer (some ⟨b, 0, none⟩), .slice a1 n c1, .slice a2 n c2] w (FoundPost f n s a b w) := by
  have HF : Hid (Came W a1 n f) := h1
  have HC : Hid (Came W a2 n (codeOf f n)) := h2
  have HG : Hid (Coded f n) := hG
  have HR : Hid (Rd w b s (a : Int)) := hR
  have HW : Hid (Below W.heap.size W w) := hW
  have hn := hG.1
  clear h1 h2 hG hR hW
  go_enter Try.func50, Try.ntmps50
  go_wp2_with fail
  go_step3
  go_wp2_with fail
  go_step3
  go_wp2_with fail
  go_loopw [7, 8, 9] (fun v x z w' => ∃ k : Nat, k ≤ 15 ∧ z = .int .i64 ((k : Int) + 1) ∧ x = .int .i64 (hi s a k) ∧ v = .int .i64 (-1) ∧ a + k ≤ 8 * s.size ∧ Hid (∀ i l, l ≤ k → ¬ Hit f n s a i l) ∧ Hid (Rd w' b s ((a + k : Nat) : Int)) ∧ Hid (Below b w w')) (fun _ _ z _ => 16 - (intOf z).toNat)
  case atStart => exact ⟨0, by omega, rfl, rfl, rfl, by omega, fun i l hl h => by have := h.2.1; omega, HR, Below.refl _ _⟩
  case round =>
    obtain ⟨k, hk, rfl, rfl, rfl, hav, hno, hRd, hB⟩ := hrel
    have hx := hi_lt s a k hk
    by_cases hlt : k < 15
    · by_cases hin : a + k < 8 * s.size
      · have h01 := bit_01 s (a + k)
        have HO : bits .or .i64 (hi s a k * 2) (bit s (a + k)) = hi s a (k + 1) := by rw [Int.mul_comm]; exact or_low _ _ hx.1 (by omega) h01.1 h01.2
        go_wp2_with fail
        refine (takeBit_yes s (a + k) b _ hRd.out hs hin).mono ?_
        rintro e w1 ⟨rfl, hR1, hB1⟩
        have HR1 : Hid (Rd w1 b s ((a + (k + 1) : Nat) : Int)) := hR1
        have HB1 : Hid (Below b w w1) := hB.out.trans hB1
        clear hR1 hB1
        have hy := hi_lt s a (k + 1) (by omega)
        go_wp2_with fail
        go_loopw [7, 22] (fun v z w' => ∃ j : Nat, j ≤ n ∧ z = .int .i64 j ∧ v = .int .i64 (-1) ∧ w' = w1 ∧ Hid (∀ i, i < j → ¬ Hit f n s a i (k + 1))) (fun _ z _ => n - (intOf z).toNat)
        case atStart => exact ⟨0, by omega, rfl, rfl, rfl, fun i hi => absurd hi (Nat.not_lt_zero i)⟩
        case round =>
          obtain ⟨j, hj, rfl, rfl, hw, hnj⟩ := hrel
          obtain rfl : w1 = wr := hw.symm
          clear hw
          have hBW : Hid (Below W.heap.size W w1) := HW.out.trans (HB1.out.mono hWb)
          by_cases hlt2 : j < n
          · rcases HF.out with q | ⟨g, off, rfl, hg, hc⟩
            · omega
            · rcases HC.out with q | ⟨g', off', rfl, hg', hc'⟩
              · omega
              · have k0 : w1.cell? ⟨g, off + j, none⟩ = some (.int .i64 (f j)) := (hBW.out.cell (p := ⟨g, off + j, none⟩) hg).trans (hc j hlt2)
                have k1 : w1.cell? ⟨g', off' + j, none⟩ = some (.int .i64 (codeOf f n j)) := (hBW.out.cell (p := ⟨g', off' + j, none⟩) hg').trans (hc' j hlt2)
                have l0 : g < w1.heap.size := Nat.lt_of_lt_of_le hg hBW.out.size
                have l1 : g' < w1.heap.size := Nat.lt_of_lt_of_le hg' hBW.out.size
                clear hc hc'
                by_cases q1 : f j = (k : Int) + 1
                · have d1 : (f j == (k : Int) + 1) = true := by simpa using q1
                  by_cases q2 : codeOf f n j = hi s a (k + 1)
                  · have d2 : (codeOf f n j == hi s a (k + 1)) = true := by simpa using q2
                    have HH : Hid (Hit f n s a j (k + 1)) := ⟨hlt2, by omega, by rw [q1]; simp, q2, by omega⟩
                    clear q1 q2
                    go_wp2_with fail
                    try rw [Exit.noGoto_ret]
                    go_ret
                    exact FoundPost.hit HH.out HR1.out HB1.out
                  · have d2 : (codeOf f n j == hi s a (k + 1)) = false := by simpa using q2
                    have HN1 : Hid (∀ i, i < j + 1 → ¬ Hit f n s a i (k + 1)) := fun i hi h => by
                      by_cases e : i = j
                      · subst e; exact q2 h.2.2.2.1
                      · exact hnj.out i (by omega) h
                    clear q1 q2
                    go_wp2_with fail
                    go_roundw
                    case rel => exact ⟨j + 1, by omega, by go_num, by first | rfl | trivial, by first | rfl | trivial, HN1⟩
                    case measure => simp [intOf]; omega
                · have d1 : (f j == (k : Int) + 1) = false := by simpa using q1
                  have HN1 : Hid (∀ i, i < j + 1 → ¬ Hit f n s a i (k + 1)) := fun i hi h => by
                    by_cases e : i = j
                    · subst e; exact q1 (by rw [h.2.2.1]; simp)
                    · exact hnj.out i (by omega) h
                  clear q1
                  go_wp2_with fail
                  go_roundw
                  case rel => exact ⟨j + 1, by omega, by go_num, by first | rfl | trivial, by first | rfl | trivial, HN1⟩
                  case measure => simp [intOf]; omega
          · obtain rfl : j = n := by omega
            have HN1 : Hid (∀ i l, l ≤ k + 1 → ¬ Hit f j s a i l) := fun i l hl h => by
              by_cases e : l = k + 1
              · subst e; exact hnj.out i h.1 h
              · exact hno.out i l (by omega) h
            go_wp2_with fail
            go_roundw
            case rel => exact ⟨k + 1, by omega, by go_num, rfl, rfl, by omega, HN1, HR1, HB1⟩
            case measure => simp [intOf]; omega
      · go_wp2_with fail
        refine (takeBit_no s _ b _ hRd.out hs (by omega)).mono ?_
        rintro e w1 ⟨rfl, hB1⟩
        have HN : Hid (∀ i l, ¬ Hit f n s a i l) := fun i l h => by
          by_cases q : l ≤ k
          · exact hno.out i l q h
          · have := h.2.2.2.2; omega
        go_wp2_with fail
        exact ⟨rfl, FoundPost.miss HN.out (hB.out.trans hB1)⟩
    · obtain rfl : k = 15 := by omega
      have HN : Hid (∀ i l, ¬ Hit f n s a i l) := fun i l h => by
        by_cases q : l ≤ 15
        · exact hno.out i l q h
        · have h3 := h.2.2.1
          have h4 := HG.out.2.1 i h.1
          omega
      go_wp2_with fail
      exact ⟨rfl, FoundPost.miss HN.out hB.out⟩

theorem catchSym_panic (u : TypeId) (pv : Value) (older : List PanicEntry) (w : World) :
    CallsD Try.prog 49 #[] (.panicking ({ v := .iface u pv, recovered := false } :: older)) w fun e u' w' =>
      e = .returned (.tuple #[]) ∧ u' = .panicking ({ v := .iface u pv, recovered := true } :: older) ∧ w' = w := by
  refine callsD_of_wpS Try.func49 rfl fun c₀ cs hu => ?_
  apply wpS_region
  simp [wpOpsS, go_sem, recoverD, hu, Try.ntmps49, bodyPostS, results, Try.results49]

theorem catchSym_idle (w : World) :
    CallsD Try.prog 49 #[] .returning w fun e u' w' => e = .returned (.tuple #[]) ∧ u' = .returning ∧ w' = w := by
  refine callsD_of_wpS Try.func49 rfl fun c₀ cs hu => ?_
  apply wpS_region
  simp [wpOpsS, go_sem, recoverD, hu, Try.ntmps49]
  cases c₀
  simp_all [bodyPostS, results, Try.results49]

set_option maxHeartbeats 800000 in
theorem implSym_bad (hA : CodesAnswer) (a1 : Option Addr) (n c1 : Nat) (f : Nat → Int) (s : ByteArray) (a : Int) (w : World) (h1 : Came w a1 n f) (hn : n ≤ 1048576) (hf : ∀ i, i < n → (Lit.int .i64 (f i)).wf = true) (hB : ¬ Coded f n) :
    Calls Try.prog 22 #[.slice a1 n c1, .agg #[.string s, .int .i64 a]] w fun e w' => e = .returned (.tuple #[.int .i64 0, .agg #[.string ⟨#[]⟩, .int .i64 0], .bool false]) ∧ Below w.heap.size w w' := by
  have HC : Hid (Came w a1 n f) := h1
  have HB : Hid (¬ Coded f n) := hB
  have HF : Hid (∀ i, i < n → (Lit.int .i64 (f i)).wf = true) := hf
  have HA : Hid CodesAnswer := hA
  clear h1 hB hf hA
  go_enter_defers Try.func22, Try.ntmps22
  go_wp2_with fail
  refine ((HA.out a1 n c1 f _ (HC.out.called (bal (bstart _ _) _)) hn HF.out).2 HB.out).mono ?_
  rintro e w1 ⟨a', cap', rfl, hb1⟩
  obtain ⟨k1, f1⟩ := bcell hb1
  have hz : w.heap.size + 1 < w1.heap.size := by have := hb1.size; simp at this; omega
  have hB : Below w.heap.size w w1 := bnext (bal (bstart _ _) _) hb1
  go_wp2_with fail
  simp [bodyPostD, Leaves, results, Try.results22, go_sem, k1]
  exact (hB.setCell (by simp) _).setCell (by simp) _

set_option maxHeartbeats 800000 in
theorem implSym_good (hA : CodesAnswer) (a1 : Option Addr) (n c1 : Nat) (f : Nat → Int) (s : ByteArray) (a : Nat) (w : World) (h1 : Came w a1 n f) (hn : n ≤ 1048576) (hf : ∀ i, i < n → (Lit.int .i64 (f i)).wf = true) (hG : Coded f n) (hs : s.size ≤ 12000) (ha : a ≤ 8 * s.size) (post : Ending → World → Prop)
    (hit : ∀ i k w', Hit f n s a i k → Below w.heap.size w w' → post (.returned (.tuple #[.int .i64 (i : Nat), .agg #[.string s, .int .i64 ((a + k : Nat) : Int)], .bool true])) w') (miss : ∀ w', (∀ i k, ¬ Hit f n s a i k) → Below w.heap.size w w' → post (.returned (.tuple #[.int .i64 0, .agg #[.string ⟨#[]⟩, .int .i64 0], .bool false])) w') :
    Calls Try.prog 22 #[.slice a1 n c1, .agg #[.string s, .int .i64 (a : Int)]] w post := by
  have HC : Hid (Came w a1 n f) := h1
  have HG : Hid (Coded f n) := hG
  have HF : Hid (∀ i, i < n → (Lit.int .i64 (f i)).wf = true) := hf
  have HA : Hid CodesAnswer := hA
  have HH := hid_of hit
  have HM := hid_of miss
  clear h1 hG hf hA hit miss
  go_enter_defers Try.func22, Try.ntmps22
  go_wp2_with fail
  refine ((HA.out a1 n c1 f _ (HC.out.called (bal (bstart _ _) _)) hn HF.out).1 HG.out).mono ?_
  rintro e w1 ⟨a', cap', rfl, hS1, hb1⟩
  have HS1 : Hid (Came w1 a' n (codeOf f n)) := hS1.came
  obtain ⟨k1, f1⟩ := bcell hb1
  have hz : w.heap.size + 1 < w1.heap.size := by have := hb1.size; simp at this; omega
  have HB1 : Hid (Below w.heap.size w w1) := bnext (bal (bstart _ _) _) hb1
  clear hS1
  go_wp2_with fail
  refine (newReader_at s a _ hs (by omega) (by omega)).mono ?_
  rintro e w2 ⟨b, rfl, hlb, hR, hb2⟩
  have HB2 : Hid (Below w1.heap.size w1 w2) := hb2
  go_wp2_with fail
  refine (takeSymbol_any a1 a' n c1 cap' f s a b w1 w2 (HC.out.called HB1.out) HS1.out HG.out hR HB2.out hlb hs ha).mono ?_
  rintro e w3 ⟨hb3, (⟨i, k, hH, rfl, hR3⟩ | ⟨hN, rfl⟩)⟩
  · have HI : Hid (Hit f n s a i k) := hH
    have hb13 := bnext hb1 (hb2.trans (hb3.mono hlb))
    clear hH hb3 hb2 hb1 k1 f1
    go_wp2_with fail
    refine (readerBits s _ b _ hR3).mono ?_
    rintro e w4 ⟨rfl, hb4⟩
    have hb14 := bnext hb13 hb4
    obtain ⟨k1, f1⟩ := bcell hb14
    have hz4 : w.heap.size + 1 < w4.heap.size := by have := hb14.size; simp at this; omega
    have hB : Below w.heap.size w w4 := bnext (bal (bstart _ _) _) hb14
    go_wp2_with fail
    refine leaves_cons (f := 49) (args := #[]) (by simp) (by simp [go_sem]) ?_
    refine (catchSym_idle _).mono ?_
    rintro e u' w'' ⟨rfl, rfl, rfl⟩
    simp [Leaves, settle, results, Try.results22, go_sem, k1]
    have q := HH.out i k _ HI.out ((hB.setCell (p := ⟨w.heap.size + 1, 0, none⟩) (by simp) (.string s)).setCell (p := ⟨w.heap.size + 1, 1, none⟩) (by simp) (.int .i64 ((a + k : Nat) : Int)))
    simpa using q
  · have HI : Hid (∀ i k, ¬ Hit f n s a i k) := hN
    have hb13 := bnext hb1 (hb2.trans (hb3.mono hlb))
    clear hN hb3 hb2 hb1 k1 f1
    obtain ⟨k1, f1⟩ := bcell hb13
    have hz3 : w.heap.size + 1 < w3.heap.size := by have := hb13.size; simp at this; omega
    have hB : Below w.heap.size w w3 := bnext (bal (bstart _ _) _) hb13
    go_wp2_with fail
    refine leaves_cons (f := 49) (args := #[]) (by simp) (by simp [go_sem]) ?_
    refine (catchSym_panic _ _ [] _).mono ?_
    rintro e u' w'' ⟨rfl, rfl, rfl⟩
    simp [Leaves, settle, results, Try.results22, go_sem, k1]
    exact HM.out _ HI.out hB

set_option maxHeartbeats 800000 in
theorem implSym_out (hA : CodesAnswer) (a1 : Option Addr) (n c1 : Nat) (f : Nat → Int) (s : ByteArray) (a : Int) (w : World) (h1 : Came w a1 n f) (hn : n ≤ 1048576) (hf : ∀ i, i < n → (Lit.int .i64 (f i)).wf = true) (hG : Coded f n) (hs : s.size ≤ maxLen) (h : ¬ (s.size ≤ 12000 ∧ 0 ≤ a ∧ a ≤ 8 * s.size)) :
    Calls Try.prog 22 #[.slice a1 n c1, .agg #[.string s, .int .i64 a]] w fun e w' => e = .returned (.tuple #[.int .i64 0, .agg #[.string ⟨#[]⟩, .int .i64 0], .bool false]) ∧ Below w.heap.size w w' := by
  have HC : Hid (Came w a1 n f) := h1
  have HG : Hid (Coded f n) := hG
  have HF : Hid (∀ i, i < n → (Lit.int .i64 (f i)).wf = true) := hf
  have HA : Hid CodesAnswer := hA
  have H : Hid (¬ (s.size ≤ 12000 ∧ 0 ≤ a ∧ a ≤ 8 * s.size)) := h
  clear h1 hG hf hA h
  go_enter_defers Try.func22, Try.ntmps22
  go_wp2_with fail
  refine ((HA.out a1 n c1 f _ (HC.out.called (bal (bstart _ _) _)) hn HF.out).1 HG.out).mono ?_
  rintro e w1 ⟨a', cap', rfl, _, hb1⟩
  obtain ⟨k1, f1⟩ := bcell hb1
  have hz : w.heap.size + 1 < w1.heap.size := by have := hb1.size; simp at this; omega
  go_wp2_with fail
  refine (newReader_no s a _ hs H.out).mono ?_
  rintro e w2 ⟨rfl, hb2⟩
  have hb12 := bnext hb1 hb2
  clear k1 f1
  obtain ⟨k1, f1⟩ := bcell hb12
  have hz2 : w.heap.size + 1 < w2.heap.size := by have := hb12.size; simp at this; omega
  have hB : Below w.heap.size w w2 := bnext (bal (bstart _ _) _) hb12
  go_wp2_with fail
  refine leaves_cons (f := 49) (args := #[]) (by simp) (by simp [go_sem]) ?_
  refine (catchSym_panic _ _ [] _).mono ?_
  rintro e u' w'' ⟨rfl, rfl, rfl⟩
  simp [Leaves, settle, results, Try.results22, go_sem, k1, hB]

theorem sym_answer_of (hA : CodesAnswer) : SymAnswer := by
  intro a1 n c1 f s a w hC hn hf hs ha1 ha2
  refine ⟨fun i k hG hN => ?_, fun hno => ?_⟩
  · obtain ⟨h12, h0, hH⟩ := hN
    obtain ⟨b, rfl⟩ := Int.eq_ofNat_of_zero_le h0
    have hle : b ≤ 8 * s.size := by have := hH.2.2.2.2; simp at this; omega
    refine implSym_good hA a1 n c1 f s b w hC hn hf hG h12 hle _ (fun i' k' w' hH' hb => ?_) (fun w' hM _ => absurd hH (hM i k))
    obtain ⟨rfl, rfl⟩ := hit_one hH' hH
    exact ⟨by simp, hb⟩
  · by_cases hG : Coded f n
    · by_cases hr : s.size ≤ 12000 ∧ 0 ≤ a ∧ a ≤ 8 * s.size
      · obtain ⟨h12, h0, hle⟩ := hr
        obtain ⟨b, rfl⟩ := Int.eq_ofNat_of_zero_le h0
        exact implSym_good hA a1 n c1 f s b w hC hn hf hG h12 (by omega) _ (fun i' k' w' hH' hb => absurd ⟨hG, i', k', h12, h0, hH'⟩ hno) (fun w' _ hb => ⟨rfl, hb⟩)
      · exact implSym_out hA a1 n c1 f s a w hC hn hf hG (by unfold maxLen; omega) hr
    · exact implSym_bad hA a1 n c1 f s a w hC hn hf hG

end Go.Proofs.Ytbfjgkoohdknnaa
