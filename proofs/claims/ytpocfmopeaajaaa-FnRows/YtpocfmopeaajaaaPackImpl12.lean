/-
  The walk of the program's PackRow.
-/
import Derived.Test.YtpocfmopeaajaaaRows
import Derived.Test.YtpocfmopeaajaaaBase
import Derived.Test.YtpocfmopeaajaaaOwnLib
import Derived.Test.YtpocfmopeaajaaaIntsLib
import Derived.Test.YtpocfmopeaajaaaBytesFn
import Derived.Test.YtpocfmopeaajaaaByteBlk
import Derived.Test.YtpocfmopeaajaaaRastMath
import Derived.Test.YtpocfmopeaajaaaUnpMath
import Derived.Test.YtpocfmopeaajaaaPackMath12
import Derived.Test.YtpocfmopeaajaaaDepthImpl
import Derived.Test.YtpocfmopeaajaaaUnpackImpl
import Derived.Test.YtpocfmopeaajaaaSamImpl
import Derived.WalkKit
import Derived.ProofKit
import Derived.WalkLawsBesides
import Derived.RegionTactic
import Derived.BigRegion
import Derived.Deep.RegionWith
import Derived.Laws.MakeOwn
import Derived.Below
import Derived.OwnWalk
import Derived.Lib.SmallJoins
namespace Go.Proofs.Ytpocfmopeaajaaa
open Go.RowKit Go.Joins OutMath PutMath TakeMath RastMath

/-- What the ring of the program's packInto has at hand: j samples are packed. -/
def PckI (w w' : World) (base g cap : Nat) (f : Nat → Int) (d NB j : Nat) : Prop := ∃ h : Nat → Int, BFn w' base g NB cap h ∧ (∀ i, i < NB → h i = packB f j d i) ∧ But g w w'
theorem pckI_one {w wr : World} {base g cap : Nat} {f : Nat → Int} {d NB j m : Nat} {v : Int} (hS : PckI w wr base g cap f d NB j) (hm : m < NB) (hv : v = packB f (j + 1) d m) (ho : ∀ i, ¬ i = m → packB f (j + 1) d i = packB f j d i) : PckI w (wr.setCell ⟨g, m, none⟩ (.int .u8 v)).drew base g cap f d NB (j + 1) := by
  obtain ⟨h, hO, hh, hB⟩ := hS
  refine ⟨upd h m v, (hO.set m hm v).drew, fun i hi => ?_, (hB.set m _).drew⟩
  unfold upd
  by_cases e : i = m
  · rw [if_pos e, e, hv]
  · rw [if_neg e, ho i e]; exact hh i hi
theorem pckI_two {w wr : World} {base g cap : Nat} {f : Nat → Int} {NB j m : Nat} {v u : Int} (hS : PckI w wr base g cap f 16 NB j) (hm : m + 1 < NB) (hj : m = 2 * j) (h0 : 0 ≤ f j) (h1 : f j < 65536) (hv : v = f j / 256) (hu : u = f j % 256) : PckI w ((wr.setCell ⟨g, m, none⟩ (.int .u8 v)).setCell ⟨g, m + 1, none⟩ (.int .u8 u)) base g cap f 16 NB (j + 1) := by
  obtain ⟨h, hO, hh, hB⟩ := hS
  obtain ⟨p0, p1, p2⟩ := packB_two f j h0 h1
  have hO1 := hO.set m (by omega) v
  refine ⟨upd (upd h m v) (m + 1) u, hO1.set (m + 1) hm u, fun i hi => ?_, (hB.set m _).set (m + 1) _⟩
  unfold upd
  by_cases e : i = m + 1
  · rw [if_pos e, e, hu, hj, p1]
  · rw [if_neg e]
    by_cases e2 : i = m
    · rw [if_pos e2, e2, hv, hj, p0]
    · rw [if_neg e2, p2 i (by omega) (by omega)]; exact hh i hi
/-- Behind packInto: the bytes of the samples stand in the list. -/
def PackIntoPost (f : Nat → Int) (n d NB base G cb : Nat) (w : World) (e : Ending) (w' : World) : Prop := e = .returned (.tuple #[]) ∧ (∃ h, BFn w' base G NB cb h ∧ ∀ i, i < NB → h i = packB f n d i) ∧ But G w w'
set_option maxRecDepth 100000 in
set_option maxHeartbeats 3200000 in
theorem packInto_any (a : Option Addr) (n cap d base G NB cb : Nat) (f h0 : Nat → Int) (w : World) (hC : Came w a n f) (hd : Five (d : Int)) (hn : n ≤ 1048576) (hF : Fit12 f n d) (hNB : NB = (n * d + 7) / 8) (hO : BFn w base G NB cb h0) (hne : ∀ q o, a = some ⟨q, o, none⟩ → n = 0 ∨ q ≠ G) :
    Calls Try.prog 26 #[.slice (some ⟨G, 0, none⟩) NB cb, .slice a n cap, .int .i64 (d : Int)] w (PackIntoPost f n d NB base G cb w) := by
  have h5 := five_range hd
  have hnd : n * d ≤ 1048576 * 16 := Nat.mul_le_mul hn (by omega)
  obtain ⟨q, hq⟩ : ∃ q, q = n * d := ⟨_, rfl⟩
  rw [← hq] at hnd hNB
  have hq1 : q ≤ 8 * NB ∧ 8 * NB ≤ q + 7 := by omega
  have HC := hid_of hC
  have HQ := hid_of hq
  have HNB := hid_of hNB
  have HD := hid_of hd
  have HF := hid_of hF
  have HNE := hid_of hne
  obtain ⟨w1, hcl, hO1, hB1⟩ := clear_fn hO
  have H0 : Hid (PckI w w1 base G cb f d NB 0) := ⟨_, hO1, fun i _ => (packB_none f d i).symm, hB1⟩
  clear hC hq hNB hd hF hne hO hO1 hB1
  go_enter Try.func26, Try.ntmps26
  go_wp2_with fail
  go_loopw [11] (fun i w' => ∃ j : Nat, j ≤ n ∧ i = .int .i64 j ∧ Hid (PckI w w' base G cb f d NB j)) (fun i _ => n - (intOf i).toNat)
  case atStart => exact ⟨0, Nat.zero_le _, rfl, H0⟩
  case round =>
    clear H0 hcl
    obtain ⟨j, hj, rfl, hS⟩ := hrel
    by_cases hlt : j < n
    · obtain ⟨h, hO, hh, hBB⟩ := hS.out
      have hjd : j * d + d ≤ q := by
        have := Nat.mul_le_mul_right d (show j + 1 ≤ n by omega)
        rw [Nat.add_mul, Nat.one_mul] at this
        rw [HQ.out]
        exact this
      rcases HC.out with h0 | ⟨g, off, rfl, hg, hc⟩
      · omega
      have hgG : ¬ g = G := by
        rcases HNE.out g off rfl with h1 | h1
        · omega
        · exact h1
      have c0 : wr.cell? ⟨g, off + j, none⟩ = some (.int .i64 (f j)) := (hBB.cell hg hgG _).trans (hc j hlt)
      have l0 : g < wr.heap.size := Nat.lt_of_lt_of_le hg hBB.size
      have hfj := HF.out j hlt
      have l1 := Own.lt hO
      by_cases h16 : d = 16
      · subst h16
        rw [show p2 16 = 65536 by decide +kernel] at hfj
        obtain ⟨x, hx⟩ : ∃ x, x = 2 * j := ⟨_, rfl⟩
        have e1 : (2 : Int) * (j : Int) = (x : Int) := by omega
        have hxs : x + 1 < NB := by omega
        have xi0 : (x : Int) < (NB : Int) := by omega
        have xi1 : (x : Int) + 1 < (NB : Int) := by omega
        have k0 := hO.cell x (by omega)
        have k1 := hO.cell (x + 1) hxs
        have f0 := hO.free x (by omega)
        have f1 := hO.free (x + 1) hxs
        have HN := hid_of (pckI_two (v := f j / 256) (u := f j % 256) hS.out hxs hx hfj.1 hfj.2 rfl rfl)
        obtain ⟨F, hF⟩ : ∃ F, F = f j := ⟨_, rfl⟩
        rw [← hF] at c0 hfj HN
        have u1 : F / 256 % 256 = F / 256 := by omega
        clear hh hBB hO hc hx hF
        go_wp2_with fail
        go_roundw
        case rel => exact ⟨j + 1, by omega, by go_num, HN⟩
        case measure => simp [intOf]; omega
      · have hpl := five_place HD.out h16 j
        obtain ⟨⟨Q, hy, q0, q1, hnx⟩, hoth⟩ := packB_small f j d hpl hfj.1 hfj.2
        obtain ⟨r, hr⟩ : ∃ r, r = j * d := ⟨_, rfl⟩
        have hri : (j : Int) * (d : Int) = (r : Int) := by rw [hr]; simp
        rw [← hr] at hjd hpl hy q1 hnx hoth
        obtain ⟨sh, hsh⟩ : ∃ sh, sh = 8 - d - r % 8 := ⟨_, rfl⟩
        have hsf := fun W => shift_any j d r sh W hri (by omega) hpl hsh
        obtain ⟨x, hx⟩ : ∃ x, x = r / 8 := ⟨_, rfl⟩
        rw [← hsh] at hy hnx
        rw [← hx] at hy hnx hoth
        have hxl : x < NB := by omega
        have xi0 : (x : Int) < (NB : Int) := by omega
        have k0 := hO.cell x hxl
        have f0 := hO.free x hxl
        rw [hh x hxl] at k0
        obtain ⟨Y, hY⟩ : ∃ Y, Y = packB f j d x := ⟨_, rfl⟩
        obtain ⟨F, hF⟩ : ∃ F, F = f j := ⟨_, rfl⟩
        rw [← hF] at c0 hfj
        obtain ⟨Z, hZ⟩ : ∃ Z : Int, Z = F * 2 ^ sh := ⟨_, rfl⟩
        have hZ2 : Z = F * p2 sh := hZ
        have hZb : 0 ≤ Z ∧ Z < 256 := by
          have h1 := p2_pos sh
          have h2 : F * p2 sh ≤ (p2 d - 1) * p2 sh := Int.mul_le_mul_of_nonneg_right (by omega) (by omega)
          have h3 : p2 d * p2 sh ≤ 256 := by
            rw [← p2_add]
            have := p2_le (show d + sh ≤ 8 by omega)
            rw [show p2 8 = 256 by decide +kernel] at this
            exact this
          have h4 : (p2 d - 1) * p2 sh = p2 d * p2 sh - p2 sh := by rw [Int.sub_mul, Int.one_mul]
          have h5 : 0 ≤ F * p2 sh := Int.mul_nonneg hfj.1 (by omega)
          omega
        have HV : Hid (bits .or .u8 Y Z = packB f (j + 1) d x) := by
          show _ = _
          rw [hnx, hY, hy, hZ2, ← hF]
          exact or_small Q F (r % 8) d sh (by omega) q0 q1 hfj.1 hfj.2
        rw [← hY] at k0
        have hYb := packB_range f j d x
        rw [← hY] at hYb
        have HN := fun v hv => hid_of (pckI_one (v := v) hS.out hxl hv hoth)
        have t1 : (r : Int).tdiv 8 = (x : Int) := by
          rw [Int.tdiv_eq_ediv_of_nonneg (by omega)]
          omega
        have w1 : IntKind.i64.wrap ((x : Int)) = (x : Int) := by rw [IntKind.wrap_i64]; omega
        have w2 : IntKind.i64.wrap ((r : Int)) = (r : Int) := by rw [IntKind.wrap_i64]; omega
        have w4 : IntKind.i64.wrap Z = Z := by rw [IntKind.wrap_i64]; omega
        have w5 : IntKind.u8.wrap Z = Z := by show Z % 256 = Z; omega
        have w6 : Z % 256 = Z := by omega
        have m64 : min sh 64 = sh := by omega
        have r0 := hZ.symm
        have d16 : ((d : Int) == 16) = false := beq_no1 (by omega)
        have HPL := hid_of hpl
        clear hx hZ hZ2 hY hF hr hsh hpl hy q0 q1 hnx hoth hh hO hBB hc
        go_wp2_with fail
        go_region_with (go_at_call 40; refine (hsf _).mono ?_; rintro e w' ⟨rfl, rfl⟩)
        all_goals
          go_wp2_with fail
          go_roundw
          case rel => exact ⟨j + 1, by omega, by go_num, HN _ HV.out⟩
          case measure => simp [intOf]; omega
    · obtain rfl : j = n := by omega
      obtain ⟨h, hO, hh, hBB⟩ := hS.out
      have HE : Hid ((∃ h, BFn wr base G NB cb h ∧ ∀ i, i < NB → h i = packB f j d i) ∧ But G w wr) := ⟨⟨h, hO, hh⟩, hBB⟩
      clear hh hBB hO hS
      go_wp2_with fail
      go_end0
      exact ⟨rfl, HE.out⟩
set_option maxHeartbeats 1600000 in
theorem implPack_in (a : Option Addr) (n cap d : Nat) (f : Nat → Int) (w : World) (hC : Came w a n f) (hd : Five (d : Int)) (hn : n ≤ 96) :
    Calls Try.prog 8 #[.slice a n cap, .int .i64 (d : Int)] w (PackPost f n d w) := by
  have h5 := five_range hd
  have hk := isDepth_any (d : Int)
  rw [decide_eq_true hd] at hk
  have hnd : n * d ≤ 96 * 16 := Nat.mul_le_mul hn (by omega)
  obtain ⟨q, hq⟩ : ∃ q, q = n * d := ⟨_, rfl⟩
  have hqi : (n : Int) * (d : Int) = (q : Int) := by rw [hq]; simp
  rw [← hq] at hnd
  obtain ⟨NB, hNB⟩ : ∃ NB, NB = (q + 7) / 8 := ⟨_, rfl⟩
  have hq1 : q ≤ 8 * NB ∧ 8 * NB ≤ q + 7 := by omega
  have hf := fun W => rowFor_any (q : Int) W (by omega) (by omega)
  rw [show ((q : Int) + 7) / 8 = (NB : Int) by omega] at hf
  have HC := hid_of hC
  have HQ := hid_of hq
  have HNB := hid_of hNB
  have HD := hid_of hd
  have dn : decide ((96 : Int) < (n : Int)) = false := decide_eq_false (by omega)
  have HOLD : Hid (∀ q o, a = some ⟨q, o, none⟩ → n = 0 ∨ q < w.heap.size) := fun q o ha => by
    rcases hC with h0 | ⟨g, off, hg, hl, -⟩
    · exact .inl h0
    · rw [hg] at ha
      cases ha
      exact .inr hl
  clear hC hq hNB hd
  go_enter Try.func8, Try.ntmps8
  go_wp2_with fail
  refine (hk _).mono ?_
  rintro e w2 ⟨rfl, hB⟩
  have HB := hid_of hB
  have HC2 := hid_of (HC.out.called hB)
  clear hB
  go_wp2_with fail
  refine (samples_any a n cap d f w2 HC2.out (by omega) (by omega)).mono ?_
  rintro e w3 ⟨b, rfl, hb, rfl⟩
  by_cases hfit : Fit12 f n d
  · obtain rfl := hb.mpr hfit
    have HF := hid_of hfit
    clear hb hfit
    go_wp2_with fail
    refine (hf _).mono ?_
    rintro e w4 ⟨rfl, rfl⟩
    have hmk := make_bytes12 w4 NB (by omega)
    have hO5 : BFn (w4.alloc (.cells (madeCells #[Value.int .u8 0] NB) 5)) w.heap.size w4.heap.size NB NB (fun _ => 0) := BFn.made (base := w.heap.size) w4 NB (by unfold maxLen; omega) HB.out.size
    have hC5 : Came (w4.alloc (.cells (madeCells #[Value.int .u8 0] NB) 5)) a n f := HC2.out.called (bstart _ _)
    have HB5 : Hid (Below w.heap.size w (w4.alloc (.cells (madeCells #[Value.int .u8 0] NB) 5))) := bnext HB.out (bstart _ _)
    have hGw : w.heap.size ≤ w4.heap.size := HB.out.size
    generalize w4.alloc (.cells (madeCells #[Value.int .u8 0] NB) 5) = w5 at hmk hO5 hC5 HB5
    generalize w4.heap.size = G at hmk hO5 hGw
    have hp : Calls Try.prog 26 #[.slice (some ⟨G, 0, none⟩) NB NB, .slice a n cap, .int .i64 (d : Int)] w5 (PackIntoPost f n d NB w.heap.size G NB w5) := by
      refine packInto_any a n cap d w.heap.size G NB NB f (fun _ => 0) w5 hC5 HD.out (by omega) HF.out (by rw [← HQ.out]; exact HNB.out) hO5 fun q o ha => ?_
      rcases HOLD.out q o ha with h1 | h1
      · exact .inl h1
      · exact .inr (by omega)
    clear hO5 hC5
    go_wp2_with fail
    refine hp.mono ?_
    rintro e w6 ⟨rfl, ⟨h, hO, hh⟩, hBB⟩
    clear hp hmk
    have hcv := hO.text (packL f n d) (by rw [HNB.out, HQ.out]; exact packN_length _ _ _ _) (fun i hi => by
      rw [hh i hi]
      refine packN_get f n d _ i ?_
      rw [HNB.out, HQ.out] at hi
      exact hi)
    have HBE : Hid (Below w.heap.size w w6) := hBB.below HB5.out hGw HB5.out.size
    clear hh hBB hO
    go_wp2_with fail
    refine bodyPost_ret (v := .tuple #[.string (packT f n d), .bool true]) ?_ rfl ⟨fun _ => rfl, fun h => absurd HF.out h, HBE.out⟩
    simp [results, Try.results8, go_sem, packT]
  · obtain rfl : b = false := by
      cases b
      · rfl
      · exact absurd (hb.mp rfl) hfit
    have HF := hid_of hfit
    clear hb hfit
    go_wp2_with fail
    refine bodyPost_ret (v := .tuple #[.string ⟨#[]⟩, .bool false]) ?_ rfl ⟨fun h => absurd h HF.out, fun _ => rfl, HB.out⟩
    simp [results, Try.results8, go_sem]
theorem implPack_out (a : Option Addr) (n cap : Nat) (d : Int) (w : World) (h : ¬ (Five d ∧ n ≤ 96)) :
    Calls Try.prog 8 #[.slice a n cap, .int .i64 d] w fun e w' => e = .returned (.tuple #[.string ⟨#[]⟩, .bool false]) ∧ Below w.heap.size w w' := by
  have hk := isDepth_any d
  by_cases h5 : Five d
  · rw [decide_eq_true h5] at hk
    have dn : decide ((96 : Int) < (n : Int)) = true := decide_eq_true (by have : ¬ n ≤ 96 := fun k => h ⟨h5, k⟩; omega)
    clear h h5
    go_enter Try.func8, Try.ntmps8
    go_wp2_with fail
    refine (hk _).mono ?_
    rintro e w1 ⟨rfl, hB⟩
    have HB := hid_of hB
    clear hB
    go_wp2_with fail
    refine bodyPost_ret (v := .tuple #[.string ⟨#[]⟩, .bool false]) ?_ rfl ⟨rfl, HB.out⟩
    simp [results, Try.results8, go_sem]
  · rw [decide_eq_false h5] at hk
    clear h h5
    go_enter Try.func8, Try.ntmps8
    go_wp2_with fail
    refine (hk _).mono ?_
    rintro e w1 ⟨rfl, hB⟩
    have HB := hid_of hB
    clear hB
    go_wp2_with fail
    refine bodyPost_ret (v := .tuple #[.string ⟨#[]⟩, .bool false]) ?_ rfl ⟨rfl, HB.out⟩
    simp [results, Try.results8, go_sem]
end Go.Proofs.Ytpocfmopeaajaaa
