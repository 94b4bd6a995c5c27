/-
  The walk of the law FnCheapest, over what the program's ways through a text answer.
-/
import Derived.Test.YtihcapfdpgaeiaaRows
import Derived.Test.YtihcapfdpgaeiaaBase
import Derived.Test.YtihcapfdpgaeiaaRowLib
import Derived.Test.YtihcapfdpgaeiaaOwnLib
import Derived.Test.YtihcapfdpgaeiaaDrawLib
import Derived.Test.YtihcapfdpgaeiaaDrawList
import Derived.Test.YtihcapfdpgaeiaaDrawPlaces
import Derived.Test.YtihcapfdpgaeiaaDrawData
import Derived.Test.YtihcapfdpgaeiaaTokMath
import Derived.Test.YtihcapfdpgaeiaaTriLib
import Derived.Test.YtihcapfdpgaeiaaTokMark
import Derived.Test.YtihcapfdpgaeiaaByteLib
import Derived.Test.YtihcapfdpgaeiaaTokExp
import Derived.Test.YtihcapfdpgaeiaaExpandSpec
import Derived.Test.YtihcapfdpgaeiaaSearchMath
import Derived.Test.YtihcapfdpgaeiaaCheapMath
import Derived.Test.YtihcapfdpgaeiaaTextLib
import Derived.Test.YtihcapfdpgaeiaaSearchAns
import Derived.Test.YtihcapfdpgaeiaaTokCostAns
import Derived.WalkKit
import Derived.ProofKit
import Derived.WalkLawsBesides
import Derived.Below
import Derived.Lib.SmallJoins
namespace Go.Proofs.Ytihcapfdpgaeiaa
open Go.RowKit Go.Joins TokMath SearchMath CheapMath

theorem run_right7 : ∀ {L : List Tok} {O F : List Int}, run O L = some F → ∀ t ∈ L, TokRight t
  | [], _, _, _, t, ht => by cases ht
  | r :: R, O, F, h, t, ht => by
    unfold run at h
    split at h
    · rename_i q
      rcases List.mem_cons.mp ht with rfl | ht
      · exact q.1
      · exact run_right7 h t ht
    · cases h
theorem tok_wf7 {t : Tok} (h : TokRight t) : (Lit.int .i64 t.1).wf = true ∧ (Lit.int .i64 t.2.1).wf = true ∧ (Lit.int .i64 t.2.2).wf = true := by
  obtain ⟨x, y, z⟩ := t
  have hb : (0 ≤ x ∧ x ≤ 255) ∧ (0 ≤ y ∧ y ≤ 258) ∧ (0 ≤ z ∧ z ≤ 32768) := by
    have h' : if y = 0 then (0 ≤ x ∧ x ≤ 255) ∧ z = 0 else x = 0 ∧ (3 ≤ y ∧ y ≤ 258) ∧ (1 ≤ z ∧ z ≤ 32768) := h
    split at h' <;> omega
  have key : ∀ q : Int, 0 ≤ q → q ≤ 32768 → (Lit.int .i64 q).wf = true := fun q h0 h1 => by
    simp [Lit.wf, IntKind.min, IntKind.max, IntKind.bits, IntKind.signed]
    omega
  exact ⟨key x (by omega) (by omega), key y (by omega) (by omega), key z (by omega) (by omega)⟩
theorem code_mono8 {w : World} {b b' : Nat} {a : Option Addr} {len : Nat} (h : CodeAt w b a len) (hb : b ≤ b') : CodeAt w b' a len := by
  rcases h with h | ⟨bc, off, ha, hlt, hc⟩
  · exact .inl h
  · exact .inr ⟨bc, off, ha, Nat.lt_of_lt_of_le hlt hb, hc⟩
theorem wf_small8 {x : Int} (h0 : 0 ≤ x) (h1 : x ≤ 100000) : (Lit.int .i64 x).wf = true := by
  simp [Lit.wf, IntKind.min, IntKind.max, IntKind.bits, IntKind.signed]
  omega
/-- The model's Expand at tokens that make the text again. -/
theorem way_expands {s : ByteArray} {L : List Tok} (h : run [] L = some (pre (txt s) s.size)) (hs : s.size ≤ 400) (hl : L.length ≤ s.size) (a : Option Addr) (c : Nat) (w : World) (hC : TCame w a L.length (fun j => L.getD j (0, 0, 0))) :
    Calls Try.prog 15 #[.string ⟨#[]⟩, .slice a L.length c] w fun e w' => e = .returned (.tuple #[.string s, .bool true]) ∧ Below w.heap.size w w' := by
  refine (specExpand ⟨#[]⟩ a c L w hC (by omega) (show 0 ≤ 1048576 by omega)).mono ?_
  intro e w' hq
  have e1 : expandOf ⟨#[]⟩ L = some (bytesOf s) := by
    unfold expandOf
    rw [if_pos (show (ByteArray.size ⟨#[]⟩) ≤ 12000 from Nat.zero_le _)]
    show expandL 0 [] L = some (bytesOf s)
    rw [expand_run 0 h (by rw [pre_length]; omega), List.drop_zero, pre_txt]
  rw [e1] at hq
  obtain ⟨q1, q2⟩ := hq
  exact ⟨by rw [q2, str_back], q1⟩
/-- The program's TokensCost at such tokens. -/
theorem way_costs (hA : TokCostAnswer) {s : ByteArray} {L : List Tok} (h : run [] L = some (pre (txt s) s.size)) (hs : s.size ≤ 400) (hl : L.length ≤ s.size) (a : Option Addr) (c : Nat) (w : World) (hC : TCame w a L.length (fun j => L.getD j (0, 0, 0))) (hc : L.length ≤ c) :
    Calls Try.prog 16 #[.slice a L.length c] w fun e w' => e = .returned (.tuple #[.int .i64 (sumC L), .bool true]) ∧ Below w.heap.size w w' := by
  have hr := run_right7 h
  have e1 : tokCost L = (sumC L, true) := by
    unfold tokCost
    rw [if_pos ⟨by omega, hr⟩]
  have := hA a c L w hC hc (by omega) (fun t ht => tok_wf7 (hr t ht))
  rw [e1] at this
  exact this

set_option maxHeartbeats 6400000 in
set_option maxRecDepth 100000 in
theorem FnCheapest_at (hG : GreedyAnswer) (hL : LazyAnswer) (hK : CheapAnswer) (hT : TokCostAnswer) (a : Option Addr) (len cap : Nat) (w : World) (hk : CodeAt w w.heap.size a len) (hlen : (len : Int) ≤ 1048576) :
    Calls Try.prog 3 #[.slice a len cap] w fun e w' => e = .returned (.bool true) ∧ Below w.heap.size w w' := by
  have HG := hid_of hG
  have HL := hid_of hL
  have HK := hid_of hK
  have HT := hid_of hT
  have HD : Hid (CodeAt w w.heap.size a len) := hk
  clear hG hL hK hT hk
  go_enter Try.func3, Try.ntmps3
  go_wp2_with fail
  refine (big_no a len cap _ hlen).mono ?_
  rintro e w0 ⟨rfl, rfl⟩
  go_wp2_with fail
  refine (draw_data a len cap w0.heap.size w0 HD.out (by omega) (Nat.le_refl _)).mono ?_
  rintro e w1 ⟨s, rfl, hs, hB1⟩
  have HB1 := hid_of hB1
  have HD1 := hid_of (code_mono8 (HD.out.below hB1) hB1.size)
  clear hB1 HD
  go_wp2_with fail
  refine (draw_places a len cap w1.heap.size w1 HD1.out (by omega) (Nat.le_refl _)).mono ?_
  rintro e w2 ⟨gp, c, zs, rfl, hzl, hzb, hOp, hB2⟩
  have hlt := hOp.lt
  have hzc : w2.cell? ⟨gp, 0, none⟩ = some (.int .i64 (zs.getD 0 0)) ∧ 0 ≤ zs.getD 0 0 ∧ zs.getD 0 0 < 10000 := by
    have hj' : 0 < (i64s zs).length := by rw [i64s_length]; omega
    refine ⟨by rw [hOp.cell 0 hj', i64s_get], hzb _ ?_⟩
    rw [List.getD_eq_getElem?_getD, List.getElem?_eq_getElem (by omega)]
    exact List.getElem_mem _
  obtain ⟨c0, p00, p01⟩ := hzc
  generalize zs.getD 0 0 = z0 at c0 p00 p01
  have HB2 := hid_of (bnext HB1.out hB2)
  clear hzl hzb hOp hB2 HB1 HD1
  obtain ⟨q, eq, hq0, hq1⟩ : ∃ q : Int, z0.tmod 64 = q ∧ 0 ≤ q ∧ q ≤ 63 := ⟨z0.tmod 64, rfl, by rw [Int.tmod_eq_emod_of_nonneg p00]; omega, by rw [Int.tmod_eq_emod_of_nonneg p00]; omega⟩
  obtain ⟨ch, ec⟩ : ∃ ch : Nat, (1 : Int) + q = (ch : Int) := ⟨(1 + q).toNat, by omega⟩
  have hR : WayRight s (ch : Int) := ⟨by omega, by omega, by omega⟩
  have hw := wf_small8 (show (0 : Int) ≤ (ch : Int) by omega) (by omega)
  have hg := fun w => (HG.out s (ch : Int) w (by omega) hw).1 hR
  have hl := fun w => (HL.out s (ch : Int) w (by omega) hw).1 hR
  have hc := fun w => (HK.out s (ch : Int) w (by omega) hw).1 hR
  have law := cheapest_law (txt s) s.size ch
  have rg : run [] (greedyL s (ch : Int)) = some (pre (txt s) s.size) := way_all (txt_lt s) (by omega) (fun i _ => greedy_fine _ _ _ i)
  have rl : run [] (lazyL s (ch : Int)) = some (pre (txt s) s.size) := way_all (txt_lt s) (by omega) (fun i _ => lazy_fine _ _ _ i)
  have rc : run [] (cheapL s (ch : Int)) = some (pre (txt s) s.size) := way_all (txt_lt s) (by omega) (fun i hi => take_fine hi)
  have LW : sumC (cheapL s (ch : Int)) ≤ sumC (greedyL s (ch : Int)) ∧ sumC (cheapL s (ch : Int)) ≤ sumC (lazyL s (ch : Int)) ∧ sumC (cheapL s (ch : Int)) ≤ 9 * (s.size : Int) := law
  have xg := hid_of (fun a c w hC => way_expands rg hs (greedyL_length s (ch : Int)) a c w hC)
  have xl := hid_of (fun a c w hC => way_expands rl hs (lazyL_length s (ch : Int)) a c w hC)
  have xc := hid_of (fun a c w hC => way_expands rc hs (cheapL_length s (ch : Int)) a c w hC)
  have tg := hid_of (fun a c w hC hc => way_costs HT.out rg hs (greedyL_length s (ch : Int)) a c w hC hc)
  have tl := hid_of (fun a c w hC hc => way_costs HT.out rl hs (lazyL_length s (ch : Int)) a c w hC hc)
  have tc := hid_of (fun a c w hC hc => way_costs HT.out rc hs (cheapL_length s (ch : Int)) a c w hC hc)
  have sg := sumC_range (greedyL s (ch : Int))
  have ng := greedyL_length s (ch : Int)
  have nl := lazyL_length s (ch : Int)
  have nc := cheapL_length s (ch : Int)
  clear law rg rl rc hR hw sg HG HL HK HT
  generalize greedyL s (ch : Int) = A at *
  generalize lazyL s (ch : Int) = B at *
  generalize cheapL s (ch : Int) = C at *
  obtain ⟨u, hu⟩ : ∃ u, u = sumC A := ⟨_, rfl⟩
  obtain ⟨v, hv⟩ : ∃ v, v = sumC B := ⟨_, rfl⟩
  obtain ⟨x, hx⟩ : ∃ x, x = sumC C := ⟨_, rfl⟩
  obtain ⟨na, hna⟩ : ∃ na, na = A.length := ⟨_, rfl⟩
  obtain ⟨nb, hnb⟩ : ∃ nb, nb = B.length := ⟨_, rfl⟩
  obtain ⟨nd, hnd⟩ : ∃ nd, nd = C.length := ⟨_, rfl⟩
  unfold WayPost at hg hl hc
  rw [← hu, ← hv, ← hx] at LW
  rw [← hu, ← hna] at tg
  rw [← hv, ← hnb] at tl
  rw [← hx, ← hnd] at tc
  rw [← hna] at hg xg ng
  rw [← hnb] at hl xl nl
  rw [← hnd] at hc xc nc
  clear hu hv hx hna hnb hnd
  obtain ⟨l1, l2, l3⟩ := LW
  have d1 : decide (x ≤ u) = true := decide_eq_true l1
  have d2 : decide (x ≤ v) = true := decide_eq_true l2
  have d3 : decide (x ≤ 9 * (s.size : Int)) = true := decide_eq_true l3
  have hgH := hid_of hg
  have hlH := hid_of hl
  have hcH := hid_of hc
  clear hg hl hc
  go_wp2_with fail
  refine (hgH.out _).mono ?_
  rintro e w3 ⟨ag, cg, rfl, hSg, hcg, hB3⟩
  have HB3 := hid_of (bnext HB2.out hB3)
  have TG3 := hid_of hSg.came
  clear hSg hB3 HB2 c0 hgH
  go_wp2_with fail
  refine (hlH.out _).mono ?_
  rintro e w4 ⟨al, cl, rfl, hSl, hcl, hB4⟩
  have HB4 := hid_of (bnext HB3.out hB4)
  have TG4 := hid_of (TG3.out.called hB4)
  have TL4 := hid_of hSl.came
  clear hSl hB4 HB3 TG3 hlH
  go_wp2_with fail
  refine (hcH.out _).mono ?_
  rintro e w5 ⟨ac, cc, rfl, hSc, hcc, hB5⟩
  have HB5 := hid_of (bnext HB4.out hB5)
  have TG5 := hid_of (TG4.out.called hB5)
  have TL5 := hid_of (TL4.out.called hB5)
  have TC5 := hid_of hSc.came
  clear hSc hB5 HB4 TG4 TL4 hcH
  go_wp2_with fail
  refine (xg.out _ _ _ TG5.out).mono ?_
  rintro e w6 ⟨rfl, hB6⟩
  have HB6 := hid_of (bnext HB5.out hB6)
  have TG6 := hid_of (TG5.out.called hB6)
  have TL6 := hid_of (TL5.out.called hB6)
  have TC6 := hid_of (TC5.out.called hB6)
  clear hB6 HB5 TG5 TL5 TC5 xg
  go_wp2_with fail
  refine (xl.out _ _ _ TL6.out).mono ?_
  rintro e w7 ⟨rfl, hB7⟩
  have HB7 := hid_of (bnext HB6.out hB7)
  have TG7 := hid_of (TG6.out.called hB7)
  have TL7 := hid_of (TL6.out.called hB7)
  have TC7 := hid_of (TC6.out.called hB7)
  clear hB7 HB6 TG6 TL6 TC6 xl
  go_wp2_with fail
  refine (xc.out _ _ _ TC7.out).mono ?_
  rintro e w8 ⟨rfl, hB8⟩
  have HB8 := hid_of (bnext HB7.out hB8)
  have TG8 := hid_of (TG7.out.called hB8)
  have TL8 := hid_of (TL7.out.called hB8)
  have TC8 := hid_of (TC7.out.called hB8)
  clear hB8 HB7 TG7 TL7 TC7 xc
  go_wp2_with fail
  refine (tg.out _ _ _ TG8.out hcg).mono ?_
  rintro e w9 ⟨rfl, hB9⟩
  have HB9 := hid_of (bnext HB8.out hB9)
  have TL9 := hid_of (TL8.out.called hB9)
  have TC9 := hid_of (TC8.out.called hB9)
  clear hB9 HB8 TG8 TL8 TC8 tg
  go_wp2_with fail
  refine (tl.out _ _ _ TL9.out hcl).mono ?_
  rintro e w10 ⟨rfl, hB10⟩
  have HB10 := hid_of (bnext HB9.out hB10)
  have TC10 := hid_of (TC9.out.called hB10)
  clear hB10 HB9 TL9 TC9 tl
  go_wp2_with fail
  refine (tc.out _ _ _ TC10.out hcc).mono ?_
  rintro e w11 ⟨rfl, hB11⟩
  have HB11 := hid_of (bnext HB10.out hB11)
  clear hB11 HB10 TC10 tc
  go_wp2_with fail
  go_ret
  exact ⟨rfl, HB11.out⟩

theorem FnCheapest_over (hG : GreedyAnswer) (hL : LazyAnswer) (hK : CheapAnswer) (hT : TokCostAnswer) (a : Option Addr) (len cap : Nat) (zs : List Int) (w : World) (hr : IsRow .u8 w a len cap zs) :
    Calls Try.prog 3 #[.slice a len cap] w fun e w' => e = .returned (.bool true) ∧ Below w.heap.size w w' := by
  obtain ⟨hC, hl, hc⟩ := codeAt_of_row hr
  unfold maxLen at hc
  by_cases h : (len : Int) ≤ 1048576
  · exact FnCheapest_at hG hL hK hT a len cap w hC h
  · have d : (1048576 : Int) < len := by omega
    clear hr hC hG hL hK hT
    go_enter Try.func3, Try.ntmps3
    go_wp2_with fail
    refine (big_yes a len cap _ d (by omega)).mono ?_
    rintro e w1 ⟨rfl, rfl⟩
    go_wp2_with fail
    go_ret
    exact ⟨rfl, Below.refl _ _⟩

end Go.Proofs.Ytihcapfdpgaeiaa
