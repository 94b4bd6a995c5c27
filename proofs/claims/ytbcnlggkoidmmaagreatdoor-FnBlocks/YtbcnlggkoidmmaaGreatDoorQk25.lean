/-
  The walks of the program's firstOk, secondOk and takeWoven: a block of type 2.
-/
import Derived.Test.YtbcnlggkoidmmaaGreatDoorQk23
import Derived.Test.YtbcnlggkoidmmaaGreatDoorQk24
namespace Go.Proofs.YtbcnlggkoidmmaaGreatDoor
open Go.RowKit Go.Joins OutMath CodeMath TakeMath HitMath WayMath StepMath TokMath BookMath InfMath RunsMath

theorem firstOk_yes (a : Option Addr) (n cap : Nat) (f : Nat → Int) (w : World) (hC : Came w a n f) (hm : n ≤ 288) (hok : OkLens f n) (hn : 257 ≤ n) (h1 : kindOf f n = 2 ∨ kindOf f n = 3) (h2 : f 256 ≠ 0) :
    Calls Tryz.prog 154 #[.slice a n cap] w fun e w' => e = .returned (.bool true) ∧ Below w.heap.size w w' := by
  have hk := implKind_yes a n cap f w hC hm hok
  have hh := fun (w1 : World) (q : Below w.heap.size w w1) => has_yes a n cap f 256 w1 (hC.called q) (by omega) (by have := hok 256 (by omega); omega)
  rw [show ((256 : Nat) : Int) = 256 from rfl] at hh
  clear hC hok
  rcases h1 with h1 | h1
  all_goals
    rw [h1] at hk
    go_enter Tryz.func154, Tryz.ntmps154
    go_wp2_with fail
    refine hk.mono ?_
    clear hk
    rintro e w1 ⟨rfl, hB⟩
    have hh1 := hh w1 hB
    have HB := hid_of hB
    clear hh hB
    go_wp2_with fail
    refine hh1.mono ?_
    rintro e w2 ⟨rfl, rfl⟩
    go_wp2_with fail
    go_ret
    exact ⟨rfl, HB.out⟩
theorem firstOk_no (a : Option Addr) (n cap : Nat) (f : Nat → Int) (w : World) (hC : Came w a n f) (hm : n ≤ 288) (hok : OkLens f n) (_hn : 257 ≤ n) (h : ¬ ((kindOf f n = 2 ∨ kindOf f n = 3) ∧ f 256 ≠ 0)) :
    Calls Tryz.prog 154 #[.slice a n cap] w fun e w' => e = .returned (.bool false) ∧ Below w.heap.size w w' := by
  have hk := implKind_yes a n cap f w hC hm hok
  by_cases h1 : kindOf f n = 2 ∨ kindOf f n = 3
  · have hf : f 256 = 0 := Classical.byContradiction fun q => h ⟨h1, q⟩
    have hh := fun (w1 : World) (q : Below w.heap.size w w1) => has_no a n cap f 256 w1 (hC.called q) (by rintro ⟨_, _, q⟩; rw [show (256 : Int).toNat = 256 from rfl, hf] at q; omega)
    clear hC hok h
    rcases h1 with h1 | h1
    all_goals
      rw [h1] at hk
      go_enter Tryz.func154, Tryz.ntmps154
      go_wp2_with fail
      refine hk.mono ?_
      clear hk
      rintro e w1 ⟨rfl, hB⟩
      have hh1 := hh w1 hB
      have HB := hid_of hB
      clear hh hB
      go_wp2_with fail
      refine hh1.mono ?_
      rintro e w2 ⟨rfl, rfl⟩
      go_wp2_with fail
      go_ret
      exact ⟨rfl, HB.out⟩
  · have d1 : (kindOf f n == 2) = false := by rw [beq_eq_false_iff_ne]; exact fun e => h1 (.inl e)
    have d2 : (kindOf f n == 3) = false := by rw [beq_eq_false_iff_ne]; exact fun e => h1 (.inr e)
    clear hC hok h h1
    generalize kindOf f n = k at *
    go_enter Tryz.func154, Tryz.ntmps154
    go_wp2_with fail
    refine hk.mono ?_
    clear hk
    rintro e w1 ⟨rfl, hB⟩
    have HB := hid_of hB
    clear hB
    go_wp2_with fail
    go_ret
    exact ⟨rfl, HB.out⟩
theorem secondOk_yes (a : Option Addr) (n cap : Nat) (f : Nat → Int) (w : World) (hC : Came w a n f) (hm : n ≤ 288) (hok : OkLens f n) (h1 : kindOf f n = 1 ∨ kindOf f n = 2 ∨ kindOf f n = 3) :
    Calls Tryz.prog 155 #[.slice a n cap] w fun e w' => e = .returned (.bool true) ∧ Below w.heap.size w w' := by
  have hk := implKind_yes a n cap f w hC hm hok
  clear hC hok
  rcases h1 with h1 | h1 | h1
  all_goals
    rw [h1] at hk
    go_enter Tryz.func155, Tryz.ntmps155
    go_wp2_with fail
    refine hk.mono ?_
    clear hk
    rintro e w1 ⟨rfl, hB⟩
    have HB := hid_of hB
    clear hB
    go_wp2_with fail
    go_ret
    exact ⟨rfl, HB.out⟩
theorem secondOk_no (a : Option Addr) (n cap : Nat) (f : Nat → Int) (w : World) (hC : Came w a n f) (hm : n ≤ 288) (hok : OkLens f n) (h1 : ¬ (kindOf f n = 1 ∨ kindOf f n = 2 ∨ kindOf f n = 3)) :
    Calls Tryz.prog 155 #[.slice a n cap] w fun e w' => e = .returned (.bool false) ∧ Below w.heap.size w w' := by
  have hk := implKind_yes a n cap f w hC hm hok
  have d0 : (kindOf f n == 1) = false := by rw [beq_eq_false_iff_ne]; exact fun e => h1 (.inl e)
  have d1 : (kindOf f n == 2) = false := by rw [beq_eq_false_iff_ne]; exact fun e => h1 (.inr (.inl e))
  have d2 : (kindOf f n == 3) = false := by rw [beq_eq_false_iff_ne]; exact fun e => h1 (.inr (.inr e))
  clear hC hok h1
  generalize kindOf f n = k at *
  go_enter Tryz.func155, Tryz.ntmps155
  go_wp2_with fail
  refine hk.mono ?_
  clear hk
  rintro e w1 ⟨rfl, hB⟩
  have HB := hid_of hB
  clear hB
  go_wp2_with fail
  go_ret
  exact ⟨rfl, HB.out⟩
/-- What a new book lies in is left alone. -/
theorem held_new {B : Nat} {w w' : World} {fb rb : Nat} {s : ByteArray} {p : Nat} {O : List Int} {most : Nat} {Ty : List Int} {vo vt : Value} (h : PS B w fb rb s p O most Ty vo vt) : Held w' fb rb vo vt w.heap.size w'.heap.size := fun k k1 k2 => by
  have l1 := h.ltf
  have l2 := h.ltr
  refine ⟨k2, by omega, by omega, fun e => ?_, fun e => ?_⟩
  · have := (World.ownsRow.lt h.2.2.1 k e).2
    omega
  · have := (World.ownsRow.lt h.2.2.2.1 k e).2
    omega
theorem coded_room {f : Nat → Int} {n : Nat} (h : Coded f n) : nx f n 15 ≤ 32768 := by
  rw [← room_nx f n h.2.1]
  exact h.2.2
section
variable (B : Nat) (w : World) (fb rb : Nat) (s : ByteArray) (p : Nat) (O : List Int) (most : Nat) (Ty : List Int) (vo vt : Value)
/-- Both books, then the pieces. -/
theorem two_books (a1 : Option Addr) (n1 c1 : Nat) (f1 : Nat → Int) (w1 : World) (hC1 : Came w1 a1 n1 f1) (h1 : Coded f1 n1) (a2 : Option Addr) (n2 c2 : Nat) (f2 : Nat → Int) (hC2 : Came w1 a2 n2 f2) (h2 : Coded f2 n2) (hps : PS B w1 fb rb s p O most Ty vo vt) (hs : s.size ≤ 12000) (hp : p ≤ 8 * s.size) (hm : most ≤ 12000) (hO : O.length ≤ most) :
    Calls Tryz.prog 151 #[.slice a1 n1 c1] w1 fun e w2 => ∃ b1, e = .returned (.pointer (some ⟨b1, 0, none⟩)) ∧ Calls Tryz.prog 151 #[.slice a2 n2 c2] w2 fun e w3 => ∃ b2, e = .returned (.pointer (some ⟨b2, 0, none⟩)) ∧ Calls Tryz.prog 150 #[.pointer (some ⟨fb, 0, none⟩), .pointer (some ⟨b1, 0, none⟩), .pointer (some ⟨b2, 0, none⟩)] w3 (BlkPost B w1 fb rb s most Ty vo vt (symbolsF s most f1 n1 f2 n2 (8 * s.size + 1) p O)) := by
  refine (newBook_any a1 n1 c1 f1 w1 hC1 h1.1 h1.2.1).mono ?_
  rintro e w2 ⟨b1, V1, rfl, hB1, hb1⟩
  refine ⟨b1, rfl, (newBook_any a2 n2 c2 f2 w2 (hC2.called hb1) h2.1 h2.2.1).mono ?_⟩
  rintro e w3 ⟨b2, V2, rfl, hB2, hb2⟩
  have p2 := hps.called hb1
  have p3 := p2.called hb2
  have hl1 : Held w3 fb rb vo vt w1.heap.size w2.heap.size := (held_new (w' := w2) hps).step (Step.called hb2)
  have hl2 : Held w3 fb rb vo vt w2.heap.size w3.heap.size := held_new p2
  refine ⟨b2, rfl, (takePieces_any B w3 fb rb s p O most Ty vo vt w1.heap.size w2.heap.size b1 V1 f1 n1 w2.heap.size w3.heap.size b2 V2 f2 n2 p3 hs hp hm hO (hB1.kept (fun k _ k2 => hb2.block k k2) hb2.size) hl1 h1.1 h1.2.1 (coded_room h1) hB2 hl2 h2.1 h2.2.1 (coded_room h2)).mono ?_⟩
  have st : Step fb rb w1 vo vt w3 vo vt := (Step.called hb1).trans (Step.called hb2)
  rintro e w4 (⟨O', p', vo', q1, q2, q3, q4, q5, q6⟩ | ⟨c, q1, q2, q3⟩)
  · exact .inl ⟨O', p', vo', q1, q2, q3, q4, q5, st.trans q6⟩
  · exact .inr ⟨c, q1, q2, (hps.below st).trans q3⟩
theorem block_woven (s : ByteArray) (most p : Nat) (O : List Int) : blockP s most 2 p O = match tablesP s p with
    | .error x => .error x
    | .ok (L, n, p2) => symbolsF s most (fun i => L.getD i 0) n (fun i => (L.drop n).getD i 0) (L.length - n) (8 * s.size + 1) p2 O := by
  unfold blockP
  rw [if_neg (by decide), if_neg (by decide), if_pos rfl]
  rfl
set_option maxRecDepth 100000 in
set_option maxHeartbeats 3200000 in
theorem takeWoven_any (h : PS B w fb rb s p O most Ty vo vt) (hs : s.size ≤ 12000) (hp : p ≤ 8 * s.size) (hm : most ≤ 12000) (hO : O.length ≤ most) (hG : OrderG w) (hGB : 0 < B) :
    Calls Tryz.prog 117 #[.pointer (some ⟨fb, 0, none⟩)] w (BlkPost B w fb rb s most Ty vo vt (blockP s most 2 p O)) := by
  obtain ⟨res, hres⟩ : ∃ res, res = blockP s most 2 p O := ⟨_, rfl⟩
  rw [← hres]
  rw [block_woven] at hres
  have HRES := hid_of hres
  have HPS := hid_of h
  have HG := hid_of hG
  clear hres h hG
  by_cases h14 : p + 14 ≤ 8 * s.size
  · have htk := take_yes B w fb rb s p O most Ty vo vt HPS.out hs 14 (by omega) h14
    obtain ⟨e1, e2, e3⟩ := three_of s p
    have q0 := num_bd s p 14
    have q1 := num_bd s p 5
    have q2 := num_bd s (p + 5) 5
    have q3 := num_bd s (p + 10) 4
    rw [show p2 14 = 16384 by decide +kernel] at q0
    rw [show p2 5 = 32 by decide +kernel] at q1 q2
    rw [show p2 4 = 16 by decide +kernel] at q3
    obtain ⟨nn, hnn⟩ := Int.eq_ofNat_of_zero_le (show 0 ≤ num s p 5 + 257 by omega)
    obtain ⟨mm, hmm⟩ := Int.eq_ofNat_of_zero_le (show 0 ≤ num s (p + 5) 5 + 1 by omega)
    obtain ⟨kk, hkk⟩ := Int.eq_ofNat_of_zero_le (show 0 ≤ num s (p + 10) 4 + 4 by omega)
    have HTA : Hid (tablesP s p = if 286 < nn ∨ 30 < mm then .error 5 else if p + 14 + 3 * kk ≤ 8 * s.size then (if kindOf (thirdF s (p + 14) kk) 19 ≠ 2 then .error 5 else match allP s (thirdF s (p + 14) kk) (nn + mm) (8 * s.size + 1) (p + 14 + 3 * kk) [] with
        | .error x => .error x
        | .ok (L, p2) => if TabRight nn L then .ok (L, nn, p2) else .error 5) else .error 2) := by
      show tablesP s p = _
      unfold tablesP
      rw [if_pos h14, hnn, hmm, hkk, Int.toNat_natCast, Int.toNat_natCast, Int.toNat_natCast]
      have hiff : (29 < num s p 5 ∨ 29 < num s (p + 5) 5) ↔ (286 < nn ∨ 30 < mm) := by omega
      by_cases q : 286 < nn ∨ 30 < mm
      · rw [if_pos (hiff.2 q), if_pos q]
      · rw [if_neg (fun k => q (hiff.1 k)), if_neg q]
        rfl
    have ea := and31 (num s p 14) q0.1 (by omega)
    have eb := and31 (num s p 14 / 32) (by omega) (by omega)
    rw [e1] at ea
    rw [e2] at eb
    have hk19 : kk ≤ 19 := by omega
    have hn0 : 257 ≤ nn ∧ nn ≤ 288 := by omega
    have hm0 : 1 ≤ mm ∧ mm ≤ 32 := by omega
    have v1 : (257 : Int) + num s p 5 = (nn : Int) := by omega
    have v2 : (1 : Int) + num s (p + 5) 5 = (mm : Int) := by omega
    have v3 : (4 : Int) + num s (p + 10) 4 = (kk : Int) := by omega
    clear hnn hmm hkk q1 q2 q3 e1 e2
    generalize num s p 14 = x at *
    generalize num s p 5 = a at *
    generalize num s (p + 5) 5 = b at *
    generalize num s (p + 10) 4 = c at *
    go_enter Tryz.func117, Tryz.ntmps117
    go_wp2_with fail
    refine htk.mono ?_
    clear htk
    rintro e w1 ⟨rfl, hS1, hg1⟩
    have HS1 := hid_of hS1
    have HT1 : Hid (Step fb rb w vo vt w1 vo vt) := step_read hg1
    clear hS1 hg1
    by_cases hov : 286 < nn ∨ 30 < mm
    · have HE : Hid (res = .error 5) := by
        show res = _
        rw [HRES.out, HTA.out, if_pos hov]
      have HP : Hid (BlkPost B w fb rb s most Ty vo vt res (.returned (errV 5)) w1) := .inr ⟨5, HE.out, rfl, HPS.out.below HT1.out⟩
      have hcc : (decide ((286 : Int) < (nn : Int)) = true ∧ decide (286 < nn) = true) ∨ (decide ((286 : Int) < (nn : Int)) = false ∧ decide (286 < nn) = false ∧ decide ((30 : Int) < (mm : Int)) = true ∧ decide (30 < mm) = true) := by
        by_cases q : 286 < nn
        · exact .inl ⟨decide_eq_true (by omega), decide_eq_true q⟩
        · exact .inr ⟨decide_eq_false (by omega), decide_eq_false q, decide_eq_true (by omega), decide_eq_true (by omega)⟩
      clear HS1 HT1 HE HTA HPS HG HRES hov
      rcases hcc with ⟨d1, d2⟩ | ⟨d1, d2, d3, d4⟩
      all_goals
        go_wp2_with fail
        go_ret
        exact HP.out
    · have d1 : decide ((286 : Int) < (nn : Int)) = false := decide_eq_false (by omega)
      have d2 : decide (286 < nn) = false := decide_eq_false (by omega)
      have d3 : decide ((30 : Int) < (mm : Int)) = false := decide_eq_false (by omega)
      have d4 : decide (30 < mm) = false := decide_eq_false (by omega)
      have HTB := hid_of (HTA.out.trans (if_neg hov))
      clear HTA
      have hG1 := HG.out.below (HPS.out.below HT1.out) hGB
      have htd := takeThird_any B w1 fb rb s (p + 14) O most Ty vo vt HS1.out hs h14 hG1 hGB kk hk19
      clear hG1
      go_wp2_with fail
      refine htd.mono ?_
      clear htd
      rintro e w2 (⟨h3, hk2, g3, hg3, rfl, hio, hps2, hst2⟩ | ⟨cc, hcc, rfl, hbl⟩)
      · have HTC := hid_of (HTB.out.trans ((if_pos h3).trans (if_neg (fun q => q hk2))))
        clear HTB
        have HF3 := hid_of (third_lens s (p + 14) kk)
        have hc3 : Coded (thirdF s (p + 14) kk) 19 := ⟨by omega, third_lens s (p + 14) kk, room_of_kind (.inr (.inl hk2))⟩
        have hnb := newBook_any (some ⟨g3, 0, none⟩) 19 19 (thirdF s (p + 14) kk) w2 hio.sl.came (by omega) hc3.2.1
        have HC3 := hid_of hc3
        have HS2 := hid_of hps2
        have HT2 := hid_of (HT1.out.trans hst2)
        clear hio hps2 hst2 hc3 hk2 hg3 HT1 HS1
        go_wp2_with fail
        refine hnb.mono ?_
        clear hnb
        rintro e w3 ⟨bk, V, rfl, hBk, hb3⟩
        have htl := takeLengths_any B w3 fb rb s (p + 14 + 3 * kk) O most Ty vo vt w2.heap.size w3.heap.size bk V (thirdF s (p + 14) kk) (HS2.out.called hb3) hs h3 hBk (held_new HS2.out) HC3.out.2.1 (coded_room HC3.out) (nn + mm) (by omega)
        rw [show ((nn + mm : Nat) : Int) = (nn : Int) + (mm : Int) by omega] at htl
        have HT3 : Hid (Step fb rb w vo vt w3 vo vt) := HT2.out.trans (Step.called hb3)
        clear hBk hb3 HS2 HT2 HC3 HF3
        generalize thirdF s (p + 14) kk = f3 at *
        go_wp2_with fail
        refine htl.mono ?_
        clear htl
        rintro e w4 (⟨L, p4, aL, cL, hal, hp4, rfl, hrow, hps4, hst4⟩ | ⟨cc, hal, rfl, hbl⟩)
        · have hall : allF s f3 (nn + mm) (8 * s.size + 1) (p + 14 + 3 * kk) [] = .ok (L, p4) := by
            rcases allP_same (s := s) (f3 := f3) (N := nn + mm) (8 * s.size + 1) (p + 14 + 3 * kk) [] with ⟨r, y1, y2⟩ | ⟨c1, c2, y1, y2⟩
            · rw [hal] at y1
              cases y1
              exact y2
            · rw [hal] at y1
              cases y1
          have hlen : L.length = nn + mm := (all_go _ _ [] (Nat.zero_le _) h3 hall).2.2
          have hLok := all_ok _ _ [] (fun v hv => by cases hv) hall
          have hok1 : OkLens (fun i => L.getD i 0) nn := ok_of_list hLok nn
          have hok2 : OkLens (fun i => (L.drop nn).getD i 0) mm := ok_of_list (fun v hv => hLok v (List.mem_of_mem_drop hv)) mm
          obtain ⟨gL, cap, hav, hKg, hgl⟩ := World.ownsRow.form (show w4.ownsRow w3.heap.size 3 1 (.slice aL L.length cL) L.length (ivals L) from hrow) (by omega)
          cases hav
          obtain ⟨a0, c0, hv0, _, hcap, hcame, _⟩ := hrow.form
          cases hv0
          have hcell : ∀ j, j < L.length → w4.cell? ⟨gL, j, none⟩ = some (.int .i64 (L.getD j 0)) := by
            intro j hj
            rcases hcame with y | ⟨g1, o1, y1, y2, y3⟩
            · omega
            · cases y1
              have := y3 j hj
              rw [Nat.zero_add] at this
              exact this
          have hc1 : Came w4 (some ⟨gL, 0, none⟩) nn (fun i => L.getD i 0) := .inr ⟨gL, 0, rfl, hgl, fun j hj => by rw [Nat.zero_add]; exact hcell j (by omega)⟩
          have hc2 : Came w4 (some ⟨gL, nn, none⟩) mm (fun i => (L.drop nn).getD i 0) := .inr ⟨gL, nn, rfl, hgl, fun j hj => by
            rw [hcell (nn + j) (by omega)]
            show _ = some (Value.int .i64 ((L.drop nn).getD j 0))
            rw [List.getD_eq_getElem?_getD, List.getD_eq_getElem?_getD, List.getElem?_drop]⟩
          have hdiff : L.length - nn = mm := by omega
          have HRS : Hid (res = if TabRight nn L then symbolsF s most (fun i => L.getD i 0) nn (fun i => (L.drop nn).getD i 0) mm (8 * s.size + 1) p4 O else .error 5) := by
            show res = _
            rw [HRES.out, HTC.out, hal]
            dsimp only
            by_cases hT : TabRight nn L
            · rw [if_pos hT, if_pos hT]
              dsimp only
              rw [hdiff]
            · rw [if_neg hT, if_neg hT]
          have HTR : Hid (TabRight nn L ↔ (((kindOf (fun i => L.getD i 0) nn = 2 ∨ kindOf (fun i => L.getD i 0) nn = 3) ∧ L.getD 256 0 ≠ 0) ∧ (kindOf (fun i => (L.drop nn).getD i 0) mm = 1 ∨ kindOf (fun i => (L.drop nn).getD i 0) mm = 2 ∨ kindOf (fun i => (L.drop nn).getD i 0) mm = 3))) := by
            show TabRight nn L ↔ _
            unfold TabRight
            rw [hdiff, and_assoc]
          have HST4 := hid_of (HT3.out.trans hst4)
          have HDR : Hid (∀ k, Below w4.heap.size w4 (w4.drewN k)) := fun k => ⟨rfl, rfl, rfl, Nat.le_refl _, fun _ _ => rfl⟩
          have HC12 := hid_of (And.intro hc1 hc2)
          have HOK12 := hid_of (And.intro hok1 hok2)
          have HPS4 := hid_of hps4
          have x1 : (0 : Int) ≤ (nn : Int) := by omega
          have x2 : (nn : Int) ≤ (L.length : Int) := by omega
          have x3 : (nn : Int) ≤ (cL : Int) := by omega
          have x4 : (L.length : Int) ≤ (cL : Int) := by omega
          have HLEN := hid_of hlen
          clear hall hal hLok hrow hcame hcell hc1 hc2 hok1 hok2 hps4 hst4 HT3 HTC HRES hlen
          have HERR : Hid (∀ w', ¬ TabRight nn L → Below w4.heap.size w4 w' → BlkPost B w fb rb s most Ty vo vt res (.returned (errV 5)) w') := fun w' hT hb => .inr ⟨5, HRS.out.trans (if_neg hT), rfl, (HPS.out.below HST4.out).trans (hb.mono HPS4.out.2.2.2.2.2.2.2.2.2.2)⟩
          by_cases hf1 : (kindOf (fun i => L.getD i 0) nn = 2 ∨ kindOf (fun i => L.getD i 0) nn = 3) ∧ L.getD 256 0 ≠ 0
          · have hfo := fun k => firstOk_yes (some ⟨gL, 0, none⟩) nn cL (fun i => L.getD i 0) (w4.drewN k) (HC12.out.1.called (HDR.out k)) (by omega) HOK12.out.1 (by omega) hf1.1 hf1.2
            by_cases hf2 : kindOf (fun i => (L.drop nn).getD i 0) mm = 1 ∨ kindOf (fun i => (L.drop nn).getD i 0) mm = 2 ∨ kindOf (fun i => (L.drop nn).getD i 0) mm = 3
            · have hT := HTR.out.2 ⟨hf1, hf2⟩
              have hso := fun (w5 : World) (hb : Below w4.heap.size w4 w5) => secondOk_yes (some ⟨gL, nn, none⟩) mm (cL - nn) (fun i => (L.drop nn).getD i 0) w5 (HC12.out.2.called hb) (by omega) HOK12.out.2 hf2
              have hcd1 : Coded (fun i => L.getD i 0) nn := ⟨by omega, HOK12.out.1, room_of_kind (.inr hf1.1)⟩
              have hcd2 : Coded (fun i => (L.drop nn).getD i 0) mm := ⟨by omega, HOK12.out.2, room_of_kind hf2⟩
              have htb := fun (w6 : World) (hb : Below w4.heap.size w4 w6) => two_books B fb rb s p4 O most Ty vo vt (some ⟨gL, 0, none⟩) nn cL (fun i => L.getD i 0) w6 (HC12.out.1.called hb) hcd1 (some ⟨gL, nn, none⟩) mm (cL - nn) (fun i => (L.drop nn).getD i 0) (HC12.out.2.called hb) hcd2 (HPS4.out.called hb) hs hp4 hm hO
              have HE := hid_of (HRS.out.trans (if_pos hT))
              rw [← HE.out] at htb
              have HFIN : Hid (∀ w6, Below w4.heap.size w4 w6 → ∀ e w', BlkPost B w6 fb rb s most Ty vo vt res e w' → BlkPost B w fb rb s most Ty vo vt res e w') := fun w6 hb e w' hP => by
                have st := HST4.out.trans (Step.called hb)
                rcases hP with ⟨O', p', vo', y1, y2, y3, y4, y5, y6⟩ | ⟨c, y1, y2, y3⟩
                · exact .inl ⟨O', p', vo', y1, y2, y3, y4, y5, st.trans y6⟩
                · exact .inr ⟨c, y1, y2, (HPS.out.below st).trans y3⟩
              clear HTR HC12 HOK12 HPS4 hcd1 hcd2 hT HRS hf1 hf2 HE HERR
              go_wp2_with fail
              go_quiet (fail)
              go_wp2_with fail
              refine (hfo _).mono ?_
              clear hfo
              rintro e w5 ⟨rfl, hb5⟩
              have hb5' : Below w4.heap.size w4 w5 := bnext (HDR.out _) hb5
              have hso1 := hso w5 hb5'
              have HB5 := hid_of hb5'
              clear hso hb5 hb5' HDR
              go_wp2_with fail
              refine hso1.mono ?_
              clear hso1
              rintro e w6 ⟨rfl, hb6⟩
              have hb6' : Below w4.heap.size w4 w6 := bnext HB5.out hb6
              have htb1 := htb w6 hb6'
              have HF := hid_of (HFIN.out w6 hb6')
              clear htb hb6 hb6' HB5 HFIN
              go_wp2_with fail
              refine htb1.mono ?_
              clear htb1
              rintro e w7 ⟨b1, rfl, htb2⟩
              go_wp2_with fail
              refine htb2.mono ?_
              clear htb2
              rintro e w8 ⟨b2, rfl, htb3⟩
              go_wp2_with fail
              refine htb3.mono ?_
              clear htb3
              intro e w9 hP
              have HP := hid_of (HF.out e w9 hP)
              have hform : (e = .returned .nilIface) ∨ ∃ c, e = .returned (errV c) := by
                rcases hP with ⟨_, _, _, _, _, _, y4, _⟩ | ⟨c, _, y2, _⟩
                · exact .inl y4
                · exact .inr ⟨c, y2⟩
              clear hP HF
              rcases hform with rfl | ⟨c, rfl⟩
              all_goals
                go_wp2_with fail
                go_ret
                exact HP.out
            · have hso := fun (w5 : World) (hb : Below w4.heap.size w4 w5) => secondOk_no (some ⟨gL, nn, none⟩) mm (cL - nn) (fun i => (L.drop nn).getD i 0) w5 (HC12.out.2.called hb) (by omega) HOK12.out.2 hf2
              have hT : ¬ TabRight nn L := fun q => hf2 (HTR.out.1 q).2
              have HER := hid_of (HERR.out · hT)
              clear HTR HC12 HOK12 HPS4 hT HRS hf1 hf2 HERR
              go_wp2_with fail
              go_quiet (fail)
              go_wp2_with fail
              refine (hfo _).mono ?_
              clear hfo
              rintro e w5 ⟨rfl, hb5⟩
              have hb5' : Below w4.heap.size w4 w5 := bnext (HDR.out _) hb5
              have hso1 := hso w5 hb5'
              have HB5 := hid_of hb5'
              clear hso hb5 hb5' HDR
              go_wp2_with fail
              refine hso1.mono ?_
              clear hso1
              rintro e w6 ⟨rfl, hb6⟩
              have HP := hid_of (HER.out w6 (bnext HB5.out hb6))
              clear hb6 HB5 HER
              go_wp2_with fail
              go_ret
              exact HP.out
          · have hfo := fun k => firstOk_no (some ⟨gL, 0, none⟩) nn cL (fun i => L.getD i 0) (w4.drewN k) (HC12.out.1.called (HDR.out k)) (by omega) HOK12.out.1 (by omega) hf1
            have hT : ¬ TabRight nn L := fun q => hf1 (HTR.out.1 q).1
            have HER := hid_of (HERR.out · hT)
            clear HTR HC12 HOK12 HPS4 hT HRS hf1 HERR
            go_wp2_with fail
            go_quiet (fail)
            go_wp2_with fail
            refine (hfo _).mono ?_
            clear hfo
            rintro e w5 ⟨rfl, hb5⟩
            have HP := hid_of (HER.out w5 (bnext (HDR.out _) hb5))
            clear hb5 HDR HER
            go_wp2_with fail
            go_ret
            exact HP.out
        · have HE : Hid (res = .error cc) := by
            show res = _
            rw [HRES.out, HTC.out, hal]
          have HP : Hid (BlkPost B w fb rb s most Ty vo vt res (.returned (errV cc)) w4) := .inr ⟨cc, HE.out, rfl, (HPS.out.below HT3.out).trans hbl⟩
          clear HE HPS HG HRES HT3 hbl hal HTC
          go_wp2_with fail
          go_ret
          exact HP.out
      · have HE : Hid (res = .error cc) := by
          show res = _
          rw [HRES.out, HTB.out]
          split at hcc
          · rename_i q
            rw [if_pos q]
            split at hcc
            · rename_i q2
              cases hcc
              rw [if_pos q2]
            · cases hcc
          · rename_i q
            cases hcc
            rw [if_neg q]
        have HP : Hid (BlkPost B w fb rb s most Ty vo vt res (.returned (errV cc)) w2) := .inr ⟨cc, HE.out, rfl, (HPS.out.below HT1.out).trans hbl⟩
        clear HE HPS HG HRES HT1 HS1 hbl hcc HTB
        go_wp2_with fail
        go_ret
        exact HP.out
  · have htk := take_no B w fb rb s p O most Ty vo vt HPS.out hs hp 14 (by omega) h14
    have HE : Hid (res = .error 2) := by
      show res = _
      rw [HRES.out]
      unfold tablesP
      rw [if_neg h14]
    go_enter Tryz.func117, Tryz.ntmps117
    go_wp2_with fail
    refine htk.mono ?_
    clear htk
    rintro e w1 ⟨rfl, hS1, hg1⟩
    have HP : Hid (BlkPost B w fb rb s most Ty vo vt res (.returned (errV 2)) w1) := .inr ⟨2, HE.out, rfl, HPS.out.below (step_read hg1)⟩
    clear hS1 hg1 HPS HG HRES
    go_wp2_with fail
    go_ret
    exact HP.out
end
end Go.Proofs.YtbcnlggkoidmmaaGreatDoor
