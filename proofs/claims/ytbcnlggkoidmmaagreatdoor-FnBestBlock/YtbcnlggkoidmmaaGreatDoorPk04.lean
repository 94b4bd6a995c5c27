/-
  The walk of the document's model of Expand.
  Plain facts on numbers for bits that are put; nothing here speaks of the program.
  Plain facts on prefix codes that are told by their lengths; nothing here speaks of the program.
  Plain facts on the bits of a text, the lowest of each byte first; nothing here speaks of the program.
-/
import Derived.Test.YtbcnlggkoidmmaaGreatDoorRows
import Derived.Test.YtbcnlggkoidmmaaGreatDoorPk01
import Derived.Test.YtbcnlggkoidmmaaGreatDoorPk02
import Derived.Test.YtbcnlggkoidmmaaGreatDoorPk03
import Derived.WalkKit
import Derived.ProofKit
import Derived.WalkLawsBesides
import Derived.Below
import Derived.Deep.LoopGhost
import Derived.Lib.SmallJoins
import Derived.Laws.BitsAllLaws
namespace Go.Proofs.YtbcnlggkoidmmaaGreatDoor
open Go.RowKit Go.Joins TokMath

/-- What the ring of Expand has at hand. -/
def ExpI (w w' : World) (b : Nat) (L R : List Tok) (s : List Int) (g n cap : Nat) (O : List Int) : Prop := BOwn w' w.heap.size g n cap O ∧ Below w.heap.size w w' ∧ expandL b O R = expandL b s L ∧ b ≤ O.length ∧ O.length ≤ b + 12000
/-- What the inner ring has at hand: its token's box besides. -/
def CopS (w w' : World) (tb : Nat) (x y z : Int) (g n cap : Nat) (O : List Int) : Prop := BOwn w' w.heap.size g n cap O ∧ Below w.heap.size w w' ∧ w'.heap[tb]? = some (.cells #[.int .i64 x, .int .i64 y, .int .i64 z] 57 (0, 0)) ∧ tb ≠ g
theorem cop_next {w w' w1 : World} {tb : Nat} {x y z q : Int} {g n cap g1 cap1 : Nat} {O : List Int} {o : Obj} (h : CopS w w' tb x y z g n cap O) (hO : BOwn w1 w.heap.size g1 (n + 1) cap1 (O ++ [q])) (hg : g1 = g ∨ w'.heap.size + 1 ≤ g1) (hgr : (w'.alloc o).grownBy w1 (some g)) : CopS w w1 tb x y z g1 (n + 1) cap1 (O ++ [q]) := by
  obtain ⟨h1, h2, h3, h4⟩ := h
  have ht := block_lt h3
  have hb := h1.base_le
  have hs := h2.size
  refine ⟨hO, (bal h2 o).grown hgr (by simp; omega) (fun k hk => by cases hk; exact hb), ?_, ?_⟩
  · exact (hgr.block tb (by simp; omega) (fun e => h4 (Option.some.inj e))).trans (((bstart w' o).block tb ht).trans h3)
  · rcases hg with e | e
    · rw [e]; exact h4
    · omega
theorem text_none (w : World) (g c : Nat) : (convert 22 9 (.slice (some ⟨g, 0, none⟩) 0 c)).run Tryz.prog w = .ok (.string (strOfNums [])) w :=
  run_convert_bytes_arg w 22 5 Tryz.underlying22 Tryz.underlying5 g 0 0 c [] rfl (fun i hi => absurd hi (Nat.not_lt_zero i)) 9 Tryz.underlying9
theorem drop_tok {L : List Tok} {i : Nat} (h : i < L.length) : L.drop i = L.getD i (0, 0, 0) :: L.drop (i + 1) := by
  rw [List.drop_eq_getElem_cons h, List.getD_eq_getElem?_getD, List.getElem?_eq_getElem h]
  rfl
theorem exp_bad {b : Nat} {O : List Int} {t : Tok} {R : List Tok} (h : ¬ (TokRight t ∧ t.2.2 ≤ (O.length : Int))) : expandL b O (t :: R) = none := by
  unfold expandL
  rw [if_neg h]
theorem exp_over {b : Nat} {O : List Int} {t : Tok} {R : List Tok} (h : TokRight t ∧ t.2.2 ≤ (O.length : Int)) (hl : ¬ (tokApp O t).length ≤ b + 12000) : expandL b O (t :: R) = none := by
  unfold expandL
  rw [if_pos h, if_neg hl]
theorem exp_on {b : Nat} {O : List Int} {t : Tok} {R : List Tok} (h : TokRight t ∧ t.2.2 ≤ (O.length : Int)) (hl : (tokApp O t).length ≤ b + 12000) : expandL b O (t :: R) = expandL b (tokApp O t) R := by
  conv => lhs; unfold expandL
  rw [if_pos h, if_pos hl]
theorem wrap_byte {x : Int} (h0 : 0 ≤ x) (h1 : x ≤ 255) : IntKind.u8.wrap x = x := by
  simp [IntKind.wrap, IntKind.bits, IntKind.signed]
  omega

set_option maxHeartbeats 4000000 in
theorem specExpand (s : ByteArray) (a : Option Addr) (c : Nat) (L : List Tok) (w : World) (hL : TCame w a L.length (fun j => L.getD j (0, 0, 0))) (hn : L.length ≤ 1048576) (hs : s.size ≤ 1048576) :
    Calls Tryz.prog 9 #[.string s, .slice a L.length c] w (ExpPost w (expandOf s L)) := by
  have HL := hid_of hL
  clear hL
  by_cases hb : s.size ≤ 12000
  · have e0 : expandOf s L = expandL s.size (bytesOf s) L := by
      unfold expandOf
      rw [if_pos hb]
    rw [e0]
    obtain ⟨b, hbe⟩ : ∃ b, b = s.size := ⟨_, rfl⟩
    obtain ⟨W1, cap, hcv, hO, hB⟩ := bown_of_text w s hs
    have H0 : Hid (ExpI w W1 s.size L (L.drop 0) (bytesOf s) w.heap.size s.size cap (bytesOf s)) := ⟨hO, hB, rfl, by rw [bytesOf_length]; exact Nat.le_refl _, by rw [bytesOf_length]; omega⟩
    have d1 : decide ((12000 : Int) < (s.size : Int)) = false := decide_eq_false (by omega)
    have d2 : decide (12000 < s.size) = false := decide_eq_false (by omega)
    clear e0 hO hB
    go_enter Tryz.func9, Tryz.ntmps9
    go_wp2_with fail
    go_loopg [6, 7] (L.length + 1) (fun gk v y w' => ∃ (i g n cp : Nat) (O : List Int), v = .slice (some ⟨g, 0, none⟩) n cp ∧ i ≤ L.length ∧ y = .int .i64 i ∧ L.length - i ≤ gk ∧ s.size ≤ n ∧ n ≤ s.size + 12000 ∧ Hid (n = O.length ∧ ExpI w w' s.size L (L.drop i) (bytesOf s) g n cp O))
    case atStart => exact ⟨0, w.heap.size, s.size, cap, bytesOf s, rfl, Nat.zero_le _, rfl, by omega, Nat.le_refl _, by omega, (bytesOf_length s).symm, H0.out⟩
    case round =>
      clear H0 hcv
      obtain ⟨i, g, n, cp, O, rfl, hi, rfl, hgk, hsn, hnn, hS⟩ := hrel
      by_cases hlt : i < L.length
      · have HB := hid_of hS.out.2.2.1
        rcases HL.out with h0 | ⟨ga, off, rfl, hga, hc⟩
        · omega
        obtain ⟨c0, c1, c2⟩ : w.cell? ⟨ga, off + i * 3, none⟩ = some (.int .i64 (L.getD i (0, 0, 0)).1) ∧ w.cell? ⟨ga, off + i * 3 + 1, none⟩ = some (.int .i64 (L.getD i (0, 0, 0)).2.1) ∧ w.cell? ⟨ga, off + i * 3 + 2, none⟩ = some (.int .i64 (L.getD i (0, 0, 0)).2.2) := hc i hlt
        have HD := hid_of (drop_tok hlt)
        obtain ⟨⟨x, y, z⟩, hr⟩ : ∃ r, r = L.getD i (0, 0, 0) := ⟨_, rfl⟩
        rw [← hr] at c0 c1 c2
        have HDR : Hid (expandL s.size (bytesOf s) L = expandL s.size O ((x, y, z) :: L.drop (i + 1))) := by
          have h := hS.out.2.2.2.1
          rw [HD.out, ← hr] at h
          exact h.symm
        have f0 : wr.cell? ⟨ga, off + i * 3, none⟩ = some (.int .i64 x) := (HB.out.cell (p := ⟨ga, off + i * 3, none⟩) hga).trans c0
        have f1 : wr.cell? ⟨ga, off + i * 3 + 1, none⟩ = some (.int .i64 y) := (HB.out.cell (p := ⟨ga, off + i * 3 + 1, none⟩) hga).trans c1
        have f2 : wr.cell? ⟨ga, off + i * 3 + 2, none⟩ = some (.int .i64 z) := (HB.out.cell (p := ⟨ga, off + i * 3 + 2, none⟩) hga).trans c2
        have hl2 : ga < wr.heap.size := Nat.lt_of_lt_of_le hga HB.out.size
        have htk := specTokenOk x y z (wr.alloc (.cells #[.int .i64 x, .int .i64 y, .int .i64 z] 57))
        have HCS : Hid (CopS w (wr.alloc (.cells #[.int .i64 x, .int .i64 y, .int .i64 z] 57)) wr.heap.size x y z g n cp O) := by
          refine ⟨hS.out.2.1.called (bstart _ _), bal HB.out _, heap_alloc_new wr _, ?_⟩
          have := hS.out.2.1.lt
          omega
        have HN := hid_of hS.out.1
        clear hc c0 c1 c2 hr HD
        by_cases hright : TokRight (x, y, z)
        · have HR := hid_of hright
          go_wp2_with fail
          refine htk.mono ?_
          rintro e w2 ⟨rfl, hB2⟩
          clear htk
          have HC2 : Hid (CopS w w2 wr.heap.size x y z g n cp O) := by
            obtain ⟨q1, q2, q3, q4⟩ := HCS.out
            exact ⟨q1.called hB2, bnext q2 hB2, (hB2.block _ (block_lt q3)).trans q3, q4⟩
          rw [decide_eq_true hright]
          have m0 := cell_of_block HC2.out.2.2.1 0
          have m1 := cell_of_block HC2.out.2.2.1 1
          have m2 := cell_of_block HC2.out.2.2.1 2
          have mt := block_lt HC2.out.2.2.1
          have hs2 := HC2.out.2.1.size
          clear hB2 HCS
          obtain ⟨tb, htb⟩ : ∃ tb, tb = wr.heap.size := ⟨_, rfl⟩
          rw [← htb] at HC2 m0 m1 m2 mt
          rw [← htb]
          clear htb f0 f1 f2
          by_cases hz : z ≤ (n : Int)
          · have dz : decide ((n : Int) < z) = false := decide_eq_false (by omega)
            have HG : Hid (TokRight (x, y, z) ∧ z ≤ (O.length : Int)) := ⟨hright, by rw [← HN.out]; exact hz⟩
            by_cases hy : y = 0
            · subst hy
              have hxr := (tok_byte x z).mp hright
              have hx0 := hxr.1.1
              have hx1 := hxr.1.2
              have HAP : Hid (tokApp O (x, 0, z) = O ++ [x]) := by
                show tokApp O (x, 0, z) = O ++ [x]
                unfold tokApp
                rw [if_pos rfl]
              have hw8 : IntKind.u8.wrap x = x := wrap_byte hx0 hx1
              clear hxr hright
              go_wp2_with (at_builtin; refine bytes_append (base := w.heap.size) (O := O) rfl _ _ rfl rfl (HC2.out.1.called (bstart _ _)) w2.heap.size 1 x rfl (by simp) (by omega) ?_)
              intro g1 cap1 w5 y1 y2 y3
              have HC5 : Hid (CopS w w5 tb x 0 z g1 (n + 1) cap1 (O ++ [x])) := cop_next HC2.out y1 (by simpa using y2) y3
              clear y1 y2 y3 m0 m1 m2 mt hs2 HC2
              go_wp2_with fail
              go_loopg [6, 9] 1 (fun gk v y w' => v = .slice (some ⟨g1, 0, none⟩) (n + 1) cap1 ∧ y = .int .i64 0 ∧ Hid (CopS w w' tb x 0 z g1 (n + 1) cap1 (O ++ [x])))
              case atStart => exact ⟨rfl, rfl, HC5⟩
              case round =>
                clear HC5
                obtain ⟨rfl, rfl, hS2⟩ := hrel
                have m1 := cell_of_block hS2.out.2.2.1 1
                have mt := block_lt hS2.out.2.2.1
                by_cases hov : n + 1 ≤ s.size + 12000
                · have do1 : decide ((12000 : Int) < (n : Int) + 1 - (s.size : Int)) = false := decide_eq_false (by omega)
                  have do2 : ¬ (12000 : Int) < (n : Int) + 1 - (s.size : Int) := by omega
                  have HNX : Hid (n + 1 = (O ++ [x]).length ∧ ExpI w wr s.size L (L.drop (i + 1)) (bytesOf s) g1 (n + 1) cap1 (O ++ [x])) := by
                    have hl : (O ++ [x]).length = n + 1 := by rw [List.length_append, List.length_singleton, HN.out]
                    refine ⟨hl.symm, hS2.out.1, hS2.out.2.1, ?_, by omega, by omega⟩
                    rw [HDR.out, exp_on HG.out (by rw [HAP.out, hl]; exact hov), HAP.out]
                  go_wp2_with fail
                  go_roundg (L.length - (i + 1))
                  case measure => omega
                  case rel => exact ⟨i + 1, g1, n + 1, cap1, O ++ [x], rfl, by omega, by go_num, Nat.le_refl _, by omega, by omega, HNX⟩
                · have do1 : decide ((12000 : Int) < (n : Int) + 1 - (s.size : Int)) = true := decide_eq_true (by omega)
                  have do2 : (12000 : Int) < (n : Int) + 1 - (s.size : Int) := by omega
                  have HNX : Hid (Below w.heap.size w wr ∧ expandL s.size (bytesOf s) L = none) := by
                    have hl : (O ++ [x]).length = n + 1 := by rw [List.length_append, List.length_singleton, HN.out]
                    refine ⟨hS2.out.2.1, ?_⟩
                    rw [HDR.out, exp_over HG.out (by rw [HAP.out, hl]; exact hov)]
                  go_wp2_with fail
                  go_ret2
                  have hq := HNX.out.2
                  rw [hq]
                  exact ⟨HNX.out.1, rfl⟩
            · have hxr := (tok_rep hy).mp hright
              obtain ⟨T, hT⟩ := Int.eq_ofNat_of_zero_le (show 0 ≤ y by omega)
              obtain ⟨d, hd⟩ := Int.eq_ofNat_of_zero_le (show 0 ≤ z by omega)
              subst hT hd
              have hT3 : 3 ≤ T ∧ T ≤ 258 := by omega
              have hd1 : 1 ≤ d := by omega
              have hdn : d ≤ n := by omega
              have HAP : Hid (tokApp O (x, (T : Int), (d : Int)) = copyN d T O) := by
                show tokApp O (x, (T : Int), (d : Int)) = copyN d T O
                unfold tokApp
                rw [if_neg hy]
                rfl
              have dy : ((T : Int) == 0) = false := by simp; omega
              have dT : (T == 0) = false := by simp; omega
              have dz2 : decide (n < d) = false := decide_eq_false (by omega)
              clear hxr hright hy
              have HC5 : Hid (CopS w w2 tb x (T : Int) (d : Int) g n cp (copyN d 0 O)) := HC2
              clear HC2
              go_wp2_with fail
              go_loopg [6, 9] (T + 1) (fun gk v y w' => ∃ (j g2 n2 cp2 : Nat), v = .slice (some ⟨g2, 0, none⟩) n2 cp2 ∧ j ≤ T ∧ y = .int .i64 j ∧ T - j ≤ gk ∧ n ≤ n2 ∧ n2 ≤ n + 258 ∧ Hid (n2 = n + j ∧ CopS w w' tb x (T : Int) (d : Int) g2 n2 cp2 (copyN d j O)))
              case atStart => exact ⟨0, g, n, cp, rfl, Nat.zero_le _, rfl, by omega, Nat.le_refl _, by omega, rfl, HC5.out⟩
              case round =>
                clear HC5 m0 m1 m2 mt
                obtain ⟨j, g2, n2, cp2, rfl, hj, rfl, hgk2, hn2, hn3, hS2⟩ := hrel
                have m1 := cell_of_block hS2.out.2.2.2.1 1
                have m2 := cell_of_block hS2.out.2.2.2.1 2
                have mt := block_lt hS2.out.2.2.2.1
                have mg := hS2.out.2.1.lt
                by_cases hjt : j < T
                · have dj : decide ((j : Int) < (T : Int)) = true := decide_eq_true (by omega)
                  have k1 : ((n2 : Int) - (d : Int)).toNat = n2 - d := by omega
                  have k2 : (0 : Int) ≤ (n2 : Int) - (d : Int) := by omega
                  have k3 : (n2 : Int) - (d : Int) < (n2 : Int) := by omega
                  have k4 : n2 - d < n2 := by omega
                  have cq := hS2.out.2.1.cell (n2 - d) (by omega)
                  obtain ⟨q, hq⟩ : ∃ q, q = (copyN d j O).getD (n2 - d) 0 := ⟨_, rfl⟩
                  rw [← hq] at cq
                  have HQ : Hid (copyN d (j + 1) O = copyN d j O ++ [q]) := by
                    show copyN d (j + 1) O = copyN d j O ++ [q]
                    rw [copy_snoc, ← hS2.out.2.1.1, hq]
                  have hss := hS2.out.2.2.1.size
                  clear hq
                  go_wp2_with (at_builtin; refine bytes_append (base := w.heap.size) (O := copyN d j O) rfl _ _ rfl rfl (hS2.out.2.1.called (bstart _ _)) wr.heap.size 1 q rfl (by simp) (by omega) ?_)
                  intro g1 cap1 w5 y1 y2 y3
                  have HC5 : Hid (CopS w w5 tb x (T : Int) (d : Int) g1 (n2 + 1) cap1 (copyN d (j + 1) O)) := by
                    rw [HQ.out]
                    exact cop_next hS2.out.2 y1 (by simpa using y2) y3
                  clear y1 y2 y3
                  go_wp2_with fail
                  go_roundg (T - (j + 1))
                  case measure => omega
                  case rel => exact ⟨j + 1, g1, n2 + 1, cap1, rfl, by omega, by go_num, Nat.le_refl _, by omega, by have := hS2.out.1; omega, by have := hS2.out.1; omega, HC5.out⟩
                · obtain rfl : j = T := by omega
                  have dj : decide ((j : Int) < (j : Int)) = false := decide_eq_false (by omega)
                  have hl : (copyN d j O).length = n2 := hS2.out.2.1.1.symm
                  by_cases hov : n2 ≤ s.size + 12000
                  · have do1 : decide ((12000 : Int) < (n2 : Int) - (s.size : Int)) = false := decide_eq_false (by omega)
                    have do2 : ¬ (12000 : Int) < (n2 : Int) - (s.size : Int) := by omega
                    have HNX : Hid (n2 = (copyN d j O).length ∧ ExpI w wr s.size L (L.drop (i + 1)) (bytesOf s) g2 n2 cp2 (copyN d j O)) := by
                      refine ⟨hl.symm, hS2.out.2.1, hS2.out.2.2.1, ?_, by omega, by omega⟩
                      rw [HDR.out, exp_on HG.out (by rw [HAP.out, hl]; exact hov), HAP.out]
                    clear hl
                    go_wp2_with fail
                    go_roundg (L.length - (i + 1))
                    case measure => omega
                    case rel => exact ⟨i + 1, g2, n2, cp2, copyN d j O, rfl, by omega, by go_num, Nat.le_refl _, by omega, by omega, HNX⟩
                  · have do1 : decide ((12000 : Int) < (n2 : Int) - (s.size : Int)) = true := decide_eq_true (by omega)
                    have do2 : (12000 : Int) < (n2 : Int) - (s.size : Int) := by omega
                    have HNX : Hid (Below w.heap.size w wr ∧ expandL s.size (bytesOf s) L = none) := by
                      refine ⟨hS2.out.2.2.1, ?_⟩
                      rw [HDR.out, exp_over HG.out (by rw [HAP.out, hl]; exact hov)]
                    clear hl
                    go_wp2_with fail
                    go_ret2
                    have hq := HNX.out.2
                    rw [hq]
                    exact ⟨HNX.out.1, rfl⟩
          · have dz : decide ((n : Int) < z) = true := decide_eq_true (by omega)
            have HNX : Hid (Below w.heap.size w w2 ∧ expandL s.size (bytesOf s) L = none) := by
              refine ⟨HC2.out.2.1, ?_⟩
              rw [HDR.out, exp_bad]
              rintro ⟨_, k⟩
              rw [← HN.out] at k
              exact hz k
            clear hright
            go_wp2_with fail
            go_ret2
            have hq := HNX.out.2
            rw [hq]
            exact ⟨HNX.out.1, rfl⟩
        · have HR := hid_of hright
          go_wp2_with fail
          refine htk.mono ?_
          rintro e w2 ⟨rfl, hB2⟩
          clear htk
          have HNX : Hid (Below w.heap.size w w2 ∧ expandL s.size (bytesOf s) L = none) := by
            refine ⟨bnext HCS.out.2.1 hB2, ?_⟩
            rw [HDR.out, exp_bad (fun k => HR.out k.1)]
          rw [decide_eq_false hright]
          clear hB2 HCS hright
          go_wp2_with fail
          go_ret2
          have hq := HNX.out.2
          rw [hq]
          exact ⟨HNX.out.1, rfl⟩
      · obtain rfl : i = L.length := by omega
        have hrm := hS.out.2.1.room
        have HZ : Hid (Below w.heap.size w wr ∧ expandL s.size (bytesOf s) L = some (O.drop s.size)) := by
          have h := hS.out.2.2.2.1
          rw [List.drop_length] at h
          exact ⟨hS.out.2.2.1, h.symm⟩
        by_cases hcp : cp = s.size
        · obtain rfl : n = s.size := by omega
          have hct := text_none wr g 0
          have HE : Hid (O.drop s.size = []) := List.drop_of_length_le (by have := hS.out.1; omega)
          subst hcp
          go_wp2_with fail
          go_ret2
          have hq := HZ.out.2
          rw [hq, HE.out]
          exact ⟨HZ.out.1, rfl⟩
        · have hct := bown_text (c := cp - s.size) hS.out.2.1 hsn
          go_wp2_with fail
          go_ret2
          have hq := HZ.out.2
          rw [hq]
          exact ⟨HZ.out.1, rfl⟩
  · have e0 : expandOf s L = none := by
      unfold expandOf
      rw [if_neg hb]
    rw [e0]
    have d1 : decide ((12000 : Int) < (s.size : Int)) = true := decide_eq_true (by omega)
    have d2 : decide (12000 < s.size) = true := decide_eq_true (by omega)
    go_enter Tryz.func9, Tryz.ntmps9
    go_wp2_with fail
    go_ret2
    exact ⟨Below.refl _ _, rfl⟩

end Go.Proofs.YtbcnlggkoidmmaaGreatDoor

namespace Go.Proofs.YtbcnlggkoidmmaaGreatDoor
namespace OutMath

/-- Two to the power n, behind a name. -/
def p2 (n : Nat) : Int := 2 ^ n
theorem p2_zero : p2 0 = 1 := by simp [p2]
theorem p2_succ (n : Nat) : p2 (n + 1) = 2 * p2 n := by unfold p2; rw [Int.pow_succ]; omega
theorem p2_pos : ∀ n, 1 ≤ p2 n
  | 0 => by simp [p2]
  | n + 1 => by have := p2_pos n; rw [p2_succ]; omega
theorem p2_mono (n : Nat) : ∀ m, p2 n ≤ p2 (n + m)
  | 0 => by simp
  | m + 1 => by have := p2_mono n m; have h := p2_pos (n + m); rw [← Nat.add_assoc, p2_succ]; omega
theorem p2_le {n m : Nat} (h : n ≤ m) : p2 n ≤ p2 m := by
  obtain ⟨k, rfl⟩ := Nat.exists_eq_add_of_le h
  exact p2_mono n k
theorem p2_61 {n : Nat} (h : n ≤ 61) : p2 n ≤ 2305843009213693952 := by
  have h1 := p2_le h
  have h2 : p2 61 = 2305843009213693952 := by decide +kernel
  omega
theorem p2_nat (n : Nat) : p2 n = ((2 ^ n : Nat) : Int) := by unfold p2; simp

/-- The last byte, 0 of an empty text. -/
def last (s : ByteArray) : Nat := (s.data[s.size - 1]?.getD 0).toNat
theorem last_at (s : ByteArray) (h : s.size - 1 < s.size) : (s[s.size - 1]'h).toNat = last s := by
  unfold last
  have h' : s.size - 1 < s.data.size := h
  rw [Array.getElem?_eq_getElem h']
  rfl
theorem last_lt (s : ByteArray) : last s < 256 := UInt8.toNat_lt _

/-- The number of bytes fits the number of bits. -/
def Fits (s : ByteArray) (c : Int) : Prop := s.size ≤ 12000 ∧ 0 ≤ c ∧ c ≤ 8 * s.size ∧ (c + 7) / 8 = s.size

/-- The bits of the last byte that were not put are 0. -/
def lastOk (s : ByteArray) (c : Int) : Bool := decide (((last s : Nat) : Int) < p2 (c % 8).toNat)

theorem lastOk_div (s : ByteArray) (c : Int) : lastOk s c = (((last s : Nat) : Int) / 2 ^ (c % 8).toNat == 0) := by
  unfold lastOk
  have e : p2 (c % 8).toNat = 2 ^ (c % 8).toNat := rfl
  have hp := p2_pos (c % 8).toNat
  rw [← e]
  generalize p2 (c % 8).toNat = q at *
  rw [Bool.eq_iff_iff]
  simp only [decide_eq_true_eq, beq_iff_eq]
  constructor
  · intro h; exact Int.ediv_eq_zero_of_lt (by omega) h
  · intro h
    have := Int.lt_mul_ediv_self_add (x := ((last s : Nat) : Int)) (show 0 < q by omega)
    rw [h] at this
    omega

/-- A right Out. -/
def outB (s : ByteArray) (c : Int) : Bool := decide (s.size ≤ 12000 ∧ 0 ≤ c ∧ c ≤ 8 * s.size ∧ (c + 7) / 8 = s.size) && (decide (c % 8 = 0) || lastOk s c)
theorem outB_no (s : ByteArray) (c : Int) (h : ¬ Fits s c) : outB s c = false := by
  have h' : ¬ (s.size ≤ 12000 ∧ 0 ≤ c ∧ c ≤ 8 * s.size ∧ (c + 7) / 8 = s.size) := h
  unfold outB
  rw [decide_eq_false h']
  rfl
theorem outB_fit0 (s : ByteArray) (c : Int) (h : Fits s c) (hc : c % 8 = 0) : outB s c = true := by
  have h' : s.size ≤ 12000 ∧ 0 ≤ c ∧ c ≤ 8 * s.size ∧ (c + 7) / 8 = s.size := h
  unfold outB
  rw [decide_eq_true h', decide_eq_true hc]
  rfl
theorem outB_fit1 (s : ByteArray) (c : Int) (h : Fits s c) (hc : ¬ c % 8 = 0) : outB s c = lastOk s c := by
  have h' : s.size ≤ 12000 ∧ 0 ≤ c ∧ c ≤ 8 * s.size ∧ (c + 7) / 8 = s.size := h
  unfold outB
  rw [decide_eq_true h', decide_eq_false hc]
  rfl
theorem fits_of_outB (s : ByteArray) (c : Int) (h : outB s c = true) : Fits s c := by
  refine Classical.byContradiction fun hn => ?_
  rw [outB_no s c hn] at h
  cases h

end OutMath
end Go.Proofs.YtbcnlggkoidmmaaGreatDoor

namespace Go.Proofs.YtbcnlggkoidmmaaGreatDoor
namespace CodeMath
open OutMath

/-- All lengths are in 0 .. 15. -/
def OkLens (f : Nat → Int) (n : Nat) : Prop := ∀ i, i < n → 0 ≤ f i ∧ f i ≤ 15
/-- To what the first k lengths are full. -/
def room (f : Nat → Int) : Nat → Int
  | 0 => 0
  | k + 1 => room f k + (if 0 < f k then p2 (15 - f k).toNat else 0)
/-- How many of the first k are not 0. -/
def cnt (f : Nat → Int) : Nat → Int
  | 0 => 0
  | k + 1 => cnt f k + (if 0 < f k then 1 else 0)
/-- How many of the first k are s. -/
def cntS (f : Nat → Int) (s : Int) : Nat → Int
  | 0 => 0
  | k + 1 => cntS f s k + (if f k = s then 1 else 0)
/-- The number behind the last code of length s. -/
def nx (f : Nat → Int) (n : Nat) : Nat → Int
  | 0 => 0
  | s + 1 => 2 * nx f n s + cntS f ((s + 1 : Nat) : Int) n
/-- The code of symbol i. -/
def codeOf (f : Nat → Int) (n i : Nat) : Int := if f i ≤ 0 then 0 else 2 * nx f n ((f i).toNat - 1) + cntS f (f i) i

theorem room_bd (f : Nat → Int) : ∀ k, 0 ≤ room f k ∧ (OkLens f k → room f k ≤ 16384 * k)
  | 0 => by simp [room]
  | k + 1 => by
    have h := room_bd f k
    have hp := p2_pos (15 - f k).toNat
    refine ⟨by unfold room; split <;> omega, fun ho => ?_⟩
    have h2 := h.2 (fun i hi => ho i (by omega))
    have h3 := ho k (by omega)
    have h4 : 0 < f k → p2 (15 - f k).toNat ≤ 16384 := fun hf => by
      have := p2_le (show (15 - f k).toNat ≤ 14 by omega)
      have e : p2 14 = 16384 := by decide +kernel
      omega
    unfold room
    split
    · have := h4 (by assumption); omega
    · omega
theorem cnt_bd (f : Nat → Int) : ∀ k : Nat, 0 ≤ cnt f k ∧ cnt f k ≤ k
  | 0 => by simp [cnt]
  | k + 1 => by have h := cnt_bd f k; unfold cnt; split <;> omega
theorem cntS_bd (f : Nat → Int) (s : Int) : ∀ k : Nat, 0 ≤ cntS f s k ∧ cntS f s k ≤ k
  | 0 => by simp [cntS]
  | k + 1 => by have h := cntS_bd f s k; unfold cntS; split <;> omega
theorem cntS_mono (f : Nat → Int) (s : Int) {a : Nat} : ∀ {b : Nat}, a ≤ b → cntS f s a ≤ cntS f s b
  | 0, h => by have : a = 0 := by omega
               subst this; omega
  | b + 1, h => by
    by_cases e : a = b + 1
    · subst e; omega
    · have := cntS_mono f s (show a ≤ b by omega)
      show cntS f s a ≤ cntS f s b + (if f b = s then 1 else 0)
      split <;> omega
theorem cntS_lt (f : Nat → Int) (s : Int) {i n : Nat} (h : i < n) (e : f i = s) : cntS f s i < cntS f s n := by
  have h1 := cntS_mono f s (show i + 1 ≤ n by omega)
  have h2 : cntS f s (i + 1) = cntS f s i + 1 := by
    show cntS f s i + (if f i = s then 1 else 0) = _
    rw [if_pos e]
  omega
theorem nx_bd (f : Nat → Int) (n : Nat) (hn : n ≤ 288) : ∀ s, 0 ≤ nx f n s ∧ nx f n s + 288 ≤ 288 * p2 s
  | 0 => by simp [nx, p2]
  | s + 1 => by
    have h := nx_bd f n hn s
    have hc := cntS_bd f ((s + 1 : Nat) : Int) n
    show 0 ≤ 2 * nx f n s + cntS f ((s + 1 : Nat) : Int) n ∧ 2 * nx f n s + cntS f ((s + 1 : Nat) : Int) n + 288 ≤ _
    rw [p2_succ]
    omega
theorem nx_lt (f : Nat → Int) (n : Nat) (hn : n ≤ 288) (s : Nat) (hs : s ≤ 15) : 0 ≤ nx f n s ∧ nx f n s ≤ 9437184 := by
  have h := nx_bd f n hn s
  have h2 := p2_le hs
  have e : p2 15 = 32768 := by decide +kernel
  omega

/-- The kind of n lengths that are right. -/
def kindOf (f : Nat → Int) (n : Nat) : Int :=
  if cnt f n = 0 then 1 else if room f n = 32768 then 2 else if 32768 < room f n then 5 else if cnt f n = 1 ∧ room f n = 16384 then 3 else 4

/-- What the lengths say: they are not right, or their kind. -/
def Kind (f : Nat → Int) (n : Nat) (k : Int) : Prop := (k = 0 ∧ ¬ (n ≤ 288 ∧ OkLens f n)) ∨ (n ≤ 288 ∧ OkLens f n ∧ k = kindOf f n)
theorem kindOf_bd (f : Nat → Int) (n : Nat) : 1 ≤ kindOf f n ∧ kindOf f n ≤ 5 := by
  unfold kindOf
  split
  · omega
  · split
    · omega
    · split
      · omega
      · split <;> omega
theorem kind_one {f : Nat → Int} {n : Nat} {k k' : Int} (h : Kind f n k) (h' : Kind f n k') : k = k' := by
  rcases h with ⟨h1, h2⟩ | ⟨h1, h2, h3⟩ <;> rcases h' with ⟨g1, g2⟩ | ⟨g1, g2, g3⟩
  · omega
  · exact absurd ⟨g1, g2⟩ h2
  · exact absurd ⟨h1, h2⟩ g2
  · omega

/-- What is written when lengths below s, and the first i of length s, are gone through. -/
def outAt (f : Nat → Int) (n : Nat) (s : Int) (i : Nat) : Nat → Int := fun j => if 0 < f j ∧ (f j < s ∨ f j = s ∧ j < i) then codeOf f n j else 0

theorem outAt_start (f : Nat → Int) (n j : Nat) : outAt f n 1 0 j = 0 := by
  unfold outAt
  rw [if_neg (by omega)]
theorem outAt_here (f : Nat → Int) (n : Nat) (t j : Nat) (ht : 1 ≤ t) (e : f j = (t : Int)) (i : Nat) : (if i = j then 2 * nx f n (t - 1) + cntS f (t : Int) j else outAt f n t j i) = outAt f n t (j + 1) i := by
  by_cases hij : i = j
  · subst hij
    rw [if_pos rfl]
    unfold outAt
    rw [if_pos (by omega)]
    unfold codeOf
    rw [if_neg (by omega), e, Int.toNat_natCast]
  · rw [if_neg hij]
    unfold outAt
    by_cases h : 0 < f i ∧ (f i < (t : Int) ∨ f i = (t : Int) ∧ i < j)
    · rw [if_pos h, if_pos (by omega)]
    · rw [if_neg h, if_neg (by omega)]
theorem outAt_skip (f : Nat → Int) (n : Nat) (t j : Nat) (e : ¬ f j = (t : Int)) (i : Nat) : outAt f n t j i = outAt f n t (j + 1) i := by
  unfold outAt
  by_cases h : 0 < f i ∧ (f i < (t : Int) ∨ f i = (t : Int) ∧ i < j)
  · rw [if_pos h, if_pos (by omega)]
  · rw [if_neg h, if_neg ?_]
    intro k
    by_cases hij : i = j
    · subst hij; omega
    · omega
theorem outAt_turn (f : Nat → Int) (n t i : Nat) (hi : i < n) : outAt f n t n i = outAt f n ((t + 1 : Nat) : Int) 0 i := by
  unfold outAt
  by_cases h : 0 < f i ∧ (f i < (t : Int) ∨ f i = (t : Int) ∧ i < n)
  · rw [if_pos h, if_pos (by omega)]
  · rw [if_neg h, if_neg (by omega)]
theorem outAt_end (f : Nat → Int) (n i : Nat) (h : f i ≤ 15) : outAt f n ((16 : Nat) : Int) 0 i = codeOf f n i := by
  unfold outAt
  by_cases k : 0 < f i
  · rw [if_pos (by omega)]
  · rw [if_neg (by omega)]
    unfold codeOf
    rw [if_pos (by omega)]
theorem nx_step (f : Nat → Int) (n t : Nat) (ht : 1 ≤ t) : 2 * nx f n (t - 1) + cntS f (t : Int) n = nx f n t := by
  obtain ⟨s, rfl⟩ : ∃ s, t = s + 1 := ⟨t - 1, by omega⟩
  rfl

/-- Lengths that have codes. -/
def Coded (f : Nat → Int) (n : Nat) : Prop := n ≤ 288 ∧ OkLens f n ∧ room f n ≤ 32768
theorem room_of_cnt (f : Nat → Int) : ∀ k, cnt f k = 0 → room f k = 0
  | 0, _ => rfl
  | k + 1, h => by
    have hb := cnt_bd f k
    have h' : cnt f k + (if 0 < f k then 1 else 0) = 0 := h
    by_cases hp : 0 < f k
    · rw [if_pos hp] at h'; omega
    · rw [if_neg hp] at h'
      show room f k + (if 0 < f k then p2 (15 - f k).toNat else 0) = 0
      rw [if_neg hp, room_of_cnt f k (by omega)]
      rfl
theorem kind_good {f : Nat → Int} {n : Nat} {k : Int} (h : Kind f n k) (hG : Coded f n) : k ≠ 0 ∧ k ≠ 5 := by
  obtain ⟨h1, h2, h3⟩ := hG
  rcases h with ⟨_, h⟩ | ⟨_, _, h⟩
  · exact absurd ⟨h1, h2⟩ h
  · have hb := kindOf_bd f n
    refine ⟨by omega, ?_⟩
    rw [h]
    unfold kindOf
    split
    · omega
    · split
      · omega
      · rw [if_neg (by omega)]
        split <;> omega
theorem kind_bad {f : Nat → Int} {n : Nat} {k : Int} (h : Kind f n k) (hB : ¬ Coded f n) : k = 0 ∨ k = 5 := by
  rcases h with ⟨h, _⟩ | ⟨h1, h2, h⟩
  · exact .inl h
  · right
    have hr : 32768 < room f n := by
      by_cases hq : 32768 < room f n
      · exact hq
      · exact absurd ⟨h1, h2, by omega⟩ hB
    have hc : ¬ cnt f n = 0 := fun e => by have := room_of_cnt f n e; omega
    rw [h]
    unfold kindOf
    rw [if_neg hc, if_neg (by omega), if_pos hr]

/-- The sum of count times length. -/
def cost (f c : Nat → Int) : Nat → Int
  | 0 => 0
  | k + 1 => cost f c k + c k * f k
end CodeMath
end Go.Proofs.YtbcnlggkoidmmaaGreatDoor

namespace Go.Proofs.YtbcnlggkoidmmaaGreatDoor
namespace TakeMath
open OutMath

def byteAt (s : ByteArray) (i : Nat) : Nat := (s.data[i]?.getD 0).toNat
theorem byteAt_lt (s : ByteArray) (i : Nat) : byteAt s i < 256 := UInt8.toNat_lt _
theorem byteAt_get (s : ByteArray) (i : Nat) (h : i < s.size) : (s[i]'h).toNat = byteAt s i := by
  unfold byteAt
  have h' : i < s.data.size := h
  rw [Array.getElem?_eq_getElem h']
  rfl

/-- Bit i of a text. -/
def bit (s : ByteArray) (i : Nat) : Int := (byteAt s (i / 8) : Int) / p2 (i % 8) % 2
theorem bit_01 (s : ByteArray) (i : Nat) : 0 ≤ bit s i ∧ bit s i ≤ 1 := by unfold bit; omega

/-- The number whose bits, the lowest first, are the k from bit a on. -/
def num (s : ByteArray) (a : Nat) : Nat → Int
  | 0 => 0
  | k + 1 => num s a k + bit s (a + k) * p2 k
theorem mul01 (b q : Int) (h0 : 0 ≤ b) (h1 : b ≤ 1) (hq : 1 ≤ q) : 0 ≤ b * q ∧ b * q ≤ q := by
  have : b = 0 ∨ b = 1 := by omega
  rcases this with rfl | rfl <;> omega
theorem num_bd (s : ByteArray) (a : Nat) : ∀ k, 0 ≤ num s a k ∧ num s a k < p2 k
  | 0 => by simp [num, p2]
  | k + 1 => by
    have h := num_bd s a k
    have hb := bit_01 s (a + k)
    have hm := mul01 _ _ hb.1 hb.2 (p2_pos k)
    unfold num
    rw [p2_succ]
    omega

theorem p2_24 {n : Nat} (h : n ≤ 24) : p2 n ≤ 16777216 := by
  have h1 := p2_le h
  have h2 : p2 24 = 16777216 := by decide +kernel
  omega

theorem div_bd (x : Nat) (q : Int) (hq : 1 ≤ q) : 0 ≤ (x : Int) / q ∧ (x : Int) / q ≤ x := ⟨Int.ediv_nonneg (by omega) (by omega), Int.ediv_le_self _ (by omega)⟩
theorem bit_walk (s : ByteArray) (i : Nat) : (Go.RowKit.wrap64 ((byteAt s (i / 8) : Int) / p2 (i % 8))).tmod 2 = bit s i := by
  have h := div_bd (byteAt s (i / 8)) (p2 (i % 8)) (p2_pos _)
  have hb := byteAt_lt s (i / 8)
  have e : Go.RowKit.wrap64 ((byteAt s (i / 8) : Int) / p2 (i % 8)) = (byteAt s (i / 8) : Int) / p2 (i % 8) := by
    unfold Go.RowKit.wrap64; omega
  rw [e, Int.tmod_eq_emod_of_nonneg h.1]
  rfl

theorem i64_and_nat (a b : Nat) (ha : a < 9223372036854775808) (hb : b < 9223372036854775808) : bits .and .i64 (a : Int) (b : Int) = ((a &&& b : Nat) : Int) := by
  have h1 : (BitVec.ofInt 64 (a : Int)).toNat = a := by
    rw [BitVec.ofInt_natCast, BitVec.toNat_ofNat]; exact Nat.mod_eq_of_lt (by omega)
  have h2 : (BitVec.ofInt 64 (b : Int)).toNat = b := by
    rw [BitVec.ofInt_natCast, BitVec.toNat_ofNat]; exact Nat.mod_eq_of_lt (by omega)
  have hx : a &&& b < 2 ^ 63 := Nat.and_lt_two_pow _ (by omega)
  show IntKind.i64.wrap ((BitVec.ofInt 64 (a : Int) &&& BitVec.ofInt 64 (b : Int)).toNat : Int) = _
  rw [BitVec.toNat_and, h1, h2, IntKind.wrap_i64]
  omega
end TakeMath
end Go.Proofs.YtbcnlggkoidmmaaGreatDoor
