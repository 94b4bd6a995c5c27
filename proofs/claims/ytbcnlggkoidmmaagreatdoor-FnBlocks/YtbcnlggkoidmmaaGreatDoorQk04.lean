/-
  The walk of the document's model of Expand.
  Plain facts on numbers for bits that are put; nothing here speaks of the program.
  Plain facts on bits that are put into bytes, the lowest of each byte first; nothing here speaks of the program.
  What may be put, and what putting comes to; nothing here speaks of the program.
  Plain facts on the bits of a text, the lowest of each byte first; nothing here speaks of the program.
-/
import Derived.Test.YtbcnlggkoidmmaaGreatDoorRows
import Derived.Test.YtbcnlggkoidmmaaGreatDoorQk01
import Derived.Test.YtbcnlggkoidmmaaGreatDoorQk02
import Derived.Test.YtbcnlggkoidmmaaGreatDoorQk03
import Derived.WalkKit
import Derived.ProofKit
import Derived.WalkLawsBesides
import Derived.Below
import Derived.Deep.LoopGhost
import Derived.Lib.SmallJoins
import Derived.Laws.BitsAllLaws
import Derived.Laws.BytesArg
namespace Go.Proofs.YtbcnlggkoidmmaaGreatDoor
open Go.RowKit Go.Joins TokMath

/-- What the ring of Expand has at hand. -/
def ExpI (w w' : World) (b : Nat) (L R : List Tok) (s : List Int) (g n cap : Nat) (O : List Int) : Prop := BOwn w' w.heap.size g n cap O ∧ Below w.heap.size w w' ∧ expandL b O R = expandL b s L ∧ b ≤ O.length ∧ O.length ≤ b + 12000
/-- What the inner ring has at hand: its token's box besides. -/
def CopS (w w' : World) (tb : Nat) (x y z : Int) (g n cap : Nat) (O : List Int) : Prop := BOwn w' w.heap.size g n cap O ∧ Below w.heap.size w w' ∧ w'.heap[tb]? = some (.cells #[.int .i64 x, .int .i64 y, .int .i64 z] 57 (0, 0)) ∧ tb ≠ g
theorem cop_next {w w' w1 : World} {tb : Nat} {x y z q : Int} {g n cap g1 cap1 : Nat} {O : List Int} {o : Obj} (h : CopS w w' tb x y z g n cap O) (hO : BOwn w1 w.heap.size g1 (n + 1) cap1 (O ++ [q])) (hg : g1 = g ∨ w'.heap.size + 1 ≤ g1) (hgr : (w'.alloc o).grownBy w1 (some g)) : CopS w w1 tb x y z g1 (n + 1) cap1 (O ++ [q]) := by
  obtain ⟨h1, h2, h3, h4⟩ := h
  have ht := block_lt h3
  have hb := h1.base_le
  have hs := h2.size
  refine ⟨hO, (bal h2 o).grown hgr (by simp; omega) (fun k hk => by cases hk; exact hb), ?_, ?_⟩
  · exact (hgr.block tb (by simp; omega) (fun e => h4 (Option.some.inj e))).trans (((bstart w' o).block tb ht).trans h3)
  · rcases hg with e | e
    · rw [e]; exact h4
    · omega
theorem text_none (w : World) (g c : Nat) : (convert 22 9 (.slice (some ⟨g, 0, none⟩) 0 c)).run Tryz.prog w = .ok (.string (strOfNums [])) w :=
  run_convert_bytes_arg w 22 5 Tryz.underlying22 Tryz.underlying5 g 0 0 c [] rfl (fun i hi => absurd hi (Nat.not_lt_zero i)) 9 Tryz.underlying9
theorem drop_tok {L : List Tok} {i : Nat} (h : i < L.length) : L.drop i = L.getD i (0, 0, 0) :: L.drop (i + 1) := by
  rw [List.drop_eq_getElem_cons h, List.getD_eq_getElem?_getD, List.getElem?_eq_getElem h]
  rfl
theorem exp_bad {b : Nat} {O : List Int} {t : Tok} {R : List Tok} (h : ¬ (TokRight t ∧ t.2.2 ≤ (O.length : Int))) : expandL b O (t :: R) = none := by
  unfold expandL
  rw [if_neg h]
theorem exp_over {b : Nat} {O : List Int} {t : Tok} {R : List Tok} (h : TokRight t ∧ t.2.2 ≤ (O.length : Int)) (hl : ¬ (tokApp O t).length ≤ b + 12000) : expandL b O (t :: R) = none := by
  unfold expandL
  rw [if_pos h, if_neg hl]
theorem exp_on {b : Nat} {O : List Int} {t : Tok} {R : List Tok} (h : TokRight t ∧ t.2.2 ≤ (O.length : Int)) (hl : (tokApp O t).length ≤ b + 12000) : expandL b O (t :: R) = expandL b (tokApp O t) R := by
  conv => lhs; unfold expandL
  rw [if_pos h, if_pos hl]
theorem wrap_byte {x : Int} (h0 : 0 ≤ x) (h1 : x ≤ 255) : IntKind.u8.wrap x = x := by
  simp [IntKind.wrap, IntKind.bits, IntKind.signed]
  omega

set_option maxHeartbeats 4000000 in
theorem specExpand (s : ByteArray) (a : Option Addr) (c : Nat) (L : List Tok) (w : World) (hL : TCame w a L.length (fun j => L.getD j (0, 0, 0))) (hn : L.length ≤ 1048576) (hs : s.size ≤ 1048576) :
    Calls Tryz.prog 9 #[.string s, .slice a L.length c] w (ExpPost w (expandOf s L)) := by
  have HL := hid_of hL
  clear hL
  by_cases hb : s.size ≤ 12000
  · have e0 : expandOf s L = expandL s.size (bytesOf s) L := by
      unfold expandOf
      rw [if_pos hb]
    rw [e0]
    obtain ⟨b, hbe⟩ : ∃ b, b = s.size := ⟨_, rfl⟩
    obtain ⟨W1, cap, hcv, hO, hB⟩ := bown_of_text w s hs
    have H0 : Hid (ExpI w W1 s.size L (L.drop 0) (bytesOf s) w.heap.size s.size cap (bytesOf s)) := ⟨hO, hB, rfl, by rw [bytesOf_length]; exact Nat.le_refl _, by rw [bytesOf_length]; omega⟩
    have d1 : decide ((12000 : Int) < (s.size : Int)) = false := decide_eq_false (by omega)
    have d2 : decide (12000 < s.size) = false := decide_eq_false (by omega)
    clear e0 hO hB
    go_enter Tryz.func9, Tryz.ntmps9
    go_wp2_with fail
    go_loopg [6, 7] (L.length + 1) (fun gk v y w' => ∃ (i g n cp : Nat) (O : List Int), v = .slice (some ⟨g, 0, none⟩) n cp ∧ i ≤ L.length ∧ y = .int .i64 i ∧ L.length - i ≤ gk ∧ s.size ≤ n ∧ n ≤ s.size + 12000 ∧ Hid (n = O.length ∧ ExpI w w' s.size L (L.drop i) (bytesOf s) g n cp O))
    case atStart => exact ⟨0, w.heap.size, s.size, cap, bytesOf s, rfl, Nat.zero_le _, rfl, by omega, Nat.le_refl _, by omega, (bytesOf_length s).symm, H0.out⟩
    case round =>
      clear H0 hcv
      obtain ⟨i, g, n, cp, O, rfl, hi, rfl, hgk, hsn, hnn, hS⟩ := hrel
      by_cases hlt : i < L.length
      · have HB := hid_of hS.out.2.2.1
        rcases HL.out with h0 | ⟨ga, off, rfl, hga, hc⟩
        · omega
        obtain ⟨c0, c1, c2⟩ : w.cell? ⟨ga, off + i * 3, none⟩ = some (.int .i64 (L.getD i (0, 0, 0)).1) ∧ w.cell? ⟨ga, off + i * 3 + 1, none⟩ = some (.int .i64 (L.getD i (0, 0, 0)).2.1) ∧ w.cell? ⟨ga, off + i * 3 + 2, none⟩ = some (.int .i64 (L.getD i (0, 0, 0)).2.2) := hc i hlt
        have HD := hid_of (drop_tok hlt)
        obtain ⟨⟨x, y, z⟩, hr⟩ : ∃ r, r = L.getD i (0, 0, 0) := ⟨_, rfl⟩
        rw [← hr] at c0 c1 c2
        have HDR : Hid (expandL s.size (bytesOf s) L = expandL s.size O ((x, y, z) :: L.drop (i + 1))) := by
          have h := hS.out.2.2.2.1
          rw [HD.out, ← hr] at h
          exact h.symm
        have f0 : wr.cell? ⟨ga, off + i * 3, none⟩ = some (.int .i64 x) := (HB.out.cell (p := ⟨ga, off + i * 3, none⟩) hga).trans c0
        have f1 : wr.cell? ⟨ga, off + i * 3 + 1, none⟩ = some (.int .i64 y) := (HB.out.cell (p := ⟨ga, off + i * 3 + 1, none⟩) hga).trans c1
        have f2 : wr.cell? ⟨ga, off + i * 3 + 2, none⟩ = some (.int .i64 z) := (HB.out.cell (p := ⟨ga, off + i * 3 + 2, none⟩) hga).trans c2
        have hl2 : ga < wr.heap.size := Nat.lt_of_lt_of_le hga HB.out.size
        have htk := specTokenOk x y z (wr.alloc (.cells #[.int .i64 x, .int .i64 y, .int .i64 z] 57))
        have HCS : Hid (CopS w (wr.alloc (.cells #[.int .i64 x, .int .i64 y, .int .i64 z] 57)) wr.heap.size x y z g n cp O) := by
          refine ⟨hS.out.2.1.called (bstart _ _), bal HB.out _, heap_alloc_new wr _, ?_⟩
          have := hS.out.2.1.lt
          omega
        have HN := hid_of hS.out.1
        clear hc c0 c1 c2 hr HD
        by_cases hright : TokRight (x, y, z)
        · have HR := hid_of hright
          go_wp2_with fail
          refine htk.mono ?_
          rintro e w2 ⟨rfl, hB2⟩
          clear htk
          have HC2 : Hid (CopS w w2 wr.heap.size x y z g n cp O) := by
            obtain ⟨q1, q2, q3, q4⟩ := HCS.out
            exact ⟨q1.called hB2, bnext q2 hB2, (hB2.block _ (block_lt q3)).trans q3, q4⟩
          rw [decide_eq_true hright]
          have m0 := cell_of_block HC2.out.2.2.1 0
          have m1 := cell_of_block HC2.out.2.2.1 1
          have m2 := cell_of_block HC2.out.2.2.1 2
          have mt := block_lt HC2.out.2.2.1
          have hs2 := HC2.out.2.1.size
          clear hB2 HCS
          obtain ⟨tb, htb⟩ : ∃ tb, tb = wr.heap.size := ⟨_, rfl⟩
          rw [← htb] at HC2 m0 m1 m2 mt
          rw [← htb]
          clear htb f0 f1 f2
          by_cases hz : z ≤ (n : Int)
          · have dz : decide ((n : Int) < z) = false := decide_eq_false (by omega)
            have HG : Hid (TokRight (x, y, z) ∧ z ≤ (O.length : Int)) := ⟨hright, by rw [← HN.out]; exact hz⟩
            by_cases hy : y = 0
            · subst hy
              have hxr := (tok_byte x z).mp hright
              have hx0 := hxr.1.1
              have hx1 := hxr.1.2
              have HAP : Hid (tokApp O (x, 0, z) = O ++ [x]) := by
                show tokApp O (x, 0, z) = O ++ [x]
                unfold tokApp
                rw [if_pos rfl]
              have hw8 : IntKind.u8.wrap x = x := wrap_byte hx0 hx1
              clear hxr hright
              go_wp2_with (at_builtin; refine bytes_append (base := w.heap.size) (O := O) rfl _ _ rfl rfl (HC2.out.1.called (bstart _ _)) w2.heap.size 1 x rfl (by simp) (by omega) ?_)
              intro g1 cap1 w5 y1 y2 y3
              have HC5 : Hid (CopS w w5 tb x 0 z g1 (n + 1) cap1 (O ++ [x])) := cop_next HC2.out y1 (by simpa using y2) y3
              clear y1 y2 y3 m0 m1 m2 mt hs2 HC2
              go_wp2_with fail
              go_loopg [6, 9] 1 (fun gk v y w' => v = .slice (some ⟨g1, 0, none⟩) (n + 1) cap1 ∧ y = .int .i64 0 ∧ Hid (CopS w w' tb x 0 z g1 (n + 1) cap1 (O ++ [x])))
              case atStart => exact ⟨rfl, rfl, HC5⟩
              case round =>
                clear HC5
                obtain ⟨rfl, rfl, hS2⟩ := hrel
                have m1 := cell_of_block hS2.out.2.2.1 1
                have mt := block_lt hS2.out.2.2.1
                by_cases hov : n + 1 ≤ s.size + 12000
                · have do1 : decide ((12000 : Int) < (n : Int) + 1 - (s.size : Int)) = false := decide_eq_false (by omega)
                  have do2 : ¬ (12000 : Int) < (n : Int) + 1 - (s.size : Int) := by omega
                  have HNX : Hid (n + 1 = (O ++ [x]).length ∧ ExpI w wr s.size L (L.drop (i + 1)) (bytesOf s) g1 (n + 1) cap1 (O ++ [x])) := by
                    have hl : (O ++ [x]).length = n + 1 := by rw [List.length_append, List.length_singleton, HN.out]
                    refine ⟨hl.symm, hS2.out.1, hS2.out.2.1, ?_, by omega, by omega⟩
                    rw [HDR.out, exp_on HG.out (by rw [HAP.out, hl]; exact hov), HAP.out]
                  go_wp2_with fail
                  go_roundg (L.length - (i + 1))
                  case measure => omega
                  case rel => exact ⟨i + 1, g1, n + 1, cap1, O ++ [x], rfl, by omega, by go_num, Nat.le_refl _, by omega, by omega, HNX⟩
                · have do1 : decide ((12000 : Int) < (n : Int) + 1 - (s.size : Int)) = true := decide_eq_true (by omega)
                  have do2 : (12000 : Int) < (n : Int) + 1 - (s.size : Int) := by omega
                  have HNX : Hid (Below w.heap.size w wr ∧ expandL s.size (bytesOf s) L = none) := by
                    have hl : (O ++ [x]).length = n + 1 := by rw [List.length_append, List.length_singleton, HN.out]
                    refine ⟨hS2.out.2.1, ?_⟩
                    rw [HDR.out, exp_over HG.out (by rw [HAP.out, hl]; exact hov)]
                  go_wp2_with fail
                  go_ret2
                  have hq := HNX.out.2
                  rw [hq]
                  exact ⟨HNX.out.1, rfl⟩
            · have hxr := (tok_rep hy).mp hright
              obtain ⟨T, hT⟩ := Int.eq_ofNat_of_zero_le (show 0 ≤ y by omega)
              obtain ⟨d, hd⟩ := Int.eq_ofNat_of_zero_le (show 0 ≤ z by omega)
              subst hT hd
              have hT3 : 3 ≤ T ∧ T ≤ 258 := by omega
              have hd1 : 1 ≤ d := by omega
              have hdn : d ≤ n := by omega
              have HAP : Hid (tokApp O (x, (T : Int), (d : Int)) = copyN d T O) := by
                show tokApp O (x, (T : Int), (d : Int)) = copyN d T O
                unfold tokApp
                rw [if_neg hy]
                rfl
              have dy : ((T : Int) == 0) = false := by simp; omega
              have dT : (T == 0) = false := by simp; omega
              have dz2 : decide (n < d) = false := decide_eq_false (by omega)
              clear hxr hright hy
              have HC5 : Hid (CopS w w2 tb x (T : Int) (d : Int) g n cp (copyN d 0 O)) := HC2
              clear HC2
              go_wp2_with fail
              go_loopg [6, 9] (T + 1) (fun gk v y w' => ∃ (j g2 n2 cp2 : Nat), v = .slice (some ⟨g2, 0, none⟩) n2 cp2 ∧ j ≤ T ∧ y = .int .i64 j ∧ T - j ≤ gk ∧ n ≤ n2 ∧ n2 ≤ n + 258 ∧ Hid (n2 = n + j ∧ CopS w w' tb x (T : Int) (d : Int) g2 n2 cp2 (copyN d j O)))
              case atStart => exact ⟨0, g, n, cp, rfl, Nat.zero_le _, rfl, by omega, Nat.le_refl _, by omega, rfl, HC5.out⟩
              case round =>
                clear HC5 m0 m1 m2 mt
                obtain ⟨j, g2, n2, cp2, rfl, hj, rfl, hgk2, hn2, hn3, hS2⟩ := hrel
                have m1 := cell_of_block hS2.out.2.2.2.1 1
                have m2 := cell_of_block hS2.out.2.2.2.1 2
                have mt := block_lt hS2.out.2.2.2.1
                have mg := hS2.out.2.1.lt
                by_cases hjt : j < T
                · have dj : decide ((j : Int) < (T : Int)) = true := decide_eq_true (by omega)
                  have k1 : ((n2 : Int) - (d : Int)).toNat = n2 - d := by omega
                  have k2 : (0 : Int) ≤ (n2 : Int) - (d : Int) := by omega
                  have k3 : (n2 : Int) - (d : Int) < (n2 : Int) := by omega
                  have k4 : n2 - d < n2 := by omega
                  have cq := hS2.out.2.1.cell (n2 - d) (by omega)
                  obtain ⟨q, hq⟩ : ∃ q, q = (copyN d j O).getD (n2 - d) 0 := ⟨_, rfl⟩
                  rw [← hq] at cq
                  have HQ : Hid (copyN d (j + 1) O = copyN d j O ++ [q]) := by
                    show copyN d (j + 1) O = copyN d j O ++ [q]
                    rw [copy_snoc, ← hS2.out.2.1.1, hq]
                  have hss := hS2.out.2.2.1.size
                  clear hq
                  go_wp2_with (at_builtin; refine bytes_append (base := w.heap.size) (O := copyN d j O) rfl _ _ rfl rfl (hS2.out.2.1.called (bstart _ _)) wr.heap.size 1 q rfl (by simp) (by omega) ?_)
                  intro g1 cap1 w5 y1 y2 y3
                  have HC5 : Hid (CopS w w5 tb x (T : Int) (d : Int) g1 (n2 + 1) cap1 (copyN d (j + 1) O)) := by
                    rw [HQ.out]
                    exact cop_next hS2.out.2 y1 (by simpa using y2) y3
                  clear y1 y2 y3
                  go_wp2_with fail
                  go_roundg (T - (j + 1))
                  case measure => omega
                  case rel => exact ⟨j + 1, g1, n2 + 1, cap1, rfl, by omega, by go_num, Nat.le_refl _, by omega, by have := hS2.out.1; omega, by have := hS2.out.1; omega, HC5.out⟩
                · obtain rfl : j = T := by omega
                  have dj : decide ((j : Int) < (j : Int)) = false := decide_eq_false (by omega)
                  have hl : (copyN d j O).length = n2 := hS2.out.2.1.1.symm
                  by_cases hov : n2 ≤ s.size + 12000
                  · have do1 : decide ((12000 : Int) < (n2 : Int) - (s.size : Int)) = false := decide_eq_false (by omega)
                    have do2 : ¬ (12000 : Int) < (n2 : Int) - (s.size : Int) := by omega
                    have HNX : Hid (n2 = (copyN d j O).length ∧ ExpI w wr s.size L (L.drop (i + 1)) (bytesOf s) g2 n2 cp2 (copyN d j O)) := by
                      refine ⟨hl.symm, hS2.out.2.1, hS2.out.2.2.1, ?_, by omega, by omega⟩
                      rw [HDR.out, exp_on HG.out (by rw [HAP.out, hl]; exact hov), HAP.out]
                    clear hl
                    go_wp2_with fail
                    go_roundg (L.length - (i + 1))
                    case measure => omega
                    case rel => exact ⟨i + 1, g2, n2, cp2, copyN d j O, rfl, by omega, by go_num, Nat.le_refl _, by omega, by omega, HNX⟩
                  · have do1 : decide ((12000 : Int) < (n2 : Int) - (s.size : Int)) = true := decide_eq_true (by omega)
                    have do2 : (12000 : Int) < (n2 : Int) - (s.size : Int) := by omega
                    have HNX : Hid (Below w.heap.size w wr ∧ expandL s.size (bytesOf s) L = none) := by
                      refine ⟨hS2.out.2.2.1, ?_⟩
                      rw [HDR.out, exp_over HG.out (by rw [HAP.out, hl]; exact hov)]
                    clear hl
                    go_wp2_with fail
                    go_ret2
                    have hq := HNX.out.2
                    rw [hq]
                    exact ⟨HNX.out.1, rfl⟩
          · have dz : decide ((n : Int) < z) = true := decide_eq_true (by omega)
            have HNX : Hid (Below w.heap.size w w2 ∧ expandL s.size (bytesOf s) L = none) := by
              refine ⟨HC2.out.2.1, ?_⟩
              rw [HDR.out, exp_bad]
              rintro ⟨_, k⟩
              rw [← HN.out] at k
              exact hz k
            clear hright
            go_wp2_with fail
            go_ret2
            have hq := HNX.out.2
            rw [hq]
            exact ⟨HNX.out.1, rfl⟩
        · have HR := hid_of hright
          go_wp2_with fail
          refine htk.mono ?_
          rintro e w2 ⟨rfl, hB2⟩
          clear htk
          have HNX : Hid (Below w.heap.size w w2 ∧ expandL s.size (bytesOf s) L = none) := by
            refine ⟨bnext HCS.out.2.1 hB2, ?_⟩
            rw [HDR.out, exp_bad (fun k => HR.out k.1)]
          rw [decide_eq_false hright]
          clear hB2 HCS hright
          go_wp2_with fail
          go_ret2
          have hq := HNX.out.2
          rw [hq]
          exact ⟨HNX.out.1, rfl⟩
      · obtain rfl : i = L.length := by omega
        have hrm := hS.out.2.1.room
        have HZ : Hid (Below w.heap.size w wr ∧ expandL s.size (bytesOf s) L = some (O.drop s.size)) := by
          have h := hS.out.2.2.2.1
          rw [List.drop_length] at h
          exact ⟨hS.out.2.2.1, h.symm⟩
        by_cases hcp : cp = s.size
        · obtain rfl : n = s.size := by omega
          have hct := text_none wr g 0
          have HE : Hid (O.drop s.size = []) := List.drop_of_length_le (by have := hS.out.1; omega)
          subst hcp
          go_wp2_with fail
          go_ret2
          have hq := HZ.out.2
          rw [hq, HE.out]
          exact ⟨HZ.out.1, rfl⟩
        · have hct := bown_text (c := cp - s.size) hS.out.2.1 hsn
          go_wp2_with fail
          go_ret2
          have hq := HZ.out.2
          rw [hq]
          exact ⟨HZ.out.1, rfl⟩
  · have e0 : expandOf s L = none := by
      unfold expandOf
      rw [if_neg hb]
    rw [e0]
    have d1 : decide ((12000 : Int) < (s.size : Int)) = true := decide_eq_true (by omega)
    have d2 : decide (12000 < s.size) = true := decide_eq_true (by omega)
    go_enter Tryz.func9, Tryz.ntmps9
    go_wp2_with fail
    go_ret2
    exact ⟨Below.refl _ _, rfl⟩

end Go.Proofs.YtbcnlggkoidmmaaGreatDoor

namespace Go.Proofs.YtbcnlggkoidmmaaGreatDoor
namespace OutMath

/-- Two to the power n, behind a name. -/
def p2 (n : Nat) : Int := 2 ^ n
theorem p2_zero : p2 0 = 1 := by simp [p2]
theorem p2_succ (n : Nat) : p2 (n + 1) = 2 * p2 n := by unfold p2; rw [Int.pow_succ]; omega
theorem p2_pos : ∀ n, 1 ≤ p2 n
  | 0 => by simp [p2]
  | n + 1 => by have := p2_pos n; rw [p2_succ]; omega
theorem p2_mono (n : Nat) : ∀ m, p2 n ≤ p2 (n + m)
  | 0 => by simp
  | m + 1 => by have := p2_mono n m; have h := p2_pos (n + m); rw [← Nat.add_assoc, p2_succ]; omega
theorem p2_le {n m : Nat} (h : n ≤ m) : p2 n ≤ p2 m := by
  obtain ⟨k, rfl⟩ := Nat.exists_eq_add_of_le h
  exact p2_mono n k
theorem p2_nat (n : Nat) : p2 n = ((2 ^ n : Nat) : Int) := by unfold p2; simp

/-- The last byte, 0 of an empty text. -/
def last (s : ByteArray) : Nat := (s.data[s.size - 1]?.getD 0).toNat
theorem last_at (s : ByteArray) (h : s.size - 1 < s.size) : (s[s.size - 1]'h).toNat = last s := by
  unfold last
  have h' : s.size - 1 < s.data.size := h
  rw [Array.getElem?_eq_getElem h']
  rfl
theorem last_lt (s : ByteArray) : last s < 256 := UInt8.toNat_lt _

/-- The number of bytes fits the number of bits. -/
def Fits (s : ByteArray) (c : Int) : Prop := s.size ≤ 12000 ∧ 0 ≤ c ∧ c ≤ 8 * s.size ∧ (c + 7) / 8 = s.size

/-- The bits of the last byte that were not put are 0. -/
def lastOk (s : ByteArray) (c : Int) : Bool := decide (((last s : Nat) : Int) < p2 (c % 8).toNat)

theorem lastOk_div (s : ByteArray) (c : Int) : lastOk s c = (((last s : Nat) : Int) / 2 ^ (c % 8).toNat == 0) := by
  unfold lastOk
  have e : p2 (c % 8).toNat = 2 ^ (c % 8).toNat := rfl
  have hp := p2_pos (c % 8).toNat
  rw [← e]
  generalize p2 (c % 8).toNat = q at *
  rw [Bool.eq_iff_iff]
  simp only [decide_eq_true_eq, beq_iff_eq]
  constructor
  · intro h; exact Int.ediv_eq_zero_of_lt (by omega) h
  · intro h
    have := Int.lt_mul_ediv_self_add (x := ((last s : Nat) : Int)) (show 0 < q by omega)
    rw [h] at this
    omega

/-- A right Out. -/
def outB (s : ByteArray) (c : Int) : Bool := decide (s.size ≤ 12000 ∧ 0 ≤ c ∧ c ≤ 8 * s.size ∧ (c + 7) / 8 = s.size) && (decide (c % 8 = 0) || lastOk s c)
theorem outB_no (s : ByteArray) (c : Int) (h : ¬ Fits s c) : outB s c = false := by
  have h' : ¬ (s.size ≤ 12000 ∧ 0 ≤ c ∧ c ≤ 8 * s.size ∧ (c + 7) / 8 = s.size) := h
  unfold outB
  rw [decide_eq_false h']
  rfl
theorem outB_fit0 (s : ByteArray) (c : Int) (h : Fits s c) (hc : c % 8 = 0) : outB s c = true := by
  have h' : s.size ≤ 12000 ∧ 0 ≤ c ∧ c ≤ 8 * s.size ∧ (c + 7) / 8 = s.size := h
  unfold outB
  rw [decide_eq_true h', decide_eq_true hc]
  rfl
theorem outB_fit1 (s : ByteArray) (c : Int) (h : Fits s c) (hc : ¬ c % 8 = 0) : outB s c = lastOk s c := by
  have h' : s.size ≤ 12000 ∧ 0 ≤ c ∧ c ≤ 8 * s.size ∧ (c + 7) / 8 = s.size := h
  unfold outB
  rw [decide_eq_true h', decide_eq_false hc]
  rfl
theorem fits_of_outB (s : ByteArray) (c : Int) (h : outB s c = true) : Fits s c := by
  refine Classical.byContradiction fun hn => ?_
  rw [outB_no s c hn] at h
  cases h

end OutMath
end Go.Proofs.YtbcnlggkoidmmaaGreatDoor

namespace Go.Proofs.YtbcnlggkoidmmaaGreatDoor
namespace PutMath
open OutMath

/-- The bytes with room for one bit more. -/
def pre (xs : List Int) (c : Nat) : List Int := if c % 8 = 0 then xs ++ [0] else xs
/-- The bytes with one bit more, the bit c. -/
def bstep (xs : List Int) (c : Nat) (b : Int) : List Int := (pre xs c).set (c / 8) ((pre xs c).getD (c / 8) 0 + b * p2 (c % 8))
/-- As many bytes as c bits need, those of the last that were not put being 0. -/
def Inv (xs : List Int) (c : Nat) : Prop := xs.length = (c + 7) / 8 ∧ (c % 8 ≠ 0 → 0 ≤ xs.getD (c / 8) 0 ∧ xs.getD (c / 8) 0 < p2 (c % 8))

theorem pre_len {xs : List Int} {c : Nat} (h : Inv xs c) : (pre xs c).length = c / 8 + 1 := by
  obtain ⟨h1, h2⟩ := h
  unfold pre
  split
  · rw [List.length_append, h1]; simp; omega
  · rw [h1]; omega
theorem pre_last {xs : List Int} {c : Nat} (h : Inv xs c) : 0 ≤ (pre xs c).getD (c / 8) 0 ∧ (pre xs c).getD (c / 8) 0 < p2 (c % 8) := by
  obtain ⟨h1, h2⟩ := h
  unfold pre
  split
  · rename_i h0
    have e : xs.length = c / 8 := by omega
    rw [h0, p2_zero, List.getD_eq_getElem?_getD, List.getElem?_append_right (by omega), e]
    simp
  · rename_i h0
    exact h2 h0
theorem mul01 (b q : Int) (h0 : 0 ≤ b) (h1 : b ≤ 1) (hq : 1 ≤ q) : 0 ≤ b * q ∧ b * q ≤ q := by
  have : b = 0 ∨ b = 1 := by omega
  rcases this with rfl | rfl <;> omega
theorem bstep_len {xs : List Int} {c : Nat} (b : Int) (h : Inv xs c) : (bstep xs c b).length = c / 8 + 1 := by
  unfold bstep
  rw [List.length_set, pre_len h]
theorem inv_step {xs : List Int} {c : Nat} {b : Int} (h : Inv xs c) (h0 : 0 ≤ b) (h1 : b ≤ 1) : Inv (bstep xs c b) (c + 1) := by
  have hl := pre_len h
  have hp := pre_last h
  refine ⟨by rw [bstep_len b h]; omega, fun hc => ?_⟩
  have e1 : (c + 1) / 8 = c / 8 := by omega
  have e2 : (c + 1) % 8 = c % 8 + 1 := by omega
  have hm := mul01 b (p2 (c % 8)) h0 h1 (p2_pos _)
  rw [e1, e2, p2_succ]
  unfold bstep
  have e3 : ((pre xs c).set (c / 8) ((pre xs c).getD (c / 8) 0 + b * p2 (c % 8))).getD (c / 8) 0 = (pre xs c).getD (c / 8) 0 + b * p2 (c % 8) := by
    rw [List.getD_eq_getElem?_getD, List.getElem?_set_self (by omega)]
    rfl
  rw [e3]
  omega

/-- The bytes behind k bits, of which f tells each. -/
def puts (xs : List Int) (c : Nat) (f : Nat → Int) : Nat → List Int
  | 0 => xs
  | k + 1 => bstep (puts xs c f k) (c + k) (f k)
theorem inv_puts {xs : List Int} {c : Nat} {f : Nat → Int} (h : Inv xs c) (hf : ∀ k, 0 ≤ f k ∧ f k ≤ 1) : ∀ k, Inv (puts xs c f k) (c + k)
  | 0 => h
  | k + 1 => inv_step (inv_puts h hf k) (hf k).1 (hf k).2

theorem p2_8 {r : Nat} (h : r < 8) : p2 r ≤ 128 := by
  have h1 := p2_le (show r ≤ 7 by omega)
  have h2 : p2 7 = 128 := by decide +kernel
  omega

/-- A bit of a number. -/
def bitOf (x : Int) (k : Nat) : Int := x / p2 k % 2
theorem bitOf_01 (x : Int) (k : Nat) : 0 ≤ bitOf x k ∧ bitOf x k ≤ 1 := by unfold bitOf; omega
/-- Below two to the r a byte, and a bit at r: 'or' is plus. -/
theorem or_put (y b : Int) (r : Nat) (hr : r < 8) (h0 : 0 ≤ y) (h1 : y < p2 r) (b0 : 0 ≤ b) (b1 : b ≤ 1) : bits .or .u8 y (Go.RowKit.wrap64 (b * 2 ^ r) % 256) = y + b * p2 r := by
  have hm := mul01 b (p2 r) b0 b1 (p2_pos r)
  have hp := p2_8 hr
  have e : Go.RowKit.wrap64 (b * 2 ^ r) % 256 = b * p2 r := by
    show Go.RowKit.wrap64 (b * p2 r) % 256 = _
    unfold Go.RowKit.wrap64; omega
  rw [e]
  obtain ⟨n, rfl⟩ := Int.eq_ofNat_of_zero_le h0
  obtain ⟨m, rfl⟩ := Int.eq_ofNat_of_zero_le b0
  rw [p2_nat] at h1 hm hp ⊢
  rw [show ((m : Int) * ((2 ^ r : Nat) : Int)) = ((m * 2 ^ r : Nat) : Int) from (Int.natCast_mul _ _).symm] at hm ⊢
  rw [u8_or_nat _ _ (by omega) (by omega), Nat.or_comm, nat_join r (m * 2 ^ r) n (by simp) (by omega)]
  omega

theorem i64_and_nat (a b : Nat) (ha : a < 9223372036854775808) (hb : b < 9223372036854775808) : bits .and .i64 (a : Int) (b : Int) = ((a &&& b : Nat) : Int) := by
  have h1 : (BitVec.ofInt 64 (a : Int)).toNat = a := by
    rw [BitVec.ofInt_natCast, BitVec.toNat_ofNat]; exact Nat.mod_eq_of_lt (by omega)
  have h2 : (BitVec.ofInt 64 (b : Int)).toNat = b := by
    rw [BitVec.ofInt_natCast, BitVec.toNat_ofNat]; exact Nat.mod_eq_of_lt (by omega)
  have hx : a &&& b < 2 ^ 63 := Nat.and_lt_two_pow _ (by omega)
  show IntKind.i64.wrap ((BitVec.ofInt 64 (a : Int) &&& BitVec.ofInt 64 (b : Int)).toNat : Int) = _
  rw [BitVec.toNat_and, h1, h2, IntKind.wrap_i64]
  omega
theorem bit_shr (x : Int) (k : Nat) (h0 : 0 ≤ x) (h1 : x ≤ 16777216) (_hk : k ≤ 24) : bits .and .i64 (x / 2 ^ k) 1 = bitOf x k := by
  have a := Int.ediv_nonneg h0 (show 0 ≤ p2 k by have := p2_pos k; omega)
  have b := Int.ediv_le_self (p2 k) h0
  show bits .and .i64 (x / p2 k) 1 = x / p2 k % 2
  generalize x / p2 k = y at *
  obtain ⟨n, rfl⟩ := Int.eq_ofNat_of_zero_le a
  have := i64_and_nat n 1 (by omega) (by omega)
  rw [nat_mask1] at this
  rw [show ((1 : Nat) : Int) = 1 from rfl] at this
  rw [this]
  omega

end PutMath
end Go.Proofs.YtbcnlggkoidmmaaGreatDoor

namespace Go.Proofs.YtbcnlggkoidmmaaGreatDoor
open OutMath PutMath

theorem bytes_inv (s : ByteArray) (c : Nat) (h : outB s c = true) : Inv (s.data.toList.map fun b => (b.toNat : Int)) c := by
  have hf := fits_of_outB s c h
  obtain ⟨q1, q2, q3, q4⟩ := hf
  refine ⟨by simp; omega, fun h8 => ?_⟩
  have hc : ¬ (c : Int) % 8 = 0 := by omega
  rw [outB_fit1 s c (fits_of_outB s c h) hc] at h
  unfold lastOk at h
  have h' := of_decide_eq_true h
  rw [show ((c : Int) % 8).toNat = c % 8 by omega] at h'
  have hl : c / 8 = s.size - 1 := by omega
  have e : (s.data.toList.map fun b => (b.toNat : Int)).getD (c / 8) 0 = (last s : Int) := by
    rw [hl]
    unfold last
    have hlt : s.size - 1 < s.data.size := by have : s.data.size = s.size := rfl; omega
    rw [List.getD_eq_getElem?_getD, List.getElem?_map, Array.getElem?_toList, Array.getElem?_eq_getElem hlt]
    rfl
  rw [e]
  exact ⟨by omega, h'⟩

end Go.Proofs.YtbcnlggkoidmmaaGreatDoor

namespace Go.Proofs.YtbcnlggkoidmmaaGreatDoor
namespace TakeMath
open OutMath

def byteAt (s : ByteArray) (i : Nat) : Nat := (s.data[i]?.getD 0).toNat
theorem byteAt_lt (s : ByteArray) (i : Nat) : byteAt s i < 256 := UInt8.toNat_lt _
theorem byteAt_get (s : ByteArray) (i : Nat) (h : i < s.size) : (s[i]'h).toNat = byteAt s i := by
  unfold byteAt
  have h' : i < s.data.size := h
  rw [Array.getElem?_eq_getElem h']
  rfl

/-- Bit i of a text. -/
def bit (s : ByteArray) (i : Nat) : Int := (byteAt s (i / 8) : Int) / p2 (i % 8) % 2
theorem bit_01 (s : ByteArray) (i : Nat) : 0 ≤ bit s i ∧ bit s i ≤ 1 := by unfold bit; omega

/-- The number whose bits, the lowest first, are the k from bit a on. -/
def num (s : ByteArray) (a : Nat) : Nat → Int
  | 0 => 0
  | k + 1 => num s a k + bit s (a + k) * p2 k
theorem mul01 (b q : Int) (h0 : 0 ≤ b) (h1 : b ≤ 1) (hq : 1 ≤ q) : 0 ≤ b * q ∧ b * q ≤ q := by
  have : b = 0 ∨ b = 1 := by omega
  rcases this with rfl | rfl <;> omega
theorem num_bd (s : ByteArray) (a : Nat) : ∀ k, 0 ≤ num s a k ∧ num s a k < p2 k
  | 0 => by simp [num, p2]
  | k + 1 => by
    have h := num_bd s a k
    have hb := bit_01 s (a + k)
    have hm := mul01 _ _ hb.1 hb.2 (p2_pos k)
    unfold num
    rw [p2_succ]
    omega

theorem p2_24 {n : Nat} (h : n ≤ 24) : p2 n ≤ 16777216 := by
  have h1 := p2_le h
  have h2 : p2 24 = 16777216 := by decide +kernel
  omega

theorem div_bd (x : Nat) (q : Int) (hq : 1 ≤ q) : 0 ≤ (x : Int) / q ∧ (x : Int) / q ≤ x := ⟨Int.ediv_nonneg (by omega) (by omega), Int.ediv_le_self _ (by omega)⟩
theorem i64_and_nat (a b : Nat) (ha : a < 9223372036854775808) (hb : b < 9223372036854775808) : bits .and .i64 (a : Int) (b : Int) = ((a &&& b : Nat) : Int) := by
  have h1 : (BitVec.ofInt 64 (a : Int)).toNat = a := by
    rw [BitVec.ofInt_natCast, BitVec.toNat_ofNat]; exact Nat.mod_eq_of_lt (by omega)
  have h2 : (BitVec.ofInt 64 (b : Int)).toNat = b := by
    rw [BitVec.ofInt_natCast, BitVec.toNat_ofNat]; exact Nat.mod_eq_of_lt (by omega)
  have hx : a &&& b < 2 ^ 63 := Nat.and_lt_two_pow _ (by omega)
  show IntKind.i64.wrap ((BitVec.ofInt 64 (a : Int) &&& BitVec.ofInt 64 (b : Int)).toNat : Int) = _
  rw [BitVec.toNat_and, h1, h2, IntKind.wrap_i64]
  omega
theorem i64_or_nat (a b : Nat) (ha : a < 9223372036854775808) (hb : b < 9223372036854775808) : bits .or .i64 (a : Int) (b : Int) = ((a ||| b : Nat) : Int) := by
  have h1 : (BitVec.ofInt 64 (a : Int)).toNat = a := by
    rw [BitVec.ofInt_natCast, BitVec.toNat_ofNat]; exact Nat.mod_eq_of_lt (by omega)
  have h2 : (BitVec.ofInt 64 (b : Int)).toNat = b := by
    rw [BitVec.ofInt_natCast, BitVec.toNat_ofNat]; exact Nat.mod_eq_of_lt (by omega)
  have hx : a ||| b < 2 ^ 63 := Nat.or_lt_two_pow (by omega) (by omega)
  show IntKind.i64.wrap ((BitVec.ofInt 64 (a : Int) ||| BitVec.ofInt 64 (b : Int)).toNat : Int) = _
  rw [BitVec.toNat_or, h1, h2, IntKind.wrap_i64]
  omega
theorem and1 (x : Int) (h0 : 0 ≤ x) (h1 : x < 9223372036854775808) : bits .and .i64 x 1 = x % 2 := by
  obtain ⟨n, rfl⟩ := Int.eq_ofNat_of_zero_le h0
  have := i64_and_nat n 1 (by omega) (by omega)
  rw [nat_mask1] at this
  rw [show ((1 : Nat) : Int) = 1 from rfl] at this
  rw [this]
  omega
theorem bit_and (s : ByteArray) (i : Nat) : bits .and .i64 (Go.RowKit.wrap64 ((byteAt s (i / 8) : Int) / 2 ^ (i % 8))) 1 = bit s i := by
  have h := div_bd (byteAt s (i / 8)) (p2 (i % 8)) (p2_pos _)
  have hb := byteAt_lt s (i / 8)
  have e : Go.RowKit.wrap64 ((byteAt s (i / 8) : Int) / 2 ^ (i % 8)) = (byteAt s (i / 8) : Int) / p2 (i % 8) := by
    show Go.RowKit.wrap64 ((byteAt s (i / 8) : Int) / p2 (i % 8)) = _
    unfold Go.RowKit.wrap64; omega
  rw [e, and1 _ h.1 (by omega)]
  rfl

/-- Below two to the k a number, and a bit at k: 'or' is plus. -/
theorem or_bit (x b : Int) (k : Nat) (hk : k ≤ 24) (h0 : 0 ≤ x) (h1 : x < p2 k) (b0 : 0 ≤ b) (b1 : b ≤ 1) : bits .or .i64 x (b * p2 k) = x + b * p2 k := by
  have hm := mul01 b (p2 k) b0 b1 (p2_pos k)
  have hp := p2_24 hk
  obtain ⟨n, rfl⟩ := Int.eq_ofNat_of_zero_le h0
  obtain ⟨m, rfl⟩ := Int.eq_ofNat_of_zero_le b0
  rw [p2_nat] at h1 hm hp ⊢
  rw [show ((m : Int) * ((2 ^ k : Nat) : Int)) = ((m * 2 ^ k : Nat) : Int) from (Int.natCast_mul _ _).symm] at hm ⊢
  rw [i64_or_nat _ _ (by omega) (by omega), Nat.or_comm, nat_join k (m * 2 ^ k) n (by simp) (by omega)]
  omega

theorem or_bitW (x b : Int) (k : Nat) (hk : k ≤ 24) (h0 : 0 ≤ x) (h1 : x < p2 k) (b0 : 0 ≤ b) (b1 : b ≤ 1) : bits .or .i64 x (Go.RowKit.wrap64 (b * 2 ^ k)) = x + b * p2 k := by
  have hm := mul01 b (p2 k) b0 b1 (p2_pos k)
  have hp := p2_24 hk
  have e : Go.RowKit.wrap64 (b * 2 ^ k) = b * p2 k := by
    show Go.RowKit.wrap64 (b * p2 k) = _
    unfold Go.RowKit.wrap64; omega
  rw [e]
  exact or_bit x b k hk h0 h1 b0 b1

end TakeMath
end Go.Proofs.YtbcnlggkoidmmaaGreatDoor
