/-
  A block of type 2 that stands in a text is read again. Nothing here speaks of the program.
  What BestBlock writes of tokens is unpacked to their text. Nothing here speaks of the program.
  Two blocks, one behind the other, of whatever types, are unpacked to the text that their tokens make. Nothing here speaks of the program.
  What the program's StoredBlock is to answer.
  What the program's FixedBlock is to answer.
  What the program's WovenBlock is to answer.
-/
import Derived.Test.YtbcnlggkoidmmaaGreatDoorQk11
import Derived.Test.YtbcnlggkoidmmaaGreatDoorQk06
import Derived.Test.YtbcnlggkoidmmaaGreatDoorQk10
import Derived.Test.YtbcnlggkoidmmaaGreatDoorQk05
import Derived.Test.YtbcnlggkoidmmaaGreatDoorQk04
import Derived.Test.YtbcnlggkoidmmaaGreatDoorQk07
import Derived.Test.YtbcnlggkoidmmaaGreatDoorRows
import Derived.Test.YtbcnlggkoidmmaaGreatDoorQk02
import Derived.WalkKit
namespace Go.Proofs.YtbcnlggkoidmmaaGreatDoor
namespace StandMath
open OutMath CodeMath TakeMath HitMath WayMath StepMath TokMath InfMath PutMath RunsMath TokLenMath TrimMath BlockMath PartMath BodyMath PackageMath WovenMath

theorem order_idx : ∀ i, i < 19 → orderL.idxOf i < 19 ∧ orderL.getD (orderL.idxOf i) 0 = i := by decide +kernel
section
variable {s : ByteArray}
theorem parts3_length (g : Nat → Int) : ∀ n, (partBits ((List.range n).map fun i => (g i, 3, false))).length = 3 * n
  | 0 => rfl
  | n + 1 => by
    rw [List.range_succ, List.map_append, partBits_app, List.length_append, parts3_length g n]
    show 3 * n + (partBits [(g n, 3, false)]).length = _
    rw [partBits_one, bitsP_length]
    show 3 * n + 3 = _
    omega
theorem stands_parts3 (g : Nat → Int) (hg : ∀ i, 0 ≤ g i ∧ g i ≤ 7) (q : Nat) : ∀ n, Stands s q (partBits ((List.range n).map fun i => (g i, 3, false))) → ∀ i, i < n → num s (q + 3 * i) 3 = g i
  | 0, _, i, hi => by omega
  | n + 1, h, i, hi => by
    rw [List.range_succ, List.map_append, partBits_app] at h
    by_cases e : i = n
    · subst e
      have h1 := h.right
      rw [parts3_length] at h1
      have h2 : Stands s (q + 3 * i) (partBits [(g i, 3, false)]) := h1
      rw [partBits_one] at h2
      have h3 : Stands s (q + 3 * i) (pieceBits (g i) 3 false) := h2
      exact stands_num h3 (hg i).1 (by rw [show p2 3 = 8 by decide +kernel]; have := (hg i).2; omega)
    · exact stands_parts3 g hg q n h.left i (by omega)
theorem third_agrees {R : List (Int × Int)} (hl : R.length ≤ 316) {q : Nat} (h : Stands s q (partBits (toldP R))) : ∀ i, i < 19 → thirdF s q (toldN R) i = third R i := by
  intro i hi
  obtain ⟨h1, h2⟩ := order_idx i hi
  have hg : ∀ i, 0 ≤ toldF R i ∧ toldF R i ≤ 7 := fun i => WovenMath.third_ok hl _ (order_lt i)
  have e : toldF R (orderL.idxOf i) = third R i := by
    unfold toldF
    rw [h2]
  unfold thirdF
  by_cases hk : orderL.idxOf i < toldN R
  · rw [if_pos hk, stands_parts3 (toldF R) hg q (toldN R) h _ hk, e]
  · rw [if_neg hk, ← e, trimN_out (toldF R) 4 19 (orderL.idxOf i) (by unfold toldN at hk; omega) h1]
end
theorem cnt_ones (f : Nat → Int) : ∀ n, CodeMath.cnt (fun i => if f i = 0 then 0 else 1) n = (posN f n : Int)
  | 0 => rfl
  | n + 1 => by
    have ih := cnt_ones f n
    have e : posN f (n + 1) = posN f n + (if decide (f n ≠ 0) = true then 1 else 0) := rfl
    show CodeMath.cnt (fun i => if f i = 0 then 0 else 1) n + (if 0 < (if f n = 0 then (0 : Int) else 1) then 1 else 0) = _
    rw [ih, e]
    by_cases h : f n = 0
    · rw [if_pos h, if_neg (by omega), if_neg (by simp [h])]
      omega
    · rw [if_neg h, if_pos (by omega), if_pos (by simp [h])]
      omega
theorem cnt_zero {f : Nat → Int} (h : ∀ i, f i = 0) : ∀ n, CodeMath.cnt f n = 0
  | 0 => rfl
  | n + 1 => by
    show CodeMath.cnt f n + (if 0 < f n then 1 else 0) = 0
    rw [cnt_zero h n, h n, if_neg (by omega)]
    rfl
section
variable {f : Nat → Int} {n : Nat} {z : Int}
theorem lim_ok (hR : LimitRight f n z) : OkLens (limLen f n z) n := by
  intro i hi
  have hs := lim_shape hR i hi
  have hz := hR.2.2.1
  by_cases h : f i = 0
  · rw [hs.1 h]; omega
  · have := hs.2 h; omega
theorem whole_is (hn : n ≤ 288) (ho : OkLens f n) (hr : room f n = 32768) : kindOf f n = 2 := whole_kind (k := kindOf f n) (.inr ⟨hn, ho, rfl⟩) hn ho hr
theorem lim_one_fun (h1 : posN f n = 1) : limLen f n z = fun i => if f i = 0 then 0 else 1 := by
  funext i
  unfold limLen
  rw [if_neg (by omega), if_pos h1]
theorem lim_kind (hR : LimitRight f n z) : (posN f n = 0 → kindOf (limLen f n z) n = 1) ∧ (posN f n = 1 → kindOf (limLen f n z) n = 3) ∧ (2 ≤ posN f n → kindOf (limLen f n z) n = 2) := by
  refine ⟨fun h => ?_, fun h => ?_, fun h => whole_is hR.1 (lim_ok hR) (lim_whole hR h)⟩
  · unfold kindOf
    rw [if_pos (cnt_zero (fun i => (lim_none h i).symm) n)]
  · rw [lim_one_fun h]
    unfold kindOf
    rw [cnt_ones, room_ones, h, if_neg (by omega), if_neg (by omega), if_neg (by omega), if_pos ⟨by omega, by omega⟩]
theorem room_tail {m : Nat} : ∀ d, (∀ i, m ≤ i → i < m + d → f i = 0) → room f (m + d) = room f m
  | 0, _ => rfl
  | d + 1, h => by
    show room f (m + d) + (if 0 < f (m + d) then _ else 0) = _
    rw [room_tail d (fun i h1 h2 => h i h1 (by omega)), h (m + d) (by omega) (by omega), if_neg (by omega)]
    omega
theorem cnt_tail {m : Nat} : ∀ d, (∀ i, m ≤ i → i < m + d → f i = 0) → CodeMath.cnt f (m + d) = CodeMath.cnt f m
  | 0, _ => rfl
  | d + 1, h => by
    show CodeMath.cnt f (m + d) + (if 0 < f (m + d) then 1 else 0) = _
    rw [cnt_tail d (fun i h1 h2 => h i h1 (by omega)), h (m + d) (by omega) (by omega), if_neg (by omega)]
    omega
theorem kind_trim {m : Nat} (hm : m ≤ n) (h : ∀ i, m ≤ i → i < n → f i = 0) : kindOf f m = kindOf f n := by
  obtain ⟨d, rfl⟩ : ∃ d, n = m + d := ⟨n - m, by omega⟩
  unfold kindOf
  rw [room_tail d h, cnt_tail d h]
end
theorem third_whole {R : List (Int × Int)} (hl : R.length ≤ 316) (hne : R ≠ []) (hs : ∀ r ∈ R, 0 ≤ r.1 ∧ r.1 ≤ 18) : kindOf (third R) 19 = 2 := by
  have hL := limR hl
  obtain ⟨r, hr⟩ := List.exists_mem_of_ne_nil R hne
  have h18 := hs r hr
  have hp : 1 ≤ posN (cntR R) 19 := cN_one _ 19 r.1.toNat (by omega) (decide_eq_true (cntR_pos hr))
  obtain ⟨_, k1, k2⟩ := lim_kind hL
  by_cases h2 : 2 ≤ posN (cntR R) 19
  · have e : third R = th0 R := by
      unfold third
      rw [if_neg (by have := k2 h2; unfold th0; omega)]
    rw [e]
    exact k2 h2
  · have h1 : posN (cntR R) 19 = 1 := by omega
    have hk : kindOf (th0 R) 19 = 3 := k1 h1
    obtain ⟨hc, hrm⟩ := third_single hl hk
    have ho : OkLens (third R) 19 := fun i hi => by have := WovenMath.third_ok hl i hi; omega
    refine whole_is (by omega) ho ?_
    unfold third
    rw [if_pos hk]
    split
    · rename_i h0
      rw [room_upd h0, hrm, if_pos (by omega)]
      omega
    · rename_i h0
      have hz1 : th0 R 1 = 0 := by
        have hm := cnt_mono (th0 R) 2 17
        rw [show 2 + 17 = 19 from rfl, hc] at hm
        have e2 : CodeMath.cnt (th0 R) 2 = (0 + (if 0 < th0 R 0 then 1 else 0)) + (if 0 < th0 R 1 then 1 else 0) := rfl
        rw [e2] at hm
        have a0 := th0_ok hl 0 (by omega)
        have a1 := th0_ok hl 1 (by omega)
        rw [if_pos (by omega)] at hm
        split at hm
        · omega
        · omega
      rw [room_upd hz1, hrm, if_pos (by omega)]
      omega

section
variable {s : ByteArray} {R : List (Int × Int)} {f3 : Nat → Int}
theorem runsP_cons (r : Int × Int) (Q : List (Int × Int)) : partBits (runsP R (r :: Q)) = bitsP (codeP (third R) 19 r.1.toNat) ++ (pieceBits r.2 (bitsOf r.1) false ++ partBits (runsP R Q)) := by
  show partBits (runP R r ++ runsP R Q) = _
  rw [partBits_app]
  show (bitsP (codeP (third R) 19 r.1.toNat) ++ (pieceBits r.2 (bitsOf r.1) false ++ [])) ++ _ = _
  rw [List.append_nil, List.append_assoc]
theorem runs_bits : ∀ Q : List (Int × Int), (∀ r ∈ Q, 0 < third R r.1.toNat) → Q.length ≤ (partBits (runsP R Q)).length
  | [], _ => Nat.zero_le _
  | r :: Q, h => by
    have ih := runs_bits Q (fun u hu => h u (List.mem_cons_of_mem _ hu))
    have h1 := h r (List.mem_cons_self)
    rw [runsP_cons, List.length_append, List.length_append, bitsP_length, List.length_cons]
    show _ ≤ (third R r.1.toNat).toNat + _
    omega
theorem all_stand {f : Nat → Int} {n : Nat} (hf : Fine f n) (hcd : Coded (third R) 19) (ha : ∀ i, i < 19 → third R i = f3 i) : ∀ (d i p m : Nat), n - i = d → i ≤ n → (∀ r ∈ rest f n i, (0 ≤ r.1 ∧ r.1 ≤ 18) ∧ 0 < third R r.1.toNat) → Stands s p (partBits (runsP R (rest f n i))) → (rest f n i).length < m → allF s f3 n m p (lst f i) = .ok (lst f n, p + (partBits (runsP R (rest f n i))).length) := by
  intro d
  induction d using Nat.strongRecOn with
  | ind d ih =>
    intro i p m hd hi hr hS hm
    obtain ⟨m, rfl⟩ : ∃ k, m = k + 1 := ⟨m - 1, by omega⟩
    by_cases h : i < n
    · have hp := runAt_pos f n i
      have hin := runAt_in (f := f) h
      have hfi := runAt_fine hf h
      obtain ⟨more, ht, hmore⟩ := tell_runAt hf h
      rw [rest_more h] at hr hS hm ⊢
      have h0 := hr _ (List.mem_cons_self)
      generalize hrr : (runAt f n i).1 = r at hr hS hm ht hfi h0 ⊢
      generalize (runAt f n i).2 = k at hp hin hmore hr hS hm ⊢
      obtain ⟨r1, r2⟩ := r
      simp only [] at h0 hfi
      obtain ⟨y, rfl⟩ := Int.eq_ofNat_of_zero_le h0.1.1
      rw [Int.toNat_natCast] at h0
      rw [runsP_cons] at hS ⊢
      simp only [] at hS ⊢
      rw [Int.toNat_natCast] at hS ⊢
      rw [codeP_congr ha (show y < 19 by omega)] at hS ⊢
      have h1 := stands_sym (coded_congr ha hcd) (show y < 19 by omega) (by rw [← ha y (by omega)]; omega) hS.left
      have q2 := hS.right.left
      rw [bitsP_length] at q2
      have q2' : Stands s (p + (f3 y).toNat) (pieceBits r2 (bitsOf (y : Int)) false) := q2
      have h2 := stands_take q2' hfi.1 hfi.2
      have q3 := hS.right.right
      rw [bitsP_length, pieceBits_length] at q3
      have q3' : Stands s (p + (f3 y).toNat + bitsOf (y : Int)) (partBits (runsP R (rest f n (i + k)))) := q3
      have h3 := ih (n - (i + k)) (by omega) (i + k) _ m rfl (by omega) (fun u hu => hr u (List.mem_cons_of_mem _ hu)) q3' (by rw [List.length_cons] at hm; omega)
      have hlen : (lst f i).length + more.length ≤ n := by
        have h9 := congrArg List.length hmore
        rw [lst_length, List.length_append, lst_length] at h9
        rw [lst_length]
        omega
      unfold allF
      rw [if_pos (by rw [lst_length]; exact h), h1]
      simp only []
      rw [h2]
      simp only []
      rw [ht]
      simp only []
      rw [if_pos hlen, ← hmore, h3, List.length_append, List.length_append, bitsP_length, pieceBits_length]
      show Except.ok (lst f n, p + (f3 y).toNat + bitsOf (y : Int) + _) = Except.ok (lst f n, p + ((f3 y).toNat + (bitsOf (y : Int) + _)))
      congr 2
      omega
    · obtain rfl : i = n := by omega
      rw [rest_none h]
      unfold allF
      rw [if_neg (by rw [lst_length]; exact h)]
      rfl
end

section
variable {L : List Tok}
theorem kindA (hR : TokensRight L) : kindOf (lenA L) (sizeA L) = 2 ∨ kindOf (lenA L) (sizeA L) = 3 := by
  rw [kind_trim (sizeA_bd L).2 (fun i h1 h2 => trimN_out (lenA L) 257 286 i h1 h2)]
  have hp : 1 ≤ posN (cntA L) 286 := cN_one _ 286 256 (by omega) (decide_eq_true (by unfold cntA; rw [if_pos rfl]; omega))
  obtain ⟨_, k1, k2⟩ := lim_kind (limA hR)
  by_cases h2 : 2 ≤ posN (cntA L) 286
  · exact .inl (k2 h2)
  · exact .inr (k1 (by omega))
theorem kindB (hR : TokensRight L) : kindOf (lenB L) (sizeB L) = 1 ∨ kindOf (lenB L) (sizeB L) = 2 ∨ kindOf (lenB L) (sizeB L) = 3 := by
  rw [kind_trim (sizeB_bd L).2 (fun i h1 h2 => trimN_out (lenB L) 1 30 i h1 h2)]
  obtain ⟨k0, k1, k2⟩ := lim_kind (limB hR)
  by_cases h0 : posN (cntB L) 30 = 0
  · exact .inl (k0 h0)
  · by_cases h2 : 2 ≤ posN (cntB L) 30
    · exact .inr (.inl (k2 h2))
    · exact .inr (.inr (k1 (by omega)))
theorem woven_told (hR : TokensRight L) : Told (lenA L) (lenB L) L := by
  refine ⟨((lim_shape (limA hR) 256 (by omega)).2 (by unfold cntA; rw [if_pos rfl]; omega)).1, fun t ht => ⟨((lim_shape (limA hR) (sym1 t) (sym1_lt (hR.2 t ht)).1).2 (cntA_pos ht)).1, fun hy => ?_⟩⟩
  have hT := hR.2 t ht
  have hl : sym2 t < 30 := by
    obtain ⟨x, y, z⟩ := t
    unfold TokRight at hT
    rw [if_neg hy] at hT
    have := dist_range (z := z) hT.2.2
    unfold sym2
    simp only []
    omega
  exact ((lim_shape (limB hR) (sym2 t) hl).2 (cntB_pos ht hy)).1
theorem getA (L : List Tok) : ∀ i, i < sizeA L → lenA L i = (lst (fC L) (nC L)).getD i 0 := fun i hi => by
  rw [lst_get _ _ _ (by unfold nC; omega)]
  unfold fC
  rw [if_pos hi]
theorem getB (L : List Tok) : ∀ i, i < sizeB L → lenB L i = ((lst (fC L) (nC L)).drop (sizeA L)).getD i 0 := fun i hi => by
  rw [List.getD_eq_getElem?_getD, List.getElem?_drop, ← List.getD_eq_getElem?_getD, lst_get _ _ _ (by unfold nC; omega)]
  unfold fC
  rw [if_neg (by omega), Nat.add_sub_cancel_left]
variable {s : ByteArray} {p : Nat}
theorem tables_stand (hR : TokensRight L) (hS : Stands s p (partBits (lensP L))) : tablesE s p = .ok (lst (fC L) (nC L), sizeA L, p + (partBits (lensP L)).length) := by
  have hA := sizeA_bd L
  have hB := sizeB_bd L
  have hT := toldN_bd (runsW L)
  have hl := runsW_length L
  have hsy := rest_sym (fineC hR) _ 0 rfl
  have hne : runsW L ≠ [] := by
    unfold runsW
    rw [rest_more (by unfold nC; omega)]
    exact fun h => by cases h
  have e : partBits (lensP L) = pieceBits ((sizeA L : Int) - 257) 5 false ++ (pieceBits ((sizeB L : Int) - 1) 5 false ++ (pieceBits ((toldN (runsW L) : Int) - 4) 4 false ++ (partBits (toldP (runsW L)) ++ partBits (runsP (runsW L) (runsW L))))) := by
    unfold lensP
    rw [partBits_app, partBits_app]
    show ((pieceBits _ 5 false ++ (pieceBits _ 5 false ++ (pieceBits _ 4 false ++ []))) ++ _) ++ _ = _
    simp only [List.append_assoc, List.append_nil]
  have hlen : (partBits (lensP L)).length = 14 + (3 * toldN (runsW L) + (partBits (runsP (runsW L) (runsW L))).length) := by
    rw [e]
    simp only [List.length_append, pieceBits_length]
    rw [show (partBits (toldP (runsW L))).length = 3 * toldN (runsW L) from parts3_length _ _]
    omega
  rw [hlen]
  rw [e] at hS
  have x1 := stands_num hS.left (by omega) (by rw [show p2 5 = 32 by decide +kernel]; omega)
  have s2 := hS.right
  rw [pieceBits_length] at s2
  have x2 := stands_num s2.left (by omega) (by rw [show p2 5 = 32 by decide +kernel]; omega)
  have s3 := s2.right
  rw [pieceBits_length, show p + 5 + 5 = p + 10 by omega] at s3
  have x3 := stands_num s3.left (by omega) (by rw [show p2 4 = 16 by decide +kernel]; omega)
  have s4 := s3.right
  rw [pieceBits_length, show p + 10 + 4 = p + 14 by omega] at s4
  have x4 := third_agrees hl s4.left
  have s5 := s4.right
  rw [show (partBits (toldP (runsW L))).length = 3 * toldN (runsW L) from parts3_length _ _] at s5
  have hb5 := s5.1
  have hpos : ∀ r ∈ runsW L, (0 ≤ r.1 ∧ r.1 ≤ 18) ∧ 0 < third (runsW L) r.1.toNat := fun r hr => ⟨hsy r hr, third_has hl hr (hsy r hr)⟩
  have hrb := runs_bits (R := runsW L) (runsW L) (fun r hr => (hpos r hr).2)
  have x5 := all_stand (s := s) (R := runsW L) (f3 := thirdF s (p + 14) (toldN (runsW L))) (fineC hR) (third_coded hl) (fun i hi => (x4 i hi).symm) (nC L) 0 (p + 14 + 3 * toldN (runsW L)) (8 * s.size + 1) rfl (Nat.zero_le _) hpos s5 (by show (runsW L).length < _; omega)
  have e0 : lst (fC L) 0 = [] := rfl
  rw [e0] at x5
  have t3 : ((toldN (runsW L) : Int) - 4 + 4).toNat = toldN (runsW L) := by omega
  have tA : ((sizeA L : Int) - 257 + 257).toNat = sizeA L := by omega
  have tB : ((sizeB L : Int) - 1 + 1).toNat = sizeB L := by omega
  unfold tablesE
  rw [if_pos (by omega), x1, x2, x3, t3, tA, tB, if_neg (by omega), if_pos (by omega)]
  rw [if_neg (by rw [kindOf_congr x4, third_whole hl hne hsy]; omega)]
  have hN : sizeA L + sizeB L = nC L := rfl
  rw [hN, x5]
  simp only []
  have hTR : TabRight (sizeA L) (lst (fC L) (nC L)) := by
    have e1 : (lst (fC L) (nC L)).length - sizeA L = sizeB L := by
      rw [lst_length]
      unfold nC
      omega
    refine ⟨?_, ?_, ?_⟩
    · rw [← kindOf_congr (getA L)]
      exact kindA hR
    · rw [← getA L 256 (by omega)]
      have := (woven_told hR).1
      omega
    · rw [e1, ← kindOf_congr (getB L)]
      exact kindB hR
  rw [if_pos hTR]
  congr 2
  congr 1
  show p + 14 + 3 * toldN (runsW L) + (partBits (runsP (runsW L) (runsW L))).length = _
  omega
theorem woven_stand {most : Nat} {O F : List Int} (hR : TokensRight L) (hr : run O L = some F) (hl : F.length ≤ most) (hS : Stands s p (partBits (lensP L) ++ bodyBits (lenA L) (sizeA L) (lenB L) (sizeB L) L)) : blockE s most 2 p O = .ok (F, p + (partBits (lensP L) ++ bodyBits (lenA L) (sizeA L) (lenB L) (sizeB L) L).length) := by
  have h1 := tables_stand hR hS.left
  have hB := woven_body hR
  have eL : (lst (fC L) (nC L)).length - sizeA L = sizeB L := by
    rw [lst_length]
    unfold nC
    omega
  have eb := body_congr (getA L) (getB L) hB.e1 L hB.s1 (fun t ht hy => (hB.s2 t ht hy).2)
  have hT : Told (fun i => (lst (fC L) (nC L)).getD i 0) (fun i => ((lst (fC L) (nC L)).drop (sizeA L)).getD i 0) L := by
    have h0 := woven_told hR
    refine ⟨?_, fun t ht => ⟨?_, fun hy => ?_⟩⟩
    · show 1 ≤ (lst (fC L) (nC L)).getD 256 0
      rw [← getA L 256 hB.e1]
      exact h0.1
    · show 1 ≤ (lst (fC L) (nC L)).getD (sym1 t) 0
      rw [← getA L _ (hB.s1 t ht)]
      exact (h0.2 t ht).1
    · show 1 ≤ ((lst (fC L) (nC L)).drop (sizeA L)).getD (sym2 t) 0
      rw [← getB L _ (hB.s2 t ht hy).2]
      exact (h0.2 t ht).2 hy
  have q2 := hS.right
  rw [eb] at q2
  have hlb := body_len (f1 := fun i => (lst (fC L) (nC L)).getD i 0) (n1 := sizeA L) (f2 := fun i => ((lst (fC L) (nC L)).drop (sizeA L)).getD i 0) (n2 := sizeB L) hT
  have hb := q2.1
  have h2 := symbols_stand (s := s) (most := most) L O F _ (8 * s.size + 1) hr hl hT (body_ok_congr (getA L) (getB L) hB) q2 (by omega)
  unfold blockE
  rw [if_neg (by omega), if_neg (by omega), if_pos rfl, h1]
  simp only []
  rw [eL, h2, List.length_append, eb, Nat.add_assoc]
end
end StandMath
end Go.Proofs.YtbcnlggkoidmmaaGreatDoor

namespace Go.Proofs.YtbcnlggkoidmmaaGreatDoor
namespace StandMath
open OutMath CodeMath TakeMath HitMath WayMath StepMath TokMath InfMath PutMath RunsMath TokLenMath TrimMath BlockMath PartMath BodyMath PackageMath WovenMath

/-- What was put stands there, and what stood ahead still does. -/
theorem bits_stand {o o' : ByteArray × Nat} {bs : List Int} (h : bitsOut o bs = some o') (h01 : Bits01 bs) : Stands o'.1 o.2 bs ∧ ∀ i, i < o.2 → bit o'.1 i = bit o.1 i := by
  obtain ⟨h1, h2, h3, h4, h5, h6⟩ := bitsOut_right h h01
  have inv : Inv (numsOf o.1) o.2 := bytes_inv o.1 o.2 h6
  have ab := putB_allB inv (numsOf_allB o.1) h01
  obtain ⟨q1, q2, q3, q4⟩ := fits_of_outB _ _ h1
  refine ⟨⟨by omega, fun i hi => ?_⟩, fun i hi => ?_⟩
  · rw [h5, BitsMath.bit_str ab]
    exact BitsMath.puts_new inv h01 i bs.length hi
  · rw [h5, BitsMath.bit_str ab]
    have e := BitsMath.puts_old inv h01 i hi bs.length
    show BitsMath.bitAt (puts (numsOf o.1) o.2 (fun i => bs.getD i 0) bs.length) i = _
    rw [e]
    have h8 := BitsMath.byteAt_str (numsOf_allB o.1) (i / 8)
    unfold bit BitsMath.bitAt
    rw [numsOf_get]
where
  numsOf_get {s : ByteArray} {i : Nat} : (numsOf s).getD i 0 = ((byteAt s i : Nat) : Int) := by
    unfold numsOf byteAt
    rw [List.getD_eq_getElem?_getD, List.getElem?_map, Array.getElem?_toList]
    cases s.data[i]? <;> rfl
theorem empty_ok : outB ⟨#[]⟩ (0 : Nat) = true := by decide +kernel
theorem storedBits_01 (c : Nat) (t : ByteArray) : Bits01 (storedBits c t) := (fillBits_01 c).append ((pieceBits_01 _ _ _).append ((pieceBits_01 _ _ _).append (byteBits_01 _)))
theorem put_some {bs : List Int} (h : bs.length ≤ 96000) : ∃ o, bitsOut (⟨#[]⟩, 0) bs = some o := ⟨_, bitsOut_some empty_ok (by omega)⟩
section
variable {L : List Tok} {F : List Int}
theorem parts_small (P : List Part) (hP : ∀ p ∈ P, Right p) {k : Nat} (hk : P.length ≤ k) : (partBits P).length ≤ 24 * k := by
  have := partBits_le P hP
  omega
end
end StandMath
end Go.Proofs.YtbcnlggkoidmmaaGreatDoor

namespace Go.Proofs.YtbcnlggkoidmmaaGreatDoor
namespace StandMath
open OutMath CodeMath TakeMath HitMath WayMath StepMath TokMath InfMath PutMath RunsMath TokLenMath TrimMath BlockMath PartMath BodyMath PackageMath WovenMath

/-- The bits of a block behind the first three, from place p on. -/
def blkBits (kind p : Nat) (t : ByteArray) (L : List Tok) : List Int :=
  if kind = 0 then storedBits p t else if kind = 1 then bodyBits fixed1 288 fixed2 32 L else partBits (lensP L) ++ bodyBits (lenA L) (sizeA L) (lenB L) (sizeB L) L
/-- What a block of this type comes to. -/
def blkOut (kind : Nat) (s : ByteArray) (c : Int) (t : ByteArray) (L : List Tok) (last : Bool) : Option (ByteArray × Nat) :=
  if kind = 0 then storedOut s c t last else if kind = 1 then fixedOut s c L last else wovenOut s c L last
theorem blkBits_01 (kind p : Nat) (t : ByteArray) (L : List Tok) : Bits01 (blkBits kind p t L) := by
  unfold blkBits
  split
  · exact storedBits_01 _ _
  · split
    · exact partBits_01 _
    · exact (partBits_01 _).append (partBits_01 _)
theorem blkBits_len {kind p : Nat} {t : ByteArray} {L : List Tok} (hR : TokensRight L) (h40 : L.length ≤ 40) (ht : kind = 0 → t.size ≤ 2600) : (blkBits kind p t L).length ≤ 30000 := by
  unfold blkBits
  split
  · rename_i hk
    have := ht hk
    unfold storedBits
    simp only [List.length_append, pieceBits_length, byteBits_length, numsOf_length, fillBits_length]
    omega
  · split
    · have hb : (bodyBits fixed1 288 fixed2 32 L).length ≤ 24 * 161 := parts_small _ (fixed_body hR.2).bodyR (by
        unfold bodyP
        have := toksP_length (f1 := fixed1) (n1 := 288) (f2 := fixed2) (n2 := 32) L
        rw [List.length_append, List.length_singleton]
        omega)
      omega
    · have hb : (bodyBits (lenA L) (sizeA L) (lenB L) (sizeB L) L).length ≤ 24 * 161 := parts_small _ (woven_body hR).bodyR (by
        unfold bodyP
        have := toksP_length (f1 := lenA L) (n1 := sizeA L) (f2 := lenB L) (n2 := sizeB L) L
        rw [List.length_append, List.length_singleton]
        omega)
      have hc : (partBits (lensP L)).length ≤ 24 * 654 := parts_small _ (lensP_right hR) (by
        have h1 := (toldN_bd (runsW L))
        have h2 := runsW_length L
        have h3 := runsP_length (runsW L) (runsW L)
        have h4 : (toldP (runsW L)).length = toldN (runsW L) := by simp [toldP]
        have h5 : (wovenHead L).length = 3 := rfl
        unfold lensP
        rw [List.length_append, List.length_append]
        omega)
      rw [List.length_append]
      omega
theorem blkOut_bits {kind : Nat} {s : ByteArray} {c : Nat} {t : ByteArray} {L : List Tok} {last : Bool} (hk : kind ≤ 2) (ho : outB s (c : Int) = true) (hR : TokensRight L) (ht : kind = 0 → t.size ≤ 2600) : blkOut kind s c t L last = bitsOut (s, c) (headBits kind last ++ blkBits kind (c + 3) t L) := by
  have hst : outSt s (c : Int) = some (s, c) := by
    unfold outSt
    rw [if_pos ho, Int.toNat_natCast]
  unfold blkOut blkBits
  by_cases h0 : kind = 0
  · subst h0
    rw [if_pos rfl, if_pos rfl]
    unfold storedOut
    rw [if_pos (ht rfl), hst, Option.bind_some]
  · rw [if_neg h0, if_neg h0]
    by_cases h1 : kind = 1
    · subst h1
      rw [if_pos rfl, if_pos rfl]
      unfold fixedOut
      rw [if_pos hR, hst, Option.bind_some]
    · obtain rfl : kind = 2 := by omega
      rw [if_neg h1, if_neg h1]
      unfold wovenOut
      rw [if_pos hR, hst, Option.bind_some]
theorem block_reads {kind p : Nat} {s : ByteArray} {L : List Tok} {O M : List Int} (hk : kind ≤ 2) (hR : TokensRight L) (hr : run O L = some (O ++ M)) (hl : (O ++ M).length ≤ 12000) (hB : Bytes M) (ht : kind = 0 → M.length ≤ 2600) (hS : Stands s p (blkBits kind p (strOfNums M) L)) : blockE s 12000 (kind : Int) p O = .ok (O ++ M, p + (blkBits kind p (strOfNums M) L).length) := by
  by_cases h0 : kind = 0
  · subst h0
    have hS' : Stands s p (storedBits p (strOfNums M)) := hS
    have hsz : (strOfNums M).size = M.length := strOfNums_size M
    have hnb : numsOf (strOfNums M) = M := BitsMath.nums_back (fun i => by have := getD_byte hB i; omega)
    have h := stored_stand (s := s) (most := 12000) (O := O) (by have := ht rfl; omega) (by rw [List.length_append] at hl; omega) hS'
    rw [hnb] at h
    unfold blockE
    rw [if_pos (by rfl)]
    exact h
  · by_cases h1 : kind = 1
    · subst h1
      have hS' : Stands s p (bodyBits fixed1 288 fixed2 32 L) := hS
      exact fixed_stand hR.2 hr hl hS'
    · obtain rfl : kind = 2 := by omega
      have hS' : Stands s p (partBits (lensP L) ++ bodyBits (lenA L) (sizeA L) (lenB L) (sizeB L) L) := hS
      exact woven_stand hR hr hl hS'
theorem head_reads {s : ByteArray} {p kind : Nat} {last : Bool} {rest : List Int} (hk : kind ≤ 2) (hS : Stands s p (headBits kind last ++ rest)) : p + 3 ≤ 8 * s.size ∧ num s p 1 = (if last then 1 else 0) ∧ num s (p + 1) 2 = (kind : Int) ∧ Stands s (p + 3) rest := by
  have h1 := hS.left
  have hl := h1.1
  rw [headBits_length] at hl
  unfold headBits at h1
  have x1 := stands_num h1.left (by cases last <;> decide) (by cases last <;> decide)
  have s2 := h1.right
  rw [pieceBits_length] at s2
  have x2 := stands_num s2 (by omega) (by rw [show p2 2 = 4 by decide +kernel]; omega)
  have hr := hS.right
  rw [headBits_length] at hr
  exact ⟨hl, x1, x2, hr⟩
theorem two_blocks {s : ByteArray} {k1 k2 p1 p2' m : Nat} {r1 r2 F1 F2 : List Int} (h1 : k1 ≤ 2) (h2 : k2 ≤ 2) (hS1 : Stands s 0 (headBits k1 false ++ r1)) (hb1 : blockE s 12000 (k1 : Int) 3 [] = .ok (F1, p1)) (hS2 : Stands s p1 (headBits k2 true ++ r2)) (hb2 : blockE s 12000 (k2 : Int) (p1 + 3) F1 = .ok (F2, p2')) : blocksF s 12000 (m + 2) 0 [] [] = .ok (F2, p2', [(k1 : Int), (k2 : Int)]) := by
  obtain ⟨a1, a2, a3, _⟩ := head_reads h1 hS1
  obtain ⟨b1, b2, b3, _⟩ := head_reads h2 hS2
  unfold blocksF
  rw [if_pos a1, a3, a2, show 0 + 3 = 3 from rfl, hb1]
  simp only []
  rw [if_pos (by rfl)]
  unfold blocksF
  rw [if_pos b1, b3, b2, hb2]
  simp only []
  rw [if_neg (by decide)]
  rfl
theorem Stands.kept {s s' : ByteArray} {p c : Nat} {bs : List Int} (h : Stands s p bs) (hc : p + bs.length ≤ c) (hs : s.size ≤ s'.size) (hb : ∀ i, i < c → bit s' i = bit s i) : Stands s' p bs :=
  ⟨by have := h.1; omega, fun i hi => by rw [hb _ (by omega)]; exact h.2 i hi⟩
/-- Two blocks, one behind the other. -/
theorem two_unpack {k1 k2 : Nat} {A B : List Tok} {F1 M : List Int} (h1 : k1 ≤ 2) (h2 : k2 ≤ 2) (hRA : TokensRight A) (hRB : TokensRight B) (hA40 : A.length ≤ 40) (hB40 : B.length ≤ 40) (hA : run [] A = some F1) (hB : run F1 B = some (F1 ++ M)) (hl : (F1 ++ M).length ≤ 12000) (hy1 : Bytes F1) (hy2 : Bytes M) (ht1 : k1 = 0 → F1.length ≤ 2600) (ht2 : k2 = 0 → M.length ≤ 2600) :
    ∃ o1 o2 p, blkOut k1 ⟨#[]⟩ 0 (strOfNums F1) A false = some o1 ∧ blkOut k2 o1.1 (o1.2 : Int) (strOfNums M) B true = some o2 ∧ outB o1.1 o1.2 = true ∧ o1.1.size ≤ 12000 ∧ o1.2 ≤ 96000 ∧ o2.1.size ≤ 12000 ∧ inflateE o2.1 12000 = .ok (F1 ++ M, p, [(k1 : Int), (k2 : Int)]) ∧ (p + 7) / 8 = o2.1.size ∧ p ≤ 96000 := by
  have s1 : (strOfNums F1).size = F1.length := strOfNums_size F1
  have s2 : (strOfNums M).size = M.length := strOfNums_size M
  have l1 := blkBits_len (kind := k1) (p := 3) (t := strOfNums F1) hRA hA40 (fun h => by have := ht1 h; omega)
  have l2 := fun p => blkBits_len (kind := k2) (p := p) (t := strOfNums M) hRB hB40 (fun h => by have := ht2 h; omega)
  have e1 := blkOut_bits (s := ⟨#[]⟩) (c := 0) (last := false) (t := strOfNums F1) h1 empty_ok hRA (fun h => by have := ht1 h; omega)
  obtain ⟨o1, ho1⟩ := put_some (bs := headBits k1 false ++ blkBits k1 3 (strOfNums F1) A) (by rw [List.length_append, headBits_length]; omega)
  have z1 : Bits01 (headBits k1 false ++ blkBits k1 3 (strOfNums F1) A) := (headBits_01 _ _).append (blkBits_01 _ _ _ _)
  obtain ⟨q1, q2, q3, q4, q5, q6⟩ := bitsOut_right ho1 z1
  have hlen1 : (headBits k1 false ++ blkBits k1 3 (strOfNums F1) A).length = 3 + (blkBits k1 3 (strOfNums F1) A).length := by rw [List.length_append, headBits_length]
  rw [hlen1] at q2
  have q2' : o1.2 = 3 + (blkBits k1 3 (strOfNums F1) A).length := by simpa using q2
  obtain ⟨f1, f2, f3, f4⟩ := fits_of_outB _ _ q1
  have S1 := (bits_stand ho1 z1).1
  have e2 := blkOut_bits (s := o1.1) (c := o1.2) (last := true) (t := strOfNums M) h2 q1 hRB (fun h => by have := ht2 h; omega)
  have l2' := l2 (o1.2 + 3)
  have ho2 := bitsOut_some (bs := headBits k2 true ++ blkBits k2 (o1.2 + 3) (strOfNums M) B) q1 (by rw [List.length_append, headBits_length]; omega)
  have z2 : Bits01 (headBits k2 true ++ blkBits k2 (o1.2 + 3) (strOfNums M) B) := (headBits_01 _ _).append (blkBits_01 _ _ _ _)
  generalize hgo : (strOfNums (putB (numsOf o1.1) o1.2 (headBits k2 true ++ blkBits k2 (o1.2 + 3) (strOfNums M) B)), o1.2 + (headBits k2 true ++ blkBits k2 (o1.2 + 3) (strOfNums M) B).length) = o2 at ho2
  clear hgo
  obtain ⟨r1, r2, r3, _⟩ := bitsOut_right ho2 z2
  obtain ⟨g1, g2, g3, g4⟩ := fits_of_outB _ _ r1
  obtain ⟨S2, K2⟩ := bits_stand ho2 z2
  have hlen2 : (headBits k2 true ++ blkBits k2 (o1.2 + 3) (strOfNums M) B).length = 3 + (blkBits k2 (o1.2 + 3) (strOfNums M) B).length := by rw [List.length_append, headBits_length]
  have r2' : o2.2 = o1.2 + (3 + (blkBits k2 (o1.2 + 3) (strOfNums M) B).length) := by rw [hlen2] at r2; exact r2
  have S1' : Stands o2.1 0 (headBits k1 false ++ blkBits k1 3 (strOfNums F1) A) := Stands.kept S1 (by rw [hlen1]; omega) (by omega) K2
  have b1 := block_reads (s := o2.1) (p := 3) (O := []) (M := F1) h1 hRA (by rw [List.nil_append]; exact hA) (by rw [List.length_append] at hl; rw [List.nil_append]; omega) hy1 ht1 (head_reads h1 S1').2.2.2
  rw [List.nil_append, ← q2'] at b1
  have b2 := block_reads (s := o2.1) (p := o1.2 + 3) (O := F1) (M := M) h2 hRB hB hl hy2 ht2 (head_reads h2 S2).2.2.2
  have hsz : 0 < o2.1.size := by omega
  have hb := two_blocks (m := 8 * o2.1.size + 1 - 2) h1 h2 S1' b1 S2 b2
  rw [show 8 * o2.1.size + 1 - 2 + 2 = 8 * o2.1.size + 1 by omega] at hb
  refine ⟨o1, o2, o1.2 + 3 + (blkBits k2 (o1.2 + 3) (strOfNums M) B).length, ?_, ?_, q1, f1, q3, g1, ?_, by omega, by omega⟩
  · exact e1.trans ho1
  · exact e2.trans ho2
  · unfold inflateE
    rw [if_pos ⟨g1, by omega, by omega⟩]
    exact hb
end StandMath
end Go.Proofs.YtbcnlggkoidmmaaGreatDoor

namespace Go.Proofs.YtbcnlggkoidmmaaGreatDoor
open Go.RowKit

/-- What the program's StoredBlock is to answer. -/
def StoredAnswer : Prop := ∀ (s : ByteArray) (c : Int) (t : ByteArray) (last : Bool) (w : World), s.size ≤ 1048576 → -9223372036854775808 ≤ c → c ≤ 9223372036854775807 → t.size ≤ 1048576 →
  Calls Tryz.prog 10 #[.agg #[.string s, .int .i64 c], .string t, .bool last] w fun e w' => e = .returned (blkAns (storedOut s c t last)) ∧ Below w.heap.size w w'

end Go.Proofs.YtbcnlggkoidmmaaGreatDoor

namespace Go.Proofs.YtbcnlggkoidmmaaGreatDoor
open Go.RowKit TokMath

/-- What the program's FixedBlock is to answer. -/
def FixedAnswer : Prop := ∀ (s : ByteArray) (c : Int) (a : Option Addr) (cp : Nat) (L : List Tok) (last : Bool) (w : World), s.size ≤ 1048576 → -9223372036854775808 ≤ c → c ≤ 9223372036854775807 → TCame w a L.length (fun j => L.getD j (0, 0, 0)) → L.length ≤ 1048576 →
  Calls Tryz.prog 11 #[.agg #[.string s, .int .i64 c], .slice a L.length cp, .bool last] w fun e w' => e = .returned (blkAns (fixedOut s c L last)) ∧ Below w.heap.size w w'
end Go.Proofs.YtbcnlggkoidmmaaGreatDoor

namespace Go.Proofs.YtbcnlggkoidmmaaGreatDoor
open Go.RowKit TokMath WovenMath

/-- What the program's WovenBlock is to answer where its table lies. -/
def WovenAnswer : Prop := ∀ (s : ByteArray) (c : Int) (a : Option Addr) (cp : Nat) (L : List Tok) (last : Bool) (w : World), s.size ≤ 1048576 → -9223372036854775808 ≤ c → c ≤ 9223372036854775807 → TCame w a L.length (fun j => L.getD j (0, 0, 0)) → L.length ≤ 1048576 → OrderG w →
  Calls Tryz.prog 12 #[.agg #[.string s, .int .i64 c], .slice a L.length cp, .bool last] w fun e w' => e = .returned (blkAns (wovenOut s c L last)) ∧ Below w.heap.size w w'
end Go.Proofs.YtbcnlggkoidmmaaGreatDoor
