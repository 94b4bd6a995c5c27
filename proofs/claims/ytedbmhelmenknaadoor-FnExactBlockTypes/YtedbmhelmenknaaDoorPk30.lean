/-
  Unpacking as the program reads it, in plain numbers, against the model's: both make the same, where they make anything. Nothing here speaks of the program's text.
  The walk of the program's first codes.
-/
import Derived.Test.YtedbmhelmenknaaDoorPk29
import Derived.Test.YtedbmhelmenknaaDoorRows
import Derived.Test.YtedbmhelmenknaaDoorPk01
import Derived.Test.YtedbmhelmenknaaDoorPk05
import Derived.Test.YtedbmhelmenknaaDoorPk12
import Derived.Test.YtedbmhelmenknaaDoorPk21
import Derived.WalkKit
import Derived.ProofKit
import Derived.WalkLawsBesides
import Derived.RegionTactic
import Derived.BigRegion
import Derived.Deep.RegionWith
import Derived.Lib.SmallJoins
namespace Go.Proofs.YtedbmhelmenknaaDoor
open OutMath CodeMath TakeMath HitMath WayMath StepMath TokMath InfMath RunsMath

theorem num_split (s : ByteArray) (p a : Nat) : ∀ b, num s p (a + b) = num s p a + p2 a * num s (p + a) b
  | 0 => by
    show num s p a = num s p a + p2 a * 0
    omega
  | b + 1 => by
    have ih := num_split s p a b
    show num s p (a + b) + bit s (p + (a + b)) * p2 (a + b) = num s p a + p2 a * (num s (p + a) b + bit s (p + a + b) * p2 b)
    rw [ih, p2_add, Nat.add_assoc p a b, Int.mul_add, Int.mul_left_comm (p2 a) (bit s (p + (a + b))) (p2 b), ← Int.mul_assoc (bit s (p + (a + b))), Int.mul_assoc (bit s (p + (a + b))) (p2 a)]
    omega
theorem and31 (x : Int) (h0 : 0 ≤ x) (h1 : x < 1000000) : bits .and .i64 x 31 = x % 32 := by
  obtain ⟨n, rfl⟩ := Int.eq_ofNat_of_zero_le h0
  have h := i64_and_nat n 31 (by omega) (by omega)
  rw [show (31 : Nat) = 2 ^ 5 - 1 from rfl, Nat.and_two_pow_sub_one_eq_mod] at h
  rw [show ((2 ^ 5 - 1 : Nat) : Int) = 31 from rfl] at h
  rw [h]
  omega
/-- The three numbers of a block of type 2, out of fourteen bits. -/
theorem three_of (s : ByteArray) (p : Nat) : num s p 14 % 32 = num s p 5 ∧ num s p 14 / 32 % 32 = num s (p + 5) 5 ∧ num s p 14 / 1024 = num s (p + 10) 4 := by
  have h1 := num_split s p 5 9
  have h2 := num_split s (p + 5) 5 4
  have b1 := num_bd s p 5
  have b2 := num_bd s (p + 5) 5
  have b3 := num_bd s (p + 10) 4
  rw [show p2 5 = 32 by decide +kernel] at h1 h2 b1 b2
  rw [show p + 5 + 5 = p + 10 by omega] at h2
  rw [show 5 + 9 = 14 from rfl] at h1
  rw [show 5 + 4 = 9 from rfl] at h2
  omega
section
variable (s : ByteArray) (most : Nat)
noncomputable def tablesP (p : Nat) : Except Nat (List Int × Nat × Nat) :=
  if p + 14 ≤ 8 * s.size then
    (if 29 < num s p 5 ∨ 29 < num s (p + 5) 5 then .error 5
     else if p + 14 + 3 * (num s (p + 10) 4 + 4).toNat ≤ 8 * s.size then
       (if kindOf (thirdF s (p + 14) (num s (p + 10) 4 + 4).toNat) 19 ≠ 2 then .error 5
        else match allP s (thirdF s (p + 14) (num s (p + 10) 4 + 4).toNat) ((num s p 5 + 257).toNat + (num s (p + 5) 5 + 1).toNat) (8 * s.size + 1) (p + 14 + 3 * (num s (p + 10) 4 + 4).toNat) [] with
          | .error x => .error x
          | .ok (L, p2) => if TabRight (num s p 5 + 257).toNat L then .ok (L, (num s p 5 + 257).toNat, p2) else .error 5)
     else .error 2)
  else .error 2
noncomputable def blockP (kind : Int) (p : Nat) (O : List Int) : Except Nat (List Int × Nat) :=
  if kind = 0 then storedE s most p O
  else if kind = 1 then symbolsF s most fixed1 288 fixed2 32 (8 * s.size + 1) p O
  else if kind = 2 then (match tablesP s p with
    | .error x => .error x
    | .ok (L, n, p2) => symbolsF s most (fun i => L.getD i 0) n (fun i => (L.drop n).getD i 0) (L.length - n) (8 * s.size + 1) p2 O)
  else .error 3
noncomputable def blocksP : Nat → Nat → List Int → List Int → Except Nat (List Int × Nat × List Int)
  | 0, _, _, _ => .error 9
  | m + 1, p, O, Ty => if p + 3 ≤ 8 * s.size then
      match blockP s most (num s (p + 1) 2) (p + 3) O with
      | .error x => .error x
      | .ok (O', p') => if num s p 1 = 0 then blocksP m p' O' (Ty ++ [num s (p + 1) 2]) else .ok (O', p', Ty ++ [num s (p + 1) 2])
    else .error 2
end
noncomputable def inflateP (s : ByteArray) (most : Int) : Except Nat (List Int × Nat × List Int) := if s.size ≤ 12000 ∧ 0 ≤ most ∧ most ≤ 12000 then blocksP s most.toNat (8 * s.size + 1) 0 [] [] else .error 1
/-- Both tell the same, or both are refused. -/
def Alike {α : Type} (a b : Except Nat α) : Prop := (∃ r, a = .ok r ∧ b = .ok r) ∨ (∃ c c', a = .error c ∧ b = .error c')
theorem Alike.refl {α : Type} (a : Except Nat α) : Alike a a := by
  cases a with
  | error c => exact .inr ⟨c, c, rfl, rfl⟩
  | ok r => exact .inl ⟨r, rfl, rfl⟩
theorem tables_alike (s : ByteArray) (p : Nat) : Alike (tablesP s p) (tablesE s p) := by
  unfold tablesP tablesE
  split
  · split
    · exact Alike.refl _
    · split
      · split
        · exact Alike.refl _
        · generalize thirdF s (p + 14) (num s (p + 10) 4 + 4).toNat = f3
          generalize (num s p 5 + 257).toNat + (num s (p + 5) 5 + 1).toNat = N
          generalize p + 14 + 3 * (num s (p + 10) 4 + 4).toNat = q
          rcases allP_same (s := s) (f3 := f3) (N := N) (8 * s.size + 1) q [] with ⟨r, h1, h2⟩ | ⟨c, c', h1, h2⟩
          · rw [h1, h2]
            exact Alike.refl _
          · rw [h1, h2]
            exact .inr ⟨c, c', rfl, rfl⟩
      · exact Alike.refl _
  · exact Alike.refl _
theorem block_alike (s : ByteArray) (most : Nat) (k : Int) (p : Nat) (O : List Int) : Alike (blockP s most k p O) (blockE s most k p O) := by
  unfold blockP blockE
  split
  · exact Alike.refl _
  · split
    · exact Alike.refl _
    · split
      · rcases tables_alike s p with ⟨r, h1, h2⟩ | ⟨c, c', h1, h2⟩
        · rw [h1, h2]
          exact Alike.refl _
        · rw [h1, h2]
          exact .inr ⟨c, c', rfl, rfl⟩
      · exact Alike.refl _
theorem blocks_alike (s : ByteArray) (most : Nat) : ∀ (m p : Nat) (O Ty : List Int), Alike (blocksP s most m p O Ty) (blocksF s most m p O Ty)
  | 0, p, O, Ty => Alike.refl _
  | m + 1, p, O, Ty => by
    rw [blocksP, blocksF]
    split
    · rcases block_alike s most (num s (p + 1) 2) (p + 3) O with ⟨⟨O', p'⟩, h1, h2⟩ | ⟨c, c', h1, h2⟩
      · rw [h1, h2]
        dsimp only
        split
        · exact blocks_alike s most m p' O' _
        · exact Alike.refl _
      · rw [h1, h2]
        exact .inr ⟨c, c', rfl, rfl⟩
    · exact Alike.refl _
/-- The program's reading against the model's. -/
theorem inflate_alike (s : ByteArray) (most : Int) : Alike (inflateP s most) (inflateE s most) := by
  unfold inflateP inflateE
  split
  · exact blocks_alike s most.toNat _ _ _ _
  · exact Alike.refl _
end Go.Proofs.YtedbmhelmenknaaDoor

namespace Go.Proofs.YtedbmhelmenknaaDoor
open Go.RowKit Go.Joins OutMath CodeMath

theorem firstTo_here (g : Nat → Int) (t : Nat) (s : Nat) : upd (firstTo g t) t (first g t) s = firstTo g (t + 1) s := by
  unfold upd firstTo
  by_cases h : s = t
  · rw [if_pos h, if_pos (by omega), h]
  · rw [if_neg h]
    by_cases h2 : s < t
    · rw [if_pos h2, if_pos (by omega)]
    · rw [if_neg h2, if_neg (by omega)]

/-- What the ring of firstCodes has at hand: the counts, the answer's place, and the codes so far. -/
def FirSt (w w' : World) (g : Nat → Int) (t : Nat) : Prop :=
  Six w' w.heap.size 131 g ∧ Six w' (w.heap.size + 1) 130 (fun _ => 0) ∧ Six w' (w.heap.size + 2) 130 (firstTo g t) ∧ Below w.heap.size w w'
theorem fir_start (w : World) (g : Nat → Int) : FirSt w (((w.alloc (.cells (six g) 131)).alloc (.cells (six fun _ => 0) 130)).alloc (.cells (six fun _ => 0) 130)) g 2 := by
  have z1 : (w.alloc (.cells (six g) 131)).heap.size = w.heap.size + 1 := by simp
  have z2 : ((w.alloc (.cells (six g) 131)).alloc (.cells (six fun _ => 0) 130)).heap.size = w.heap.size + 2 := by simp
  refine ⟨?_, ?_, ?_, bal (bal (bstart _ _) _) _⟩
  · show _ = _
    rw [Below.heap_alloc _ _ _ (by simp; omega), Below.heap_alloc _ _ _ (by simp)]
    exact heap_alloc_new w _
  · show _ = _
    rw [Below.heap_alloc _ _ _ (by simp)]
    have k := heap_alloc_new (w.alloc (.cells (six g) 131)) (.cells (six fun _ => 0) 130)
    rw [z1] at k
    exact k
  · refine Six.congr (g := fun _ => 0) ?_ (fun s _ => (firstTo_start g s).symm)
    have k := heap_alloc_new ((w.alloc (.cells (six g) 131)).alloc (.cells (six fun _ => 0) 130)) (.cells (six fun _ => 0) 130)
    rw [z2] at k
    exact k

set_option maxHeartbeats 1600000 in
theorem first_any (g : Nat → Int) (w : World) (hg : ∀ s, 0 ≤ g s ∧ g s ≤ 288) :
    Calls Tryd.prog 67 #[.agg (six g)] w fun e w' => e = .returned (.agg (six (first g))) ∧ Below w.heap.size w w' := by
  have HG : Hid (∀ s, 0 ≤ g s ∧ g s ≤ 288) := hg
  have H0 := hid_of (fir_start w g)
  clear hg
  go_enter Tryd.func67, Tryd.ntmps67
  go_wp2_with fail
  go_loopw [4] (fun i w' => ∃ t : Nat, 2 ≤ t ∧ t ≤ 16 ∧ i = .int .i64 t ∧ Hid (FirSt w w' g t)) (fun i _ => 16 - (intOf i).toNat)
  case atStart => exact ⟨2, by omega, by omega, rfl, H0⟩
  case round =>
    clear H0
    obtain ⟨t, ht1, ht2, rfl, hS⟩ := hrel
    by_cases hlt : t ≤ 15
    · obtain ⟨u, rfl⟩ : ∃ u, t = u + 1 := ⟨t - 1, by omega⟩
      have c0 := hS.out.1.c u (by omega)
      have c1 := hS.out.2.2.1.c u (by omega)
      have c2 := hS.out.2.2.1.c (u + 1) (by omega)
      have f2 := hS.out.2.2.1.f (u + 1)
      have l2 := hS.out.2.2.1.lt
      have e1 : firstTo g (u + 1) u = first g u := by unfold firstTo; rw [if_pos (by omega)]
      have e2 : firstTo g (u + 1) (u + 1) = 0 := by unfold firstTo; rw [if_neg (by omega)]
      rw [e1] at c1
      rw [e2] at c2
      have hb := first_lt g HG.out u (by omega)
      have hgb := HG.out u
      have HE : Hid (first g (u + 1) = 2 * (first g u + g u)) := first_step g (u + 1) (by omega)
      clear e1 e2
      go_wp2_with fail
      go_region
      all_goals
        have HS1 : Hid (FirSt w ((wr.setCell ⟨w.heap.size + 1 + 1, u + 1, none⟩ (.int .i64 (2 * (first g u + g u)))).drew) g (u + 1 + 1)) := by
          refine ⟨?_, ?_, ?_, (Below.setCell (p := ⟨w.heap.size + 2, u + 1, none⟩) hS.out.2.2.2 (by simp) _).drew⟩
          · show (wr.setCell ⟨w.heap.size + 2, u + 1, none⟩ _).heap[_]? = _
            rw [Below.heap_setCell _ _ _ _ (show w.heap.size ≠ w.heap.size + 2 by omega)]
            exact hS.out.1
          · show (wr.setCell ⟨w.heap.size + 2, u + 1, none⟩ _).heap[_]? = _
            rw [Below.heap_setCell _ _ _ _ (show w.heap.size + 1 ≠ w.heap.size + 2 by omega)]
            exact hS.out.2.1
          · have k := (hS.out.2.2.1.set (u + 1) (2 * (first g u + g u))).congr (g' := firstTo g (u + 1 + 1)) (fun i _ => by rw [← HE.out]; exact firstTo_here g (u + 1) i)
            exact k
        go_wp2_with fail
        go_roundw
        case rel => exact ⟨u + 1 + 1, by omega, by omega, by go_num, HS1⟩
        case measure => simp [intOf]; omega
    · obtain rfl : t = 16 := by omega
      have cr := hS.out.2.1.c
      have fr := hS.out.2.1.f
      have lr := hS.out.2.1.lt
      have hB := hS.out.2.2.2
      have e1 : ∀ i, i < 16 → firstTo g 16 i = first g i := fun i hi => by unfold firstTo; rw [if_pos hi]
      have cc : ∀ i, i < 16 → wr.cell? ⟨w.heap.size + 1 + 1, i, none⟩ = some (.int .i64 (first g i)) := fun i hi => by rw [← e1 i hi]; exact hS.out.2.2.1.c i hi
      clear e1
      go_wp2_with fail
      refine bodyPost_ret (v := .agg (six (first g))) (by simp [results, Tryd.results67, go_sem, cr]) rfl ⟨rfl, ?_⟩
      iterate 16 refine Below.setCell ?_ (by simp) _
      exact hB

end Go.Proofs.YtedbmhelmenknaaDoor
