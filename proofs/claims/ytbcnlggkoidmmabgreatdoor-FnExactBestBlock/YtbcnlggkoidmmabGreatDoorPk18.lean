/-
  The walk of the document's model of the first list.
-/
import Derived.Test.YtbcnlggkoidmmabGreatDoorRows
import Derived.Test.YtbcnlggkoidmmabGreatDoorPk01
import Derived.Test.YtbcnlggkoidmmabGreatDoorPk03
import Derived.Test.YtbcnlggkoidmmabGreatDoorPk04
import Derived.Test.YtbcnlggkoidmmabGreatDoorPk05
import Derived.Test.YtbcnlggkoidmmabGreatDoorPk06
import Derived.Test.YtbcnlggkoidmmabGreatDoorPk16
import Derived.WalkKit
import Derived.ProofKit
import Derived.WalkLawsBesides
import Derived.BigQuiet
import Derived.Deep.QuietTactic
import Derived.OwnWalk
import Derived.Lib.SmallJoins
namespace Go.Proofs.YtbcnlggkoidmmabGreatDoor
open Go.RowKit Go.Joins PackageMath

/-- What the ring of l04First has at hand. -/
def CoinSt (w w' : World) (v : Value) (O : List Coin) : Prop := ItemsAt 95 w' w.heap.size w.heap.size v O ∧ Below w.heap.size w w'
/-- And the new item, in block P. -/
def CoinX (w w' : World) (v : Value) (O : List Coin) (P : Nat) (u : Value) (x : Coin) : Prop := CoinSt w w' v O ∧ w'.heap[P]? = some (.cells #[.int .i64 x.1, u] 95 (0, 0)) ∧ PartsAt w' w.heap.size u x.2
theorem CoinX.called {w w0 w' : World} {v : Value} {O : List Coin} {P : Nat} {u : Value} {x : Coin} (h : CoinX w w0 v O P u x) (hb : Below w0.heap.size w0 w') : CoinX w w' v O P u x :=
  ⟨⟨h.1.1.called hb, bnext h.1.2 hb⟩, (hb.block P (block_lt h.2.1)).trans h.2.1, h.2.2.keep (fun g _ _ _ hg => hb.block g (block_lt hg))⟩

theorem coin_made {w w0 : World} {v : Value} {O : List Coin} (h : CoinSt w w0 v O) (c : Int) (j : Nat) :
    CoinX w ((w0.alloc (.cells #[.int .i64 (j : Int)] 3)).alloc (.cells #[.int .i64 c, .slice (some ⟨w0.heap.size, 0, none⟩) 1 1] 95)) v O (w0.heap.size + 1) (.slice (some ⟨w0.heap.size, 0, none⟩) 1 1) (c, [j]) := by
  have hb : Below w0.heap.size w0 ((w0.alloc (.cells #[.int .i64 (j : Int)] 3)).alloc (.cells #[.int .i64 c, .slice (some ⟨w0.heap.size, 0, none⟩) 1 1] 95)) := bal (bstart _ _) _
  have hz : (w0.alloc (.cells #[.int .i64 (j : Int)] 3)).heap.size = w0.heap.size + 1 := by simp
  refine ⟨⟨h.1.called hb, bnext h.2 hb⟩, ?_, ⟨w0.heap.size, 1, #[.int .i64 (j : Int)], (0, 0), rfl, h.2.size, ?_, rfl⟩⟩
  · have k := heap_alloc_new (w0.alloc (.cells #[.int .i64 (j : Int)] 3)) (.cells #[.int .i64 c, .slice (some ⟨w0.heap.size, 0, none⟩) 1 1] 95)
    rw [hz] at k
    exact k
  · rw [Below.heap_alloc _ _ _ (by simp)]
    exact heap_alloc_new w0 _

theorem own_below {w w' : World} {S : Nat} {e : TypeId} {v : Value} {n : Nat} {xs : List Value} (h : w.ownsRow S e 2 v n xs) (hb : Below w.heap.size w w') : w'.ownsRow S e 2 v n xs := by
  refine ⟨h.1, ?_⟩
  rcases h.2 with h | ⟨g, cap, cur, rfl, h1, h2, h3⟩
  · exact .inl h
  · exact .inr ⟨g, cap, cur, rfl, h1, (hb.block g (block_lt h2)).trans h2, h3⟩
theorem coin_form {e : TypeId} {w : World} {S B m : Nat} {v : Value} {O : List Coin} (h : ItemsAt e w S B v O) (hl : O.length = m + 1) : ∃ g c, v = .slice (some ⟨g, 0, none⟩) (m + 1) c := by
  obtain ⟨us, _, h2, _⟩ := h
  obtain ⟨g, c, hv, _⟩ := h2.form (by omega)
  exact ⟨g, c, by rw [hv, hl]⟩

set_option maxHeartbeats 3200000 in
theorem specFirst (a : Option Addr) (n cap : Nat) (f : Nat → Int) (w : World) (hC : Came w a n f) (hn : n ≤ 288) (hf : ∀ i, i < n → 0 ≤ f i ∧ f i ≤ 12000) :
    Calls Tryz.prog 54 #[.slice a n cap] w fun e w' => ∃ v', e = .returned v' ∧ ItemsAt 95 w' w.heap.size w.heap.size v' (firstL f n) ∧ Below w.heap.size w w' := by
  have HC : Hid (Came w a n f) := hC
  have HF : Hid (∀ i, i < n → 0 ≤ f i ∧ f i ≤ 12000) := hf
  clear hC hf
  go_enter Tryz.func54, Tryz.ntmps54
  go_wp2_with fail
  have H0 : Hid (CoinSt w (w.alloc (.cells #[] 95)) (.slice (some ⟨w.heap.size, 0, none⟩) 0 0) (firstL f 0)) := ⟨ItemsAt.empty w (Nat.le_refl _), bstart _ _⟩
  go_loopw [3, 4] (fun v z w' => ∃ j go co m : Nat, j ≤ n ∧ z = .int .i64 j ∧ v = .slice (some ⟨go, 0, none⟩) m co ∧ m ≤ j ∧ Hid (m = (firstL f j).length) ∧ Hid (CoinSt w w' v (firstL f j))) (fun _ z _ => n - (intOf z).toNat)
  case atStart => exact ⟨0, w.heap.size, 0, 0, by omega, rfl, rfl, by omega, rfl, H0⟩
  case round =>
    clear H0
    obtain ⟨j, go, co, m, hj, rfl, rfl, hmj, hm, hS⟩ := hrel
    by_cases hlt : j < n
    · rcases HC.out with q | ⟨g, off, rfl, hg, hc⟩
      · omega
      · have c0 : wr.cell? ⟨g, off + j, none⟩ = some (.int .i64 (f j)) := (hS.out.2.cell (p := ⟨g, off + j, none⟩) hg).trans (hc j hlt)
        have hl2 : g < wr.heap.size := Nat.lt_of_lt_of_le hg hS.out.2.size
        have hfj := HF.out j hlt
        clear hc
        by_cases hz : f j = 0
        · have HE : Hid (firstL f (j + 1) = firstL f j) := by
            show (if f j = 0 then firstL f j else ins (f j, [j]) (firstL f j)) = _
            rw [if_pos hz]
          have HS1 : Hid (CoinSt w wr (.slice (some ⟨go, 0, none⟩) m co) (firstL f (j + 1))) := by
            show CoinSt w wr _ (firstL f (j + 1))
            rw [HE.out]
            exact hS.out
          rw [hz] at c0
          go_wp2_with fail
          go_roundw
          case rel => exact ⟨j + 1, go, co, m, by omega, by go_num, rfl, by omega, by show m = _; rw [HE.out]; exact hm.out, HS1⟩
          case measure => simp [intOf]; omega
        · have dz : (f j == 0) = false := by simpa using hz
          have HE : Hid (firstL f (j + 1) = ins (f j, [j]) (firstL f j)) := by
            show (if f j = 0 then firstL f j else ins (f j, [j]) (firstL f j)) = _
            rw [if_neg hz]
          have HX0 := hid_of (coin_made hS.out (f j) j)
          have HAsc : Hid (Asc (firstL f j)) := first_asc j (fun i hi => (HF.out i (by omega)).1)
          obtain ⟨A, hA⟩ : ∃ A, A = wr.heap.size := ⟨_, rfl⟩
          rw [← hA] at HX0
          have HL1 : Hid ((firstL f (j + 1)).length = m + 1) := by
            show (firstL f (j + 1)).length = m + 1
            rw [HE.out, ins_length, ← hm.out]
          go_wp2_with fail
          rw [← hA]
          clear hA
          go_loopw [6] (fun z w' => ∃ k : Nat, k ≤ m ∧ z = .int .i64 k ∧ Hid (∀ q, k ≤ q → q < m → f j < ((firstL f j).getD q (0, [])).1) ∧ Hid (CoinX w w' (.slice (some ⟨go, 0, none⟩) m co) (firstL f j) (A + 1) (.slice (some ⟨A, 0, none⟩) 1 1) (f j, [j]))) (fun z _ => (intOf z).toNat)
          case atStart => exact ⟨m, by omega, rfl, fun q h1 h2 => by omega, HX0⟩
          case round =>
            clear HX0
            obtain ⟨k, hk, rfl, hbig, hQ⟩ := hrel
            have hP0 : wr.cell? ⟨A + 1, 0, none⟩ = some (.int .i64 (f j)) := cell_of_block hQ.out.2.1 0
            have hPl := block_lt hQ.out.2.1
            obtain ⟨us, hu1, hu2, hu3⟩ := hQ.out.1.1
            have HU1 := hid_of hu1
            have HU3 := hid_of hu3
            have HU2 : Hid (wr.ownsRow w.heap.size 95 2 (.slice (some ⟨go, 0, none⟩) (firstL f j).length co) (firstL f j).length (icells (firstL f j) us)) := by
              have h := hu2
              have e := hm.out
              rw [← e] at h
              show wr.ownsRow _ _ _ _ _ _
              rw [← e]
              exact h
            have hcap : m ≤ co := by
              rcases hu2.2 with ⟨q, _⟩ | ⟨g', cap', cur, q, _, _, q2, _⟩
              · cases q
              · simp at q
                have e := hm.out
                omega
            have hlen : (firstL f j).length ≤ 288 := by rw [← hm.out]; omega
            clear hu1 hu2 hu3
            cases k with
            | zero =>
              have HINS : Hid ((firstL f j).take 0 ++ [(f j, [j])] ++ (firstL f j).drop 0 = ins (f j, [j]) (firstL f j)) := ins_at _ _ 0 HAsc.out (by omega) (.inl rfl) (fun q h1 h2 => hbig.out q h1 (by rw [hm.out]; exact h2))
              go_wp2_with fail
              go_quiet (fail)
              go_wp2_with (at_builtin; refine items_append (S := wr.heap.size) (B := w.heap.size) (xs := []) (ys := (firstL f j).take 0) (vs := us.take 0) rfl _ _ rfl rfl (ItemsAt.empty (wr.drewN _) (Nat.le_refl _)) (some ⟨go, 0, none⟩) _ _ rfl (by rw [List.length_take, ← hm.out]; omega) (by rw [List.length_take, List.length_take, HU1.out]) (fun q hq => (parts_upto HU1.out HU3.out 0 q hq).lay _ _) (news_upto HU1.out (by exact World.ownsRow.alloc (w := wr.drewN _) HU2.out _) 0) (fun h => by cases h) (by simp only [List.length_nil, List.length_take]; omega) (by simp) ?_)
              intro v1 w1 hI1 hg1 hat1
              have HB1 : Hid (Below wr.heap.size wr w1) := ((bdraws (Below.refl _ _) _).alloc (Nat.le_refl _) _).grown hg1 (by simp) (fun k hk => by cases hk; exact Nat.le_refl _)
              have HI1 : Hid (ItemsAt 95 w1 wr.heap.size w.heap.size v1 ([] ++ (firstL f j).take 0)) := hid_of (by simpa using hI1)
              have HX1 := hid_of (hQ.out.called HB1.out)
              have p0 : w1.cell? ⟨A + 1, 0, none⟩ = some (.int .i64 (f j)) := cell_of_block HX1.out.2.1 0
              have p1 : w1.cell? ⟨A + 1, 1, none⟩ = some (.slice (some ⟨A, 0, none⟩) 1 1) := cell_of_block HX1.out.2.1 1
              have pl1 := block_lt HX1.out.2.1
              have s1 := HB1.out.size
              clear hI1 hg1 hat1
              go_wp2_with (at_builtin; refine items_append (S := wr.heap.size) (B := w.heap.size) (xs := [] ++ (firstL f j).take 0) (ys := [(f j, [j])]) (vs := [.slice (some ⟨A, 0, none⟩) 1 1]) rfl _ _ rfl rfl (HI1.out.called (bstart _ _)) (some ⟨w1.heap.size, 0, none⟩) 1 1 rfl rfl rfl (one_part (x := (f j, [j])) (HX1.out.2.2.lay 0 _)) (news_item (w := w1) 0 (f j, [j]) _) (fun h => by cases h) (by simp only [List.nil_append, List.length_take, List.length_cons, List.length_nil]; omega) (by simp; omega) ?_)
              intro v2 w2 hI2 hg2 hat2
              have HB2 : Hid (Below wr.heap.size wr w2) := (HB1.out.alloc s1 _).grown hg2 (by simp; omega) (fun k hk => (HI1.out.spine k hk).1)
              have HI2 : Hid (ItemsAt 95 w2 wr.heap.size w.heap.size v2 ([] ++ (firstL f j).take 0 ++ [(f j, [j])])) := hid_of (by simpa using hI2)
              have hu2' := HU2.out
              have s2 := HB2.out.size
              clear hI2 hg2 hat2 hu2' p0 p1 pl1
              have HU2b : Hid (w2.ownsRow w.heap.size 95 2 (.slice (some ⟨go, 0, none⟩) (firstL f j).length co) (firstL f j).length (icells (firstL f j) us)) := own_below HU2.out HB2.out
              have HU3b : Hid (∀ i, i < (firstL f j).length → PartsAt w2 w.heap.size (us.getD i undef) ((firstL f j).getD i (0, [])).2) := fun i hi => (HU3.out i hi).keep (fun g cur fz _ hg => HB2.out.block g (block_lt hg))
              by_cases hci : co = 0
              · have HKm : Hid (m = 0) := by show m = 0; omega
                have HD : Hid ((firstL f j).drop 0 = []) := List.drop_eq_nil_of_le (by rw [← hm.out, HKm.out]; exact Nat.le_refl _)
                have hck : co ≤ 0 := by omega
                have hkc : 0 ≤ co := by omega
                clear hci
                go_wp2_with (at_builtin; refine items_append (S := wr.heap.size) (B := w.heap.size) (xs := [] ++ (firstL f j).take 0 ++ [(f j, [j])]) (ys := []) (vs := []) rfl _ _ rfl rfl HI2.out (some ⟨go, 0, none⟩) _ _ rfl (by have := HKm.out; simp only [List.length_nil]; omega) rfl (fun q hq => absurd hq (Nat.not_lt_zero q)) (fun ad _ j q hq => by cases hq) (fun h => by cases h) (by simp only [List.nil_append, List.length_append, List.length_take, List.length_cons, List.length_nil]; omega) s2 ?_)
                intro v3 w3 hI3 hg3 hat3
                have HT : Hid (CoinSt w w3 v3 (firstL f (j + 1))) := by
                  refine ⟨?_, bnext hQ.out.1.2 (HB2.out.grown hg3 s2 (fun k hk => (HI2.out.spine k hk).1))⟩
                  have e := HINS.out
                  rw [HD.out] at e
                  rw [HE.out, ← e]
                  simpa using hI3.mono hQ.out.1.2.size
                clear hI3 hg3 hat3
                obtain ⟨g3, c3, hv3⟩ := coin_form HT.out.1 HL1.out
                subst hv3
                go_wp2_with fail
                go_roundw
                case rel => exact ⟨j + 1, g3, c3, m + 1, by omega, by go_num, rfl, by omega, HL1.out.symm, HT⟩
                case measure => simp [intOf]; omega
              · go_wp2_with (at_builtin; refine items_append (S := wr.heap.size) (B := w.heap.size) (xs := [] ++ (firstL f j).take 0 ++ [(f j, [j])]) (ys := (firstL f j).drop 0) (vs := us.drop 0) rfl _ _ rfl rfl HI2.out _ _ _ rfl (by have e := hm.out; rw [List.length_drop]; omega) (by rw [List.length_drop, List.length_drop, HU1.out]) (parts_from HU1.out HU3b.out 0) (news_from HU1.out HU2b.out 0) (fun h => by cases h) (by simp only [List.nil_append, List.length_append, List.length_take, List.length_drop, List.length_cons, List.length_nil]; omega) s2 ?_)
                intro v3 w3 hI3 hg3 hat3
                have HT : Hid (CoinSt w w3 v3 (firstL f (j + 1))) := by
                  refine ⟨?_, bnext hQ.out.1.2 (HB2.out.grown hg3 s2 (fun k hk => (HI2.out.spine k hk).1))⟩
                  rw [HE.out, ← HINS.out]
                  simpa using hI3.mono hQ.out.1.2.size
                clear hI3 hg3 hat3
                obtain ⟨g3, c3, hv3⟩ := coin_form HT.out.1 HL1.out
                subst hv3
                go_wp2_with fail
                go_roundw
                case rel => exact ⟨j + 1, g3, c3, m + 1, by omega, by go_num, rfl, by omega, HL1.out.symm, HT⟩
                case measure => simp [intOf]; omega
            | succ k =>
              obtain ⟨g', cap', u', hv', hg', kk0, _, _⟩ := hQ.out.1.1.get k (by rw [← hm.out]; omega)
              have hgo : go = g' := by
                have h := hv'
                simp at h
                exact h.1
              subst hgo
              clear hv'
              obtain ⟨y, hy⟩ : ∃ y, y = ((firstL f j).getD k (0, [])).1 := ⟨_, rfl⟩
              have HY := hid_of hy
              rw [← hy] at kk0
              clear hy
              have dk : decide ((0 : Int) < (k : Int) + 1) = true := decide_eq_true (by omega)
              have ec : ((k + 1 : Nat) : Int) = (k : Int) + 1 := by omega
              have ek : IntKind.i64.wrap (k : Int) = (k : Int) := by rw [IntKind.wrap_i64]; omega
              have ek0 : (0 : Int) ≤ (k : Int) := Int.natCast_nonneg _
              have ek1 : (k : Int) < (m : Int) := by omega
              have ek2 : (k : Int) + 1 - 1 = (k : Int) := by omega
              by_cases hgt : f j < y
              · have dg : decide (f j < y) = true := by simpa using hgt
                have HB1 : Hid (∀ q, k ≤ q → q < m → f j < ((firstL f j).getD q (0, [])).1) := fun q h1 h2 => by
                  by_cases e : q = k
                  · rw [e, ← HY.out]; exact hgt
                  · exact hbig.out q (by omega) h2
                go_wp2_with fail
                go_quiet (fail)
                go_wp2_with fail
                go_roundw
                case rel => exact ⟨k, by omega, by go_num, HB1, hQ.out.called (bdraws (Below.refl _ _) _)⟩
                case measure => simp [intOf]
              · have dg : decide (f j < y) = false := by simpa using hgt
                have HINS : Hid ((firstL f j).take (k + 1) ++ [(f j, [j])] ++ (firstL f j).drop (k + 1) = ins (f j, [j]) (firstL f j)) := ins_at _ _ (k + 1) HAsc.out (by rw [← hm.out]; exact hk) (.inr (by show ((firstL f j).getD k (0, [])).1 ≤ f j; rw [← HY.out]; omega)) (fun q h1 h2 => hbig.out q h1 (by rw [hm.out]; exact h2))
                go_wp2_with fail
                go_quiet (fail)
                go_wp2_with (at_builtin; refine items_append (S := wr.heap.size) (B := w.heap.size) (xs := []) (ys := (firstL f j).take (k + 1)) (vs := us.take (k + 1)) rfl _ _ rfl rfl (ItemsAt.empty (wr.drewN _) (Nat.le_refl _)) (some ⟨go, 0, none⟩) _ _ rfl (by rw [List.length_take, ← hm.out]; omega) (by rw [List.length_take, List.length_take, HU1.out]) (fun q hq => (parts_upto HU1.out HU3.out (k + 1) q hq).lay _ _) (news_upto HU1.out (by exact World.ownsRow.alloc (w := wr.drewN _) HU2.out _) (k + 1)) (fun h => by cases h) (by simp only [List.length_nil, List.length_take]; omega) (by simp) ?_)
                intro v1 w1 hI1 hg1 hat1
                have HB1 : Hid (Below wr.heap.size wr w1) := ((bdraws (Below.refl _ _) _).alloc (Nat.le_refl _) _).grown hg1 (by simp) (fun k hk => by cases hk; exact Nat.le_refl _)
                have HI1 : Hid (ItemsAt 95 w1 wr.heap.size w.heap.size v1 ([] ++ (firstL f j).take (k + 1))) := hid_of (by simpa using hI1)
                have HX1 := hid_of (hQ.out.called HB1.out)
                have p0 : w1.cell? ⟨A + 1, 0, none⟩ = some (.int .i64 (f j)) := cell_of_block HX1.out.2.1 0
                have p1 : w1.cell? ⟨A + 1, 1, none⟩ = some (.slice (some ⟨A, 0, none⟩) 1 1) := cell_of_block HX1.out.2.1 1
                have pl1 := block_lt HX1.out.2.1
                have s1 := HB1.out.size
                clear hI1 hg1 hat1
                go_wp2_with (at_builtin; refine items_append (S := wr.heap.size) (B := w.heap.size) (xs := [] ++ (firstL f j).take (k + 1)) (ys := [(f j, [j])]) (vs := [.slice (some ⟨A, 0, none⟩) 1 1]) rfl _ _ rfl rfl (HI1.out.called (bstart _ _)) (some ⟨w1.heap.size, 0, none⟩) 1 1 rfl rfl rfl (one_part (x := (f j, [j])) (HX1.out.2.2.lay 0 _)) (news_item (w := w1) 0 (f j, [j]) _) (fun h => by cases h) (by simp only [List.nil_append, List.length_take, List.length_cons, List.length_nil]; omega) (by simp; omega) ?_)
                intro v2 w2 hI2 hg2 hat2
                have HB2 : Hid (Below wr.heap.size wr w2) := (HB1.out.alloc s1 _).grown hg2 (by simp; omega) (fun k hk => (HI1.out.spine k hk).1)
                have HI2 : Hid (ItemsAt 95 w2 wr.heap.size w.heap.size v2 ([] ++ (firstL f j).take (k + 1) ++ [(f j, [j])])) := hid_of (by simpa using hI2)
                have hu2' := HU2.out
                have s2 := HB2.out.size
                clear hI2 hg2 hat2 hu2' p0 p1 pl1
                have HU2b : Hid (w2.ownsRow w.heap.size 95 2 (.slice (some ⟨go, 0, none⟩) (firstL f j).length co) (firstL f j).length (icells (firstL f j) us)) := own_below HU2.out HB2.out
                have HU3b : Hid (∀ i, i < (firstL f j).length → PartsAt w2 w.heap.size (us.getD i undef) ((firstL f j).getD i (0, [])).2) := fun i hi => (HU3.out i hi).keep (fun g cur fz _ hg => HB2.out.block g (block_lt hg))
                by_cases hci : co = (k + 1)
                · have HKm : Hid (m = (k + 1)) := by show m = (k + 1); omega
                  have HD : Hid ((firstL f j).drop (k + 1) = []) := List.drop_eq_nil_of_le (by rw [← hm.out, HKm.out]; exact Nat.le_refl _)
                  have hck : co ≤ (k + 1) := by omega
                  have hkc : (k + 1) ≤ co := by omega
                  clear hci
                  go_wp2_with (at_builtin; refine items_append (S := wr.heap.size) (B := w.heap.size) (xs := [] ++ (firstL f j).take (k + 1) ++ [(f j, [j])]) (ys := []) (vs := []) rfl _ _ rfl rfl HI2.out (some ⟨go, 0, none⟩) _ _ rfl (by have := HKm.out; simp only [List.length_nil]; omega) rfl (fun q hq => absurd hq (Nat.not_lt_zero q)) (fun ad _ j q hq => by cases hq) (fun h => by cases h) (by simp only [List.nil_append, List.length_append, List.length_take, List.length_cons, List.length_nil]; omega) s2 ?_)
                  intro v3 w3 hI3 hg3 hat3
                  have HT : Hid (CoinSt w w3 v3 (firstL f (j + 1))) := by
                    refine ⟨?_, bnext hQ.out.1.2 (HB2.out.grown hg3 s2 (fun k hk => (HI2.out.spine k hk).1))⟩
                    have e := HINS.out
                    rw [HD.out] at e
                    rw [HE.out, ← e]
                    simpa using hI3.mono hQ.out.1.2.size
                  clear hI3 hg3 hat3
                  obtain ⟨g3, c3, hv3⟩ := coin_form HT.out.1 HL1.out
                  subst hv3
                  go_wp2_with fail
                  go_roundw
                  case rel => exact ⟨j + 1, g3, c3, m + 1, by omega, by go_num, rfl, by omega, HL1.out.symm, HT⟩
                  case measure => simp [intOf]; omega
                · go_wp2_with (at_builtin; refine items_append (S := wr.heap.size) (B := w.heap.size) (xs := [] ++ (firstL f j).take (k + 1) ++ [(f j, [j])]) (ys := (firstL f j).drop (k + 1)) (vs := us.drop (k + 1)) rfl _ _ rfl rfl HI2.out _ _ _ rfl (by have e := hm.out; rw [List.length_drop]; omega) (by rw [List.length_drop, List.length_drop, HU1.out]) (parts_from HU1.out HU3b.out (k + 1)) (news_from HU1.out HU2b.out (k + 1)) (fun h => by cases h) (by simp only [List.nil_append, List.length_append, List.length_take, List.length_drop, List.length_cons, List.length_nil]; omega) s2 ?_)
                  intro v3 w3 hI3 hg3 hat3
                  have HT : Hid (CoinSt w w3 v3 (firstL f (j + 1))) := by
                    refine ⟨?_, bnext hQ.out.1.2 (HB2.out.grown hg3 s2 (fun k hk => (HI2.out.spine k hk).1))⟩
                    rw [HE.out, ← HINS.out]
                    simpa using hI3.mono hQ.out.1.2.size
                  clear hI3 hg3 hat3
                  obtain ⟨g3, c3, hv3⟩ := coin_form HT.out.1 HL1.out
                  subst hv3
                  go_wp2_with fail
                  go_roundw
                  case rel => exact ⟨j + 1, g3, c3, m + 1, by omega, by go_num, rfl, by omega, HL1.out.symm, HT⟩
                  case measure => simp [intOf]; omega
    · obtain rfl : j = n := by omega
      go_wp2_with fail
      go_ret
      exact ⟨_, rfl, hS.out.1, hS.out.2⟩

end Go.Proofs.YtbcnlggkoidmmabGreatDoor
