/-
  The walks of the model's draw of tokens that fit behind nothing.
  What is asked of Expand.
  The walk of the model's 'in least .. most'.
  The walk of the document's model of TokenOk.
-/
import Derived.Test.YtbcnlggkoidmmaaGreatDoorRows
import Derived.Test.YtbcnlggkoidmmaaGreatDoorQk01
import Derived.Test.YtbcnlggkoidmmaaGreatDoorQk02
import Derived.WalkKit
import Derived.ProofKit
import Derived.WalkLawsBesides
import Derived.Below
import Derived.OwnWalk
import Derived.Deep.LoopGhost
import Derived.Lib.SmallJoins
namespace Go.Proofs.YtbcnlggkoidmmaaGreatDoor
open Go.RowKit Go.Joins TokMath

theorem run_right : ∀ {L : List Tok} {O F : List Int}, run O L = some F → ∀ t ∈ L, TokRight t
  | [], _, _, _, t, ht => by cases ht
  | r :: R, O, F, h, t, ht => by
    unfold run at h
    split at h
    · rename_i q
      rcases List.mem_cons.mp ht with rfl | ht
      · exact q.1
      · exact run_right h t ht
    · cases h

/-- What is drawn so far: the cursor, and the tokens. -/
def TokD (w0 w : World) (base b g n cap : Nat) (L : List Tok) : Prop := Cur w base b ∧ n = L.length ∧ w.ownsRow base 57 3 (.slice (some ⟨g, 0, none⟩) n cap) L.length (tcells L) ∧ Below base w0 w
section
variable {w0 w w' : World} {base b g n cap : Nat} {L : List Tok}
theorem TokD.block (h : TokD w0 w base b g n cap L) : base ≤ g ∧ ∃ cur, w.heap[g]? = some (.cells cur 57 (0, 0)) := by
  rcases h.2.2.1.2 with ⟨e, _⟩ | ⟨g', cap', cur, hv, hb, hg, _⟩
  · cases e
  · cases hv
    exact ⟨hb, cur, hg⟩
theorem cur_ne {cur : Array Value} (hC : Cur w base b) (hg : w.heap[g]? = some (.cells cur 57 (0, 0))) : g ≠ b := by
  intro e
  subst e
  obtain ⟨a, len, cap, i, h, hb, _⟩ := hC
  rw [hb] at hg
  cases hg
theorem TokD.ne (h : TokD w0 w base b g n cap L) : g ≠ b := by
  obtain ⟨_, cur, hg⟩ := h.block
  exact cur_ne h.1 hg
theorem TokD.lt (h : TokD w0 w base b g n cap L) : g < w.heap.size := by
  obtain ⟨_, cur, hg⟩ := h.block
  exact block_lt hg
theorem own_keep {v : Value} {k : Nat} (h : w.ownsRow base 57 3 v k (tcells L)) (hk : ∀ q, v.ownBlock = some q → w'.heap[q]? = w.heap[q]?) : w'.ownsRow base 57 3 v k (tcells L) := by
  refine ⟨h.1, ?_⟩
  rcases h.2 with q | ⟨g, cap, cur, rfl, h1, h2, h3⟩
  · exact .inl q
  · exact .inr ⟨g, cap, cur, rfl, h1, (hk g rfl).trans h2, h3⟩
theorem TokD.drawn (h : TokD w0 w base b g n cap L) (hg : w.grownBy w' (some b)) (hC : Cur w' base b) : TokD w0 w' base b g n cap L := by
  have hne := h.ne
  have hlt := h.lt
  refine ⟨hC, h.2.1, own_keep h.2.2.1 (fun q hq => ?_), h.2.2.2.trans (below_of_grown hg h.1.base_le h.1.lt)⟩
  cases hq
  exact hg.block g hlt (fun e => hne (Option.some.inj e))
theorem TokD.called (h : TokD w0 w base b g n cap L) (hb : Below w.heap.size w w') : TokD w0 w' base b g n cap L := by
  refine ⟨h.1.keep (hb.block _ h.1.lt) (hb.mono (Nat.le_of_lt (Nat.lt_of_le_of_lt h.1.base_le h.1.lt))), h.2.1, own_keep h.2.2.1 (fun q hq => ?_), h.2.2.2.trans (hb.mono (Nat.le_of_lt (Nat.lt_of_le_of_lt h.1.base_le h.1.lt)))⟩
  cases hq
  exact hb.block g h.lt
theorem TokD.alloc (h : TokD w0 w base b g n cap L) (o : Obj) : TokD w0 (w.alloc o) base b g n cap L := h.called (bstart _ _)
end

/-- With a token's box. -/
def TokB (w0 w : World) (base b g n cap : Nat) (L : List Tok) (tb : Nat) (x y z : Int) : Prop := TokD w0 w base b g n cap L ∧ w.heap[tb]? = some (.cells #[.int .i64 x, .int .i64 y, .int .i64 z] 57 (0, 0)) ∧ tb ≠ b ∧ tb ≠ g ∧ base ≤ tb
section
variable {w0 w w' : World} {base b g n cap tb : Nat} {L : List Tok} {x y z x' y' z' : Int}
theorem TokD.box (h : TokD w0 w base b g n cap L) (x y z : Int) : TokB w0 (w.alloc (.cells #[.int .i64 x, .int .i64 y, .int .i64 z] 57)) base b g n cap L w.heap.size x y z := by
  have h1 := h.1.lt
  have h2 := h.lt
  have h3 := h.1.base_le
  exact ⟨h.alloc _, heap_alloc_new w _, by omega, by omega, by omega⟩
theorem TokB.drawn (h : TokB w0 w base b g n cap L tb x y z) (hg : w.grownBy w' (some b)) (hC : Cur w' base b) : TokB w0 w' base b g n cap L tb x y z := by
  obtain ⟨h1, h2, h3, h4, h5⟩ := h
  exact ⟨h1.drawn hg hC, (hg.block tb (block_lt h2) (fun e => h3 (Option.some.inj e))).trans h2, h3, h4, h5⟩
theorem TokB.alloc (h : TokB w0 w base b g n cap L tb x y z) (o : Obj) : TokB w0 (w.alloc o) base b g n cap L tb x y z := by
  obtain ⟨h1, h2, h3, h4, h5⟩ := h
  exact ⟨h1.alloc o, ((bstart w o).block tb (block_lt h2)).trans h2, h3, h4, h5⟩
theorem TokB.set (h : TokB w0 w base b g n cap L tb x y z) (hw : w'.heap[tb]? = some (.cells #[.int .i64 x', .int .i64 y', .int .i64 z'] 57 (0, 0))) (hs : ∀ k, k ≠ tb → w'.heap[k]? = w.heap[k]?) (hb : Below base w w') : TokB w0 w' base b g n cap L tb x' y' z' := by
  obtain ⟨h1, h2, h3, h4, h5⟩ := h
  refine ⟨⟨h1.1.keep (hs b (fun e => h3 e.symm)) hb, h1.2.1, own_keep h1.2.2.1 (fun q hq => ?_), h1.2.2.2.trans hb⟩, hw, h3, h4, h5⟩
  cases hq
  exact hs g (fun e => h4 e.symm)
theorem TokB.cells (h : TokB w0 w base b g n cap L tb x y z) : w.cell? ⟨tb, 0, none⟩ = some (.int .i64 x) ∧ w.cell? ⟨tb, 1, none⟩ = some (.int .i64 y) ∧ w.cell? ⟨tb, 2, none⟩ = some (.int .i64 z) ∧ (∀ i, w.frozen? ⟨tb, i, none⟩ = false) ∧ tb < w.heap.size := ⟨cell_of_block h.2.1 0, cell_of_block h.2.1 1, cell_of_block h.2.1 2, unfrozen_of_block h.2.1, block_lt h.2.1⟩
/-- All three cells set. -/
theorem TokB.three (h : TokB w0 w base b g n cap L tb x y z) (x' y' z' : Int) : TokB w0 (((w.setCell ⟨tb, 0, none⟩ (.int .i64 x')).setCell ⟨tb, 1, none⟩ (.int .i64 y')).setCell ⟨tb, 2, none⟩ (.int .i64 z')) base b g n cap L tb x' y' z' := by
  have h5 := h.2.2.2.2
  refine h.set (w' := ((w.setCell ⟨tb, 0, none⟩ (.int .i64 x')).setCell ⟨tb, 1, none⟩ (.int .i64 y')).setCell ⟨tb, 2, none⟩ (.int .i64 z')) ?_ (fun k hk => ?_) ?_
  · have a0 := block_setCell (i := 0) h.2.1 (.int .i64 x')
    have a1 := block_setCell (i := 1) a0 (.int .i64 y')
    have a2 := block_setCell (i := 2) a1 (.int .i64 z')
    simpa using a2
  · rw [Below.heap_setCell _ _ _ _ hk, Below.heap_setCell _ _ _ _ hk, Below.heap_setCell _ _ _ _ hk]
  · exact (((Below.refl base w).setCell (p := ⟨tb, 0, none⟩) h5 _).setCell (p := ⟨tb, 1, none⟩) h5 _).setCell (p := ⟨tb, 2, none⟩) h5 _
/-- The second one set. -/
theorem TokB.second (h : TokB w0 w base b g n cap L tb x y z) (y' : Int) : TokB w0 (w.setCell ⟨tb, 1, none⟩ (.int .i64 y')) base b g n cap L tb x y' z := by
  have h5 := h.2.2.2.2
  refine h.set (w' := w.setCell ⟨tb, 1, none⟩ (.int .i64 y')) ?_ (fun k hk => ?_) ?_
  · have a1 := block_setCell (i := 1) h.2.1 (.int .i64 y')
    simpa using a1
  · rw [Below.heap_setCell _ _ _ _ hk]
  · exact (Below.refl base w).setCell (p := ⟨tb, 1, none⟩) h5 _
/-- Behind the append. -/
theorem TokB.app {v1 : Value} {o : Obj} {t : Tok} (h : TokB w0 w base b g n cap L tb x y z) (hown : w'.ownsRow base 57 3 v1 (L ++ [t]).length (tcells (L ++ [t]))) (hg : (w.alloc o).grownBy w' (some g)) : ∃ g1 cap1, v1 = .slice (some ⟨g1, 0, none⟩) (n + 1) cap1 ∧ TokD w0 w' base b g1 (n + 1) cap1 (L ++ [t]) := by
  obtain ⟨h1, h2, h3, h4, h5⟩ := h
  have hl : (L ++ [t]).length = n + 1 := by rw [List.length_append, List.length_singleton, h1.2.1]
  have hne := h1.ne
  have hB : Below base w0 w' := by
    refine (h1.alloc o).2.2.2.grown hg ?_ (fun q hq => ?_)
    · have := h1.1.base_le
      have := h1.1.lt
      simp; omega
    · cases hq
      exact h1.block.1
  have hC : Cur w' base b := by
    refine (h1.alloc o).1.grown hg (fun e => hne (Option.some.inj e)) (fun q hq => ?_)
    cases hq
    exact h1.block.1
  have hown0 := hown
  rcases hown.2 with ⟨rfl, h0⟩ | ⟨g', cap', cur, rfl, q1, q2, q3⟩
  · omega
  · refine ⟨g', cap', by rw [hl], hC, hl.symm, ?_, hB⟩
    rw [hl] at hown0
    rw [hl]
    exact hown0
end

theorem news_tok (w : World) (x y z : Int) (n : Nat) (h : w.heap.size = n) : ∀ q u, (tcells [(x, y, z)])[q]? = some u → (w.alloc (.cells #[.int .i64 x, .int .i64 y, .int .i64 z] 57)).cell? ((⟨n, 0, none⟩ : Addr).add q) = some u := by
  subst h
  exact World.news_of_block (cs := #[.int .i64 x, .int .i64 y, .int .i64 z]) (t := 57) (fr := (0, 0)) (heap_alloc_new w _)
/-- The tokens that were drawn. -/
def ToksDrawn (base : Nat) (w : World) (k : Nat) (e : Ending) (w' : World) : Prop := ∃ (g cap : Nat) (L : List Tok) (F : List Int), e = .returned (.slice (some ⟨g, 0, none⟩) k cap) ∧ k = L.length ∧ w'.ownsRow base 57 3 (.slice (some ⟨g, 0, none⟩) k cap) L.length (tcells L) ∧ Below base w w' ∧ run [] L = some F ∧ F.length ≤ 258 * k
theorem app_len {O : List Int} {t : Tok} (_ht : TokRight t) : (tokApp O t).length = O.length + (if t.2.1 = 0 then 1 else t.2.1.toNat) := by
  unfold tokApp
  by_cases h : t.2.1 = 0
  · rw [if_pos h, if_pos h, List.length_append, List.length_singleton]
  · rw [if_neg h, if_neg h, copy_length]

set_option maxHeartbeats 8000000 in
theorem draw_tokens6 (base b k : Nat) (w : World) (hC : Cur w base b) (hk : k ≤ 40) :
    Calls Tryz.prog 26 #[.pointer (some ⟨b, 0, none⟩), .int .i64 0, .int .i64 (k : Int)] w (ToksDrawn base w k) := by
  have H0 : Hid (TokD w (w.alloc (.cells #[] 57)) base b w.heap.size 0 0 []) := by
    have h1 := hC.lt
    have h2 := hC.base_le
    exact ⟨hC.alloc _, rfl, ⟨rfl, .inr ⟨w.heap.size, 0, #[], rfl, by omega, heap_alloc_new w _, Nat.le_refl _, Nat.zero_le _, rfl, rfl⟩⟩, (Below.refl base w).alloc (by omega) _⟩
  clear hC
  go_enter Tryz.func26, Tryz.ntmps26
  go_wp2_with fail
  go_loopw [7, 8, 9] (fun v z y w' => ∃ (j g cp m : Nat) (L : List Tok) (F : List Int), j ≤ k ∧ y = .int .i64 j ∧ v = .slice (some ⟨g, 0, none⟩) j cp ∧ z = .int .i64 (m : Int) ∧ m ≤ 258 * j ∧ Hid (TokD w w' base b g j cp L ∧ run [] L = some F ∧ m = F.length)) (fun _ _ y _ => k - (intOf y).toNat)
  case atStart => exact ⟨0, w.heap.size, 0, 0, [], [], Nat.zero_le _, rfl, rfl, rfl, by omega, H0.out, rfl, rfl⟩
  case round =>
    clear H0
    obtain ⟨j, g, cp, m, L, F, hj, rfl, rfl, rfl, hm, hS⟩ := hrel
    by_cases hlt : j < k
    · have HD1 : Hid (TokD w (wr.alloc (.cells #[.int .i64 97, .int .i64 98, .int .i64 0, .int .i64 255, .int .i64 143, .int .i64 144] 3)) base b g j cp L) := hS.out.1.alloc _
      have hbl := hS.out.1.1.lt
      go_wp2_with fail
      refine (draw_pickInt base b wr.heap.size 6 6 (fun x => 0 ≤ x ∧ x ≤ 255) _ HD1.out.1 (by omega) (by omega) (by simp) (fun j hj => ?_)).mono ?_
      · match j, hj with
        | 0, _ => exact ⟨97, by simp, by omega, by omega⟩
        | 1, _ => exact ⟨98, by simp, by omega, by omega⟩
        | 2, _ => exact ⟨0, by simp, by omega, by omega⟩
        | 3, _ => exact ⟨255, by simp, by omega, by omega⟩
        | 4, _ => exact ⟨143, by simp, by omega, by omega⟩
        | 5, _ => exact ⟨144, by simp, by omega, by omega⟩
      rintro e w2 ⟨x, rfl, ⟨hx0, hx1⟩, hC2, hg2⟩
      have HB2 : Hid (TokB w (w2.alloc (.cells #[.int .i64 x, .int .i64 0, .int .i64 0] 57)) base b g j cp L w2.heap.size x 0 0) := (HD1.out.drawn hg2 hC2).box x 0 0
      clear hC2 hg2 HD1
      by_cases hm0 : 0 < m
      · have dm : decide ((0 : Int) < (m : Int)) = true := decide_eq_true (by omega)
        have dm2 : decide (0 < m) = true := decide_eq_true hm0
        go_wp2_with fail
        refine (draw_once base b 3 _ HB2.out.1.1).mono ?_
        rintro e w3 ⟨bo, rfl, hC3, hg3⟩
        have HB3 := hid_of (HB2.out.drawn hg3 hC3)
        clear hC3 hg3 HB2
        generalize w2.heap.size = tb at HB3
        cases bo
        · -- a byte
          have HT : Hid (run [] (L ++ [(x, 0, 0)]) = some (tokApp F (x, 0, 0)) ∧ m + 1 = (tokApp F (x, 0, 0)).length) := by
            have ht : TokRight (x, 0, 0) := ⟨⟨hx0, hx1⟩, rfl⟩
            refine ⟨run_snoc hS.out.2.1 ht (by show (0 : Int) ≤ _; omega), ?_⟩
            rw [app_len ht, if_pos rfl, hS.out.2.2]
          obtain ⟨r0, r1, r2, rf, rl⟩ := HB3.out.cells
          have hds : base ≤ w3.heap.size := by
            have q1 := HB3.out.1.1.lt
            have q2 := HB3.out.1.1.base_le
            have q3 : w3.heap.size = w3.heap.size := rfl
            omega
          have HLJ := hid_of HB3.out.1.2.1
          go_wp2_with (at_builtin; refine toks_append (S := base) (xs := L) (ys := [(x, 0, 0)]) rfl _ _ rfl rfl (World.ownsRow.alloc HB3.out.1.2.2.1 _) ⟨w3.heap.size, 0, none⟩ 1 1 rfl rfl (news_tok w3 x 0 0 _ rfl) (by have := HLJ.out; simp only [List.length_cons, List.length_nil]; omega) (by simp; omega) ?_)
          intro v1 w5 y1 y2
          obtain ⟨g1, cap1, rfl, hD⟩ := HB3.out.app (t := (x, 0, 0)) (by simpa using y1) y2
          have HN : Hid (TokD w w5 base b g1 (j + 1) cap1 (L ++ [(x, 0, 0)]) ∧ run [] (L ++ [(x, 0, 0)]) = some (tokApp F (x, 0, 0)) ∧ m + 1 = (tokApp F (x, 0, 0)).length) := ⟨hD, HT.out⟩
          clear y1 y2 hD r0 r1 r2 rf rl hds
          go_wp2_with fail
          go_roundw
          case rel => exact ⟨j + 1, g1, cap1, m + 1, _, _, by omega, by go_num, rfl, by go_num, by omega, HN⟩
          case measure => simp [intOf]; omega
        · -- a repeat
          go_wp2_with fail
          refine (draw_below base b 9 _ HB3.out.1.1).mono ?_
          rintro e w4 ⟨u, rfl, hu, hC4, hg4⟩
          have HB4 := hid_of (HB3.out.drawn hg4 hC4)
          have hu0 := hu.1
          have hu1 := hu.2.1 (by omega)
          clear hC4 hg4 HB3 hu
          go_wp2_with fail
          refine (draw_below base b (m : Int) _ HB4.out.1.1).mono ?_
          rintro e w5 ⟨u', rfl, hu', hC5, hg5⟩
          have HB5 := hid_of (HB4.out.drawn hg5 hC5)
          have hv0 := hu'.1
          have hv1 := hu'.2.1 (by omega)
          clear hC5 hg5 HB4 hu'
          obtain ⟨un, rfl⟩ := Int.eq_ofNat_of_zero_le hu0
          obtain ⟨vn, rfl⟩ := Int.eq_ofNat_of_zero_le hv0
          obtain ⟨s0, s1, s2, sf, sl⟩ := HB5.out.cells
          have HB6 : Hid (TokB w (((w5.setCell ⟨tb, 0, none⟩ (.int .i64 0)).setCell ⟨tb, 1, none⟩ (.int .i64 (3 + (un : Int)))).setCell ⟨tb, 2, none⟩ (.int .i64 (1 + (vn : Int)))) base b g j cp L tb 0 (3 + (un : Int)) (1 + (vn : Int))) := HB5.out.three 0 _ _
          clear HB5
          go_wp2_with fail
          generalize ((w5.setCell ⟨tb, 0, none⟩ (.int .i64 0)).setCell ⟨tb, 1, none⟩ (.int .i64 (3 + (un : Int)))).setCell ⟨tb, 2, none⟩ (.int .i64 (1 + (vn : Int))) = w6 at HB6
          clear s0 s1 s2 sf sl
          refine (draw_once base b 6 _ HB6.out.1.1).mono ?_
          rintro e w7 ⟨bo, rfl, hC7, hg7⟩
          have HB7 := hid_of (HB6.out.drawn hg7 hC7)
          clear hC7 hg7 HB6
          obtain ⟨dn, hdn⟩ : ∃ dn : Nat, (1 : Int) + (vn : Int) = (dn : Int) := ⟨1 + vn, by omega⟩
          have hd1 : 1 ≤ dn := by omega
          have hdm : dn ≤ m := by omega
          rw [hdn] at HB7
          cases bo
          · obtain ⟨yn, hyn⟩ : ∃ yn : Nat, (3 : Int) + (un : Int) = (yn : Int) := ⟨3 + un, by omega⟩
            have hy1 : 3 ≤ yn ∧ yn ≤ 258 := by omega
            rw [hyn] at HB7
            have dq : decide ((32768 : Int) < (dn : Int)) = false := decide_eq_false (by omega)
            have dq2 : decide (32768 < dn) = false := decide_eq_false (by omega)
            have dy : ((yn : Int) == 0) = false := by simp; omega
            have dy2 : (yn == 0) = false := by simp; omega
            have HT : Hid (run [] (L ++ [(0, (yn : Int), (dn : Int))]) = some (tokApp F (0, (yn : Int), (dn : Int))) ∧ m + yn = (tokApp F (0, (yn : Int), (dn : Int))).length) := by
              have hyz : ¬ (yn : Int) = 0 := by omega
              have ht : TokRight (0, (yn : Int), (dn : Int)) := by
                unfold TokRight
                rw [if_neg hyz]
                exact ⟨rfl, ⟨by show (3 : Int) ≤ (yn : Int); omega, by show (yn : Int) ≤ 258; omega⟩, by show (1 : Int) ≤ (dn : Int); omega, by show (dn : Int) ≤ 32768; omega⟩
              refine ⟨run_snoc hS.out.2.1 ht (by have := hS.out.2.2; show (dn : Int) ≤ _; omega), ?_⟩
              rw [app_len ht, if_neg hyz, hS.out.2.2]
              rfl
            clear hyn hdn
            obtain ⟨r0, r1, r2, rf, rl⟩ := HB7.out.cells
            have hds : base ≤ w7.heap.size := by
              have q1 := HB7.out.1.1.lt
              have q2 := HB7.out.1.1.base_le
              have q3 : w7.heap.size = w7.heap.size := rfl
              omega
            have HLJ := hid_of HB7.out.1.2.1
            go_wp2_with (at_builtin; refine toks_append (S := base) (xs := L) (ys := [(0, (yn : Int), (dn : Int))]) rfl _ _ rfl rfl (World.ownsRow.alloc HB7.out.1.2.2.1 _) ⟨w7.heap.size, 0, none⟩ 1 1 rfl rfl (news_tok w7 0 (yn : Int) (dn : Int) _ rfl) (by have := HLJ.out; simp only [List.length_cons, List.length_nil]; omega) (by simp; omega) ?_)
            intro v1 w5 y1 y2
            obtain ⟨g1, cap1, rfl, hD⟩ := HB7.out.app (t := (0, (yn : Int), (dn : Int))) (by simpa using y1) y2
            have HN : Hid (TokD w w5 base b g1 (j + 1) cap1 (L ++ [(0, (yn : Int), (dn : Int))]) ∧ run [] (L ++ [(0, (yn : Int), (dn : Int))]) = some (tokApp F (0, (yn : Int), (dn : Int))) ∧ m + yn = (tokApp F (0, (yn : Int), (dn : Int))).length) := ⟨hD, HT.out⟩
            clear y1 y2 hD r0 r1 r2 rf rl hds
            go_wp2_with fail
            go_roundw
            case rel => exact ⟨j + 1, g1, cap1, m + yn, _, _, by omega, by go_num, rfl, by go_num, by omega, HN⟩
            case measure => simp [intOf]; omega
          · have HB8 : Hid (TokB w (w7.alloc (.cells #[.int .i64 3, .int .i64 10, .int .i64 11, .int .i64 257, .int .i64 258, .int .i64 130] 3)) base b g j cp L tb 0 (3 + (un : Int)) (dn : Int)) := HB7.out.alloc _
            have hb7 := HB7.out.1.1.lt
            go_wp2_with fail
            refine (draw_pickInt base b w7.heap.size 6 6 (fun x => 3 ≤ x ∧ x ≤ 258) _ HB8.out.1.1 (by omega) (by omega) (by simp) (fun j hj => ?_)).mono ?_
            · match j, hj with
              | 0, _ => exact ⟨3, by simp, by omega, by omega⟩
              | 1, _ => exact ⟨10, by simp, by omega, by omega⟩
              | 2, _ => exact ⟨11, by simp, by omega, by omega⟩
              | 3, _ => exact ⟨257, by simp, by omega, by omega⟩
              | 4, _ => exact ⟨258, by simp, by omega, by omega⟩
              | 5, _ => exact ⟨130, by simp, by omega, by omega⟩
            rintro e w9 ⟨q, rfl, ⟨hq0, hq1⟩, hC9, hg9⟩
            have HB9 := hid_of (HB8.out.drawn hg9 hC9)
            clear hC9 hg9 HB8 HB7 hb7
            obtain ⟨yn, rfl⟩ := Int.eq_ofNat_of_zero_le (show 0 ≤ q by omega)
            have hy1 : 3 ≤ yn ∧ yn ≤ 258 := by omega
            obtain ⟨s0, s1, s2, sf, sl⟩ := HB9.out.cells
            have HBA : Hid (TokB w (w9.setCell ⟨tb, 1, none⟩ (.int .i64 (yn : Int))) base b g j cp L tb 0 (yn : Int) (dn : Int)) := HB9.out.second _
            have dq : decide ((32768 : Int) < (dn : Int)) = false := decide_eq_false (by omega)
            have dq2 : decide (32768 < dn) = false := decide_eq_false (by omega)
            have dy : ((yn : Int) == 0) = false := by simp; omega
            have dy2 : (yn == 0) = false := by simp; omega
            clear HB9
            have HT : Hid (run [] (L ++ [(0, (yn : Int), (dn : Int))]) = some (tokApp F (0, (yn : Int), (dn : Int))) ∧ m + yn = (tokApp F (0, (yn : Int), (dn : Int))).length) := by
              have hyz : ¬ (yn : Int) = 0 := by omega
              have ht : TokRight (0, (yn : Int), (dn : Int)) := by
                unfold TokRight
                rw [if_neg hyz]
                exact ⟨rfl, ⟨by show (3 : Int) ≤ (yn : Int); omega, by show (yn : Int) ≤ 258; omega⟩, by show (1 : Int) ≤ (dn : Int); omega, by show (dn : Int) ≤ 32768; omega⟩
              refine ⟨run_snoc hS.out.2.1 ht (by have := hS.out.2.2; show (dn : Int) ≤ _; omega), ?_⟩
              rw [app_len ht, if_neg hyz, hS.out.2.2]
              rfl
            clear hdn hq0 hq1
            obtain ⟨r0, r1, r2, rf, rl⟩ := HBA.out.cells
            have hds : base ≤ w9.heap.size := by
              have q1 := HBA.out.1.1.lt
              have q2 := HBA.out.1.1.base_le
              have q3 : (w9.setCell ⟨tb, 1, none⟩ (.int .i64 (yn : Int))).heap.size = w9.heap.size := by simp
              omega
            have HLJ := hid_of HBA.out.1.2.1
            go_wp2_with (at_builtin; refine toks_append (S := base) (xs := L) (ys := [(0, (yn : Int), (dn : Int))]) rfl _ _ rfl rfl (World.ownsRow.alloc HBA.out.1.2.2.1 _) ⟨w9.heap.size, 0, none⟩ 1 1 rfl rfl (news_tok (w9.setCell ⟨tb, 1, none⟩ (.int .i64 (yn : Int))) 0 (yn : Int) (dn : Int) _ (by simp)) (by have := HLJ.out; simp only [List.length_cons, List.length_nil]; omega) (by simp; omega) ?_)
            intro v1 w5 y1 y2
            obtain ⟨g1, cap1, rfl, hD⟩ := HBA.out.app (t := (0, (yn : Int), (dn : Int))) (by simpa using y1) y2
            have HN : Hid (TokD w w5 base b g1 (j + 1) cap1 (L ++ [(0, (yn : Int), (dn : Int))]) ∧ run [] (L ++ [(0, (yn : Int), (dn : Int))]) = some (tokApp F (0, (yn : Int), (dn : Int))) ∧ m + yn = (tokApp F (0, (yn : Int), (dn : Int))).length) := ⟨hD, HT.out⟩
            clear y1 y2 hD r0 r1 r2 rf rl hds
            go_wp2_with fail
            go_roundw
            case rel => exact ⟨j + 1, g1, cap1, m + yn, _, _, by omega, by go_num, rfl, by go_num, by omega, HN⟩
            case measure => simp [intOf]; omega
      · have dm : decide ((0 : Int) < (m : Int)) = false := decide_eq_false (by omega)
        have dm2 : decide (0 < m) = false := decide_eq_false hm0
        have HT : Hid (run [] (L ++ [(x, 0, 0)]) = some (tokApp F (x, 0, 0)) ∧ m + 1 = (tokApp F (x, 0, 0)).length) := by
          have ht : TokRight (x, 0, 0) := ⟨⟨hx0, hx1⟩, rfl⟩
          refine ⟨run_snoc hS.out.2.1 ht (by show (0 : Int) ≤ _; omega), ?_⟩
          rw [app_len ht, if_pos rfl, hS.out.2.2]
        obtain ⟨r0, r1, r2, rf, rl⟩ := HB2.out.cells
        have hds : base ≤ (w2.heap.size + 1) := by
          have q1 := HB2.out.1.1.lt
          have q2 := HB2.out.1.1.base_le
          have q3 : (w2.alloc (.cells #[.int .i64 x, .int .i64 0, .int .i64 0] 57)).heap.size = (w2.heap.size + 1) := by simp
          omega
        have HLJ := hid_of HB2.out.1.2.1
        go_wp2_with (at_builtin; refine toks_append (S := base) (xs := L) (ys := [(x, 0, 0)]) rfl _ _ rfl rfl (World.ownsRow.alloc HB2.out.1.2.2.1 _) ⟨(w2.heap.size + 1), 0, none⟩ 1 1 rfl rfl (news_tok (w2.alloc (.cells #[.int .i64 x, .int .i64 0, .int .i64 0] 57)) x 0 0 _ (by simp)) (by have := HLJ.out; simp only [List.length_cons, List.length_nil]; omega) (by simp; omega) ?_)
        intro v1 w5 y1 y2
        obtain ⟨g1, cap1, rfl, hD⟩ := HB2.out.app (t := (x, 0, 0)) (by simpa using y1) y2
        have HN : Hid (TokD w w5 base b g1 (j + 1) cap1 (L ++ [(x, 0, 0)]) ∧ run [] (L ++ [(x, 0, 0)]) = some (tokApp F (x, 0, 0)) ∧ m + 1 = (tokApp F (x, 0, 0)).length) := ⟨hD, HT.out⟩
        clear y1 y2 hD r0 r1 r2 rf rl hds
        go_wp2_with fail
        go_roundw
        case rel => exact ⟨j + 1, g1, cap1, m + 1, _, _, by omega, by go_num, rfl, by go_num, by omega, HN⟩
        case measure => simp [intOf]; omega
    · obtain rfl : j = k := by omega
      have HZ : Hid (j = L.length ∧ wr.ownsRow base 57 3 (.slice (some ⟨g, 0, none⟩) j cp) L.length (tcells L) ∧ Below base w wr ∧ run [] L = some F ∧ F.length ≤ 258 * j) := ⟨hS.out.1.2.1, hS.out.1.2.2.1, hS.out.1.2.2.2, hS.out.2.1, by have := hS.out.2.2; omega⟩
      go_wp2_with fail
      go_ret
      exact ⟨g, cp, L, F, rfl, HZ.out⟩

set_option maxHeartbeats 800000 in
theorem draw_drawTokens (a : Option Addr) (len cap : Nat) (base : Nat) (w : World) (hK : CodeAt w base a len) (hlen : len ≤ 1048576) (hbase : base ≤ w.heap.size) :
    Calls Tryz.prog 7 #[.slice a len cap] w fun e w' => ∃ k, k ≤ 40 ∧ ToksDrawn base w k e w' := by
  have HK : Hid (CodeAt w base a len) := hK
  clear hK
  go_enter Tryz.func7, Tryz.ntmps7
  go_wp2_with fail
  refine (draw_new a len cap base w HK.out hlen hbase).mono ?_
  rintro e w1 ⟨rfl, hC1, o, rfl⟩
  have HB1 : Hid (Below base w (w.alloc o)) := (Below.refl base w).alloc hbase o
  obtain ⟨b, hb⟩ : ∃ b, b = w.heap.size := ⟨_, rfl⟩
  have HC1 : Hid (Cur (w.alloc o) base b) := by rw [hb]; exact hC1
  clear hC1
  generalize w.alloc o = w2 at *
  rw [← hb]
  clear hb hbase
  go_wp2_with fail
  refine (draw_size a len cap _ hlen).mono ?_
  rintro e w3 ⟨n, rfl, hn0, hn1, rfl⟩
  obtain ⟨q, hq, hq0, hq1⟩ : ∃ q : Int, n.tdiv 12 = q ∧ 0 ≤ q ∧ q ≤ 25 := ⟨n.tdiv 12, rfl, by rw [Int.tdiv_eq_ediv_of_nonneg (by omega)]; omega, by rw [Int.tdiv_eq_ediv_of_nonneg (by omega)]; omega⟩
  go_wp2_with fail
  refine (draw_below base b (12 + q) _ HC1.out).mono ?_
  rintro e w4 ⟨x, rfl, hx, hC4, hg4⟩
  have hx0 := hx.1
  have hx1 := hx.2.1 (by omega)
  have HB4 := hid_of (HB1.out.trans (below_of_grown hg4 HC1.out.base_le HC1.out.lt))
  have HC4 := hid_of hC4
  clear hx hC4 hg4 HC1 HB1
  obtain ⟨k, hk⟩ : ∃ k : Nat, (1 : Int) + x = (k : Int) := ⟨(1 + x).toNat, by omega⟩
  have hk40 : k ≤ 40 := by omega
  have hdt := draw_tokens6 base b k w4 HC4.out hk40
  go_wp2_with fail
  refine hdt.mono ?_
  rintro e w5 ⟨g, cp, L, F, rfl, h1, h2, h3, h4, h5⟩
  have HZ : Hid (k = L.length ∧ w5.ownsRow base 57 3 (.slice (some ⟨g, 0, none⟩) k cp) L.length (tcells L) ∧ Below base w w5 ∧ run [] L = some F ∧ F.length ≤ 258 * k) := ⟨h1, h2, HB4.out.trans h3, h4, h5⟩
  clear h1 h2 h3 h4 h5 hdt
  go_wp2_with fail
  go_ret
  exact ⟨k, hk40, g, cp, L, F, rfl, HZ.out⟩

end Go.Proofs.YtbcnlggkoidmmaaGreatDoor

namespace Go.Proofs.YtbcnlggkoidmmaaGreatDoor
open Go.RowKit TokMath

/-- What is asked of Expand, of a text and tokens. -/
def expandOf (s : ByteArray) (L : List Tok) : Option (List Int) := if s.size ≤ 12000 then expandL s.size (bytesOf s) L else none
/-- What Expand answers. -/
def ExpPost (w : World) (res : Option (List Int)) (e : Ending) (w' : World) : Prop :=
  Below w.heap.size w w' ∧ match res with
  | some F => e = .returned (.tuple #[.string (strOfNums F), .bool true])
  | none => e = .returned (.tuple #[.string ⟨#[]⟩, .bool false])

end Go.Proofs.YtbcnlggkoidmmaaGreatDoor

namespace Go.Proofs.YtbcnlggkoidmmaaGreatDoor
open Go.RowKit

theorem in_yes (x a b : Int) (w : World) (h1 : a ≤ x) (h2 : x ≤ b) :
    Calls Tryz.prog 59 #[.int .i64 x, .int .i64 a, .int .i64 b] w fun e w' => e = .returned (.bool true) ∧ w' = w := by
  go_enter Tryz.func59, Tryz.ntmps59
  go_wp2
  go_ret
  exact ⟨rfl, rfl⟩

theorem in_no (x a b : Int) (w : World) (h : ¬ (a ≤ x ∧ x ≤ b)) :
    Calls Tryz.prog 59 #[.int .i64 x, .int .i64 a, .int .i64 b] w fun e w' => e = .returned (.bool false) ∧ w' = w := by
  by_cases h1 : a ≤ x
  · have h2 : ¬ x ≤ b := fun k => h ⟨h1, k⟩
    clear h
    go_enter Tryz.func59, Tryz.ntmps59
    go_wp2
    go_ret
    exact ⟨rfl, rfl⟩
  · clear h
    go_enter Tryz.func59, Tryz.ntmps59
    go_wp2
    go_ret
    exact ⟨rfl, rfl⟩

end Go.Proofs.YtbcnlggkoidmmaaGreatDoor

namespace Go.Proofs.YtbcnlggkoidmmaaGreatDoor
open Go.RowKit Go.Joins TokMath

/-- What TokenOk answers. -/
def TokPost (x y z : Int) (w : World) (e : Ending) (w' : World) : Prop := e = .returned (.bool (decide (TokRight (x, y, z)))) ∧ Below w.heap.size w w'
theorem TokPost.yes {x y z : Int} {w w' : World} (h : TokRight (x, y, z)) (hb : Below w.heap.size w w') : TokPost x y z w (.returned (.bool true)) w' := ⟨by rw [decide_eq_true h], hb⟩
theorem TokPost.no {x y z : Int} {w w' : World} (h : ¬ TokRight (x, y, z)) (hb : Below w.heap.size w w') : TokPost x y z w (.returned (.bool false)) w' := ⟨by rw [decide_eq_false h], hb⟩
theorem tok_byte (x z : Int) : TokRight (x, 0, z) ↔ (0 ≤ x ∧ x ≤ 255) ∧ z = 0 := by
  unfold TokRight
  rw [if_pos rfl]
theorem tok_rep {x y z : Int} (h : y ≠ 0) : TokRight (x, y, z) ↔ x = 0 ∧ (3 ≤ y ∧ y ≤ 258) ∧ (1 ≤ z ∧ z ≤ 32768) := by
  unfold TokRight
  rw [if_neg h]

set_option maxHeartbeats 800000 in
theorem specTokenOk (x y z : Int) (w : World) : Calls Tryz.prog 30 #[.agg #[.int .i64 x, .int .i64 y, .int .i64 z]] w (TokPost x y z w) := by
  have HB := hid_of (bstart w (.cells #[.int .i64 x, .int .i64 y, .int .i64 z] 57))
  by_cases h0 : y = 0
  · subst h0
    have HR := hid_of (tok_byte x z)
    by_cases h1 : 0 ≤ x ∧ x ≤ 255
    · have H1 := hid_of h1
      by_cases h2 : z = 0
      · subst h2
        clear h1
        go_enter Tryz.func30, Tryz.ntmps30
        go_wp2_with fail
        refine (in_yes _ _ _ _ H1.out.1 H1.out.2).mono ?_
        rintro e w1 ⟨rfl, rfl⟩
        go_wp2_with fail
        go_ret
        exact TokPost.yes (HR.out.mpr ⟨H1.out, trivial⟩) HB.out
      · have d : (z == 0) = false := by simpa using h2
        clear h1
        go_enter Tryz.func30, Tryz.ntmps30
        go_wp2_with fail
        refine (in_yes _ _ _ _ H1.out.1 H1.out.2).mono ?_
        rintro e w1 ⟨rfl, rfl⟩
        go_wp2_with fail
        go_ret
        exact TokPost.no (fun h => h2 (HR.out.mp h).2) HB.out
    · have H1 := hid_of h1
      clear h1
      go_enter Tryz.func30, Tryz.ntmps30
      go_wp2_with fail
      refine (in_no _ _ _ _ H1.out).mono ?_
      rintro e w1 ⟨rfl, rfl⟩
      go_wp2_with fail
      go_ret
      exact TokPost.no (fun h => H1.out (HR.out.mp h).1) HB.out
  · have d0 : (y == 0) = false := by simpa using h0
    have HR := hid_of (tok_rep (x := x) (z := z) h0)
    by_cases h1 : x = 0
    · subst h1
      by_cases h2 : 3 ≤ y ∧ y ≤ 258
      · have H2 := hid_of h2
        clear h2
        by_cases h3 : 1 ≤ z ∧ z ≤ 32768
        · have H3 := hid_of h3
          clear h3
          go_enter Tryz.func30, Tryz.ntmps30
          go_wp2_with fail
          refine (in_yes _ _ _ _ H2.out.1 H2.out.2).mono ?_
          rintro e w1 ⟨rfl, rfl⟩
          go_wp2_with fail
          refine (in_yes _ _ _ _ H3.out.1 H3.out.2).mono ?_
          rintro e w1 ⟨rfl, rfl⟩
          go_wp2_with fail
          go_ret
          exact TokPost.yes (HR.out.mpr ⟨trivial, H2.out, H3.out⟩) HB.out
        · have H3 := hid_of h3
          clear h3
          go_enter Tryz.func30, Tryz.ntmps30
          go_wp2_with fail
          refine (in_yes _ _ _ _ H2.out.1 H2.out.2).mono ?_
          rintro e w1 ⟨rfl, rfl⟩
          go_wp2_with fail
          refine (in_no _ _ _ _ H3.out).mono ?_
          rintro e w1 ⟨rfl, rfl⟩
          go_wp2_with fail
          go_ret
          exact TokPost.no (fun h => H3.out (HR.out.mp h).2.2) HB.out
      · have H2 := hid_of h2
        clear h2
        go_enter Tryz.func30, Tryz.ntmps30
        go_wp2_with fail
        refine (in_no _ _ _ _ H2.out).mono ?_
        rintro e w1 ⟨rfl, rfl⟩
        go_wp2_with fail
        go_ret
        exact TokPost.no (fun h => H2.out (HR.out.mp h).2.1) HB.out
    · have d : (x == 0) = false := by simpa using h1
      go_enter Tryz.func30, Tryz.ntmps30
      go_wp2_with fail
      go_ret
      exact TokPost.no (fun h => h1 (HR.out.mp h).1) HB.out

end Go.Proofs.YtbcnlggkoidmmaaGreatDoor
