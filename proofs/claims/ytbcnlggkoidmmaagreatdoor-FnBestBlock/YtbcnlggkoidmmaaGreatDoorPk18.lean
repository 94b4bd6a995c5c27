/-
  The walk of the document's model of unpacking: block by block.
-/
import Derived.Test.YtbcnlggkoidmmaaGreatDoorPk09
import Derived.Test.YtbcnlggkoidmmaaGreatDoorPk03
import Derived.Test.YtbcnlggkoidmmaaGreatDoorPk10
import Derived.Test.YtbcnlggkoidmmaaGreatDoorPk14
import Derived.Test.YtbcnlggkoidmmaaGreatDoorPk15
import Derived.Test.YtbcnlggkoidmmaaGreatDoorPk16
import Derived.Test.YtbcnlggkoidmmaaGreatDoorPk17
import Derived.Deep.LoopGhost
namespace Go.Proofs.YtbcnlggkoidmmaaGreatDoor
open Go.RowKit Go.Joins OutMath CodeMath TakeMath TokMath InfMath RunsMath

theorem l08Tables_any (w0 : World) (b : Nat) (s : ByteArray) (p : Nat) (O : List Int) (most : Nat) (Ty : List Int) (vo vt : Value) (w : World) (h : RS w0 w b s p O most 0 Ty vo vt) (hs : s.size ≤ 12000) (hp : p ≤ 8 * s.size) :
    Calls Tryz.prog 87 #[.pointer (some ⟨b, 0, none⟩)] w (TabPost w0 b s p O most Ty vo vt) := by
  by_cases h14 : p + 14 ≤ 8 * s.size
  · by_cases hov : 29 < num s p 5 ∨ 29 < num s (p + 5) 5
    · refine (l08Tables_over w0 b s p O most Ty vo vt w h hs hp h14 hov).mono fun e w' q => .inl ⟨5, by decide, by decide, ?_, q⟩
      unfold tablesE
      rw [if_pos h14, if_pos hov]
    · exact l08Tables_third w0 b s p O most Ty vo vt w h hs hp h14 (fun q => hov (.inl q)) (fun q => hov (.inr q))
  · refine (l08Tables_short w0 b s p O most Ty vo vt w h hs hp h14).mono fun e w' q => .inl ⟨2, by decide, by decide, ?_, q⟩
    unfold tablesE
    rw [if_neg h14]

theorem RS.typed {w0 w w2 : World} {b : Nat} {s : ByteArray} {p : Nat} {O : List Int} {most c : Nat} {Ty Ty' : List Int} {vo vt v' : Value} {o : Obj} (h : RS w0 w b s p O most c Ty vo vt) (y1 : NumRow w2 w0.heap.size v' Ty') (y2 : (w.alloc o).grownBy w2 vt.ownBlock) (y3 : v'.ownBlock = vt.ownBlock ∨ v'.ownBlock = some (w.heap.size + 1)) :
    RB w2 b s p vo most c vt ∧ RS w0 (w2.setCell ⟨b, 5, none⟩ v') b s p O most c Ty' vo v' := by
  obtain ⟨h1, h2, h3, h4, h5, h6, h7⟩ := h
  have hlt := h1.lt
  have hsz : w.heap.size + 1 = (w.alloc o).heap.size := (World.size_alloc _ _).symm
  have hk : w2.heap[b]? = w.heap[b]? := (y2.block b (by omega) (fun e => h5.2 e.symm)).trans ((bstart w o).block b hlt)
  have hr : RB w2 b s p vo most c vt := hk.trans h1
  have hvo : vo.ownBlock = none ∨ vo.ownBlock ≠ vt.ownBlock := h4
  have hgs := grown_cell w2 b 5 v'
  have hvb : v'.ownBlock ≠ some b := by
    rcases y3 with q | q
    · rw [q]; exact h5.2
    · rw [q]
      intro e
      cases e
      omega
  refine ⟨hr, ?_, ?_, World.ownsRow.kept y1 hgs (.inr hvb), ?_, ⟨h5.1, hvb⟩, ?_, h7⟩
  · have := block_setCell (i := 5) hr v'
    unfold RB
    simpa using this
  · exact World.ownsRow.kept (World.ownsRow.kept (World.ownsRow.alloc h2 o) y2 hvo) hgs (.inr h5.1)
  · cases e : vo.ownBlock with
    | none => exact .inl rfl
    | some k =>
      refine .inr (fun e1 => ?_)
      rcases y3 with q | q
      · rcases h4 with q1 | q1
        · rw [q1] at e
          cases e
        · exact q1 (by rw [e, e1, q])
      · rw [q] at e1
        have := (World.ownsRow.lt h2 k e).2
        cases e1
        omega
  · exact ((h6.alloc h6.size o).grown y2 (Nat.le_trans h6.size (by omega)) (fun k e => (World.ownsRow.lt h3 k e).1)).setCell (p := ⟨b, 5, none⟩) h7 _

/-- What the ring of the blocks has at hand. -/
def InfSt (w1 : World) (b : Nat) (s : ByteArray) (most : Nat) (tgt : Except Nat (List Int × Nat × List Int)) (m p : Nat) (O : List Int) (c : Nat) (Ty : List Int) (vo vt : Value) (lst : Int) (w' : World) : Prop :=
  RS w1 w' b s p O most c Ty vo vt ∧ p ≤ 8 * s.size ∧ Bytes O ∧ O.length ≤ most ∧
  ((c = 0 ∧ lst = 0 ∧ Ty.length ≤ p ∧ 8 * s.size + 1 ≤ m + p ∧ tgt = blocksF s most m p O Ty) ∨ (c = 0 ∧ lst = 1 ∧ Ty.length ≤ p ∧ tgt = .ok (O, p, Ty)) ∨ (c ≠ 0 ∧ c ≤ 8 ∧ tgt = .error c))
/-- What l08Inflate leaves. -/
def InfPost (w : World) (s : ByteArray) (most : Int) (tgt : Except Nat (List Int × Nat × List Int)) (e : Ending) (w' : World) : Prop :=
  ∃ (p : Nat) (vo vt : Value) (c : Nat), e = .returned (.agg #[.string s, .int .i64 (p : Int), vo, .int .i64 most, .int .i64 (c : Int), vt]) ∧ ((∃ a n c, vo = .slice a n c) ∧ ∃ a n c, vt = .slice a n c) ∧ Below w.heap.size w w' ∧
  ((c = 0 ∧ p ≤ 8 * s.size ∧ ∃ O Ty, OR w' (w.heap.size + 1) vo O ∧ NumRow w' (w.heap.size + 1) vt Ty ∧ Bytes O ∧ O.length ≤ most ∧ Ty.length ≤ p ∧ tgt = .ok (O, p, Ty)) ∨ (c ≠ 0 ∧ c ≤ 8 ∧ tgt = .error c))
theorem blocks_short {s : ByteArray} {most m p : Nat} {O Ty : List Int} (h : ¬ p + 3 ≤ 8 * s.size) : blocksF s most (m + 1) p O Ty = .error 2 := by
  rw [blocksF, if_neg h]
theorem blocks_go {s : ByteArray} {most m p : Nat} {O Ty : List Int} (h : p + 3 ≤ 8 * s.size) : blocksF s most (m + 1) p O Ty = match blockE s most (num s (p + 1) 2) (p + 3) O with
    | .error x => .error x
    | .ok (O', p') => if num s p 1 = 0 then blocksF s most m p' O' (Ty ++ [num s (p + 1) 2]) else .ok (O', p', Ty ++ [num s (p + 1) 2]) := by
  rw [blocksF, if_pos h]
  rfl
/-- Behind a block. -/
theorem inf_next {w1 w' : World} {b : Nat} {s : ByteArray} {most m p : Nat} {O Ty : List Int} {tgt : Except Nat (List Int × Nat × List Int)} (h3 : p + 3 ≤ 8 * s.size) (hm : 8 * s.size + 1 ≤ m + 1 + p) (hty : Ty.length ≤ p) (htg : tgt = blocksF s most (m + 1) p O Ty) (h : BlockPost w1 b s most (Ty ++ [num s (p + 1) 2]) (blockE s most (num s (p + 1) 2) (p + 3) O) w') : ∃ p' O' c' vo' vt', InfSt w1 b s most tgt m p' O' c' (Ty ++ [num s (p + 1) 2]) vo' vt' (num s p 1) w' := by
  obtain ⟨p', O', c', vo', vt', q1, q2, q3, q4, q5⟩ := h
  refine ⟨p', O', c', vo', vt', q1, q2, q3, q4, ?_⟩
  rcases q5 with ⟨rfl, hr⟩ | ⟨hc, hc8, hr⟩
  · have hg := block_go hr
    have h01 := bit_01 s p
    have e1 : num s p 1 = bit s p := by
      show 0 + bit s (p + 0) * p2 0 = bit s p
      rw [p2_zero, Nat.add_zero]
      omega
    rw [blocks_go h3, hr] at htg
    dsimp only at htg
    by_cases hz : num s p 1 = 0
    · rw [if_pos hz] at htg
      exact .inl ⟨rfl, hz, by rw [List.length_append, List.length_singleton]; omega, by omega, htg⟩
    · rw [if_neg hz] at htg
      exact .inr (.inl ⟨rfl, by omega, by rw [List.length_append, List.length_singleton]; omega, htg⟩)
  · rw [blocks_go h3, hr] at htg
    exact .inr (.inr ⟨hc, hc8, htg⟩)
/-- What is handed back. -/
theorem inf_end {w w' : World} {b : Nat} {s : ByteArray} {most p c : Nat} {O Ty : List Int} {vo vt : Value} {tgt : Except Nat (List Int × Nat × List Int)} {o : Obj} (h : RS (w.alloc o) w' b s p O most c Ty vo vt) (hp : p ≤ 8 * s.size) (hB : Bytes O) (hO : O.length ≤ most) (ht : (c = 0 ∧ Ty.length ≤ p ∧ tgt = .ok (O, p, Ty)) ∨ (c ≠ 0 ∧ c ≤ 8 ∧ tgt = .error c)) (v0 v1 v2 v3 v4 v5 : Value) :
    InfPost w s most tgt (.returned (.agg #[.string s, .int .i64 (p : Int), vo, .int .i64 (most : Int), .int .i64 (c : Int), vt])) ((((((w'.setCell ⟨w.heap.size, 0, none⟩ v0).setCell ⟨w.heap.size, 1, none⟩ v1).setCell ⟨w.heap.size, 2, none⟩ v2).setCell ⟨w.heap.size, 3, none⟩ v3).setCell ⟨w.heap.size, 4, none⟩ v4).setCell ⟨w.heap.size, 5, none⟩ v5) := by
  have hsz : (w.alloc o).heap.size = w.heap.size + 1 := World.size_alloc _ _
  have hb : Below w.heap.size w w' := (bstart w o).trans (h.2.2.2.2.2.1.mono (by omega))
  have hg : w'.grownBy ((((((w'.setCell ⟨w.heap.size, 0, none⟩ v0).setCell ⟨w.heap.size, 1, none⟩ v1).setCell ⟨w.heap.size, 2, none⟩ v2).setCell ⟨w.heap.size, 3, none⟩ v3).setCell ⟨w.heap.size, 4, none⟩ v4).setCell ⟨w.heap.size, 5, none⟩ v5) (some w.heap.size) :=
    (((((grown_cell _ _ _ _).trans (grown_cell _ _ _ _)).trans (grown_cell _ _ _ _)).trans (grown_cell _ _ _ _)).trans (grown_cell _ _ _ _)).trans (grown_cell _ _ _ _)
  have hbs : Below w.heap.size w ((((((w'.setCell ⟨w.heap.size, 0, none⟩ v0).setCell ⟨w.heap.size, 1, none⟩ v1).setCell ⟨w.heap.size, 2, none⟩ v2).setCell ⟨w.heap.size, 3, none⟩ v3).setCell ⟨w.heap.size, 4, none⟩ v4).setCell ⟨w.heap.size, 5, none⟩ v5) := hb.grown hg hb.size (fun k e => by cases e; exact Nat.le_refl _)
  obtain ⟨ao, co, hfo⟩ := h.2.1.form
  obtain ⟨av, cv, hft, _⟩ := h.2.2.1.form
  refine ⟨p, vo, vt, c, rfl, ⟨⟨_, _, _, hfo⟩, ⟨_, _, _, hft⟩⟩, hbs, ?_⟩
  have n1 : vo.ownBlock ≠ some w.heap.size := fun e => by
    have := (World.ownsRow.lt h.2.1 _ e).1
    omega
  have n2 : vt.ownBlock ≠ some w.heap.size := fun e => by
    have := (World.ownsRow.lt h.2.2.1 _ e).1
    omega
  rcases ht with ⟨rfl, q1, q2⟩ | q
  · have k1 := World.ownsRow.kept h.2.1 hg (.inr n1)
    have k2 := World.ownsRow.kept h.2.2.1 hg (.inr n2)
    rw [hsz] at k1 k2
    exact .inl ⟨rfl, hp, O, Ty, k1, k2, hB, by omega, q1, q2⟩
  · exact .inr q
theorem six_below {w w' : World} (h : Below w.heap.size w w') (v0 v1 v2 v3 v4 v5 : Value) : Below w.heap.size w ((((((w'.setCell ⟨w.heap.size, 0, none⟩ v0).setCell ⟨w.heap.size, 1, none⟩ v1).setCell ⟨w.heap.size, 2, none⟩ v2).setCell ⟨w.heap.size, 3, none⟩ v3).setCell ⟨w.heap.size, 4, none⟩ v4).setCell ⟨w.heap.size, 5, none⟩ v5) :=
  (((((h.setCell (p := ⟨w.heap.size, 0, none⟩) (Nat.le_refl _) _).setCell (p := ⟨w.heap.size, 1, none⟩) (Nat.le_refl _) _).setCell (p := ⟨w.heap.size, 2, none⟩) (Nat.le_refl _) _).setCell (p := ⟨w.heap.size, 3, none⟩) (Nat.le_refl _) _).setCell (p := ⟨w.heap.size, 4, none⟩) (Nat.le_refl _) _).setCell (p := ⟨w.heap.size, 5, none⟩) (Nat.le_refl _) _
/-- The world when a text or a number is too great. -/
def LongW (w : World) (s : ByteArray) (most : Int) (w' : World) : Prop := w'.heap[w.heap.size]? = some (.cells #[.string ⟨#[]⟩, .int .i64 0, .slice none 0 0, .int .i64 0, .int .i64 0, .slice none 0 0] 89 (0, 0)) ∧ w'.heap[w.heap.size + 1]? = some (.cells #[.string s, .int .i64 0, .slice none 0 0, .int .i64 most, .int .i64 1, .slice none 0 0] 89 (0, 0)) ∧ Below w.heap.size w w'
theorem long_world (w : World) (s : ByteArray) (most : Int) : LongW w s most ((w.alloc (.cells #[.string ⟨#[]⟩, .int .i64 0, .slice none 0 0, .int .i64 0, .int .i64 0, .slice none 0 0] 89)).alloc (.cells #[.string s, .int .i64 0, .slice none 0 0, .int .i64 most, .int .i64 1, .slice none 0 0] 89)) := by
  refine ⟨(Below.heap_alloc _ _ _ (by simp)).trans (heap_alloc_new w _), ?_, bal (bstart w _) _⟩
  have h := heap_alloc_new (w.alloc (.cells #[.string ⟨#[]⟩, .int .i64 0, .slice none 0 0, .int .i64 0, .int .i64 0, .slice none 0 0] 89)) (.cells #[.string s, .int .i64 0, .slice none 0 0, .int .i64 most, .int .i64 1, .slice none 0 0] 89)
  rw [World.size_alloc] at h
  exact h
set_option maxRecDepth 100000 in
set_option maxHeartbeats 1600000 in
theorem l08Inflate_long (s : ByteArray) (most : Int) (w : World) (hs : s.size ≤ 1048576) (h : ¬ (s.size ≤ 12000 ∧ 0 ≤ most ∧ most ≤ 12000)) :
    Calls Tryz.prog 43 #[.string s, .int .i64 most] w (InfPost w s most (.error 1)) := by
  by_cases h1 : (s.size : Int) ≤ 12000
  · have d1 : decide ((12000 : Int) < (s.size : Int)) = false := decide_eq_false (by omega)
    have d2 : decide (12000 < s.size) = false := decide_eq_false (by omega)
    have hin := fun w => in_no most 0 12000 w (by omega)
    go_enter Tryz.func43, Tryz.ntmps43
    go_wp2_with fail
    refine (hin _).mono ?_
    rintro e w1 ⟨rfl, rfl⟩
    have HW := hid_of (long_world w s most)
    go_wp2_with fail
    generalize (w.alloc _).alloc _ = W at HW
    go_loopg [6] 1 (fun _ v w' => v = .int .i64 0 ∧ Hid (LongW w s most w'))
    case atStart => exact ⟨rfl, HW⟩
    case round =>
      obtain ⟨rfl, hL⟩ := hrel
      obtain ⟨hr, hb, hB⟩ := hL.out
      have r0 := cell_of_block hr 0
      have r1 := cell_of_block hr 1
      have r2 := cell_of_block hr 2
      have r3 := cell_of_block hr 3
      have r4 := cell_of_block hr 4
      have r5 := cell_of_block hr 5
      have rf := unfrozen_of_block hr
      have rl := block_lt hr
      have b0 := cell_of_block hb 0
      have b1 := cell_of_block hb 1
      have b2 := cell_of_block hb 2
      have b3 := cell_of_block hb 3
      have b4 := cell_of_block hb 4
      have b5 := cell_of_block hb 5
      have bl := block_lt hb
      have HB := hid_of hB
      clear hL hr hb hB HW
      go_wp2_with fail
      refine bodyPost_ret (v := .agg #[.string s, .int .i64 0, .slice none 0 0, .int .i64 most, .int .i64 1, .slice none 0 0]) (by simp [results, Tryz.results43, go_sem, *]) rfl ⟨0, _, _, 1, rfl, ⟨⟨_, _, _, rfl⟩, ⟨_, _, _, rfl⟩⟩, ?_, .inr ⟨by decide, by decide, rfl⟩⟩
      exact six_below HB.out _ _ _ _ _ _
  · have d1 : decide ((12000 : Int) < (s.size : Int)) = true := decide_eq_true (by omega)
    have d2 : decide (12000 < s.size) = true := decide_eq_true (by omega)
    have HW := hid_of (long_world w s most)
    go_enter Tryz.func43, Tryz.ntmps43
    go_wp2_with fail
    generalize (w.alloc _).alloc _ = W at HW
    go_loopg [6] 1 (fun _ v w' => v = .int .i64 0 ∧ Hid (LongW w s most w'))
    case atStart => exact ⟨rfl, HW⟩
    case round =>
      obtain ⟨rfl, hL⟩ := hrel
      obtain ⟨hr, hb, hB⟩ := hL.out
      have r0 := cell_of_block hr 0
      have r1 := cell_of_block hr 1
      have r2 := cell_of_block hr 2
      have r3 := cell_of_block hr 3
      have r4 := cell_of_block hr 4
      have r5 := cell_of_block hr 5
      have rf := unfrozen_of_block hr
      have rl := block_lt hr
      have b0 := cell_of_block hb 0
      have b1 := cell_of_block hb 1
      have b2 := cell_of_block hb 2
      have b3 := cell_of_block hb 3
      have b4 := cell_of_block hb 4
      have b5 := cell_of_block hb 5
      have bl := block_lt hb
      have HB := hid_of hB
      clear hL hr hb hB HW
      go_wp2_with fail
      refine bodyPost_ret (v := .agg #[.string s, .int .i64 0, .slice none 0 0, .int .i64 most, .int .i64 1, .slice none 0 0]) (by simp [results, Tryz.results43, go_sem, *]) rfl ⟨0, _, _, 1, rfl, ⟨⟨_, _, _, rfl⟩, ⟨_, _, _, rfl⟩⟩, ?_, .inr ⟨by decide, by decide, rfl⟩⟩
      exact six_below HB.out _ _ _ _ _ _

theorem tab_of_row {w' : World} {K b n : Nat} {v vo : Value} {L : List Int} {f : Nat → Int} (h : NumRow w' K v L) (hb : b < K) (hv : ∀ k, vo.ownBlock = some k → k < K) (hn : L.length = n) (hf : ∀ i, i < n → L.getD i 0 = f i) : ∃ a c, v = .slice a n c ∧ Tab w' b vo a n f := by
  obtain ⟨a, c, hs, _, _, hC, _⟩ := h.form
  refine ⟨a, c, by rw [hs, hn], ?_⟩
  by_cases h0 : n = 0
  · exact .inl h0
  · obtain ⟨g, cap, e, hg, hl⟩ := World.ownsRow.form (show w'.ownsRow K 3 1 v L.length (ivals L) from h) (by omega)
    rw [hs] at e
    cases e
    refine .inr ⟨g, 0, rfl, hl, by omega, fun e => by have := hv g e; omega, fun j hj => ?_⟩
    rcases hC with q | ⟨g1, o1, q1, q2, q3⟩
    · omega
    · cases q1
      have := q3 j (by omega)
      rw [this]
      show some (Value.int .i64 (L.getD j 0)) = _
      rw [hf j hj]
theorem block_0 (s : ByteArray) (most p : Nat) (O : List Int) : blockE s most 0 p O = storedE s most p O := by
  unfold blockE
  rw [if_pos rfl]
theorem block_1 (s : ByteArray) (most p : Nat) (O : List Int) : blockE s most 1 p O = symbolsF s most fixed1 288 fixed2 32 (8 * s.size + 1) p O := by
  unfold blockE
  rw [if_neg (by decide), if_pos rfl]
theorem block_2 (s : ByteArray) (most p : Nat) (O : List Int) : blockE s most 2 p O = match tablesE s p with
    | .error x => .error x
    | .ok (L, n, p2) => symbolsF s most (fun i => L.getD i 0) n (fun i => (L.drop n).getD i 0) (L.length - n) (8 * s.size + 1) p2 O := by
  unfold blockE
  rw [if_neg (by decide), if_neg (by decide), if_pos rfl]
  rfl
theorem block_3 (s : ByteArray) (most p : Nat) (O : List Int) : blockE s most 3 p O = .error 3 := by
  unfold blockE
  rw [if_neg (by decide), if_neg (by decide), if_neg (by decide)]
set_option maxRecDepth 100000 in
set_option maxHeartbeats 6400000 in
theorem l08Inflate_in (s : ByteArray) (most : Nat) (w : World) (hs : s.size ≤ 12000) (hm : most ≤ 12000) :
    Calls Tryz.prog 43 #[.string s, .int .i64 (most : Int)] w (InfPost w s most (blocksF s most (8 * s.size + 1) 0 [] [])) := by
  have d1 : decide ((12000 : Int) < (s.size : Int)) = false := decide_eq_false (by omega)
  have d2 : decide (12000 < s.size) = false := decide_eq_false (by omega)
  have hin := fun w => in_yes (most : Int) 0 12000 w (by omega) (by omega)
  obtain ⟨tgt, htgt⟩ : ∃ tgt, tgt = blocksF s most (8 * s.size + 1) 0 [] [] := ⟨_, rfl⟩
  rw [← htgt]
  have H0 : Hid (InfSt (w.alloc (.cells #[.string ⟨#[]⟩, .int .i64 0, .slice none 0 0, .int .i64 0, .int .i64 0, .slice none 0 0] 89)) (w.heap.size + 1) s most tgt (8 * s.size + 1) 0 [] 0 [] (.slice none 0 0) (.slice none 0 0) 0 ((w.alloc (.cells #[.string ⟨#[]⟩, .int .i64 0, .slice none 0 0, .int .i64 0, .int .i64 0, .slice none 0 0] 89)).alloc (.cells #[.string s, .int .i64 0, .slice none 0 0, .int .i64 (most : Int), .int .i64 0, .slice none 0 0] 89))) := by
    have hsz : (w.alloc (.cells #[.string ⟨#[]⟩, .int .i64 0, .slice none 0 0, .int .i64 0, .int .i64 0, .slice none 0 0] 89)).heap.size = w.heap.size + 1 := World.size_alloc _ _
    refine ⟨⟨?_, OR.nil _ _, NumRow.nil _ _, .inl rfl, ⟨by simp [Value.ownBlock], by simp [Value.ownBlock]⟩, ?_, by omega⟩, by omega, (fun x hx => by cases hx), by simp, .inl ⟨rfl, rfl, by simp, by omega, htgt⟩⟩
    · have h := heap_alloc_new (w.alloc (.cells #[.string ⟨#[]⟩, .int .i64 0, .slice none 0 0, .int .i64 0, .int .i64 0, .slice none 0 0] 89)) (.cells #[.string s, .int .i64 0, .slice none 0 0, .int .i64 (most : Int), .int .i64 0, .slice none 0 0] 89)
      rw [hsz] at h
      exact h
    · exact bstart _ _
  clear htgt
  go_enter Tryz.func43, Tryz.ntmps43
  go_wp2_with fail
  refine (hin _).mono ?_
  rintro e w1 ⟨rfl, rfl⟩
  clear hin
  go_wp2_with fail
  generalize World.alloc (w.alloc _) _ = W at H0
  go_loopg [6] (8 * s.size + 2) (fun gk v w' => ∃ (m p : Nat) (O : List Int) (c : Nat) (Ty : List Int) (vo vt : Value) (lst : Int), v = .int .i64 lst ∧ m ≤ gk ∧ Hid (InfSt (w.alloc (.cells #[.string ⟨#[]⟩, .int .i64 0, .slice none 0 0, .int .i64 0, .int .i64 0, .slice none 0 0] 89)) (w.heap.size + 1) s most tgt m p O c Ty vo vt lst w'))
  case atStart => exact ⟨8 * s.size + 1, 0, [], 0, [], _, _, 0, rfl, by omega, H0⟩
  case round =>
    clear H0
    obtain ⟨m, p, O, c, Ty, vo, vt, lst, rfl, hgk, hI⟩ := hrel
    have hRS := hI.out.1
    obtain ⟨ao, co, hfo⟩ := hRS.2.1.form
    obtain ⟨av, cv, hft, _⟩ := hRS.2.2.1.form
    subst hfo
    subst hft
    have hrb : wr.heap[w.heap.size]? = some (.cells #[.string ⟨#[]⟩, .int .i64 0, .slice none 0 0, .int .i64 0, .int .i64 0, .slice none 0 0] 89 (0, 0)) := (hRS.2.2.2.2.2.1.block _ (by simp)).trans (heap_alloc_new w _)
    obtain ⟨b0, b1, b2, b3, b4, b5⟩ := hRS.1.cells
    have bl := hRS.lt
    have hend : ∀ tgt', Hid ((c = 0 ∧ Ty.length ≤ p ∧ tgt' = .ok (O, p, Ty)) ∨ (c ≠ 0 ∧ c ≤ 8 ∧ tgt' = .error c)) → ∀ v0 v1 v2 v3 v4 v5, Hid (InfPost w s most tgt' (.returned (.agg #[.string s, .int .i64 (p : Int), (.slice ao O.length co), .int .i64 (most : Int), .int .i64 (c : Int), (.slice av Ty.length cv)])) ((((((wr.setCell ⟨w.heap.size, 0, none⟩ v0).setCell ⟨w.heap.size, 1, none⟩ v1).setCell ⟨w.heap.size, 2, none⟩ v2).setCell ⟨w.heap.size, 3, none⟩ v3).setCell ⟨w.heap.size, 4, none⟩ v4).setCell ⟨w.heap.size, 5, none⟩ v5)) := fun tgt' q v0 v1 v2 v3 v4 v5 => inf_end hI.out.1 hI.out.2.1 hI.out.2.2.1 hI.out.2.2.2.1 q.out v0 v1 v2 v3 v4 v5
    have r0 := cell_of_block hrb 0
    have r1 := cell_of_block hrb 1
    have r2 := cell_of_block hrb 2
    have r3 := cell_of_block hrb 3
    have r4 := cell_of_block hrb 4
    have r5 := cell_of_block hrb 5
    have rf := unfrozen_of_block hrb
    have rl := block_lt hrb
    clear hRS hrb
    by_cases hgo : c = 0 ∧ lst = 0
    · obtain ⟨rfl, rfl⟩ := hgo
      have hst : Ty.length ≤ p ∧ 8 * s.size + 1 ≤ m + p ∧ tgt = blocksF s most m p O Ty := by
        rcases hI.out.2.2.2.2 with ⟨_, _, q⟩ | ⟨_, q, _⟩ | ⟨q, _⟩
        · exact q
        · exact absurd q (by decide)
        · exact absurd rfl q
      have hp := hI.out.2.1
      obtain ⟨m1, rfl⟩ : ∃ m1, m = m1 + 1 := ⟨m - 1, by omega⟩
      have hb1 := l08Bits_any _ s p _ most 0 _ 1 wr hI.out.1.1 hs hp (by omega)
      have hb2 := fun (p' c' : Nat) (wz : World) (h : RB wz (w.heap.size + 1) s p' (.slice ao O.length co) most c' (.slice av Ty.length cv)) (hp' : p' ≤ 8 * s.size) => l08Bits_any (w.heap.size + 1) s p' (.slice ao O.length co) most c' (.slice av Ty.length cv) 2 wz h hs hp' (by omega)
      by_cases h3 : p + 3 ≤ 8 * s.size
      · rw [bitsR_ok (by omega)] at hb1
        have hb2' := fun (wz : World) (h : RB wz (w.heap.size + 1) s (p + 1) (.slice ao O.length co) most 0 (.slice av Ty.length cv)) => hb2 (p + 1) 0 wz h (by omega)
        rw [bitsR_ok (show p + 1 + 2 ≤ 8 * s.size by omega), show p + 1 + 2 = p + 3 by omega] at hb2'
        have q1 := num_bd s p 1
        have q2 := num_bd s (p + 1) 2
        rw [show p2 1 = 2 by decide +kernel] at q1
        rw [show p2 2 = 4 by decide +kernel] at q2
        have HNX := hid_of (fun w' => inf_next (w1 := w.alloc (.cells #[.string ⟨#[]⟩, .int .i64 0, .slice none 0 0, .int .i64 0, .int .i64 0, .slice none 0 0] 89)) (w' := w') (b := w.heap.size + 1) (tgt := tgt) h3 hst.2.1 hst.1 hst.2.2)
        have HRS := hid_of hI.out.1
        have HBO := hid_of (And.intro hI.out.2.2.1 hI.out.2.2.2.1)
        have hTl := hst.1
        generalize num s p 1 = x1 at *
        generalize num s (p + 1) 2 = k at *
        clear hI hend hst b0 b1 b2 b3 b5 r0 r1 r2 r3 r4 r5 rf rl hb2
        go_wp2_with fail
        refine hb1.mono ?_
        rintro e w1 ⟨rfl, hR1, hg1⟩
        have HS1 := hid_of (HRS.out.turned hR1 hg1)
        have hf2 := hb2' w1 hR1
        clear hb1 hb2' hR1 hg1 HRS b4 bl
        go_wp2_with fail
        refine hf2.mono ?_
        rintro e w2 ⟨rfl, hR2, hg2⟩
        have HS2 := hid_of (HS1.out.turned hR2 hg2)
        have k4 := hR2.cells.2.2.2.2.1
        have k5 := hR2.cells.2.2.2.2.2
        have kl := hR2.lt
        clear hf2 hR2 hg2 HS1
        have hwl : w.heap.size + 1 ≤ w2.heap.size := by omega
        have HNR : Hid (NumRow w2 (w.heap.size + 1) (.slice av Ty.length cv) Ty) := by
          have h := HS2.out.2.2.1
          rw [World.size_alloc] at h
          exact h
        go_wp2_with (at_builtin; refine nums_append1 (S := w.heap.size + 1) (xs := Ty) rfl _ _ rfl rfl (World.ownsRow.alloc HNR.out _) w2.heap.size 1 k rfl (by simp) (by omega) (by simp; omega) ?_)
        intro v3 w3 y1 y2 y3
        have y1' : NumRow w3 (w.alloc (.cells #[.string ⟨#[]⟩, .int .i64 0, .slice none 0 0, .int .i64 0, .int .i64 0, .slice none 0 0] 89)).heap.size v3 (Ty ++ [k]) := by
          rw [World.size_alloc]
          exact y1
        obtain ⟨a3, c3, hv3, _⟩ := y1.form
        rw [List.length_append, List.length_singleton] at hv3
        subst hv3
        obtain ⟨hRB3, hRS3⟩ := HS2.out.typed y1' y2 y3
        have j5 := hRB3.cells.2.2.2.2.2
        have jf := hRB3.free
        have jl := hRB3.lt
        have HS3 := hid_of hRS3
        clear HS2 HNR y1 y1' y2 y3 hRB3 hRS3 k5
        rcases (show k = 0 ∨ k = 1 ∨ k = 2 ∨ k = 3 by omega) with rfl | rfl | rfl | rfl
        · rw [block_0] at HNX
          have hst := l08Stored_any _ _ s (p + 3) O most (Ty ++ [0]) _ _ _ HS3.out hs h3 HBO.out.1 HBO.out.2 hm
          clear HS3 HBO
          go_wp2_with fail
          refine hst.mono ?_
          rintro e w4 ⟨rfl, hP⟩
          have hN := HNX.out w4 hP
          clear hst hP HNX
          obtain ⟨p', O', c', vo', vt', hS⟩ := hN
          have HS := hid_of hS
          clear hS
          go_wp2_with fail
          go_roundg m1
          case measure => omega
          case rel => exact ⟨m1, p', O', c', _, vo', vt', x1, rfl, Nat.le_refl _, HS⟩
        · rw [block_1] at HNX
          have HL := hid_of HS3.out.lt
          go_wp2_with fail
          generalize w3.setCell ⟨w.heap.size + 1, 5, none⟩ _ = W3 at HS3 HL
          refine (specFixed W3).mono ?_
          rintro e w4 ⟨v1, v2, K, rfl, hF1, hF2, hF3, hF4, hF5, hF6⟩
          have HS4 := hid_of (HS3.out.called hF4)
          obtain ⟨a1, c1, hv1, hT1⟩ := tab_of_row (b := w.heap.size + 1) (vo := .slice ao O.length co) (n := 288) (f := fixed1) hF1 HL.out (fun k e => (World.ownsRow.lt HS3.out.2.1 k e).2) (firstJ_length _ _) (fun i hi => firstJ_getD _ hi)
          obtain ⟨a2, c2, hv2, hT2⟩ := tab_of_row (b := w.heap.size + 1) (vo := .slice ao O.length co) (n := 32) (f := fixed2) hF2 (Nat.lt_of_lt_of_le HL.out hF5) (fun k e => Nat.lt_of_lt_of_le (World.ownsRow.lt HS3.out.2.1 k e).2 hF5) (firstJ_length _ _) (fun i hi => firstJ_getD _ hi)
          subst hv1
          subst hv2
          have hsy := l08Symbols_any _ _ s (p + 3) O most (Ty ++ [1]) _ _ a1 288 c1 fixed1 a2 32 c2 fixed2 w4 HS4.out hT1 hT2 fixed1_coded fixed2_coded hs h3 HBO.out.1 HBO.out.2 hm
          clear HS3 HBO HS4 hT1 hT2 hF1 hF2 hF3 hF4 hF5 hF6 HL
          go_wp2_with fail
          refine hsy.mono ?_
          rintro e w5 ⟨rfl, hP⟩
          have hN := HNX.out w5 hP
          clear hsy hP HNX
          obtain ⟨p', O', c', vo', vt', hS⟩ := hN
          have HS := hid_of hS
          clear hS
          go_wp2_with fail
          go_roundg m1
          case measure => omega
          case rel => exact ⟨m1, p', O', c', _, vo', vt', x1, rfl, Nat.le_refl _, HS⟩
        · rw [block_2] at HNX
          have htb := l08Tables_any _ _ s (p + 3) O most (Ty ++ [2]) _ _ _ HS3.out hs h3
          clear HS3
          go_wp2_with fail
          refine htb.mono ?_
          clear htb
          rintro e w4 (⟨c4, hc4, hc8, hTE, p4, a1, c1, a2, c2, rfl, hRS4, hp4⟩ | ⟨L, n, p4, g, c1, c2, hTE, hp4, hnL, hRS4, rfl, hT1, hT2⟩)
          · rw [hTE] at HNX
            have hsy := l08Symbols_bad _ _ s p4 O most c4 (Ty ++ [2]) _ _ a1 c1 a2 c2 w4 hRS4 hc4
            clear hRS4
            go_wp2_with fail
            refine hsy.mono ?_
            rintro e w5 ⟨rfl, hR5⟩
            have hN := HNX.out w5 ⟨p4, O, c4, _, _, hR5, hp4, HBO.out.1, HBO.out.2, .inr ⟨hc4, hc8, rfl⟩⟩
            clear hsy hR5 HNX hTE
            obtain ⟨p', O', c', vo', vt', hS⟩ := hN
            have HS := hid_of hS
            clear hS
            go_wp2_with fail
            go_roundg m1
            case measure => omega
            case rel => exact ⟨m1, p', O', c', _, vo', vt', x1, rfl, Nat.le_refl _, HS⟩
          · have hcd := tables_coded hTE
            rw [hTE] at HNX
            have hsy := l08Symbols_any _ _ s p4 O most (Ty ++ [2]) _ _ (some ⟨g, 0, none⟩) n c1 (fun i => L.getD i 0) (some ⟨g, n, none⟩) (L.length - n) c2 (fun i => (L.drop n).getD i 0) w4 hRS4 hT1 hT2 hcd.1 hcd.2 hs hp4 HBO.out.1 HBO.out.2 hm
            clear hRS4 hT1 hT2 hcd hTE hnL
            go_wp2_with fail
            refine hsy.mono ?_
            rintro e w5 ⟨rfl, hP⟩
            have hN := HNX.out w5 hP
            clear hsy hP HNX
            obtain ⟨p', O', c', vo', vt', hS⟩ := hN
            have HS := hid_of hS
            clear hS
            go_wp2_with fail
            go_roundg m1
            case measure => omega
            case rel => exact ⟨m1, p', O', c', _, vo', vt', x1, rfl, Nat.le_refl _, HS⟩
        · rw [block_3] at HNX
          have l5 := HS3.out.1.cells.2.2.2.2.1
          have lf := HS3.out.1.free 4
          have ll := HS3.out.lt
          have hN := HNX.out _ ⟨p + 3, O, 3, _, _, HS3.out.setCode 3, h3, HBO.out.1, HBO.out.2, .inr ⟨by decide, by decide, rfl⟩⟩
          clear HNX HS3 HBO
          obtain ⟨p', O', c', vo', vt', hS⟩ := hN
          have HS := hid_of hS
          clear hS
          go_wp2_with fail
          go_roundg m1
          case measure => omega
          case rel => exact ⟨m1, p', O', c', _, vo', vt', x1, rfl, Nat.le_refl _, HS⟩
      · have he : ∃ (x : Int) (p1 c1 : Nat), bitsR s p 0 1 = (x, p1, c1) ∧ p1 ≤ 8 * s.size ∧ bitsR s p1 c1 2 = (0, p1, 2) := by
          by_cases h1 : p + 1 ≤ 8 * s.size
          · exact ⟨_, p + 1, 0, bitsR_ok h1, h1, bitsR_end (by omega)⟩
          · exact ⟨0, p, 2, bitsR_end h1, hp, bitsR_bad (by decide)⟩
        obtain ⟨x, p1, c1, he1, hp1, he2⟩ := he
        rw [he1] at hb1
        have hb2' := fun (wz : World) (h : RB wz (w.heap.size + 1) s p1 (.slice ao O.length co) most c1 (.slice av Ty.length cv)) => hb2 p1 c1 wz h hp1
        rw [he2] at hb2'
        dsimp only at hb1 hb2'
        have htg : tgt = .error 2 := hst.2.2.trans (blocks_short h3)
        have HRS := hid_of hI.out.1
        have HBO := hid_of (And.intro hI.out.2.2.1 hI.out.2.2.2.1)
        clear hI hend hst b0 b1 b2 b3 b5 r0 r1 r2 r3 r4 r5 rf rl hb2 he1 he2
        go_wp2_with fail
        refine hb1.mono ?_
        rintro e w1 ⟨rfl, hR1, hg1⟩
        have HS1 := hid_of (HRS.out.turned hR1 hg1)
        have hf2 := hb2' w1 hR1
        clear hb1 hb2' hR1 hg1 HRS b4 bl
        go_wp2_with fail
        refine hf2.mono ?_
        rintro e w2 ⟨rfl, hR2, hg2⟩
        have hRS2 := HS1.out.turned hR2 hg2
        have HEND := fun v0 v1 v2 v3 v4 v5 => hid_of (inf_end hRS2 hp1 HBO.out.1 HBO.out.2 (.inr ⟨by decide, by decide, htg⟩) v0 v1 v2 v3 v4 v5)
        have hrb : w2.heap[w.heap.size]? = some (.cells #[.string ⟨#[]⟩, .int .i64 0, .slice none 0 0, .int .i64 0, .int .i64 0, .slice none 0 0] 89 (0, 0)) := (hRS2.2.2.2.2.2.1.block _ (by simp)).trans (heap_alloc_new w _)
        obtain ⟨b0, b1, b2, b3, b4, b5⟩ := hRS2.1.cells
        have bl := hRS2.lt
        have r0 := cell_of_block hrb 0
        have r1 := cell_of_block hrb 1
        have r2 := cell_of_block hrb 2
        have r3 := cell_of_block hrb 3
        have r4 := cell_of_block hrb 4
        have r5 := cell_of_block hrb 5
        have rf := unfrozen_of_block hrb
        have rl := block_lt hrb
        clear hf2 hR2 hg2 HS1 hRS2 hrb HBO
        go_wp2_with fail
        refine bodyPost_ret (v := .agg #[.string s, .int .i64 (p1 : Int), (.slice ao O.length co), .int .i64 (most : Int), .int .i64 ((2 : Nat) : Int), (.slice av Ty.length cv)]) ?_ rfl ?_
        · simp [results, Tryz.results43, go_sem, r0, r1, r2, r3, r4, r5]
        · exact (HEND _ _ _ _ _ _).out
    · have hE : Hid ((c = 0 ∧ Ty.length ≤ p ∧ tgt = .ok (O, p, Ty)) ∨ (c ≠ 0 ∧ c ≤ 8 ∧ tgt = .error c)) := by
        rcases hI.out.2.2.2.2 with ⟨q1, q2, _⟩ | ⟨q1, _, q3, q4⟩ | q
        · exact absurd ⟨q1, q2⟩ hgo
        · exact .inl ⟨q1, q3, q4⟩
        · exact .inr q
      have HEND := hend tgt hE
      have hcc : ((c : Int) == 0) = false ∨ (((c : Int) == 0) = true ∧ (lst == 0) = false) := by
        by_cases q : c = 0
        · right
          refine ⟨by simp [q], ?_⟩
          simp
          intro e
          exact hgo ⟨q, e⟩
        · left
          simp
          omega
      clear hI hend hgo hE
      rcases hcc with dc | ⟨dc, dl⟩
      all_goals
        go_wp2_with fail
        refine bodyPost_ret (v := .agg #[.string s, .int .i64 (p : Int), (.slice ao O.length co), .int .i64 (most : Int), .int .i64 (c : Int), (.slice av Ty.length cv)]) ?_ rfl ?_
        · simp [results, Tryz.results43, go_sem, r0, r1, r2, r3, r4, r5]
        · exact (HEND _ _ _ _ _ _).out
/-- The model's unpacking, at every argument. -/
theorem l08Inflate_any (s : ByteArray) (most : Int) (w : World) (hs : s.size ≤ 1048576) :
    Calls Tryz.prog 43 #[.string s, .int .i64 most] w (InfPost w s most (inflateE s most)) := by
  unfold inflateE
  by_cases h : s.size ≤ 12000 ∧ 0 ≤ most ∧ most ≤ 12000
  · rw [if_pos h]
    obtain ⟨n, rfl⟩ := Int.eq_ofNat_of_zero_le h.2.1
    exact l08Inflate_in s n w h.1 (by omega)
  · rw [if_neg h]
    exact l08Inflate_long s most w hs h
end Go.Proofs.YtbcnlggkoidmmaaGreatDoor
