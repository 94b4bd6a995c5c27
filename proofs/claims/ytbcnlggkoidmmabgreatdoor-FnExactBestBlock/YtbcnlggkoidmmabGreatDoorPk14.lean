/-
  The walk of the document's model of the lengths of type 1.
  The walk of the model's FixedBlock.
  A list of numbers, made.
  'append' of one number onto a list of numbers of the call's own.
  Lists of numbers that came in, as lists; two of them, one behind the other. Nothing here speaks of the program.
  Slices of Runs, by what stands where, and the walks of the laws' helpers over them.
-/
import Derived.Test.YtbcnlggkoidmmabGreatDoorRows
import Derived.Test.YtbcnlggkoidmmabGreatDoorPk01
import Derived.Test.YtbcnlggkoidmmabGreatDoorPk03
import Derived.Test.YtbcnlggkoidmmabGreatDoorPk10
import Derived.Test.YtbcnlggkoidmmabGreatDoorPk02
import Derived.Test.YtbcnlggkoidmmabGreatDoorPk09
import Derived.Test.YtbcnlggkoidmmabGreatDoorPk11
import Derived.Test.YtbcnlggkoidmmabGreatDoorPk12
import Derived.Test.YtbcnlggkoidmmabGreatDoorPk13
import Derived.Test.YtbcnlggkoidmmabGreatDoorPk04
import Derived.WalkKit
import Derived.ProofKit
import Derived.WalkLawsBesides
import Derived.OwnWalk
import Derived.Deep.LoopGhost
import Derived.Deep.AppendLies
import Derived.Below
import Derived.Lib.SmallJoins
import Derived.Laws.MakeOwn
import Derived.Maps.AppendAt
import Derived.Sort.Grow
import Derived.Shelf.SlSortCmp.QuietGrown
namespace Go.Proofs.YtbcnlggkoidmmabGreatDoor
open Go.RowKit Go.Joins InfMath

/-- The first j lengths. -/
def firstJ (f : Nat → Int) (j : Nat) : List Int := (List.range j).map f
theorem firstJ_next (f : Nat → Int) (j : Nat) : firstJ f (j + 1) = firstJ f j ++ [f j] := by simp [firstJ, List.range_succ]
theorem firstJ_length (f : Nat → Int) (j : Nat) : (firstJ f j).length = j := by simp [firstJ]
theorem firstJ_getD (f : Nat → Int) {j i : Nat} (h : i < j) : (firstJ f j).getD i 0 = f i := by simp [firstJ, List.getD_eq_getElem?_getD, List.getElem?_map, List.getElem?_range h]
/-- What the rings have at hand. -/
def FixSt (w w' : World) (v : Value) (j : Nat) : Prop := NumRow w' w.heap.size v (firstJ fixed1 j) ∧ Below w.heap.size w w'
def FixSt2 (w w' : World) (K : Nat) (v v2 : Value) (j : Nat) : Prop := NumRow w' w.heap.size v (firstJ fixed1 288) ∧ NumRow w' K v2 (firstJ fixed2 j) ∧ (∀ k, v.ownBlock = some k → k < K) ∧ Below w.heap.size w w' ∧ w.heap.size ≤ K ∧ K ≤ w'.heap.size

set_option maxHeartbeats 1600000 in
theorem specFixed (w : World) :
    Calls Tryz.prog 25 #[] w fun e w' => ∃ v1 v2 K, e = .returned (.tuple #[v1, v2]) ∧ FixSt2 w w' K v1 v2 32 := by
  have H0 : Hid (FixSt w (w.alloc (.cells #[] 3)) (.slice (some ⟨w.heap.size, 0, none⟩) 0 0) 0) := ⟨NumRow.empty w w.heap.size (Nat.le_refl _), bstart _ _⟩
  go_enter Tryz.func25, Tryz.ntmps25
  go_wp2_with fail
  go_loopg [2, 3] 289 (fun gk v z w' => ∃ j : Nat, j ≤ 288 ∧ z = .int .i64 j ∧ 288 - j ≤ gk ∧ Hid (FixSt w w' v j))
  case atStart => exact ⟨0, Nat.zero_le _, rfl, by omega, H0⟩
  case round =>
    clear H0
    obtain ⟨j, hj, rfl, hk, hS⟩ := hrel
    by_cases hlt : j < 288
    · have dl : decide ((j : Int) < 288) = true := decide_eq_true (by omega)
      have dl2 : (j : Int) < 288 := by omega
      have hs := hS.out.2.size
      have key : ∀ (x : Int), x = fixed1 j → ∀ v1 w1, NumRow w1 w.heap.size v1 (firstJ fixed1 j ++ [x]) → (wr.alloc (.cells #[.int .i64 x] 3)).grownBy w1 u2.ownBlock → Hid (FixSt w w1 v1 (j + 1)) := by
        intro x hx v1 w1 y1 y2
        refine ⟨?_, (bal hS.out.2 _).grown y2 (by simp; omega) (fun q hq => (hS.out.1.lt q hq).1)⟩
        rw [firstJ_next, ← hx]
        exact y1
      have HKEY := hid_of key
      clear key
      by_cases q1 : j < 144
      · have c1 : decide ((144 : Int) ≤ (j : Int)) = false := decide_eq_false (by omega)
        have c2 : ¬ (144 : Int) ≤ (j : Int) := by omega
        have c3 : decide ((256 : Int) ≤ (j : Int)) = false := decide_eq_false (by omega)
        have c4 : ¬ (256 : Int) ≤ (j : Int) := by omega
        go_wp2_with (at_builtin; refine nums_append (S := w.heap.size) (xs := firstJ fixed1 j) (ys := [8]) rfl _ _ rfl rfl (hS.out.1.called (bstart _ _)) (some ⟨wr.heap.size, 0, none⟩) 1 1 rfl rfl (fun ad e => by cases e; exact World.news_of_block (cs := #[.int .i64 (8)]) (t := 3) (fr := (0, 0)) (heap_alloc_new wr _)) (fun h => by cases h) (by rw [firstJ_length]; simp only [List.length_cons, List.length_nil]; omega) (by simp; omega) ?_)
        intro v1 w1 y1 y2
        have HS1 := HKEY.out 8 (by unfold fixed1; rw [if_pos q1]) v1 w1 y1 y2
        clear y1 y2 HKEY hS
        go_wp2_with fail
        go_roundg (288 - (j + 1))
        case measure => omega
        case rel => exact ⟨j + 1, by omega, by go_num, Nat.le_refl _, HS1⟩
      · have c1 : decide ((144 : Int) ≤ (j : Int)) = true := decide_eq_true (by omega)
        have c2 : (144 : Int) ≤ (j : Int) := by omega
        by_cases q2 : j < 256
        · have c3 : decide ((256 : Int) ≤ (j : Int)) = false := decide_eq_false (by omega)
          have c4 : ¬ (256 : Int) ≤ (j : Int) := by omega
          have c5 : decide ((j : Int) < 256) = true := decide_eq_true (by omega)
          have c6 : (j : Int) < 256 := by omega
          go_wp2_with (at_builtin; refine nums_append (S := w.heap.size) (xs := firstJ fixed1 j) (ys := [9]) rfl _ _ rfl rfl (hS.out.1.called (bstart _ _)) (some ⟨wr.heap.size, 0, none⟩) 1 1 rfl rfl (fun ad e => by cases e; exact World.news_of_block (cs := #[.int .i64 (9)]) (t := 3) (fr := (0, 0)) (heap_alloc_new wr _)) (fun h => by cases h) (by rw [firstJ_length]; simp only [List.length_cons, List.length_nil]; omega) (by simp; omega) ?_)
          intro v1 w1 y1 y2
          have HS1 := HKEY.out 9 (by unfold fixed1; rw [if_neg q1, if_pos q2]) v1 w1 y1 y2
          clear y1 y2 HKEY hS
          go_wp2_with fail
          go_roundg (288 - (j + 1))
          case measure => omega
          case rel => exact ⟨j + 1, by omega, by go_num, Nat.le_refl _, HS1⟩
        · have c3 : decide ((256 : Int) ≤ (j : Int)) = true := decide_eq_true (by omega)
          have c4 : (256 : Int) ≤ (j : Int) := by omega
          have c5 : decide ((j : Int) < 256) = false := decide_eq_false (by omega)
          have c6 : ¬ (j : Int) < 256 := by omega
          by_cases q3 : j < 280
          · have c7 : decide ((j : Int) < 280) = true := decide_eq_true (by omega)
            have c8 : (j : Int) < 280 := by omega
            go_wp2_with (at_builtin; refine nums_append (S := w.heap.size) (xs := firstJ fixed1 j) (ys := [7]) rfl _ _ rfl rfl (hS.out.1.called (bstart _ _)) (some ⟨wr.heap.size, 0, none⟩) 1 1 rfl rfl (fun ad e => by cases e; exact World.news_of_block (cs := #[.int .i64 (7)]) (t := 3) (fr := (0, 0)) (heap_alloc_new wr _)) (fun h => by cases h) (by rw [firstJ_length]; simp only [List.length_cons, List.length_nil]; omega) (by simp; omega) ?_)
            intro v1 w1 y1 y2
            have HS1 := HKEY.out 7 (by unfold fixed1; rw [if_neg q1, if_neg q2, if_pos q3]) v1 w1 y1 y2
            clear y1 y2 HKEY hS
            go_wp2_with fail
            go_roundg (288 - (j + 1))
            case measure => omega
            case rel => exact ⟨j + 1, by omega, by go_num, Nat.le_refl _, HS1⟩
          · have c7 : decide ((j : Int) < 280) = false := decide_eq_false (by omega)
            have c8 : ¬ (j : Int) < 280 := by omega
            go_wp2_with (at_builtin; refine nums_append (S := w.heap.size) (xs := firstJ fixed1 j) (ys := [8]) rfl _ _ rfl rfl (hS.out.1.called (bstart _ _)) (some ⟨wr.heap.size, 0, none⟩) 1 1 rfl rfl (fun ad e => by cases e; exact World.news_of_block (cs := #[.int .i64 (8)]) (t := 3) (fr := (0, 0)) (heap_alloc_new wr _)) (fun h => by cases h) (by rw [firstJ_length]; simp only [List.length_cons, List.length_nil]; omega) (by simp; omega) ?_)
            intro v1 w1 y1 y2
            have HS1 := HKEY.out 8 (by unfold fixed1; rw [if_neg q1, if_neg q2, if_neg q3]) v1 w1 y1 y2
            clear y1 y2 HKEY hS
            go_wp2_with fail
            go_roundg (288 - (j + 1))
            case measure => omega
            case rel => exact ⟨j + 1, by omega, by go_num, Nat.le_refl _, HS1⟩
    · obtain rfl : j = 288 := by omega
      have dl : decide (((288 : Nat) : Int) < 288) = false := decide_eq_false (by omega)
      have HS2 : Hid (FixSt2 w (wr.alloc (.cells #[] 3)) wr.heap.size u2 (.slice (some ⟨wr.heap.size, 0, none⟩) 0 0) 0) := ⟨hS.out.1.called (bstart _ _), NumRow.empty wr wr.heap.size (Nat.le_refl _), fun k hk => (hS.out.1.lt k hk).2, bal hS.out.2 _, hS.out.2.size, by simp⟩
      have hKs : wr.heap.size ≤ (wr.alloc (.cells #[] 3)).heap.size := by simp
      clear hS
      go_wp2_with fail
      generalize wr.alloc (.cells #[] 3) = W2 at HS2 hKs
      generalize wr.heap.size = K at HS2 hKs
      go_loopg [5, 6] 33 (fun gk v z w' => ∃ j : Nat, j ≤ 32 ∧ z = .int .i64 j ∧ 32 - j ≤ gk ∧ Hid (FixSt2 w w' K u2 v j))
      case atStart => exact ⟨0, Nat.zero_le _, rfl, by omega, HS2⟩
      case round =>
        clear HS2
        obtain ⟨j, hj, rfl, hk, hS⟩ := hrel
        by_cases hlt : j < 32
        · have dl : decide ((j : Int) < 32) = true := decide_eq_true (by omega)
          have dl2 : (j : Int) < 32 := by omega
          have hs := hS.out.2.2.2.1.size
          have hb2 := hS.out.2.2.2.2.2
          go_wp2_with (at_builtin; refine nums_append (S := K) (xs := firstJ fixed2 j) (ys := [5]) rfl _ _ rfl rfl (hS.out.2.1.called (bstart _ _)) (some ⟨wr.heap.size, 0, none⟩) 1 1 rfl rfl (fun ad e => by cases e; exact World.news_of_block (cs := #[.int .i64 (5)]) (t := 3) (fr := (0, 0)) (heap_alloc_new wr _)) (fun h => by cases h) (by rw [firstJ_length]; simp only [List.length_cons, List.length_nil]; omega) (by simp; omega) ?_)
          intro v1 w1 y1 y2
          have HS1 : Hid (FixSt2 w w1 K u2 v1 (j + 1)) := by
            refine ⟨World.ownsRow.kept (hS.out.1.called (bstart _ _)) y2 ?_, ?_, hS.out.2.2.1, (bal hS.out.2.2.2.1 _).grown y2 (by simp; omega) (fun q hq => Nat.le_trans hS.out.2.2.2.2.1 (World.ownsRow.lt hS.out.2.1 q hq).1), hS.out.2.2.2.2.1, by have := y2.size; simp at this; omega⟩
            · cases e : u2.ownBlock with
              | none => exact .inl rfl
              | some k =>
                refine .inr (fun e1 => ?_)
                have h1 := hS.out.2.2.1 k e
                have h2 := (World.ownsRow.lt hS.out.2.1 k e1.symm).1
                omega
            · rw [firstJ_next]
              exact y1
          clear y1 y2 hS
          go_wp2_with fail
          go_roundg (32 - (j + 1))
          case measure => omega
          case rel => exact ⟨j + 1, by omega, by go_num, Nat.le_refl _, HS1⟩
        · obtain rfl : j = 32 := by omega
          have dl : decide (((32 : Nat) : Int) < 32) = false := decide_eq_false (by omega)
          go_wp2_with fail
          go_ret2
          exact ⟨u2, u5, K, rfl, hS.out⟩

end Go.Proofs.YtbcnlggkoidmmabGreatDoor

namespace Go.Proofs.YtbcnlggkoidmmabGreatDoor
open Go.RowKit Go.Joins OutMath InfMath TokMath TrimMath BlockMath PartMath BodyMath

theorem came_firstJ {w : World} {S : Nat} {a : Option Addr} {n c : Nat} {f : Nat → Int} (h : NumRow w S (.slice a n c) (firstJ f n)) : Came w a n f := by
  rcases sl_of_num h (firstJ_length f n).symm with q | ⟨g, e, ho⟩
  · exact .inl q
  · subst e
    exact (ho.congr fun i hi => firstJ_getD f hi).sl.came
/-- A block under way: the record in block B, the answer's own cell behind the first box. -/
def BkEnd (w X : World) (B : Nat) (st : Option (ByteArray × Nat)) : Prop := Below w.heap.size w X ∧ X.heap[w.heap.size + 1]? = some (.cells #[.string ⟨#[]⟩, .int .i64 0] 27 (0, 0)) ∧ OS X B st ∧ w.heap.size + 1 ≠ B ∧ w.heap.size ≤ B
theorem BkEnd.put {w X Y : World} {B : Nat} {st st' : Option (ByteArray × Nat)} (h : BkEnd w X B st) (hO : OS Y B st') (hg : X.grownBy Y (some B)) : BkEnd w Y B st' :=
  ⟨h.1.grown hg h.1.size (fun k hk => by cases hk; exact h.2.2.2.2), (hg.block _ (block_lt h.2.1) (fun e => h.2.2.2.1 (Option.some.inj e))).trans h.2.1, hO, h.2.2.2⟩
theorem BkEnd.called {w X Y : World} {B : Nat} {st : Option (ByteArray × Nat)} (h : BkEnd w X B st) (hb : Below X.heap.size X Y) : BkEnd w Y B st :=
  ⟨bnext h.1 hb, (hb.block _ (block_lt h.2.1)).trans h.2.1, h.2.2.1.called hb, h.2.2.2⟩
theorem BkEnd.start {w w1 : World} {s1 : ByteArray} {c1 : Int} {st : Option (ByteArray × Nat)} (hW : Below w.heap.size w w1) (hR : w1.heap[w.heap.size + 1]? = some (.cells #[.string ⟨#[]⟩, .int .i64 0] 27 (0, 0))) (hst : ∀ o, st = some o → s1 = o.1 ∧ c1 = (o.2 : Int) ∧ outB o.1 o.2 = true) :
    BkEnd w (w1.alloc (.cells #[.string s1, .int .i64 c1, .bool st.isNone] 45)) w1.heap.size st :=
  ⟨bal hW _, ((bstart w1 _).block _ (block_lt hR)).trans hR, ⟨s1, c1, heap_alloc_new w1 _, hst⟩, by have := block_lt hR; omega, hW.size⟩

set_option maxRecDepth 100000 in
set_option maxHeartbeats 6400000 in
theorem specFixedBlock (s : ByteArray) (c : Int) (a : Option Addr) (cp : Nat) (L : List Tok) (last : Bool) (w : World) (hs : s.size ≤ maxLen) (hc1 : -9223372036854775808 ≤ c) (hc2 : c ≤ 9223372036854775807) (hC : TCame w a L.length (fun j => L.getD j (0, 0, 0))) (hL : L.length ≤ 1048576) :
    Calls Tryz.prog 13 #[.agg #[.string s, .int .i64 c], .slice a L.length cp, .bool last] w fun e w' => e = .returned (blkAns (fixedOut s c L last)) ∧ Below w.heap.size w w' := by
  have hW0 : Below w.heap.size w ((w.alloc (.cells #[.string s, .int .i64 c] 27)).alloc (.cells #[.string ⟨#[]⟩, .int .i64 0] 27)) := bal (bstart _ _) _
  have hR0 := heap_second2 w (.cells #[.string s, .int .i64 c] 27) (.cells #[.string ⟨#[]⟩, .int .i64 0] 27)
  have hB0 := heap_two w (.cells #[.string s, .int .i64 c] 27) (.cells #[.string ⟨#[]⟩, .int .i64 0] 27)
  generalize hX : (w.alloc (.cells #[.string s, .int .i64 c] 27)).alloc (.cells #[.string ⟨#[]⟩, .int .i64 0] 27) = X at hW0 hR0 hB0
  have hok := specTokensOk a cp L X (hC.called hW0) hL
  have HX := hid_of hX
  have HC := hid_of hC
  clear hC hX
  by_cases hR : TokensRight L
  · rw [decide_eq_true hR] at hok
    have e : fixedOut s c L last = ((outSt s c).bind fun o => bitsOut o (headBits 1 last)).bind fun o => bitsOut o (partBits (bodyP fixed1 288 fixed2 32 L)) := by
      unfold fixedOut bodyBits
      rw [if_pos hR, bind_bits _ _ (headBits_01 1 last)]
    have hH := fun w => specHead s c 1 last w hs hc1 hc2 (by omega)
    rw [e]
    generalize ((outSt s c).bind fun o => bitsOut o (headBits 1 last)) = st at hH ⊢
    have HOK := hid_of (fixed_body hR.2)
    have h12 := hR.1
    have HR0 := hid_of hR0
    have HB0 := hid_of hB0
    have HW0 := hid_of hW0
    clear e hR hR0 hB0 hW0
    go_enter Tryz.func13, Tryz.ntmps13
    go_wp2_with fail
    rw [HX.out]
    refine hok.mono ?_
    rintro e w1 ⟨rfl, hB1⟩
    clear hok
    have r0 := lay_called hB1 HB0.out
    have c0 : w1.cell? ⟨w.heap.size, 0, none⟩ = some (.string s) := (cell_of_block r0 0).trans rfl
    have c1 : w1.cell? ⟨w.heap.size, 1, none⟩ = some (.int .i64 c) := (cell_of_block r0 1).trans rfl
    have HR1 := hid_of (lay_called hB1 HR0.out)
    have HW1 := hid_of (bnext HW0.out hB1)
    clear r0 hB1 HR0 HB0 HW0 HX
    go_wp2_with fail
    refine (hH _).mono ?_
    rintro e w2 ⟨s1, c1', rfl, hst, hB2⟩
    clear hH c0 c1
    have HE2 := hid_of (BkEnd.start (bnext HW1.out hB2) (lay_called hB2 HR1.out) hst)
    clear hst hB2 HR1 HW1
    go_wp2_with fail
    refine (specFixed _).mono ?_
    rintro e w3 ⟨v1, v2, K0, rfl, r1, r2, _, b1, _, hK0⟩
    obtain ⟨a1, k1, hv1, _⟩ := r1.form
    obtain ⟨a2, k2, hv2, _⟩ := r2.form
    rw [firstJ_length] at hv1 hv2
    subst hv1
    subst hv2
    have HE3 := hid_of (HE2.out.called b1)
    have HF := hid_of (And.intro (came_firstJ r1) (came_firstJ r2))
    clear r1 r2 b1 hK0 HE2
    go_wp2_with fail
    refine (specBody a a1 a2 cp k1 k2 fixed1 fixed2 288 32 L w3 (HC.out.called HE3.out.1) HF.out.1 HF.out.2 h12 HOK.out).mono ?_
    rintro e w4 ⟨v, rfl, hown, hB4⟩
    obtain ⟨a4, k4, rfl, _, _, _, hPC, _⟩ := pcame_of_own hown rfl
    have HE4 := hid_of (HE3.out.called hB4)
    have HPC := hid_of hPC
    have hlen : (bodyP fixed1 288 fixed2 32 L).length ≤ 1000000 := by
      unfold bodyP
      have := toksP_length (f1 := fixed1) (n1 := 288) (f2 := fixed2) (n2 := 32) L
      rw [List.length_append, List.length_singleton]
      omega
    clear hown hB4 HE3 HF hPC
    go_wp2_with fail
    refine (l09All_any _ st a4 k4 _ w4 HE4.out.2.2.1 HPC.out HOK.out.bodyR hlen).mono ?_
    rintro e w5 ⟨rfl, hO5, hg5⟩
    have HE5 := hid_of (HE4.out.put hO5 hg5)
    clear hO5 hg5 HE4 HPC
    obtain ⟨st5, h5⟩ : ∃ st5, st5 = st.bind fun o => bitsOut o (partBits (bodyP fixed1 288 fixed2 32 L)) := ⟨_, rfl⟩
    rw [← h5] at HE5
    have H5 := hid_of h5
    clear h5
    obtain ⟨s5, c5, hb5, hs5⟩ := HE5.out.2.2.1
    obtain ⟨e0, e1, e2⟩ := hb5.cells
    have hr := HE5.out.2.1
    have r0 : w5.cell? ⟨w.heap.size + 1, 0, none⟩ = some (.string ⟨#[]⟩) := (cell_of_block hr 0).trans rfl
    have r1 : w5.cell? ⟨w.heap.size + 1, 1, none⟩ = some (.int .i64 0) := (cell_of_block hr 1).trans rfl
    have rf : ∀ q, w5.frozen? ⟨w.heap.size + 1, q, none⟩ = false := fun q => by simp [World.frozen?, hr]
    have rl := block_lt hr
    have bl := hb5.lt
    have HST := hid_of hs5
    clear hr hb5 hs5
    cases st5 with
    | none =>
      simp only [Option.isNone_none] at e2
      go_wp2_with fail
      refine bodyPost_ret (v := .tuple #[.agg #[.string ⟨#[]⟩, .int .i64 0], .bool false]) ?_ rfl ⟨by rw [← H5.out]; rfl, two_below HE5.out.1 (Nat.le_succ _) _ _⟩
      simp [results, Tryz.results13, go_sem, r0, r1]
    | some o =>
      obtain ⟨rfl, rfl, _⟩ := HST.out o rfl
      simp only [Option.isNone_some] at e2
      go_wp2_with fail
      refine bodyPost_ret (v := .tuple #[.agg #[.string o.1, .int .i64 (o.2 : Int)], .bool true]) ?_ rfl ⟨by rw [← H5.out]; rfl, two_below HE5.out.1 (Nat.le_succ _) _ _⟩
      simp [results, Tryz.results13, go_sem, r0, r1]
  · rw [decide_eq_false hR] at hok
    have e : fixedOut s c L last = none := if_neg hR
    rw [e]
    have HR0 := hid_of hR0
    have HW0 := hid_of hW0
    clear hR0 hB0 hW0
    go_enter Tryz.func13, Tryz.ntmps13
    go_wp2_with fail
    rw [HX.out]
    refine hok.mono ?_
    rintro e w1 ⟨rfl, hB1⟩
    have hr := lay_called hB1 HR0.out
    have HW1 := hid_of (bnext HW0.out hB1)
    have r0 : w1.cell? ⟨w.heap.size + 1, 0, none⟩ = some (.string ⟨#[]⟩) := (cell_of_block hr 0).trans rfl
    have r1 : w1.cell? ⟨w.heap.size + 1, 1, none⟩ = some (.int .i64 0) := (cell_of_block hr 1).trans rfl
    have rf : ∀ q, w1.frozen? ⟨w.heap.size + 1, q, none⟩ = false := fun q => by simp [World.frozen?, hr]
    have rl := block_lt hr
    clear hr hB1 hok HX
    go_wp2_with fail
    refine bodyPost_ret (v := .tuple #[.agg #[.string ⟨#[]⟩, .int .i64 0], .bool false]) ?_ rfl ⟨rfl, two_below HW1.out (Nat.le_succ _) _ _⟩
    simp [results, Tryz.results13, go_sem, r0, r1]
end Go.Proofs.YtbcnlggkoidmmabGreatDoor

namespace Go.Proofs.YtbcnlggkoidmmabGreatDoor
open Go.RowKit Go.Joins

theorem info_made : (Tryz.prog.info? 3).map (fun i => (i.zero, i.size, i.bytes)) = some (some (.int .i64 0), 1, 8) := by kernel_rfl

theorem make_ints (w : World) (n : Nat) (hn : n ≤ 1048576) : (Instr.makeSlice 51 (.int .i64 n) (.int .i64 n)).run Tryz.prog w = .ok (.slice (some ⟨w.heap.size, 0, none⟩) n n) (w.alloc (.cells (madeCells #[Value.int .i64 0] n) 3)) := by
  obtain ⟨i0, hi0, hz0, hz1, hz2⟩ := info_parts info_made
  have h := run_make (P := Tryz.prog) w 51 3 i0 (.int .i64 0) Tryz.underlying51 hi0 hz0 .i64 .i64 n n (by omega) (by omega) (by rw [hz2]; omega) (by omega)
  rw [hz1, Int.toNat_natCast, Nat.mul_one] at h
  exact h

end Go.Proofs.YtbcnlggkoidmmabGreatDoor

namespace Go.Proofs.YtbcnlggkoidmmabGreatDoor
open Go.RowKit Go.Joins

theorem nums_append1 {w : World} {S : Nat} {v : Value} {xs : List Int} {ops : Array Oper} {rest : List Oper} {o : Oper} {a : Act} {Q : Exit → Act → World → Prop} (hgd : o.guard = none) (s x : Operand)
    (ho : o.op = .call { callee := .builtin .append, args := #[s, x], argTypes := #[51, 51] }) (hs : a.eval s = v) (h : NumRow w S v xs) (g c : Nat) (y : Int) (hx : a.eval x = .slice (some ⟨g, 0, none⟩) 1 c) (hy : w.cell? ⟨g, 0, none⟩ = some (.int .i64 y))
    (h63 : xs.length ≤ 100000) (hS : S ≤ w.heap.size)
    (hK : ∀ v' w', NumRow w' S v' (xs ++ [y]) → w.grownBy w' v.ownBlock → (v'.ownBlock = v.ownBlock ∨ v'.ownBlock = some w.heap.size) → wpList Tryz.prog ops Q rest (a.put o.dst v') w') : wpList Tryz.prog ops Q (o :: rest) a w := by
  obtain ⟨i0, hi0, hz0, hz1, hz2⟩ := info_parts info_int
  refine wpList_append_own_at w hgd s x _ ho S 3 i0 _ 1 8 Tryz.underlying51 hi0 hz0 hz1 hz2 rfl (by omega) v _ _ hs h ⟨g, 0, none⟩ 1 c (ivals [y]) hx rfl (fun j u hu => ?_) (ivals_one _) (by unfold maxLen; omega) (by omega) hS ?_
  · cases j with
    | zero =>
      simp [ivals] at hu
      rw [← hu]
      exact hy
    | succ j => simp [ivals] at hu
  · intro v' w' hown hg _ hk
    refine hK v' w' ?_ hg hk
    show w'.ownsRow S 3 1 v' (xs ++ [y]).length (ivals (xs ++ [y]))
    rw [List.length_append, ivals_app]
    exact hown
end Go.Proofs.YtbcnlggkoidmmabGreatDoor

namespace Go.Proofs.YtbcnlggkoidmmabGreatDoor
open Go.RowKit Go.Joins InfMath

theorem came_ivals {w : World} {a : Option Addr} {n : Nat} {f : Nat → Int} (h : Came w a n f) {ad : Addr} (ha : a = some ad) : ∀ j u, (ivals (firstJ f n))[j]? = some u → w.cell? (ad.add j) = some u := by
  intro j u hu
  have hj : j < n := by
    rcases Nat.lt_or_ge j n with k | k
    · exact k
    · rw [List.getElem?_eq_none (by rw [ivals_length, firstJ_length]; exact k)] at hu; cases hu
  rw [ivals_get _ j (by rw [firstJ_length]; exact hj), firstJ_getD f hj] at hu
  rcases h with q | ⟨g, off, e, hg, hc⟩
  · omega
  · rw [ha] at e
    obtain rfl := Option.some.inj e
    rw [Addr.add_lit, hc j hj]
    exact hu
theorem came_cat {W : World} {S : Nat} {a : Option Addr} {c n1 n2 : Nat} {f1 f2 : Nat → Int} (h : NumRow W S (.slice a (n1 + n2) c) (firstJ f1 n1 ++ firstJ f2 n2)) : Came W a (n1 + n2) (fun i => if i < n1 then f1 i else f2 (i - n1)) := by
  have hs := sl_of_num h (by rw [List.length_append, firstJ_length, firstJ_length])
  rcases hs with q | ⟨g, rfl, ho⟩
  · exact .inl q
  · refine (ho.congr fun i hi => ?_).sl.came
    by_cases q : i < n1
    · rw [if_pos q, List.getD_eq_getElem?_getD, List.getElem?_append_left (by rw [firstJ_length]; exact q), ← List.getD_eq_getElem?_getD, firstJ_getD f1 q]
    · rw [if_neg q, List.getD_eq_getElem?_getD, List.getElem?_append_right (by rw [firstJ_length]; omega), firstJ_length, ← List.getD_eq_getElem?_getD, firstJ_getD f2 (by omega)]
end Go.Proofs.YtbcnlggkoidmmabGreatDoor

namespace Go.Proofs.YtbcnlggkoidmmabGreatDoor
open Go.RowKit Go.Joins Go.Sort

/-- A slice of Runs that came in. -/
def DCame (w : World) (a : Option Addr) (n : Nat) (F : Nat → Int × Int) : Prop :=
  n = 0 ∨ ∃ g off, a = some ⟨g, off, none⟩ ∧ g < w.heap.size ∧ ∀ j, j < n → w.cell? ⟨g, off + j * 2, none⟩ = some (.int .i64 (F j).1) ∧ w.cell? ⟨g, off + j * 2 + 1, none⟩ = some (.int .i64 (F j).2)
theorem DCame.called {w w' : World} {a : Option Addr} {n : Nat} {F : Nat → Int × Int} (h : DCame w a n F) (hb : Below w.heap.size w w') : DCame w' a n F := by
  rcases h with h | ⟨g, off, ha, hg, hc⟩
  · exact .inl h
  · exact .inr ⟨g, off, ha, Nat.lt_of_lt_of_le hg hb.size, fun j hj => ⟨(hb.cell (p := ⟨g, off + j * 2, none⟩) hg).trans (hc j hj).1, (hb.cell (p := ⟨g, off + j * 2 + 1, none⟩) hg).trans (hc j hj).2⟩⟩
theorem DCame.grown {w w' : World} {a : Option Addr} {n B : Nat} {F : Nat → Int × Int} {row : Option Nat} (h : DCame w a n F) (hB : ∀ g off, a = some ⟨g, off, none⟩ → g < B) (hr : ∀ k, row = some k → B ≤ k) (hg : w.grownBy w' row) : DCame w' a n F := by
  rcases h with h | ⟨g, off, ha, hlt, hc⟩
  · exact .inl h
  · have hne : some g ≠ row := fun e => by have h1 := hB g off ha; have h2 := hr g e.symm; omega
    have hb := hg.block g hlt hne
    exact .inr ⟨g, off, ha, Nat.lt_of_lt_of_le hlt hg.size, fun j hj => ⟨(World.cell?_of_block (w := w) hb).trans (hc j hj).1, (World.cell?_of_block (w := w) hb).trans (hc j hj).2⟩⟩
/-- The slice at the head of block g is the call's own. -/
def DOwn (w : World) (base g n : Nat) (F : Nat → Int × Int) : Prop := base ≤ g ∧ ∃ cur, w.heap[g]? = some (.cells cur 63 (0, 0)) ∧ n * 2 ≤ cur.size ∧ ∀ j, j < n → cur[j * 2]? = some (.int .i64 (F j).1) ∧ cur[j * 2 + 1]? = some (.int .i64 (F j).2)
theorem DOwn.lt {w : World} {base g n : Nat} {F : Nat → Int × Int} (h : DOwn w base g n F) : g < w.heap.size := by
  obtain ⟨_, cur, h2, _⟩ := h
  exact block_lt h2
theorem DOwn.keep {w w' : World} {base g n : Nat} {F : Nat → Int × Int} (h : DOwn w base g n F) (hk : w'.heap[g]? = w.heap[g]?) : DOwn w' base g n F := by
  obtain ⟨h1, cur, h2, h3⟩ := h
  exact ⟨h1, cur, hk.trans h2, h3⟩
theorem DOwn.called {w w' : World} {base g n : Nat} {F : Nat → Int × Int} (h : DOwn w base g n F) (hb : Below w.heap.size w w') : DOwn w' base g n F := h.keep (hb.block g h.lt)
theorem DOwn.came {w : World} {base g n : Nat} {F : Nat → Int × Int} (h : DOwn w base g n F) : DCame w (some ⟨g, 0, none⟩) n F := by
  refine .inr ⟨g, 0, rfl, h.lt, fun j hj => ?_⟩
  obtain ⟨_, cur, h2, h3, h4⟩ := h
  rw [Nat.zero_add, cell_of_block h2, cell_of_block h2]
  exact h4 j hj
theorem DOwn.free {w : World} {base g n : Nat} {F : Nat → Int × Int} (h : DOwn w base g n F) (k : Nat) : w.frozen? ⟨g, k, none⟩ = false := by
  obtain ⟨_, cur, h2, _⟩ := h
  simp [World.frozen?, h2]
/-- F with x at the place j. -/
def updD (F : Nat → Int × Int) (j : Nat) (x : Int × Int) : Nat → Int × Int := fun i => if i = j then x else F i
theorem DOwn.set {w : World} {base g n : Nat} {F : Nat → Int × Int} (h : DOwn w base g n F) (j : Nat) (hj : j < n) (x y : Int) : DOwn ((w.setCell ⟨g, j * 2, none⟩ (.int .i64 x)).setCell ⟨g, j * 2 + 1, none⟩ (.int .i64 y)) base g n (updD F j (x, y)) := by
  obtain ⟨h1, cur, h2, h3, h4⟩ := h
  refine ⟨h1, (cur.setIfInBounds (j * 2) (.int .i64 x)).setIfInBounds (j * 2 + 1) (.int .i64 y), ?_, by simpa using h3, fun i hi => ?_⟩
  · simp [World.setCell, Array.getElem?_modify, h2]
  · obtain ⟨k1, k2⟩ := h4 i hi
    unfold updD
    by_cases e : i = j
    · subst e
      rw [if_pos rfl]
      refine ⟨?_, ?_⟩
      · rw [Array.getElem?_setIfInBounds_ne (by omega), Array.getElem?_setIfInBounds_self_of_lt (by omega)]
      · rw [Array.getElem?_setIfInBounds_self_of_lt (by simp; omega)]
    · rw [if_neg e]
      refine ⟨?_, ?_⟩
      · rw [Array.getElem?_setIfInBounds_ne (by omega), Array.getElem?_setIfInBounds_ne (by omega)]; exact k1
      · rw [Array.getElem?_setIfInBounds_ne (by omega), Array.getElem?_setIfInBounds_ne (by omega)]; exact k2
theorem DOwn.congr {w : World} {base g n : Nat} {F G : Nat → Int × Int} (h : DOwn w base g n F) (e : ∀ j, j < n → F j = G j) : DOwn w base g n G := by
  obtain ⟨h1, cur, h2, h3, h4⟩ := h
  exact ⟨h1, cur, h2, h3, fun j hj => by rw [← e j hj]; exact h4 j hj⟩
/-- A slice that was handed back. -/
def DSL (w : World) (base : Nat) (a : Option Addr) (n : Nat) (F : Nat → Int × Int) : Prop := n = 0 ∨ ∃ g, a = some ⟨g, 0, none⟩ ∧ DOwn w base g n F
theorem DSL.came {w : World} {base : Nat} {a : Option Addr} {n : Nat} {F : Nat → Int × Int} (h : DSL w base a n F) : DCame w a n F := by
  rcases h with h | ⟨g, rfl, h⟩
  · exact .inl h
  · exact h.came
theorem DSL.called {w w' : World} {base : Nat} {a : Option Addr} {n : Nat} {F : Nat → Int × Int} (h : DSL w base a n F) (hb : Below w.heap.size w w') : DSL w' base a n F := by
  rcases h with h | ⟨g, rfl, h⟩
  · exact .inl h
  · exact .inr ⟨g, rfl, h.called hb⟩
/-- What a call owns, by its places. -/
theorem dsl_of_own {w : World} {S n : Nat} {v : Value} {L : List (Int × Int)} (h : w.ownsRow S 63 2 v n (dcells L)) (hn : n = L.length) : ∃ a c, v = .slice a L.length c ∧ DSL w S a L.length (fun j => L.getD j (0, 0)) := by
  subst hn
  rcases h.2 with ⟨rfl, h0⟩ | ⟨g, cap, cur, rfl, hb, hg, hc, hm, hs, ht⟩
  · exact ⟨none, 0, by rw [h0], .inl h0⟩
  · refine ⟨_, cap, rfl, .inr ⟨g, rfl, hb, cur, hg, by omega, fun j hj => ?_⟩⟩
    have k1 := h.cellAt (j * 2) (by omega)
    have k2 := h.cellAt (j * 2 + 1) (by omega)
    rw [cell_of_block hg] at k1 k2
    rw [k1, k2]
    exact ⟨dcells_get0 L j hj, dcells_get1 L j hj⟩

theorem DOwn.grown {w w' : World} {base g n : Nat} {F : Nat → Int × Int} {row : Option Nat} (h : DOwn w base g n F) (hg : w.grownBy w' row) (hne : row ≠ some g) : DOwn w' base g n F := h.keep (hg.block g h.lt (Ne.symm hne))

end Go.Proofs.YtbcnlggkoidmmabGreatDoor
