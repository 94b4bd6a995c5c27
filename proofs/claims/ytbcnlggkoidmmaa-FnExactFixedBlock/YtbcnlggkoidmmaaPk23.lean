/-
  The walk of the document's model of the lengths of type 1.
  The walk of the model's FixedBlock.
-/
import Derived.Test.YtbcnlggkoidmmaaRows
import Derived.Test.YtbcnlggkoidmmaaPk01
import Derived.Test.YtbcnlggkoidmmaaPk09
import Derived.Test.YtbcnlggkoidmmaaPk12
import Derived.Test.YtbcnlggkoidmmaaPk07
import Derived.Test.YtbcnlggkoidmmaaPk02
import Derived.Test.YtbcnlggkoidmmaaPk08
import Derived.Test.YtbcnlggkoidmmaaPk04
import Derived.Test.YtbcnlggkoidmmaaPk13
import Derived.Test.YtbcnlggkoidmmaaPk16
import Derived.Test.YtbcnlggkoidmmaaPk17
import Derived.Test.YtbcnlggkoidmmaaPk18
import Derived.Test.YtbcnlggkoidmmaaPk21
import Derived.Test.YtbcnlggkoidmmaaPk22
import Derived.Test.YtbcnlggkoidmmaaPk10
import Derived.WalkKit
import Derived.ProofKit
import Derived.WalkLawsBesides
import Derived.OwnWalk
import Derived.Deep.LoopGhost
import Derived.Deep.AppendLies
import Derived.Below
import Derived.Lib.SmallJoins
namespace Go.Proofs.Ytbcnlggkoidmmaa
open Go.RowKit Go.Joins InfMath

/-- The first j lengths. -/
def firstJ (f : Nat → Int) (j : Nat) : List Int := (List.range j).map f
theorem firstJ_next (f : Nat → Int) (j : Nat) : firstJ f (j + 1) = firstJ f j ++ [f j] := by simp [firstJ, List.range_succ]
theorem firstJ_length (f : Nat → Int) (j : Nat) : (firstJ f j).length = j := by simp [firstJ]
theorem firstJ_getD (f : Nat → Int) {j i : Nat} (h : i < j) : (firstJ f j).getD i 0 = f i := by simp [firstJ, List.getD_eq_getElem?_getD, List.getElem?_map, List.getElem?_range h]
/-- What the rings have at hand. -/
def FixSt (w w' : World) (v : Value) (j : Nat) : Prop := NumRow w' w.heap.size v (firstJ fixed1 j) ∧ Below w.heap.size w w'
def FixSt2 (w w' : World) (K : Nat) (v v2 : Value) (j : Nat) : Prop := NumRow w' w.heap.size v (firstJ fixed1 288) ∧ NumRow w' K v2 (firstJ fixed2 j) ∧ (∀ k, v.ownBlock = some k → k < K) ∧ Below w.heap.size w w' ∧ w.heap.size ≤ K ∧ K ≤ w'.heap.size

set_option maxHeartbeats 1600000 in
theorem specFixed (w : World) :
    Calls Try.prog 40 #[] w fun e w' => ∃ v1 v2 K, e = .returned (.tuple #[v1, v2]) ∧ FixSt2 w w' K v1 v2 32 := by
  have H0 : Hid (FixSt w (w.alloc (.cells #[] 3)) (.slice (some ⟨w.heap.size, 0, none⟩) 0 0) 0) := ⟨NumRow.empty w w.heap.size (Nat.le_refl _), bstart _ _⟩
  go_enter Try.func40, Try.ntmps40
  go_wp2_with fail
  go_loopg [2, 3] 289 (fun gk v z w' => ∃ j : Nat, j ≤ 288 ∧ z = .int .i64 j ∧ 288 - j ≤ gk ∧ Hid (FixSt w w' v j))
  case atStart => exact ⟨0, Nat.zero_le _, rfl, by omega, H0⟩
  case round =>
    clear H0
    obtain ⟨j, hj, rfl, hk, hS⟩ := hrel
    by_cases hlt : j < 288
    · have dl : decide ((j : Int) < 288) = true := decide_eq_true (by omega)
      have dl2 : (j : Int) < 288 := by omega
      have hs := hS.out.2.size
      have key : ∀ (x : Int), x = fixed1 j → ∀ v1 w1, NumRow w1 w.heap.size v1 (firstJ fixed1 j ++ [x]) → (wr.alloc (.cells #[.int .i64 x] 3)).grownBy w1 u2.ownBlock → Hid (FixSt w w1 v1 (j + 1)) := by
        intro x hx v1 w1 y1 y2
        refine ⟨?_, (bal hS.out.2 _).grown y2 (by simp; omega) (fun q hq => (hS.out.1.lt q hq).1)⟩
        rw [firstJ_next, ← hx]
        exact y1
      have HKEY := hid_of key
      clear key
      by_cases q1 : j < 144
      · have c1 : decide ((144 : Int) ≤ (j : Int)) = false := decide_eq_false (by omega)
        have c2 : ¬ (144 : Int) ≤ (j : Int) := by omega
        have c3 : decide ((256 : Int) ≤ (j : Int)) = false := decide_eq_false (by omega)
        have c4 : ¬ (256 : Int) ≤ (j : Int) := by omega
        go_wp2_with (at_builtin; refine nums_append (S := w.heap.size) (xs := firstJ fixed1 j) (ys := [8]) rfl _ _ rfl rfl (hS.out.1.called (bstart _ _)) (some ⟨wr.heap.size, 0, none⟩) 1 1 rfl rfl (fun ad e => by cases e; exact World.news_of_block (cs := #[.int .i64 (8)]) (t := 3) (fr := (0, 0)) (heap_alloc_new wr _)) (fun h => by cases h) (by rw [firstJ_length]; simp only [List.length_cons, List.length_nil]; omega) (by simp; omega) ?_)
        intro v1 w1 y1 y2
        have HS1 := HKEY.out 8 (by unfold fixed1; rw [if_pos q1]) v1 w1 y1 y2
        clear y1 y2 HKEY hS
        go_wp2_with fail
        go_roundg (288 - (j + 1))
        case measure => omega
        case rel => exact ⟨j + 1, by omega, by go_num, Nat.le_refl _, HS1⟩
      · have c1 : decide ((144 : Int) ≤ (j : Int)) = true := decide_eq_true (by omega)
        have c2 : (144 : Int) ≤ (j : Int) := by omega
        by_cases q2 : j < 256
        · have c3 : decide ((256 : Int) ≤ (j : Int)) = false := decide_eq_false (by omega)
          have c4 : ¬ (256 : Int) ≤ (j : Int) := by omega
          have c5 : decide ((j : Int) < 256) = true := decide_eq_true (by omega)
          have c6 : (j : Int) < 256 := by omega
          go_wp2_with (at_builtin; refine nums_append (S := w.heap.size) (xs := firstJ fixed1 j) (ys := [9]) rfl _ _ rfl rfl (hS.out.1.called (bstart _ _)) (some ⟨wr.heap.size, 0, none⟩) 1 1 rfl rfl (fun ad e => by cases e; exact World.news_of_block (cs := #[.int .i64 (9)]) (t := 3) (fr := (0, 0)) (heap_alloc_new wr _)) (fun h => by cases h) (by rw [firstJ_length]; simp only [List.length_cons, List.length_nil]; omega) (by simp; omega) ?_)
          intro v1 w1 y1 y2
          have HS1 := HKEY.out 9 (by unfold fixed1; rw [if_neg q1, if_pos q2]) v1 w1 y1 y2
          clear y1 y2 HKEY hS
          go_wp2_with fail
          go_roundg (288 - (j + 1))
          case measure => omega
          case rel => exact ⟨j + 1, by omega, by go_num, Nat.le_refl _, HS1⟩
        · have c3 : decide ((256 : Int) ≤ (j : Int)) = true := decide_eq_true (by omega)
          have c4 : (256 : Int) ≤ (j : Int) := by omega
          have c5 : decide ((j : Int) < 256) = false := decide_eq_false (by omega)
          have c6 : ¬ (j : Int) < 256 := by omega
          by_cases q3 : j < 280
          · have c7 : decide ((j : Int) < 280) = true := decide_eq_true (by omega)
            have c8 : (j : Int) < 280 := by omega
            go_wp2_with (at_builtin; refine nums_append (S := w.heap.size) (xs := firstJ fixed1 j) (ys := [7]) rfl _ _ rfl rfl (hS.out.1.called (bstart _ _)) (some ⟨wr.heap.size, 0, none⟩) 1 1 rfl rfl (fun ad e => by cases e; exact World.news_of_block (cs := #[.int .i64 (7)]) (t := 3) (fr := (0, 0)) (heap_alloc_new wr _)) (fun h => by cases h) (by rw [firstJ_length]; simp only [List.length_cons, List.length_nil]; omega) (by simp; omega) ?_)
            intro v1 w1 y1 y2
            have HS1 := HKEY.out 7 (by unfold fixed1; rw [if_neg q1, if_neg q2, if_pos q3]) v1 w1 y1 y2
            clear y1 y2 HKEY hS
            go_wp2_with fail
            go_roundg (288 - (j + 1))
            case measure => omega
            case rel => exact ⟨j + 1, by omega, by go_num, Nat.le_refl _, HS1⟩
          · have c7 : decide ((j : Int) < 280) = false := decide_eq_false (by omega)
            have c8 : ¬ (j : Int) < 280 := by omega
            go_wp2_with (at_builtin; refine nums_append (S := w.heap.size) (xs := firstJ fixed1 j) (ys := [8]) rfl _ _ rfl rfl (hS.out.1.called (bstart _ _)) (some ⟨wr.heap.size, 0, none⟩) 1 1 rfl rfl (fun ad e => by cases e; exact World.news_of_block (cs := #[.int .i64 (8)]) (t := 3) (fr := (0, 0)) (heap_alloc_new wr _)) (fun h => by cases h) (by rw [firstJ_length]; simp only [List.length_cons, List.length_nil]; omega) (by simp; omega) ?_)
            intro v1 w1 y1 y2
            have HS1 := HKEY.out 8 (by unfold fixed1; rw [if_neg q1, if_neg q2, if_neg q3]) v1 w1 y1 y2
            clear y1 y2 HKEY hS
            go_wp2_with fail
            go_roundg (288 - (j + 1))
            case measure => omega
            case rel => exact ⟨j + 1, by omega, by go_num, Nat.le_refl _, HS1⟩
    · obtain rfl : j = 288 := by omega
      have dl : decide (((288 : Nat) : Int) < 288) = false := decide_eq_false (by omega)
      have HS2 : Hid (FixSt2 w (wr.alloc (.cells #[] 3)) wr.heap.size u2 (.slice (some ⟨wr.heap.size, 0, none⟩) 0 0) 0) := ⟨hS.out.1.called (bstart _ _), NumRow.empty wr wr.heap.size (Nat.le_refl _), fun k hk => (hS.out.1.lt k hk).2, bal hS.out.2 _, hS.out.2.size, by simp⟩
      have hKs : wr.heap.size ≤ (wr.alloc (.cells #[] 3)).heap.size := by simp
      clear hS
      go_wp2_with fail
      generalize wr.alloc (.cells #[] 3) = W2 at HS2 hKs
      generalize wr.heap.size = K at HS2 hKs
      go_loopg [5, 6] 33 (fun gk v z w' => ∃ j : Nat, j ≤ 32 ∧ z = .int .i64 j ∧ 32 - j ≤ gk ∧ Hid (FixSt2 w w' K u2 v j))
      case atStart => exact ⟨0, Nat.zero_le _, rfl, by omega, HS2⟩
      case round =>
        clear HS2
        obtain ⟨j, hj, rfl, hk, hS⟩ := hrel
        by_cases hlt : j < 32
        · have dl : decide ((j : Int) < 32) = true := decide_eq_true (by omega)
          have dl2 : (j : Int) < 32 := by omega
          have hs := hS.out.2.2.2.1.size
          have hb2 := hS.out.2.2.2.2.2
          go_wp2_with (at_builtin; refine nums_append (S := K) (xs := firstJ fixed2 j) (ys := [5]) rfl _ _ rfl rfl (hS.out.2.1.called (bstart _ _)) (some ⟨wr.heap.size, 0, none⟩) 1 1 rfl rfl (fun ad e => by cases e; exact World.news_of_block (cs := #[.int .i64 (5)]) (t := 3) (fr := (0, 0)) (heap_alloc_new wr _)) (fun h => by cases h) (by rw [firstJ_length]; simp only [List.length_cons, List.length_nil]; omega) (by simp; omega) ?_)
          intro v1 w1 y1 y2
          have HS1 : Hid (FixSt2 w w1 K u2 v1 (j + 1)) := by
            refine ⟨World.ownsRow.kept (hS.out.1.called (bstart _ _)) y2 ?_, ?_, hS.out.2.2.1, (bal hS.out.2.2.2.1 _).grown y2 (by simp; omega) (fun q hq => Nat.le_trans hS.out.2.2.2.2.1 (World.ownsRow.lt hS.out.2.1 q hq).1), hS.out.2.2.2.2.1, by have := y2.size; simp at this; omega⟩
            · cases e : u2.ownBlock with
              | none => exact .inl rfl
              | some k =>
                refine .inr (fun e1 => ?_)
                have h1 := hS.out.2.2.1 k e
                have h2 := (World.ownsRow.lt hS.out.2.1 k e1.symm).1
                omega
            · rw [firstJ_next]
              exact y1
          clear y1 y2 hS
          go_wp2_with fail
          go_roundg (32 - (j + 1))
          case measure => omega
          case rel => exact ⟨j + 1, by omega, by go_num, Nat.le_refl _, HS1⟩
        · obtain rfl : j = 32 := by omega
          have dl : decide (((32 : Nat) : Int) < 32) = false := decide_eq_false (by omega)
          go_wp2_with fail
          go_ret2
          exact ⟨u2, u5, K, rfl, hS.out⟩

end Go.Proofs.Ytbcnlggkoidmmaa

namespace Go.Proofs.Ytbcnlggkoidmmaa
open Go.RowKit Go.Joins OutMath InfMath TokMath TrimMath BlockMath PartMath BodyMath

theorem came_firstJ {w : World} {S : Nat} {a : Option Addr} {n c : Nat} {f : Nat → Int} (h : NumRow w S (.slice a n c) (firstJ f n)) : Came w a n f := by
  rcases sl_of_num h (firstJ_length f n).symm with q | ⟨g, e, ho⟩
  · exact .inl q
  · subst e
    exact (ho.congr fun i hi => firstJ_getD f hi).sl.came
/-- A block under way: the record in block B, the answer's own cell behind the first box. -/
def BkEnd (w X : World) (B : Nat) (st : Option (ByteArray × Nat)) : Prop := Below w.heap.size w X ∧ X.heap[w.heap.size + 1]? = some (.cells #[.string ⟨#[]⟩, .int .i64 0] 37 (0, 0)) ∧ OS X B st ∧ w.heap.size + 1 ≠ B ∧ w.heap.size ≤ B
theorem BkEnd.put {w X Y : World} {B : Nat} {st st' : Option (ByteArray × Nat)} (h : BkEnd w X B st) (hO : OS Y B st') (hg : X.grownBy Y (some B)) : BkEnd w Y B st' :=
  ⟨h.1.grown hg h.1.size (fun k hk => by cases hk; exact h.2.2.2.2), (hg.block _ (block_lt h.2.1) (fun e => h.2.2.2.1 (Option.some.inj e))).trans h.2.1, hO, h.2.2.2⟩
theorem BkEnd.called {w X Y : World} {B : Nat} {st : Option (ByteArray × Nat)} (h : BkEnd w X B st) (hb : Below X.heap.size X Y) : BkEnd w Y B st :=
  ⟨bnext h.1 hb, (hb.block _ (block_lt h.2.1)).trans h.2.1, h.2.2.1.called hb, h.2.2.2⟩
theorem BkEnd.start {w w1 : World} {s1 : ByteArray} {c1 : Int} {st : Option (ByteArray × Nat)} (hW : Below w.heap.size w w1) (hR : w1.heap[w.heap.size + 1]? = some (.cells #[.string ⟨#[]⟩, .int .i64 0] 37 (0, 0))) (hst : ∀ o, st = some o → s1 = o.1 ∧ c1 = (o.2 : Int) ∧ outB o.1 o.2 = true) :
    BkEnd w (w1.alloc (.cells #[.string s1, .int .i64 c1, .bool st.isNone] 61)) w1.heap.size st :=
  ⟨bal hW _, ((bstart w1 _).block _ (block_lt hR)).trans hR, ⟨s1, c1, heap_alloc_new w1 _, hst⟩, by have := block_lt hR; omega, hW.size⟩

set_option maxRecDepth 100000 in
set_option maxHeartbeats 6400000 in
theorem specFixedBlock (s : ByteArray) (c : Int) (a : Option Addr) (cp : Nat) (L : List Tok) (last : Bool) (w : World) (hs : s.size ≤ maxLen) (hc1 : -9223372036854775808 ≤ c) (hc2 : c ≤ 9223372036854775807) (hC : TCame w a L.length (fun j => L.getD j (0, 0, 0))) (hL : L.length ≤ 1048576) :
    Calls Try.prog 20 #[.agg #[.string s, .int .i64 c], .slice a L.length cp, .bool last] w fun e w' => e = .returned (blkAns (fixedOut s c L last)) ∧ Below w.heap.size w w' := by
  have hW0 : Below w.heap.size w ((w.alloc (.cells #[.string s, .int .i64 c] 37)).alloc (.cells #[.string ⟨#[]⟩, .int .i64 0] 37)) := bal (bstart _ _) _
  have hR0 := heap_second2 w (.cells #[.string s, .int .i64 c] 37) (.cells #[.string ⟨#[]⟩, .int .i64 0] 37)
  have hB0 := heap_two w (.cells #[.string s, .int .i64 c] 37) (.cells #[.string ⟨#[]⟩, .int .i64 0] 37)
  generalize hX : (w.alloc (.cells #[.string s, .int .i64 c] 37)).alloc (.cells #[.string ⟨#[]⟩, .int .i64 0] 37) = X at hW0 hR0 hB0
  have hok := specTokensOk a cp L X (hC.called hW0) hL
  have HX := hid_of hX
  have HC := hid_of hC
  clear hC hX
  by_cases hR : TokensRight L
  · rw [decide_eq_true hR] at hok
    have e : fixedOut s c L last = ((outSt s c).bind fun o => bitsOut o (headBits 1 last)).bind fun o => bitsOut o (partBits (bodyP fixed1 288 fixed2 32 L)) := by
      unfold fixedOut bodyBits
      rw [if_pos hR, bind_bits _ _ (headBits_01 1 last)]
    have hH := fun w => specHead s c 1 last w hs hc1 hc2 (by omega)
    rw [e]
    generalize ((outSt s c).bind fun o => bitsOut o (headBits 1 last)) = st at hH ⊢
    have HOK := hid_of (fixed_body hR.2)
    have h12 := hR.1
    have HR0 := hid_of hR0
    have HB0 := hid_of hB0
    have HW0 := hid_of hW0
    clear e hR hR0 hB0 hW0
    go_enter Try.func20, Try.ntmps20
    go_wp2_with fail
    rw [HX.out]
    refine hok.mono ?_
    rintro e w1 ⟨rfl, hB1⟩
    clear hok
    have r0 := lay_called hB1 HB0.out
    have c0 : w1.cell? ⟨w.heap.size, 0, none⟩ = some (.string s) := (cell_of_block r0 0).trans rfl
    have c1 : w1.cell? ⟨w.heap.size, 1, none⟩ = some (.int .i64 c) := (cell_of_block r0 1).trans rfl
    have HR1 := hid_of (lay_called hB1 HR0.out)
    have HW1 := hid_of (bnext HW0.out hB1)
    clear r0 hB1 HR0 HB0 HW0 HX
    go_wp2_with fail
    refine (hH _).mono ?_
    rintro e w2 ⟨s1, c1', rfl, hst, hB2⟩
    clear hH c0 c1
    have HE2 := hid_of (BkEnd.start (bnext HW1.out hB2) (lay_called hB2 HR1.out) hst)
    clear hst hB2 HR1 HW1
    go_wp2_with fail
    refine (specFixed _).mono ?_
    rintro e w3 ⟨v1, v2, K0, rfl, r1, r2, _, b1, _, hK0⟩
    obtain ⟨a1, k1, hv1, _⟩ := r1.form
    obtain ⟨a2, k2, hv2, _⟩ := r2.form
    rw [firstJ_length] at hv1 hv2
    subst hv1
    subst hv2
    have HE3 := hid_of (HE2.out.called b1)
    have HF := hid_of (And.intro (came_firstJ r1) (came_firstJ r2))
    clear r1 r2 b1 hK0 HE2
    go_wp2_with fail
    refine (specBody a a1 a2 cp k1 k2 fixed1 fixed2 288 32 L w3 (HC.out.called HE3.out.1) HF.out.1 HF.out.2 h12 HOK.out).mono ?_
    rintro e w4 ⟨v, rfl, hown, hB4⟩
    obtain ⟨a4, k4, rfl, _, _, _, hPC, _⟩ := pcame_of_own hown rfl
    have HE4 := hid_of (HE3.out.called hB4)
    have HPC := hid_of hPC
    have hlen : (bodyP fixed1 288 fixed2 32 L).length ≤ 1000000 := by
      unfold bodyP
      have := toksP_length (f1 := fixed1) (n1 := 288) (f2 := fixed2) (n2 := 32) L
      rw [List.length_append, List.length_singleton]
      omega
    clear hown hB4 HE3 HF hPC
    go_wp2_with fail
    refine (l09All_any _ st a4 k4 _ w4 HE4.out.2.2.1 HPC.out HOK.out.bodyR hlen).mono ?_
    rintro e w5 ⟨rfl, hO5, hg5⟩
    have HE5 := hid_of (HE4.out.put hO5 hg5)
    clear hO5 hg5 HE4 HPC
    obtain ⟨st5, h5⟩ : ∃ st5, st5 = st.bind fun o => bitsOut o (partBits (bodyP fixed1 288 fixed2 32 L)) := ⟨_, rfl⟩
    rw [← h5] at HE5
    have H5 := hid_of h5
    clear h5
    obtain ⟨s5, c5, hb5, hs5⟩ := HE5.out.2.2.1
    obtain ⟨e0, e1, e2⟩ := hb5.cells
    have hr := HE5.out.2.1
    have r0 : w5.cell? ⟨w.heap.size + 1, 0, none⟩ = some (.string ⟨#[]⟩) := (cell_of_block hr 0).trans rfl
    have r1 : w5.cell? ⟨w.heap.size + 1, 1, none⟩ = some (.int .i64 0) := (cell_of_block hr 1).trans rfl
    have rf : ∀ q, w5.frozen? ⟨w.heap.size + 1, q, none⟩ = false := fun q => by simp [World.frozen?, hr]
    have rl := block_lt hr
    have bl := hb5.lt
    have HST := hid_of hs5
    clear hr hb5 hs5
    cases st5 with
    | none =>
      simp only [Option.isNone_none] at e2
      go_wp2_with fail
      refine bodyPost_ret (v := .tuple #[.agg #[.string ⟨#[]⟩, .int .i64 0], .bool false]) ?_ rfl ⟨by rw [← H5.out]; rfl, two_below HE5.out.1 (Nat.le_succ _) _ _⟩
      simp [results, Try.results20, go_sem, r0, r1]
    | some o =>
      obtain ⟨rfl, rfl, _⟩ := HST.out o rfl
      simp only [Option.isNone_some] at e2
      go_wp2_with fail
      refine bodyPost_ret (v := .tuple #[.agg #[.string o.1, .int .i64 (o.2 : Int)], .bool true]) ?_ rfl ⟨by rw [← H5.out]; rfl, two_below HE5.out.1 (Nat.le_succ _) _ _⟩
      simp [results, Try.results20, go_sem, r0, r1]
  · rw [decide_eq_false hR] at hok
    have e : fixedOut s c L last = none := if_neg hR
    rw [e]
    have HR0 := hid_of hR0
    have HW0 := hid_of hW0
    clear hR0 hB0 hW0
    go_enter Try.func20, Try.ntmps20
    go_wp2_with fail
    rw [HX.out]
    refine hok.mono ?_
    rintro e w1 ⟨rfl, hB1⟩
    have hr := lay_called hB1 HR0.out
    have HW1 := hid_of (bnext HW0.out hB1)
    have r0 : w1.cell? ⟨w.heap.size + 1, 0, none⟩ = some (.string ⟨#[]⟩) := (cell_of_block hr 0).trans rfl
    have r1 : w1.cell? ⟨w.heap.size + 1, 1, none⟩ = some (.int .i64 0) := (cell_of_block hr 1).trans rfl
    have rf : ∀ q, w1.frozen? ⟨w.heap.size + 1, q, none⟩ = false := fun q => by simp [World.frozen?, hr]
    have rl := block_lt hr
    clear hr hB1 hok HX
    go_wp2_with fail
    refine bodyPost_ret (v := .tuple #[.agg #[.string ⟨#[]⟩, .int .i64 0], .bool false]) ?_ rfl ⟨rfl, two_below HW1.out (Nat.le_succ _) _ _⟩
    simp [results, Try.results20, go_sem, r0, r1]
end Go.Proofs.Ytbcnlggkoidmmaa
