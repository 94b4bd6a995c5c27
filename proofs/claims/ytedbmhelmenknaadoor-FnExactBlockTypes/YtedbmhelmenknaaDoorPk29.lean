/-
  The walk of the program's takeLengths: Runs by the third code tell the lengths of both codes.
-/
import Derived.Test.YtedbmhelmenknaaDoorPk23
import Derived.Test.YtedbmhelmenknaaDoorPk25
import Derived.Test.YtedbmhelmenknaaDoorPk28
import Derived.Laws.MakeOwn
namespace Go.Proofs.YtedbmhelmenknaaDoor
open Go.RowKit Go.Joins OutMath CodeMath TakeMath HitMath WayMath StepMath TokMath BookMath InfMath RunsMath

/-- Runs by the third code as the program reads them: a first 16 is refused ahead of its extra bits. -/
noncomputable def allP (s : ByteArray) (f3 : Nat → Int) (N : Nat) : Nat → Nat → List Int → Except Nat (List Int × Nat)
  | 0, _, _ => .error 9
  | m + 1, p, L => if L.length < N then
      match symE s f3 19 p with
      | .error x => .error x
      | .ok (y, p1) => if y = 16 ∧ L.length = 0 then .error 5 else match takeE s p1 (bitsOf (y : Int)) with
        | .error x => .error x
        | .ok (x, p2) => match tell L ((y : Int), x) with
          | none => .error 5
          | some more => if L.length + more.length ≤ N then allP s f3 N m p2 (L ++ more) else .error 5
    else .ok (L, p)
section
variable {s : ByteArray} {f3 : Nat → Int} {N m p : Nat} {L : List Int}
theorem allP_end (h : ¬ L.length < N) : allP s f3 N (m + 1) p L = .ok (L, p) := by
  rw [allP, if_neg h]
theorem allP_err {c : Nat} (h : L.length < N) (e : symE s f3 19 p = .error c) : allP s f3 N (m + 1) p L = .error c := by
  rw [allP, if_pos h, e]
theorem allP_first {y p1 : Nat} (h : L.length < N) (e : symE s f3 19 p = .ok (y, p1)) (h0 : y = 16 ∧ L.length = 0) : allP s f3 N (m + 1) p L = .error 5 := by
  rw [allP, if_pos h, e]
  dsimp only
  rw [if_pos h0]
theorem allP_err2 {c y p1 : Nat} (h : L.length < N) (e : symE s f3 19 p = .ok (y, p1)) (h0 : ¬ (y = 16 ∧ L.length = 0)) (e2 : takeE s p1 (bitsOf (y : Int)) = .error c) : allP s f3 N (m + 1) p L = .error c := by
  rw [allP, if_pos h, e]
  dsimp only
  rw [if_neg h0, e2]
theorem allP_none {y p1 p2 : Nat} {x : Int} (h : L.length < N) (e : symE s f3 19 p = .ok (y, p1)) (h0 : ¬ (y = 16 ∧ L.length = 0)) (e2 : takeE s p1 (bitsOf (y : Int)) = .ok (x, p2)) (e3 : tell L ((y : Int), x) = none) : allP s f3 N (m + 1) p L = .error 5 := by
  rw [allP, if_pos h, e]
  dsimp only
  rw [if_neg h0, e2]
  dsimp only
  rw [e3]
theorem allP_some {y p1 p2 : Nat} {x : Int} {more : List Int} (h : L.length < N) (e : symE s f3 19 p = .ok (y, p1)) (h0 : ¬ (y = 16 ∧ L.length = 0)) (e2 : takeE s p1 (bitsOf (y : Int)) = .ok (x, p2)) (e3 : tell L ((y : Int), x) = some more) : allP s f3 N (m + 1) p L = if L.length + more.length ≤ N then allP s f3 N m p2 (L ++ more) else .error 5 := by
  rw [allP, if_pos h, e]
  dsimp only
  rw [if_neg h0, e2]
  dsimp only
  rw [e3]
end
/-- Both readings tell the same lengths, where they tell any. -/
theorem allP_same {s : ByteArray} {f3 : Nat → Int} {N : Nat} : ∀ (m p : Nat) (L : List Int), (∃ r, allP s f3 N m p L = .ok r ∧ allF s f3 N m p L = .ok r) ∨ (∃ c c', allP s f3 N m p L = .error c ∧ allF s f3 N m p L = .error c')
  | 0, p, L => .inr ⟨9, 9, rfl, rfl⟩
  | m + 1, p, L => by
    by_cases hlt : L.length < N
    · cases e1 : symE s f3 19 p with
      | error c => exact .inr ⟨c, c, allP_err hlt e1, all_err hlt e1⟩
      | ok r =>
        obtain ⟨y, p1⟩ := r
        by_cases h0 : y = 16 ∧ L.length = 0
        · obtain rfl : L = [] := List.eq_nil_of_length_eq_zero h0.2
          have hP := allP_first (m := m) hlt e1 h0
          cases e2 : takeE s p1 (bitsOf (y : Int)) with
          | error c => exact .inr ⟨5, c, hP, all_err2 hlt e1 e2⟩
          | ok r2 =>
            obtain ⟨x, p2⟩ := r2
            refine .inr ⟨5, 5, hP, all_none hlt e1 e2 ?_⟩
            rw [h0.1]
            exact tell_first x
        · cases e2 : takeE s p1 (bitsOf (y : Int)) with
          | error c => exact .inr ⟨c, c, allP_err2 hlt e1 h0 e2, all_err2 hlt e1 e2⟩
          | ok r2 =>
            obtain ⟨x, p2⟩ := r2
            cases e3 : tell L ((y : Int), x) with
            | none => exact .inr ⟨5, 5, allP_none hlt e1 h0 e2 e3, all_none hlt e1 e2 e3⟩
            | some more =>
              rw [allP_some hlt e1 h0 e2 e3, all_some hlt e1 e2 e3]
              by_cases hf : L.length + more.length ≤ N
              · rw [if_pos hf, if_pos hf]
                exact allP_same m p2 (L ++ more)
              · rw [if_neg hf, if_neg hf]
                exact .inr ⟨5, 5, rfl, rfl⟩
    · exact .inl ⟨_, allP_end hlt, all_end hlt⟩
/-- The blocks below K lie as they lay. -/
structure Same (K : Nat) (w w' : World) : Prop where
  os : w'.os = w.os
  tape : w'.tape = w.tape
  output : w'.output = w.output
  size : K ≤ w'.heap.size
  block : ∀ k, k < K → w'.heap[k]? = w.heap[k]?
/-- The world cut to its first K blocks. -/
def lowW (w : World) (K : Nat) : World := { w with heap := w.heap.extract 0 K }
theorem lowW_size {w : World} {K : Nat} (h : K ≤ w.heap.size) : (lowW w K).heap.size = K := by
  show (w.heap.extract 0 K).size = K
  rw [Array.size_extract]
  omega
theorem lowW_below {w : World} {K : Nat} (h : K ≤ w.heap.size) : Below (lowW w K).heap.size (lowW w K) w := by
  refine ⟨rfl, rfl, rfl, by rw [lowW_size h]; exact h, fun k hk => ?_⟩
  rw [lowW_size h] at hk
  show w.heap[k]? = (w.heap.extract 0 K)[k]?
  rw [Array.getElem?_extract]
  simp
  omega
theorem Same.of_low {w w' : World} {K : Nat} (h : K ≤ w.heap.size) (hb : Below (lowW w K).heap.size (lowW w K) w') : Same K w w' := by
  have hz := lowW_size h
  rw [hz] at hb
  refine ⟨hb.os, hb.tape, hb.output, by have := hb.size; omega, fun k hk => (hb.block k hk).trans ?_⟩
  show (w.heap.extract 0 K)[k]? = w.heap[k]?
  rw [Array.getElem?_extract]
  simp
  omega
theorem row_low {w w' : World} {K : Nat} {e : TypeId} {S z n : Nat} {v : Value} {xs : List Value} (h : w.ownsRow S e z v n xs) (hv : ∀ k, v.ownBlock = some k → k < K) (hs : Same K w w') : w'.ownsRow S e z v n xs := by
  refine ⟨h.1, ?_⟩
  rcases h.2 with q | ⟨g, cap, cur, rfl, h1, h2, h3⟩
  · exact .inl q
  · exact .inr ⟨g, cap, cur, rfl, h1, (hs.block g (hv g rfl)).trans h2, h3⟩
theorem PS.low {B K : Nat} {w w' : World} {fb rb : Nat} {s : ByteArray} {p : Nat} {O : List Int} {most : Nat} {Ty : List Int} {vo vt : Value} (h : PS B w fb rb s p O most Ty vo vt) (hs : Same K w w') (hf : fb < K) (hr : rb < K) (ho : ∀ k, vo.ownBlock = some k → k < K) (ht : ∀ k, vt.ownBlock = some k → k < K) (hB : B ≤ K) : PS B w' fb rb s p O most Ty vo vt := by
  obtain ⟨h1, h2, h3, h4, h5, h6, h7, h8, h9, h10, h11⟩ := h
  exact ⟨(hs.block fb hf).trans h1, (hs.block rb hr).trans h2, row_low h3 ho hs, row_low h4 ht hs, h5, h6, h7, h8, h9, h10, Nat.le_trans hB hs.size⟩
theorem Step.low {fb rb : Nat} {w w1 w2 : World} {vo vt : Value} (h : Step fb rb w vo vt w1 vo vt) (hs : Same w.heap.size w1 w2) : Step fb rb w vo vt w2 vo vt :=
  ⟨hs.os.trans h.os, hs.tape.trans h.tape, hs.output.trans h.output, hs.size, fun k hk => ⟨⟨Nat.lt_of_lt_of_le hk.1 hs.size, hk.2⟩, (hs.block k hk.1).trans (h.block k hk).2⟩⟩
theorem Book.low {w w' : World} {S C bk K : Nat} {V : Nat → Value} {f : Nat → Int} {n : Nat} (h : Book w S C bk V f n) (hs : Same K w w') (hC : C ≤ K) : Book w' S C bk V f n := by
  obtain ⟨h1, h2, h3, h4, h5, h6⟩ := h
  have hk : ∀ k, S ≤ k → k < C → w'.heap[k]? = w.heap[k]? := fun k _ hk => hs.block k (by omega)
  have e := hk bk h1 h2
  refine ⟨h1, h2, Nat.le_trans hC hs.size, fun i hi => ?_, fun i hi => ?_, ?_⟩
  · obtain ⟨q1, q2, q3⟩ := h4 i hi
    exact ⟨(World.cell?_of_block (a := ⟨bk, i, none⟩) e).trans q1, row_kept q2 q3 hk, q3⟩
  · exact (World.cell?_of_block (a := ⟨bk, 16 + i, none⟩) e).trans (h5 i hi)
  · exact (World.cell?_of_block (a := ⟨bk, 32, none⟩) e).trans h6
/-- What takeLengths leaves. -/
def LensPost (B : Nat) (w : World) (fb rb : Nat) (s : ByteArray) (O : List Int) (most : Nat) (Ty : List Int) (vo vt : Value) (res : Except Nat (List Int × Nat)) (e : Ending) (w' : World) : Prop :=
  (∃ L p' a c, res = .ok (L, p') ∧ p' ≤ 8 * s.size ∧ e = .returned (.tuple #[.slice a L.length c, .nilIface]) ∧ NumRow w' w.heap.size (.slice a L.length c) L ∧ PS B w' fb rb s p' O most Ty vo vt ∧ Step fb rb w vo vt w' vo vt) ∨
  (∃ c, res = .error c ∧ e = .returned (.tuple #[.slice none 0 0, errV c]) ∧ Below B w w')
/-- What its ring has at hand. -/
def LnRing (B : Nat) (w : World) (fb rb : Nat) (s : ByteArray) (O : List Int) (most : Nat) (Ty : List Int) (vo vt : Value) (S C bk : Nat) (V : Nat → Value) (f : Nat → Int) (N : Nat) (res : Except Nat (List Int × Nat)) (m p : Nat) (v : Value) (L : List Int) (w' : World) : Prop :=
  PS B w' fb rb s p O most Ty vo vt ∧ Step fb rb w vo vt w' vo vt ∧ Book w' S C bk V f 19 ∧ Held w' fb rb vo vt S C ∧ NumRow w' w.heap.size v L ∧ L.length ≤ N ∧ p ≤ 8 * s.size ∧ 8 * s.size + 1 ≤ m + p ∧ res = allP s f N m p L
section
variable (B : Nat) (w : World) (fb rb : Nat) (s : ByteArray) (p : Nat) (O : List Int) (most : Nat) (Ty : List Int) (vo vt : Value) (S C bk : Nat) (V : Nat → Value) (f : Nat → Int)
/-- What is from the start on. -/
structure From (B : Nat) (w : World) (fb rb : Nat) (vo vt : Value) (C : Nat) : Prop where
  f : fb < w.heap.size
  r : rb < w.heap.size
  o : ∀ k, vo.ownBlock = some k → k < w.heap.size
  t : ∀ k, vt.ownBlock = some k → k < w.heap.size
  b : B ≤ w.heap.size
  c : C ≤ w.heap.size
theorem row_step {K : Nat} {w1 w2 : World} {fb rb : Nat} {vo vt : Value} {v : Value} {L : List Int} (h : NumRow w1 K v L) (hs : Step fb rb w1 vo vt w2 vo vt) (hf : fb < K) (hr : rb < K) (ho : ∀ k, vo.ownBlock = some k → k < K) (ht : ∀ k, vt.ownBlock = some k → k < K) : NumRow w2 K v L := by
  refine ⟨h.1, ?_⟩
  rcases h.2 with q | ⟨g, cap, cur, rfl, h1, h2, h3⟩
  · exact .inl q
  · refine .inr ⟨g, cap, cur, rfl, h1, (hs.block g ⟨block_lt h2, by omega, by omega, fun e => ?_, fun e => ?_⟩).2.trans h2, h3⟩
    · have := ho g e
      omega
    · have := ht g e
      omega
set_option maxRecDepth 100000 in
set_option maxHeartbeats 3200000 in
theorem takeLengths_any (h : PS B w fb rb s p O most Ty vo vt) (hs : s.size ≤ 12000) (hp : p ≤ 8 * s.size) (hB : Book w S C bk V f 19) (hH : Held w fb rb vo vt S C) (hok : OkLens f 19) (hroom : nx f 19 15 ≤ 32768) (N : Nat) (hN : N ≤ 320) :
    Calls Tryd.prog 54 #[.pointer (some ⟨fb, 0, none⟩), .pointer (some ⟨bk, 0, none⟩), .int .i64 (N : Int)] w (LensPost B w fb rb s O most Ty vo vt (allP s f N (8 * s.size + 1) p [])) := by
  have HPS := hid_of h
  have HFR : Hid (From B w fb rb vo vt C) := ⟨h.ltf, h.ltr, fun k e => (World.ownsRow.lt h.2.2.1 k e).2, fun k e => (World.ownsRow.lt h.2.2.2.1 k e).2, h.2.2.2.2.2.2.2.2.2.2, hB.2.2.1⟩
  obtain ⟨res, hres⟩ : ∃ res, res = allP s f N (8 * s.size + 1) p [] := ⟨_, rfl⟩
  rw [← hres]
  obtain ⟨i0, hi0, hz0, hz1, hz2⟩ := info_parts info_int
  obtain ⟨wm, hmk, hmo, hmg⟩ := run_make_own (P := Tryd.prog) w w.heap.size 25 3 i0 (.int .i64 0) 1 Tryd.underlying25 hi0 hz0 hz1 .i64 .i64 N (by rw [hz2]; omega) (by unfold maxLen; omega) (Nat.le_refl _)
  have H0 : Hid (LnRing B w fb rb s O most Ty vo vt S C bk V f N res (8 * s.size + 1) p (.slice (some ⟨w.heap.size, 0, none⟩) 0 N) [] wm) := by
    have hb : Below w.heap.size w wm := (Below.refl _ _).grown hmg (Nat.le_refl _) (fun q hq => by cases hq)
    have st : Step fb rb w vo vt wm vo vt := Step.called hb
    exact ⟨h.called hb, st, hB.step hH st, hH.step st, hmo, by simp, hp, by omega, hres⟩
  have HOK := hid_of (And.intro hok hroom)
  clear h hB hH hok hroom hres hi0 hz0 hz1 hz2 hmo hmg
  go_enter Tryd.func54, Tryd.ntmps54
  go_wp2_with fail
  clear hmk
  go_loopg [8] (8 * s.size + 2) (fun gk v w' => ∃ (m p c : Nat) (a : Option Addr) (L : List Int), v = .slice a L.length c ∧ m ≤ gk ∧ Hid (LnRing B w fb rb s O most Ty vo vt S C bk V f N res m p v L w'))
  case atStart => exact ⟨8 * s.size + 1, p, N, _, [], rfl, by omega, H0⟩
  case round =>
    clear H0
    obtain ⟨m, p, c, a, L, rfl, hgk, hR⟩ := hrel
    obtain ⟨m1, rfl⟩ : ∃ m1, m = m1 + 1 := ⟨m - 1, by have := hR.out.2.2.2.2.2.2.1; have := hR.out.2.2.2.2.2.2.2.1; omega⟩
    have hLN := hR.out.2.2.2.2.2.1
    by_cases hlt : L.length < N
    · have dl : decide ((L.length : Int) < (N : Int)) = true := decide_eq_true (by omega)
      have dl2 : decide (L.length < N) = true := decide_eq_true hlt
      have hsy := takeSymbol_any B wr fb rb s p O most Ty vo vt S C bk V f 19 hR.out.1 hs hR.out.2.2.2.2.2.2.1 hR.out.2.2.1 hR.out.2.2.2.1 (by omega) HOK.out.1 HOK.out.2
      go_wp2_with fail
      refine hsy.mono ?_
      clear hsy
      rintro e w1 ⟨hst, ⟨y, p1, hsE, hlt1, hp1, hyn, rfl, hps⟩ | ⟨cc, hsE, rfl⟩⟩
      · have HST := hid_of hst
        have HPS1 := hid_of hps
        have HE := hid_of hsE
        clear hst hps hsE
        by_cases h0 : y = 16 ∧ L.length = 0
        · have HP : Hid (LensPost B w fb rb s O most Ty vo vt res (.returned (.tuple #[.slice none 0 0, errV 5])) w1) := .inr ⟨5, hR.out.2.2.2.2.2.2.2.2.trans (allP_first hlt HE.out h0), rfl, HPS.out.below (hR.out.2.1.trans HST.out)⟩
          have d1 : ((y : Int) == 16) = true := by simp; omega
          have d2 : ((L.length : Int) == 0) = true := by rw [h0.2]; rfl
          have d3 : (L.length == 0) = true := by simp [h0.2]
          clear hR HST HPS1 HE h0
          go_wp2_with fail
          go_ret2
          exact HP.out
        · have hcc : (((y : Int) == 16) = false) ∨ (((y : Int) == 16) = true ∧ ((L.length : Int) == 0) = false ∧ (L.length == 0) = false) := by
            by_cases q : y = 16
            · right
              have : L.length ≠ 0 := fun e => h0 ⟨q, e⟩
              refine ⟨by simp; omega, by rw [beq_eq_false_iff_ne]; omega, by rw [beq_eq_false_iff_ne]; exact this⟩
            · left
              simp
              omega
          have hbt : bitsOf (y : Int) ≤ 7 := pow_bits _
          have hxb := extraBits_any (y : Int) w1
          by_cases h2 : p1 + bitsOf (y : Int) ≤ 8 * s.size
          · have htk := take_yes B w1 fb rb s p1 O most Ty vo vt HPS1.out hs (bitsOf (y : Int)) (by omega) h2
            have HTE : Hid (takeE s p1 (bitsOf (y : Int)) = .ok (num s p1 (bitsOf (y : Int)), p1 + bitsOf (y : Int))) := by
              show takeE s p1 (bitsOf (y : Int)) = _
              unfold takeE
              rw [if_pos h2]
            have HWI : Hid (∀ w2, PS B w2 fb rb s (p1 + bitsOf (y : Int)) O most Ty vo vt → w1.grownBy w2 (some rb) → (w.heap.size ≤ w2.heap.size ∧ NumRow w2 w.heap.size (.slice a L.length c) L) ∧ ∀ w3, Same w.heap.size w2 w3 → Step fb rb w vo vt w3 vo vt ∧ PS B w3 fb rb s (p1 + bitsOf (y : Int)) O most Ty vo vt ∧ Book w3 S C bk V f 19 ∧ Held w3 fb rb vo vt S C) := fun w2 q1 q2 => by
              obtain ⟨t1, t2, t3, t4, t5, t6, t7, t8, t9⟩ := hR.out
              have st2 := HST.out.trans (step_read (fb := fb) (vo := vo) (vt := vt) q2)
              have st := t2.trans st2
              have fr := HFR.out
              refine ⟨⟨st.size, row_step t5 st2 fr.f fr.r fr.o fr.t⟩, fun w3 hsm => ?_⟩
              have st3 := st.low hsm
              exact ⟨st3, q1.low hsm fr.f fr.r fr.o fr.t fr.b, (t3.step t4 st2).low hsm fr.c, fun k k1 k2 => ⟨Nat.lt_of_lt_of_le (Nat.lt_of_lt_of_le k2 fr.c) hsm.size, (t4 k k1 k2).2⟩⟩
            have HNR : Hid (∀ more, tell L ((y : Int), num s p1 (bitsOf (y : Int))) = some more → L.length + more.length ≤ N → res = allP s f N m1 (p1 + bitsOf (y : Int)) (L ++ more)) := fun more q1 q2 => by
              rw [hR.out.2.2.2.2.2.2.2.2, allP_some hlt HE.out h0 HTE.out q1, if_pos q2]
            have HNE : Hid ((∀ more, tell L ((y : Int), num s p1 (bitsOf (y : Int))) = some more → ¬ L.length + more.length ≤ N) → res = .error 5) := fun q => by
              rw [hR.out.2.2.2.2.2.2.2.2]
              cases e3 : tell L ((y : Int), num s p1 (bitsOf (y : Int))) with
              | none => exact allP_none hlt HE.out h0 HTE.out e3
              | some more => rw [allP_some hlt HE.out h0 HTE.out e3, if_neg (q more e3)]
            have hmp : 8 * s.size + 1 ≤ m1 + p1 := by have := hR.out.2.2.2.2.2.2.2.1; omega
            clear hR HST HPS1 HE HTE h0
            generalize num s p1 (bitsOf (y : Int)) = x at *
            generalize bitsOf (y : Int) = bt at *
            rcases hcc with dc | ⟨dc, dc2, dc3⟩
            all_goals
              go_wp2_with fail
              refine hxb.mono ?_
              clear hxb
              rintro e w1b ⟨rfl, rfl⟩
              go_wp2_with fail
              refine htk.mono ?_
              clear htk
              rintro e w2 ⟨rfl, q1, q2⟩
              obtain ⟨⟨hsz, hrow⟩, hlow⟩ := HWI.out w2 q1 q2
              have hwi := with_any (lowW w2 w.heap.size) w2 a L.length c L (y : Int) x N (by rw [lowW_size hsz]; exact hrow) rfl (lowW_below hsz) hN hLN
              have HLOW := hid_of hlow
              have HSZ := hid_of hsz
              clear q1 q2 HWI hrow hlow hsz
              go_wp2_with fail
              refine hwi.mono ?_
              clear hwi
              rintro e w3 ⟨hbl, ⟨v, more, rfl, hte, hle, hnr⟩ | ⟨rfl, hno⟩⟩
              · rw [lowW_size HSZ.out] at hnr
                obtain ⟨t1, t2, t3, t4⟩ := HLOW.out w3 (Same.of_low HSZ.out hbl)
                obtain ⟨a3, c3, hv3, _⟩ := hnr.form
                subst hv3
                have HN : Hid (LnRing B w fb rb s O most Ty vo vt S C bk V f N res m1 (p1 + bt) (.slice a3 (L ++ more).length c3) (L ++ more) w3) := ⟨t2, t1, t3, t4, hnr, by rw [List.length_append]; exact hle, by omega, by omega, HNR.out more hte hle⟩
                clear t1 t2 t3 t4 hnr hbl hte HLOW HSZ HNR HNE hle
                generalize L ++ more = L2 at HN ⊢
                go_wp2_with fail
                go_roundg m1
                case measure => omega
                case rel => exact ⟨m1, p1 + bt, c3, a3, L2, rfl, Nat.le_refl _, HN⟩
              · obtain ⟨t1, _⟩ := HLOW.out w3 (Same.of_low HSZ.out hbl)
                have HP : Hid (LensPost B w fb rb s O most Ty vo vt res (.returned (.tuple #[.slice none 0 0, errV 5])) w3) := .inr ⟨5, HNE.out hno, rfl, HPS.out.below t1⟩
                clear t1 hbl hno HLOW HSZ HNR HNE
                go_wp2_with fail
                go_ret2
                exact HP.out
          · have htk := take_no B w1 fb rb s p1 O most Ty vo vt HPS1.out hs hp1 (bitsOf (y : Int)) (by omega) h2
            have HTE : Hid (takeE s p1 (bitsOf (y : Int)) = .error 2) := by
              show takeE s p1 (bitsOf (y : Int)) = _
              unfold takeE
              rw [if_neg h2]
            have HP : Hid (∀ w2, w1.grownBy w2 (some rb) → LensPost B w fb rb s O most Ty vo vt res (.returned (.tuple #[.slice none 0 0, errV 2])) w2) := fun w2 q2 => .inr ⟨2, hR.out.2.2.2.2.2.2.2.2.trans (allP_err2 hlt HE.out h0 HTE.out), rfl, HPS.out.below (hR.out.2.1.trans (HST.out.trans (step_read q2)))⟩
            clear hR HST HPS1 HE HTE h0
            generalize bitsOf (y : Int) = bt at *
            rcases hcc with dc | ⟨dc, dc2, dc3⟩
            all_goals
              go_wp2_with fail
              refine hxb.mono ?_
              clear hxb
              rintro e w1b ⟨rfl, rfl⟩
              go_wp2_with fail
              refine htk.mono ?_
              clear htk
              rintro e w2 ⟨rfl, q1, q2⟩
              have HQ := hid_of (HP.out w2 q2)
              clear q1 q2 HP
              go_wp2_with fail
              go_ret2
              exact HQ.out
      · have HP : Hid (LensPost B w fb rb s O most Ty vo vt res (.returned (.tuple #[.slice none 0 0, errV cc])) w1) := .inr ⟨cc, hR.out.2.2.2.2.2.2.2.2.trans (allP_err hlt hsE), rfl, HPS.out.below (hR.out.2.1.trans hst)⟩
        clear hR hst
        go_wp2_with fail
        go_ret2
        exact HP.out
    · have dl : decide ((L.length : Int) < (N : Int)) = false := decide_eq_false (by omega)
      have dl2 : decide (L.length < N) = false := decide_eq_false hlt
      have HP : Hid (LensPost B w fb rb s O most Ty vo vt res (.returned (.tuple #[.slice a L.length c, .nilIface])) wr) := .inl ⟨L, p, a, c, hR.out.2.2.2.2.2.2.2.2.trans (allP_end hlt), hR.out.2.2.2.2.2.2.1, rfl, hR.out.2.2.2.2.1, hR.out.1, hR.out.2.1⟩
      clear hR
      go_wp2_with fail
      go_ret2
      exact HP.out
end
end Go.Proofs.YtedbmhelmenknaaDoor
