/-
  The walk of the program's CodeKind.
  The walk of the program's takeThird: the lengths of the third code.
  What the program's WovenBlock is to answer.
  The walks of what the exact laws do with an Out.
  The walks of the laws' helpers that hold tokens against tokens.
  'make' of tokens.
  The walks of the laws' helpers over lists of tokens.
-/
import Derived.Test.YtbcnlggkoidmmaaGreatDoorRows
import Derived.Test.YtbcnlggkoidmmaaGreatDoorPk01
import Derived.Test.YtbcnlggkoidmmaaGreatDoorPk02
import Derived.Test.YtbcnlggkoidmmaaGreatDoorPk08
import Derived.Test.YtbcnlggkoidmmaaGreatDoorPk11
import Derived.Test.YtbcnlggkoidmmaaGreatDoorPk05
import Derived.Test.YtbcnlggkoidmmaaGreatDoorPk06
import Derived.Test.YtbcnlggkoidmmaaGreatDoorPk09
import Derived.Test.YtbcnlggkoidmmaaGreatDoorPk07
import Derived.Test.YtbcnlggkoidmmaaGreatDoorPk10
import Derived.WalkKit
import Derived.ProofKit
import Derived.WalkLawsBesides
import Derived.Lib.SmallJoins
import Derived.RegionTactic
import Derived.Deep.QuietTactic
import Derived.Deep.RegionWith
import Derived.BigQuiet
import Derived.Below
import Derived.OwnWalk
import Derived.Deep.LoopGhost
import Derived.Lib.Strings
import Derived.Lib.Slices
import Derived.Lib.Small
import Derived.Lib.Walk
import Derived.Lib.BitFns
import Derived.Laws.AppendOwn
import Derived.Laws.OwnMore
import Derived.Maps.AppendAt
import Derived.Deep.AppendLies
import Derived.Laws.MakeOwn
import Derived.Sort.Grow
import Derived.Shelf.SlSortCmp.QuietGrown
namespace Go.Proofs.YtbcnlggkoidmmaaGreatDoor
open Go.RowKit Go.Joins OutMath CodeMath

theorem ret_num {a b : Int} (h : a = b) : Ending.returned (.int .i64 a) = .returned (.int .i64 b) := by rw [h]

set_option maxHeartbeats 1600000 in
theorem implKind_yes (a : Option Addr) (n cap : Nat) (f : Nat → Int) (w : World) (hC : Came w a n f) (hm : n ≤ 288) (hok : OkLens f n) :
    Calls Tryz.prog 113 #[.slice a n cap] w fun e w' => e = .returned (.int .i64 (kindOf f n)) ∧ Below w.heap.size w w' := by
  have HC : Hid (Came w a n f) := hC
  have HO : Hid (OkLens f n) := hok
  have hr := (room_bd f n).2 hok
  have hr0 := (room_bd f n).1
  clear hC hok
  go_enter Tryz.func113, Tryz.ntmps113
  go_wp2_with fail
  refine (count_yes a n cap f _ HC.out hm HO.out).mono ?_
  rintro e w1 ⟨rfl, hb1⟩
  go_wp2_with fail
  refine (fullTo_any (cs f n) _ (fun s => by have := cs_bd f n s; omega)).mono ?_
  rintro e w2 ⟨rfl, hb2⟩
  rw [full_room f n HO.out]
  have hS : Six w2 w1.heap.size 224 (cs f n) := by
    show _ = _
    rw [hb2.block _ (by simp)]
    exact heap_alloc_new w1 _
  have hB : Below w.heap.size w w2 := bnext (bal hb1 _) hb2
  have k1 := hS.c
  have f1 := hS.f
  have hz := hS.lt
  clear hb1 hb2 hS
  by_cases q1 : cnt f n = 0
  · have E0 : ∀ u, (Op.equalIn 10000 224 (.agg #[.int .i64 (cs f n 0), .int .i64 (cs f n 1), .int .i64 (cs f n 2), .int .i64 (cs f n 3), .int .i64 (cs f n 4), .int .i64 (cs f n 5), .int .i64 (cs f n 6), .int .i64 (cs f n 7), .int .i64 (cs f n 8), .int .i64 (cs f n 9), .int .i64 (cs f n 10), .int .i64 (cs f n 11), .int .i64 (cs f n 12), .int .i64 (cs f n 13), .int .i64 (cs f n 14), .int .i64 (cs f n 15)]) (.agg #[.int .i64 0, .int .i64 0, .int .i64 0, .int .i64 0, .int .i64 0, .int .i64 0, .int .i64 0, .int .i64 0, .int .i64 0, .int .i64 0, .int .i64 0, .int .i64 0, .int .i64 0, .int .i64 0, .int .i64 0, .int .i64 0])).run Tryz.prog u = .ok true u := six_eq (cs f n) (fun _ => 0) true (by simpa using (cs_none HO.out).1 q1)
    have HK : Hid (kindOf f n = 1) := by show kindOf f n = 1; unfold kindOf; rw [if_pos q1]
    clear q1
    go_wp2_with fail
    go_ret
    exact ⟨ret_num HK.out.symm, hB⟩
  · have E0 : ∀ u, (Op.equalIn 10000 224 (.agg #[.int .i64 (cs f n 0), .int .i64 (cs f n 1), .int .i64 (cs f n 2), .int .i64 (cs f n 3), .int .i64 (cs f n 4), .int .i64 (cs f n 5), .int .i64 (cs f n 6), .int .i64 (cs f n 7), .int .i64 (cs f n 8), .int .i64 (cs f n 9), .int .i64 (cs f n 10), .int .i64 (cs f n 11), .int .i64 (cs f n 12), .int .i64 (cs f n 13), .int .i64 (cs f n 14), .int .i64 (cs f n 15)]) (.agg #[.int .i64 0, .int .i64 0, .int .i64 0, .int .i64 0, .int .i64 0, .int .i64 0, .int .i64 0, .int .i64 0, .int .i64 0, .int .i64 0, .int .i64 0, .int .i64 0, .int .i64 0, .int .i64 0, .int .i64 0, .int .i64 0])).run Tryz.prog u = .ok false u := six_eq (cs f n) (fun _ => 0) false (by
      refine ⟨fun h => absurd h (by simp), fun h => absurd ((cs_none HO.out).2 h) q1⟩)
    by_cases q2 : room f n = 32768
    · have d2 : (room f n == 32768) = true := by simpa using q2
      have HK : Hid (kindOf f n = 2) := by show kindOf f n = 2; unfold kindOf; rw [if_neg q1, if_pos q2]
      clear q1 q2
      go_wp2_with fail
      go_ret
      exact ⟨ret_num HK.out.symm, hB⟩
    · have d2 : (room f n == 32768) = false := by simpa using q2
      by_cases q3 : 32768 < room f n
      · have d3 : decide (32768 < room f n) = true := by simpa using q3
        have HK : Hid (kindOf f n = 5) := by show kindOf f n = 5; unfold kindOf; rw [if_neg q1, if_neg q2, if_pos q3]
        clear q1 q2 q3
        go_wp2_with fail
        go_ret
        exact ⟨ret_num HK.out.symm, hB⟩
      · have d3 : decide (32768 < room f n) = false := by simpa using q3
        by_cases q4 : cnt f n = 1 ∧ room f n = 16384
        · have E1 : ∀ u, (Op.equalIn 10000 224 (.agg #[.int .i64 (cs f n 0), .int .i64 (cs f n 1), .int .i64 (cs f n 2), .int .i64 (cs f n 3), .int .i64 (cs f n 4), .int .i64 (cs f n 5), .int .i64 (cs f n 6), .int .i64 (cs f n 7), .int .i64 (cs f n 8), .int .i64 (cs f n 9), .int .i64 (cs f n 10), .int .i64 (cs f n 11), .int .i64 (cs f n 12), .int .i64 (cs f n 13), .int .i64 (cs f n 14), .int .i64 (cs f n 15)]) (.agg #[.int .i64 0, .int .i64 1, .int .i64 0, .int .i64 0, .int .i64 0, .int .i64 0, .int .i64 0, .int .i64 0, .int .i64 0, .int .i64 0, .int .i64 0, .int .i64 0, .int .i64 0, .int .i64 0, .int .i64 0, .int .i64 0])).run Tryz.prog u = .ok true u := six_eq (cs f n) one1 true (by simpa using (cs_single HO.out).1 q4)
          have HK : Hid (kindOf f n = 3) := by show kindOf f n = 3; unfold kindOf; rw [if_neg q1, if_neg q2, if_neg q3, if_pos q4]
          clear q1 q2 q3 q4
          go_wp2_with fail
          go_ret
          exact ⟨ret_num HK.out.symm, hB⟩
        · have E1 : ∀ u, (Op.equalIn 10000 224 (.agg #[.int .i64 (cs f n 0), .int .i64 (cs f n 1), .int .i64 (cs f n 2), .int .i64 (cs f n 3), .int .i64 (cs f n 4), .int .i64 (cs f n 5), .int .i64 (cs f n 6), .int .i64 (cs f n 7), .int .i64 (cs f n 8), .int .i64 (cs f n 9), .int .i64 (cs f n 10), .int .i64 (cs f n 11), .int .i64 (cs f n 12), .int .i64 (cs f n 13), .int .i64 (cs f n 14), .int .i64 (cs f n 15)]) (.agg #[.int .i64 0, .int .i64 1, .int .i64 0, .int .i64 0, .int .i64 0, .int .i64 0, .int .i64 0, .int .i64 0, .int .i64 0, .int .i64 0, .int .i64 0, .int .i64 0, .int .i64 0, .int .i64 0, .int .i64 0, .int .i64 0])).run Tryz.prog u = .ok false u := six_eq (cs f n) one1 false (by
            refine ⟨fun h => absurd h (by simp), fun h => absurd ((cs_single HO.out).2 h) q4⟩)
          have HK : Hid (kindOf f n = 4) := by show kindOf f n = 4; unfold kindOf; rw [if_neg q1, if_neg q2, if_neg q3, if_neg q4]
          clear q1 q2 q3 q4
          go_wp2_with fail
          go_ret
          exact ⟨ret_num HK.out.symm, hB⟩

set_option maxHeartbeats 800000 in
theorem implKind_no (a : Option Addr) (n cap : Nat) (f : Nat → Int) (w : World) (hC : Came w a n f) (hn : n ≤ 1048576) (hf : ∀ i, i < n → (Lit.int .i64 (f i)).wf = true) (hb : ¬ (n ≤ 288 ∧ OkLens f n)) :
    Calls Tryz.prog 113 #[.slice a n cap] w fun e w' => e = .returned (.int .i64 0) ∧ Below w.heap.size w w' := by
  have HC : Hid (Came w a n f) := hC
  have HB : Hid (¬ (n ≤ 288 ∧ OkLens f n)) := hb
  have HF : Hid (∀ i, i < n → (Lit.int .i64 (f i)).wf = true) := hf
  clear hC hb hf
  go_enter Tryz.func113, Tryz.ntmps113
  go_wp2_with fail
  refine (count_no a n cap f _ HC.out hn HF.out HB.out).mono ?_
  rintro e w1 ⟨rfl, hb1⟩
  go_wp2_with fail
  refine (fullTo_any (fun _ => 0) _ (fun s => by omega)).mono ?_
  rintro e w2 ⟨rfl, hb2⟩
  have hB : Below w.heap.size w w2 := bnext (bal hb1 _) hb2
  clear hb1 hb2
  go_wp2_with fail
  go_ret
  exact ⟨rfl, hB⟩

theorem kind_answer : KindAnswer := by
  intro a n cap f w hC hn hf
  by_cases h : n ≤ 288 ∧ OkLens f n
  · refine (implKind_yes a n cap f w hC h.1 h.2).mono ?_
    rintro e w1 ⟨rfl, hb⟩
    exact ⟨_, rfl, .inr ⟨h.1, h.2, rfl⟩, hb⟩
  · refine (implKind_no a n cap f w hC hn hf h).mono ?_
    rintro e w1 ⟨rfl, hb⟩
    exact ⟨_, rfl, .inl ⟨rfl, h⟩, hb⟩

end Go.Proofs.YtbcnlggkoidmmaaGreatDoor

namespace Go.Proofs.YtbcnlggkoidmmaaGreatDoor
open Go.RowKit Go.Joins OutMath CodeMath TakeMath HitMath WayMath StepMath TokMath InfMath

/-- The order of the third code's lengths lies in the program's table. -/
def OrderG (w : World) : Prop := 0 < w.heap.size ∧ ∀ i, i < 19 → w.cell? ⟨0, i, none⟩ = some (.int .i64 ((orderL.getD i 0 : Nat) : Int))
theorem OrderG.below {B : Nat} {w w' : World} (h : OrderG w) (hb : Below B w w') (hB : 0 < B) : OrderG w' :=
  ⟨Nat.lt_of_lt_of_le h.1 hb.size, fun i hi => (World.cell?_of_block (a := ⟨0, i, none⟩) (hb.block _ hB)).trans (h.2 i hi)⟩
section
variable (B : Nat) (w : World) (fb rb : Nat) (s : ByteArray) (p : Nat) (O : List Int) (most : Nat) (Ty : List Int) (vo vt : Value)
end
end Go.Proofs.YtbcnlggkoidmmaaGreatDoor

namespace Go.Proofs.YtbcnlggkoidmmaaGreatDoor
open Go.RowKit TokMath WovenMath

/-- What the program's WovenBlock is to answer where its table lies. -/
def WovenAnswer : Prop := ∀ (s : ByteArray) (c : Int) (a : Option Addr) (cp : Nat) (L : List Tok) (last : Bool) (w : World), s.size ≤ 1048576 → -9223372036854775808 ≤ c → c ≤ 9223372036854775807 → TCame w a L.length (fun j => L.getD j (0, 0, 0)) → L.length ≤ 1048576 → OrderG w →
  Calls Tryz.prog 12 #[.agg #[.string s, .int .i64 c], .slice a L.length cp, .bool last] w fun e w' => e = .returned (blkAns (wovenOut s c L last)) ∧ Below w.heap.size w w'
end Go.Proofs.YtbcnlggkoidmmaaGreatDoor

namespace Go.Proofs.YtbcnlggkoidmmaaGreatDoor
open Go.RowKit Go.Joins OutMath

theorem szOut_ok (s : ByteArray) (c x : Int) (w : World) (h0 : 0 ≤ x) (h1 : x ≤ 1048576) (h : (s.size : Int) ≤ x) :
    Calls Tryz.prog 18 #[.agg #[.string s, .int .i64 c], .int .i64 x] w fun e w' => e = .returned (.int .i64 (x - s.size)) ∧ Below w.heap.size w w' := by
  have d : ¬ x - (s.size : Int) < 0 := by omega
  go_enter Tryz.func18, Tryz.ntmps18
  go_wp2
  go_ret
  exact ⟨rfl, (Below.refl _ _).alloc (Nat.le_refl _) _⟩

theorem szOut_no (s : ByteArray) (c x : Int) (w : World) (hs : s.size ≤ maxLen) (h0 : 0 ≤ x) (h1 : x ≤ 1048576) (h : x < (s.size : Int)) :
    Calls Tryz.prog 18 #[.agg #[.string s, .int .i64 c], .int .i64 x] w fun e w' => e = .returned (.int .i64 (-1)) ∧ Below w.heap.size w w' := by
  unfold maxLen at hs
  have d : x - (s.size : Int) < 0 := by omega
  go_enter Tryz.func18, Tryz.ntmps18
  go_wp2
  go_ret
  exact ⟨rfl, (Below.refl _ _).alloc (Nat.le_refl _) _⟩

theorem toOut_any (s : ByteArray) (c : Int) (w : World) :
    Calls Tryz.prog 21 #[.agg #[.string s, .int .i64 c]] w fun e w' => e = .returned (.agg #[.string s, .int .i64 c]) ∧ Below w.heap.size w w' := by
  go_enter Tryz.func21, Tryz.ntmps21
  go_wp2
  exact bodyPost_ret (v := .agg #[.string s, .int .i64 c]) (by simp [results, Tryz.results21, go_sem]) rfl ⟨rfl, below_alloc3 _ _ _ _⟩

theorem eqOut_same (s : ByteArray) (c : Int) (w : World) :
    Calls Tryz.prog 23 #[.agg #[.string s, .int .i64 c], .agg #[.string s, .int .i64 c]] w fun e w' => e = .returned (.bool true) ∧ Below w.heap.size w w' := by
  go_enter Tryz.func23, Tryz.ntmps23
  go_wp2
  go_ret
  exact ⟨rfl, below_alloc2 _ _ _⟩

end Go.Proofs.YtbcnlggkoidmmaaGreatDoor

namespace Go.Proofs.YtbcnlggkoidmmaaGreatDoor
open Go.RowKit Go.Joins Go.Sort TokMath

theorem eqToken_same (x y z : Int) (W : World) : Calls Tryz.prog 56 #[.agg #[.int .i64 x, .int .i64 y, .int .i64 z], .agg #[.int .i64 x, .int .i64 y, .int .i64 z]] W fun e w' => e = .returned (.bool true) ∧ ∃ k os', w' = grow (W.drewN k) os' := by
  go_enter Tryz.func56, Tryz.ntmps56
  go_wp2_with fail
  go_ret
  exact ⟨rfl, 0, _, by rw [alloc_eq_grow, alloc_eq_grow, grow_grow]; rfl⟩

set_option maxHeartbeats 1600000 in
theorem eqTokenS_same (a b : Option Addr) (n c1 c2 : Nat) (F : Nat → Tok) (w : World) (ha : TCame w a n F) (hb : TCame w b n F) (hn : n ≤ 1048576) :
    Calls Tryz.prog 24 #[.slice a n c1, .slice b n c2] w fun e w' => e = .returned (.bool true) ∧ Below w.heap.size w w' := by
  have mixed : Tryz.prog.follows .mixedOrders = true := by kernel_rfl
  have HA := hid_of ha
  have HB := hid_of hb
  clear ha hb
  go_enter Tryz.func24, Tryz.ntmps24
  go_wp2_with fail
  go_loopw [5] (fun i w' => ∃ (j : Nat), j ≤ n ∧ i = .int .i64 j ∧ Hid (Below w.heap.size w w')) (fun i _ => n - (intOf i).toNat)
  case atStart => exact ⟨0, Nat.zero_le _, rfl, Below.refl _ _⟩
  case round =>
    obtain ⟨j, hj, rfl, hBj⟩ := hrel
    by_cases hlt : j < n
    · rcases HA.out with h0 | ⟨g, off, rfl, hg, hc⟩
      · omega
      · rcases HB.out with h0 | ⟨g', off', rfl, hg', hc'⟩
        · omega
        · have hbg : ∀ n' os, Below w.heap.size w (grow (wr.drewN n') os) := fun n' os => by
            refine hBj.out.trans ⟨rfl, rfl, rfl, ?_, fun k hk => heap_grow_old (wr.drewN n') os (by show k < wr.heap.size; have := hBj.out.size; omega)⟩
            rw [size_grow]
            show wr.heap.size ≤ wr.heap.size + os.size
            omega
          have k0 := fun n' os => ((hbg n' os).cell (p := ⟨g, off + j * 3, none⟩) hg).trans (hc j hlt).1
          have k1 := fun n' os => ((hbg n' os).cell (p := ⟨g, off + j * 3 + 1, none⟩) hg).trans (hc j hlt).2.1
          have k2 := fun n' os => ((hbg n' os).cell (p := ⟨g, off + j * 3 + 2, none⟩) hg).trans (hc j hlt).2.2
          have l0 := fun n' os => ((hbg n' os).cell (p := ⟨g', off' + j * 3, none⟩) hg').trans (hc' j hlt).1
          have l1 := fun n' os => ((hbg n' os).cell (p := ⟨g', off' + j * 3 + 1, none⟩) hg').trans (hc' j hlt).2.1
          have l2 := fun n' os => ((hbg n' os).cell (p := ⟨g', off' + j * 3 + 2, none⟩) hg').trans (hc' j hlt).2.2
          have HBG := hid_of hbg
          have hcb := fun (n' : Nat) (os : Array Obj) => eqToken_same (F j).1 (F j).2.1 (F j).2.2 (grow (wr.drewN n') os)
          generalize (F j).1 = x at k0 l0 hcb
          generalize (F j).2.1 = y at k1 l1 hcb
          generalize (F j).2.2 = z at k2 l2 hcb
          clear hc hc' hbg
          go_wp2_with fail
          go_quiet_grown (refine Calls.grown_of (hcb _ _))
          have HN := hid_of (HBG.out nq osq)
          clear k0 k1 k2 l0 l1 l2 hcb HBG
          generalize grow (wr.drewN nq) osq = w2 at HN
          go_wp2_with fail
          go_roundw
          case rel => exact ⟨j + 1, by omega, by go_num, HN⟩
          case measure => simp [intOf]; omega
    · go_wp2_with fail
      go_ret
      exact ⟨rfl, hBj.out⟩

end Go.Proofs.YtbcnlggkoidmmaaGreatDoor

namespace Go.Proofs.YtbcnlggkoidmmaaGreatDoor
open Go.RowKit Go.Joins TokMath

theorem make_toks (w : World) (n : Nat) (hn : n ≤ 1048576) : (Instr.makeSlice 24 (.int .i64 n) (.int .i64 n)).run Tryz.prog w = .ok (.slice (some ⟨w.heap.size, 0, none⟩) n n) (w.alloc (.cells (madeCells #[.int .i64 0, .int .i64 0, .int .i64 0] (n * 3)) 57)) := by
  obtain ⟨i0, hi0, hz0, hz1, hz2⟩ := info_parts info_tok
  have h := run_make (P := Tryz.prog) w 24 57 i0 (.agg #[.int .i64 0, .int .i64 0, .int .i64 0]) Tryz.underlying24 hi0 hz0 .i64 .i64 n n (by omega) (by omega) (by rw [hz2]; omega) (by omega)
  rw [hz1, Int.toNat_natCast] at h
  exact h
theorem made_tok (n j : Nat) (hj : j < n * 3) : (madeCells #[Value.int .i64 0, .int .i64 0, .int .i64 0] (n * 3))[j]? = some (.int .i64 0) := by
  unfold madeCells
  rw [Array.getElem?_map, Array.getElem?_range, if_pos hj]
  show some ((#[Value.int .i64 0, .int .i64 0, .int .i64 0])[j % 3]!) = _
  have h : j % 3 < 3 := Nat.mod_lt _ (by omega)
  generalize j % 3 = q at h
  match q, h with
  | 0, _ => rfl
  | 1, _ => rfl
  | 2, _ => rfl
theorem TOwn.made (w : World) (base n : Nat) (hb : base ≤ w.heap.size) : TOwn (w.alloc (.cells (madeCells #[.int .i64 0, .int .i64 0, .int .i64 0] (n * 3)) 57)) base w.heap.size n (fun _ => (0, 0, 0)) :=
  ⟨hb, _, heap_alloc_new w _, by rw [size_madeCells]; exact Nat.le_refl _, fun j hj => ⟨made_tok n _ (by omega), made_tok n _ (by omega), made_tok n _ (by omega)⟩⟩

end Go.Proofs.YtbcnlggkoidmmaaGreatDoor

namespace Go.Proofs.YtbcnlggkoidmmaaGreatDoor
open Go.RowKit Go.Joins Go.Sort TokMath

theorem toToken_any (x y z : Int) (w : World) : Calls Tryz.prog 55 #[.agg #[.int .i64 x, .int .i64 y, .int .i64 z]] w fun e w' => e = .returned (.agg #[.int .i64 x, .int .i64 y, .int .i64 z]) ∧ Below w.heap.size w w' := by
  go_enter Tryz.func55, Tryz.ntmps55
  go_wp2_with fail
  exact bodyPost_ret (v := .agg #[.int .i64 x, .int .i64 y, .int .i64 z]) (by simp [results, Tryz.results55, go_sem]) rfl ⟨rfl, bal (bal (bstart _ _) _) _⟩
theorem szTokenS_any (a : Option Addr) (n c : Nat) (z : Int) (w : World) (hn : n ≤ 9223372036854775807) (hz0 : 0 ≤ z) (hz : z ≤ 10000000) : Calls Tryz.prog 19 #[.slice a n c, .int .i64 z] w fun e w' => e = .returned (.int .i64 (if (n : Int) ≤ z then z - n else -1)) ∧ w = w' := by
  by_cases h : (n : Int) ≤ z
  · rw [if_pos h]
    have d : decide (z - (n : Int) < 0) = false := decide_eq_false (by omega)
    go_enter Tryz.func19, Tryz.ntmps19
    go_wp2_with fail
    go_ret
    exact ⟨rfl, rfl⟩
  · rw [if_neg h]
    have d : decide (z - (n : Int) < 0) = true := decide_eq_true (by omega)
    go_enter Tryz.func19, Tryz.ntmps19
    go_wp2_with fail
    go_ret
    exact ⟨rfl, rfl⟩

/-- What the ring of toTokenS has at hand. -/
def TokSt (w w' : World) (n : Nat) (F : Nat → Tok) (j : Nat) : Prop := Below w.heap.size w w' ∧ ∃ cur, w'.heap[w.heap.size]? = some (.cells cur 57 (0, 0)) ∧ cur.size = n * 3 ∧ ∀ i, i < j → cur[i * 3]? = some (.int .i64 (F i).1) ∧ cur[i * 3 + 1]? = some (.int .i64 (F i).2.1) ∧ cur[i * 3 + 2]? = some (.int .i64 (F i).2.2)
theorem TokSt.called {w w1 w2 : World} {n : Nat} {F : Nat → Tok} {j : Nat} (h : TokSt w w1 n F j) (hb : Below w1.heap.size w1 w2) : TokSt w w2 n F j := by
  obtain ⟨h1, cur, h2, h3⟩ := h
  exact ⟨bnext h1 hb, cur, (hb.block _ (block_lt h2)).trans h2, h3⟩
theorem tok_next {w w' : World} {n : Nat} {F : Nat → Tok} {j : Nat} (h : TokSt w w' n F j) (hj : j < n) : TokSt w (((w'.setCell ⟨w.heap.size, j * 3, none⟩ (.int .i64 (F j).1)).setCell ⟨w.heap.size, j * 3 + 1, none⟩ (.int .i64 (F j).2.1)).setCell ⟨w.heap.size, j * 3 + 2, none⟩ (.int .i64 (F j).2.2)) n F (j + 1) := by
  obtain ⟨h1, cur, h2, h3, h4⟩ := h
  refine ⟨((h1.setCell (p := ⟨w.heap.size, j * 3, none⟩) (Nat.le_refl _) _).setCell (p := ⟨w.heap.size, j * 3 + 1, none⟩) (Nat.le_refl _) _).setCell (p := ⟨w.heap.size, j * 3 + 2, none⟩) (Nat.le_refl _) _, ((cur.setIfInBounds (j * 3) (.int .i64 (F j).1)).setIfInBounds (j * 3 + 1) (.int .i64 (F j).2.1)).setIfInBounds (j * 3 + 2) (.int .i64 (F j).2.2), ?_, by simpa using h3, fun i hi => ?_⟩
  · simp [World.setCell, Array.getElem?_modify, h2]
  · by_cases e : i = j
    · subst e
      refine ⟨?_, ?_, ?_⟩
      · rw [Array.getElem?_setIfInBounds_ne (by omega), Array.getElem?_setIfInBounds_ne (by omega), Array.getElem?_setIfInBounds_self_of_lt (by omega)]
      · rw [Array.getElem?_setIfInBounds_ne (by omega), Array.getElem?_setIfInBounds_self_of_lt (by simp; omega)]
      · rw [Array.getElem?_setIfInBounds_self_of_lt (by simp; omega)]
    · obtain ⟨k1, k2, k3⟩ := h4 i (by omega)
      refine ⟨?_, ?_, ?_⟩
      · rw [Array.getElem?_setIfInBounds_ne (by omega), Array.getElem?_setIfInBounds_ne (by omega), Array.getElem?_setIfInBounds_ne (by omega)]; exact k1
      · rw [Array.getElem?_setIfInBounds_ne (by omega), Array.getElem?_setIfInBounds_ne (by omega), Array.getElem?_setIfInBounds_ne (by omega)]; exact k2
      · rw [Array.getElem?_setIfInBounds_ne (by omega), Array.getElem?_setIfInBounds_ne (by omega), Array.getElem?_setIfInBounds_ne (by omega)]; exact k3
theorem tok_cell {w w' : World} {n : Nat} {F : Nat → Tok} {j : Nat} (h : TokSt w w' n F j) : w.heap.size < w'.heap.size ∧ (∀ k, w'.frozen? ⟨w.heap.size, k, none⟩ = false) ∧ (∀ k, k < n * 3 → ∃ u, w'.cell? ⟨w.heap.size, k, none⟩ = some u) := by
  obtain ⟨h1, cur, h2, h3, h4⟩ := h
  refine ⟨block_lt h2, fun k => by simp [World.frozen?, h2], fun k hk => ?_⟩
  rw [cell_of_block h2]
  exact ⟨cur[k]'(by omega), Array.getElem?_eq_getElem (by omega)⟩

set_option maxHeartbeats 1600000 in
theorem toTokenS_any (a : Option Addr) (n c : Nat) (F : Nat → Tok) (w : World) (hC : TCame w a n F) (hn : n ≤ 1048576) :
    Calls Tryz.prog 22 #[.slice a n c] w fun e w' => e = .returned (.slice (some ⟨w.heap.size, 0, none⟩) n n) ∧ TOwn w' w.heap.size w.heap.size n F ∧ Below w.heap.size w w' := by
  have HC := hid_of hC
  have hmk := make_toks w n hn
  have H0 : Hid (TokSt w (w.alloc (.cells (madeCells #[.int .i64 0, .int .i64 0, .int .i64 0] (n * 3)) 57)) n F 0) := ⟨bstart _ _, _, heap_alloc_new w _, by rw [size_madeCells], fun i hi => absurd hi (Nat.not_lt_zero i)⟩
  generalize w.alloc (.cells (madeCells #[.int .i64 0, .int .i64 0, .int .i64 0] (n * 3)) 57) = w0 at hmk H0
  clear hC
  go_enter Tryz.func22, Tryz.ntmps22
  go_wp2_with fail
  go_loopw [4] (fun i w' => ∃ j : Nat, j ≤ n ∧ i = .int .i64 j ∧ Hid (TokSt w w' n F j)) (fun i _ => n - (intOf i).toNat)
  case atStart => exact ⟨0, Nat.zero_le _, rfl, H0⟩
  case round =>
    clear H0 hmk
    obtain ⟨j, hj, rfl, hS⟩ := hrel
    by_cases hlt : j < n
    · rcases HC.out with h0 | ⟨g, off, rfl, hg, hc⟩
      · omega
      · have c0 : wr.cell? ⟨g, off + j * 3, none⟩ = some (.int .i64 (F j).1) := (hS.out.1.cell (p := ⟨g, off + j * 3, none⟩) hg).trans (hc j hlt).1
        have c1 : wr.cell? ⟨g, off + j * 3 + 1, none⟩ = some (.int .i64 (F j).2.1) := (hS.out.1.cell (p := ⟨g, off + j * 3 + 1, none⟩) hg).trans (hc j hlt).2.1
        have c2 : wr.cell? ⟨g, off + j * 3 + 2, none⟩ = some (.int .i64 (F j).2.2) := (hS.out.1.cell (p := ⟨g, off + j * 3 + 2, none⟩) hg).trans (hc j hlt).2.2
        have hl2 : g < wr.heap.size := Nat.lt_of_lt_of_le hg hS.out.1.size
        clear hc
        obtain ⟨x, hx⟩ : ∃ x, x = (F j).1 := ⟨_, rfl⟩
        obtain ⟨y, hy⟩ : ∃ y, y = (F j).2.1 := ⟨_, rfl⟩
        obtain ⟨z, hz⟩ : ∃ z, z = (F j).2.2 := ⟨_, rfl⟩
        rw [← hx] at c0
        rw [← hy] at c1
        rw [← hz] at c2
        have HXY := hid_of (And.intro hx (And.intro hy hz))
        clear hx hy hz
        go_wp2_with fail
        refine (toToken_any x y z wr).mono ?_
        rintro e w1 ⟨rfl, hB⟩
        have HS1 := hid_of (hS.out.called hB)
        clear hB
        obtain ⟨p1, p2, p3⟩ := tok_cell HS1.out
        obtain ⟨u0, q0⟩ := p3 (j * 3) (by omega)
        obtain ⟨u1, q1⟩ := p3 (j * 3 + 1) (by omega)
        obtain ⟨u2, q2⟩ := p3 (j * 3 + 2) (by omega)
        have HS2 : Hid (TokSt w (((w1.setCell ⟨w.heap.size, j * 3, none⟩ (.int .i64 x)).setCell ⟨w.heap.size, j * 3 + 1, none⟩ (.int .i64 y)).setCell ⟨w.heap.size, j * 3 + 2, none⟩ (.int .i64 z)) n F (j + 1)) := by
          have h := tok_next HS1.out hlt
          rw [← HXY.out.1, ← HXY.out.2.1, ← HXY.out.2.2] at h
          exact h
        clear p3
        go_wp2_with fail
        go_roundw
        case rel => exact ⟨j + 1, by omega, by go_num, HS2⟩
        case measure => simp [intOf]; omega
    · obtain rfl : j = n := by omega
      have HZ : Hid (TOwn wr w.heap.size w.heap.size j F ∧ Below w.heap.size w wr) := by
        obtain ⟨h1, cur, h2, h3, h4⟩ := hS.out
        exact ⟨⟨Nat.le_refl _, cur, h2, by omega, h4⟩, h1⟩
      go_wp2_with fail
      go_ret
      exact ⟨rfl, HZ.out⟩

end Go.Proofs.YtbcnlggkoidmmaaGreatDoor
