/-
  The walks of the program's inflated and BlockTypes: unpacking, whole.
  A list of numbers of the call's own, as a slice that was handed back.
  The walks of what the exact laws do with slices of numbers: copied, compared, marked, looked at again.
  The walks of what the exact laws do with slices of numbers: marked, looked at again.
-/
import Derived.Test.YtedbmhelmenknaaDoorPk39
import Derived.Test.YtedbmhelmenknaaDoorPk01
import Derived.Test.YtedbmhelmenknaaDoorPk02
import Derived.Test.YtedbmhelmenknaaDoorPk04
import Derived.Test.YtedbmhelmenknaaDoorRows
import Derived.WalkKit
import Derived.ProofKit
import Derived.WalkLawsBesides
import Derived.OwnWalk
import Derived.Deep.QuietTactic
import Derived.BigQuiet
import Derived.RegionTactic
import Derived.Lib.SmallJoins
namespace Go.Proofs.YtedbmhelmenknaaDoor
open Go.RowKit Go.Joins OutMath CodeMath TakeMath HitMath WayMath StepMath TokMath BookMath InfMath RunsMath

/-- What inflated leaves. -/
def InflPost (w : World) (s : ByteArray) (most : Int) (res : Except Nat (List Int × Nat × List Int)) (e : Ending) (w' : World) : Prop :=
  Below w.heap.size w w' ∧ ((∃ (O : List Int) (p : Nat) (Ty : List Int) (fb rb : Nat) (vo vt : Value) (n : Nat), res = .ok (O, p, Ty) ∧ p ≤ 8 * s.size ∧ Ty.length ≤ p ∧ s.size ≤ 12000 ∧ most = (n : Int) ∧ e = .returned (.tuple #[.pointer (some ⟨fb, 0, none⟩), .nilIface]) ∧ PS w.heap.size w' fb rb s p O n Ty vo vt) ∨ (∃ c, res = .error c ∧ e = .returned (.tuple #[.pointer none, errV c])))
/-- What its ring has at hand. -/
def IpRing (w0 : World) (fb rb : Nat) (s : ByteArray) (most : Nat) (res : Except Nat (List Int × Nat × List Int)) (m p : Nat) (O Ty : List Int) (vo vt : Value) (w' : World) : Prop :=
  PS w0.heap.size w' fb rb s p O most Ty vo vt ∧ Below w0.heap.size w0 w' ∧ OrderG w' ∧ p ≤ 8 * s.size ∧ O.length ≤ most ∧ Ty.length ≤ p ∧ 8 * s.size + 1 ≤ m + p ∧ res = blocksP s most m p O Ty
theorem blocksP_short {s : ByteArray} {most m p : Nat} {O Ty : List Int} (h : ¬ p + 3 ≤ 8 * s.size) : blocksP s most (m + 1) p O Ty = .error 2 := by
  rw [blocksP, if_neg h]
theorem blocksP_err {s : ByteArray} {most m p c : Nat} {O Ty : List Int} (h : p + 3 ≤ 8 * s.size) (e : blockP s most (num s (p + 1) 2) (p + 3) O = .error c) : blocksP s most (m + 1) p O Ty = .error c := by
  rw [blocksP, if_pos h, e]
theorem blocksP_go {s : ByteArray} {most m p : Nat} {O Ty O' : List Int} {p' : Nat} (h : p + 3 ≤ 8 * s.size) (e : blockP s most (num s (p + 1) 2) (p + 3) O = .ok (O', p')) : blocksP s most (m + 1) p O Ty = if num s p 1 = 0 then blocksP s most m p' O' (Ty ++ [num s (p + 1) 2]) else .ok (O', p', Ty ++ [num s (p + 1) 2]) := by
  rw [blocksP, if_pos h, e]
theorem blockP_go {s : ByteArray} {most : Nat} {k : Int} {p : Nat} {O O' : List Int} {p' : Nat} (h : blockP s most k p O = .ok (O', p')) : p ≤ p' := by
  rcases block_alike s most k p O with ⟨r, q1, q2⟩ | ⟨c, c', q1, q2⟩
  · rw [h] at q1
    cases q1
    exact block_go q2
  · rw [h] at q1
    cases q1
set_option maxRecDepth 100000 in
set_option maxHeartbeats 3200000 in
theorem inflated_in (s : ByteArray) (most : Nat) (w : World) (hs : s.size ≤ 12000) (hm : most ≤ 12000) (hG : OrderG w) :
    Calls Tryd.prog 13 #[.string s, .int .i64 (most : Int)] w (InflPost w s most (blocksP s most (8 * s.size + 1) 0 [] [])) := by
  have d1 : decide ((12000 : Int) < (s.size : Int)) = false := decide_eq_false (by omega)
  have d2 : decide (12000 < s.size) = false := decide_eq_false (by omega)
  have d3 : decide ((12000 : Int) < (most : Int)) = false := decide_eq_false (by omega)
  have d4 : decide (12000 < most) = false := decide_eq_false (by omega)
  have d5 : decide ((most : Int) < 0) = false := decide_eq_false (by omega)
  obtain ⟨res, hres⟩ : ∃ res, res = blocksP s most (8 * s.size + 1) 0 [] [] := ⟨_, rfl⟩
  rw [← hres]
  have hGB := hG.1
  have H0 : Hid (IpRing w (w.heap.size + 1) w.heap.size s most res (8 * s.size + 1) 0 [] [] (.slice none 0 0) (.slice none 0 0) ((w.alloc (.cells #[.string s, .int .i64 0] 47)).alloc (.cells #[.pointer (some ⟨w.heap.size, 0, none⟩), .slice none 0 0, .int .i64 (most : Int), .slice none 0 0] 44))) := by
    have hsz : (w.alloc (.cells #[.string s, .int .i64 0] 47)).heap.size = w.heap.size + 1 := World.size_alloc _ _
    have hb : Below w.heap.size w ((w.alloc (.cells #[.string s, .int .i64 0] 47)).alloc (.cells #[.pointer (some ⟨w.heap.size, 0, none⟩), .slice none 0 0, .int .i64 (most : Int), .slice none 0 0] 44)) := bal (bstart w _) _
    refine ⟨⟨?_, ?_, OR.nil _ _, NumRow.nil _ _, .inl rfl, ⟨by simp [Value.ownBlock], by simp [Value.ownBlock]⟩, ⟨by simp [Value.ownBlock], by simp [Value.ownBlock]⟩, by omega, by omega, Nat.le_refl _, hb.size⟩, hb, hG.below hb hGB, by omega, by simp, by simp, by omega, hres⟩
    · have h := heap_alloc_new (w.alloc (.cells #[.string s, .int .i64 0] 47)) (.cells #[.pointer (some ⟨w.heap.size, 0, none⟩), .slice none 0 0, .int .i64 (most : Int), .slice none 0 0] 44)
      rw [hsz] at h
      exact h
    · exact (Below.heap_alloc _ _ _ (by simp)).trans (heap_alloc_new w _)
  clear hres hG
  go_enter Tryd.func13, Tryd.ntmps13
  go_wp2_with fail
  generalize World.alloc (w.alloc _) _ = W at H0
  go_loopg [] (8 * s.size + 2) (fun gk w' => ∃ (m p : Nat) (O Ty : List Int) (vo vt : Value), m ≤ gk ∧ Hid (IpRing w (w.heap.size + 1) w.heap.size s most res m p O Ty vo vt w'))
  case atStart => exact ⟨8 * s.size + 1, 0, [], [], _, _, by omega, H0⟩
  case round =>
    clear H0
    obtain ⟨m, p, O, Ty, vo, vt, hgk, hR⟩ := hrel
    obtain ⟨m1, rfl⟩ : ∃ m1, m = m1 + 1 := ⟨m - 1, by have := hR.out.2.2.2.1; have := hR.out.2.2.2.2.2.2.1; omega⟩
    have htb := takeBlock_any w.heap.size wr (w.heap.size + 1) w.heap.size s p O most Ty vo vt hR.out.1 hs hR.out.2.2.2.1 hm hR.out.2.2.2.2.1 hR.out.2.2.1 hGB (by have := hR.out.2.2.2.1; have := hR.out.2.2.2.2.2.1; omega)
    go_wp2_with fail
    refine htb.mono ?_
    clear htb
    rintro e w1 (⟨O', p', vo', vt', h3, hbk, hp', hO', rfl, hps, hst⟩ | ⟨c, x, hcc, rfl, hbl⟩)
    · have hgo := blocksP_go (m := m1) (Ty := Ty) h3 hbk
      have hmo := blockP_go hbk
      have hb1 := hR.out.2.1.trans (hR.out.1.below hst)
      have hog : OrderG w1 := hR.out.2.2.1.below (hR.out.1.below hst) hGB
      have hTl : (Ty ++ [num s (p + 1) 2]).length ≤ p' := by
        have := hR.out.2.2.2.2.2.1
        rw [List.length_append, List.length_singleton]
        omega
      have hl01 : num s p 1 = 0 ∨ num s p 1 = 1 := by
        have := num_bd s p 1
        rw [show p2 1 = 2 by decide +kernel] at this
        omega
      have hres := hR.out.2.2.2.2.2.2.2.trans hgo
      have hmp := hR.out.2.2.2.2.2.2.1
      rcases hl01 with h0 | h0
      · rw [h0, if_pos rfl] at hres
        have HN : Hid (IpRing w (w.heap.size + 1) w.heap.size s most res m1 p' O' (Ty ++ [num s (p + 1) 2]) vo' vt' w1) := ⟨hps, hb1, hog, hp', hO', hTl, by omega, hres⟩
        rw [h0, show decide ((0 : Int) = 1) = false from rfl]
        clear hR hps hst hb1 hog hres hgo hbk hTl h0
        go_wp2_with fail
        go_roundg m1
        case measure => omega
        case rel => exact ⟨m1, p', O', _, vo', vt', Nat.le_refl _, HN⟩
      · rw [h0, if_neg (by decide)] at hres
        have HP : Hid (InflPost w s most res (.returned (.tuple #[.pointer (some ⟨w.heap.size + 1, 0, none⟩), .nilIface])) w1) := ⟨hb1, .inl ⟨O', p', _, _, _, vo', vt', most, hres, hp', hTl, hs, rfl, rfl, hps⟩⟩
        rw [h0, show decide ((1 : Int) = 1) = true from rfl]
        clear hR hps hst hb1 hog hres hgo hbk hTl h0
        go_wp2_with fail
        go_ret2
        exact HP.out
    · have HP : Hid (InflPost w s most res (.returned (.tuple #[.pointer none, errV c])) w1) := by
        refine ⟨hR.out.2.1.trans hbl, .inr ⟨c, hR.out.2.2.2.2.2.2.2.trans ?_, rfl⟩⟩
        rcases hcc with ⟨q1, q2⟩ | ⟨q1, q2⟩
        · rw [q2]
          exact blocksP_short q1
        · exact blocksP_err q1 q2
      clear hR hcc hbl
      go_wp2_with fail
      go_ret2
      exact HP.out
theorem inflated_long (s : ByteArray) (most : Int) (w : World) (hs : s.size ≤ 1048576) (h : ¬ (s.size ≤ 12000 ∧ 0 ≤ most ∧ most ≤ 12000)) :
    Calls Tryd.prog 13 #[.string s, .int .i64 most] w (InflPost w s most (.error 1)) := by
  have HP : Hid (InflPost w s most (.error 1) (.returned (.tuple #[.pointer none, errV 1])) w) := ⟨Below.refl _ _, .inr ⟨1, rfl, rfl⟩⟩
  by_cases h1 : 12000 < s.size
  · have d1 : decide ((12000 : Int) < (s.size : Int)) = true := decide_eq_true (by omega)
    have d2 : decide (12000 < s.size) = true := decide_eq_true h1
    go_enter Tryd.func13, Tryd.ntmps13
    go_wp2_with fail
    go_ret2
    exact HP.out
  · have d1 : decide ((12000 : Int) < (s.size : Int)) = false := decide_eq_false (by omega)
    have d2 : decide (12000 < s.size) = false := decide_eq_false h1
    by_cases h2 : most < 0
    · have d3 : decide (most < 0) = true := decide_eq_true h2
      go_enter Tryd.func13, Tryd.ntmps13
      go_wp2_with fail
      go_ret2
      exact HP.out
    · have d3 : decide (most < 0) = false := decide_eq_false h2
      have d4 : decide (12000 < most) = true := decide_eq_true (by omega)
      go_enter Tryd.func13, Tryd.ntmps13
      go_wp2_with fail
      go_ret2
      exact HP.out
theorem inflated_any (s : ByteArray) (most : Int) (w : World) (hs : s.size ≤ 1048576) (hG : OrderG w) :
    Calls Tryd.prog 13 #[.string s, .int .i64 most] w (InflPost w s most (inflateP s most)) := by
  unfold inflateP
  by_cases h : s.size ≤ 12000 ∧ 0 ≤ most ∧ most ≤ 12000
  · rw [if_pos h]
    obtain ⟨n, rfl⟩ := Int.eq_ofNat_of_zero_le h.2.1
    exact inflated_in s n w h.1 (by omega) hG
  · rw [if_neg h]
    exact inflated_long s most w hs h
/-- What the program's BlockTypes answers. -/
theorem implTypes_any (s : ByteArray) (most : Int) (w : World) (hs : s.size ≤ 1048576) (hG : OrderG w) :
    Calls Tryd.prog 8 #[.string s, .int .i64 most] w (TypesPost w (inflateP s most)) := by
  have hi := inflated_any s most w hs hG
  generalize inflateP s most = res at *
  go_enter Tryd.func8, Tryd.ntmps8
  go_wp2_with fail
  refine hi.mono ?_
  clear hi
  rintro e w1 ⟨hB, ⟨O, p, Ty, fb, rb, vo, vt, n, hr, hp, hT, hsz, hmo, rfl, hps⟩ | ⟨c, hr, rfl⟩⟩
  · have c3 := hps.1.cells.2.2.2
    have hl := hps.ltf
    obtain ⟨av, cv, hv, _⟩ := hps.2.2.2.1.form
    subst hv
    have HP : Hid (TypesPost w res (.returned (.tuple #[.slice av Ty.length cv, .bool true])) w1) := ⟨hB, .inl ⟨O, p, Ty, av, cv, hr, by omega, rfl, hps.2.2.2.1⟩⟩
    clear hps hB hr
    go_wp2_with fail
    go_ret2
    exact HP.out
  · have HP : Hid (TypesPost w res (.returned (.tuple #[.slice none 0 0, .bool false])) w1) := ⟨hB, .inr ⟨c, none, 0, hr, rfl⟩⟩
    clear hB hr
    go_wp2_with fail
    go_ret2
    exact HP.out
end Go.Proofs.YtedbmhelmenknaaDoor

namespace Go.Proofs.YtedbmhelmenknaaDoor
open Go.RowKit Go.Joins

theorem sl_of_num {w : World} {S : Nat} {a : Option Addr} {n c : Nat} {O : List Int} (h : NumRow w S (.slice a n c) O) (hn : n = O.length) : SL w S a n c (fun j => O.getD j 0) := by
  rcases Nat.eq_zero_or_pos n with h0 | h0
  · exact .inl h0
  · obtain ⟨g, _, ho⟩ := own_of_ownsRow h (by omega)
    obtain ⟨cap, e⟩ := ho.form
    obtain ⟨e1, e2, e3⟩ := Value.slice.inj e
    subst e1 e3
    have e4 : fints (fun j => O.getD j 0) n = ivals O := by
      refine List.ext_getElem? (fun i => ?_)
      rcases Nat.lt_or_ge i O.length with q | q
      · rw [ivals_get O i q, List.getElem?_eq_getElem (by rw [fints_length]; omega), fints_get]
      · rw [List.getElem?_eq_none (by rw [fints_length]; omega), List.getElem?_eq_none (by rw [ivals_length]; exact q)]
    refine .inr ⟨g, rfl, ?_⟩
    unfold IOwn
    rw [e4]
    exact ho

end Go.Proofs.YtedbmhelmenknaaDoor

namespace Go.Proofs.YtedbmhelmenknaaDoor
open Go.RowKit Go.Joins

theorem info_i64 : (Tryd.prog.info? 3).map (fun i => (i.zero, i.size, i.bytes)) = some (some (.int .i64 0), 1, 8) := by kernel_rfl

set_option maxHeartbeats 800000 in
theorem eqIntS_same (a b : Option Addr) (n c1 c2 : Nat) (f : Nat → Int) (w : World) (ha : Came w a n f) (hb : Came w b n f) (hn : n ≤ 1048576) :
    Calls Tryd.prog 9 #[.slice a n c1, .slice b n c2] w fun e w' => e = .returned (.bool true) ∧ Below w.heap.size w w' := by
  have HA : Hid (Came w a n f) := ha
  have HB : Hid (Came w b n f) := hb
  clear ha hb
  go_enter Tryd.func9, Tryd.ntmps9
  go_wp2_with fail
  go_loopw [5] (fun i w' => ∃ (j : Nat), j ≤ n ∧ i = .int .i64 j ∧ Hid (Below w.heap.size w w')) (fun i _ => n - (intOf i).toNat)
  case atStart => exact ⟨0, Nat.zero_le _, rfl, Below.refl _ _⟩
  case round =>
    obtain ⟨j, hj, rfl, hBj⟩ := hrel
    by_cases hlt : j < n
    · rcases HA.out with h0 | ⟨g, off, rfl, hg, hc⟩
      · omega
      · rcases HB.out with h0 | ⟨g', off', rfl, hg', hc'⟩
        · omega
        · have k0 : wr.cell? ⟨g, off + j, none⟩ = some (.int .i64 (f j)) := (hBj.out.cell (p := ⟨g, off + j, none⟩) hg).trans (hc j hlt)
          have k1 : wr.cell? ⟨g', off' + j, none⟩ = some (.int .i64 (f j)) := (hBj.out.cell (p := ⟨g', off' + j, none⟩) hg').trans (hc' j hlt)
          have l0 : g < wr.heap.size := Nat.lt_of_lt_of_le hg hBj.out.size
          have l1 : g' < wr.heap.size := Nat.lt_of_lt_of_le hg' hBj.out.size
          clear hc hc'
          go_wp2_with fail
          go_region
          all_goals
            go_wp2_with fail
            go_roundw
            case rel => exact ⟨j + 1, by omega, by go_num, hBj.out.drew⟩
            case measure => simp [intOf]; omega
    · go_wp2_with fail
      go_ret
      exact ⟨rfl, hBj.out⟩

/-- What is the call's own, as something that came in. -/
theorem IOwn.came {w : World} {base g n cap : Nat} {f : Nat → Int} (h : IOwn w base g n cap f) : Came w (some ⟨g, 0, none⟩) n f :=
  .inr ⟨g, 0, rfl, h.lt, fun j hj => by rw [Nat.zero_add]; exact h.cell j hj⟩

end Go.Proofs.YtedbmhelmenknaaDoor

namespace Go.Proofs.YtedbmhelmenknaaDoor
open Go.RowKit Go.Joins

set_option maxHeartbeats 800000 in
/-- Marked: every number turned, and nothing besides. -/
theorem markIntS_own (base g n cap : Nat) (f : Nat → Int) (k : Int) (w : World) (hO : IOwn w base g n cap f) (hn : n ≤ 1048576) (hk0 : 0 ≤ k) (hk1 : k ≤ 1073741824) :
    Calls Tryd.prog 10 #[.slice (some ⟨g, 0, none⟩) n cap, .int .i64 k] w fun e w' => e = .returned (.int .i64 (k + n)) ∧ IOwn w' base g n cap (fun j => k + j) ∧ w.grownBy w' (some g) := by
  have HO : Hid (IOwn w base g n cap f) := hO
  clear hO
  go_enter Tryd.func10, Tryd.ntmps10
  go_wp2_with fail
  go_loopw [1, 5] (fun x i w' => ∃ (j : Nat) (h : Nat → Int), j ≤ n ∧ i = .int .i64 j ∧ x = .int .i64 (k + j) ∧ Hid (∀ i, i < j → h i = k + i) ∧ Hid (IOwn w' base g n cap h) ∧ Hid (w.grownBy w' (some g))) (fun _ i _ => n - (intOf i).toNat)
  case atStart => exact ⟨0, _, Nat.zero_le _, rfl, by simp, fun i hi => absurd hi (Nat.not_lt_zero i), HO, ⟨rfl, rfl, rfl, Nat.le_refl _, fun _ _ _ => rfl⟩⟩
  case round =>
    obtain ⟨j, h, hj, rfl, rfl, hh, hOj, hBj⟩ := hrel
    by_cases hlt : j < n
    · have c1 := hOj.out.cell j hlt
      have f1 := hOj.out.free j hlt
      have hl := hOj.out.lt
      have HO1 : Hid (IOwn (wr.setCell ⟨g, j, none⟩ (.int .i64 (k + j))) base g n cap (upd h j (k + j))) := hOj.out.set j hlt _
      have HB1 : Hid (w.grownBy (wr.setCell ⟨g, j, none⟩ (.int .i64 (k + j))) (some g)) := ⟨hBj.out.os, hBj.out.tape, hBj.out.output, by simpa using hBj.out.size, fun b hb hne => (Below.heap_setCell wr ⟨g, j, none⟩ _ b (by simpa using hne)).trans (hBj.out.block b hb hne)⟩
      have HH : Hid (∀ i, i < j + 1 → upd h j (k + j) i = k + i) := by
        intro i hi
        unfold upd
        by_cases e : i = j
        · rw [if_pos e, e]
        · rw [if_neg e]; exact hh.out i (by omega)
      go_wp2_with fail
      go_roundw
      case rel => exact ⟨j + 1, _, by omega, by go_num, by go_num, HH, HO1, HB1⟩
      case measure => simp [intOf]; omega
    · obtain rfl : j = n := by omega
      go_wp2_with fail
      go_ret
      exact ⟨rfl, hOj.out.congr hh.out, hBj.out⟩

/-- Nothing is marked in an empty slice. -/
theorem markIntS_none (a : Option Addr) (cap : Nat) (k : Int) (w : World) :
    Calls Tryd.prog 10 #[.slice a 0 cap, .int .i64 k] w fun e w' => e = .returned (.int .i64 k) ∧ w' = w := by
  go_enter Tryd.func10, Tryd.ntmps10
  go_wp2_with fail
  go_loop [1, 5] (fun x i => x = .int .i64 k ∧ i = .int .i64 0) (fun _ _ => 0)
  case atStart => exact ⟨rfl, rfl⟩
  case round =>
    obtain ⟨rfl, rfl⟩ := hrel
    go_wp2_with fail
    go_ret
    exact ⟨rfl, rfl⟩

set_option maxHeartbeats 800000 in
/-- Held: each number is what it was marked with. -/
theorem heldIntS_same (a : Option Addr) (n cap : Nat) (k : Int) (w : World) (hC : Came w a n (fun j => k + j)) (hn : n ≤ 1048576) (hk0 : 0 ≤ k) (hk1 : k ≤ 1073741824) :
    Calls Tryd.prog 11 #[.slice a n cap, .int .i64 k] w fun e w' => e = .returned (.int .i64 (k + n)) ∧ Below w.heap.size w w' := by
  have HC : Hid (Came w a n (fun j => k + j)) := hC
  clear hC
  go_enter Tryd.func11, Tryd.ntmps11
  go_wp2_with fail
  go_loopw [1, 5] (fun x i w' => ∃ (j : Nat), j ≤ n ∧ i = .int .i64 j ∧ x = .int .i64 (k + j) ∧ Hid (Below w.heap.size w w')) (fun _ i _ => n - (intOf i).toNat)
  case atStart => exact ⟨0, Nat.zero_le _, rfl, by simp, Below.refl _ _⟩
  case round =>
    obtain ⟨j, hj, rfl, rfl, hBj⟩ := hrel
    by_cases hlt : j < n
    · rcases HC.out with h0 | ⟨g, off, rfl, hg, hc⟩
      · omega
      · have k0 : wr.cell? ⟨g, off + j, none⟩ = some (.int .i64 (k + j)) := (hBj.out.cell (p := ⟨g, off + j, none⟩) hg).trans (hc j hlt)
        have l0 : g < wr.heap.size := Nat.lt_of_lt_of_le hg hBj.out.size
        clear hc
        go_wp2_with fail
        go_roundw
        case rel => exact ⟨j + 1, by omega, by go_num, by go_num, hBj.out⟩
        case measure => simp [intOf]; omega
    · obtain rfl : j = n := by omega
      go_wp2_with fail
      go_ret
      exact ⟨rfl, hBj.out⟩

/-- Marked: a slice that was handed back. -/
theorem markIntS_sl (base : Nat) (a : Option Addr) (n cap : Nat) (f : Nat → Int) (k : Int) (w : World) (hS : SL w base a n cap f) (hn : n ≤ 1048576) (hk0 : 0 ≤ k) (hk1 : k ≤ 1073741824) :
    Calls Tryd.prog 10 #[.slice a n cap, .int .i64 k] w fun e w' => e = .returned (.int .i64 (k + n)) ∧ SL w' base a n cap (fun j => k + j) ∧ ∃ row, (∀ g, row = some g → base ≤ g) ∧ w.grownBy w' row := by
  rcases hS with rfl | ⟨g, rfl, h⟩
  · refine (markIntS_none a cap k w).mono ?_
    rintro e w1 ⟨rfl, rfl⟩
    exact ⟨by simp, .inl rfl, none, (fun g hg => by cases hg), ⟨rfl, rfl, rfl, Nat.le_refl _, fun _ _ _ => rfl⟩⟩
  · refine (markIntS_own base g n cap f k w h hn hk0 hk1).mono ?_
    rintro e w1 ⟨rfl, hO, hg⟩
    exact ⟨rfl, .inr ⟨g, rfl, hO⟩, some g, (fun g' hg' => by cases hg'; exact h.base_le), hg⟩

end Go.Proofs.YtedbmhelmenknaaDoor
