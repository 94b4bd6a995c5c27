/-
  Slices of Runs, by what stands where, and the walks of the laws' helpers over them.
-/
import Derived.Test.YtjdfmbdcfdafjaaRows
import Derived.Test.YtjdfmbdcfdafjaaBase
import Derived.Test.YtjdfmbdcfdafjaaIntsLib
import Derived.Test.YtjdfmbdcfdafjaaRunsMath
import Derived.Test.YtjdfmbdcfdafjaaDuoLib
import Derived.WalkKit
import Derived.ProofKit
import Derived.WalkLawsBesides
import Derived.Below
import Derived.Sort.Grow
import Derived.Shelf.SlSortCmp.QuietGrown
import Derived.Lib.SmallJoins
namespace Go.Proofs.Ytjdfmbdcfdafjaa
open Go.RowKit Go.Joins Go.Sort

/-- A slice of Runs that came in. -/
def DCame (w : World) (a : Option Addr) (n : Nat) (F : Nat → Int × Int) : Prop :=
  n = 0 ∨ ∃ g off, a = some ⟨g, off, none⟩ ∧ g < w.heap.size ∧ ∀ j, j < n → w.cell? ⟨g, off + j * 2, none⟩ = some (.int .i64 (F j).1) ∧ w.cell? ⟨g, off + j * 2 + 1, none⟩ = some (.int .i64 (F j).2)
theorem DCame.called {w w' : World} {a : Option Addr} {n : Nat} {F : Nat → Int × Int} (h : DCame w a n F) (hb : Below w.heap.size w w') : DCame w' a n F := by
  rcases h with h | ⟨g, off, ha, hg, hc⟩
  · exact .inl h
  · exact .inr ⟨g, off, ha, Nat.lt_of_lt_of_le hg hb.size, fun j hj => ⟨(hb.cell (p := ⟨g, off + j * 2, none⟩) hg).trans (hc j hj).1, (hb.cell (p := ⟨g, off + j * 2 + 1, none⟩) hg).trans (hc j hj).2⟩⟩
theorem DCame.grown {w w' : World} {a : Option Addr} {n B : Nat} {F : Nat → Int × Int} {row : Option Nat} (h : DCame w a n F) (hB : ∀ g off, a = some ⟨g, off, none⟩ → g < B) (hr : ∀ k, row = some k → B ≤ k) (hg : w.grownBy w' row) : DCame w' a n F := by
  rcases h with h | ⟨g, off, ha, hlt, hc⟩
  · exact .inl h
  · have hne : some g ≠ row := fun e => by have h1 := hB g off ha; have h2 := hr g e.symm; omega
    have hb := hg.block g hlt hne
    exact .inr ⟨g, off, ha, Nat.lt_of_lt_of_le hlt hg.size, fun j hj => ⟨(World.cell?_of_block (w := w) hb).trans (hc j hj).1, (World.cell?_of_block (w := w) hb).trans (hc j hj).2⟩⟩
/-- The slice at the head of block g is the call's own. -/
def DOwn (w : World) (base g n : Nat) (F : Nat → Int × Int) : Prop := base ≤ g ∧ ∃ cur, w.heap[g]? = some (.cells cur 32 (0, 0)) ∧ n * 2 ≤ cur.size ∧ ∀ j, j < n → cur[j * 2]? = some (.int .i64 (F j).1) ∧ cur[j * 2 + 1]? = some (.int .i64 (F j).2)
theorem DOwn.lt {w : World} {base g n : Nat} {F : Nat → Int × Int} (h : DOwn w base g n F) : g < w.heap.size := by
  obtain ⟨_, cur, h2, _⟩ := h
  exact block_lt h2
theorem DOwn.keep {w w' : World} {base g n : Nat} {F : Nat → Int × Int} (h : DOwn w base g n F) (hk : w'.heap[g]? = w.heap[g]?) : DOwn w' base g n F := by
  obtain ⟨h1, cur, h2, h3⟩ := h
  exact ⟨h1, cur, hk.trans h2, h3⟩
theorem DOwn.called {w w' : World} {base g n : Nat} {F : Nat → Int × Int} (h : DOwn w base g n F) (hb : Below w.heap.size w w') : DOwn w' base g n F := h.keep (hb.block g h.lt)
theorem DOwn.came {w : World} {base g n : Nat} {F : Nat → Int × Int} (h : DOwn w base g n F) : DCame w (some ⟨g, 0, none⟩) n F := by
  refine .inr ⟨g, 0, rfl, h.lt, fun j hj => ?_⟩
  obtain ⟨_, cur, h2, h3, h4⟩ := h
  rw [Nat.zero_add, cell_of_block h2, cell_of_block h2]
  exact h4 j hj
theorem DOwn.free {w : World} {base g n : Nat} {F : Nat → Int × Int} (h : DOwn w base g n F) (k : Nat) : w.frozen? ⟨g, k, none⟩ = false := by
  obtain ⟨_, cur, h2, _⟩ := h
  simp [World.frozen?, h2]
/-- F with x at the place j. -/
def updD (F : Nat → Int × Int) (j : Nat) (x : Int × Int) : Nat → Int × Int := fun i => if i = j then x else F i
theorem DOwn.set {w : World} {base g n : Nat} {F : Nat → Int × Int} (h : DOwn w base g n F) (j : Nat) (hj : j < n) (x y : Int) : DOwn ((w.setCell ⟨g, j * 2, none⟩ (.int .i64 x)).setCell ⟨g, j * 2 + 1, none⟩ (.int .i64 y)) base g n (updD F j (x, y)) := by
  obtain ⟨h1, cur, h2, h3, h4⟩ := h
  refine ⟨h1, (cur.setIfInBounds (j * 2) (.int .i64 x)).setIfInBounds (j * 2 + 1) (.int .i64 y), ?_, by simpa using h3, fun i hi => ?_⟩
  · simp [World.setCell, Array.getElem?_modify, h2]
  · obtain ⟨k1, k2⟩ := h4 i hi
    unfold updD
    by_cases e : i = j
    · subst e
      rw [if_pos rfl]
      refine ⟨?_, ?_⟩
      · rw [Array.getElem?_setIfInBounds_ne (by omega), Array.getElem?_setIfInBounds_self_of_lt (by omega)]
      · rw [Array.getElem?_setIfInBounds_self_of_lt (by simp; omega)]
    · rw [if_neg e]
      refine ⟨?_, ?_⟩
      · rw [Array.getElem?_setIfInBounds_ne (by omega), Array.getElem?_setIfInBounds_ne (by omega)]; exact k1
      · rw [Array.getElem?_setIfInBounds_ne (by omega), Array.getElem?_setIfInBounds_ne (by omega)]; exact k2
theorem DOwn.congr {w : World} {base g n : Nat} {F G : Nat → Int × Int} (h : DOwn w base g n F) (e : ∀ j, j < n → F j = G j) : DOwn w base g n G := by
  obtain ⟨h1, cur, h2, h3, h4⟩ := h
  exact ⟨h1, cur, h2, h3, fun j hj => by rw [← e j hj]; exact h4 j hj⟩
/-- A slice that was handed back. -/
def DSL (w : World) (base : Nat) (a : Option Addr) (n : Nat) (F : Nat → Int × Int) : Prop := n = 0 ∨ ∃ g, a = some ⟨g, 0, none⟩ ∧ DOwn w base g n F
theorem DSL.came {w : World} {base : Nat} {a : Option Addr} {n : Nat} {F : Nat → Int × Int} (h : DSL w base a n F) : DCame w a n F := by
  rcases h with h | ⟨g, rfl, h⟩
  · exact .inl h
  · exact h.came
theorem DSL.called {w w' : World} {base : Nat} {a : Option Addr} {n : Nat} {F : Nat → Int × Int} (h : DSL w base a n F) (hb : Below w.heap.size w w') : DSL w' base a n F := by
  rcases h with h | ⟨g, rfl, h⟩
  · exact .inl h
  · exact .inr ⟨g, rfl, h.called hb⟩
/-- What a call owns, by its places. -/
theorem dsl_of_own {w : World} {S n : Nat} {v : Value} {L : List (Int × Int)} (h : w.ownsRow S 32 2 v n (dcells L)) (hn : n = L.length) : ∃ a c, v = .slice a L.length c ∧ DSL w S a L.length (fun j => L.getD j (0, 0)) := by
  subst hn
  rcases h.2 with ⟨rfl, h0⟩ | ⟨g, cap, cur, rfl, hb, hg, hc, hm, hs, ht⟩
  · exact ⟨none, 0, by rw [h0], .inl h0⟩
  · refine ⟨_, cap, rfl, .inr ⟨g, rfl, hb, cur, hg, by omega, fun j hj => ?_⟩⟩
    have k1 := h.cellAt (j * 2) (by omega)
    have k2 := h.cellAt (j * 2 + 1) (by omega)
    rw [cell_of_block hg] at k1 k2
    rw [k1, k2]
    exact ⟨dcells_get0 L j hj, dcells_get1 L j hj⟩

theorem eqRun_same (x y : Int) (W : World) : Calls Try.prog 33 #[.agg #[.int .i64 x, .int .i64 y], .agg #[.int .i64 x, .int .i64 y]] W fun e w' => e = .returned (.bool true) ∧ ∃ k os', w' = grow (W.drewN k) os' := by
  go_enter Try.func33, Try.ntmps33
  go_wp2_with fail
  go_ret
  exact ⟨rfl, 0, _, by rw [alloc_eq_grow, alloc_eq_grow, grow_grow]; rfl⟩

set_option maxHeartbeats 800000 in
theorem eqRunS_same (a b : Option Addr) (n c1 c2 : Nat) (F : Nat → Int × Int) (w : World) (ha : DCame w a n F) (hb : DCame w b n F) (hn : n ≤ 1048576) :
    Calls Try.prog 15 #[.slice a n c1, .slice b n c2] w fun e w' => e = .returned (.bool true) ∧ Below w.heap.size w w' := by
  have mixed : Try.prog.follows .mixedOrders = true := by kernel_rfl
  have HA := hid_of ha
  have HB := hid_of hb
  clear ha hb
  go_enter Try.func15, Try.ntmps15
  go_wp2_with fail
  go_loopw [5] (fun i w' => ∃ (j : Nat), j ≤ n ∧ i = .int .i64 j ∧ Hid (Below w.heap.size w w')) (fun i _ => n - (intOf i).toNat)
  case atStart => exact ⟨0, Nat.zero_le _, rfl, Below.refl _ _⟩
  case round =>
    obtain ⟨j, hj, rfl, hBj⟩ := hrel
    by_cases hlt : j < n
    · rcases HA.out with h0 | ⟨g, off, rfl, hg, hc⟩
      · omega
      · rcases HB.out with h0 | ⟨g', off', rfl, hg', hc'⟩
        · omega
        · have hbg : ∀ n' os, Below w.heap.size w (grow (wr.drewN n') os) := fun n' os => by
            refine hBj.out.trans ⟨rfl, rfl, rfl, ?_, fun k hk => heap_grow_old (wr.drewN n') os (by show k < wr.heap.size; have := hBj.out.size; omega)⟩
            rw [size_grow]
            show wr.heap.size ≤ wr.heap.size + os.size
            omega
          have k0 := fun n' os => ((hbg n' os).cell (p := ⟨g, off + j * 2, none⟩) hg).trans (hc j hlt).1
          have k1 := fun n' os => ((hbg n' os).cell (p := ⟨g, off + j * 2 + 1, none⟩) hg).trans (hc j hlt).2
          have k2 := fun n' os => ((hbg n' os).cell (p := ⟨g', off' + j * 2, none⟩) hg').trans (hc' j hlt).1
          have k3 := fun n' os => ((hbg n' os).cell (p := ⟨g', off' + j * 2 + 1, none⟩) hg').trans (hc' j hlt).2
          have HBG := hid_of hbg
          have hcb := fun (n' : Nat) (os : Array Obj) => eqRun_same (F j).1 (F j).2 (grow (wr.drewN n') os)
          generalize (F j).1 = x at k0 k2 hcb
          generalize (F j).2 = y at k1 k3 hcb
          clear hc hc' hbg
          go_wp2_with fail
          go_quiet_grown (refine Calls.grown_of (hcb _ _))
          have HN := hid_of (HBG.out nq osq)
          clear k0 k1 k2 k3 hcb HBG
          generalize grow (wr.drewN nq) osq = w2 at HN
          go_wp2_with fail
          go_roundw
          case rel => exact ⟨j + 1, by omega, by go_num, HN⟩
          case measure => simp [intOf]; omega
    · go_wp2_with fail
      go_ret
      exact ⟨rfl, hBj.out⟩

/-- What stands there behind the mark. -/
def marked (k : Int) (j : Nat) : Int × Int := (k + 2 * j, k + 2 * j + 1)
set_option maxHeartbeats 800000 in
theorem heldRunS_same (a : Option Addr) (n c : Nat) (k : Int) (w : World) (ha : DCame w a n (marked k)) (hn : n ≤ 1048576) (h0 : 0 ≤ k) (h1 : k ≤ 10000000) :
    Calls Try.prog 19 #[.slice a n c, .int .i64 k] w fun e w' => e = .returned (.int .i64 (k + 2 * n)) ∧ w' = w := by
  have HA := hid_of ha
  clear ha
  go_enter Try.func19, Try.ntmps19
  go_wp2_with fail
  go_loop [1, 5] (fun z i => ∃ (j : Nat), j ≤ n ∧ i = .int .i64 j ∧ z = .int .i64 (k + 2 * j)) (fun _ i => n - (intOf i).toNat)
  case atStart => exact ⟨0, Nat.zero_le _, rfl, by simp⟩
  case round =>
    obtain ⟨j, hj, rfl, rfl⟩ := hrel
    by_cases hlt : j < n
    · rcases HA.out with q | ⟨g, off, rfl, hg, hc⟩
      · omega
      · obtain ⟨c0, c1⟩ := hc j hlt
        have e0 : (marked k j).1 = k + 2 * j := rfl
        have e1 : (marked k j).2 = k + 2 * j + 1 := rfl
        rw [e0] at c0
        rw [e1] at c1
        clear hc e0 e1
        go_wp2_with fail
        go_round
        case rel => exact ⟨j + 1, by omega, by go_num, by first | go_num | (congr 1; omega)⟩
        case measure => simp [intOf]; omega
    · obtain rfl : j = n := by omega
      go_wp2_with fail
      go_ret
      exact ⟨rfl, rfl⟩

/-- What the ring of the mark has at hand. -/
def MarkSt (w w' : World) (base g n : Nat) (F : Nat → Int × Int) (k : Int) (j : Nat) : Prop := DOwn w' base g n (fun i => if i < j then marked k i else F i) ∧ w.grownBy w' (some g)
theorem mark_next {w w' : World} {base g n : Nat} {F : Nat → Int × Int} {k : Int} {j : Nat} (h : MarkSt w w' base g n F k j) (hj : j < n) : MarkSt w ((w'.setCell ⟨g, j * 2, none⟩ (.int .i64 (k + 2 * j))).setCell ⟨g, j * 2 + 1, none⟩ (.int .i64 (k + 2 * j + 1))) base g n F k (j + 1) := by
  obtain ⟨h1, h2⟩ := h
  refine ⟨(h1.set j hj _ _).congr (fun i _ => ?_), ⟨h2.os, h2.tape, h2.output, by simpa using h2.size, fun b hb hne => ?_⟩⟩
  · unfold updD
    by_cases e : i = j
    · rw [if_pos e, if_pos (by omega), e]
      rfl
    · rw [if_neg e]
      show (if i < j then marked k i else F i) = _
      by_cases q : i < j
      · rw [if_pos q, if_pos (by omega)]
      · rw [if_neg q, if_neg (by omega)]
  · have hbg : b ≠ g := fun e => hne (by rw [e])
    rw [Below.heap_setCell _ _ _ _ hbg, Below.heap_setCell _ _ _ _ hbg]
    exact h2.block b hb hne

set_option maxHeartbeats 800000 in
theorem markRunS_own (base g n c : Nat) (F : Nat → Int × Int) (k : Int) (w : World) (ha : DOwn w base g n F) (hn : n ≤ 1048576) (h0 : 0 ≤ k) (h1 : k ≤ 10000000) :
    Calls Try.prog 18 #[.slice (some ⟨g, 0, none⟩) n c, .int .i64 k] w fun e w' => e = .returned (.int .i64 (k + 2 * n)) ∧ DOwn w' base g n (marked k) ∧ w.grownBy w' (some g) := by
  have H0 : Hid (MarkSt w w base g n F k 0) := ⟨ha.congr (fun i _ => by rw [if_neg (Nat.not_lt_zero i)]), ⟨rfl, rfl, rfl, Nat.le_refl _, fun _ _ _ => rfl⟩⟩
  clear ha
  go_enter Try.func18, Try.ntmps18
  go_wp2_with fail
  go_loopw [1, 5] (fun z i w' => ∃ (j : Nat), j ≤ n ∧ i = .int .i64 j ∧ z = .int .i64 (k + 2 * j) ∧ Hid (MarkSt w w' base g n F k j)) (fun _ i _ => n - (intOf i).toNat)
  case atStart => exact ⟨0, Nat.zero_le _, rfl, by simp, H0⟩
  case round =>
    clear H0
    obtain ⟨j, hj, rfl, rfl, hS⟩ := hrel
    by_cases hlt : j < n
    · rcases hS.out.1.came with q | ⟨g', off, e, hg, hc⟩
      · omega
      · cases e
        obtain ⟨c0, c1⟩ := hc j hlt
        rw [Nat.zero_add] at c0 c1
        have fz := hS.out.1.free
        have HS1 := hid_of (mark_next hS.out hlt)
        generalize (if j < j then marked k j else F j) = x at c0 c1
        clear hc
        go_wp2_with fail
        go_roundw
        case rel => exact ⟨j + 1, by omega, by go_num, by first | go_num | (congr 1; omega), HS1⟩
        case measure => simp [intOf]; omega
    · obtain rfl : j = n := by omega
      have HZ : Hid (DOwn wr base g j (marked k) ∧ w.grownBy wr (some g)) := ⟨hS.out.1.congr (fun i hi => by rw [if_pos hi]), hS.out.2⟩
      go_wp2_with fail
      go_ret
      exact ⟨rfl, HZ.out⟩

theorem markRunS_none (a : Option Addr) (c : Nat) (k : Int) (w : World) : Calls Try.prog 18 #[.slice a 0 c, .int .i64 k] w fun e w' => e = .returned (.int .i64 k) ∧ w' = w := by
  go_enter Try.func18, Try.ntmps18
  go_wp2_with fail
  go_loop [1, 5] (fun z i => i = .int .i64 0 ∧ z = .int .i64 k) (fun _ _ => 0)
  case atStart => exact ⟨rfl, rfl⟩
  case round =>
    obtain ⟨rfl, rfl⟩ := hrel
    go_wp2_with fail
    go_ret
    exact ⟨rfl, rfl⟩
theorem markRunS_sl (base : Nat) (a : Option Addr) (n c : Nat) (F : Nat → Int × Int) (k : Int) (w : World) (hS : DSL w base a n F) (hn : n ≤ 1048576) (h0 : 0 ≤ k) (h1 : k ≤ 10000000) :
    Calls Try.prog 18 #[.slice a n c, .int .i64 k] w fun e w' => e = .returned (.int .i64 (k + 2 * n)) ∧ DSL w' base a n (marked k) ∧ ∃ row, (∀ g, row = some g → base ≤ g) ∧ w.grownBy w' row := by
  rcases hS with rfl | ⟨g, rfl, h⟩
  · refine (markRunS_none a c k w).mono ?_
    rintro e w1 ⟨rfl, rfl⟩
    exact ⟨by simp, .inl rfl, none, (fun g hg => by cases hg), ⟨rfl, rfl, rfl, Nat.le_refl _, fun _ _ _ => rfl⟩⟩
  · refine (markRunS_own base g n c F k w h hn h0 h1).mono ?_
    rintro e w1 ⟨rfl, hO, hg⟩
    exact ⟨rfl, .inr ⟨g, rfl, hO⟩, some g, (fun g' hg' => by cases hg'; exact h.1), hg⟩

/-- All that was there; the model's list; the program's list. -/
def RunKeep (W w : World) (B : Nat) (am a : Option Addr) (m : Nat) (F h : Nat → Int × Int) : Prop :=
  Below W.heap.size W w ∧ DCame w am m F ∧ (∀ g off, am = some ⟨g, off, none⟩ → g < B) ∧ B ≤ w.heap.size ∧ W.heap.size ≤ B ∧ DSL w B a m h
theorem RunKeep.next {W w w' : World} {B : Nat} {am a : Option Addr} {m : Nat} {F h : Nat → Int × Int} (k : RunKeep W w B am a m F h) (hb : Below w.heap.size w w') : RunKeep W w' B am a m F h := by
  obtain ⟨k1, k2, k3, k4, k5, k6⟩ := k
  exact ⟨bnext k1 hb, k2.called hb, k3, Nat.le_trans k4 hb.size, k5, k6.called hb⟩
theorem DOwn.grown {w w' : World} {base g n : Nat} {F : Nat → Int × Int} {row : Option Nat} (h : DOwn w base g n F) (hg : w.grownBy w' row) (hne : row ≠ some g) : DOwn w' base g n F := h.keep (hg.block g h.lt (Ne.symm hne))

end Go.Proofs.Ytjdfmbdcfdafjaa
