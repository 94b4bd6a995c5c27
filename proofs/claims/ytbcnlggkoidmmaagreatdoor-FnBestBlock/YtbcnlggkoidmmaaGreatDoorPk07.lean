/-
  The walks of what Runs tell in the document's model, and of lists of numbers of a call's own.
  What is handed back, by its number. Nothing here speaks of the program.
  The walk of the model's powers of two.
  A byte of a text, read.
-/
import Derived.Test.YtbcnlggkoidmmaaGreatDoorRows
import Derived.Test.YtbcnlggkoidmmaaGreatDoorPk01
import Derived.Test.YtbcnlggkoidmmaaGreatDoorPk03
import Derived.Test.YtbcnlggkoidmmaaGreatDoorPk06
import Derived.Test.YtbcnlggkoidmmaaGreatDoorPk05
import Derived.Test.YtbcnlggkoidmmaaGreatDoorPk04
import Derived.WalkKit
import Derived.ProofKit
import Derived.WalkLawsBesides
import Derived.Deep.LoopGhost
import Derived.OwnWalk
import Derived.Deep.AppendLies
import Derived.Maps.AppendAt
import Derived.Laws.AppendOwnNone
import Derived.Lib.SmallJoins
import Derived.Deep.QuietTactic
import Derived.BigQuiet
namespace Go.Proofs.YtbcnlggkoidmmaaGreatDoor
open Go.RowKit Go.Joins RunsMath

theorem info_int : (Tryz.prog.info? 3).map (fun i => (i.zero, i.size, i.bytes)) = some (some (.int .i64 0), 1, 8) := by kernel_rfl
/-- The cells of numbers. -/
def ivals (l : List Int) : List Value := l.map fun x => Value.int .i64 x
theorem ivals_length (l : List Int) : (ivals l).length = l.length := by simp [ivals]
theorem ivals_app (xs ys : List Int) : ivals (xs ++ ys) = ivals xs ++ ivals ys := by simp [ivals]
theorem ivals_get (l : List Int) (i : Nat) (h : i < l.length) : (ivals l)[i]? = some (.int .i64 (l.getD i 0)) := by
  unfold ivals
  rw [List.getElem?_map, List.getElem?_eq_getElem h, List.getD_eq_getElem?_getD, List.getElem?_eq_getElem h]
  rfl
theorem ivals_one (l : List Int) : ∀ u ∈ ivals l, u.oneCell' = true := by
  intro u hu
  obtain ⟨x, _, rfl⟩ := List.mem_map.mp hu
  rfl
/-- A list of numbers of the call's own. -/
def NumRow (w : World) (S : Nat) (v : Value) (l : List Int) : Prop := w.ownsRow S 3 1 v l.length (ivals l)
theorem NumRow.empty (w : World) (S : Nat) (h : S ≤ w.heap.size) : NumRow (w.alloc (.cells #[] 3)) S (.slice (some ⟨w.heap.size, 0, none⟩) 0 0) [] :=
  ⟨rfl, .inr ⟨w.heap.size, 0, #[], rfl, h, heap_alloc_new w _, Nat.le_refl _, Nat.zero_le _, rfl, rfl⟩⟩
theorem NumRow.form {w : World} {S : Nat} {v : Value} {l : List Int} (h : NumRow w S v l) : ∃ a c, v = .slice a l.length c ∧ (a = none → c = 0) ∧ l.length ≤ c ∧ Came w a l.length (fun i => l.getD i 0) ∧ ∀ ad, a = some ad → ∀ j u, (ivals l)[j]? = some u → w.cell? (ad.add j) = some u := by
  rcases h.2 with ⟨rfl, h0⟩ | ⟨g, cap, cur, rfl, hb, hg, hc, hm, hs, ht⟩
  · exact ⟨none, 0, by rw [h0], fun _ => rfl, by omega, .inl h0, fun ad e => by cases e⟩
  · refine ⟨_, cap, rfl, (fun e => by cases e), hc, .inr ⟨g, 0, rfl, block_lt hg, fun j hj => ?_⟩, fun ad e j u hu => ?_⟩
    · rw [Nat.zero_add, h.cellAt j (by omega)]
      exact ivals_get l j hj
    · cases e
      have hj : j < l.length := by
        rcases Nat.lt_or_ge j l.length with k | k
        · exact k
        · rw [List.getElem?_eq_none (by rw [ivals_length]; exact k)] at hu; cases hu
      rw [Addr.add_lit, Nat.zero_add, h.cellAt j (by omega)]
      exact hu
theorem NumRow.called {w w' : World} {S : Nat} {v : Value} {l : List Int} (h : NumRow w S v l) (hb : Below w.heap.size w w') : NumRow w' S v l := by
  refine ⟨h.1, ?_⟩
  rcases h.2 with h | ⟨g, cap, cur, rfl, h1, h2, h3⟩
  · exact .inl h
  · exact .inr ⟨g, cap, cur, rfl, h1, (hb.block g (block_lt h2)).trans h2, h3⟩

/-- 'append(v, ys...)' of numbers. -/
theorem nums_append {w : World} {S : Nat} {v : Value} {xs ys : List Int} {ops : Array Oper} {rest : List Oper} {o : Oper} {a : Act} {Q : Exit → Act → World → Prop} (hgd : o.guard = none) (s x : Operand)
    (ho : o.op = .call { callee := .builtin .append, args := #[s, x], argTypes := #[26, 26] }) (hs : a.eval s = v) (h : NumRow w S v xs) (ao : Option Addr) (m c : Nat) (hx : a.eval x = .slice ao m c) (hm : ys.length = m)
    (hc : ∀ ad, ao = some ad → ∀ j u, (ivals ys)[j]? = some u → w.cell? (ad.add j) = some u) (hn : ao = none → m = 0 ∧ c = 0)
    (h63 : xs.length + ys.length ≤ 100000) (hS : S ≤ w.heap.size)
    (hK : ∀ v' w', NumRow w' S v' (xs ++ ys) → w.grownBy w' v.ownBlock → wpList Tryz.prog ops Q rest (a.put o.dst v') w') : wpList Tryz.prog ops Q (o :: rest) a w := by
  obtain ⟨i0, hi0, hz0, hz1, hz2⟩ := info_parts info_int
  cases ao with
  | none =>
    obtain ⟨rfl, rfl⟩ := hn rfl
    obtain rfl : ys = [] := List.eq_nil_of_length_eq_zero hm
    refine wpList_append_own_none hgd s x _ ho S 3 i0 1 Tryz.underlying26 hi0 v _ _ hs h hx (hK v w (by rw [List.append_nil]; exact h) ⟨rfl, rfl, rfl, Nat.le_refl _, fun _ _ _ => rfl⟩)
  | some ad =>
    refine wpList_append_own_at w hgd s x _ ho S 3 i0 _ 1 8 Tryz.underlying26 hi0 hz0 hz1 hz2 rfl (by omega) v _ _ hs h ad m c (ivals ys) hx (by rw [ivals_length, hm, Nat.mul_one]) (hc ad rfl) (ivals_one ys) (by unfold maxLen; omega) (by omega) hS ?_
    intro v' w' hown hg _ _
    refine hK v' w' ?_ hg
    show w'.ownsRow S 3 1 v' (xs ++ ys).length (ivals (xs ++ ys))
    rw [List.length_append, ivals_app, hm]
    exact hown

/-- What l05Tells answers. -/
def TellPost (w : World) (res : Option (List Int)) (e : Ending) (w' : World) : Prop :=
  Below w.heap.size w w' ∧ match res with
  | some more => ∃ v, e = .returned (.tuple #[v, .bool true]) ∧ NumRow w' w.heap.size v more
  | none => ∃ g, e = .returned (.tuple #[.slice (some ⟨g, 0, none⟩) 0 0, .bool false]) ∧ w.heap.size ≤ g ∧ NumRow w' w.heap.size (.slice (some ⟨g, 0, none⟩) 0 0) []

/-- What the ring of l05Tells has at hand. -/
def TelSt (w w' : World) (v : Value) (x : Int) (j : Nat) : Prop := NumRow w' w.heap.size v (List.replicate j x) ∧ Below w.heap.size w w'
theorem tel_start (w : World) (o : Obj) (x : Int) : TelSt w ((w.alloc o).alloc (.cells #[] 3)) (.slice (some ⟨w.heap.size + 1, 0, none⟩) 0 0) x 0 := by
  have e : (w.alloc o).heap.size = w.heap.size + 1 := by simp
  have h := NumRow.empty (w.alloc o) w.heap.size (by omega)
  rw [e] at h
  exact ⟨h, bal (bstart w o) _⟩

set_option maxHeartbeats 1600000 in
theorem tells_17 (a : Option Addr) (n cap : Nat) (xn : Nat) (w : World) (hx : xn ≤ 7) :
    Calls Tryz.prog 130 #[.slice a n cap, .agg #[.int .i64 17, .int .i64 (xn : Int)]] w (TellPost w (some (List.replicate (3 + xn) 0))) := by
  have H0 := hid_of (tel_start w (.cells #[.int .i64 17, .int .i64 (xn : Int)] 95) 0)
  go_enter Tryz.func130, Tryz.ntmps130
  go_wp2_with fail
  refine (in_no _ _ _ _ (by omega)).mono ?_
  rintro e w0 ⟨rfl, rfl⟩
  go_wp2_with fail
  refine (in_yes _ _ _ _ (by omega) (by omega)).mono ?_
  rintro e w0 ⟨rfl, rfl⟩
  go_wp2_with fail
  go_loopg [9, 10] (3 + xn + 1) (fun gk v z w' => ∃ j : Nat, j ≤ 3 + xn ∧ z = .int .i64 j ∧ 3 + xn - j ≤ gk ∧ Hid (TelSt w w' v (0) j))
  case atStart => exact ⟨0, Nat.zero_le _, rfl, by omega, H0⟩
  case round =>
    clear H0
    obtain ⟨j, hj, rfl, hk, hS⟩ := hrel
    by_cases hlt : j < 3 + xn
    · have dl : decide ((j : Int) < 3 + (xn : Int)) = true := decide_eq_true (by omega)
      have dl2 : (j : Int) < 3 + (xn : Int) := by omega
      have hs := hS.out.2.size
      go_wp2_with (at_builtin; refine nums_append (S := w.heap.size) (xs := List.replicate j (0)) (ys := [0]) rfl _ _ rfl rfl (hS.out.1.called (bstart _ _)) (some ⟨wr.heap.size, 0, none⟩) 1 1 rfl rfl (fun ad e => by cases e; exact World.news_of_block (cs := #[.int .i64 (0)]) (t := 3) (fr := (0, 0)) (heap_alloc_new wr _)) (fun h => by cases h) (by rw [List.length_replicate]; simp only [List.length_cons, List.length_nil]; omega) (by simp; omega) ?_)
      intro v1 w1 y1 y2
      have HS1 : Hid (TelSt w w1 v1 (0) (j + 1)) := by
        refine ⟨?_, (bal hS.out.2 _).grown y2 (by simp; omega) (fun q hq => (hS.out.1.lt q hq).1)⟩
        rw [List.replicate_succ']
        exact y1
      clear y1 y2
      go_wp2_with fail
      go_roundg (3 + xn - (j + 1))
      case measure => omega
      case rel => exact ⟨j + 1, by omega, by go_num, Nat.le_refl _, HS1⟩
    · obtain rfl : j = 3 + xn := by omega
      have dl : decide (((3 + xn : Nat) : Int) < 3 + (xn : Int)) = false := decide_eq_false (by omega)
      have dl2 : ¬ ((3 + xn : Nat) : Int) < 3 + (xn : Int) := by omega
      have HZ : Hid (Below w.heap.size w wr ∧ NumRow wr w.heap.size u9 (List.replicate (3 + xn) (0))) := ⟨hS.out.2, hS.out.1⟩
      go_wp2_with fail
      go_ret2
      exact ⟨HZ.out.1, u9, rfl, HZ.out.2⟩

set_option maxHeartbeats 1600000 in
theorem tells_18 (a : Option Addr) (n cap : Nat) (xn : Nat) (w : World) (hx : xn ≤ 127) :
    Calls Tryz.prog 130 #[.slice a n cap, .agg #[.int .i64 18, .int .i64 (xn : Int)]] w (TellPost w (some (List.replicate (11 + xn) 0))) := by
  have H0 := hid_of (tel_start w (.cells #[.int .i64 18, .int .i64 (xn : Int)] 95) 0)
  go_enter Tryz.func130, Tryz.ntmps130
  go_wp2_with fail
  refine (in_no _ _ _ _ (by omega)).mono ?_
  rintro e w0 ⟨rfl, rfl⟩
  go_wp2_with fail
  refine (in_yes _ _ _ _ (by omega) (by omega)).mono ?_
  rintro e w0 ⟨rfl, rfl⟩
  go_wp2_with fail
  go_loopg [9, 10] (11 + xn + 1) (fun gk v z w' => ∃ j : Nat, j ≤ 11 + xn ∧ z = .int .i64 j ∧ 11 + xn - j ≤ gk ∧ Hid (TelSt w w' v (0) j))
  case atStart => exact ⟨0, Nat.zero_le _, rfl, by omega, H0⟩
  case round =>
    clear H0
    obtain ⟨j, hj, rfl, hk, hS⟩ := hrel
    by_cases hlt : j < 11 + xn
    · have dl : decide ((j : Int) < 11 + (xn : Int)) = true := decide_eq_true (by omega)
      have dl2 : (j : Int) < 11 + (xn : Int) := by omega
      have hs := hS.out.2.size
      go_wp2_with (at_builtin; refine nums_append (S := w.heap.size) (xs := List.replicate j (0)) (ys := [0]) rfl _ _ rfl rfl (hS.out.1.called (bstart _ _)) (some ⟨wr.heap.size, 0, none⟩) 1 1 rfl rfl (fun ad e => by cases e; exact World.news_of_block (cs := #[.int .i64 (0)]) (t := 3) (fr := (0, 0)) (heap_alloc_new wr _)) (fun h => by cases h) (by rw [List.length_replicate]; simp only [List.length_cons, List.length_nil]; omega) (by simp; omega) ?_)
      intro v1 w1 y1 y2
      have HS1 : Hid (TelSt w w1 v1 (0) (j + 1)) := by
        refine ⟨?_, (bal hS.out.2 _).grown y2 (by simp; omega) (fun q hq => (hS.out.1.lt q hq).1)⟩
        rw [List.replicate_succ']
        exact y1
      clear y1 y2
      go_wp2_with fail
      go_roundg (11 + xn - (j + 1))
      case measure => omega
      case rel => exact ⟨j + 1, by omega, by go_num, Nat.le_refl _, HS1⟩
    · obtain rfl : j = 11 + xn := by omega
      have dl : decide (((11 + xn : Nat) : Int) < 11 + (xn : Int)) = false := decide_eq_false (by omega)
      have dl2 : ¬ ((11 + xn : Nat) : Int) < 11 + (xn : Int) := by omega
      have HZ : Hid (Below w.heap.size w wr ∧ NumRow wr w.heap.size u9 (List.replicate (11 + xn) (0))) := ⟨hS.out.2, hS.out.1⟩
      go_wp2_with fail
      go_ret2
      exact ⟨HZ.out.1, u9, rfl, HZ.out.2⟩

set_option maxHeartbeats 1600000 in
theorem tells_x (a : Option Addr) (n cap : Nat) (s : Nat) (w : World) (hs : s ≤ 15) :
    Calls Tryz.prog 130 #[.slice a n cap, .agg #[.int .i64 (s : Int), .int .i64 0]] w (TellPost w (some (List.replicate 1 (s : Int)))) := by
  have H0 := hid_of (tel_start w (.cells #[.int .i64 (s : Int), .int .i64 0] 95) (s : Int))
  have e1 : ((s : Int) == 16) = false := by simp; omega
  have e2 : ((s : Int) == 17) = false := by simp; omega
  have e3 : ((s : Int) == 18) = false := by simp; omega
  go_enter Tryz.func130, Tryz.ntmps130
  go_wp2_with fail
  refine (in_yes _ _ _ _ (by omega) (by omega)).mono ?_
  rintro e w0 ⟨rfl, rfl⟩
  go_wp2_with fail
  go_loopg [9, 10] (1 + 1) (fun gk v z w' => ∃ j : Nat, j ≤ 1 ∧ z = .int .i64 j ∧ 1 - j ≤ gk ∧ Hid (TelSt w w' v ((s : Int)) j))
  case atStart => exact ⟨0, Nat.zero_le _, rfl, by omega, H0⟩
  case round =>
    clear H0
    obtain ⟨j, hj, rfl, hk, hS⟩ := hrel
    by_cases hlt : j < 1
    · have dl : decide ((j : Int) < 1) = true := decide_eq_true (by omega)
      have dl2 : (j : Int) < 1 := by omega
      have hs := hS.out.2.size
      go_wp2_with (at_builtin; refine nums_append (S := w.heap.size) (xs := List.replicate j ((s : Int))) (ys := [(s : Int)]) rfl _ _ rfl rfl (hS.out.1.called (bstart _ _)) (some ⟨wr.heap.size, 0, none⟩) 1 1 rfl rfl (fun ad e => by cases e; exact World.news_of_block (cs := #[.int .i64 ((s : Int))]) (t := 3) (fr := (0, 0)) (heap_alloc_new wr _)) (fun h => by cases h) (by rw [List.length_replicate]; simp only [List.length_cons, List.length_nil]; omega) (by simp; omega) ?_)
      intro v1 w1 y1 y2
      have HS1 : Hid (TelSt w w1 v1 ((s : Int)) (j + 1)) := by
        refine ⟨?_, (bal hS.out.2 _).grown y2 (by simp; omega) (fun q hq => (hS.out.1.lt q hq).1)⟩
        rw [List.replicate_succ']
        exact y1
      clear y1 y2
      go_wp2_with fail
      go_roundg (1 - (j + 1))
      case measure => omega
      case rel => exact ⟨j + 1, by omega, by go_num, Nat.le_refl _, HS1⟩
    · obtain rfl : j = 1 := by omega
      have dl : decide (((1 : Nat) : Int) < 1) = false := decide_eq_false (by omega)
      have dl2 : ¬ ((1 : Nat) : Int) < 1 := by omega
      have HZ : Hid (Below w.heap.size w wr ∧ NumRow wr w.heap.size u9 (List.replicate (1) ((s : Int)))) := ⟨hS.out.2, hS.out.1⟩
      go_wp2_with fail
      go_ret2
      exact ⟨HZ.out.1, u9, rfl, HZ.out.2⟩

set_option maxHeartbeats 1600000 in
theorem tells_16 (a : Option Addr) (n cap : Nat) (b : Nat → Int) (xn q : Nat) (w : World) (hC : Came w a n b) (hx : xn ≤ 3) (hq : n = q + 1) (hn : n ≤ 1000) :
    Calls Tryz.prog 130 #[.slice a n cap, .agg #[.int .i64 16, .int .i64 (xn : Int)]] w (TellPost w (some (List.replicate (3 + xn) (b q)))) := by
  have H0 := hid_of (tel_start w (.cells #[.int .i64 16, .int .i64 (xn : Int)] 95) (b q))
  subst hq
  rcases hC with h0 | ⟨g, off, rfl, hg, hc⟩
  · omega
  · have c0 : (w.alloc (.cells #[.int .i64 16, .int .i64 (xn : Int)] 95)).cell? ⟨g, off + q, none⟩ = some (.int .i64 (b q)) := (grow_cell _ hg _).trans (hc q (by omega))
    have c1 := hc q (by omega)
    have hg2 : g ≠ w.heap.size := by omega
    have k1 : (q : Int) + 1 - 1 = (q : Int) := by omega
    have k2 : IntKind.i64.wrap (q : Int) = (q : Int) := by rw [IntKind.wrap_i64]; omega
    have k3 : (q : Int) < (q : Int) + 1 := by omega
    have k4 : (0 : Int) < (q : Int) + 1 := by omega
    clear hc
    go_enter Tryz.func130, Tryz.ntmps130
    go_wp2_with fail
    refine (in_no _ _ _ _ (by omega)).mono ?_
    rintro e w0 ⟨rfl, rfl⟩
    go_wp2_with fail
    refine (in_yes _ _ _ _ (by omega) (by omega)).mono ?_
    rintro e w0 ⟨rfl, rfl⟩
    go_wp2_with fail
    go_loopg [9, 10] (3 + xn + 1) (fun gk v z w' => ∃ j : Nat, j ≤ 3 + xn ∧ z = .int .i64 j ∧ 3 + xn - j ≤ gk ∧ Hid (TelSt w w' v (b q) j))
    case atStart => exact ⟨0, Nat.zero_le _, rfl, by omega, H0⟩
    case round =>
      clear H0
      obtain ⟨j, hj, rfl, hk, hS⟩ := hrel
      by_cases hlt : j < 3 + xn
      · have dl : decide ((j : Int) < 3 + (xn : Int)) = true := decide_eq_true (by omega)
        have dl2 : (j : Int) < 3 + (xn : Int) := by omega
        have hs := hS.out.2.size
        go_wp2_with (at_builtin; refine nums_append (S := w.heap.size) (xs := List.replicate j (b q)) (ys := [b q]) rfl _ _ rfl rfl (hS.out.1.called (bstart _ _)) (some ⟨wr.heap.size, 0, none⟩) 1 1 rfl rfl (fun ad e => by cases e; exact World.news_of_block (cs := #[.int .i64 (b q)]) (t := 3) (fr := (0, 0)) (heap_alloc_new wr _)) (fun h => by cases h) (by rw [List.length_replicate]; simp only [List.length_cons, List.length_nil]; omega) (by simp; omega) ?_)
        intro v1 w1 y1 y2
        have HS1 : Hid (TelSt w w1 v1 (b q) (j + 1)) := by
          refine ⟨?_, (bal hS.out.2 _).grown y2 (by simp; omega) (fun q hq => (hS.out.1.lt q hq).1)⟩
          rw [List.replicate_succ']
          exact y1
        clear y1 y2
        go_wp2_with fail
        go_roundg (3 + xn - (j + 1))
        case measure => omega
        case rel => exact ⟨j + 1, by omega, by go_num, Nat.le_refl _, HS1⟩
      · obtain rfl : j = 3 + xn := by omega
        have dl : decide (((3 + xn : Nat) : Int) < 3 + (xn : Int)) = false := decide_eq_false (by omega)
        have dl2 : ¬ ((3 + xn : Nat) : Int) < 3 + (xn : Int) := by omega
        have HZ : Hid (Below w.heap.size w wr ∧ NumRow wr w.heap.size u9 (List.replicate (3 + xn) (b q))) := ⟨hS.out.2, hS.out.1⟩
        go_wp2_with fail
        go_ret2
        exact ⟨HZ.out.1, u9, rfl, HZ.out.2⟩

set_option maxHeartbeats 1600000 in
theorem tells_no17 (a : Option Addr) (n cap : Nat) (x : Int) (w : World) (hx : ¬ (0 ≤ x ∧ x ≤ 7)) :
    Calls Tryz.prog 130 #[.slice a n cap, .agg #[.int .i64 17, .int .i64 x]] w (TellPost w (none)) := by
  have H0 := hid_of (tel_start w (.cells #[.int .i64 17, .int .i64 x] 95) 0)
  obtain ⟨y, hy0⟩ : ∃ y, y = IntKind.i64.wrap (3 + x) := ⟨_, rfl⟩
  have ey := hy0.symm
  clear hy0
  have HX := hid_of hx
  clear hx
  go_enter Tryz.func130, Tryz.ntmps130
  go_wp2_with fail
  refine (in_no _ _ _ _ (by omega)).mono ?_
  rintro e w0 ⟨rfl, rfl⟩
  go_wp2_with fail
  refine (in_no _ _ _ _ HX.out).mono ?_
  rintro e w0 ⟨rfl, rfl⟩
  go_wp2_with fail
  go_loopg [9, 10] 1 (fun _ v z w' => z = .int .i64 0 ∧ v = .slice (some ⟨w.heap.size + 1, 0, none⟩) 0 0 ∧ Hid (TelSt w w' v 0 0))
  case atStart => exact ⟨rfl, rfl, H0⟩
  case round =>
    clear H0
    obtain ⟨rfl, rfl, hS⟩ := hrel
    have HZ : Hid (Below w.heap.size w wr ∧ NumRow wr w.heap.size (.slice (some ⟨w.heap.size + 1, 0, none⟩) 0 0) []) := ⟨hS.out.2, hS.out.1⟩
    by_cases hy : 0 < y
    · have dy : decide (0 < y) = true := decide_eq_true hy
      go_wp2_with fail
      go_ret2
      exact ⟨HZ.out.1, _, rfl, Nat.le_succ _, HZ.out.2⟩
    · have dy : decide (0 < y) = false := decide_eq_false hy
      go_wp2_with fail
      go_ret2
      exact ⟨HZ.out.1, _, rfl, Nat.le_succ _, HZ.out.2⟩

set_option maxHeartbeats 1600000 in
theorem tells_no18 (a : Option Addr) (n cap : Nat) (x : Int) (w : World) (hx : ¬ (0 ≤ x ∧ x ≤ 127)) :
    Calls Tryz.prog 130 #[.slice a n cap, .agg #[.int .i64 18, .int .i64 x]] w (TellPost w (none)) := by
  have H0 := hid_of (tel_start w (.cells #[.int .i64 18, .int .i64 x] 95) 0)
  obtain ⟨y, hy0⟩ : ∃ y, y = IntKind.i64.wrap (11 + x) := ⟨_, rfl⟩
  have ey := hy0.symm
  clear hy0
  have HX := hid_of hx
  clear hx
  go_enter Tryz.func130, Tryz.ntmps130
  go_wp2_with fail
  refine (in_no _ _ _ _ (by omega)).mono ?_
  rintro e w0 ⟨rfl, rfl⟩
  go_wp2_with fail
  refine (in_no _ _ _ _ HX.out).mono ?_
  rintro e w0 ⟨rfl, rfl⟩
  go_wp2_with fail
  go_loopg [9, 10] 1 (fun _ v z w' => z = .int .i64 0 ∧ v = .slice (some ⟨w.heap.size + 1, 0, none⟩) 0 0 ∧ Hid (TelSt w w' v 0 0))
  case atStart => exact ⟨rfl, rfl, H0⟩
  case round =>
    clear H0
    obtain ⟨rfl, rfl, hS⟩ := hrel
    have HZ : Hid (Below w.heap.size w wr ∧ NumRow wr w.heap.size (.slice (some ⟨w.heap.size + 1, 0, none⟩) 0 0) []) := ⟨hS.out.2, hS.out.1⟩
    by_cases hy : 0 < y
    · have dy : decide (0 < y) = true := decide_eq_true hy
      go_wp2_with fail
      go_ret2
      exact ⟨HZ.out.1, _, rfl, Nat.le_succ _, HZ.out.2⟩
    · have dy : decide (0 < y) = false := decide_eq_false hy
      go_wp2_with fail
      go_ret2
      exact ⟨HZ.out.1, _, rfl, Nat.le_succ _, HZ.out.2⟩

set_option maxHeartbeats 1600000 in
theorem tells_no16 (a : Option Addr) (n cap : Nat) (x : Int) (w : World) (hx : ¬ (0 ≤ x ∧ x ≤ 3)) :
    Calls Tryz.prog 130 #[.slice a n cap, .agg #[.int .i64 16, .int .i64 x]] w (TellPost w (none)) := by
  have H0 := hid_of (tel_start w (.cells #[.int .i64 16, .int .i64 x] 95) 0)
  obtain ⟨y, hy0⟩ : ∃ y, y = IntKind.i64.wrap (3 + x) := ⟨_, rfl⟩
  have ey := hy0.symm
  clear hy0
  have HX := hid_of hx
  clear hx
  go_enter Tryz.func130, Tryz.ntmps130
  go_wp2_with fail
  refine (in_no _ _ _ _ (by omega)).mono ?_
  rintro e w0 ⟨rfl, rfl⟩
  go_wp2_with fail
  refine (in_no _ _ _ _ HX.out).mono ?_
  rintro e w0 ⟨rfl, rfl⟩
  go_wp2_with fail
  go_loopg [9, 10] 1 (fun _ v z w' => z = .int .i64 0 ∧ v = .slice (some ⟨w.heap.size + 1, 0, none⟩) 0 0 ∧ Hid (TelSt w w' v 0 0))
  case atStart => exact ⟨rfl, rfl, H0⟩
  case round =>
    clear H0
    obtain ⟨rfl, rfl, hS⟩ := hrel
    have HZ : Hid (Below w.heap.size w wr ∧ NumRow wr w.heap.size (.slice (some ⟨w.heap.size + 1, 0, none⟩) 0 0) []) := ⟨hS.out.2, hS.out.1⟩
    by_cases hy : 0 < y
    · have dy : decide (0 < y) = true := decide_eq_true hy
      go_wp2_with fail
      go_ret2
      exact ⟨HZ.out.1, _, rfl, Nat.le_succ _, HZ.out.2⟩
    · have dy : decide (0 < y) = false := decide_eq_false hy
      go_wp2_with fail
      go_ret2
      exact ⟨HZ.out.1, _, rfl, Nat.le_succ _, HZ.out.2⟩

set_option maxHeartbeats 1600000 in
theorem tells_none16 (a : Option Addr) (n cap : Nat) (xn : Nat) (w : World) (hx : xn ≤ 3) (hn : n = 0) :
    Calls Tryz.prog 130 #[.slice a n cap, .agg #[.int .i64 16, .int .i64 (xn : Int)]] w (TellPost w (none)) := by
  have H0 := hid_of (tel_start w (.cells #[.int .i64 16, .int .i64 (xn : Int)] 95) 0)
  subst hn
  go_enter Tryz.func130, Tryz.ntmps130
  go_wp2_with fail
  refine (in_no _ _ _ _ (by omega)).mono ?_
  rintro e w0 ⟨rfl, rfl⟩
  go_wp2_with fail
  refine (in_yes _ _ _ _ (by omega) (by omega)).mono ?_
  rintro e w0 ⟨rfl, rfl⟩
  go_wp2_with fail
  go_loopg [9, 10] 1 (fun _ v z w' => z = .int .i64 0 ∧ v = .slice (some ⟨w.heap.size + 1, 0, none⟩) 0 0 ∧ Hid (TelSt w w' v 0 0))
  case atStart => exact ⟨rfl, rfl, H0⟩
  case round =>
    clear H0
    obtain ⟨rfl, rfl, hS⟩ := hrel
    have HZ : Hid (Below w.heap.size w wr ∧ NumRow wr w.heap.size (.slice (some ⟨w.heap.size + 1, 0, none⟩) 0 0) []) := ⟨hS.out.2, hS.out.1⟩
    go_wp2_with fail
    go_ret2
    exact ⟨HZ.out.1, _, rfl, Nat.le_succ _, HZ.out.2⟩

set_option maxHeartbeats 1600000 in
theorem tells_nox (a : Option Addr) (n cap : Nat) (s x : Int) (w : World) (h1 : s ≠ 16) (h2 : s ≠ 17) (h3 : s ≠ 18) (hs : ¬ (0 ≤ s ∧ s ≤ 15)) :
    Calls Tryz.prog 130 #[.slice a n cap, .agg #[.int .i64 s, .int .i64 x]] w (TellPost w (none)) := by
  have H0 := hid_of (tel_start w (.cells #[.int .i64 s, .int .i64 x] 95) 0)
  have e1 : (s == 16) = false := by simpa using h1
  have e2 : (s == 17) = false := by simpa using h2
  have e3 : (s == 18) = false := by simpa using h3
  clear h1 h2 h3
  have HX := hid_of hs
  clear hs
  go_enter Tryz.func130, Tryz.ntmps130
  go_wp2_with fail
  refine (in_no _ _ _ _ HX.out).mono ?_
  rintro e w0 ⟨rfl, rfl⟩
  go_wp2_with fail
  go_loopg [9, 10] 1 (fun _ v z w' => z = .int .i64 0 ∧ v = .slice (some ⟨w.heap.size + 1, 0, none⟩) 0 0 ∧ Hid (TelSt w w' v 0 0))
  case atStart => exact ⟨rfl, rfl, H0⟩
  case round =>
    clear H0
    obtain ⟨rfl, rfl, hS⟩ := hrel
    have HZ : Hid (Below w.heap.size w wr ∧ NumRow wr w.heap.size (.slice (some ⟨w.heap.size + 1, 0, none⟩) 0 0) []) := ⟨hS.out.2, hS.out.1⟩
    go_wp2_with fail
    go_ret2
    exact ⟨HZ.out.1, _, rfl, Nat.le_succ _, HZ.out.2⟩

set_option maxHeartbeats 1600000 in
theorem tells_noe (a : Option Addr) (n cap : Nat) (s x : Int) (w : World) (h1 : s ≠ 16) (h2 : s ≠ 17) (h3 : s ≠ 18) (hs : 0 ≤ s ∧ s ≤ 15) (hx : x ≠ 0) :
    Calls Tryz.prog 130 #[.slice a n cap, .agg #[.int .i64 s, .int .i64 x]] w (TellPost w (none)) := by
  have H0 := hid_of (tel_start w (.cells #[.int .i64 s, .int .i64 x] 95) 0)
  have e1 : (s == 16) = false := by simpa using h1
  have e2 : (s == 17) = false := by simpa using h2
  have e3 : (s == 18) = false := by simpa using h3
  clear h1 h2 h3
  have e4 : (x == 0) = false := by simpa using hx
  clear hx
  go_enter Tryz.func130, Tryz.ntmps130
  go_wp2_with fail
  refine (in_yes _ _ _ _ hs.1 hs.2).mono ?_
  rintro e w0 ⟨rfl, rfl⟩
  go_wp2_with fail
  go_loopg [9, 10] 1 (fun _ v z w' => z = .int .i64 0 ∧ v = .slice (some ⟨w.heap.size + 1, 0, none⟩) 0 0 ∧ Hid (TelSt w w' v 0 0))
  case atStart => exact ⟨rfl, rfl, H0⟩
  case round =>
    clear H0
    obtain ⟨rfl, rfl, hS⟩ := hrel
    have HZ : Hid (Below w.heap.size w wr ∧ NumRow wr w.heap.size (.slice (some ⟨w.heap.size + 1, 0, none⟩) 0 0) []) := ⟨hS.out.2, hS.out.1⟩
    go_wp2_with fail
    go_ret2
    exact ⟨HZ.out.1, _, rfl, Nat.le_succ _, HZ.out.2⟩

/-- What a Run tells, by the model. -/
theorem specTells (a : Option Addr) (n cap : Nat) (b : Nat → Int) (s x : Int) (w : World) (hC : Came w a n b) (hn : n ≤ 1000) :
    Calls Tryz.prog 130 #[.slice a n cap, .agg #[.int .i64 s, .int .i64 x]] w (TellPost w (tell (lst b n) (s, x))) := by
  by_cases h16 : s = 16
  · subst h16
    by_cases hx : 0 ≤ x ∧ x ≤ 3
    · obtain ⟨xn, rfl⟩ := Int.eq_ofNat_of_zero_le hx.1
      cases n with
      | zero =>
        have e : tell (lst b 0) (16, (xn : Int)) = none := by
          unfold tell
          rw [if_pos rfl, if_neg (by rw [lst_length]; omega)]
        rw [e]
        exact tells_none16 a 0 cap xn w (by omega) rfl
      | succ q =>
        have e : tell (lst b (q + 1)) (16, (xn : Int)) = some (List.replicate (3 + xn) (b q)) := by
          unfold tell
          rw [if_pos rfl, if_pos (by rw [lst_length]; exact ⟨hx.1, hx.2, by omega⟩), lst_length, Nat.add_sub_cancel, lst_get b (q + 1) q (by omega)]
          show some (List.replicate (3 + (xn : Int)).toNat (b q)) = _
          rw [show (3 + (xn : Int)).toNat = 3 + xn by omega]
        rw [e]
        exact tells_16 a (q + 1) cap b xn q w hC (by omega) rfl hn
    · have e : tell (lst b n) (16, x) = none := by
        unfold tell
        rw [if_pos rfl, if_neg (fun h => hx ⟨h.1, h.2.1⟩)]
      rw [e]
      exact tells_no16 a n cap x w hx
  · by_cases h17 : s = 17
    · subst h17
      by_cases hx : 0 ≤ x ∧ x ≤ 7
      · obtain ⟨xn, rfl⟩ := Int.eq_ofNat_of_zero_le hx.1
        have e : tell (lst b n) (17, (xn : Int)) = some (List.replicate (3 + xn) 0) := by
          unfold tell
          rw [if_neg h16, if_pos rfl, if_pos hx]
          show some (List.replicate (3 + (xn : Int)).toNat 0) = _
          rw [show (3 + (xn : Int)).toNat = 3 + xn by omega]
        rw [e]
        exact tells_17 a n cap xn w (by omega)
      · have e : tell (lst b n) (17, x) = none := by
          unfold tell
          rw [if_neg h16, if_pos rfl, if_neg hx]
        rw [e]
        exact tells_no17 a n cap x w hx
    · by_cases h18 : s = 18
      · subst h18
        by_cases hx : 0 ≤ x ∧ x ≤ 127
        · obtain ⟨xn, rfl⟩ := Int.eq_ofNat_of_zero_le hx.1
          have e : tell (lst b n) (18, (xn : Int)) = some (List.replicate (11 + xn) 0) := by
            unfold tell
            rw [if_neg h16, if_neg h17, if_pos rfl, if_pos hx]
            show some (List.replicate (11 + (xn : Int)).toNat 0) = _
            rw [show (11 + (xn : Int)).toNat = 11 + xn by omega]
          rw [e]
          exact tells_18 a n cap xn w (by omega)
        · have e : tell (lst b n) (18, x) = none := by
            unfold tell
            rw [if_neg h16, if_neg h17, if_pos rfl, if_neg hx]
          rw [e]
          exact tells_no18 a n cap x w hx
      · by_cases hs : 0 ≤ s ∧ s ≤ 15
        · by_cases hx : x = 0
          · subst hx
            obtain ⟨sn, rfl⟩ := Int.eq_ofNat_of_zero_le hs.1
            have e : tell (lst b n) ((sn : Int), 0) = some (List.replicate 1 (sn : Int)) := by
              unfold tell
              rw [if_neg h16, if_neg h17, if_neg h18, if_pos ⟨hs.1, hs.2, rfl⟩]
              rfl
            rw [e]
            exact tells_x a n cap sn w (by omega)
          · have e : tell (lst b n) (s, x) = none := by
              unfold tell
              rw [if_neg h16, if_neg h17, if_neg h18, if_neg (fun h => hx h.2.2)]
            rw [e]
            exact tells_noe a n cap s x w h16 h17 h18 hs hx
        · have e : tell (lst b n) (s, x) = none := by
            unfold tell
            rw [if_neg h16, if_neg h17, if_neg h18, if_neg (fun h => hs ⟨h.1, h.2.1⟩)]
          rw [e]
          exact tells_nox a n cap s x w h16 h17 h18 hs
theorem tell_short {out : List Int} {r : Int × Int} {more : List Int} (h : tell out r = some more) : more.length ≤ 138 := by
  unfold tell at h
  split at h
  · split at h
    · simp at h; rw [← h, List.length_replicate]; omega
    · cases h
  · split at h
    · split at h
      · simp at h; rw [← h, List.length_replicate]; omega
      · cases h
    · split at h
      · split at h
        · simp at h; rw [← h, List.length_replicate]; omega
        · cases h
      · split at h
        · simp at h; rw [← h]; simp
        · cases h
theorem lst_self (l : List Int) : lst (fun i => l.getD i 0) l.length = l := by
  refine List.ext_getElem? (fun i => ?_)
  unfold lst
  rw [List.getElem?_map]
  rcases Nat.lt_or_ge i l.length with h | h
  · rw [List.getElem?_range h, List.getElem?_eq_getElem h]
    simp [h]
  · rw [List.getElem?_eq_none (by simpa using h), List.getElem?_eq_none h]
    rfl

end Go.Proofs.YtbcnlggkoidmmaaGreatDoor

namespace Go.Proofs.YtbcnlggkoidmmaaGreatDoor
open Go.RowKit

theorem ret_i {k : IntKind} {a b : Int} (h : a = b) : Ending.returned (.int k a) = .returned (.int k b) := by rw [h]
theorem ret_b {a b : Bool} (h : a = b) : Ending.returned (.bool a) = .returned (.bool b) := by rw [h]

end Go.Proofs.YtbcnlggkoidmmaaGreatDoor

namespace Go.Proofs.YtbcnlggkoidmmaaGreatDoor
open Go.RowKit Go.Joins OutMath

set_option maxHeartbeats 400000 in
theorem pow_any (n : Nat) (w : World) (h : n ≤ 61) :
    Calls Tryz.prog 93 #[.int .i64 n] w fun e w' => e = .returned (.int .i64 (p2 n)) ∧ w' = w := by
  go_enter Tryz.func93, Tryz.ntmps93
  go_wp2
  go_loop [3, 4] (fun x i => ∃ j : Nat, j ≤ n ∧ i = .int .i64 j ∧ x = .int .i64 (p2 j)) (fun _ i => n - (intOf i).toNat)
  case atStart => exact ⟨0, Nat.zero_le _, rfl, by rw [p2_zero]⟩
  case round =>
    obtain ⟨j, hj, rfl, rfl⟩ := hrel
    have hp := p2_pos j
    have hq := p2_61 (n := j) (by omega)
    by_cases hlt : j < n
    · go_wp2
      go_round
      case rel => exact ⟨j + 1, by omega, by go_num, by rw [p2_succ]⟩
      case measure => simp [intOf]; omega
    · go_wp2
      go_ret
      exact ⟨ret_i (by rw [show j = n by omega]), rfl⟩

theorem pow_int (n : Int) (w : World) (h0 : 0 ≤ n) (h : n ≤ 61) :
    Calls Tryz.prog 93 #[.int .i64 n] w fun e w' => e = .returned (.int .i64 (p2 n.toNat)) ∧ w' = w := by
  obtain ⟨m, rfl⟩ := Int.eq_ofNat_of_zero_le h0
  exact pow_any m w (by omega)

end Go.Proofs.YtbcnlggkoidmmaaGreatDoor

namespace Go.Proofs.YtbcnlggkoidmmaaGreatDoor
open Go.RowKit Go.Joins TakeMath

theorem index_byte (s : ByteArray) (i : Nat) (h : i < s.size) (w : World) : (Instr.index 9 (.string s) (.int .i64 i)).run Tryz.prog w = .ok (.int .u8 (byteAt s i)) w := by
  rw [run_index_string w 9 s .i64 _ Tryz.underlying9, dif_pos ⟨by omega, by omega⟩]
  have e : ((i : Int)).toNat = i := by omega
  simp only [e]
  rw [byteAt_get]

theorem index_byteI (s : ByteArray) (x : Int) (i : Nat) (hx : x = i) (h : i < s.size) (w : World) : (Instr.index 9 (.string s) (.int .i64 x)).run Tryz.prog w = .ok (.int .u8 (byteAt s i)) w := by
  subst hx
  exact index_byte s i h w

end Go.Proofs.YtbcnlggkoidmmaaGreatDoor
