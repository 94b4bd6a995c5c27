/-
  Texts as lists of numbers, and lists of bytes that a call made itself.
  The walk of the model's 'in least .. most'.
  Slices of integers that came in. Nothing here speaks of the program.
  Slices of numbers that a call made itself, by what number stands where. Nothing here speaks of the program.
-/
import Derived.Test.YtedbmhelmenknaaDoorRows
import Derived.Test.YtedbmhelmenknaaDoorPk01
import Derived.WalkKit
import Derived.ProofKit
import Derived.WalkLawsBesides
import Derived.Below
import Derived.Lib.SmallJoins
import Derived.OpenShut
import Derived.Laws.MakeOwn
namespace Go.Proofs.YtedbmhelmenknaaDoor
open Go.RowKit Go.Joins TokMath

theorem info_byte : (Tryd.prog.info? 5).map (fun i => (i.zero, i.size, i.bytes)) = some (some (.int .u8 0), 1, 1) := by kernel_rfl
/-- The numbers of a text. -/
def bytesOf (s : ByteArray) : List Int := s.data.toList.map fun b => (b.toNat : Int)
theorem bytesOf_length (s : ByteArray) : (bytesOf s).length = s.size := by simp [bytesOf]
theorem bytesOf_bytes (s : ByteArray) : Bytes (bytesOf s) := by
  intro x hx
  obtain ⟨b, _, rfl⟩ := List.mem_map.mp hx
  have := b.toNat_lt
  omega
theorem str_back (s : ByteArray) : strOfNums (bytesOf s) = s := by
  obtain ⟨d⟩ := s
  have e : ((bytesOf ⟨d⟩).map fun n => UInt8.ofNat n.toNat) = d.toList := by
    show (d.toList.map fun b => (b.toNat : Int)).map (fun n => UInt8.ofNat n.toNat) = d.toList
    rw [List.map_map]
    refine (List.map_congr_left (fun b _ => ?_)).trans (List.map_id _)
    show UInt8.ofNat ((b.toNat : Int)).toNat = id b
    rw [Int.toNat_natCast, UInt8.ofNat_toNat]
    rfl
  unfold strOfNums
  rw [e]
theorem bytesOf_str {O : List Int} (h : Bytes O) : bytesOf (strOfNums O) = O := by
  unfold bytesOf
  rw [strOfNums_data, List.map_map]
  refine (List.map_congr_left (fun x hx => ?_)).trans (List.map_id _)
  have := h x hx
  show ((UInt8.ofNat x.toNat).toNat : Int) = x
  rw [UInt8.toNat_ofNat', Nat.mod_eq_of_lt (by omega)]
  omega
/-- The cells of bytes. -/
def u8l (O : List Int) : List Value := O.map (Value.int .u8)
theorem u8l_length (O : List Int) : (u8l O).length = O.length := by simp [u8l]
theorem u8l_app (O : List Int) (x : Int) : u8l O ++ [.int .u8 x] = u8l (O ++ [x]) := by simp [u8l]

/-- A list of bytes of the call's own, at the head of block g. -/
def BOwn (w : World) (base g n cap : Nat) (O : List Int) : Prop := n = O.length ∧ Own 5 w base g (.slice (some ⟨g, 0, none⟩) n cap) (u8l O)
theorem BOwn.lt {w : World} {base g n cap : Nat} {O : List Int} (h : BOwn w base g n cap O) : g < w.heap.size := h.2.lt
theorem BOwn.base_le {w : World} {base g n cap : Nat} {O : List Int} (h : BOwn w base g n cap O) : base ≤ g := h.2.base_le
theorem BOwn.keep {w w' : World} {base g n cap : Nat} {O : List Int} (h : BOwn w base g n cap O) (hk : w'.heap[g]? = w.heap[g]?) : BOwn w' base g n cap O := ⟨h.1, h.2.keep hk⟩
theorem BOwn.called {w w' : World} {base g n cap : Nat} {O : List Int} (h : BOwn w base g n cap O) (hb : Below w.heap.size w w') : BOwn w' base g n cap O := h.keep (hb.block g h.lt)
theorem BOwn.cell {w : World} {base g n cap : Nat} {O : List Int} (h : BOwn w base g n cap O) (j : Nat) (hj : j < n) : w.cell? ⟨g, j, none⟩ = some (.int .u8 (O.getD j 0)) := by
  have hl : j < O.length := by have := h.1; omega
  have hj' : j < (u8l O).length := by rw [u8l_length]; exact hl
  rw [h.2.cell j hj', List.getD_eq_getElem?_getD, List.getElem?_eq_getElem hl]
  simp [u8l]
theorem BOwn.room {w : World} {base g n cap : Nat} {O : List Int} (h : BOwn w base g n cap O) : n ≤ cap := by
  obtain ⟨hn, cap', cur, fz, hv, _, _, _, hc, _⟩ := h
  cases hv
  rw [u8l_length] at hc
  omega
/-- '[]byte(s)'. -/
theorem bown_of_text (w : World) (s : ByteArray) (hs : s.size ≤ 1048576) : ∃ W1 cap, (convert 9 32 (.string s)).run Tryd.prog w = .ok (.slice (some ⟨w.heap.size, 0, none⟩) s.size cap) W1 ∧ BOwn W1 w.heap.size w.heap.size s.size cap (bytesOf s) ∧ Below w.heap.size w W1 := by
  refine ⟨_, _, run_bytes_of_string (P := Tryd.prog) w 9 32 5 s Tryd.underlying9 Tryd.underlying32 Tryd.underlying5, ⟨(bytesOf_length s).symm, ?_⟩, ?_⟩
  · have h := own_of_bytes (base := w.heap.size) w 5 s (by unfold maxLen; omega) (Nat.le_refl _)
    have e : (s.data.toList.map fun b => Value.int .u8 (b.toNat : Int)) = u8l (bytesOf s) := by unfold u8l bytesOf; rw [List.map_map]; rfl
    rw [e] at h
    exact h
  · exact (Below.refl _ _).drew.alloc (Nat.le_refl _) _
/-- 'string(v[k:])'. -/
theorem bown_text {w : World} {base g n cap k c : Nat} {O : List Int} (h : BOwn w base g n cap O) (hk : k ≤ n) : (convert 32 9 (.slice (some ⟨g, k, none⟩) (n - k) c)).run Tryd.prog w = .ok (.string (strOfNums (O.drop k))) w := by
  refine run_convert_bytes_arg w 32 5 Tryd.underlying32 Tryd.underlying5 g k _ c (O.drop k) (by rw [List.length_drop, ← h.1]) (fun i hi => ?_) 9 Tryd.underlying9
  rw [h.cell (k + i) (by omega), List.getD_eq_getElem?_getD, List.getD_eq_getElem?_getD, List.getElem?_drop]
/-- 'append(v, x)' of bytes. -/
theorem bytes_append {w : World} {base g n cap : Nat} {O : List Int} {ops : Array Oper} {rest : List Oper} {o : Oper} {a : Act} {Q : Exit → Act → World → Prop} (hgd : o.guard = none) (s y : Operand)
    (hop : o.op = .call { callee := .builtin .append, args := #[s, y], argTypes := #[32, 32] }) (hs : a.eval s = .slice (some ⟨g, 0, none⟩) n cap) (h : BOwn w base g n cap O) (b c : Nat) (x : Int) (hy : a.eval y = .slice (some ⟨b, 0, none⟩) 1 c) (hx : w.cell? ⟨b, 0, none⟩ = some (.int .u8 x)) (h63 : n ≤ 1048576)
    (hK : ∀ g' cap' w', BOwn w' base g' (n + 1) cap' (O ++ [x]) → (g' = g ∨ w.heap.size ≤ g') → w.grownBy w' (some g) → wpList Tryd.prog ops Q rest (a.put o.dst (.slice (some ⟨g', 0, none⟩) (n + 1) cap')) w') : wpList Tryd.prog ops Q (o :: rest) a w := by
  obtain ⟨i0, hi0, hz0, hz1, hz2⟩ := info_parts info_byte
  obtain ⟨hn, ho⟩ := h
  have hl : (u8l O).length = n := by rw [u8l_length, hn]
  refine wpList_append1 hgd s y 32 hop i0 (.int .u8 0) 1 Tryd.underlying32 hi0 hz0 hz1 hz2 rfl hs ho ⟨b, 0, none⟩ c (.int .u8 x) hy hx rfl rfl (by rw [hl]; unfold maxLen; omega) (by rw [hl]; omega) ?_
  intro g' v' w' hO hg hgr
  obtain ⟨cap', hv⟩ := hO.form
  rw [u8l_app] at hO
  rw [List.length_append, List.length_singleton, hl] at hv
  subst hv
  exact hK g' cap' w' ⟨by rw [List.length_append, List.length_singleton, hn], hO⟩ hg hgr

end Go.Proofs.YtedbmhelmenknaaDoor

namespace Go.Proofs.YtedbmhelmenknaaDoor
open Go.RowKit

theorem in_yes (x a b : Int) (w : World) (h1 : a ≤ x) (h2 : x ≤ b) :
    Calls Tryd.prog 16 #[.int .i64 x, .int .i64 a, .int .i64 b] w fun e w' => e = .returned (.bool true) ∧ w' = w := by
  go_enter Tryd.func16, Tryd.ntmps16
  go_wp2
  go_ret
  exact ⟨rfl, rfl⟩

theorem in_no (x a b : Int) (w : World) (h : ¬ (a ≤ x ∧ x ≤ b)) :
    Calls Tryd.prog 16 #[.int .i64 x, .int .i64 a, .int .i64 b] w fun e w' => e = .returned (.bool false) ∧ w' = w := by
  by_cases h1 : a ≤ x
  · have h2 : ¬ x ≤ b := fun k => h ⟨h1, k⟩
    clear h
    go_enter Tryd.func16, Tryd.ntmps16
    go_wp2
    go_ret
    exact ⟨rfl, rfl⟩
  · clear h
    go_enter Tryd.func16, Tryd.ntmps16
    go_wp2
    go_ret
    exact ⟨rfl, rfl⟩

end Go.Proofs.YtedbmhelmenknaaDoor

namespace Go.Proofs.YtedbmhelmenknaaDoor
open Go.RowKit Go.Joins

/-- A slice of integers that came in: it is nil; or it leads to a row of 'cap' cells, the numbers zs. -/
def IsRow (k : IntKind) (w : World) (a : Option Addr) (len cap : Nat) (zs : List Int) : Prop :=
  (a = none ∧ len = 0 ∧ cap = 0 ∧ zs = []) ∨
  ∃ x, a = some x ∧ len ≤ cap ∧ cap ≤ maxLen ∧ zs.length = cap ∧ (∀ i, i < zs.length → w.cell? (x.add i) = some (.int k (zs.getD i 0))) ∧ ∀ n ∈ zs, (Lit.int k n).wf = true

/-- The bytes of a draw lie below block 'base'. -/
def CodeAt (w : World) (base : Nat) (a : Option Addr) (len : Nat) : Prop :=
  len = 0 ∨ ∃ bc off, a = some ⟨bc, off, none⟩ ∧ bc < base ∧ ∀ j, j < len → ∃ x : Int, w.cell? ⟨bc, off + j, none⟩ = some (.int .u8 x) ∧ 0 ≤ x ∧ x ≤ 255

theorem CodeAt.below {w w' : World} {base : Nat} {a : Option Addr} {len : Nat} (h : CodeAt w base a len) (hb : Below base w w') : CodeAt w' base a len := by
  rcases h with h | ⟨bc, off, ha, hlt, hc⟩
  · exact .inl h
  · refine .inr ⟨bc, off, ha, hlt, fun j hj => ?_⟩
    obtain ⟨x, h1, h2⟩ := hc j hj
    exact ⟨x, (hb.cell (p := ⟨bc, off + j, none⟩) hlt).trans h1, h2⟩

theorem codeAt_of_row {w : World} {a : Option Addr} {len cap : Nat} {zs : List Int} (h : IsRow .u8 w a len cap zs) : CodeAt w w.heap.size a len ∧ len ≤ cap ∧ cap ≤ maxLen := by
  rcases h with ⟨_, rfl, rfl, _⟩ | ⟨x, rfl, hl, hm, hz, hc, hw⟩
  · exact ⟨.inl rfl, Nat.le_refl _, Nat.zero_le _⟩
  · refine ⟨?_, hl, hm⟩
    rcases Nat.eq_zero_or_pos len with h0 | h0
    · exact .inl h0
    · right
      obtain ⟨b, off, spot⟩ := x
      have h1 := hc 0 (by omega)
      have hspot : spot = none := by simpa [Addr.add] using World.cell?_spot h1
      subst hspot
      have hadd : ∀ j, (⟨b, off, none⟩ : Addr).add j = ⟨b, off + j, none⟩ := fun j => Addr.add_lit _ _ _
      refine ⟨b, off, rfl, ?_, fun j hj => ?_⟩
      · rw [hadd] at h1
        exact World.block_lt_of_cell? w _ h1
      · have h2 := hc j (by omega)
        rw [hadd] at h2
        have hmem : zs.getD j 0 ∈ zs := by
          rw [List.getD_eq_getElem?_getD, List.getElem?_eq_getElem (by omega)]
          exact List.getElem_mem _
        have h3 := hw _ hmem
        obtain ⟨h4, h5⟩ := bounds_u8 h3
        exact ⟨_, h2, h4, by omega⟩

end Go.Proofs.YtedbmhelmenknaaDoor

namespace Go.Proofs.YtedbmhelmenknaaDoor
open Go.RowKit Go.Joins

def fints (f : Nat → Int) (n : Nat) : List Value := (List.range n).map fun i => .int .i64 (f i)
/-- f with x at the place j. -/
def upd (f : Nat → Int) (j : Nat) (x : Int) : Nat → Int := fun i => if i = j then x else f i
theorem fints_length (f : Nat → Int) (n : Nat) : (fints f n).length = n := by simp [fints]
theorem fints_get (f : Nat → Int) (n j : Nat) (h : j < (fints f n).length) : (fints f n)[j] = .int .i64 (f j) := by simp [fints]
theorem fints_congr {f g : Nat → Int} {n : Nat} (h : ∀ i, i < n → f i = g i) : fints f n = fints g n := by
  unfold fints
  refine List.map_congr_left fun i hi => ?_
  rw [h i (List.mem_range.mp hi)]
theorem fints_set (f : Nat → Int) (n j : Nat) (x : Int) : (fints f n).set j (.int .i64 x) = fints (upd f j x) n := by
  refine List.ext_getElem (by simp [fints]) fun i h1 h2 => ?_
  rw [List.getElem_set, fints_get (upd f j x)]
  by_cases hij : j = i
  · subst hij
    rw [if_pos rfl]
    simp [upd]
  · have hji : ¬ i = j := fun h => hij h.symm
    rw [if_neg hij, fints_get]
    simp [upd, hji]
theorem fints_app (f : Nat → Int) (n : Nat) (x : Int) : fints f n ++ [.int .i64 x] = fints (upd f n x) (n + 1) := by
  unfold fints
  rw [List.range_succ, List.map_append]
  congr 1
  · refine List.map_congr_left fun i hi => ?_
    have := List.mem_range.mp hi
    unfold upd
    rw [if_neg (by omega)]
  · unfold upd
    simp

/-- The slice at the head of block g is the call's own and holds f 0, .., f (n - 1). -/
def IOwn (w : World) (base g n cap : Nat) (f : Nat → Int) : Prop := Own 3 w base g (.slice (some ⟨g, 0, none⟩) n cap) (fints f n)

section
variable {w w' : World} {base g n cap : Nat} {f : Nat → Int}
theorem IOwn.lt (h : IOwn w base g n cap f) : g < w.heap.size := Own.lt h
theorem IOwn.base_le (h : IOwn w base g n cap f) : base ≤ g := Own.base_le h
theorem IOwn.cell (h : IOwn w base g n cap f) (j : Nat) (hj : j < n) : w.cell? ⟨g, j, none⟩ = some (.int .i64 (f j)) := by
  have h' : j < (fints f n).length := by rw [fints_length]; exact hj
  rw [Own.cell h j h', fints_get]
theorem IOwn.free (h : IOwn w base g n cap f) (j : Nat) (hj : j < n) : w.frozen? ⟨g, j, none⟩ = false := Own.free h j (by rw [fints_length]; exact hj)
theorem IOwn.set (h : IOwn w base g n cap f) (j : Nat) (hj : j < n) (x : Int) : IOwn (w.setCell ⟨g, j, none⟩ (.int .i64 x)) base g n cap (upd f j x) := by
  have k := Own.set h j (by rw [fints_length]; exact hj) (.int .i64 x)
  rw [fints_set] at k
  exact k
theorem IOwn.congr {f' : Nat → Int} (h : IOwn w base g n cap f) (e : ∀ i, i < n → f i = f' i) : IOwn w base g n cap f' := by
  unfold IOwn at h ⊢
  rw [← fints_congr e]
  exact h
theorem IOwn.keep (h : IOwn w base g n cap f) (hk : w'.heap[g]? = w.heap[g]?) : IOwn w' base g n cap f := Own.keep h hk
theorem IOwn.alloc (h : IOwn w base g n cap f) (o : Obj) : IOwn (w.alloc o) base g n cap f := Own.alloc h o
theorem IOwn.drew (h : IOwn w base g n cap f) : IOwn w.drew base g n cap f := Own.drewN h 1
theorem IOwn.below {B : Nat} (h : IOwn w base g n cap f) (hb : Below B w w') (hg : g < B) : IOwn w' base g n cap f := Own.below h hb hg
/-- Behind a call that turned nothing old. -/
theorem IOwn.called (h : IOwn w base g n cap f) (hb : Below w.heap.size w w') : IOwn w' base g n cap f := Own.below h hb h.lt
theorem IOwn.mono {b : Nat} (h : IOwn w base g n cap f) (hb : b ≤ base) : IOwn w b g n cap f := Own.mono h hb
theorem IOwn.grown {row : Option Nat} (h : IOwn w base g n cap f) (hg : w.grownBy w' row) (hne : row ≠ some g) : IOwn w' base g n cap f := h.keep (hg.block g h.lt (Ne.symm hne))

theorem made_ints (n : Nat) : (madeCells #[Value.int .i64 0] n).toList = fints (fun _ => 0) n := by
  unfold madeCells fints
  rw [Array.toList_map, Array.toList_range]
  refine List.map_congr_left fun i _ => ?_
  simp [Nat.mod_one]

/-- 'make([]int, n)'. -/
theorem IOwn.made (w : World) (n : Nat) (hn : n ≤ maxLen) (hb : base ≤ w.heap.size) : IOwn (w.alloc (.cells (madeCells #[Value.int .i64 0] n) 3)) base w.heap.size n n (fun _ => 0) := by
  refine ⟨n, madeCells #[Value.int .i64 0] n, (0, 0), by rw [fints_length], hb, heap_alloc_new w _, .inl rfl, by rw [fints_length]; exact Nat.le_refl _, hn, by simp [madeCells], ?_⟩
  rw [made_ints, fints_length, List.take_of_length_le (by rw [fints_length]; exact Nat.le_refl _)]
end

/-- A slice of numbers that came in: it is empty, or its numbers lie from place 'off' of an old block on. -/
def Came (w : World) (a : Option Addr) (n : Nat) (f : Nat → Int) : Prop :=
  n = 0 ∨ ∃ g off, a = some ⟨g, off, none⟩ ∧ g < w.heap.size ∧ ∀ j, j < n → w.cell? ⟨g, off + j, none⟩ = some (.int .i64 (f j))
theorem Came.called {w w' : World} {a : Option Addr} {n : Nat} {f : Nat → Int} (h : Came w a n f) (hb : Below w.heap.size w w') : Came w' a n f := by
  rcases h with h | ⟨g, off, ha, hg, hc⟩
  · exact .inl h
  · exact .inr ⟨g, off, ha, Nat.lt_of_lt_of_le hg hb.size, fun j hj => (hb.cell (p := ⟨g, off + j, none⟩) hg).trans (hc j hj)⟩

/-- A slice that was handed back: it is empty, or the maker's own. -/
def SL (w : World) (base : Nat) (a : Option Addr) (n cap : Nat) (f : Nat → Int) : Prop := n = 0 ∨ ∃ g, a = some ⟨g, 0, none⟩ ∧ IOwn w base g n cap f
theorem SL.came {w : World} {base : Nat} {a : Option Addr} {n cap : Nat} {f : Nat → Int} (h : SL w base a n cap f) : Came w a n f := by
  rcases h with h | ⟨g, rfl, h⟩
  · exact .inl h
  · exact .inr ⟨g, 0, rfl, h.lt, fun j hj => by rw [Nat.zero_add]; exact h.cell j hj⟩
theorem SL.called {w w' : World} {base : Nat} {a : Option Addr} {n cap : Nat} {f : Nat → Int} (h : SL w base a n cap f) (hb : Below w.heap.size w w') : SL w' base a n cap f := by
  rcases h with h | ⟨g, rfl, h⟩
  · exact .inl h
  · exact .inr ⟨g, rfl, h.called hb⟩
theorem IOwn.sl {w : World} {base g n cap : Nat} {f : Nat → Int} (h : IOwn w base g n cap f) : SL w base (some ⟨g, 0, none⟩) n cap f := .inr ⟨g, rfl, h⟩
/-- An old slice behind what turned one new block. -/
theorem Came.grown {w w' : World} {a : Option Addr} {n B : Nat} {f : Nat → Int} {row : Option Nat} (h : Came w a n f) (hB : ∀ g off, a = some ⟨g, off, none⟩ → g < B) (hr : ∀ k, row = some k → B ≤ k) (hg : w.grownBy w' row) : Came w' a n f := by
  rcases h with h | ⟨g, off, ha, hlt, hc⟩
  · exact .inl h
  · refine .inr ⟨g, off, ha, Nat.lt_of_lt_of_le hlt hg.size, fun j hj => ?_⟩
    have hne : some g ≠ row := fun e => by have h1 := hB g off ha; have h2 := hr g e.symm; omega
    have hb := hg.block g hlt hne
    rw [← hc j hj]
    unfold World.cell?
    rw [hb]

/-- A row that came in, by its numbers. -/
theorem came_of_row {w : World} {a : Option Addr} {len cap : Nat} {zs : List Int} (h : IsRow .i64 w a len cap zs) : Came w a len (fun j => zs.getD j 0) ∧ len ≤ maxLen ∧ ∀ i, i < len → (Lit.int .i64 (zs.getD i 0)).wf = true := by
  rcases h with ⟨_, rfl, rfl, _⟩ | ⟨x, rfl, hl, hm, hz, hc, hw⟩
  · exact ⟨.inl rfl, Nat.zero_le _, fun i hi => absurd hi (Nat.not_lt_zero i)⟩
  · refine ⟨?_, by omega, fun i hi => hw _ ?_⟩
    · rcases Nat.eq_zero_or_pos len with h0 | h0
      · exact .inl h0
      · obtain ⟨b, off, spot⟩ := x
        have h1 := hc 0 (by omega)
        have hspot : spot = none := by simpa [Addr.add] using World.cell?_spot h1
        subst hspot
        have hadd : ∀ j, (⟨b, off, none⟩ : Addr).add j = ⟨b, off + j, none⟩ := fun j => Addr.add_lit _ _ _
        refine .inr ⟨b, off, rfl, ?_, fun j hj => ?_⟩
        · rw [hadd] at h1
          exact World.block_lt_of_cell? w _ h1
        · have h2 := hc j (by omega)
          rw [hadd] at h2
          exact h2
    · rw [List.getD_eq_getElem?_getD, List.getElem?_eq_getElem (by omega)]
      exact List.getElem_mem _

end Go.Proofs.YtedbmhelmenknaaDoor
