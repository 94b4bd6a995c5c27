/-
  The walk of the model's draw out of a list of numbers.
  The walk of the model's draw of a rare case.
  What a draw has at hand that fills one list: its cursor, and the list, which is the call's own.
-/
import Derived.Test.YtcnlcbkgbcnloaaRows
import Derived.Test.YtcnlcbkgbcnloaaHk01
import Derived.Test.YtcnlcbkgbcnloaaHk04
import Derived.Test.YtcnlcbkgbcnloaaHk02
import Derived.WalkKit
import Derived.ProofKit
import Derived.WalkLawsBesides
import Derived.Deep.QuietTactic
import Derived.BigQuiet
import Derived.OpenShut
import Derived.Lib.SmallJoins
namespace Go.Proofs.Ytcnlcbkgbcnloaa
open Go.RowKit Go.Joins

theorem draw_pickInt (base b g n cap : Nat) (p : Int → Prop) (w : World) (hC : Cur w base b) (hn : 0 < n) (hne : g ≠ b) (hg : g < w.heap.size) (hl : ∀ j, j < n → ∃ x : Int, w.cell? ⟨g, j, none⟩ = some (.int .i64 x) ∧ p x) :
    Calls Try.prog 65 #[.pointer (some ⟨b, 0, none⟩), .slice (some ⟨g, 0, none⟩) n cap] w fun e w' => ∃ x : Int, e = .returned (.int .i64 x) ∧ p x ∧ Cur w' base b ∧ w.grownBy w' (some b) := by
  have HC : Hid (Cur w base b) := hC
  have HL : Hid (∀ j, j < n → ∃ x : Int, w.cell? ⟨g, j, none⟩ = some (.int .i64 x) ∧ p x) := hl
  clear hC hl
  go_enter Try.func65, Try.ntmps65
  go_wp2_with fail
  refine (draw_below base b n _ HC.out).mono ?_
  rintro e w1 ⟨x, rfl, hx, hC1, hg1⟩
  have HC1 : Hid (Cur w1 base b) := hC1
  obtain ⟨hx0, hx1, _⟩ := hx
  have hx2 := hx1 (by omega)
  obtain ⟨j, rfl⟩ := Int.eq_ofNat_of_zero_le hx0
  obtain ⟨y, hy, hp⟩ := HL.out j (by omega)
  have hy1 : w1.cell? ⟨g, j, none⟩ = some (.int .i64 y) := (World.cell?_of_block (a := ⟨g, j, none⟩) (hg1.block g hg (by simpa using hne))).trans hy
  have HP : Hid (p y) := hp
  clear hC1 hx1 hp
  go_wp2_with fail
  go_ret
  exact ⟨_, rfl, HP.out, HC1.out, hg1⟩

end Go.Proofs.Ytcnlcbkgbcnloaa

namespace Go.Proofs.Ytcnlcbkgbcnloaa
open Go.RowKit Go.Joins

theorem draw_once (base b : Nat) (n : Int) (w : World) (hC : Cur w base b) :
    Calls Try.prog 63 #[.pointer (some ⟨b, 0, none⟩), .int .i64 n] w fun e w' => ∃ x : Bool, e = .returned (.bool x) ∧ Cur w' base b ∧ w.grownBy w' (some b) := by
  have HC : Hid (Cur w base b) := hC
  clear hC
  go_enter Try.func63, Try.ntmps63
  go_wp2_with fail
  refine (draw_below base b n _ HC.out).mono ?_
  rintro e w1 ⟨x, rfl, hx, hC1, hg1⟩
  have HC1 : Hid (Cur w1 base b) := hC1
  clear hC1 hx
  go_wp2_with fail
  go_ret
  exact ⟨_, rfl, HC1.out, hg1⟩

end Go.Proofs.Ytcnlcbkgbcnloaa

namespace Go.Proofs.Ytcnlcbkgbcnloaa
open Go.RowKit Go.Joins

def DL (e : TypeId) (w0 w : World) (base b g cap : Nat) (vs : List Value) : Prop :=
  Cur w base b ∧ Own e w base g (.slice (some ⟨g, 0, none⟩) vs.length cap) vs ∧ g ≠ b ∧ Below base w0 w

section
variable {e : TypeId} {w0 w w' : World} {base b g cap : Nat} {vs : List Value}
theorem DL.start (hC : Cur w base b) (hB : Below base w0 w) (e : TypeId) : DL e w0 (w.alloc (.cells #[] e)) base b w.heap.size 0 [] := by
  have hl := hC.lt
  have hb := hC.base_le
  refine ⟨hC.alloc _, ⟨0, #[], (0, 0), rfl, by omega, heap_alloc_new w _, .inl rfl, Nat.le_refl _, Nat.zero_le _, rfl, rfl⟩, by omega, hB.alloc (by omega) _⟩
theorem DL.drawn (h : DL e w0 w base b g cap vs) (hg : w.grownBy w' (some b)) (hC : Cur w' base b) : DL e w0 w' base b g cap vs := by
  obtain ⟨h1, h2, h3, h4⟩ := h
  exact ⟨hC, h2.keep (hg.block g h2.lt (by simpa using h3)), h3, h4.trans (below_of_grown hg h1.base_le h1.lt)⟩
/-- Behind a call that turned nothing old. -/
theorem DL.called (h : DL e w0 w base b g cap vs) (hb : Below w.heap.size w w') : DL e w0 w' base b g cap vs := by
  obtain ⟨h1, h2, h3, h4⟩ := h
  have l1 := h1.lt
  have l2 := h2.lt
  have lb := h1.base_le
  exact ⟨h1.keep (hb.block b l1) (hb.mono (by omega)), h2.below hb l2, h3, h4.trans (hb.mono (by omega))⟩
theorem DL.app (h : DL e w0 w base b g cap vs) {o : Obj} {x : Value} {g' : Nat} {u : Value} (hO : Own e w' base g' u (vs ++ [x])) (hg : g' = g ∨ w.heap.size + 1 ≤ g') (hgr : (w.alloc o).grownBy w' (some g)) :
    ∃ c', u = .slice (some ⟨g', 0, none⟩) (vs.length + 1) c' ∧ DL e w0 w' base b g' c' (vs ++ [x]) := by
  obtain ⟨h1, h2, h3, h4⟩ := h
  have l1 := h1.lt
  have l2 := h2.lt
  have hb := h1.base_le
  obtain ⟨c', hu⟩ := hO.form
  have hsz : (w.alloc o).heap.size = w.heap.size + 1 := by simp
  rw [hu] at hO
  refine ⟨c', by rw [hu]; simp, (h1.alloc o).grown hgr (by simpa using h3) (fun k hk => by cases hk; exact h2.base_le), hO, ?_, ?_⟩
  · rcases hg with rfl | hg
    · exact h3
    · omega
  · exact (h4.alloc (by omega) o).grown hgr (by rw [hsz]; omega) (fun k hk => by cases hk; exact h2.base_le)
theorem DL.set (h : DL e w0 w base b g cap vs) (j : Nat) (hj : j < vs.length) (u : Value) : DL e w0 (w.setCell ⟨g, j, none⟩ u) base b g cap (vs.set j u) := by
  obtain ⟨h1, h2, h3, h4⟩ := h
  have h5 := h2.set j hj u
  refine ⟨h1.setCell _ _ h3 h2.base_le, by rw [List.length_set]; exact h5, h3, Below.setCell (p := ⟨g, j, none⟩) h4 h2.base_le _⟩
theorem DL.cell (h : DL e w0 w base b g cap vs) (j : Nat) (hj : j < vs.length) : w.cell? ⟨g, j, none⟩ = some vs[j] := h.2.1.cell j hj
theorem DL.free (h : DL e w0 w base b g cap vs) (j : Nat) (hj : j < vs.length) : w.frozen? ⟨g, j, none⟩ = false := h.2.1.free j hj
theorem DL.drew (h : DL e w0 w base b g cap vs) : DL e w0 w.drew base b g cap vs := by
  obtain ⟨h1, h2, h3, h4⟩ := h
  exact ⟨h1.drew, h2.drewN 1, h3, h4.drew⟩
theorem DL.below (h : DL e w0 w base b g cap vs) : Below base w0 w := h.2.2.2
theorem DL.own (h : DL e w0 w base b g cap vs) : Own e w base g (.slice (some ⟨g, 0, none⟩) vs.length cap) vs := h.2.1
theorem DL.cur (h : DL e w0 w base b g cap vs) : Cur w base b := h.1
end

/-- The numbers of a list, as cells. -/
def i64s (zs : List Int) : List Value := zs.map (Value.int .i64)
theorem i64s_length (zs : List Int) : (i64s zs).length = zs.length := List.length_map _
theorem i64s_app (zs : List Int) (x : Int) : i64s zs ++ [.int .i64 x] = i64s (zs ++ [x]) := by simp [i64s]
theorem i64s_get (zs : List Int) (j : Nat) (h : j < (i64s zs).length) : (i64s zs)[j] = .int .i64 (zs.getD j 0) := by
  have h' : j < zs.length := by rw [← i64s_length]; exact h
  simp [i64s, List.getD_eq_getElem?_getD, List.getElem?_eq_getElem h']
theorem i64s_set (zs : List Int) (j : Nat) (x : Int) : (i64s zs).set j (.int .i64 x) = i64s (zs.set j x) := by simp [i64s, List.map_set]

end Go.Proofs.Ytcnlcbkgbcnloaa
