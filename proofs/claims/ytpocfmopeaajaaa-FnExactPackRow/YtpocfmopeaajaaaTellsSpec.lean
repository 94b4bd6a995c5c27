/-
  The walks of what Runs tell in the document's model, and of lists of numbers of a call's own.
-/
import Derived.Test.YtpocfmopeaajaaaRows
import Derived.Test.YtpocfmopeaajaaaBase
import Derived.Test.YtpocfmopeaajaaaInWalks
import Derived.Test.YtpocfmopeaajaaaOwnLib
import Derived.Test.YtpocfmopeaajaaaIntsLib
import Derived.Test.YtpocfmopeaajaaaRunsMath
import Derived.Test.YtpocfmopeaajaaaDuoLib
import Derived.WalkKit
import Derived.ProofKit
import Derived.WalkLawsBesides
import Derived.Deep.LoopGhost
import Derived.OwnWalk
import Derived.Deep.AppendLies
import Derived.Maps.AppendAt
import Derived.Laws.AppendOwnNone
import Derived.Lib.SmallJoins
namespace Go.Proofs.Ytpocfmopeaajaaa
open Go.RowKit Go.Joins RunsMath

theorem info_int : (Try.prog.info? 3).map (fun i => (i.zero, i.size, i.bytes)) = some (some (.int .i64 0), 1, 8) := by kernel_rfl
/-- The cells of numbers. -/
def ivals (l : List Int) : List Value := l.map fun x => Value.int .i64 x
theorem ivals_length (l : List Int) : (ivals l).length = l.length := by simp [ivals]
theorem ivals_app (xs ys : List Int) : ivals (xs ++ ys) = ivals xs ++ ivals ys := by simp [ivals]
theorem ivals_get (l : List Int) (i : Nat) (h : i < l.length) : (ivals l)[i]? = some (.int .i64 (l.getD i 0)) := by
  unfold ivals
  rw [List.getElem?_map, List.getElem?_eq_getElem h, List.getD_eq_getElem?_getD, List.getElem?_eq_getElem h]
  rfl
theorem ivals_one (l : List Int) : ∀ u ∈ ivals l, u.oneCell' = true := by
  intro u hu
  obtain ⟨x, _, rfl⟩ := List.mem_map.mp hu
  rfl
/-- A list of numbers of the call's own. -/
def NumRow (w : World) (S : Nat) (v : Value) (l : List Int) : Prop := w.ownsRow S 3 1 v l.length (ivals l)
theorem NumRow.empty (w : World) (S : Nat) (h : S ≤ w.heap.size) : NumRow (w.alloc (.cells #[] 3)) S (.slice (some ⟨w.heap.size, 0, none⟩) 0 0) [] :=
  ⟨rfl, .inr ⟨w.heap.size, 0, #[], rfl, h, heap_alloc_new w _, Nat.le_refl _, Nat.zero_le _, rfl, rfl⟩⟩
theorem NumRow.form {w : World} {S : Nat} {v : Value} {l : List Int} (h : NumRow w S v l) : ∃ a c, v = .slice a l.length c ∧ (a = none → c = 0) ∧ l.length ≤ c ∧ Came w a l.length (fun i => l.getD i 0) ∧ ∀ ad, a = some ad → ∀ j u, (ivals l)[j]? = some u → w.cell? (ad.add j) = some u := by
  rcases h.2 with ⟨rfl, h0⟩ | ⟨g, cap, cur, rfl, hb, hg, hc, hm, hs, ht⟩
  · exact ⟨none, 0, by rw [h0], fun _ => rfl, by omega, .inl h0, fun ad e => by cases e⟩
  · refine ⟨_, cap, rfl, (fun e => by cases e), hc, .inr ⟨g, 0, rfl, block_lt hg, fun j hj => ?_⟩, fun ad e j u hu => ?_⟩
    · rw [Nat.zero_add, h.cellAt j (by omega)]
      exact ivals_get l j hj
    · cases e
      have hj : j < l.length := by
        rcases Nat.lt_or_ge j l.length with k | k
        · exact k
        · rw [List.getElem?_eq_none (by rw [ivals_length]; exact k)] at hu; cases hu
      rw [Addr.add_lit, Nat.zero_add, h.cellAt j (by omega)]
      exact hu
theorem NumRow.called {w w' : World} {S : Nat} {v : Value} {l : List Int} (h : NumRow w S v l) (hb : Below w.heap.size w w') : NumRow w' S v l := by
  refine ⟨h.1, ?_⟩
  rcases h.2 with h | ⟨g, cap, cur, rfl, h1, h2, h3⟩
  · exact .inl h
  · exact .inr ⟨g, cap, cur, rfl, h1, (hb.block g (block_lt h2)).trans h2, h3⟩

/-- 'append(v, ys...)' of numbers. -/
theorem nums_append {w : World} {S : Nat} {v : Value} {xs ys : List Int} {ops : Array Oper} {rest : List Oper} {o : Oper} {a : Act} {Q : Exit → Act → World → Prop} (hgd : o.guard = none) (s x : Operand)
    (ho : o.op = .call { callee := .builtin .append, args := #[s, x], argTypes := #[24, 24] }) (hs : a.eval s = v) (h : NumRow w S v xs) (ao : Option Addr) (m c : Nat) (hx : a.eval x = .slice ao m c) (hm : ys.length = m)
    (hc : ∀ ad, ao = some ad → ∀ j u, (ivals ys)[j]? = some u → w.cell? (ad.add j) = some u) (hn : ao = none → m = 0 ∧ c = 0)
    (h63 : xs.length + ys.length ≤ 100000) (hS : S ≤ w.heap.size)
    (hK : ∀ v' w', NumRow w' S v' (xs ++ ys) → w.grownBy w' v.ownBlock → wpList Try.prog ops Q rest (a.put o.dst v') w') : wpList Try.prog ops Q (o :: rest) a w := by
  obtain ⟨i0, hi0, hz0, hz1, hz2⟩ := info_parts info_int
  cases ao with
  | none =>
    obtain ⟨rfl, rfl⟩ := hn rfl
    obtain rfl : ys = [] := List.eq_nil_of_length_eq_zero hm
    refine wpList_append_own_none hgd s x _ ho S 3 i0 1 Try.underlying24 hi0 v _ _ hs h hx (hK v w (by rw [List.append_nil]; exact h) ⟨rfl, rfl, rfl, Nat.le_refl _, fun _ _ _ => rfl⟩)
  | some ad =>
    refine wpList_append_own_at w hgd s x _ ho S 3 i0 _ 1 8 Try.underlying24 hi0 hz0 hz1 hz2 rfl (by omega) v _ _ hs h ad m c (ivals ys) hx (by rw [ivals_length, hm, Nat.mul_one]) (hc ad rfl) (ivals_one ys) (by unfold maxLen; omega) (by omega) hS ?_
    intro v' w' hown hg _ _
    refine hK v' w' ?_ hg
    show w'.ownsRow S 3 1 v' (xs ++ ys).length (ivals (xs ++ ys))
    rw [List.length_append, ivals_app, hm]
    exact hown

/-- What l05Tells answers. -/
def TellPost (w : World) (res : Option (List Int)) (e : Ending) (w' : World) : Prop :=
  Below w.heap.size w w' ∧ match res with
  | some more => ∃ v, e = .returned (.tuple #[v, .bool true]) ∧ NumRow w' w.heap.size v more
  | none => ∃ g, e = .returned (.tuple #[.slice (some ⟨g, 0, none⟩) 0 0, .bool false]) ∧ w.heap.size ≤ g ∧ NumRow w' w.heap.size (.slice (some ⟨g, 0, none⟩) 0 0) []

/-- What the ring of l05Tells has at hand. -/
def TelSt (w w' : World) (v : Value) (x : Int) (j : Nat) : Prop := NumRow w' w.heap.size v (List.replicate j x) ∧ Below w.heap.size w w'
theorem tel_start (w : World) (o : Obj) (x : Int) : TelSt w ((w.alloc o).alloc (.cells #[] 3)) (.slice (some ⟨w.heap.size + 1, 0, none⟩) 0 0) x 0 := by
  have e : (w.alloc o).heap.size = w.heap.size + 1 := by simp
  have h := NumRow.empty (w.alloc o) w.heap.size (by omega)
  rw [e] at h
  exact ⟨h, bal (bstart w o) _⟩

theorem tell_short {out : List Int} {r : Int × Int} {more : List Int} (h : tell out r = some more) : more.length ≤ 138 := by
  unfold tell at h
  split at h
  · split at h
    · simp at h; rw [← h, List.length_replicate]; omega
    · cases h
  · split at h
    · split at h
      · simp at h; rw [← h, List.length_replicate]; omega
      · cases h
    · split at h
      · split at h
        · simp at h; rw [← h, List.length_replicate]; omega
        · cases h
      · split at h
        · simp at h; rw [← h]; simp
        · cases h
theorem lst_self (l : List Int) : lst (fun i => l.getD i 0) l.length = l := by
  refine List.ext_getElem? (fun i => ?_)
  unfold lst
  rw [List.getElem?_map]
  rcases Nat.lt_or_ge i l.length with h | h
  · rw [List.getElem?_range h, List.getElem?_eq_getElem h]
    simp [h]
  · rw [List.getElem?_eq_none (by simpa using h), List.getElem?_eq_none h]
    rfl

end Go.Proofs.Ytpocfmopeaajaaa
