/-
  A list of numbers of the call's own, as a slice that was handed back.
-/
import Derived.Test.YtholkigomokimaaOwnLib
import Derived.Test.YtholkigomokimaaIntsLib
import Derived.Test.YtholkigomokimaaTellsSpec
namespace Go.Proofs.Ytholkigomokimaa
open Go.RowKit Go.Joins

theorem sl_of_num {w : World} {S : Nat} {a : Option Addr} {n c : Nat} {O : List Int} (h : NumRow w S (.slice a n c) O) (hn : n = O.length) : SL w S a n c (fun j => O.getD j 0) := by
  rcases Nat.eq_zero_or_pos n with h0 | h0
  · exact .inl h0
  · obtain ⟨g, _, ho⟩ := own_of_ownsRow h (by omega)
    obtain ⟨cap, e⟩ := ho.form
    obtain ⟨e1, e2, e3⟩ := Value.slice.inj e
    subst e1 e3
    have e4 : fints (fun j => O.getD j 0) n = ivals O := by
      refine List.ext_getElem? (fun i => ?_)
      rcases Nat.lt_or_ge i O.length with q | q
      · rw [ivals_get O i q, List.getElem?_eq_getElem (by rw [fints_length]; omega), fints_get]
      · rw [List.getElem?_eq_none (by rw [fints_length]; omega), List.getElem?_eq_none (by rw [ivals_length]; exact q)]
    refine .inr ⟨g, rfl, ?_⟩
    unfold IOwn
    rw [e4]
    exact ho

end Go.Proofs.Ytholkigomokimaa
