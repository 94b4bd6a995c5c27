/-
  The walk of the law FnExpands, over what the program's Expand answers.
-/
import Derived.Test.YtcieladecjlnpaaRows
import Derived.Test.YtcieladecjlnpaaBase
import Derived.Test.YtcieladecjlnpaaRowLib
import Derived.Test.YtcieladecjlnpaaOwnLib
import Derived.Test.YtcieladecjlnpaaDrawLib
import Derived.Test.YtcieladecjlnpaaDrawList
import Derived.Test.YtcieladecjlnpaaDrawPlaces
import Derived.Test.YtcieladecjlnpaaTokMath
import Derived.Test.YtcieladecjlnpaaTriLib
import Derived.Test.YtcieladecjlnpaaByteLib
import Derived.Test.YtcieladecjlnpaaTokAns
import Derived.Test.YtcieladecjlnpaaTokDraw
import Derived.WalkKit
import Derived.ProofKit
import Derived.WalkLawsBesides
import Derived.Below
import Derived.Lib.SmallJoins
namespace Go.Proofs.Ytcieladecjlnpaa
open Go.RowKit Go.Joins TokMath

section
variable {w : World} {L : List Tok}
theorem tcame_take {a : Option Addr} (h : TCame w a L.length (fun j => L.getD j (0, 0, 0))) {k : Nat} (hk : k ≤ L.length) : TCame w a (L.take k).length (fun j => (L.take k).getD j (0, 0, 0)) := by
  have hl : (L.take k).length = k := by rw [List.length_take]; omega
  rw [hl]
  refine (h.shorter hk).congr (fun j hj => ?_)
  rw [List.getD_eq_getElem?_getD, List.getD_eq_getElem?_getD, List.getElem?_take, if_pos hj]
theorem tcame_drop {g off : Nat} (h : TCame w (some ⟨g, off, none⟩) L.length (fun j => L.getD j (0, 0, 0))) {k : Nat} (hk : k ≤ L.length) : TCame w (some ⟨g, off + k * 3, none⟩) (L.drop k).length (fun j => (L.drop k).getD j (0, 0, 0)) := by
  have hl : (L.drop k).length = L.length - k := List.length_drop
  rw [hl]
  refine (h.part (m := L.length - k) (k := k) (by omega)).congr (fun j hj => ?_)
  rw [List.getD_eq_getElem?_getD, List.getD_eq_getElem?_getD, List.getElem?_drop]
end
theorem str_app (A B : List Int) : strOfNums A ++ strOfNums B = strOfNums (A ++ B) := by
  apply ByteArray.ext
  rw [ByteArray.data_append]
  unfold strOfNums
  simp
theorem tok_wf {t : Tok} (h : TokRight t) : (Lit.int .i64 t.1).wf = true ∧ (Lit.int .i64 t.2.1).wf = true ∧ (Lit.int .i64 t.2.2).wf = true := by
  obtain ⟨x, y, z⟩ := t
  have hb : (0 ≤ x ∧ x ≤ 255) ∧ (0 ≤ y ∧ y ≤ 258) ∧ (0 ≤ z ∧ z ≤ 32768) := by
    have h' : if y = 0 then (0 ≤ x ∧ x ≤ 255) ∧ z = 0 else x = 0 ∧ (3 ≤ y ∧ y ≤ 258) ∧ (1 ≤ z ∧ z ≤ 32768) := h
    split at h' <;> omega
  have key : ∀ q : Int, 0 ≤ q → q ≤ 32768 → (Lit.int .i64 q).wf = true := fun q h0 h1 => by
    simp [Lit.wf, IntKind.min, IntKind.max, IntKind.bits, IntKind.signed]
    omega
  exact ⟨key x (by omega) (by omega), key y (by omega) (by omega), key z (by omega) (by omega)⟩
/-- What Expand answers at tokens that make something. -/
theorem exp_call (hA : ExpandAnswer) {s : ByteArray} {a : Option Addr} {c : Nat} {L : List Tok} {w : World} {F : List Int} (hC : TCame w a L.length (fun j => L.getD j (0, 0, 0))) (hc : L.length ≤ c) (hn : L.length ≤ 1048576) (hs : s.size ≤ 12000) (hR : ∀ t ∈ L, TokRight t) (hF : expandL s.size (bytesOf s) L = some F) :
    Calls Try.prog 16 #[.string s, .slice a L.length c] w fun e w' => e = .returned (.tuple #[.string (strOfNums F), .bool true]) ∧ Below w.heap.size w w' := by
  refine (hA s a c L w hC hc hn (by omega) (fun t ht => tok_wf (hR t ht))).mono ?_
  intro e w' h
  unfold expandOf at h
  rw [if_pos hs, hF] at h
  exact ⟨h.2, h.1⟩

theorem run_bytes : ∀ {L : List Tok} {O F : List Int}, Bytes O → run O L = some F → Bytes F
  | [], _, _, hO, h => by cases h; exact hO
  | t :: R, O, F, hO, h => by
    unfold run at h
    split at h
    · rename_i q
      exact run_bytes (app_bytes q.1 hO) h
    · cases h
theorem run_take {L : List Tok} {F : List Int} (h : run [] L = some F) (k : Nat) {A : List Int} (hA : expandL 0 [] (L.take k) = some A) (hl : F.length ≤ 12000) : Bytes A := by
  rw [← List.take_append_drop k L, run_app] at h
  cases hq : run [] (L.take k) with
  | none => rw [hq] at h; cases h
  | some A' =>
    rw [hq] at h
    have h1 : run A' (L.drop k) = some F := h
    obtain ⟨B, e, _⟩ := run_grow h1
    rw [expand_run 0 hq (by rw [e, List.length_append] at hl; omega), List.drop_zero] at hA
    cases hA
    exact run_bytes (fun x hx => by cases hx) hq
theorem code_mono {w : World} {b b' : Nat} {a : Option Addr} {len : Nat} (h : CodeAt w b a len) (hb : b ≤ b') : CodeAt w b' a len := by
  rcases h with h | ⟨bc, off, ha, hlt, hc⟩
  · exact .inl h
  · exact .inr ⟨bc, off, ha, Nat.lt_of_lt_of_le hlt hb, hc⟩
theorem str_size (O : List Int) : (strOfNums O).size = O.length := by
  unfold strOfNums
  simp [ByteArray.size]

set_option maxHeartbeats 3200000 in
theorem FnExpands_at (hA : ExpandAnswer) (a : Option Addr) (len cap : Nat) (w : World) (hk : CodeAt w w.heap.size a len) (hlen : (len : Int) ≤ 1048576) :
    Calls Try.prog 4 #[.slice a len cap] w fun e w' => e = .returned (.bool true) ∧ Below w.heap.size w w' := by
  have HA := hid_of hA
  have HD : Hid (CodeAt w w.heap.size a len) := hk
  clear hA hk
  go_enter Try.func4, Try.ntmps4
  go_wp2_with fail
  refine (big_no a len cap _ hlen).mono ?_
  rintro e w0 ⟨rfl, rfl⟩
  go_wp2_with fail
  refine (draw_drawTokens a len cap w0.heap.size w0 HD.out (by omega) (Nat.le_refl _)).mono ?_
  rintro e w1 ⟨k, hk, g, cp, L, F, rfl, hkl, hO, hB, hR, hF⟩
  have hT : k ≤ cp ∧ TCame w1 (some ⟨g, 0, none⟩) L.length (fun j => L.getD j (0, 0, 0)) ∧ g < w1.heap.size ∧ cp ≤ maxLen := by
    subst hkl
    obtain ⟨a', c', hv, hcl, hcm, _, hT, _⟩ := tcame_of_own hO rfl
    cases hv
    refine ⟨hcl, hT, ?_, hcm⟩
    rcases hO.2 with ⟨e, _⟩ | ⟨g', cap', cur, hv, hb, hg, _⟩
    · cases e
    · cases hv
      exact block_lt hg
  obtain ⟨hcl, hTC, hgl, hcm⟩ := hT
  unfold maxLen at hcm
  have HT := hid_of hTC
  have HB := hid_of hB
  have HR := hid_of hR
  have HKL := hid_of hkl
  have hr := hid_of (run_right hR)
  have hp0 := hid_of (parts hR (by omega) 0)
  have hFL : L.length ≤ F.length := by
    obtain ⟨A, B, _, _, _, _, _, h, _⟩ := hp0.out
    exact h
  have hFk : k ≤ F.length := by omega
  have hF12 : F.length ≤ 12000 := by omega
  have HEX : Hid (expandL 0 [] L = some F ∧ ∀ P : List Int, expandL P.length P L = some F) := by
    obtain ⟨A, B, _, h1, _, _, h2, _, _⟩ := hp0.out
    exact ⟨h1, h2⟩
  have h0 : ∀ w, TCame w (some ⟨g, 0, none⟩) L.length (fun j => L.getD j (0, 0, 0)) → Calls Try.prog 16 #[.string ⟨#[]⟩, .slice (some ⟨g, 0, none⟩) k cp] w fun e w' => e = .returned (.tuple #[.string (strOfNums F), .bool true]) ∧ Below w.heap.size w w' := fun w hC => by
    rw [HKL.out]
    exact exp_call HA.out hC (by rw [← HKL.out]; exact hcl) (by rw [← HKL.out]; omega) (show 0 ≤ 12000 by omega) hr.out HEX.out.1
  have HH0 := hid_of h0
  clear hO hB hR hkl hTC hFL h0 hp0
  go_wp2_with fail
  refine (HH0.out w1 HT.out).mono ?_
  rintro e w2 ⟨rfl, hB2⟩
  have HB2 := hid_of (bnext HB.out hB2)
  have HT2 := hid_of (HT.out.called hB2)
  have HD2 := hid_of (code_mono (HD.out.below HB2.out) HB2.out.size)
  clear hB2 HB HT HH0 HD
  go_wp2_with fail
  refine (draw_places a len cap w2.heap.size w2 HD2.out (by omega) (Nat.le_refl _)).mono ?_
  rintro e w3 ⟨gp, c, zs, rfl, hz, hzb, hOp, hB3⟩
  have hlt := hOp.lt
  have hzc : w3.cell? ⟨gp, 0, none⟩ = some (.int .i64 (zs.getD 0 0)) ∧ 0 ≤ zs.getD 0 0 ∧ zs.getD 0 0 < 10000 := by
    have hj' : 0 < (i64s zs).length := by rw [i64s_length]; omega
    refine ⟨by rw [hOp.cell 0 hj', i64s_get], hzb _ ?_⟩
    rw [List.getD_eq_getElem?_getD, List.getElem?_eq_getElem (by omega)]
    exact List.getElem_mem _
  obtain ⟨c0, p0, p1⟩ := hzc
  generalize zs.getD 0 0 = z at c0 p0 p1
  have HB3 := hid_of (bnext HB2.out hB3)
  have HT3 := hid_of (HT2.out.called hB3)
  clear hz hzb hOp hB3 HB2 HT2 HD2
  obtain ⟨m, em, hmk⟩ : ∃ m : Nat, z.tmod ((k : Int) + 1) = (m : Int) ∧ m ≤ k := by
    have k0 := Int.emod_nonneg z (show ((k : Int) + 1) ≠ 0 by omega)
    have k1 := Int.emod_lt_of_pos z (show (0 : Int) < (k : Int) + 1 by omega)
    exact ⟨(z % ((k : Int) + 1)).toNat, by rw [Int.tmod_eq_emod_of_nonneg p0]; omega, by omega⟩
  obtain ⟨A, B, eF, _, hEA, hEB, _, _, hA12⟩ := parts HR.out hF12 m
  have HE := hid_of (And.intro hEA hEB)
  have HEF := hid_of eF
  have HAB := hid_of (run_take HR.out m hEA hF12)
  clear hEA hEB eF HR
  have hmc : m ≤ cp := by omega
  have hmL : m ≤ L.length := by rw [← HKL.out]; exact hmk
  have h2 : ∀ w, TCame w (some ⟨g, 0, none⟩) L.length (fun j => L.getD j (0, 0, 0)) → Calls Try.prog 16 #[.string ⟨#[]⟩, .slice (some ⟨g, 0, none⟩) m cp] w fun e w' => e = .returned (.tuple #[.string (strOfNums A), .bool true]) ∧ Below w.heap.size w w' := fun w hC => by
    have el : (L.take m).length = m := by rw [List.length_take]; omega
    have := exp_call HA.out (s := ⟨#[]⟩) (c := cp) (tcame_take hC hmL) (by omega) (by omega) (show 0 ≤ 12000 by omega) (fun t ht => hr.out t (List.mem_of_mem_take ht)) HE.out.1
    rwa [el] at this
  have HC2 := hid_of h2
  have h4 : ∀ w, TCame w (some ⟨g, 0, none⟩) L.length (fun j => L.getD j (0, 0, 0)) → Calls Try.prog 16 #[.string ⟨#[98, 101, 102, 111, 114, 101]⟩, .slice (some ⟨g, 0, none⟩) k cp] w fun e w' => e = .returned (.tuple #[.string (strOfNums F), .bool true]) ∧ Below w.heap.size w w' := fun w hC => by
    rw [HKL.out]
    exact exp_call HA.out hC (by rw [← HKL.out]; exact hcl) (by rw [← HKL.out]; omega) (show 6 ≤ 12000 by omega) hr.out (HEX.out.2 [98, 101, 102, 111, 114, 101])
  have HC4 := hid_of h4
  clear h2 h4 HEX
  have hAs : strOfNums A ++ strOfNums B = strOfNums F := by rw [str_app, HEF.out]
  have hsz := str_size F
  have hszA := str_size A
  have hszB := str_size B
  have hABl : A.length + B.length = F.length := by rw [HEF.out, List.length_append]
  have d5 : decide ((k : Int) ≤ (F.length : Int)) = true := decide_eq_true (by omega)
  go_wp2_with fail
  refine (HC2.out w3 HT3.out).mono ?_
  rintro e w4 ⟨rfl, hB4⟩
  have HB4 := hid_of (bnext HB3.out hB4)
  have HT4 := hid_of (HT3.out.called hB4)
  clear hB4 HB3 HT3 HC2
  by_cases hmcp : m < cp
  · have h3 : ∀ w, TCame w (some ⟨g, 0, none⟩) L.length (fun j => L.getD j (0, 0, 0)) → Calls Try.prog 16 #[.string (strOfNums A), .slice (some ⟨g, m * 3, none⟩) (k - m) (cp - m)] w fun e w' => e = .returned (.tuple #[.string (strOfNums B), .bool true]) ∧ Below w.heap.size w w' := fun w hC => by
      have el : (L.drop m).length = k - m := by rw [List.length_drop, ← HKL.out]
      have hd := tcame_drop hC hmL
      rw [Nat.zero_add] at hd
      have := exp_call HA.out (s := strOfNums A) (c := cp - m) hd (by omega) (by omega) (by rw [str_size]; exact hA12) (fun t ht => hr.out t (List.mem_of_mem_drop ht)) (F := B) (by rw [str_size, bytesOf_str HAB.out]; exact HE.out.2)
      rwa [el] at this
    go_wp2_with fail
    refine (h3 w4 HT4.out).mono ?_
    rintro e w5 ⟨rfl, hB5⟩
    have HB5 := hid_of (bnext HB4.out hB5)
    have HT5 := hid_of (HT4.out.called hB5)
    clear hB5 HB4 HT4 h3
    go_wp2_with fail
    refine (HC4.out w5 HT5.out).mono ?_
    rintro e w6 ⟨rfl, hB6⟩
    have HB6 := hid_of (bnext HB5.out hB6)
    clear hB6 HB5 HT5 HC4
    go_wp2_with fail
    go_ret
    exact ⟨rfl, HB6.out⟩
  · have h3 : ∀ w, TCame w (some ⟨g, 0, none⟩) L.length (fun j => L.getD j (0, 0, 0)) → Calls Try.prog 16 #[.string (strOfNums A), .slice (some ⟨g, 0, none⟩) (k - m) (cp - m)] w fun e w' => e = .returned (.tuple #[.string (strOfNums B), .bool true]) ∧ Below w.heap.size w w' := fun w _ => by
      have el : (L.drop m).length = k - m := by rw [List.length_drop, ← HKL.out]
      have := exp_call HA.out (s := strOfNums A) (a := some ⟨g, 0, none⟩) (c := cp - m) (L := L.drop m) (w := w) (.inl (by omega)) (by omega) (by omega) (by rw [str_size]; exact hA12) (fun t ht => hr.out t (List.mem_of_mem_drop ht)) (F := B) (by rw [str_size, bytesOf_str HAB.out]; exact HE.out.2)
      rwa [el] at this
    go_wp2_with fail
    refine (h3 w4 HT4.out).mono ?_
    rintro e w5 ⟨rfl, hB5⟩
    have HB5 := hid_of (bnext HB4.out hB5)
    have HT5 := hid_of (HT4.out.called hB5)
    clear hB5 HB4 HT4 h3
    go_wp2_with fail
    refine (HC4.out w5 HT5.out).mono ?_
    rintro e w6 ⟨rfl, hB6⟩
    have HB6 := hid_of (bnext HB5.out hB6)
    clear hB6 HB5 HT5 HC4
    go_wp2_with fail
    go_ret
    exact ⟨rfl, HB6.out⟩

theorem FnExpands_over (hA : ExpandAnswer) (a : Option Addr) (len cap : Nat) (zs : List Int) (w : World) (hr : IsRow .u8 w a len cap zs) :
    Calls Try.prog 4 #[.slice a len cap] w fun e w' => e = .returned (.bool true) ∧ Below w.heap.size w w' := by
  obtain ⟨hC, hl, hc⟩ := codeAt_of_row hr
  unfold maxLen at hc
  by_cases h : (len : Int) ≤ 1048576
  · exact FnExpands_at hA a len cap w hC h
  · have d : (1048576 : Int) < len := by omega
    clear hr hC hA
    go_enter Try.func4, Try.ntmps4
    go_wp2_with fail
    refine (big_yes a len cap _ d (by omega)).mono ?_
    rintro e w1 ⟨rfl, rfl⟩
    go_wp2_with fail
    go_ret
    exact ⟨rfl, Below.refl _ _⟩

end Go.Proofs.Ytcieladecjlnpaa
