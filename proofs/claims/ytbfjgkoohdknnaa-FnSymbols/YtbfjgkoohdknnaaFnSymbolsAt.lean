/-
  The walk of the law FnSymbols, over what the program's functions answer.
-/
import Derived.Test.YtbfjgkoohdknnaaRows
import Derived.Test.YtbfjgkoohdknnaaBase
import Derived.Test.YtbfjgkoohdknnaaOutMath
import Derived.Test.YtbfjgkoohdknnaaCodeMath
import Derived.Test.YtbfjgkoohdknnaaTakeMath
import Derived.Test.YtbfjgkoohdknnaaHitMath
import Derived.Test.YtbfjgkoohdknnaaPutMath
import Derived.Test.YtbfjgkoohdknnaaPutLib
import Derived.Test.YtbfjgkoohdknnaaPutsMath
import Derived.Test.YtbfjgkoohdknnaaBitsMath
import Derived.Test.YtbfjgkoohdknnaaSymbolsMath
import Derived.Test.YtbfjgkoohdknnaaRoomMath
import Derived.Test.YtbfjgkoohdknnaaOwnLib
import Derived.Test.YtbfjgkoohdknnaaRowLib
import Derived.Test.YtbfjgkoohdknnaaIntsLib
import Derived.Test.YtbfjgkoohdknnaaDrawLib
import Derived.Test.YtbfjgkoohdknnaaDrawList
import Derived.Test.YtbfjgkoohdknnaaDrawPlaces
import Derived.Test.YtbfjgkoohdknnaaDrawWhole
import Derived.Test.YtbfjgkoohdknnaaKindAns
import Derived.Test.YtbfjgkoohdknnaaCostPost
import Derived.Test.YtbfjgkoohdknnaaCostAns
import Derived.Test.YtbfjgkoohdknnaaPutsPost
import Derived.Test.YtbfjgkoohdknnaaPutsAns
import Derived.Test.YtbfjgkoohdknnaaSymAns
import Derived.WalkKit
import Derived.ProofKit
import Derived.WalkLawsBesides
import Derived.OwnWalk
import Derived.OpenShut
import Derived.Below
import Derived.Lib.SmallJoins
namespace Go.Proofs.Ytbfjgkoohdknnaa
open Go.RowKit Go.Joins OutMath CodeMath HitMath PutsMath SymbolsMath RoomMath

theorem wf_i64 {x : Int} (h0 : -1000000 ≤ x) (h1 : x ≤ 1000000) : (Lit.int .i64 x).wf = true := by
  simp [Lit.wf, IntKind.min, IntKind.max, IntKind.bits, IntKind.signed]
  omega
theorem codeAt_mono {w : World} {b b' : Nat} {a : Option Addr} {len : Nat} (h : CodeAt w b a len) (hb : b ≤ b') : CodeAt w b' a len := by
  rcases h with h | ⟨bc, off, ha, hlt, hc⟩
  · exact .inl h
  · exact .inr ⟨bc, off, ha, Nat.lt_of_lt_of_le hlt hb, hc⟩
theorem whole_coded {f : Nat → Int} {n : Nat} (h : Whole f n) (hn : n ≤ 288) : Coded f n := ⟨hn, fun i hi => ⟨by have := (h.1 i hi).1; omega, (h.1 i hi).2⟩, by rw [h.2]; omega⟩
theorem cnt_pos {f : Nat → Int} : ∀ n, 1 ≤ n → (∀ i, i < n → 1 ≤ f i) → cnt f n ≠ 0
  | 0, h, _ => by omega
  | n + 1, _, h => by
    have hb := cnt_bd f n
    show cnt f n + (if 0 < f n then 1 else 0) ≠ 0
    rw [if_pos (by have := h n (by omega); omega)]
    omega
theorem whole_kind {f : Nat → Int} {n : Nat} {k : Int} (hW : Whole f n) (hn : n ≤ 288) (h1 : 1 ≤ n) (h : Kind f n k) : k = 2 := by
  rcases h with ⟨_, h⟩ | ⟨_, _, h⟩
  · exact absurd ⟨hn, (whole_coded hW hn).2.1⟩ h
  · rw [h]
    unfold kindOf
    rw [if_neg (cnt_pos n h1 (fun i hi => (hW.1 i hi).1)), if_pos hW.2]

theorem info_sym : (Try.prog.info? 3).map (fun i => (i.zero, i.size, i.bytes)) = some (some (.int .i64 0), 1, 8) := by kernel_rfl
theorem make_sym (w : World) (n : Nat) (hn : n ≤ 1048576) : (Instr.makeSlice 24 (.int .i64 n) (.int .i64 n)).run Try.prog w = .ok (.slice (some ⟨w.heap.size, 0, none⟩) n n) (w.alloc (.cells (madeCells #[Value.int .i64 0] n) 3)) := by
  obtain ⟨i0, hi0, hz0, hz1, hz2⟩ := info_parts info_sym
  have h := run_make (P := Try.prog) w 24 3 i0 (.int .i64 0) Try.underlying24 hi0 hz0 .i64 .i64 n n (by omega) (by omega) (by rw [hz2]; omega) (by omega)
  rw [hz1, Int.toNat_natCast, Nat.mul_one] at h
  exact h

/-- What FnSymbols has at hand: lengths, places, counts, the list of symbols (l of them, k counted). -/
structure SymSt (W w : World) (g n cap : Nat) (f : Nat → Int) (gp cp : Nat) (zs : List Int) (x : Nat → Nat) (gk gl cl l k : Nat) : Prop where
  bel : Below W.heap.size W w
  len : IOwn w W.heap.size g n cap f
  pla : Own 3 w W.heap.size gp (.slice (some ⟨gp, 0, none⟩) 12 cp) (i64s zs)
  cou : IOwn w W.heap.size gk n n (tally x k)
  lis : IOwn w W.heap.size gl l cl (fun i => (x i : Int))
  d1 : gl ≠ g
  d2 : gl ≠ gp
  d3 : gl ≠ gk
  d4 : gk ≠ g
  d5 : gk ≠ gp
section
variable {W w w' : World} {g n cap : Nat} {f : Nat → Int} {gp cp : Nat} {zs : List Int} {x : Nat → Nat} {gk gl cl l k : Nat}
theorem SymSt.called (h : SymSt W w g n cap f gp cp zs x gk gl cl l k) (hb : Below w.heap.size w w') : SymSt W w' g n cap f gp cp zs x gk gl cl l k :=
  ⟨bnext h.bel hb, h.len.called hb, h.pla.below hb h.pla.lt, h.cou.called hb, h.lis.called hb, h.d1, h.d2, h.d3, h.d4, h.d5⟩
theorem SymSt.count (h : SymSt W w g n cap f gp cp zs x gk gl cl l k) (hx : x k < n) : SymSt W (w.setCell ⟨gk, x k, none⟩ (.int .i64 (tally x k (x k) + 1))) g n cap f gp cp zs x gk gl cl l (k + 1) := by
  have hs := h.cou.set (x k) hx (tally x k (x k) + 1)
  refine ⟨Below.setCell (p := ⟨gk, x k, none⟩) h.bel h.cou.base_le _, h.len.keep (Below.heap_setCell _ _ _ _ (Ne.symm h.d4)), h.pla.keep (Below.heap_setCell _ _ _ _ (Ne.symm h.d5)), hs.congr (fun i _ => ?_), h.lis.keep (Below.heap_setCell _ _ _ _ h.d3), h.d1, h.d2, h.d3, h.d4, h.d5⟩
  show (if i = x k then tally x k (x k) + 1 else tally x k i) = (if i = x k then tally x k i + 1 else tally x k i)
  split
  · rename_i e; rw [e]
  · rfl
theorem SymSt.off (h : SymSt W w g n cap f gp cp zs x gk gl cl l k) {q : Nat} (hq : W.heap.size ≤ q) (n1 : g < q) (n2 : gp < q) (n3 : gk < q) (n4 : gl < q) (i : Nat) (v : Value) : SymSt W (w.setCell ⟨q, i, none⟩ v) g n cap f gp cp zs x gk gl cl l k :=
  ⟨Below.setCell (p := ⟨q, i, none⟩) h.bel hq _, h.len.keep (Below.heap_setCell _ _ _ _ (Nat.ne_of_lt n1)), h.pla.keep (Below.heap_setCell _ _ _ _ (Nat.ne_of_lt n2)), h.cou.keep (Below.heap_setCell _ _ _ _ (Nat.ne_of_lt n3)), h.lis.keep (Below.heap_setCell _ _ _ _ (Nat.ne_of_lt n4)), h.d1, h.d2, h.d3, h.d4, h.d5⟩
theorem SymSt.app (h : SymSt W w g n cap f gp cp zs x gk gl cl l k) {o : Obj} {g' : Nat} {u : Value} (hO : Own 3 w' W.heap.size g' u (fints (fun i => (x i : Int)) l ++ [.int .i64 (x l)])) (hg : g' = gl ∨ w.heap.size + 1 ≤ g') (hgr : (w.alloc o).grownBy w' (some gl)) :
    ∃ c', u = .slice (some ⟨g', 0, none⟩) (l + 1) c' ∧ SymSt W w' g n cap f gp cp zs x gk g' c' (l + 1) k := by
  have hsz : (w.alloc o).heap.size = w.heap.size + 1 := by simp
  have l1 := h.len.lt
  have l2 := h.pla.lt
  have l3 := h.cou.lt
  have l4 := h.lis.lt
  have lb := h.bel.size
  rw [fints_app] at hO
  obtain ⟨c', hu⟩ := hO.form
  rw [fints_length] at hu
  refine ⟨c', hu, ?_⟩
  rw [hu] at hO
  have e : ∀ i, i < l + 1 → upd (fun i => (x i : Int)) l (x l : Int) i = (x i : Int) := fun i _ => by
    unfold upd
    by_cases q : i = l
    · rw [if_pos q, q]
    · rw [if_neg q]
  refine ⟨(h.bel.alloc lb o).grown hgr (by rw [hsz]; omega) (fun k hk => by cases hk; exact h.lis.base_le), (h.len.alloc o).grown hgr (by simpa using h.d1), (h.pla.alloc o).keep (hgr.block gp (by rw [hsz]; omega) (by simpa using Ne.symm h.d2)), (h.cou.alloc o).grown hgr (by simpa using h.d3), IOwn.congr (f := upd (fun i => (x i : Int)) l (x l : Int)) hO e, ?_, ?_, ?_, h.d4, h.d5⟩
  · rcases hg with rfl | hg
    · exact h.d1
    · omega
  · rcases hg with rfl | hg
    · exact h.d2
    · omega
  · rcases hg with rfl | hg
    · exact h.d3
    · omega
end

/-- What the second ring of FnSymbols has at hand besides: the Out, and the Bits that it goes on from. -/
def SymB (w : World) (go gb : Nat) (S : ByteArray) (C A : Nat) : Prop :=
  w.heap[go]? = some (.cells #[.string S, .int .i64 (C : Int)] 28 (0, 0)) ∧ w.heap[gb]? = some (.cells #[.string S, .int .i64 (A : Int)] 33 (0, 0)) ∧ go < gb
theorem SymB.called {w w' : World} {go gb : Nat} {S : ByteArray} {C A : Nat} (h : SymB w go gb S C A) (hb : Below w.heap.size w w') : SymB w' go gb S C A :=
  ⟨(hb.block _ (block_lt h.1)).trans h.1, (hb.block _ (block_lt h.2.1)).trans h.2.1, h.2.2⟩
theorem SymB.next {w : World} {go gb : Nat} {S : ByteArray} {C A : Nat} (h : SymB w go gb S C A) (B : Nat) : SymB ((w.setCell ⟨gb, 0, none⟩ (.string S)).setCell ⟨gb, 1, none⟩ (.int .i64 (B : Int))) go gb S C B := by
  refine ⟨?_, two_set h.2.1 _ _, h.2.2⟩
  rw [Below.heap_setCell _ _ _ _ (Nat.ne_of_lt h.2.2), Below.heap_setCell _ _ _ _ (Nat.ne_of_lt h.2.2)]
  exact h.1

set_option maxRecDepth 4000 in
set_option maxHeartbeats 3200000 in
theorem FnSymbols_at (hK : KindAnswer) (hC : CostAnswer) (hP : PutsSome) (hS : SymAnswer) (a : Option Addr) (len cap : Nat) (w : World) (hk : CodeAt w w.heap.size a len) (hlen : (len : Int) ≤ 1048576) :
    Calls Try.prog 5 #[.slice a len cap] w fun e w' => e = .returned (.bool true) ∧ Below w.heap.size w w' := by
  have HK : Hid KindAnswer := hK
  have HC : Hid CostAnswer := hC
  have HP : Hid PutsSome := hP
  have HS : Hid SymAnswer := hS
  have HD : Hid (CodeAt w w.heap.size a len) := hk
  clear hK hC hP hS hk
  go_enter Try.func5, Try.ntmps5
  go_wp2_with fail
  refine (big_no a len cap _ hlen).mono ?_
  rintro e w0 ⟨rfl, hw0⟩
  obtain rfl : w = w0 := hw0.symm
  clear hw0
  go_wp2_with fail
  refine (draw_whole a len cap _ _ HD.out (by omega) (Nat.le_refl _)).mono ?_
  rintro e w1 ⟨g, n, c, f, rfl, hn1, hn2, hW, hO1, hB1⟩
  go_wp2_with fail
  refine (draw_places a len cap w1.heap.size w1 (codeAt_mono (HD.out.below hB1) hB1.size) (by omega) (Nat.le_refl _)).mono ?_
  rintro e w2 ⟨gp, cp, zs, rfl, hz, hzb, hOp, hB2⟩
  obtain ⟨x, hxe⟩ : ∃ x : Nat → Nat, ∀ j, x j = (zs.getD j 0 % (n : Int)).toNat := ⟨_, fun _ => rfl⟩
  have hxn : ∀ j, x j < n := fun j => by
    rw [hxe j]
    have k0 := Int.emod_nonneg (zs.getD j 0) (show (n : Int) ≠ 0 by omega)
    have k1 := Int.emod_lt_of_pos (zs.getD j 0) (show (0 : Int) < n by omega)
    omega
  have hzx : ∀ j, j < 12 → 0 ≤ zs.getD j 0 ∧ (zs.getD j 0).tmod (n : Int) = (x j : Int) := fun j hj => by
    have hm := hzb (zs.getD j 0) (by rw [List.getD_eq_getElem?_getD, List.getElem?_eq_getElem (by omega)]; exact List.getElem_mem _)
    have k0 := Int.emod_nonneg (zs.getD j 0) (show (n : Int) ≠ 0 by omega)
    refine ⟨hm.1, ?_⟩
    rw [Int.tmod_eq_emod_of_nonneg hm.1, hxe j]
    omega
  have hmk := make_sym (w2.alloc (.cells #[] 3)) n (by omega)
  have hz1 : (w2.alloc (.cells #[] 3)).heap.size = w2.heap.size + 1 := by simp
  rw [hz1] at hmk
  have HX : Hid (∀ j, x j < n) := hxn
  have HZ : Hid (∀ j, j < 12 → 0 ≤ zs.getD j 0 ∧ (zs.getD j 0).tmod (n : Int) = (x j : Int)) := hzx
  have HL : Hid (zs.length = 12) := hz
  have HW : Hid (Whole f n) := hW
  have HG : Hid (Coded f n) := whole_coded hW (by omega)
  have H0 : Hid (SymSt w ((w2.alloc (.cells #[] 3)).alloc (.cells (madeCells #[Value.int .i64 0] n) 3)) g n c f gp cp zs x (w2.heap.size + 1) w2.heap.size 0 0 0) := by
    have s1 := hB1.size
    have s2 := hB2.size
    have l1 := hO1.lt
    have l2 := hOp.lt
    have b2 := hOp.base_le
    have hO1' := hO1.called hB2
    have hl0 : IOwn (w2.alloc (.cells #[] 3)) w.heap.size w2.heap.size 0 0 (fun i => (x i : Int)) := ⟨0, #[], (0, 0), rfl, by omega, heap_alloc_new w2 _, .inl rfl, Nat.le_refl _, Nat.zero_le _, rfl, rfl⟩
    have hk0 := IOwn.made (base := w.heap.size) (w2.alloc (.cells #[] 3)) n (by unfold maxLen; omega) (by rw [hz1]; omega)
    rw [hz1] at hk0
    exact ⟨bal (bal (bnext hB1 hB2) _) _, (hO1'.alloc _).alloc _, ((hOp.alloc _).alloc _).mono s1, hk0, hl0.alloc _, by omega, by omega, by omega, by omega, by omega⟩
  clear hxe hxn hzx hz1 hz hzb hOp hO1 hB1 hB2 hW
  generalize hw3 : (w2.alloc (.cells #[] 3)).alloc (.cells (madeCells #[Value.int .i64 0] n) 3) = w3 at hmk H0
  clear hw3
  go_wp2_with fail
  go_loopw [5, 7] (fun v z w' => ∃ j gl cl : Nat, j ≤ 12 ∧ z = .int .i64 j ∧ v = .slice (some ⟨gl, 0, none⟩) j cl ∧ Hid (SymSt w w' g n c f gp cp zs x (w2.heap.size + 1) gl cl j j)) (fun _ z _ => 12 - (intOf z).toNat)
  case atStart => exact ⟨0, w2.heap.size, 0, by omega, rfl, rfl, H0⟩
  case round =>
    clear H0
    obtain ⟨j, gl, cl, hj, rfl, rfl, hS⟩ := hrel
    by_cases hlt : j < 12
    · have hpc : wr.cell? ⟨gp, j, none⟩ = some (.int .i64 (zs.getD j 0)) := by
        have hj' : j < (i64s zs).length := by rw [i64s_length, HL.out]; exact hlt
        rw [hS.out.pla.cell j hj', i64s_get]
      obtain ⟨hz0, hzm⟩ := HZ.out j hlt
      have hpl := hS.out.pla.lt
      generalize zs.getD j 0 = z at hpc hz0 hzm
      have hxj := HX.out j
      obtain ⟨i0, hi0, hq0, hq1, hq2⟩ := info_parts info_sym
      have hlO : Own 3 wr w.heap.size gl (.slice (some ⟨gl, 0, none⟩) j cl) (fints (fun i => (x i : Int)) j) := hS.out.lis
      have hll : (fints (fun i => (x i : Int)) j).length + 1 ≤ maxLen ∧ ((fints (fun i => (x i : Int)) j).length + 1) * 8 ≤ 140737488355328 := by rw [fints_length]; unfold maxLen; omega
      have HlO : Hid (Own 3 wr w.heap.size gl (.slice (some ⟨gl, 0, none⟩) j cl) (fints (fun i => (x i : Int)) j)) := hlO
      clear hlO
      go_wp2_with (at_builtin; refine wpList_append1 rfl _ _ 24 rfl i0 (.int .i64 0) 8 Try.underlying24 hi0 hq0 hq1 hq2 rfl rfl (HlO.out.alloc _) ⟨wr.heap.size, 0, none⟩ 1 (.int .i64 (x j : Int)) rfl ?c1 rfl rfl hll.1 hll.2 ?_)
      case c1 => simp
      · intro g1 v1 w4 hO4 hg4 hgr4
        obtain ⟨c1, hv1, hS4⟩ := hS.out.app hO4 (by simpa using hg4) hgr4
        rw [hv1]
        have kc := hS4.cou.cell (x j) hxj
        have kf := hS4.cou.free (x j) hxj
        have kl := hS4.cou.lt
        have tb := tally_bd x (x j) j
        have HS5 : Hid (SymSt w (w4.setCell ⟨w2.heap.size + 1, x j, none⟩ (.int .i64 (tally x j (x j) + 1))) g n c f gp cp zs x (w2.heap.size + 1) g1 c1 (j + 1) (j + 1)) := hS4.count hxj
        clear hO4 hg4 hgr4 hv1 hS4 hi0 hq0 hq1 hq2 hll HlO hpc
        go_wp2_with fail
        go_roundw
        case rel => exact ⟨j + 1, g1, c1, by omega, by go_num, rfl, HS5⟩
        case measure => simp [intOf]; omega
    · obtain rfl : j = 12 := by omega
      have hfw : ∀ i, i < n → (Lit.int .i64 (f i)).wf = true := fun i hi => wf_i64 (by have := (HW.out.1 i hi).1; omega) (by have := (HW.out.1 i hi).2; omega)
      have HFW : Hid (∀ i, i < n → (Lit.int .i64 (f i)).wf = true) := hfw
      have hxw : ∀ i, i < 12 → (Lit.int .i64 ((fun i => (x i : Int)) i)).wf = true := fun i _ => wf_i64 (show (-1000000 : Int) ≤ (x i : Int) by omega) (show (x i : Int) ≤ 1000000 by have := HX.out i; omega)
      have h15 : ∀ j, (f (x j)).toNat ≤ 15 := fun j => by have := (HW.out.1 (x j) (HX.out j)).2; omega
      have hC12 : ∀ j, j ≤ 12 → syC f x j ≤ 180 := fun j hj => by have := syC_le h15 j; omega
      have HC12 : Hid (∀ j, j ≤ 12 → syC f x j ≤ 180) := hC12
      have hR : PutsRight f n (fun i => (x i : Int)) 12 ⟨#[]⟩ 0 := sy_right HG.out 12 (by omega) HX.out (fun i hi => (HW.out.1 i hi).1)
      have HPs : Hid (Calls Try.prog 20 #[.agg #[.string ⟨#[]⟩, .int .i64 0], .slice (some ⟨g, 0, none⟩) n c, .slice (some ⟨gl, 0, none⟩) 12 cl] wr fun e w' => e = .returned (.tuple #[.agg #[.string (strOfNums (syY f n x 12)), .int .i64 (syC f x 12 : Nat)], .bool true]) ∧ Below wr.heap.size wr w') := by
        refine (HP.out _ _ n 12 c cl f (fun i => (x i : Int)) ⟨#[]⟩ 0 wr (by omega) hS.out.len.sl.came hS.out.lis.sl.came (by omega) (by omega) hfw hxw (by decide) (by omega) (by omega)).mono ?_
        rintro e w' ⟨hb, ⟨_, he⟩ | ⟨hn, _⟩⟩
        · refine ⟨?_, hb⟩
          rw [he, show (0 : Int).toNat = 0 from rfl, sy_ps]
        · exact absurd hR hn
      clear hfw hxw hR hj hlt hC12 h15
      go_wp2_with fail
      refine HPs.out.mono ?_
      rintro e w4 ⟨rfl, hb4⟩
      have HS4 : Hid (SymSt w w4 g n c f gp cp zs x (w2.heap.size + 1) gl cl 12 12) := hS.out.called hb4
      clear hb4 hS HPs
      have HS5 : Hid (SymSt w (w4.alloc (.cells #[.string (strOfNums (syY f n x 12)), .int .i64 (syC f x 12 : Nat)] 28)) g n c f gp cp zs x (w2.heap.size + 1) gl cl 12 12) := HS4.out.called (bstart _ _)
      have hW5 : (w4.alloc (.cells #[.string (strOfNums (syY f n x 12)), .int .i64 (syC f x 12 : Nat)] 28)).heap[w4.heap.size]? = some (.cells #[.string (strOfNums (syY f n x 12)), .int .i64 (syC f x 12 : Nat)] 28 (0, 0)) := heap_alloc_new w4 _
      have hss : (strOfNums (syY f n x 12)).size ≤ 30 := by have h1 := sy_size (f := f) (n := n) (x := x) 12; have h2 := HC12.out 12 (by omega); omega
      have HHit : Hid (∀ j, j < 12 → Next f n (strOfNums (syY f n x 12)) (syC f x j : Nat) (x j) (f (x j)).toNat) := fun j hj => ⟨by omega, by omega, by rw [Int.toNat_natCast]; exact sy_hit HG.out j 12 hj (HX.out j) (HW.out.1 _ (HX.out j)).1⟩
      have HSz : Hid ((strOfNums (syY f n x 12)).size ≤ 30) := hss
      clear hss
      generalize strOfNums (syY f n x 12) = S at hW5 HS5 HHit HSz ⊢
      generalize hw5 : w4.alloc (.cells #[.string S, .int .i64 (syC f x 12 : Nat)] 28) = w5 at hW5 HS5
      go_wp2_with fail
      clear hw5
      have hCo : Calls Try.prog 21 #[.slice (some ⟨g, 0, none⟩) n c, .slice (some ⟨w2.heap.size + 1, 0, none⟩) n n] w5 fun e w' => e = .returned (.tuple #[.int .i64 (syC f x 12 : Nat), .bool true]) ∧ Below w5.heap.size w5 w' := by
        refine (HC.out _ _ n n c n f (tally x 12) w5 HS5.out.len.sl.came HS5.out.cou.sl.came (by omega) (by omega) HFW.out (fun i _ => wf_i64 (by have := (tally_bd x i 12).1; omega) (by have := (tally_bd x i 12).2; omega))).mono ?_
        rintro e w' ⟨y, b, he, hs, hb⟩
        have hr : CostRight f (tally x 12) n n := ⟨rfl, by omega, HG.out.2.1, fun i hi => ⟨(tally_bd x i 12).1, by have := (tally_bd x i 12).2; omega, fun h => by have := (HW.out.1 i hi).1; omega⟩⟩
        rcases hs with ⟨rfl, _, rfl⟩ | ⟨_, _, hn⟩
        · refine ⟨?_, hb⟩
          rw [he, cost_tally HX.out (fun i hi => (HW.out.1 i hi).1) 12]
        · exact absurd hr hn
      refine hCo.mono ?_
      rintro e w6 ⟨rfl, hb6⟩
      have HS6 : Hid (SymSt w w6 g n c f gp cp zs x (w2.heap.size + 1) gl cl 12 12) := HS5.out.called hb6
      have HW6 : Hid (w6.heap[w4.heap.size]? = some (.cells #[.string S, .int .i64 (syC f x 12 : Nat)] 28 (0, 0))) := (hb6.block _ (block_lt hW5)).trans hW5
      have o0 : w6.cell? ⟨w4.heap.size, 0, none⟩ = some (.string S) := cell_of_block HW6.out 0
      have o1 : w6.cell? ⟨w4.heap.size, 1, none⟩ = some (.int .i64 (syC f x 12 : Nat)) := cell_of_block HW6.out 1
      have hl6 := block_lt HW6.out
      have h180 := HC12.out 12 (by omega)
      clear hb6 hW5 HS5 hCo
      go_wp2_with fail
      refine (HK.out _ n c f w6 HS6.out.len.sl.came (by omega) HFW.out).mono ?_
      rintro e w7 ⟨k, rfl, hkk, hb7⟩
      obtain rfl : k = 2 := whole_kind HW.out (by omega) (by omega) hkk
      have HS7 : Hid (SymSt w w7 g n c f gp cp zs x (w2.heap.size + 1) gl cl 12 12) := HS6.out.called hb7
      have HW7 : Hid (w7.heap[w4.heap.size]? = some (.cells #[.string S, .int .i64 (syC f x 12 : Nat)] 28 (0, 0))) := (hb7.block _ hl6).trans HW6.out
      have hl7 := block_lt HW7.out
      clear o0 o1 hb7 hkk HW6 HS6
      have o0 : w7.cell? ⟨w4.heap.size, 0, none⟩ = some (.string S) := cell_of_block HW7.out 0
      have o1 : w7.cell? ⟨w4.heap.size, 1, none⟩ = some (.int .i64 (syC f x 12 : Nat)) := cell_of_block HW7.out 1
      go_wp2_with fail
      have HS8 : Hid (SymSt w (w7.alloc (.cells #[.string S, .int .i64 0] 33)) g n c f gp cp zs x (w2.heap.size + 1) gl cl 12 12) := HS7.out.called (bstart _ _)
      have HB8 : Hid (SymB (w7.alloc (.cells #[.string S, .int .i64 0] 33)) w4.heap.size w7.heap.size S (syC f x 12) (syC f x 0)) := ⟨(Below.heap_alloc w7 _ _ hl7).trans HW7.out, heap_alloc_new w7 _, hl7⟩
      have n1 := HS7.out.len.lt
      have n2 := HS7.out.pla.lt
      have n3 := HS7.out.cou.lt
      have n4 := HS7.out.lis.lt
      have n5 := HS7.out.bel.size
      clear o0 o1 HW7 HS7
      go_loopw [14] (fun z w' => ∃ j : Nat, j ≤ 12 ∧ z = .int .i64 j ∧ Hid (SymSt w w' g n c f gp cp zs x (w2.heap.size + 1) gl cl 12 12) ∧ Hid (SymB w' w4.heap.size w7.heap.size S (syC f x 12) (syC f x j))) (fun z _ => 12 - (intOf z).toNat)
      case atStart => exact ⟨0, by omega, rfl, HS8, HB8⟩
      case round =>
        clear HS8 HB8
        obtain ⟨j, hj, rfl, hS, hB⟩ := hrel
        have b0 : wr.cell? ⟨w7.heap.size, 0, none⟩ = some (.string S) := cell_of_block hB.out.2.1 0
        have b1 : wr.cell? ⟨w7.heap.size, 1, none⟩ = some (.int .i64 (syC f x j : Nat)) := cell_of_block hB.out.2.1 1
        have hlb := block_lt hB.out.2.1
        have hCj := HC12.out j hj
        by_cases hlt : j < 12
        · have hN := HHit.out j hlt
          have hTk : Calls Try.prog 22 #[.slice (some ⟨g, 0, none⟩) n c, .agg #[.string S, .int .i64 (syC f x j : Nat)]] wr fun e w' => e = .returned (.tuple #[.int .i64 (x j : Nat), .agg #[.string S, .int .i64 (syC f x (j + 1) : Nat)], .bool true]) ∧ Below wr.heap.size wr w' := by
            have h := (HS.out _ n c f S (syC f x j : Nat) wr hS.out.len.sl.came (by omega) HFW.out (by have := HSz.out; omega) (by omega) (by omega)).1 (x j) (f (x j)).toNat HG.out hN
            have e : ((syC f x j : Nat) : Int) + ((f (x j)).toNat : Nat) = ((syC f x (j + 1) : Nat) : Int) := by
              show _ = ((syC f x j + (f (x j)).toNat : Nat) : Int)
              omega
            rw [e] at h
            exact h
          have HTk : Hid (Calls Try.prog 22 #[.slice (some ⟨g, 0, none⟩) n c, .agg #[.string S, .int .i64 (syC f x j : Nat)]] wr fun e w' => e = .returned (.tuple #[.int .i64 (x j : Nat), .agg #[.string S, .int .i64 (syC f x (j + 1) : Nat)], .bool true]) ∧ Below wr.heap.size wr w') := hTk
          clear hTk hN
          go_wp2_with fail
          refine HTk.out.mono ?_
          rintro e w8 ⟨rfl, hb8⟩
          have HS9 : Hid (SymSt w w8 g n c f gp cp zs x (w2.heap.size + 1) gl cl 12 12) := hS.out.called hb8
          have HB9 : Hid (SymB w8 w4.heap.size w7.heap.size S (syC f x 12) (syC f x j)) := hB.out.called hb8
          have q0 : w8.cell? ⟨w7.heap.size, 0, none⟩ = some (.string S) := cell_of_block HB9.out.2.1 0
          have q1 : w8.cell? ⟨w7.heap.size, 1, none⟩ = some (.int .i64 (syC f x j : Nat)) := cell_of_block HB9.out.2.1 1
          have qf : ∀ i, w8.frozen? ⟨w7.heap.size, i, none⟩ = false := fun i => unfrozen_of_block HB9.out.2.1 i
          have ql : w8.cell? ⟨gl, j, none⟩ = some (.int .i64 (x j : Nat)) := HS9.out.lis.cell j hlt
          have hl8 := block_lt HB9.out.2.1
          have hgl8 := HS9.out.lis.lt
          have HSn : Hid (SymSt w (((w8.setCell ⟨w7.heap.size, 0, none⟩ (.string S)).setCell ⟨w7.heap.size, 1, none⟩ (.int .i64 (syC f x (j + 1) : Nat))).alloc (.cells #[.string S, .int .i64 (syC f x (j + 1) : Nat)] 33)) g n c f gp cp zs x (w2.heap.size + 1) gl cl 12 12) := ((HS9.out.off n5 n1 n2 n3 n4 0 _).off n5 n1 n2 n3 n4 1 _).called (bstart _ _)
          have HBn : Hid (SymB (((w8.setCell ⟨w7.heap.size, 0, none⟩ (.string S)).setCell ⟨w7.heap.size, 1, none⟩ (.int .i64 (syC f x (j + 1) : Nat))).alloc (.cells #[.string S, .int .i64 (syC f x (j + 1) : Nat)] 33)) w4.heap.size w7.heap.size S (syC f x 12) (syC f x (j + 1))) := (HB9.out.next _).called (bstart _ _)
          clear b0 b1 hb8 HTk
          go_wp2_with fail
          go_roundw
          case rel => exact ⟨j + 1, by omega, by go_num, HSn, HBn⟩
          case measure => simp [intOf]; omega
        · obtain rfl : j = 12 := by omega
          have o1 : wr.cell? ⟨w4.heap.size, 1, none⟩ = some (.int .i64 (syC f x 12 : Nat)) := cell_of_block hB.out.1 1
          have hlo := block_lt hB.out.1
          go_wp2_with fail
          go_ret
          exact ⟨by simp, hS.out.bel⟩

theorem FnSymbols_over (hK : KindAnswer) (hC : CostAnswer) (hP : PutsSome) (hS : SymAnswer) (a : Option Addr) (len cap : Nat) (zs : List Int) (w : World) (hr : IsRow .u8 w a len cap zs) :
    Calls Try.prog 5 #[.slice a len cap] w fun e w' => e = .returned (.bool true) ∧ Below w.heap.size w w' := by
  obtain ⟨hD, hl, hc⟩ := codeAt_of_row hr
  unfold maxLen at hc
  by_cases h : (len : Int) ≤ 1048576
  · exact FnSymbols_at hK hC hP hS a len cap w hD h
  · have d : (1048576 : Int) < len := by omega
    clear hr hC hD hP hK hS
    go_enter Try.func5, Try.ntmps5
    go_wp2_with fail
    refine (big_yes a len cap _ d (by omega)).mono ?_
    rintro e w1 ⟨rfl, rfl⟩
    go_wp2_with fail
    go_ret
    exact ⟨rfl, Below.refl _ _⟩

end Go.Proofs.Ytbfjgkoohdknnaa
