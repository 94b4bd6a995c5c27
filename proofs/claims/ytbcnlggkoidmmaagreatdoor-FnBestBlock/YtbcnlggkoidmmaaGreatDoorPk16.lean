/-
  The walk of the document's model of the lengths of a block of type 2.
-/
import Derived.Test.YtbcnlggkoidmmaaGreatDoorPk15
import Derived.Test.YtbcnlggkoidmmaaGreatDoorPk07
import Derived.Deep.RegionWith
namespace Go.Proofs.YtbcnlggkoidmmaaGreatDoor
open Go.RowKit Go.Joins OutMath CodeMath TakeMath InfMath RunsMath

/-- What is left behind the three numbers. -/
noncomputable def restE (s : ByteArray) (p14 kk n N : Nat) : Except Nat (List Int × Nat × Nat) :=
  if p14 + 3 * kk ≤ 8 * s.size then
    (if kindOf (thirdF s p14 kk) 19 ≠ 2 then .error 5
     else match allF s (thirdF s p14 kk) N (8 * s.size + 1) (p14 + 3 * kk) [] with
       | .error x => .error x
       | .ok (L, p2) => if TabRight n L then .ok (L, n, p2) else .error 5)
  else .error 2
theorem tables_rest {s : ByteArray} {p : Nat} (h14 : p + 14 ≤ 8 * s.size) (h5 : ¬ 29 < num s p 5) (h6 : ¬ 29 < num s (p + 5) 5) : tablesE s p = restE s (p + 14) (num s (p + 10) 4 + 4).toNat (num s p 5 + 257).toNat ((num s p 5 + 257).toNat + (num s (p + 5) 5 + 1).toNat) := by
  unfold tablesE restE
  rw [if_pos h14, if_neg (by omega)]
  rfl
theorem third_ok (s : ByteArray) (p k : Nat) : OkLens (thirdF s p k) 19 := by
  intro i _
  unfold thirdF
  by_cases h : orderL.idxOf i < k
  · rw [if_pos h]
    have := num_bd s (p + 3 * orderL.idxOf i) 3
    rw [show p2 3 = 8 by decide +kernel] at this
    omega
  · rw [if_neg h]
    omega
/-- What the ring of the Runs has at hand. -/
def AlSt (w0 : World) (b : Nat) (s : ByteArray) (O : List Int) (most : Nat) (Ty : List Int) (vo vt : Value) (g3 : Nat) (f3 : Nat → Int) (g5 K N : Nat) (target : Except Nat (List Int × Nat)) (m p c : Nat) (v : Value) (L : List Int) (w' : World) : Prop :=
  AlI w0 w' b s p O most c Ty vo vt g3 f3 g5 K v L ∧ p ≤ 8 * s.size ∧ L.length ≤ 1000 ∧ ((c = 0 ∧ L.length ≤ N ∧ 8 * s.size + 1 ≤ m + p ∧ target = allF s f3 N m p L) ∨ (c ≠ 0 ∧ c ≤ 8 ∧ target = .error c))
theorem all_end {s : ByteArray} {f3 : Nat → Int} {N m p : Nat} {L : List Int} (h : ¬ L.length < N) : allF s f3 N (m + 1) p L = .ok (L, p) := by
  rw [allF, if_neg h]
theorem all_err {s : ByteArray} {f3 : Nat → Int} {N m p c : Nat} {L : List Int} (h : L.length < N) (e : symE s f3 19 p = .error c) : allF s f3 N (m + 1) p L = .error c := by
  rw [allF, if_pos h, e]
theorem all_err2 {s : ByteArray} {f3 : Nat → Int} {N m p c y p1 : Nat} {L : List Int} (h : L.length < N) (e : symE s f3 19 p = .ok (y, p1)) (e2 : takeE s p1 (bitsOf (y : Int)) = .error c) : allF s f3 N (m + 1) p L = .error c := by
  rw [allF, if_pos h, e]
  simp only [e2]
theorem all_none {s : ByteArray} {f3 : Nat → Int} {N m p y p1 p2 : Nat} {x : Int} {L : List Int} (h : L.length < N) (e : symE s f3 19 p = .ok (y, p1)) (e2 : takeE s p1 (bitsOf (y : Int)) = .ok (x, p2)) (e3 : tell L ((y : Int), x) = none) : allF s f3 N (m + 1) p L = .error 5 := by
  rw [allF, if_pos h, e]
  simp only [e2, e3]
theorem all_some {s : ByteArray} {f3 : Nat → Int} {N m p y p1 p2 : Nat} {x : Int} {L more : List Int} (h : L.length < N) (e : symE s f3 19 p = .ok (y, p1)) (e2 : takeE s p1 (bitsOf (y : Int)) = .ok (x, p2)) (e3 : tell L ((y : Int), x) = some more) : allF s f3 N (m + 1) p L = if L.length + more.length ≤ N then allF s f3 N m p2 (L ++ more) else .error 5 := by
  rw [allF, if_pos h, e]
  simp only [e2, e3]
theorem tell_ok {L more : List Int} {y x : Int} (hL : ∀ v ∈ L, 0 ≤ v ∧ v ≤ 15) (h : tell L (y, x) = some more) : ∀ v ∈ more, 0 ≤ v ∧ v ≤ 15 := by
  unfold tell at h
  dsimp only at h
  have hz : 0 ≤ L.getD (L.length - 1) 0 ∧ L.getD (L.length - 1) 0 ≤ 15 := by
    rw [List.getD_eq_getElem?_getD]
    cases e : L[L.length - 1]? with
    | none => exact ⟨by decide, by decide⟩
    | some v => exact hL v (List.mem_of_getElem? e)
  split at h
  · split at h
    · cases h
      intro v hv
      rw [List.eq_of_mem_replicate hv]
      exact hz
    · cases h
  · split at h
    · split at h
      · cases h
        intro v hv
        rw [List.eq_of_mem_replicate hv]
        exact ⟨by decide, by decide⟩
      · cases h
    · split at h
      · split at h
        · cases h
          intro v hv
          rw [List.eq_of_mem_replicate hv]
          exact ⟨by decide, by decide⟩
        · cases h
      · split at h
        · rename_i q
          cases h
          intro v hv
          rw [List.mem_singleton.1 hv]
          exact ⟨q.1, q.2.1⟩
        · cases h
/-- The lengths that are told are right ones. -/
theorem all_ok {s : ByteArray} {f3 : Nat → Int} {N : Nat} {R : List Int} {q : Nat} : ∀ (m p : Nat) (L : List Int), (∀ v ∈ L, 0 ≤ v ∧ v ≤ 15) → allF s f3 N m p L = .ok (R, q) → ∀ v ∈ R, 0 ≤ v ∧ v ≤ 15
  | 0, p, L, _, h => by
    rw [allF] at h
    cases h
  | m + 1, p, L, hL, h => by
    by_cases hlt : L.length < N
    · cases e1 : symE s f3 19 p with
      | error c =>
        rw [all_err hlt e1] at h
        cases h
      | ok r =>
        obtain ⟨y, p1⟩ := r
        cases e2 : takeE s p1 (bitsOf (y : Int)) with
        | error c =>
          rw [all_err2 hlt e1 e2] at h
          cases h
        | ok r2 =>
          obtain ⟨x, p2⟩ := r2
          cases e3 : tell L ((y : Int), x) with
          | none =>
            rw [all_none hlt e1 e2 e3] at h
            cases h
          | some more =>
            rw [all_some hlt e1 e2 e3] at h
            split at h
            · refine all_ok m p2 (L ++ more) (fun v hv => ?_) h
              rcases List.mem_append.1 hv with q | q
              · exact hL v q
              · exact tell_ok hL e3 v q
            · cases h
    · rw [all_end hlt] at h
      cases h
      exact hL
theorem ok_of_list {L : List Int} (h : ∀ v ∈ L, 0 ≤ v ∧ v ≤ 15) (n : Nat) : OkLens (fun i => L.getD i 0) n := by
  intro i _
  show 0 ≤ L.getD i 0 ∧ L.getD i 0 ≤ 15
  rw [List.getD_eq_getElem?_getD]
  cases e : L[i]? with
  | none => exact ⟨by decide, by decide⟩
  | some v => exact h v (List.mem_of_getElem? e)
/-- What l08Tables leaves. -/
def TabPost (w0 : World) (b : Nat) (s : ByteArray) (p : Nat) (O : List Int) (most : Nat) (Ty : List Int) (vo vt : Value) (e : Ending) (w' : World) : Prop :=
  (∃ c, c ≠ 0 ∧ c ≤ 8 ∧ tablesE s p = .error c ∧ TabBad w0 b s O most Ty vo vt c e w') ∨
  (∃ L n p' g c1 c2, tablesE s p = .ok (L, n, p') ∧ p' ≤ 8 * s.size ∧ n ≤ L.length ∧ RS w0 w' b s p' O most 0 Ty vo vt ∧ e = .returned (.tuple #[.slice (some ⟨g, 0, none⟩) n c1, .slice (some ⟨g, n, none⟩) (L.length - n : Nat) c2]) ∧ Tab w' b vo (some ⟨g, 0, none⟩) n (fun i => L.getD i 0) ∧ Tab w' b vo (some ⟨g, n, none⟩) (L.length - n) (fun i => (L.drop n).getD i 0))

set_option maxRecDepth 100000 in
set_option maxHeartbeats 3200000 in
theorem l08Tables_third (w0 : World) (b : Nat) (s : ByteArray) (p : Nat) (O : List Int) (most : Nat) (Ty : List Int) (vo vt : Value) (w : World) (h : RS w0 w b s p O most 0 Ty vo vt) (hs : s.size ≤ 12000) (hp : p ≤ 8 * s.size) (h14 : p + 14 ≤ 8 * s.size) (hn5 : ¬ 29 < num s p 5) (hm5 : ¬ 29 < num s (p + 5) 5) :
    Calls Tryz.prog 87 #[.pointer (some ⟨b, 0, none⟩)] w (TabPost w0 b s p O most Ty vo vt) := by
  have hb1 := l08Bits_any b s p vo most 0 vt 5 w h.1 hs hp (by omega)
  have hb2 := fun (w : World) (h : RB w b s (p + 5) vo most 0 vt) => l08Bits_any b s (p + 5) vo most 0 vt 5 w h hs (by omega) (by omega)
  have hb3 := fun (w : World) (h : RB w b s (p + 10) vo most 0 vt) => l08Bits_any b s (p + 10) vo most 0 vt 4 w h hs (by omega) (by omega)
  rw [bitsR_ok (by omega)] at hb1
  rw [bitsR_ok (show p + 5 + 5 ≤ 8 * s.size by omega), show p + 5 + 5 = p + 10 by omega] at hb2
  rw [bitsR_ok (show p + 10 + 4 ≤ 8 * s.size by omega), show p + 10 + 4 = p + 14 by omega] at hb3
  have q1 := num_bd s p 5
  have q2 := num_bd s (p + 5) 5
  have q3 := num_bd s (p + 10) 4
  rw [show p2 5 = 32 by decide +kernel] at q1 q2
  rw [show p2 4 = 16 by decide +kernel] at q3
  have HTE0 := hid_of (tables_rest h14 hn5 hm5)
  generalize num s p 5 = x at hb1 q1 hn5 HTE0
  generalize num s (p + 5) 5 = y at hb2 q2 hm5 HTE0
  generalize num s (p + 10) 4 = z at hb3 q3 HTE0
  have HH := hid_of h
  have HB2 := hid_of hb2
  have HB3 := hid_of hb3
  have HP3 := hid_of h14
  have hx0 := q1.1
  have hx1 := q1.2
  have hy0 := q2.1
  have hy1 := q2.2
  have hz0 := q3.1
  have hz1 := q3.2
  clear h hb2 hb3 q1 q2 q3
  have e1 : IntKind.i64.wrap (x + 257) = x + 257 := by
    rw [IntKind.wrap_i64]
    omega
  have e2 : IntKind.i64.wrap (y + 1) = y + 1 := by
    rw [IntKind.wrap_i64]
    omega
  have e3 : IntKind.i64.wrap (z + 4) = z + 4 := by
    rw [IntKind.wrap_i64]
    omega
  have e4 : IntKind.i64.wrap (x + 257 + (y + 1)) = x + 257 + (y + 1) := by
    rw [IntKind.wrap_i64]
    omega
  go_enter Tryz.func87, Tryz.ntmps87
  go_wp2_with fail
  refine hb1.mono ?_
  rintro e w1 ⟨rfl, hR1, hg1⟩
  have HS1 := hid_of (HH.out.turned hR1 hg1)
  have hf2 := HB2.out w1 hR1
  clear hb1 hR1 hg1 HH HB2
  go_wp2_with fail
  refine hf2.mono ?_
  rintro e w2 ⟨rfl, hR2, hg2⟩
  have HS2 := hid_of (HS1.out.turned hR2 hg2)
  have hf3 := HB3.out w2 hR2
  clear hf2 hR2 hg2 HS1 HB3
  go_wp2_with fail
  refine hf3.mono ?_
  rintro e w3 ⟨rfl, hR3, hg3⟩
  have HS3 : Hid (RS w0 w3 b s (p + 14) O most 0 Ty vo vt) := HS2.out.turned hR3 hg3
  have k4 : w3.cell? ⟨b, 4, none⟩ = some (.int .i64 0) := hR3.cells.2.2.2.2.1
  have hl3 := HS3.out.lt
  clear hf3 hR3 hg3 HS2
  have hmk := make_cells w3 19 (by omega)
  rw [show ((19 : Nat) : Int) = 19 from rfl] at hmk
  have o1 : decide ((286 : Int) < x + 257) = false := decide_eq_false (by omega)
  have o2 : decide ((30 : Int) < y + 1) = false := decide_eq_false (by omega)
  obtain ⟨zn, rfl⟩ := Int.eq_ofNat_of_zero_le hz0
  obtain ⟨nn, hnn⟩ : ∃ nn, nn = (x + 257).toNat := ⟨_, rfl⟩
  obtain ⟨mm, hmm⟩ : ∃ mm, mm = (y + 1).toNat := ⟨_, rfl⟩
  rw [show ((zn : Int) + 4).toNat = zn + 4 by omega, ← hnn, ← hmm] at HTE0
  have HNN : Hid (x + 257 = (nn : Int) ∧ y + 1 = (mm : Int)) := ⟨by omega, by omega⟩
  clear hnn hmm
  have HS4 : Hid (ThSt w0 b s (p + 14) O most Ty vo vt w3.heap.size (zn + 4) 0 (p + 14) 0 (fun _ => 0) (w3.alloc (.cells (madeCells #[Value.int .i64 0] 19) 3))) := ⟨ThI.made HS3.out, HP3.out, .inl ⟨rfl, rfl, fun j _ => by rw [third_start]⟩⟩
  generalize w3.alloc (.cells (madeCells #[Value.int .i64 0] 19) 3) = W4 at hmk HS4
  have HB := hid_of (fun (pp c : Nat) (w : World) (h : RB w b s pp vo most c vt) (hp : pp ≤ 8 * s.size) => l08Bits_any b s pp vo most c vt 3 w h hs hp (by omega))
  go_wp2_with fail
  generalize w3.heap.size = g3 at *
  go_loopg [8] (zn + 6) (fun gk v w' => ∃ (i pp c : Nat) (F : Nat → Int), i ≤ zn + 4 ∧ zn + 5 - i ≤ gk ∧ v = .int .i64 i ∧ Hid (ThSt w0 b s (p + 14) O most Ty vo vt g3 (zn + 4) i pp c F w'))
  case atStart => exact ⟨0, p + 14, 0, _, Nat.zero_le _, by omega, rfl, HS4⟩
  case round =>
    clear HS4
    obtain ⟨i, pp, c, F, hi, hgk, rfl, hS⟩ := hrel
    have kc : wr.cell? ⟨b, 4, none⟩ = some (.int .i64 (c : Int)) := hS.out.1.1.1.cells.2.2.2.2.1
    by_cases hgo : c = 0 ∧ i < zn + 4
    · obtain ⟨rfl, hlt⟩ := hgo
      have hi19 : i < 19 := by omega
      have dl : decide ((i : Int) < (zn : Int) + 4) = true := decide_eq_true (by omega)
      have j1 : (0 : Int) ≤ (i : Int) := by omega
      have j2 : (i : Int) < 19 := by omega
      obtain ⟨oi, hoi⟩ : ∃ oi, oi = orderL.getD i 0 := ⟨_, rfl⟩
      have ho19 : oi < 19 := by rw [hoi]; exact order_small i hi19
      have j3 : (0 : Int) ≤ (oi : Int) := by omega
      have j4 : (oi : Int) < 19 := by omega
      have HO := hid_of hoi
      clear hoi
      have HOR : Hid (∀ w, Calls Tryz.prog 48 #[] w fun e w' => e = .returned (.slice (some ⟨w.heap.size, 0, none⟩) 19 19) ∧ w.heap.size < w'.heap.size ∧ Below w.heap.size w w' ∧ w'.cell? ⟨w.heap.size, i, none⟩ = some (.int .i64 (oi : Int))) := fun w => (specOrder w).mono (fun e w' h => ⟨h.1, h.2.1, h.2.2.1, by rw [HO.out]; exact h.2.2.2 i hi19⟩)
      have hpp := hS.out.2.1
      have hbl := hS.out.1.1.lt
      by_cases h3 : pp + 3 ≤ 8 * s.size
      · have HB3 : Hid (∀ (w : World), RB w b s pp vo most 0 vt → Calls Tryz.prog 83 #[.pointer (some ⟨b, 0, none⟩), .int .i64 ((3 : Nat) : Int)] w fun e w' => e = .returned (.int .i64 (num s pp 3)) ∧ RB w' b s (pp + 3) vo most 0 vt ∧ w.grownBy w' (some b)) := by
          intro w h
          have q := HB.out pp 0 w h hpp
          rw [bitsR_ok h3] at q
          exact q
        have HNX : Hid (∀ w', ThI w0 w' b s (pp + 3) O most 0 Ty vo vt g3 F → ThSt w0 b s (p + 14) O most Ty vo vt g3 (zn + 4) (i + 1) (pp + 3) 0 (upd F oi (num s pp 3)) (w'.setCell ⟨g3, oi, none⟩ (.int .i64 (num s pp 3)))) := by
          intro w' h
          refine ⟨h.set oi ho19 _, h3, .inl ⟨rfl, ?_, ?_⟩⟩
          · rcases hS.out.2.2 with ⟨_, q, _⟩ | ⟨q, _⟩
            · omega
            · exact absurd q (by decide)
          · rcases hS.out.2.2 with ⟨_, q, q2⟩ | ⟨q, _⟩
            · intro j hj
              rw [← third_next s (p + 14) i hi19 j hj, ← HO.out, ← q]
              unfold upd
              rw [q2 j hj]
            · exact absurd q (by decide)
        generalize num s pp 3 = v3 at HB3 HNX
        go_wp2_with fail
        go_region_with (first
          | (go_at_call 48; refine (HOR.out _).mono ?_; rintro e wA ⟨rfl, hlA0, hBA, oc0⟩; have oc : wA.cell? ⟨wr.heap.size, i, none⟩ = some (.int .i64 (oi : Int)) := oc0; have hlA : wr.heap.size < wA.heap.size := hlA0; clear oc0 hlA0; have HA : Hid (ThI w0 wA b s pp O most 0 Ty vo vt g3 F) := hS.out.1.called ⟨hBA.1, hBA.2, hBA.3, hBA.4, hBA.5⟩; clear hBA)
          | (go_at_call 83; refine (HB3.out wA HA.out.1.1).mono ?_; rintro e wB ⟨rfl, hRB, hgB⟩; have HBB := hid_of (HA.out.turned hRB hgB); have ocB : wB.cell? ⟨wr.heap.size, i, none⟩ = some (.int .i64 (oi : Int)) := (hgB.cell_far ⟨wr.heap.size, i, none⟩ hlA (fun e => by cases e; exact Nat.lt_irrefl _ hbl)).trans oc; have tc := HBB.out.2.1.cell oi ho19; have tf := HBB.out.2.1.free oi ho19; have tl := HBB.out.2.1.lt; clear hRB hgB))
        all_goals
          have HN := hid_of (HNX.out wB HBB.out)
          clear HBB HA HNX HB3 HOR HO tc tf tl oc ocB kc hS
          go_wp2_with fail
          go_roundg (zn + 5 - (i + 1))
          case measure => omega
          case rel => exact ⟨i + 1, pp + 3, 0, _, by omega, Nat.le_refl _, by go_num, HN⟩
      · have HB3 : Hid (∀ (w : World), RB w b s pp vo most 0 vt → Calls Tryz.prog 83 #[.pointer (some ⟨b, 0, none⟩), .int .i64 ((3 : Nat) : Int)] w fun e w' => e = .returned (.int .i64 0) ∧ RB w' b s pp vo most 2 vt ∧ w.grownBy w' (some b)) := by
          intro w h
          have q := HB.out pp 0 w h hpp
          rw [bitsR_end h3] at q
          exact q
        have HNX : Hid (∀ w', ThI w0 w' b s pp O most 2 Ty vo vt g3 F → ThSt w0 b s (p + 14) O most Ty vo vt g3 (zn + 4) (i + 1) pp 2 (upd F oi 0) (w'.setCell ⟨g3, oi, none⟩ (.int .i64 0))) := by
          intro w' h
          refine ⟨h.set oi ho19 _, hpp, .inr ⟨rfl, ?_⟩⟩
          rcases hS.out.2.2 with ⟨_, q, _⟩ | ⟨q, _⟩
          · omega
          · exact absurd q (by decide)
        go_wp2_with fail
        go_region_with (first
          | (go_at_call 48; refine (HOR.out _).mono ?_; rintro e wA ⟨rfl, hlA0, hBA, oc0⟩; have oc : wA.cell? ⟨wr.heap.size, i, none⟩ = some (.int .i64 (oi : Int)) := oc0; have hlA : wr.heap.size < wA.heap.size := hlA0; clear oc0 hlA0; have HA : Hid (ThI w0 wA b s pp O most 0 Ty vo vt g3 F) := hS.out.1.called ⟨hBA.1, hBA.2, hBA.3, hBA.4, hBA.5⟩; clear hBA)
          | (go_at_call 83; refine (HB3.out wA HA.out.1.1).mono ?_; rintro e wB ⟨rfl, hRB, hgB⟩; have HBB := hid_of (HA.out.turned hRB hgB); have ocB : wB.cell? ⟨wr.heap.size, i, none⟩ = some (.int .i64 (oi : Int)) := (hgB.cell_far ⟨wr.heap.size, i, none⟩ hlA (fun e => by cases e; exact Nat.lt_irrefl _ hbl)).trans oc; have tc := HBB.out.2.1.cell oi ho19; have tf := HBB.out.2.1.free oi ho19; have tl := HBB.out.2.1.lt; clear hRB hgB))
        all_goals
          have HN := hid_of (HNX.out wB HBB.out)
          clear HBB HA HNX HB3 HOR HO tc tf tl oc ocB kc hS
          go_wp2_with fail
          go_roundg (zn + 5 - (i + 1))
          case measure => omega
          case rel => exact ⟨i + 1, pp, 2, _, by omega, Nat.le_refl _, by go_num, HN⟩
    · by_cases hc0 : c = 0
      · subst hc0
        obtain rfl : i = zn + 4 := by omega
        have hq : pp = p + 14 + 3 * (zn + 4) ∧ ∀ j, j < 19 → F j = thirdF s (p + 14) (zn + 4) j := by
          rcases hS.out.2.2 with ⟨_, q⟩ | ⟨q, _⟩
          · exact q
          · exact absurd q (by decide)
        obtain ⟨hpp, hF⟩ := hq
        have hpl := hS.out.2.1
        have HT : Hid (ThI w0 wr b s pp O most 0 Ty vo vt g3 (thirdF s (p + 14) (zn + 4))) := ⟨hS.out.1.1, hS.out.1.2.1.congr hF, hS.out.1.2.2⟩
        clear hS hF
        have hok := third_ok s (p + 14) (zn + 4)
        have HTE1 : Hid (tablesE s p = if kindOf (thirdF s (p + 14) (zn + 4)) 19 ≠ 2 then .error 5 else match allF s (thirdF s (p + 14) (zn + 4)) (nn + mm) (8 * s.size + 1) pp [] with
            | .error x => .error x
            | .ok (L, p2) => if TabRight nn L then .ok (L, nn, p2) else .error 5) := by
          show tablesE s p = _
          rw [HTE0.out, hpp]
          unfold restE
          rw [if_pos (by omega)]
        clear HTE0
        generalize thirdF s (p + 14) (zn + 4) = f3 at HT hok HTE1
        have hkd := specKind (some ⟨g3, 0, none⟩) 19 19 f3 wr HT.out.2.1.sl.came (by omega)
        have dl : decide (((zn + 4 : Nat) : Int) < (zn : Int) + 4) = false := decide_eq_false (by omega)
        have hbl := HT.out.1.lt
        have fz := HT.out.1.1.free
        by_cases hk2 : kindOf f3 19 = 2
        · have hK2 : Kind f3 19 2 := .inr ⟨by omega, hok, hk2.symm⟩
          have hCd : Coded f3 19 := by
            by_cases q : Coded f3 19
            · exact q
            · rcases kind_bad hK2 q with q1 | q1
              · exact absurd q1 (by decide)
              · exact absurd q1 (by decide)
          have HCd := hid_of hCd
          have HTE : Hid (tablesE s p = match allF s f3 (nn + mm) (8 * s.size + 1) pp [] with
            | .error x => .error x
            | .ok (L, p2) => if TabRight nn L then .ok (L, nn, p2) else .error 5) := by
            show tablesE s p = _
            rw [HTE1.out, if_neg (fun h => h hk2)]
          clear HTE1
          go_wp2_with fail
          refine hkd.mono ?_
          rintro e wk ⟨kd, rfl, hK, rfl⟩
          obtain rfl : kd = 2 := kind_one hK hK2
          clear hkd hK hK2
          have hco := specCodes_good (some ⟨g3, 0, none⟩) 19 19 f3 wk HT.out.2.1.sl.came hCd
          clear hCd
          go_wp2_with fail
          refine hco.mono ?_
          rintro e w5 ⟨rfl, hI5, hB5⟩
          have hg5 : wk.heap.size ≠ b := by
            have := HT.out.1.lt
            omega
          have HA := hid_of (AlI.start (HT.out.called hB5) (hI5.mono (Nat.le_refl _)) hg5)
          obtain ⟨tgt, htgt⟩ : ∃ tgt, tgt = allF s f3 (nn + mm) (8 * s.size + 1) pp [] := ⟨_, rfl⟩
          rw [← htgt] at HTE
          have HAS : Hid (AlSt w0 b s O most Ty vo vt g3 f3 wk.heap.size w5.heap.size (nn + mm) tgt (8 * s.size + 1) pp 0 (.slice (some ⟨w5.heap.size, 0, none⟩) 0 0) [] (w5.alloc (.cells #[] 3))) := ⟨HA.out, hpl, by simp, .inl ⟨rfl, by simp, by omega, htgt⟩⟩
          have HT0 := hid_of htgt
          clear hco hI5 hB5 HT HA htgt hpl kc fz
          go_wp2_with fail
          generalize w5.alloc (.cells #[] 3) = W6 at HAS
          generalize wk.heap.size = g5 at HAS
          generalize w5.heap.size = KK at HAS
          go_loopg [11] (8 * s.size + 2) (fun gk v w' => ∃ (m pp c cv : Nat) (av : Option Addr) (L : List Int), v = .slice av L.length cv ∧ m + (if c = 0 then 1 else 0) ≤ gk ∧ Hid (AlSt w0 b s O most Ty vo vt g3 f3 g5 KK (nn + mm) tgt m pp c v L w'))
          case atStart => exact ⟨8 * s.size + 1, pp, 0, 0, some ⟨KK, 0, none⟩, [], rfl, Nat.le_refl _, HAS⟩
          case round =>
            clear HAS
            obtain ⟨m, qq, c, cv, av, L, rfl, hgk2, hA⟩ := hrel
            have kc2 : wr.cell? ⟨b, 4, none⟩ = some (.int .i64 (c : Int)) := hA.out.1.1.1.1.cells.2.2.2.2.1
            have hLl := hA.out.2.2.1
            have n1 := HNN.out.1
            have n2 := HNN.out.2
            by_cases hc0 : c = 0
            · subst hc0
              by_cases hlt : L.length < nn + mm
              · have dl2 : decide ((L.length : Int) < x + 257 + (y + 1)) = true := decide_eq_true (by omega)
                have hst : L.length ≤ nn + mm ∧ 8 * s.size + 1 ≤ m + qq ∧ tgt = allF s f3 (nn + mm) m qq L := by
                  rcases hA.out.2.2.2 with ⟨_, q⟩ | ⟨q, _⟩
                  · exact q
                  · exact absurd rfl q
                have hqq := hA.out.2.1
                obtain ⟨m1, rfl⟩ : ∃ m1, m = m1 + 1 := ⟨m - 1, by omega⟩
                have HTG := hid_of hst.2.2
                have hmq := hst.2.1
                clear hst n1 n2
                have hf := l08Sym_any b s qq vo most 0 vt (some ⟨g3, 0, none⟩) (some ⟨g5, 0, none⟩) 19 19 19 f3 wr hA.out.1.1.1.1 hs hqq hA.out.1.1.2.1.sl.came hA.out.1.2.1.sl.came HCd.out
                rcases sym_cases f3 19 s qq with ⟨yy, k, hk1, hyn, hpk, hyR, hyE⟩ | ⟨c6, hc6, hyR, hyE⟩
                · rw [hyR] at hf
                  go_wp2_with fail
                  refine hf.mono ?_
                  rintro e w7 ⟨rfl, hR7, hg7⟩
                  have HA7 : Hid (AlI w0 w7 b s (qq + k) O most 0 Ty vo vt g3 f3 g5 KK (.slice av L.length cv) L) := hA.out.1.turned hR7 hg7
                  clear hf hR7 hg7 hA kc2
                  go_wp2_with fail
                  refine (specBits (yy : Int) _).mono ?_
                  rintro e w7a ⟨rfl, hw7⟩
                  have hbt : bitsOf (yy : Int) ≤ 7 := by
                    unfold bitsOf
                    split
                    · omega
                    · split
                      · omega
                      · split <;> omega
                  have HYE := hid_of hyE
                  have hb8 := l08Bits_any b s (qq + k) vo most 0 vt (bitsOf (yy : Int)) _ (HA7.out.called (bstart w7 (.cells #[.int .i64 (yy : Int), .int .i64 0] 95))).1.1.1 hs hpk (by omega)
                  rw [← hw7] at hb8
                  have HA7a : Hid (AlI w0 w7a b s (qq + k) O most 0 Ty vo vt g3 f3 g5 KK (.slice av L.length cv) L) := by
                    rw [hw7]
                    exact HA7.out.called (bstart w7 _)
                  have hbx : w7a.heap[w7.heap.size]? = some (.cells #[.int .i64 (yy : Int), .int .i64 0] 95 (0, 0)) := by
                    rw [hw7]
                    exact heap_alloc_new w7 _
                  have hvx : (Value.slice av L.length cv).ownBlock ≠ some w7.heap.size := fun e => by
                    have := (World.ownsRow.lt HA7.out.2.2.1 _ e).2
                    omega
                  have hKx : KK ≤ w7.heap.size := HA7.out.2.2.2.1.2.2.2.2
                  have hbx2 : b ≠ w7.heap.size := by
                    have := HA7.out.1.1.lt
                    omega
                  have HBX := hid_of hbx
                  have HVX := hid_of hvx
                  clear hbx hvx hw7 HA7 hyE hyR
                  rcases bits_cases s (qq + k) (bitsOf (yy : Int)) with ⟨hp2, hxR, hxE, hx0', hx1'⟩ | ⟨hxR, hxE⟩
                  · rw [hxR] at hb8
                    obtain ⟨p5, hp5⟩ : ∃ p5, p5 = qq + k + bitsOf (yy : Int) := ⟨_, rfl⟩
                    rw [← hp5] at hb8 hp2 hxE
                    have hpq : qq + k ≤ p5 := by omega
                    clear hp5 hxR
                    have HXE := hid_of hxE
                    clear hxE
                    generalize num s (qq + k) (bitsOf (yy : Int)) = xv at hb8 hx0' hx1' HXE
                    generalize hbq : bitsOf (yy : Int) = bt at hb8 hbt
                    clear hbq hx1'
                    go_wp2_with fail
                    refine hb8.mono ?_
                    rintro e w8 ⟨rfl, hR8, hg8⟩
                    have hbx8 := (hg8.block _ (block_lt HBX.out) (fun e => hbx2 (by cases e; rfl))).trans HBX.out
                    have x0 : w8.cell? ⟨w7.heap.size, 0, none⟩ = some (.int .i64 (yy : Int)) := (cell_of_block hbx8 0).trans rfl
                    have x1 : w8.cell? ⟨w7.heap.size, 1, none⟩ = some (.int .i64 0) := (cell_of_block hbx8 1).trans rfl
                    have xf : w8.frozen? ⟨w7.heap.size, 1, none⟩ = false := by simp [World.frozen?, hbx8]
                    have xl : w7.heap.size < w8.heap.size := block_lt hbx8
                    have HA9 : Hid (AlI w0 (w8.setCell ⟨w7.heap.size, 1, none⟩ (.int .i64 xv)) b s p5 O most 0 Ty vo vt g3 f3 g5 KK (.slice av L.length cv) L) := (HA7a.out.turned hR8 hg8).cell hKx HVX.out _
                    have kc8 : (w8.setCell ⟨w7.heap.size, 1, none⟩ (.int .i64 xv)).cell? ⟨b, 4, none⟩ = some (.int .i64 0) := HA9.out.1.1.1.cells.2.2.2.2.1
                    have dc6 : ((0 : Int) != 0) = false := by decide
                    have hte : Calls Tryz.prog 130 #[.slice av L.length cv, .agg #[.int .i64 (yy : Int), .int .i64 xv]] (w8.setCell ⟨w7.heap.size, 1, none⟩ (.int .i64 xv)) (TellPost (w8.setCell ⟨w7.heap.size, 1, none⟩ (.int .i64 xv)) (tell L ((yy : Int), xv))) := by
                      obtain ⟨a', c', e', _, _, hCa, _⟩ := HA9.out.2.2.1.form
                      cases e'
                      have q := specTells av L.length cv (fun i => L.getD i 0) (yy : Int) xv _ hCa hLl
                      rw [lst_self] at q
                      exact q
                    clear hb8 hR8 hg8 hbx8 HA7a HBX HVX
                    go_wp2_with fail
                    refine hte.mono ?_
                    rintro e w10 ⟨hB10, hm10⟩
                    have HA10 := hid_of (HA9.out.called hB10)
                    have hKs := HA10.out.2.2.2.1.2.2.2.2
                    clear hte HA9 hB10 kc8 x0 x1 xf xl
                    cases htl : tell L ((yy : Int), xv) with
                    | none =>
                      simp only [htl] at hm10
                      obtain ⟨gm, rfl, _, _⟩ := hm10
                      have htg : tgt = .error 5 := HTG.out.trans (all_none hlt HYE.out HXE.out htl)
                      clear htl
                      go_wp2_with (at_builtin; refine nums_append (S := KK) (xs := L) (ys := []) rfl _ _ rfl rfl HA10.out.2.2.1 (some ⟨gm, 0, none⟩) 0 0 rfl rfl (fun ad e j u hu => by simp [ivals] at hu) (fun h => by cases h) (by simp; omega) hKs ?_)
                      intro v11 w11 y1 y2
                      have HA11 : Hid (AlI w0 w11 b s p5 O most 0 Ty vo vt g3 f3 g5 KK v11 L) := HA10.out.more y1 y2
                      clear y1 y2 HA10
                      obtain ⟨a11, c11, rfl, _⟩ := HA11.out.2.2.1.form
                      have kc11 : w11.cell? ⟨b, 4, none⟩ = some (.int .i64 0) := HA11.out.1.1.1.cells.2.2.2.2.1
                      have fz11 := HA11.out.1.1.1.free
                      have hl11 := HA11.out.1.1.lt
                      have HN : Hid (AlSt w0 b s O most Ty vo vt g3 f3 g5 KK (nn + mm) tgt m1 p5 5 (.slice a11 L.length c11) L (w11.setCell ⟨b, 4, none⟩ (.int .i64 5))) := ⟨HA11.out.setCode 5, hp2, hLl, .inr ⟨by decide, by decide, htg⟩⟩
                      clear HA11 htg
                      go_wp2_with fail
                      go_roundg m1
                      case measure => simp at hgk2; omega
                      case rel => exact ⟨m1, p5, 5, c11, a11, L, rfl, by rw [if_neg (by omega)]; exact Nat.le_refl _, HN⟩
                    | some more =>
                      simp only [htl] at hm10
                      obtain ⟨vm, rfl, hNm⟩ := hm10
                      have hsh := tell_short htl
                      have htg := HTG.out.trans (all_some hlt HYE.out HXE.out htl)
                      have HTG2 := hid_of htg
                      clear htl htg
                      obtain ⟨am, cm, rfl, hnm, hle, _, hcm⟩ := hNm.form
                      have HCM := hid_of hcm
                      have HNM : Hid (am = none → more.length = 0 ∧ cm = 0) := fun h => ⟨by have := hnm h; omega, hnm h⟩
                      clear hcm hnm hle hNm
                      go_wp2_with (at_builtin; refine nums_append (S := KK) (xs := L) (ys := more) rfl _ _ rfl rfl HA10.out.2.2.1 am more.length cm rfl rfl HCM.out HNM.out (by omega) hKs ?_)
                      intro v11 w11 y1 y2
                      have HA11 : Hid (AlI w0 w11 b s p5 O most 0 Ty vo vt g3 f3 g5 KK v11 (L ++ more)) := HA10.out.more y1 y2
                      have HL2 : Hid ((L ++ more).length = L.length + more.length) := List.length_append
                      clear y1 y2 HA10 HCM HNM
                      generalize L ++ more = L2 at HA11 HL2 HTG2
                      obtain ⟨a11, c11, rfl, _⟩ := HA11.out.2.2.1.form
                      have kc11 : w11.cell? ⟨b, 4, none⟩ = some (.int .i64 0) := HA11.out.1.1.1.cells.2.2.2.2.1
                      have fz11 := HA11.out.1.1.1.free
                      have hl11 := HA11.out.1.1.lt
                      have hL2 : L2.length ≤ 1000 := by
                        have h1 := HL2.out
                        have h2 := HNN.out.1
                        have h3 := HNN.out.2
                        omega
                      by_cases hfit : L2.length ≤ nn + mm
                      · have dg : decide (x + 257 + (y + 1) < (L2.length : Int)) = false := decide_eq_false (by have h2 := HNN.out.1; have h3 := HNN.out.2; omega)
                        have HN : Hid (AlSt w0 b s O most Ty vo vt g3 f3 g5 KK (nn + mm) tgt m1 p5 0 (.slice a11 L2.length c11) L2 w11) := ⟨HA11.out, hp2, hL2, .inl ⟨rfl, hfit, by omega, HTG2.out.trans (if_pos (by rw [← HL2.out]; exact hfit))⟩⟩
                        clear HA11 HTG2 HL2
                        go_wp2_with fail
                        go_roundg (m1 + 1)
                        case measure => simp at hgk2; omega
                        case rel => exact ⟨m1, p5, 0, c11, a11, L2, rfl, by rw [if_pos rfl]; exact Nat.le_refl _, HN⟩
                      · have dg : decide (x + 257 + (y + 1) < (L2.length : Int)) = true := decide_eq_true (by have h2 := HNN.out.1; have h3 := HNN.out.2; omega)
                        have HN : Hid (AlSt w0 b s O most Ty vo vt g3 f3 g5 KK (nn + mm) tgt m1 p5 5 (.slice a11 L2.length c11) L2 (w11.setCell ⟨b, 4, none⟩ (.int .i64 5))) := ⟨HA11.out.setCode 5, hp2, hL2, .inr ⟨by decide, by decide, HTG2.out.trans (if_neg (by rw [← HL2.out]; exact hfit))⟩⟩
                        clear HA11 HTG2 HL2
                        go_wp2_with fail
                        go_roundg m1
                        case measure => simp at hgk2; omega
                        case rel => exact ⟨m1, p5, 5, c11, a11, L2, rfl, by rw [if_neg (by omega)]; exact Nat.le_refl _, HN⟩
                  · rw [hxR] at hb8
                    have htg : tgt = .error 2 := HTG.out.trans (all_err2 hlt HYE.out hxE)
                    clear hxR hxE HYE HTG
                    generalize bitsOf (yy : Int) = bt at hb8 hbt
                    go_wp2_with fail
                    refine hb8.mono ?_
                    rintro e w8 ⟨rfl, hR8, hg8⟩
                    have hbx8 := (hg8.block _ (block_lt HBX.out) (fun e => hbx2 (by cases e; rfl))).trans HBX.out
                    have x1 : w8.cell? ⟨w7.heap.size, 1, none⟩ = some (.int .i64 0) := (cell_of_block hbx8 1).trans rfl
                    have xf : w8.frozen? ⟨w7.heap.size, 1, none⟩ = false := by simp [World.frozen?, hbx8]
                    have xl : w7.heap.size < w8.heap.size := block_lt hbx8
                    have HN : Hid (AlSt w0 b s O most Ty vo vt g3 f3 g5 KK (nn + mm) tgt m1 (qq + k) 2 (.slice av L.length cv) L (w8.setCell ⟨w7.heap.size, 1, none⟩ (.int .i64 0))) := ⟨(HA7a.out.turned hR8 hg8).cell hKx HVX.out _, hpk, hLl, .inr ⟨by decide, by decide, htg⟩⟩
                    have kc8 : (w8.setCell ⟨w7.heap.size, 1, none⟩ (.int .i64 0)).cell? ⟨b, 4, none⟩ = some (.int .i64 2) := HN.out.1.1.1.1.cells.2.2.2.2.1
                    have dc6 : ((2 : Int) != 0) = true := by decide
                    clear hb8 hR8 hg8 hbx8 HA7a HBX HVX htg
                    go_wp2_with fail
                    go_roundg m1
                    case measure => simp at hgk2; omega
                    case rel => exact ⟨m1, qq + k, 2, cv, av, L, rfl, by rw [if_neg (by omega)]; exact Nat.le_refl _, HN⟩
                · rw [hyR] at hf
                  have htg : tgt = .error c6 := HTG.out.trans (all_err hlt hyE)
                  go_wp2_with fail
                  refine hf.mono ?_
                  rintro e w7 ⟨rfl, hR7, hg7⟩
                  have HA7 : Hid (AlI w0 w7 b s qq O most c6 Ty vo vt g3 f3 g5 KK (.slice av L.length cv) L) := hA.out.1.turned hR7 hg7
                  clear hf hR7 hg7 hA kc2
                  go_wp2_with fail
                  refine (specBits 0 _).mono ?_
                  rintro e w7a ⟨rfl, hw7⟩
                  have hb8 := l08Bits_any b s qq vo most c6 vt 0 _ (HA7.out.called (bstart w7 (.cells #[.int .i64 0, .int .i64 0] 95))).1.1.1 hs hqq (by omega)
                  rw [bitsR_bad (by omega), ← hw7] at hb8
                  have HA7a : Hid (AlI w0 w7a b s qq O most c6 Ty vo vt g3 f3 g5 KK (.slice av L.length cv) L) := by
                    rw [hw7]
                    exact HA7.out.called (bstart w7 _)
                  have hbx : w7a.heap[w7.heap.size]? = some (.cells #[.int .i64 0, .int .i64 0] 95 (0, 0)) := by
                    rw [hw7]
                    exact heap_alloc_new w7 _
                  have hvx : (Value.slice av L.length cv).ownBlock ≠ some w7.heap.size := fun e => by
                    have := (World.ownsRow.lt HA7.out.2.2.1 _ e).2
                    omega
                  have hKx : KK ≤ w7.heap.size := HA7.out.2.2.2.1.2.2.2.2
                  have hbx2 : b ≠ w7.heap.size := by
                    have := HA7.out.1.1.lt
                    omega
                  have HBX := hid_of hbx
                  have HVX := hid_of hvx
                  have HW7 := hid_of hw7
                  clear hbx hvx hw7 HA7
                  rw [show ((bitsOf 0 : Nat) : Int) = ((0 : Nat) : Int) from rfl]
                  go_wp2_with fail
                  refine hb8.mono ?_
                  rintro e w8 ⟨rfl, hR8, hg8⟩
                  have hbx8 := (hg8.block _ (block_lt HBX.out) (fun e => hbx2 (by cases e; rfl))).trans HBX.out
                  have x1 : w8.cell? ⟨w7.heap.size, 1, none⟩ = some (.int .i64 0) := (cell_of_block hbx8 1).trans rfl
                  have xf : w8.frozen? ⟨w7.heap.size, 1, none⟩ = false := by simp [World.frozen?, hbx8]
                  have xl : w7.heap.size < w8.heap.size := block_lt hbx8
                  have HN : Hid (AlSt w0 b s O most Ty vo vt g3 f3 g5 KK (nn + mm) tgt m1 qq c6 (.slice av L.length cv) L (w8.setCell ⟨w7.heap.size, 1, none⟩ (.int .i64 0))) := ⟨(HA7a.out.turned hR8 hg8).cell hKx HVX.out _, hqq, hLl, .inr ⟨by omega, by omega, htg⟩⟩
                  have kc8 : (w8.setCell ⟨w7.heap.size, 1, none⟩ (.int .i64 0)).cell? ⟨b, 4, none⟩ = some (.int .i64 (c6 : Int)) := HN.out.1.1.1.1.cells.2.2.2.2.1
                  have dc6 : ((c6 : Int) != 0) = true := by simp; omega
                  clear hb8 hR8 hg8 hbx8 HA7a HBX HW7 HVX htg
                  go_wp2_with fail
                  go_roundg m1
                  case measure => simp at hgk2; omega
                  case rel => exact ⟨m1, qq, c6, cv, av, L, rfl, by rw [if_neg (by omega)]; exact Nat.le_refl _, HN⟩
              · have dl2 : decide ((L.length : Int) < x + 257 + (y + 1)) = false := decide_eq_false (by omega)
                have hst : L.length ≤ nn + mm ∧ 8 * s.size + 1 ≤ m + qq ∧ tgt = allF s f3 (nn + mm) m qq L := by
                  rcases hA.out.2.2.2 with ⟨_, q⟩ | ⟨q, _⟩
                  · exact q
                  · exact absurd rfl q
                have hqq := hA.out.2.1
                obtain ⟨m1, rfl⟩ : ∃ m1, m = m1 + 1 := ⟨m - 1, by omega⟩
                have hTT : tablesE s p = if TabRight nn L then .ok (L, nn, qq) else .error 5 := by
                  rw [HTE.out, hst.2.2, all_end hlt]
                have hLok : ∀ v ∈ L, 0 ≤ v ∧ v ≤ 15 := all_ok _ _ [] (fun v hv => by cases hv) (HT0.out.symm.trans (hst.2.2.trans (all_end hlt)))
                have hlen : L.length = nn + mm := by omega
                have hrow := hA.out.1.2.2.1
                obtain ⟨gL, cap, hav, hKg, hgl⟩ := World.ownsRow.form (show wr.ownsRow KK 3 1 (.slice av L.length cv) L.length (ivals L) from hrow) (by omega)
                cases hav
                obtain ⟨a0, c0, hv0, _, hcap, hcame, _⟩ := hrow.form
                cases hv0
                have hn257 : 257 ≤ nn ∧ nn ≤ 286 ∧ 1 ≤ mm ∧ mm ≤ 30 := by omega
                have hcell : ∀ j, j < L.length → wr.cell? ⟨gL, j, none⟩ = some (.int .i64 (L.getD j 0)) := by
                  intro j hj
                  have q := hcame
                  rcases q with q | ⟨g1, o1, q1, q2, q3⟩
                  · omega
                  · cases q1
                    have := q3 j hj
                    rw [Nat.zero_add] at this
                    exact this
                have hc1 : Came wr (some ⟨gL, 0, none⟩) nn (fun i => L.getD i 0) := .inr ⟨gL, 0, rfl, hgl, fun j hj => by rw [Nat.zero_add]; exact hcell j (by omega)⟩
                have hc2 : Came wr (some ⟨gL, nn, none⟩) mm (fun i => (L.drop nn).getD i 0) := .inr ⟨gL, nn, rfl, hgl, fun j hj => by
                  rw [hcell (nn + j) (by omega)]; show _ = some (Value.int .i64 ((L.drop nn).getD j 0)); rw [List.getD_eq_getElem?_getD, List.getD_eq_getElem?_getD, List.getElem?_drop]⟩
                have hk1 := specKind (some ⟨gL, 0, none⟩) nn cv (fun i => L.getD i 0) wr hc1 (by omega)
                have hk2 := specKind (some ⟨gL, nn, none⟩) mm (cv - nn) (fun i => (L.drop nn).getD i 0) wr hc2 (by omega)
                have h256 := hcell 256 (by omega)
                have HTT := hid_of hTT
                have HLEN := hid_of hlen
                have HA9 := hid_of hA.out.1
                have HQ := hid_of hqq
                have HC := hid_of (And.intro hc1 hc2)
                have HN := hid_of hn257
                have HK := hid_of hKg
                clear hst hTT hrow hcame hc1 hc2 hcell hA hlt
                have b1 : (0 : Int) ≤ (nn : Int) := by omega
                have b2 : (nn : Int) ≤ (cv : Int) := by omega
                have b3 : (nn : Int) ≤ (L.length : Int) := by omega
                have b4 : (L.length : Int) ≤ (cv : Int) := by omega
                have b5 : (256 : Int) < (L.length : Int) := by omega
                have hdiff : L.length - nn = mm := by omega
                have hx : x = (nn : Int) - 257 := by omega
                have hy : y = (mm : Int) - 1 := by omega
                clear hlen hn257 hKg n1 n2
                subst hx
                subst hy
                have hok1 := ok_of_list hLok nn
                have hok2 : OkLens (fun i => (L.drop nn).getD i 0) mm := ok_of_list (fun v hv => hLok v (List.mem_of_mem_drop hv)) mm
                have HR : Hid (∀ k1 k2 : Int, Kind (fun i => L.getD i 0) nn k1 → Kind (fun i => (L.drop nn).getD i 0) mm k2 → (TabRight nn L ↔ ((k1 = 2 ∨ k1 = 3) ∧ L.getD 256 0 ≠ 0 ∧ (k2 = 1 ∨ k2 = 2 ∨ k2 = 3)))) := by
                  intro k1 k2 q1 q2
                  have e1 := kind_one q1 (.inr ⟨by have := HN.out; omega, hok1, rfl⟩)
                  have e2 := kind_one q2 (.inr ⟨by have := HN.out; omega, hok2, rfl⟩)
                  unfold TabRight
                  rw [hdiff, e1, e2]
                clear hLok hok1 hok2
                have HGE : Hid (gL ≠ b ∧ vo.ownBlock ≠ some gL) := by
                  have q := HA9.out.2.2.2.1
                  refine ⟨by have := HK.out; omega, fun e => ?_⟩
                  have := HA9.out.2.2.2.2.1 gL e
                  have := HK.out
                  omega
                generalize L.getD 256 0 = v256 at h256 HR
                have fz := HA9.out.1.1.1.free
                have hbl2 := HA9.out.1.1.lt
                have HZ : ∀ o1 o2, Hid (RS w0 (((wr.setCell ⟨b, 4, none⟩ (.int .i64 5)).alloc o1).alloc o2) b s qq O most 5 Ty vo vt) := fun o1 o2 => ((HA9.out.1.1.setCode 5).called (bstart _ _)).called (bstart _ _)
                have HZ2 : ∀ k, Hid (RS w0 (wr.drewN k) b s qq O most 0 Ty vo vt) := fun k => HA9.out.1.1.drewN k
                go_wp2_with fail
                refine hk1.mono ?_
                rintro e wk1 ⟨k1, rfl, hK1, rfl⟩
                clear hk1
                go_wp2_with fail
                refine hk2.mono ?_
                rintro e wk2 ⟨k2, rfl, hK2, rfl⟩
                clear hk2
                have HRR := hid_of (HR.out k1 k2 hK1 hK2)
                clear HR hK1 hK2
                by_cases hr : TabRight nn L
                · have hT := HTT.out
                  rw [if_pos hr] at hT
                  have HG : ∀ k, Hid (TabPost w0 b s p O most Ty vo vt (.returned (.tuple #[.slice (some ⟨gL, 0, none⟩) nn cv, .slice (some ⟨gL, nn, none⟩) mm (cv - nn)])) (wk2.drewN k)) := fun k => by
                    refine .inr ⟨L, nn, qq, gL, cv, cv - nn, hT, HQ.out, by have := HLEN.out; omega, (HZ2 k).out, by rw [hdiff], ?_, ?_⟩
                    · rcases HC.out.1 with q | ⟨g1, o1, q1, q2, q3⟩
                      · exact .inl q
                      · cases q1
                        exact .inr ⟨gL, 0, rfl, q2, HGE.out.1, HGE.out.2, q3⟩
                    · rw [hdiff]
                      rcases HC.out.2 with q | ⟨g1, o1, q1, q2, q3⟩
                      · exact .inl q
                      · cases q1
                        exact .inr ⟨gL, nn, rfl, q2, HGE.out.1, HGE.out.2, q3⟩
                  have hq := HRR.out.1 hr
                  clear hT HRR hr HTT HC HZ HZ2 HA9
                  obtain ⟨hq1, hq2, hq3⟩ := hq
                  have dv : (v256 == 0) = false := by simp [hq2]
                  rcases hq1 with rfl | rfl <;> rcases hq3 with rfl | rfl | rfl
                  all_goals
                    go_wp2_with fail
                    go_quiet (fail)
                    go_wp2_with fail
                    go_ret2
                    exact (HG _).out
                · have hT := HTT.out
                  rw [if_neg hr] at hT
                  have HT1 := hid_of hT
                  have hq := fun h => hr (HRR.out.2 h)
                  clear hT HRR hr HTT HC HZ2 HA9
                  by_cases hk : k1 = 2 ∨ k1 = 3
                  · by_cases hv : v256 = 0
                    · have dv : (v256 == 0) = true := by simp [hv]
                      clear hv hq
                      rcases hk with rfl | rfl
                      all_goals
                        go_wp2_with fail
                        go_ret2
                        exact .inl ⟨5, by decide, by decide, HT1.out, qq, _, _, _, _, rfl, (HZ _ _).out, HQ.out⟩
                    · have dv : (v256 == 0) = false := by simp [hv]
                      have h3 : k2 ≠ 1 ∧ k2 ≠ 2 ∧ k2 ≠ 3 := ⟨fun e => hq ⟨hk, hv, .inl e⟩, fun e => hq ⟨hk, hv, .inr (.inl e)⟩, fun e => hq ⟨hk, hv, .inr (.inr e)⟩⟩
                      have d1 : (k2 != 1) = true := by simp [h3.1]
                      have d2 : (k2 != 2) = true := by simp [h3.2.1]
                      have d3 : (k2 != 3) = true := by simp [h3.2.2]
                      clear hv hq h3
                      rcases hk with rfl | rfl
                      all_goals
                        go_wp2_with fail
                        go_ret2
                        exact .inl ⟨5, by decide, by decide, HT1.out, qq, _, _, _, _, rfl, (HZ _ _).out, HQ.out⟩
                  · have h3 : k1 ≠ 2 ∧ k1 ≠ 3 := ⟨fun e => hk (.inl e), fun e => hk (.inr e)⟩
                    have d2 : (k1 != 2) = true := by simp [h3.1]
                    have d3 : (k1 != 3) = true := by simp [h3.2]
                    clear hk hq h3
                    go_wp2_with fail
                    go_ret2
                    exact .inl ⟨5, by decide, by decide, HT1.out, qq, _, _, _, _, rfl, (HZ _ _).out, HQ.out⟩
            · have htg : c ≤ 8 ∧ tgt = .error c := by
                rcases hA.out.2.2.2 with ⟨q, _⟩ | ⟨_, q⟩
                · exact absurd q hc0
                · exact q
              have HTB : Hid (tablesE s p = .error c) := by
                show tablesE s p = .error c
                rw [HTE.out, htg.2]
              have dc1 : ((c : Int) == 0) = false := by simp; omega
              have dc2 : ((c : Int) != 0) = true := by simp; omega
              have hc8 := htg.1
              have HPQ := hid_of hA.out.2.1
              have HZ : ∀ o1 o2, Hid (RS w0 ((wr.alloc o1).alloc o2) b s qq O most c Ty vo vt) := fun o1 o2 => (hA.out.1.1.1.called (bstart _ _)).called (bstart _ _)
              clear hA htg
              by_cases hlt : L.length < nn + mm
              case' pos => have dl2 : decide ((L.length : Int) < x + 257 + (y + 1)) = true := decide_eq_true (by omega)
              case' neg => have dl2 : decide ((L.length : Int) < x + 257 + (y + 1)) = false := decide_eq_false (by omega)
              all_goals
                clear n1 n2
                go_wp2_with fail
                go_ret2
                exact .inl ⟨c, hc0, hc8, HTB.out, qq, _, _, _, _, rfl, (HZ _ _).out, HPQ.out⟩
        · have HTE : Hid (tablesE s p = .error 5) := by
            show tablesE s p = .error 5
            rw [HTE1.out, if_pos hk2]
          go_wp2_with fail
          refine hkd.mono ?_
          rintro e wk ⟨kd, rfl, hK, rfl⟩
          have hkd2 : kd ≠ 2 := by
            rcases hK with ⟨q, _⟩ | ⟨_, _, q⟩
            · omega
            · rw [q]
              exact hk2
          have dkd : (kd != (2 : Int)) = true := by simp [hkd2]
          have HS4 : Hid (RS w0 (wk.setCell ⟨b, 4, none⟩ (.int .i64 5)) b s pp O most 5 Ty vo vt) := HT.out.1.setCode 5
          have HPP := hid_of hpl
          have hcm : Came (wk.setCell ⟨b, 4, none⟩ (.int .i64 5)) (some ⟨g3, 0, none⟩) 19 f3 := ((HT.out.turned (HT.out.1.1.code 5) (grown_cell _ _ _ _)).2.1.sl).came
          have hco := specCodes_some (some ⟨g3, 0, none⟩) 19 19 f3 _ hcm (by omega)
          clear hkd hK HTE1 HT hcm
          go_wp2_with fail
          refine hco.mono ?_
          rintro e w5 ⟨m5, x5, rfl, hB5, _, _⟩
          have HS5 := hid_of (HS4.out.called hB5)
          clear hco hB5 HS4 kc
          have HS6 := hid_of (HS5.out.called (bstart w5 (.cells #[] 3)))
          go_wp2_with fail
          generalize w5.alloc (.cells #[] 3) = W6 at HS6
          go_loopg [11] 1 (fun _ v w' => v = .slice (some ⟨w5.heap.size, 0, none⟩) 0 0 ∧ Hid (w' = W6))
          case atStart => exact ⟨rfl, rfl⟩
          case round =>
            obtain ⟨rfl, HE⟩ := hrel
            have hE : wr = W6 := HE.out
            subst hE
            clear HE
            have d2 : decide ((0 : Int) < x + 257 + (y + 1)) = true := decide_eq_true (by omega)
            have k5 : wr.cell? ⟨b, 4, none⟩ = some (.int .i64 5) := HS6.out.1.cells.2.2.2.2.1
            have dk2 : ((5 : Int) != 0) = true := by decide
            have HZ : ∀ o1 o2, Hid (RS w0 ((wr.alloc o1).alloc o2) b s pp O most 5 Ty vo vt) := fun o1 o2 => (HS6.out.called (bstart _ _)).called (bstart _ _)
            go_wp2_with fail
            go_ret2
            exact .inl ⟨5, by decide, by decide, HTE.out, pp, _, _, _, _, rfl, (HZ _ _).out, HPP.out⟩
      · have hc2 : c = 2 ∧ ¬ p + 14 + 3 * (zn + 4) ≤ 8 * s.size := by
          rcases hS.out.2.2 with ⟨q, _⟩ | q
          · exact absurd q hc0
          · exact q
        obtain ⟨rfl, hno⟩ := hc2
        have HTE : Hid (tablesE s p = .error 2) := by
          show tablesE s p = .error 2
          rw [HTE0.out]
          unfold restE
          rw [if_neg hno]
        have dk : ((2 : Int) == 0) = false := by decide
        have hco := specCodes_some (some ⟨g3, 0, none⟩) 19 19 F wr hS.out.1.2.1.sl.came (by omega)
        have HS4 := hid_of hS.out.1.1
        have HPP := hid_of hS.out.2.1
        clear hS
        by_cases hlt : i < zn + 4
        case' pos => have dl : decide ((i : Int) < (zn : Int) + 4) = true := decide_eq_true (by omega)
        case' neg => have dl : decide ((i : Int) < (zn : Int) + 4) = false := decide_eq_false (by omega)
        all_goals
          go_wp2_with fail
          refine hco.mono ?_
          rintro e w5 ⟨m5, x5, rfl, hB5, _, _⟩
          have HS5 := hid_of (HS4.out.called hB5)
          clear hco hB5 HS4 kc
          have HS6 := hid_of (HS5.out.called (bstart w5 (.cells #[] 3)))
          go_wp2_with fail
          generalize w5.alloc (.cells #[] 3) = W6 at HS6
          go_loopg [11] 1 (fun _ v w' => v = .slice (some ⟨w5.heap.size, 0, none⟩) 0 0 ∧ Hid (w' = W6))
          case atStart => exact ⟨rfl, rfl⟩
          case round =>
            obtain ⟨rfl, HE⟩ := hrel
            have hE : wr = W6 := HE.out
            subst hE
            clear HE
            have d2 : decide ((0 : Int) < x + 257 + (y + 1)) = true := decide_eq_true (by omega)
            have k5 : wr.cell? ⟨b, 4, none⟩ = some (.int .i64 2) := HS6.out.1.cells.2.2.2.2.1
            have dk2 : ((2 : Int) != 0) = true := by decide
            have HZ : ∀ o1 o2, Hid (RS w0 ((wr.alloc o1).alloc o2) b s pp O most 2 Ty vo vt) := fun o1 o2 => (HS6.out.called (bstart _ _)).called (bstart _ _)
            go_wp2_with fail
            go_ret2
            exact .inl ⟨2, by decide, by decide, HTE.out, pp, _, _, _, _, rfl, (HZ _ _).out, HPP.out⟩

end Go.Proofs.YtbcnlggkoidmmaaGreatDoor
