/-
  The walk of the document's model of the symbols of a block.
-/
import Derived.Test.YtbcnlggkoidmmaaGreatDoorPk12
import Derived.Test.YtbcnlggkoidmmaaGreatDoorPk13
import Derived.Deep.RegionLaw
namespace Go.Proofs.YtbcnlggkoidmmaaGreatDoor
open Go.RowKit Go.Joins OutMath CodeMath TakeMath HitMath WayMath StepMath TokMath InfMath

/-- What the ring has at hand, with what is left. -/
def SySt (w0 : World) (b : Nat) (s : ByteArray) (most : Nat) (Ty : List Int) (vt : Value) (a1 : Option Addr) (n1 : Nat) (f1 : Nat → Int) (a2 : Option Addr) (n2 : Nat) (f2 : Nat → Int) (g1 g2 : Nat) (res : Except Nat (List Int × Nat)) (m p : Nat) (O : List Int) (vo : Value) (w' : World) : Prop :=
  SyI w0 w' b s p O most 0 Ty vo vt a1 n1 f1 a2 n2 f2 g1 g2 ∧ p ≤ 8 * s.size ∧ 8 * s.size + 1 ≤ m + p ∧ Bytes O ∧ O.length ≤ most ∧ res = symbolsF s most f1 n1 f2 n2 m p O

/-- What the ring of the copied bytes has at hand. -/
def CpI (w0 : World) (b : Nat) (s : ByteArray) (p : Nat) (O : List Int) (most : Nat) (Ty : List Int) (vt : Value) (a1 : Option Addr) (n1 : Nat) (f1 : Nat → Int) (a2 : Option Addr) (n2 : Nat) (f2 : Nat → Int) (g1 g2 : Nat) (D j : Nat) (vo : Value) (w' : World) : Prop := SyI w0 w' b s p (copyN D j O) most 0 Ty vo vt a1 n1 f1 a2 n2 f2 g1 g2

set_option maxRecDepth 100000 in
set_option maxHeartbeats 6400000 in
theorem l08Symbols_any (w0 : World) (b : Nat) (s : ByteArray) (p : Nat) (O : List Int) (most : Nat) (Ty : List Int) (vo vt : Value) (a1 : Option Addr) (n1 c1 : Nat) (f1 : Nat → Int) (a2 : Option Addr) (n2 c2 : Nat) (f2 : Nat → Int) (w : World) (h : RS w0 w b s p O most 0 Ty vo vt) (t1 : Tab w b vo a1 n1 f1) (t2 : Tab w b vo a2 n2 f2) (hG1 : Coded f1 n1) (hG2 : Coded f2 n2) (hs : s.size ≤ 12000) (hp : p ≤ 8 * s.size) (hB : Bytes O) (hO : O.length ≤ most) (hm : most ≤ 12000) :
    Calls Tryz.prog 86 #[.pointer (some ⟨b, 0, none⟩), .slice a1 n1 c1, .slice a2 n2 c2] w fun e w' => e = .returned (.tuple #[]) ∧ BlockPost w0 b s most Ty (symbolsF s most f1 n1 f2 n2 (8 * s.size + 1) p O) w' := by
  obtain ⟨res, hres⟩ : ∃ res, res = symbolsF s most f1 n1 f2 n2 (8 * s.size + 1) p O := ⟨_, rfl⟩
  have HH := hid_of h
  have H1 := hid_of t1
  have H2 := hid_of t2
  have HG1 := hid_of hG1
  have HG2 := hid_of hG2
  have HBY := hid_of hB
  have HRES := hid_of hres
  rw [← hres]
  have hn1 := hG1.1
  have hn2 := hG2.1
  obtain ⟨i0, hi0, hz0, hz1, hz2⟩ := info_parts info_byte
  have hl := h.lt
  have hc1 := specCodes_good a1 n1 c1 f1 w t1.came hG1
  clear h t1 t2 hG1 hG2 hB hres
  go_enter Tryz.func86, Tryz.ntmps86
  go_wp2_with fail
  refine hc1.mono ?_
  rintro e w1 ⟨rfl, hI1, hB1⟩
  clear hc1
  have hcl1 : w.heap.size < w1.heap.size := hI1.lt
  have hc2 := specCodes_good a2 n2 c2 f2 w1 (H2.out.called hB1).came HG2.out
  go_wp2_with fail
  refine hc2.mono ?_
  rintro e w2 ⟨rfl, hI2, hB2⟩
  clear hc2
  have HS : Hid (SySt w0 b s most Ty vt a1 n1 f1 a2 n2 f2 w.heap.size w1.heap.size res (8 * s.size + 1) p O vo w2) := by
    have hv : ∀ g, w.heap.size ≤ g → vo.ownBlock ≠ some g := fun g hg e => by
      have := (World.ownsRow.lt HH.out.2.1 g e).2
      omega
    refine ⟨⟨(HH.out.called hB1).called hB2, (H1.out.called hB1).called hB2, (H2.out.called hB1).called hB2, (tab_new hI1 (by omega) (hv _ (Nat.le_refl _))).called hB2, tab_new hI2 (by omega) (hv _ (by omega))⟩, hp, by omega, HBY.out, hO, HRES.out⟩
  clear hI1 hB1 hI2 hB2 HH H1 H2 HBY HRES hO hp
  generalize w.heap.size = g1 at *
  generalize w1.heap.size = g2 at *
  go_wp2_with fail
  go_loopg [] (8 * s.size + 1) (fun gk w' => ∃ (m pp : Nat) (OO : List Int) (vo' : Value), m ≤ gk ∧ Hid (SySt w0 b s most Ty vt a1 n1 f1 a2 n2 f2 g1 g2 res m pp OO vo' w'))
  case atStart => exact ⟨_, p, O, vo, Nat.le_refl _, HS⟩
  case round =>
    clear HS
    obtain ⟨m', pp, OO, vo', hgk, hS⟩ := hrel
    have hpp := hS.out.2.1
    have hmm := hS.out.2.2.1
    have hOO := hS.out.2.2.2.2.1
    obtain ⟨m, rfl⟩ : ∃ m, m' = m + 1 := ⟨m' - 1, by omega⟩
    have k4 : wr.cell? ⟨b, 4, none⟩ = some (.int .i64 0) := hS.out.1.1.1.cells.2.2.2.2.1
    have hlr := hS.out.1.1.lt
    have hf := l08Sym_any b s pp vo' most 0 vt a1 (some ⟨g1, 0, none⟩) n1 c1 n1 f1 wr hS.out.1.1.1 hs hpp hS.out.1.2.1.came hS.out.1.2.2.2.1.came HG1.out
    rcases sym_cases f1 n1 s pp with ⟨y, k, hk1, hyn, hpk, hyR, hyE⟩ | ⟨c, hc, hyR, hyE⟩
    · rw [hyR] at hf
      rcases Nat.lt_trichotomy y 256 with hy | hy | hy
      · have dy : decide ((y : Int) < 256) = true := decide_eq_true (by omega)
        have dy6 : ((y : Int) == 256) = false := by simp; omega
        have hres : res = if OO.length = most then .error 8 else symbolsF s most f1 n1 f2 n2 m (pp + k) (OO ++ [(y : Int)]) := hS.out.2.2.2.2.2.trans (syms_byte hyE hy)
        go_wp2_with fail
        refine hf.mono ?_
        rintro e w3 ⟨rfl, hR3, hg3⟩
        have HS3 : Hid (SyI w0 w3 b s (pp + k) OO most 0 Ty vo' vt a1 n1 f1 a2 n2 f2 g1 g2) := hS.out.1.turned hR3 hg3
        have HB3 := hid_of hS.out.2.2.2.1
        have k4' : w3.cell? ⟨b, 4, none⟩ = some (.int .i64 0) := hR3.cells.2.2.2.2.1
        have k3 : w3.cell? ⟨b, 3, none⟩ = some (.int .i64 (most : Int)) := hR3.cells.2.2.2.1
        obtain ⟨av, cv, rfl⟩ := HS3.out.1.2.1.form
        have k2 : w3.cell? ⟨b, 2, none⟩ = some (.slice av OO.length cv) := hR3.cells.2.2.1
        have fz := hR3.free
        have HRES := hid_of hres
        clear hf hR3 hg3 hS hyR hyE hres k4
        have hl3 := HS3.out.1.lt
        by_cases hmo : OO.length = most
        · have dm : ((OO.length : Int) == (most : Int)) = true := by simp; omega
          go_wp2_with fail
          go_quiet (fail)
          have HS5 := hid_of (HS3.out.drewN nq)
          generalize w3.drewN nq = W5 at HS5
          have k5 : W5.cell? ⟨b, 4, none⟩ = some (.int .i64 0) := HS5.out.1.1.cells.2.2.2.2.1
          have fz5 := HS5.out.1.1.free
          have hl5 := HS5.out.1.lt
          have HZ : Hid (BlockPost w0 b s most Ty res (W5.setCell ⟨b, 4, none⟩ (.int .i64 8))) := ⟨pp + k, OO, 8, _, vt, HS5.out.1.setCode 8, hpk, HB3.out, hOO, .inr ⟨by decide, by decide, HRES.out.trans (if_pos hmo)⟩⟩
          clear HS3 HS5 k2 k3 fz k4' HRES
          go_wp2_with fail
          ((try simp only [Exit.inBlock, Exit.then]); refine bodyPost_ret (results_none rfl _ _ _) rfl ?_)
          exact ⟨rfl, HZ.out⟩
        · have dm : ((OO.length : Int) == (most : Int)) = false := by simp; omega
          go_wp2_with fail
          go_quiet (fail)
          have HS5 := hid_of (HS3.out.drewN nq)
          generalize w3.drewN nq = W5 at HS5
          have fz5 := HS5.out.1.1.free
          have hl5 := HS5.out.1.lt
          have k5 : W5.cell? ⟨b, 2, none⟩ = some (.slice av OO.length cv) := HS5.out.1.1.cells.2.2.1
          have HOW : Hid (W5.ownsRow w0.heap.size 5 1 (.slice av OO.length cv) OO.length (u8l OO)) := HS5.out.1.2.1
          have hsz5 := HS5.out.1.2.2.2.2.2.1.size
          have hwz : IntKind.u8.wrap (y : Int) = (y : Int) := wrap_u8 (by omega) (by omega)
          clear HS3 k2 k3 fz k4'
          have hol : OO.length < most := by omega
          go_wp2_with (at_builtin; refine wpList_append_lies _ rfl _ _ _ rfl w0.heap.size 5 i0 _ 1 1 Tryz.underlying22 hi0 hz0 hz1 hz2 rfl (by omega) (.slice av OO.length cv) OO.length (u8l OO) rfl (World.ownsRow.alloc HOW.out _) ⟨W5.heap.size, 0, none⟩ 1 1 [.int .u8 (y : Int)] rfl rfl (World.news_of_block (heap_alloc_new W5 _)) (by simp [Value.oneCell']) (by omega) (by unfold maxLen; omega) (by omega) (by simp; omega) (W5.heap.size + 1) (by simp) ?_; intro g7 cap7 w7 y1 y2 y3 y4; obtain ⟨hR7, hS7⟩ := HS5.out.more y1 y2 y3; have k27 : w7.cell? ⟨b, 2, none⟩ = some (.slice av OO.length cv) := hR7.cells.2.2.1; have f27 := hR7.free 2; have hl7 := hR7.lt; have HS7 := hid_of hS7; clear y1 y2 y3 y4 hR7 hS7)
          have HNX : Hid (SySt w0 b s most Ty vt a1 n1 f1 a2 n2 f2 g1 g2 res m (pp + k) (OO ++ [(y : Int)]) (.slice (some ⟨g7, 0, none⟩) (OO.length + 1) cap7) (w7.setCell ⟨b, 2, none⟩ (.slice (some ⟨g7, 0, none⟩) (OO.length + 1) cap7))) :=
            ⟨HS7.out, hpk, by omega, bytes_snoc HB3.out (by omega), by rw [List.length_append, List.length_singleton]; exact hol, HRES.out.trans (if_neg hmo)⟩
          clear HS5 HOW HS7 HRES HB3
          go_wp2_with fail
          go_roundg m
          case measure => omega
          case rel => exact ⟨m, pp + k, _, _, Nat.le_refl _, HNX⟩
      · subst hy
        have dy6 : (((256 : Nat) : Int) == 256) = true := rfl
        have hres : res = .ok (OO, pp + k) := hS.out.2.2.2.2.2.trans (syms_end hyE)
        go_wp2_with fail
        refine hf.mono ?_
        rintro e w3 ⟨rfl, hR3, hg3⟩
        have k4' : w3.cell? ⟨b, 4, none⟩ = some (.int .i64 0) := hR3.cells.2.2.2.2.1
        have HZ : Hid (BlockPost w0 b s most Ty res w3) := ⟨pp + k, OO, 0, vo', vt, hS.out.1.1.turned hR3 hg3, hpk, hS.out.2.2.2.1, hOO, .inl ⟨rfl, hres⟩⟩
        clear hf hR3 hg3 hS hyR hyE hres
        go_wp2_with fail
        ((try simp only [Exit.inBlock, Exit.then]); refine bodyPost_ret (results_none rfl _ _ _) rfl ?_)
        exact ⟨rfl, HZ.out⟩
      · have dy : decide ((y : Int) < 256) = false := decide_eq_false (by omega)
        have dy6 : ((y : Int) == 256) = false := by simp; omega
        by_cases hy5 : 285 < y
        · have d5 : decide ((285 : Int) < (y : Int)) = true := decide_eq_true (by omega)
          have hres : res = .error 6 := hS.out.2.2.2.2.2.trans (syms_over hyE hy5)
          go_wp2_with fail
          refine hf.mono ?_
          rintro e w3 ⟨rfl, hR3, hg3⟩
          have k4' : w3.cell? ⟨b, 4, none⟩ = some (.int .i64 0) := hR3.cells.2.2.2.2.1
          have fz := hR3.free
          have hl3 := hR3.lt
          have HZ : Hid (BlockPost w0 b s most Ty res (w3.setCell ⟨b, 4, none⟩ (.int .i64 6))) := ⟨pp + k, OO, 6, vo', vt, (hS.out.1.1.turned hR3 hg3).setCode 6, hpk, hS.out.2.2.2.1, hOO, .inr ⟨by decide, by decide, hres⟩⟩
          clear hf hR3 hg3 hS hyR hyE hres
          go_wp2_with fail
          ((try simp only [Exit.inBlock, Exit.then]); refine bodyPost_ret (results_none rfl _ _ _) rfl ?_)
          exact ⟨rfl, HZ.out⟩
        · have d5 : decide ((285 : Int) < (y : Int)) = false := decide_eq_false (by omega)
          have HRES : Hid (res = farE s most f1 n1 f2 n2 m y (pp + k) OO) := hS.out.2.2.2.2.2.trans (syms_far hyE (by omega) (by omega))
          have hsm := lenBits_small (y := y) (by omega) (by omega)
          have hlc := fun W => specLenBits_any y W (by omega) (by omega)
          obtain ⟨lb, hlb⟩ : ∃ lb, lb = (lenBits y).1 := ⟨_, rfl⟩
          obtain ⟨lz, hlz⟩ : ∃ lz, lz = (lenBits y).2 := ⟨_, rfl⟩
          rw [← hlb, ← hlz] at hsm hlc
          have HLB := hid_of hlb
          have HLZ := hid_of hlz
          clear hlb hlz
          go_wp2_with fail
          refine hf.mono ?_
          rintro e w3 ⟨rfl, hR3, hg3⟩
          have HS3 : Hid (SyI w0 w3 b s (pp + k) OO most 0 Ty vo' vt a1 n1 f1 a2 n2 f2 g1 g2) := hS.out.1.turned hR3 hg3
          have HB3 := hid_of hS.out.2.2.2.1
          have k4' : w3.cell? ⟨b, 4, none⟩ = some (.int .i64 0) := hR3.cells.2.2.2.2.1
          have hb4 := l08Bits_any b s (pp + k) vo' most 0 vt lb w3 hR3 hs hpk (by omega)
          clear hf hR3 hg3 hS hyR hyE k4
          go_wp2_with fail
          refine (hlc _).mono ?_
          rintro e w3a ⟨rfl, rfl⟩
          clear hlc k4'
          rcases bits_cases s (pp + k) lb with ⟨hp2, hxR, hxE, hx0, hx1⟩ | ⟨hxR, hxE⟩
          · rw [hxR] at hb4
            have hlo := fun W => specLenOf (y : Int) (num s (pp + k) lb) W
            rw [len_of (by omega) (by omega) hx0 (by rw [← HLB.out]; exact hx1), ← HLZ.out] at hlo
            have hxE' : takeE s (pp + k) (lenBits y).1 = .ok (num s (pp + k) lb, pp + k + lb) := by
              rw [← HLB.out]
              exact hxE
            clear hxE
            have hxE := hxE'
            clear hxE'
            generalize num s (pp + k) lb = x at hb4 hlo hx0 hx1 hxE
            obtain ⟨p2, hp2e⟩ : ∃ p2, p2 = pp + k + lb := ⟨_, rfl⟩
            rw [← hp2e] at hp2 hb4 hxE
            have hp2k : pp + k ≤ p2 := by omega
            have HXE := hid_of hxE
            clear hp2e hxE hxR
            obtain ⟨LL, rfl⟩ := Int.eq_ofNat_of_zero_le hx0
            have hL : lz + LL ≤ 300 := by
              have := hsm.2.2
              omega
            go_wp2_with fail
            refine hb4.mono ?_
            rintro e w4 ⟨rfl, hR4, hg4⟩
            have HS4 : Hid (SyI w0 w4 b s p2 OO most 0 Ty vo' vt a1 n1 f1 a2 n2 f2 g1 g2) := HS3.out.turned hR4 hg4
            clear hb4 HS3 hg4 hR4
            go_wp2_with fail
            refine (hlo _).mono ?_
            rintro e w4a ⟨rfl, rfl⟩
            clear hlo
            have hf2 := l08Sym_any b s p2 vo' most 0 vt a2 (some ⟨g2, 0, none⟩) n2 c2 n2 f2 w4a HS4.out.1.1 hs hp2 HS4.out.2.2.1.came HS4.out.2.2.2.2.came HG2.out
            rcases sym_cases f2 n2 s p2 with ⟨q, k2, hk2, hqn, hpk2, hqR, hqE⟩ | ⟨c, hc, hqR, hqE⟩
            · rw [hqR] at hf2
              obtain ⟨p3, hp3e⟩ : ∃ p3, p3 = p2 + k2 := ⟨_, rfl⟩
              rw [← hp3e] at hpk2 hf2 hqE
              have hp3k : pp + k ≤ p3 := by omega
              have HQE := hid_of hqE
              clear hp3e hqE hqR
              by_cases hq : 29 < q
              · have dq : decide ((29 : Int) < (q : Int)) = true := decide_eq_true (by omega)
                have hres : res = .error 6 := HRES.out.trans (far_over HXE.out HQE.out hq)
                go_wp2_with fail
                refine hf2.mono ?_
                rintro e w5 ⟨rfl, hR5, hg5⟩
                have k4 : w5.cell? ⟨b, 4, none⟩ = some (.int .i64 0) := hR5.cells.2.2.2.2.1
                have fz := hR5.free
                have hl5 := hR5.lt
                have HZ : Hid (BlockPost w0 b s most Ty res (w5.setCell ⟨b, 4, none⟩ (.int .i64 6))) := ⟨p3, OO, 6, vo', vt, (HS4.out.1.turned hR5 hg5).setCode 6, hpk2, HB3.out, hOO, .inr ⟨by decide, by decide, hres⟩⟩
                clear hf2 hR5 hg5 HS4 hres HXE HQE HRES
                go_wp2_with fail
                ((try simp only [Exit.inBlock, Exit.then]); refine bodyPost_ret (results_none rfl _ _ _) rfl ?_)
                exact ⟨rfl, HZ.out⟩
              · have dq : decide ((29 : Int) < (q : Int)) = false := decide_eq_false (by omega)
                have hsq := distBits_small (q := q) (by omega)
                have hdc := fun W => specDistBits q W (by omega)
                obtain ⟨db, hdb⟩ : ∃ db, db = bitsN 2 q := ⟨_, rfl⟩
                obtain ⟨dz, hdz⟩ : ∃ dz, dz = fromN 1 2 q := ⟨_, rfl⟩
                have HDD : Hid (distBits q = (db, dz)) := by
                  show distBits q = (db, dz)
                  rw [hdb, hdz]
                  rfl
                rw [HDD.out] at hsq
                dsimp only at hsq
                rw [← hdb, ← hdz] at hdc
                clear hdb hdz
                go_wp2_with fail
                refine hf2.mono ?_
                rintro e w5 ⟨rfl, hR5, hg5⟩
                have k4 : w5.cell? ⟨b, 4, none⟩ = some (.int .i64 0) := hR5.cells.2.2.2.2.1
                have HS5 : Hid (SyI w0 w5 b s p3 OO most 0 Ty vo' vt a1 n1 f1 a2 n2 f2 g1 g2) := HS4.out.turned hR5 hg5
                have hb6 := l08Bits_any b s p3 vo' most 0 vt db w5 hR5 hs hpk2 (by omega)
                clear hf2 hR5 hg5 HS4
                go_wp2_with fail
                refine (hdc _).mono ?_
                rintro e w5a ⟨rfl, rfl⟩
                clear hdc k4
                rcases bits_cases s p3 db with ⟨hp4, hzR, hzE, hz0', hz1'⟩ | ⟨hzR, hzE⟩
                · rw [hzR] at hb6
                  have hdo := fun W => specDistOf (q : Int) (num s p3 db) W
                  rw [dist_of (by omega) hz0' (by rw [HDD.out]; exact hz1'), HDD.out] at hdo
                  have hzE' : takeE s p3 (distBits q).1 = .ok (num s p3 db, p3 + db) := by
                    rw [HDD.out]
                    exact hzE
                  have HG := hid_of (HRES.out.trans (far_go HXE.out HQE.out hq hzE'))
                  rw [HDD.out, ← HLZ.out] at HG
                  clear hzE hzE' HXE HQE HRES hzR
                  generalize num s p3 db = z at hb6 hdo hz0' hz1' HG
                  obtain ⟨Z, rfl⟩ := Int.eq_ofNat_of_zero_le hz0'
                  obtain ⟨p4, hp4e⟩ : ∃ p4, p4 = p3 + db := ⟨_, rfl⟩
                  rw [← hp4e] at hp4 hb6 HG
                  have hp4k : pp + k ≤ p4 := by omega
                  clear hp4e
                  have hD : dz + Z ≤ 40000 := by
                    have := hsq.2.2
                    omega
                  have hD1 : 1 ≤ dz + Z := by omega
                  have HG' : Hid (res = if OO.length < dz + Z then .error 7 else if most < OO.length + (lz + LL) then .error 8 else symbolsF s most f1 n1 f2 n2 m p4 (copyN (dz + Z) (lz + LL) OO)) := by
                    have h := HG.out
                    dsimp only at h
                    rw [show ((dz : Int) + (Z : Int)).toNat = dz + Z by omega, show ((lz : Int) + (LL : Int)).toNat = lz + LL by omega] at h
                    show res = _
                    rw [h]
                    by_cases q1 : OO.length < dz + Z
                    · rw [if_pos q1, if_pos (by omega)]
                    · rw [if_neg q1, if_neg (by omega)]
                      by_cases q2 : most < OO.length + (lz + LL)
                      · rw [if_pos q2, if_pos (by omega)]
                      · rw [if_neg q2, if_neg (by omega)]
                  clear HG
                  have HG := HG'
                  clear HG'
                  dsimp only at hdo
                  rw [show ((dz : Int) + (Z : Int)) = ((dz + Z : Nat) : Int) by omega] at hdo
                  generalize dz + Z = D at hdo HG hD hD1
                  go_wp2_with fail
                  refine hb6.mono ?_
                  rintro e w6 ⟨rfl, hR6, hg6⟩
                  have k4 : w6.cell? ⟨b, 4, none⟩ = some (.int .i64 0) := hR6.cells.2.2.2.2.1
                  have k3 : w6.cell? ⟨b, 3, none⟩ = some (.int .i64 (most : Int)) := hR6.cells.2.2.2.1
                  have HS6 : Hid (SyI w0 w6 b s p4 OO most 0 Ty vo' vt a1 n1 f1 a2 n2 f2 g1 g2) := HS5.out.turned hR6 hg6
                  obtain ⟨av, cv, rfl⟩ := HS6.out.1.2.1.form
                  have k2 : w6.cell? ⟨b, 2, none⟩ = some (.slice av OO.length cv) := hR6.cells.2.2.1
                  have fz := hR6.free
                  have hl6 := hR6.lt
                  clear hb6 HS5 hR6 hg6
                  go_wp2_with fail
                  refine (hdo _).mono ?_
                  rintro e w6a ⟨rfl, rfl⟩
                  clear hdo
                  by_cases hfar : OO.length < D
                  · have df : decide ((OO.length : Int) < (D : Int)) = true := decide_eq_true (by omega)
                    have HZ : Hid (BlockPost w0 b s most Ty res (w6a.setCell ⟨b, 4, none⟩ (.int .i64 7))) := ⟨p4, OO, 7, _, vt, HS6.out.1.setCode 7, hp4, HB3.out, hOO, .inr ⟨by decide, by decide, HG.out.trans (if_pos hfar)⟩⟩
                    clear HS6 HG
                    go_wp2_with fail
                    ((try simp only [Exit.inBlock, Exit.then]); refine bodyPost_ret (results_none rfl _ _ _) rfl ?_)
                    exact ⟨rfl, HZ.out⟩
                  · have df : decide ((OO.length : Int) < (D : Int)) = false := decide_eq_false (by omega)
                    rw [if_neg hfar] at HG
                    have e1 : IntKind.i64.wrap ((most : Int) - (OO.length : Int)) = (most : Int) - (OO.length : Int) := by
                      rw [IntKind.wrap_i64]
                      omega
                    by_cases hmo : most < OO.length + (lz + LL)
                    · have dm : decide ((most : Int) - (OO.length : Int) < (lz : Int) + (LL : Int)) = true := decide_eq_true (by omega)
                      go_wp2_with fail
                      go_quiet (fail)
                      have HS7 := hid_of (HS6.out.drewN nq)
                      generalize w6a.drewN nq = W7 at HS7
                      have k5 : W7.cell? ⟨b, 4, none⟩ = some (.int .i64 0) := HS7.out.1.1.cells.2.2.2.2.1
                      have fz5 := HS7.out.1.1.free
                      have hl7 := HS7.out.1.lt
                      have HZ : Hid (BlockPost w0 b s most Ty res (W7.setCell ⟨b, 4, none⟩ (.int .i64 8))) := ⟨p4, OO, 8, _, vt, HS7.out.1.setCode 8, hp4, HB3.out, hOO, .inr ⟨by decide, by decide, HG.out.trans (if_pos hmo)⟩⟩
                      clear HS6 HS7 k2 k3 fz k4 HG
                      go_wp2_with fail
                      ((try simp only [Exit.inBlock, Exit.then]); refine bodyPost_ret (results_none rfl _ _ _) rfl ?_)
                      exact ⟨rfl, HZ.out⟩
                    · have dm : decide ((most : Int) - (OO.length : Int) < (lz : Int) + (LL : Int)) = false := decide_eq_false (by omega)
                      rw [if_neg hmo] at HG
                      go_wp2_with fail
                      go_quiet (fail)
                      have HS7 := hid_of (HS6.out.drewN nq)
                      generalize w6a.drewN nq = W7 at HS7
                      clear HS6 k2 k3 fz k4
                      go_wp2_with fail
                      have HC0 : Hid (CpI w0 b s p4 OO most Ty vt a1 n1 f1 a2 n2 f2 g1 g2 D 0 (.slice av OO.length cv) W7) := HS7.out
                      have hfit : OO.length + (lz + LL) ≤ most := by omega
                      have hfd : D ≤ OO.length := by omega
                      clear HS7 e1 dm df
                      go_loopg [20] (lz + LL + 1) (fun gk v w' => ∃ (j : Nat) (vo2 : Value), j ≤ lz + LL ∧ lz + LL - j ≤ gk ∧ v = .int .i64 j ∧ Hid (CpI w0 b s p4 OO most Ty vt a1 n1 f1 a2 n2 f2 g1 g2 D j vo2 w'))
                      case atStart => exact ⟨0, _, Nat.zero_le _, by omega, rfl, HC0⟩
                      case round =>
                        clear HC0
                        obtain ⟨j, vo2, hj, hgk2, rfl, hC⟩ := hrel
                        by_cases hlt : j < lz + LL
                        · have dj : decide ((j : Int) < (lz : Int) + (LL : Int)) = true := decide_eq_true (by omega)
                          have hxl : (copyN D j OO).length = OO.length + j := copy_length D j OO
                          obtain ⟨gq, cq, rfl, hgq, kq⟩ := hC.out.1.2.1.cell (j := (copyN D j OO).length - D) (by omega)
                          have HQ : Hid (copyN D (j + 1) OO = copyN D j OO ++ [(copyN D j OO).getD ((copyN D j OO).length - D) 0]) := copy_snoc D j OO
                          have hC' : Hid (SyI w0 wr b s p4 (copyN D j OO) most 0 Ty (.slice (some ⟨gq, 0, none⟩) (copyN D j OO).length cq) vt a1 n1 f1 a2 n2 f2 g1 g2) := hC.out
                          have HBX : Hid (Bytes (copyN D j OO)) := copy_bytes D j OO HB3.out
                          clear hC
                          generalize copyN D j OO = OX at hxl kq HQ hC' HBX
                          have hux : (u8l OX)[OX.length - D]? = some (.int .u8 (OX.getD (OX.length - D) 0)) := by
                            have hlo : OX.length - D < OX.length := by omega
                            unfold u8l
                            rw [List.getElem?_map, List.getD_eq_getElem?_getD, List.getElem?_eq_getElem hlo]
                            rfl
                          generalize OX.getD (OX.length - D) 0 = xq at kq HQ hux
                          have HUX := hid_of hux
                          clear hux
                          have k2 : wr.cell? ⟨b, 2, none⟩ = some (.slice (some ⟨gq, 0, none⟩) OX.length cq) := hC'.out.1.1.cells.2.2.1
                          have hlr2 := hC'.out.1.lt
                          have HOW : Hid (wr.ownsRow w0.heap.size 5 1 (.slice (some ⟨gq, 0, none⟩) OX.length cq) OX.length (u8l OX)) := hC'.out.1.2.1
                          have hszr := hC'.out.1.2.2.2.2.2.1.size
                          have i1 : IntKind.i64.wrap ((OX.length : Int) - (D : Int)) = (OX.length : Int) - (D : Int) := by
                            rw [IntKind.wrap_i64]
                            omega
                          have i2 : ((OX.length : Int) - (D : Int)).toNat = OX.length - D := by omega
                          have i3 : (0 : Int) ≤ (OX.length : Int) - (D : Int) := by omega
                          have i4 : (OX.length : Int) - (D : Int) < (OX.length : Int) := by omega
                          have i5 : OX.length - D < OX.length := by omega
                          have i6 : D ≤ OX.length := by omega
                          have i7 : OX.length < most := by omega
                          clear hxl
                          have HALL : Hid (∀ (o : Obj) (w7 : World) (g7 cap7 : Nat), w7.ownsRow w0.heap.size 5 1 (.slice (some ⟨g7, 0, none⟩) (OX.length + 1) cap7) (OX.length + 1) (u8l OX ++ [.int .u8 xq]) → (wr.alloc o).grownBy w7 (some gq) → (some gq = some g7 ∨ g7 = wr.heap.size + 1) → (∀ j u, (u8l OX)[j]? = some u → w7.cell? ((⟨gq, 0, none⟩ : Addr).add j) = some u) → w7.cell? ⟨gq, OX.length - D, none⟩ = some (.int .u8 xq) ∧ w7.cell? ⟨b, 2, none⟩ = some (.slice (some ⟨gq, 0, none⟩) OX.length cq) ∧ w7.frozen? ⟨b, 2, none⟩ = false ∧ b < w7.heap.size ∧ Hid (CpI w0 b s p4 OO most Ty vt a1 n1 f1 a2 n2 f2 g1 g2 D (j + 1) (.slice (some ⟨g7, 0, none⟩) (OX.length + 1) cap7) (w7.setCell ⟨b, 2, none⟩ (.slice (some ⟨g7, 0, none⟩) (OX.length + 1) cap7)))) := by
                            intro o w7 g7 cap7 y1 y2 y3 y5
                            obtain ⟨hR7, hS7⟩ := hC'.out.more (o := o) y1 y2 y3
                            refine ⟨(congrArg w7.cell? (by unfold Addr.add; simp)).trans (y5 _ _ HUX.out), hR7.cells.2.2.1, hR7.free 2, hR7.lt, ?_⟩
                            show CpI w0 b s p4 OO most Ty vt a1 n1 f1 a2 n2 f2 g1 g2 D (j + 1) _ _
                            unfold CpI
                            rw [HQ.out]
                            exact hS7
                          clear hC' HQ HBX HG HUX
                          go_wp2_with fail
                          go_region_law (refine step_append_keeps _ (by rfl) (.tmp 159) (.tmp 173) 22 (by rfl) w0.heap.size 5 i0 _ 1 1 Tryz.underlying22 hi0 hz0 hz1 hz2 rfl (by omega) gq cq OX.length (u8l OX) (by rfl) (World.ownsRow.alloc HOW.out _) ⟨wr.heap.size, 0, none⟩ 1 1 [.int .u8 xq] (by rfl) rfl (World.news_of_block (heap_alloc_new wr _)) (by simp [Value.oneCell']) (by omega) (by unfold maxLen; omega) (by omega) (by show _ ≤ (wr.alloc _).heap.size; simp; omega) (wr.heap.size + 1) (by show (wr.alloc _).heap.size = _; simp) ?_; intro g7 cap7 w7 z1 z2 z3 z4 z5; obtain ⟨pq, p0, p1, p2', HN7⟩ := HALL.out _ w7 g7 cap7 z1 ⟨z2.1, z2.2, z2.3, z2.4, z2.5⟩ z3 z5; clear z1 z2 z3 z4 z5)
                          all_goals
                            clear HALL HOW
                            go_wp2_with fail
                            go_roundg (lz + LL - (j + 1))
                            case measure => omega
                            case rel => exact ⟨j + 1, _, by omega, Nat.le_refl _, by go_num, HN7⟩
                        · obtain rfl : j = lz + LL := by omega
                          have dj : decide (((lz + LL : Nat) : Int) < (lz : Int) + (LL : Int)) = false := decide_eq_false (by omega)
                          have HNX : Hid (SySt w0 b s most Ty vt a1 n1 f1 a2 n2 f2 g1 g2 res m p4 (copyN D (lz + LL) OO) vo2 wr) := ⟨hC.out, hp4, by omega, copy_bytes D _ OO HB3.out, by rw [copy_length]; exact hfit, HG.out⟩
                          clear hC HG
                          go_wp2_with fail
                          go_roundg m
                          case measure => omega
                          case rel => exact ⟨m, p4, _, _, Nat.le_refl _, HNX⟩
                · rw [hzR] at hb6
                  have hzE' : takeE s p3 (distBits q).1 = .error 2 := by
                    rw [HDD.out]
                    exact hzE
                  have hres : res = .error 2 := HRES.out.trans (far_err3 HXE.out HQE.out hq hzE')
                  have hdo := fun W => specDistOf (q : Int) 0 W
                  generalize DistOfR (q : Int) 0 = lo at hdo
                  obtain ⟨lo1, lo2⟩ := lo
                  go_wp2_with fail
                  refine hb6.mono ?_
                  rintro e w6 ⟨rfl, hR6, hg6⟩
                  have k4 : w6.cell? ⟨b, 4, none⟩ = some (.int .i64 2) := hR6.cells.2.2.2.2.1
                  have HZ : Hid (BlockPost w0 b s most Ty res w6) := ⟨p3, OO, 2, vo', vt, HS5.out.1.turned hR6 hg6, hpk2, HB3.out, hOO, .inr ⟨by decide, by decide, hres⟩⟩
                  clear hb6 HS5 hR6 hg6 hres hzE hzE' HXE HQE HRES
                  go_wp2_with fail
                  refine (hdo _).mono ?_
                  rintro e w6a ⟨rfl, rfl⟩
                  clear hdo
                  have dk : ((2 : Int) != 0) = true := by decide
                  go_wp2_with fail
                  ((try simp only [Exit.inBlock, Exit.then]); refine bodyPost_ret (results_none rfl _ _ _) rfl ?_)
                  exact ⟨rfl, HZ.out⟩
            · rw [hqR] at hf2
              have hres : res = .error c := HRES.out.trans (far_err2 HXE.out hqE)
              have dc : ((c : Int) != 0) = true := by simp; omega
              go_wp2_with fail
              refine hf2.mono ?_
              rintro e w5 ⟨rfl, hR5, hg5⟩
              have k4 : w5.cell? ⟨b, 4, none⟩ = some (.int .i64 (c : Int)) := hR5.cells.2.2.2.2.1
              have HZ : Hid (BlockPost w0 b s most Ty res w5) := ⟨p2, OO, c, vo', vt, HS4.out.1.turned hR5 hg5, hp2, HB3.out, hOO, .inr ⟨by omega, by omega, hres⟩⟩
              clear hf2 hR5 hg5 HS4 hres HXE hqE hqR HRES
              go_wp2_with fail
              ((try simp only [Exit.inBlock, Exit.then]); refine bodyPost_ret (results_none rfl _ _ _) rfl ?_)
              exact ⟨rfl, HZ.out⟩
          · rw [hxR] at hb4
            rw [HLB.out] at hxE
            have hres : res = .error 2 := HRES.out.trans (far_err hxE)
            have hlo := fun W => specLenOf (y : Int) 0 W
            generalize LengthOfR (y : Int) 0 = lo at hlo
            obtain ⟨lo1, lo2⟩ := lo
            go_wp2_with fail
            refine hb4.mono ?_
            rintro e w4 ⟨rfl, hR4, hg4⟩
            have HS4 : Hid (SyI w0 w4 b s (pp + k) OO most 2 Ty vo' vt a1 n1 f1 a2 n2 f2 g1 g2) := HS3.out.turned hR4 hg4
            clear hb4 HS3 hg4 hR4
            go_wp2_with fail
            refine (hlo _).mono ?_
            rintro e w4a ⟨rfl, rfl⟩
            clear hlo
            have hf2 := l08Sym_any b s (pp + k) vo' most 2 vt a2 (some ⟨g2, 0, none⟩) n2 c2 n2 f2 w4a HS4.out.1.1 hs hpk HS4.out.2.2.1.came HS4.out.2.2.2.2.came HG2.out
            rw [symR_bad (by decide)] at hf2
            go_wp2_with fail
            refine hf2.mono ?_
            rintro e w5 ⟨rfl, hR5, hg5⟩
            have k4 : w5.cell? ⟨b, 4, none⟩ = some (.int .i64 2) := hR5.cells.2.2.2.2.1
            have HZ : Hid (BlockPost w0 b s most Ty res w5) := ⟨pp + k, OO, 2, vo', vt, HS4.out.1.turned hR5 hg5, hpk, HB3.out, hOO, .inr ⟨by decide, by decide, hres⟩⟩
            clear hf2 hR5 hg5 HS4 hres hxE HRES
            have dk : ((2 : Int) != 0) = true := by decide
            go_wp2_with fail
            ((try simp only [Exit.inBlock, Exit.then]); refine bodyPost_ret (results_none rfl _ _ _) rfl ?_)
            exact ⟨rfl, HZ.out⟩
    · rw [hyR] at hf
      have hres : res = .error c := hS.out.2.2.2.2.2.trans (syms_err hyE)
      have dc : ((c : Int) != 0) = true := by simp; omega
      go_wp2_with fail
      refine hf.mono ?_
      rintro e w3 ⟨rfl, hR3, hg3⟩
      have k4' : w3.cell? ⟨b, 4, none⟩ = some (.int .i64 (c : Int)) := hR3.cells.2.2.2.2.1
      have HZ : Hid (BlockPost w0 b s most Ty res w3) := ⟨pp, OO, c, vo', vt, hS.out.1.1.turned hR3 hg3, hpp, hS.out.2.2.2.1, hOO, .inr ⟨by omega, by omega, hres⟩⟩
      clear hf hR3 hg3 hS hyR hyE hres
      go_wp2_with fail
      ((try simp only [Exit.inBlock, Exit.then]); refine bodyPost_ret (results_none rfl _ _ _) rfl ?_)
      exact ⟨rfl, HZ.out⟩

end Go.Proofs.YtbcnlggkoidmmaaGreatDoor
