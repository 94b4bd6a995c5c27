/-
  Texts of the proof, put together.
-/
import Derived.Test.YtklpiihnbokkkaaGreatDoorZk42
namespace Go.Proofs.YtklpiihnbokkkaaGreatDoor
open Go.RowKit Go.Joins PackageMath
def Small (l:List Coin):Prop:=∀ i,i < l.length→0≤(l.getD i (0,[])).1∧(l.getD i (0,[])).1≤1000000000∧1≤(l.getD i (0,[])).2.length∧(l.getD i (0,[])).2.length≤1000000
theorem parts_news {w:World} {B:Nat} {g cap:Nat} {ps:List Nat} (h:PartsAt w B (.slice (some ⟨g,0,none⟩) ps.length cap) ps):∀ j u,(ps.map fun (i:Nat)=>Value.int .i64 (i:Int))[j]?=some u→w.cell? ((⟨g,0,none⟩:Addr).add j)=some u:=by
 intro j u hu
 have k:=h.cell
 have hj:j < ps.length:=by
  rcases Nat.lt_or_ge j ps.length with q | q
  ·exact q
  ·rw[List.getElem?_eq_none (by simpa using q)] at hu
   cases hu
 rw[Addr.add_lit,Nat.zero_add,k.2.2 j hj]
 rw[List.getElem?_map,List.getElem?_eq_getElem hj] at hu
 rw[List.getD_eq_getElem?_getD,List.getElem?_eq_getElem hj]
 exact hu
theorem news_grown {w w':World} {row:Option Nat} {x:Nat} {news:List Value} (hg:w.grownBy w' row) (hx:x < w.heap.size) (hne:some x≠row) (h:∀ j u,news[j]?=some u→w.cell? ((⟨x,0,none⟩:Addr).add j)=some u):∀ j u,news[j]?=some u→w'.cell? ((⟨x,0,none⟩:Addr).add j)=some u:=by
 intro j u hu
 have k:=h j u hu
 rw[Addr.add_lit] at k ⊢
 rw[hg.cell_far _ hx hne]
 exact k
def NextSt (w w':World) (B:Nat) (v:Value) (X l O:List Coin) (i t:Nat):Prop:=
 ItemsAt 225 w' w.heap.size B v O∧Below w.heap.size w w'∧O ++ merge (X.drop i) ((pairs l).drop t)=merge X (pairs l)∧O.length=i+t
def PairSt (w w':World) (B P:Nat) (v pv:Value) (X l O:List Coin) (i t:Nat) (p:Coin):Prop:=
 NextSt w w' B v X l O i t∧w'.heap[P]?=some (.cells #[.int .i64 p.1,pv] 225 (0,0))∧PartsAt w' B pv p.2∧w.heap.size≤P∧v.ownBlock≠some P
theorem pair_made {w w6 wa wb:World} {B P ga ca gb cb:Nat} {v:Value} {X l O:List Coin} {i t:Nat} {y0 y1:Coin} (hS:NextSt w w6 B v X l O i t) (hB:B≤w.heap.size) (hP:w.heap.size≤P) (hv:∀ k,v.ownBlock=some k→k < P)
  (hq:w6.heap[P]?=some (.cells #[.int .i64 (y0.1+y1.1),.slice none 0 0] 225 (0,0)))
  (ha:w6.drew.grownBy wa (Value.ownBlock (.slice none 0 0))) (hga:ga=w6.heap.size) (hb:wa.grownBy wb (Value.ownBlock (.slice (some ⟨ga,0,none⟩) (0+y0.2.length) ca)))
  (hown:wb.ownsRow w6.heap.size 3 1 (.slice (some ⟨gb,0,none⟩) (0+y0.2.length+y1.2.length) cb) (0+y0.2.length+y1.2.length) ([] ++ (y0.2.map fun (i:Nat)=>Value.int .i64 (i:Int)) ++ (y1.2.map fun (i:Nat)=>Value.int .i64 (i:Int)))):
  PairSt w (wb.setCell ⟨P,1,none⟩ (.slice (some ⟨gb,0,none⟩) (y0.2.length+y1.2.length) cb)) B P v (.slice (some ⟨gb,0,none⟩) (y0.2.length+y1.2.length) cb) X l O i t (pairOf y0 y1):=by
 have hP6:P < w6.heap.size:=block_lt hq
 have hsa:w6.heap.size≤wa.heap.size:=ha.size
 have hka:∀ k,k < w6.heap.size→wa.heap[k]?=w6.heap[k]?:=fun k hk=>ha.block k hk (by simp [Value.ownBlock])
 have hkb:∀ k,k < w6.heap.size→wb.heap[k]?=w6.heap[k]?:=fun k hk=>(hb.block k (by omega) (by simp [Value.ownBlock]; omega)).trans (hka k hk)
 have hkc:∀ k u,k < w6.heap.size→k≠P→(wb.setCell ⟨P,1,none⟩ u).heap[k]?=w6.heap[k]?:=fun k u hk hne=>(Below.heap_setCell wb ⟨P,1,none⟩ _ k hne).trans (hkb k hk)
 have hBe:Below w.heap.size w wb:=by
  have h1:Below w.heap.size w wa:=Below.grown (w:=w6.drew) hS.2.1.drew ha (by show w.heap.size≤w6.heap.size; omega) (fun k hk=>by cases hk)
  exact h1.grown hb (by omega) (fun k hk=>by
   have e:k=ga:=by simpa [Value.ownBlock] using hk.symm
   omega)
 rw[Nat.zero_add] at hown
 obtain⟨hl,hrow⟩:=hown
 rcases hrow with ⟨h0,_⟩ | ⟨g,cap,cur,hv',hbg,hg,hnc,hcm,hcs,ht⟩
 ·cases h0
 ·simp at hv'
  obtain⟨rfl,rfl⟩:=hv'
  have hgP:gb≠P:=by omega
  refine⟨⟨hS.1.keep (fun k hk=>?_) (fun g cur fz hBg hgc=>?_),Below.setCell (p:=⟨P,1,none⟩) hBe hP _,hS.2.2⟩,?_,?_,hP,fun e=>?_⟩
  ·have:=hv k hk
   exact hkc k _ (by omega) (by omega)
  ·have hlt:=block_lt hgc
   refine hkc g _ hlt (fun e=>?_)
   rw[e,hq] at hgc
   simp at hgc
  ·have q:=block_setCell (i:=1) ((hkb P hP6).trans hq) (.slice (some ⟨gb,0,none⟩) (y0.2.length+y1.2.length) cb)
   have e1:(pairOf y0 y1).1=y0.1+y1.1:=rfl
   rw[e1]
   simpa using q
  ·refine⟨gb,cb,cur,(0,0),by simp [pairOf],by have:=hS.2.1.size; omega,(Below.heap_setCell wb ⟨P,1,none⟩ _ gb hgP).trans hg,?_⟩
   have e2:(pairOf y0 y1).2=y0.2 ++ y1.2:=rfl
   rw[e2,List.length_append,List.map_append]
   simpa using ht
  ·have:=hv P e
   omega
theorem PairSt.taken {w w0 w':World} {B P:Nat} {v v' pv:Value} {X l O:List Coin} {i t:Nat} {p x:Coin} {o:Obj} (h:PairSt w w0 B P v pv X l O i t p) (hI:ItemsAt 225 w' w.heap.size B v' (O ++ [x])) (hg:(w0.alloc o).grownBy w' v.ownBlock) (hat:v'.ownBlock=v.ownBlock∨v'.ownBlock=some (w0.heap.size+1))
  (hm:O ++ [x] ++ merge (X.drop (i+1)) ((pairs l).drop t)=merge X (pairs l)):PairSt w w' B P v' pv X l (O ++ [x]) (i+1) t p:=by
 obtain⟨h1,h2,h3,h4,h5⟩:=h
 have hs:=h1.2.1.size
 have hPl:=block_lt h2
 have hk:∀ k,k < w0.heap.size→some k≠v.ownBlock→w'.heap[k]?=w0.heap[k]?:=fun k hk hne=>(hg.block k (by simp; omega) hne).trans (Below.heap_alloc w0 o k hk)
 refine⟨⟨hI,(bal h1.2.1 o).grown hg (by simp; omega) (fun k hk=>(h1.1.spine k hk).1),hm,by have:=h1.2.2.2; simp; omega⟩,(hk P hPl (Ne.symm h5)).trans h2,h3.keep (fun g cur fz _ hgc=>hk g (block_lt hgc) (fun e=>?_)),h4,?_⟩
 ·obtain⟨_,c2,hc2⟩:=h1.1.spine g e.symm
  rw[hgc] at hc2
  simp at hc2
 ·rcases hat with e | e
  ·rw[e]; exact h5
  ·rw[e]
   simp
   omega
theorem PairSt.drewN {w w':World} {B P:Nat} {v pv:Value} {X l O:List Coin} {i t:Nat} {p:Coin} (h:PairSt w w' B P v pv X l O i t p) (n:Nat):PairSt w (w'.drewN n) B P v pv X l O i t p:=
 ⟨⟨h.1.1.keep (fun _ _=>rfl) (fun _ _ _ _ _=>rfl),bdraws h.1.2.1 n,h.1.2.2⟩,h.2⟩
theorem PairSt.closed {w w0 w':World} {B P:Nat} {v v' pv:Value} {X l O:List Coin} {i t:Nat} {p:Coin} {o:Obj} (h:PairSt w w0 B P v pv X l O i t p) (hI:ItemsAt 225 w' w.heap.size B v' (O ++ [p])) (hg:(w0.alloc o).grownBy w' v.ownBlock)
  (hm:O ++ [p] ++ merge (X.drop i) ((pairs l).drop (t+1))=merge X (pairs l)):NextSt w w' B v' X l (O ++ [p]) i (t+1):=by
 obtain⟨h1,h2,h3,h4,h5⟩:=h
 have hs:=h1.2.1.size
 exact⟨hI,(bal h1.2.1 o).grown hg (by simp; omega) (fun k hk=>(h1.1.spine k hk).1),hm,by have:=h1.2.2.2; simp; omega⟩
theorem NextSt.done {w w0 w':World} {B:Nat} {v v':Value} {X l O:List Coin} {i t:Nat} (h:NextSt w w0 B v X l O i t) (hI:ItemsAt 225 w' w.heap.size B v' (O ++ X.drop i)) (hg:w0.grownBy w' v.ownBlock) (hm:O ++ X.drop i=merge X (pairs l)):ItemsAt 225 w' w.heap.size B v' (merge X (pairs l))∧Below w.heap.size w w':=by
 rw[hm] at hI
 exact⟨hI,h.2.1.grown hg h.2.1.size (fun k hk=>(h.1.spine k hk).1)⟩
set_option maxHeartbeats 1600000 in
theorem specNext (af al : Option Addr) (cf cl SF SL' B : Nat) (X l : List Coin) (w : World) (hX : ItemsAt 225 w SF B (.slice af X.length cf) X) (hl : ItemsAt 225 w SL' B (.slice al l.length cl) l)
    (hXn : X.length ≤ 288) (hln : l.length ≤ 1000) (sX : Small X) (sl : Small l) (hB : B ≤ w.heap.size) :
    Calls Tryz.prog 157 #[.slice af X.length cf, .slice al l.length cl] w fun e w' => ∃ v', e = .returned v' ∧ ItemsAt 225 w' w.heap.size B v' (merge X (pairs l)) ∧ Below w.heap.size w w' := by
  have HX : Hid (ItemsAt 225 w SF B (.slice af X.length cf) X) := hX
  have HL : Hid (ItemsAt 225 w SL' B (.slice al l.length cl) l) := hl
  have HSX : Hid (Small X) := sX
  have HSL : Hid (Small l) := sl
  clear hX hl sX sl
  go_enter Tryz.func157, Tryz.ntmps157
  go_wp2_with fail
  have H0 : Hid (NextSt w (w.alloc (.cells #[] 225)) B (.slice (some ⟨w.heap.size, 0, none⟩) 0 0) X l [] 0 0) := ⟨ItemsAt.empty w (Nat.le_refl _), bstart _ _, by simp, rfl⟩
  go_loopw [5, 6, 7] (fun v x z w' => ∃ (i t k : Nat) (O : List Coin), i ≤ X.length ∧ k ≤ l.length ∧ x = .int .i64 i ∧ z = .int .i64 ((k : Nat) : Int) ∧ Hid (k = 2 * t) ∧ Hid (NextSt w w' B v X l O i t)) (fun _ _ z _ => l.length - (intOf z).toNat)
  case atStart => exact ⟨0, 0, 0, [], by omega, by omega, rfl, rfl, rfl, H0⟩
  case round =>
    clear H0
    obtain ⟨i, t, k, O, hi, ht, rfl, rfl, hkt, hS⟩ := hrel
    by_cases hlt : k + 1 < l.length
    · have hL := HL.out.called hS.out.2.1
      obtain ⟨g, cap, u0, hv0, hg, k0, k1, hp0⟩ := hL.get k (by omega)
      obtain ⟨g', cap', u1, hv1, hg', k2, k3, hp1⟩ := hL.get (k + 1) hlt
      obtain ⟨rfl, rfl⟩ : al = some ⟨g, 0, none⟩ ∧ cl = cap := by simpa using hv0
      obtain ⟨rfl, rfl⟩ : g = g' ∧ cl = cap' := by simpa using hv1
      have b0 := HSL.out k (by omega)
      have b1 := HSL.out (k + 1) hlt
      have HP0 := hid_of hp0
      have HP1 := hid_of hp1
      obtain ⟨y0, hy0⟩ : ∃ y, y = l.getD k (0, []) := ⟨_, rfl⟩
      obtain ⟨y1, hy1⟩ : ∃ y, y = l.getD (k + 1) (0, []) := ⟨_, rfl⟩
      have HY0 := hid_of hy0
      have HY1 := hid_of hy1
      rw [← hy0] at k0 b0 HP0
      rw [← hy1] at k2 b1 HP1
      clear hp0 hp1 hv0 hv1 hL hy0 hy1 hg'
      have q1 : IntKind.i64.wrap ((k : Int) + 1) = (k : Int) + 1 := by rw [IntKind.wrap_i64]; omega
      have d14 : decide ((k : Int) + 1 < (l.length : Int)) = true := by simp; omega
      go_wp2_with fail
      go_region
      have hq6 : ((wr.alloc (.cells #[.int .i64 (y0.1 + y1.1), .slice none 0 0] 225)).drew).heap[wr.heap.size]? = some (.cells #[.int .i64 (y0.1 + y1.1), .slice none 0 0] 225 (0, 0)) := heap_alloc_new wr _
      have hb6 : Below wr.heap.size wr ((wr.alloc (.cells #[.int .i64 (y0.1 + y1.1), .slice none 0 0] 225)).drew) := (bstart wr _).drew
      have hz6 : ((wr.alloc (.cells #[.int .i64 (y0.1 + y1.1), .slice none 0 0] 225)).drew).heap.size = wr.heap.size + 1 := by simp
      generalize ((wr.alloc (.cells #[.int .i64 (y0.1 + y1.1), .slice none 0 0] 225)).drew) = w6 at hq6 hb6 hz6 ⊢
      have HSP : Hid (∀ q, Value.ownBlock u5 = some q → q < wr.heap.size) := fun q hq => by
        obtain ⟨_, cur, hc⟩ := hS.out.1.spine q hq
        exact block_lt hc
      have hwr : w.heap.size ≤ wr.heap.size := hS.out.2.1.size
      have HS6 : Hid (NextSt w w6 B u5 X l O i t) := ⟨hS.out.1.called hb6, bnext hS.out.2.1 hb6, hS.out.2.2⟩
      have hp0 : PartsAt w6 B u0 y0.2 := HP0.out.keep (fun g cur fz _ hg => hb6.block g (block_lt hg))
      have hp1 : PartsAt w6 B u1 y1.2 := HP1.out.keep (fun g cur fz _ hg => hb6.block g (block_lt hg))
      have j1 : w6.cell? ⟨g, k * 2 + 1, none⟩ = some u0 := (hb6.cell (p := ⟨g, k * 2 + 1, none⟩) hg).trans k1
      have j3 : w6.cell? ⟨g, (k + 1) * 2 + 1, none⟩ = some u1 := (hb6.cell (p := ⟨g, (k + 1) * 2 + 1, none⟩) hg).trans k3
      obtain ⟨x0, c0, r0, z0, rfl, m0, n0, o0⟩ := id hp0
      obtain ⟨x1, c1, r1, z1, rfl, m1, n1, o1⟩ := id hp1
      have jp0 : w6.cell? ⟨wr.heap.size, 0, none⟩ = some (.int .i64 (y0.1 + y1.1)) := cell_of_block hq6 0
      have jp1 : w6.cell? ⟨wr.heap.size, 1, none⟩ = some (.slice none 0 0) := cell_of_block hq6 1
      have jpf : ∀ q, w6.frozen? ⟨wr.heap.size, q, none⟩ = false := unfrozen_of_block hq6
      have N0 := hid_of (parts_news hp0)
      have N1 := hid_of (parts_news hp1)
      have l0 := block_lt n0
      have l1 := block_lt n1
      have HN0 := hid_of n0
      have HN1 := hid_of n1
      have HQ6 := hid_of hq6
      have HB6 := hid_of hb6
      clear k0 k1 k2 k3 hq6 hb6 hp0 hp1 n0 n1 o0 o1 HP0 HP1 hS
      obtain ⟨i0, hi0, hz0, hz1, hz2⟩ := info_parts info_num
      have hneg : x0 ≠ wr.heap.size := by
        intro e
        have q := HN0.out
        rw [e, HQ6.out] at q
        simp at q
      have hneg1 : x1 ≠ wr.heap.size := by
        intro e
        have q := HN1.out
        rw [e, HQ6.out] at q
        simp at q
      have h20 : (0 : Int) ≤ (k : Int) := Int.natCast_nonneg _
      have h21 : (k : Int) < (l.length : Int) := by omega
      have h22 : (0 : Int) ≤ (k : Int) + 1 := by omega
      have h23 : (k : Int) + 1 < (l.length : Int) := by omega
      go_wp2_with fail
      have hgP : ¬ g = wr.heap.size := by omega
      have hgP' : ¬ wr.heap.size = g := by omega
      have HZ6 := hid_of hz6
      clear hz6
      have HPR : Hid ((pairs l).drop t = pairOf y0 y1 :: (pairs l).drop (t + 1)) := by
        have e := hkt.out
        have h := pairs_here (l := l) (t := t) (by omega)
        rw [← e, ← HY0.out, ← HY1.out] at h
        exact h
      go_cut [31] from 30 to 45 (fun _ wx => ∃ pv, Hid (PairSt w wx B wr.heap.size u5 pv X l O i t (pairOf y0 y1)))
      case first =>
        go_region_law ((first
              | (refine step_append_lies _ (by rfl) _ _ _ (by rfl) w6.heap.size 3 i0 _ 1 8 Tryz.underlying25 hi0 hz0 hz1 hz2 rfl (by omega) (.slice none 0 0) 0 [] (by rfl) (World.ownsRow_nil _ _ _ _) ⟨x0, 0, none⟩ y0.2.length c0 (y0.2.map fun (i : Nat) => Value.int .i64 (i : Int)) (by rfl) (by simp) (by exact N0.out) (by simp [Value.oneCell']) (by omega) (by unfold maxLen; omega) (by omega) (by exact Nat.le_refl _) w6.heap.size (by rfl) ?_
                 intro ga ca wa howna hgrowa hata hlta
                 have hga : Hid (ga = w6.heap.size) := by
                   rcases hata with h | h
                   · simp [Value.ownBlock] at h
                   · exact h
                 clear hata
                 have HOA := hid_of howna
                 have HGA := hid_of hgrowa
                 have hsa : w6.heap.size ≤ wa.heap.size := hgrowa.size
                 have N1a := hid_of (news_grown hgrowa l1 (by simp [Value.ownBlock]) N1.out)
                 have ja3 : wa.cell? ⟨g, (k + 1) * 2 + 1, none⟩ = some (.slice (some ⟨x1, 0, none⟩) y1.2.length c1) := by
                   have z := HZ6.out
                   rw [hgrowa.cell_far _ (by show g < w6.heap.size; omega) (by simp [Value.ownBlock])]
                   exact j3
                 clear howna hgrowa)
              | (refine step_append_lies _ (by rfl) _ _ _ (by rfl) w6.heap.size 3 i0 _ 1 8 Tryz.underlying25 hi0 hz0 hz1 hz2 rfl (by omega) (.slice (some ⟨ga, 0, none⟩) (0 + y0.2.length) ca) (0 + y0.2.length) _ (by rfl) HOA.out ⟨x1, 0, none⟩ y1.2.length c1 (y1.2.map fun (i : Nat) => Value.int .i64 (i : Int)) (by rfl) (by simp) (by exact N1a.out) (by simp [Value.oneCell']) (by omega) (by unfold maxLen; omega) (by omega) (by omega) wa.heap.size (by rfl) ?_
                 intro gb cb wb hownb hgrowb hatb hltb
                 have HOB := hid_of hownb
                 have HGB := hid_of hgrowb
                 have jb : wb.cell? ⟨wr.heap.size, 1, none⟩ = some (.slice none 0 0) := by
                   have z := HZ6.out
                   have z2 := hga.out
                   rw [hgrowb.cell_far _ (by show wr.heap.size < wa.heap.size; omega) (by simp [Value.ownBlock]; omega), HGA.out.cell_far _ (by show wr.heap.size < w6.heap.size; omega) (by simp [Value.ownBlock])]
                   exact jp1
                 have jbf : wb.frozen? ⟨wr.heap.size, 1, none⟩ = false := by
                   have z := HZ6.out
                   have z2 := hga.out
                   rw [hgrowb.frozen_far _ (by show wr.heap.size < wa.heap.size; omega) (by simp [Value.ownBlock]; omega), HGA.out.frozen_far _ (by show wr.heap.size < w6.heap.size; omega) (by simp [Value.ownBlock])]
                   exact jpf 1
                 clear hownb hgrowb hatb hltb)
              | (refine step_append_lies _ (by rfl) _ _ _ (by rfl) w6.heap.size 3 i0 _ 1 8 Tryz.underlying25 hi0 hz0 hz1 hz2 rfl (by omega) (.slice (some ⟨ga, 0, none⟩) y0.2.length ca) y0.2.length ([] ++ y0.2.map fun (i : Nat) => Value.int .i64 (i : Int)) (by rfl) (by have q := HOA.out; rw [Nat.zero_add] at q; exact q) ⟨x1, 0, none⟩ y1.2.length c1 (y1.2.map fun (i : Nat) => Value.int .i64 (i : Int)) (by rfl) (by simp) (by exact N1a.out) (by simp [Value.oneCell']) (by omega) (by unfold maxLen; omega) (by omega) (by omega) wa.heap.size (by rfl) ?_
                 intro gb cb wb hownb hgrowb' hatb hltb
                 have hgrowb : wa.grownBy wb (Value.ownBlock (.slice (some ⟨ga, 0, none⟩) (0 + y0.2.length) ca)) := hgrowb'
                 have HOB : Hid (wb.ownsRow w6.heap.size 3 1 (.slice (some ⟨gb, 0, none⟩) (0 + y0.2.length + y1.2.length) cb) (0 + y0.2.length + y1.2.length) ([] ++ (y0.2.map fun (i : Nat) => Value.int .i64 (i : Int)) ++ (y1.2.map fun (i : Nat) => Value.int .i64 (i : Int)))) := by
                   show wb.ownsRow _ _ _ _ _ _
                   rw [Nat.zero_add]
                   exact hownb
                 have HGB := hid_of hgrowb
                 have jb : wb.cell? ⟨wr.heap.size, 1, none⟩ = some (.slice none 0 0) := by
                   have z := HZ6.out
                   have z2 := hga.out
                   rw [hgrowb.cell_far _ (by show wr.heap.size < wa.heap.size; omega) (by simp [Value.ownBlock]; omega), HGA.out.cell_far _ (by show wr.heap.size < w6.heap.size; omega) (by simp [Value.ownBlock])]
                   exact jp1
                 have jbf : wb.frozen? ⟨wr.heap.size, 1, none⟩ = false := by
                   have z := HZ6.out
                   have z2 := hga.out
                   rw [hgrowb.frozen_far _ (by show wr.heap.size < wa.heap.size; omega) (by simp [Value.ownBlock]; omega), HGA.out.frozen_far _ (by show wr.heap.size < w6.heap.size; omega) (by simp [Value.ownBlock])]
                   exact jpf 1
                 clear hownb hgrowb hgrowb' hatb hltb)))
        all_goals
          go_wp2_with fail
          go_meet
          case rel => exact ⟨_, pair_made HS6.out hB hwr HSP.out HQ6.out HGA.out hga.out HGB.out HOB.out⟩
      case rest =>
        obtain ⟨pv, HPS⟩ := hcut
        obtain ⟨P, hP⟩ : ∃ P, P = wr.heap.size := ⟨_, rfl⟩
        rw [← hP] at HPS ⊢
        have hpb : 0 ≤ (pairOf y0 y1).1 ∧ (pairOf y0 y1).1 ≤ 2000000000 := by
          show 0 ≤ y0.1 + y1.1 ∧ y0.1 + y1.1 ≤ 2000000000
          omega
        generalize pairOf y0 y1 = p at HPS HPR hpb
        clear hP HZ6 HN0 HN1 HQ6 HB6 N0 N1 HS6 HSP j1 j3 jp0 jp1 jpf l0 l1 hneg hneg1 hgP hgP' HY0 HY1 hi0 hz0 hz1 hz2 m0 m1 hwr
        go_wp2_with fail
        go_loopw [5, 6] (fun v x w' => ∃ (i' : Nat) (O' : List Coin), i' ≤ X.length ∧ x = .int .i64 i' ∧ Hid (PairSt w w' B P v pv X l O' i' t p)) (fun _ x _ => X.length - (intOf x).toNat)
        case atStart => exact ⟨i, O, hi, rfl, HPS⟩
        case round =>
          clear HPS
          obtain ⟨i', O', hi', rfl, hQ⟩ := hrel
          have hPc0 : wr.cell? ⟨P, 0, none⟩ = some (.int .i64 p.1) := cell_of_block hQ.out.2.1 0
          have hPc1 : wr.cell? ⟨P, 1, none⟩ = some pv := cell_of_block hQ.out.2.1 1
          have hPl := block_lt hQ.out.2.1
          have hOl := hQ.out.1.2.2.2
          have hsw := hQ.out.1.2.1.size
          have htb : t ≤ 1000 := by have := hkt.out; omega
          by_cases hx : i' < X.length
          · obtain ⟨gx, capx, ux, hvx, hgx, kx0, kx1, hpx⟩ := (HX.out.called hQ.out.1.2.1).get i' hx
            obtain ⟨rfl, rfl⟩ : af = some ⟨gx, 0, none⟩ ∧ cf = capx := by simpa using hvx
            have bx := HSX.out i' hx
            have HPX := hid_of hpx
            have dx : decide ((i' : Int) < (X.length : Int)) = true := by simpa using hx
            obtain ⟨x, hxe⟩ : ∃ x, x = X.getD i' (0, []) := ⟨_, rfl⟩
            have HXE := hid_of hxe
            rw [← hxe] at kx0 bx HPX
            clear hvx hpx hxe
            by_cases hle : x.1 ≤ p.1
            · have dl : decide (x.1 ≤ p.1) = true := by simpa using hle
              have HM1 : Hid (O' ++ [x] ++ merge (X.drop (i' + 1)) ((pairs l).drop t) = merge X (pairs l)) := by
                have h := hQ.out.1.2.2.1
                rw [HPR.out] at h
                show O' ++ [x] ++ merge (X.drop (i' + 1)) ((pairs l).drop t) = merge X (pairs l)
                rw [HPR.out, HXE.out]
                exact merge_x hx (by rw [← HXE.out]; exact hle) h
              go_wp2_with fail
              go_quiet (fail)
              go_wp2_with (at_builtin; refine items_append (S := w.heap.size) (B := B) (xs := O') (ys := [x]) (vs := [ux]) rfl _ _ rfl rfl (hQ.out.1.1.lay _ _) (some ⟨wr.heap.size, 0, none⟩) 1 1 rfl rfl rfl (one_part (HPX.out.lay _ _)) (news_item _ x ux) (fun h => by cases h) (by simp; omega) (by simp; omega) ?_)
              intro v' w' hI hg hat
              have HT := hid_of ((hQ.out.drewN _).taken hI hg hat HM1.out)
              clear hI hg hat
              go_wp2_with fail
              go_roundw
              case rel => exact ⟨i' + 1, O' ++ [x], by omega, by go_num, HT⟩
              case measure => simp [intOf]; omega
            · have dl : decide (x.1 ≤ p.1) = false := by simpa using hle
              have HM1 : Hid (O' ++ [p] ++ merge (X.drop i') ((pairs l).drop (t + 1)) = merge X (pairs l)) := by
                have h := hQ.out.1.2.2.1
                rw [HPR.out] at h
                exact merge_y (fun q => by rw [← HXE.out] at q; exact hle q.2) h
              go_wp2_with fail
              go_quiet (fail)
              go_wp2_with (at_builtin; refine items_append (S := w.heap.size) (B := B) (xs := O') (ys := [p]) (vs := [pv]) rfl _ _ rfl rfl (hQ.out.1.1.lay _ _) (some ⟨wr.heap.size, 0, none⟩) 1 1 rfl rfl rfl (one_part (hQ.out.2.2.1.lay _ _)) (news_item _ p pv) (fun h => by cases h) (by simp; omega) (by simp; omega) ?_)
              intro v' w' hI hg hat
              have HT := hid_of ((hQ.out.drewN _).closed hI hg HM1.out)
              clear hI hg hat
              go_wp2_with fail
              go_roundw
              case rel => exact ⟨i', t + 1, k + 2, O' ++ [p], hi', by omega, rfl, by go_num, by have := hkt.out; show k + 2 = 2 * (t + 1); omega, HT⟩
              case measure => simp [intOf]; omega
          · have dx : decide ((i' : Int) < (X.length : Int)) = false := by simpa using hx
            have HM1 : Hid (O' ++ [p] ++ merge (X.drop i') ((pairs l).drop (t + 1)) = merge X (pairs l)) := by
              have h := hQ.out.1.2.2.1
              rw [HPR.out] at h
              exact merge_y (fun q => hx q.1) h
            go_wp2_with fail
            go_quiet (fail)
            go_wp2_with (at_builtin; refine items_append (S := w.heap.size) (B := B) (xs := O') (ys := [p]) (vs := [pv]) rfl _ _ rfl rfl (hQ.out.1.1.lay _ _) (some ⟨wr.heap.size, 0, none⟩) 1 1 rfl rfl rfl (one_part (hQ.out.2.2.1.lay _ _)) (news_item _ p pv) (fun h => by cases h) (by simp; omega) (by simp; omega) ?_)
            intro v' w' hI hg hat
            have HT := hid_of ((hQ.out.drewN _).closed hI hg HM1.out)
            clear hI hg hat
            go_wp2_with fail
            go_roundw
            case rel => exact ⟨i', t + 1, k + 2, O' ++ [p], hi', by omega, rfl, by go_num, by have := hkt.out; show k + 2 = 2 * (t + 1); omega, HT⟩
            case measure => simp [intOf]; omega
    · have d14 : decide ((k : Int) + 1 < (l.length : Int)) = false := by simp; omega
      have q1 : IntKind.i64.wrap ((k : Int) + 1) = (k : Int) + 1 := by rw [IntKind.wrap_i64]; omega
      have hsw := hS.out.2.1.size
      have hOl := hS.out.2.2.2
      have HM : Hid (O ++ X.drop i = merge X (pairs l)) := by
        have h := hS.out.2.2.1
        have e := hkt.out
        rw [pairs_done (by omega), merge_nil_right] at h
        exact h
      have htb : t ≤ 1000 := by have := hkt.out; omega
      have hX1 := HX.out.called hS.out.2.1
      obtain ⟨us, hu1, hu2, hu3⟩ := hX1
      rcases hu2.2 with ⟨hnil, hn0⟩ | ⟨gx, capx, cur, hvx, _, hgx, hcx, _⟩
      · obtain ⟨rfl, hX0, rfl⟩ : af = none ∧ X.length = 0 ∧ cf = 0 := by simpa using hnil
        obtain rfl : X = [] := List.eq_nil_of_length_eq_zero hX0
        obtain rfl : i = 0 := by simpa using hi
        clear hnil hn0 hu1 hu2 hu3 us hX0
        go_wp2_with (at_builtin; refine items_append (S := w.heap.size) (B := B) (xs := O) (ys := []) (vs := []) rfl _ _ rfl rfl hS.out.1 none 0 0 rfl rfl rfl (fun q hq => absurd hq (Nat.not_lt_zero q)) (fun ad h => by cases h) (fun _ => ⟨rfl, rfl⟩) (by simp; omega) hsw ?_)
        intro v' w' hI hg hat
        have HT := hid_of (NextSt.done hS.out (by simpa using hI) hg HM.out)
        clear hI hg hat
        go_wp2_with fail
        go_ret
        exact ⟨v', rfl, HT.out.1, HT.out.2⟩
      · obtain ⟨rfl, rfl⟩ : af = some ⟨gx, 0, none⟩ ∧ cf = capx := by simpa using hvx
        have HU2 := hid_of hu2
        have HU3 := hid_of hu3
        have HU1 := hid_of hu1
        clear hvx hu2 hu3 hu1
        by_cases hci : cf = i
        · have hxi : X.length = i := by omega
          have HXI := hid_of hxi
          have e1 : (cf == i) = true := by simpa using hci
          clear hxi
          subst hci
          have HE : Hid (X.drop cf = []) := List.drop_eq_nil_of_le (by rw [HXI.out]; exact Nat.le_refl _)
          go_wp2_with (at_builtin; refine items_append (S := w.heap.size) (B := B) (xs := O) (ys := []) (vs := []) rfl _ _ rfl rfl hS.out.1 (some ⟨gx, 0, none⟩) 0 0 rfl rfl rfl (fun q hq => absurd hq (Nat.not_lt_zero q)) (fun ad _ j q hq => by cases hq) (fun h => by cases h) (by simp; omega) hsw ?_)
          intro v' w' hI hg hat
          have HT := hid_of (NextSt.done hS.out (by rw [HE.out]; simpa using hI) hg HM.out)
          clear hI hg hat
          go_wp2_with fail
          go_ret
          exact ⟨v', rfl, HT.out.1, HT.out.2⟩
        · go_wp2_with (at_builtin; refine items_append (S := w.heap.size) (B := B) (xs := O) (ys := X.drop i) (vs := us.drop i) rfl _ _ rfl rfl hS.out.1 (some ⟨gx, i * 2, none⟩) (X.length - i) (cf - i) rfl (by simp) (by rw [List.length_drop, List.length_drop, HU1.out]) (parts_from HU1.out HU3.out i) (news_from HU1.out HU2.out i) (fun h => by cases h) (by simp; omega) hsw ?_)
          intro v' w' hI hg hat
          have HT := hid_of (NextSt.done hS.out hI hg HM.out)
          clear hI hg hat
          go_wp2_with fail
          go_ret
          exact ⟨v', rfl, HT.out.1, HT.out.2⟩
end Go.Proofs.YtklpiihnbokkkaaGreatDoor
