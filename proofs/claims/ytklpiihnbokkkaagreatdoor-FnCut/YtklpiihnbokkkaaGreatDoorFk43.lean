/-
  Texts of the proof, put together.
-/
import Derived.Test.YtklpiihnbokkkaaGreatDoorFk42
namespace Go.Proofs.YtklpiihnbokkkaaGreatDoor
open Go.RowKit Go.Joins OutMath TokMath TrimMath TellMath TokLenMath BlockMath PartMath BodyMath WovenMath
theorem own_pcame {w:World} {e:TypeId} {S N g cap:Nat} {P:List Part} (h:w.ownsRow S e 3 (.slice (some ⟨g,0,none⟩) N cap) N (pcells P)) (hN:P.length=N):PCame w (some ⟨g,0,none⟩) P:=by
 subst hN
 obtain⟨a,c,hv,_,_,_,hp,_⟩:=pcame_of_own h rfl
 cases hv
 exact hp
theorem lit_came (w:World) (e:TypeId) (p:Part) (n:Nat) (hn:w.heap.size=n):PCame (w.alloc (.cells #[.int .i64 p.1,.int .i64 (p.2.1:Int),.bool p.2.2] e)) (some ⟨n,0,none⟩) [p]:=by
 subst hn
 have h:=heap_alloc_new w (.cells #[.int .i64 p.1,.int .i64 (p.2.1:Int),.bool p.2.2] e)
 refine .inr ⟨w.heap.size,0,rfl,block_lt h,fun j hj=>?_⟩
 obtain rfl:j=0:=by simpa using hj
 exact⟨(cell_of_block h 0).trans rfl,(cell_of_block h 1).trans rfl,(cell_of_block h 2).trans rfl⟩
theorem concat_three (A0 A1 A2:Addr) (k0 k1 k2 N0 N1 N2 sb:Nat) (P0 P1 P2:List Part) (W:World) (t:TypeId) (hsb:W.heap.size=sb) (h0:PCame W (some A0) P0) (h1:PCame W (some A1) P1) (h2:PCame W (some A2) P2) (e0:P0.length=N0) (e1:P1.length=N1) (e2:P2.length=N2) (b0:1≤N0) (m0:N0≤60000) (m1:N1≤60000) (m2:N2≤60000):
  Calls Tryz.prog 133 #[.slice (some ⟨sb,0,none⟩) 3 3] (W.alloc (.cells #[.slice (some A0) N0 k0,.slice (some A1) N1 k1,.slice (some A2) N2 k2] t)) fun e w'=>∃ g c,e=.returned (.slice (some ⟨g,0,none⟩) (N0+N1+N2) c)∧PCame w' (some ⟨g,0,none⟩) (P0 ++ P1 ++ P2)∧Below W.heap.size W w':=by
 subst hsb e0 e1 e2
 have hn:=heap_alloc_new W (.cells #[.slice (some A0) P0.length k0,.slice (some A1) P1.length k1,.slice (some A2) P2.length k2] t)
 have hb:=bstart W (.cells #[.slice (some A0) P0.length k0,.slice (some A1) P1.length k1,.slice (some A2) P2.length k2] t)
 generalize W.alloc _=X at hn hb
 have hT:ThreeP X W.heap.size (fun i=>if i=0 then A0 else if i=1 then A1 else A2) (fun i=>if i=0 then k0 else if i=1 then k1 else k2) (fun i=>if i=0 then P0 else if i=1 then P1 else P2):=by
  refine⟨block_lt hn,fun i hi=>?_,fun i hi=>?_,fun i hi=>?_⟩
  ·rw[cell_of_block hn i]
   rcases (show i=0∨i=1∨i=2 by omega) with rfl | rfl | rfl <;> simp
  ·rcases (show i=0∨i=1∨i=2 by omega) with rfl | rfl | rfl
   ·exact h0.called hb
   ·exact h1.called hb
   ·exact h2.called hb
  ·rcases (show i=0∨i=1∨i=2 by omega) with rfl | rfl | rfl
   ·exact m0
   ·exact m1
   ·exact m2
 have hc:catP (fun i=>if i=0 then P0 else if i=1 then P1 else P2) 3=P0 ++ P1 ++ P2:=rfl
 have hl:(catP (fun i=>if i=0 then P0 else if i=1 then P1 else P2) 3).length=P0.length+P1.length+P2.length:=by rw [hc,List.length_append,List.length_append]
 refine (concat_parts W.heap.size 3 _ _ _ X hT (by rw [hl]; omega)).mono ?_
 rintro e w' ⟨g,c,rfl,hr,hb2⟩
 rw[hl] at hr ⊢
 exact⟨g,c,rfl,own_pcame hr hl,bnext hb hb2⟩
theorem lensP_length {L:List Tok}:3≤(lensP L).length∧(lensP L).length≤654:=by
 have h1:=(toldN_bd (runsW L))
 have h2:=runsW_length L
 have h3:=runsP_length (runsW L) (runsW L)
 have h4:(toldP (runsW L)).length=toldN (runsW L):=by simp [toldP]
 have h5:(wovenHead L).length=3:=rfl
 unfold lensP
 rw[List.length_append,List.length_append]
 omega
set_option maxRecDepth 100000 in
set_option maxHeartbeats 6400000 in
theorem woven_in (s:ByteArray) (c:Int) (a:Option Addr) (cp:Nat) (L:List Tok) (last:Bool) (w:World) (hs:s.size≤1048576) (hc1:-9223372036854775808≤c) (hc2:c≤9223372036854775807) (hC:TCame w a L.length (fun j=>L.getD j (0,0,0))) (hR:TokensRight L) (hG:OrderG w):
  Calls Tryz.prog 88 #[.agg #[.string s,.int .i64 c],.slice a L.length cp,.bool last] w fun e w'=>e=.returned (blkAns (wovenOut s c L last))∧Below w.heap.size w w':=by
 have HX:=hid_of (SBx.start w s c)
 have HC:=hid_of hC
 have HG:=hid_of hG
 have HR:=hid_of hR
 have e1:wovenOut s c L last=(outSt s c).bind fun o=>bitsOut o (partBits ([headP 2 last] ++ lensP L ++ symsP (lenA L) (sizeA L) (lenB L) (sizeB L) (symsL L ++ [(false,(256,0,0))]))):=by
  unfold wovenOut
  rw[if_pos hR]
  congr 1
  funext o
  rw[partBits_app,partBits_app,partBits_one,headP_bits (by omega),progP_bits,List.append_assoc]
 have hRt:∀ p∈[headP 2 last] ++ lensP L ++ symsP (lenA L) (sizeA L) (lenB L) (sizeB L) (symsL L ++ [(false,(256,0,0))]),Right p:=by
  intro p hp
  rcases List.mem_append.mp hp with hp | hp
  ·rcases List.mem_append.mp hp with hp | hp
   ·rw[List.mem_singleton.mp hp]
    exact headP_right (by omega) last
   ·exact lensP_right hR p hp
  ·exact (woven_body hR).progR p hp
 have hlen:(symsP (lenA L) (sizeA L) (lenB L) (sizeB L) (symsL L ++ [(false,(256,0,0))])).length≤60000∧0 < (symsP (lenA L) (sizeA L) (lenB L) (sizeB L) (symsL L ++ [(false,(256,0,0))])).length:=by
  rw[symsP_length,List.length_append,List.length_singleton]
  have:=symsL_length L
  have:=hR.1
  omega
 have hll:=lensP_length (L:=L)
 have hE:BodyOk (lenA L) (sizeA L) (lenB L) (sizeB L) []:=⟨(woven_body hR).c1,(woven_body hR).e1,(woven_body hR).m2,(woven_body hR).w2,(fun t ht=>by cases ht),(fun t ht=>by cases ht),(fun t ht=>by cases ht)⟩
 have hB1:∀ t∈L,TokRight t→BodyOk (lenA L) (sizeA L) (lenB L) (sizeB L) [t]:=fun t ht _=>⟨(woven_body hR).c1,(woven_body hR).e1,(woven_body hR).m2,(woven_body hR).w2,(fun u hu=>by rw [List.mem_singleton.mp hu]; exact hR.2 t ht),(fun u hu=>by rw [List.mem_singleton.mp hu]; exact (woven_body hR).s1 t ht),(fun u hu=>by rw [List.mem_singleton.mp hu]; exact (woven_body hR).s2 t ht)⟩
 have HTP:Hid (∀ W a1 a2 k1 k2,TCame W a L.length (fun j=>L.getD j (0,0,0))→Came W a1 (sizeA L) (lenA L)→Came W a2 (sizeB L) (lenB L)→Calls Tryz.prog 83 #[.slice a L.length cp,.slice a1 (sizeA L) k1,.slice a2 (sizeB L) k2] W fun e w'=>∃ g3 k3,e=.returned (.tuple #[.slice (some ⟨g3,0,none⟩) (symsP (lenA L) (sizeA L) (lenB L) (sizeB L) (symsL L ++ [(false,(256,0,0))])).length k3,.bool true])∧PCame w' (some ⟨g3,0,none⟩) (symsP (lenA L) (sizeA L) (lenB L) (sizeB L) (symsL L ++ [(false,(256,0,0))]))∧Below W.heap.size W w'):=by
  intro W a1 a2 k1 k2 q1 q2 q3
  refine (tokenParts_any a a1 a2 cp k1 k2 (lenA L) (lenB L) (sizeA L) (sizeB L) L W q1 q2 q3 hR.1 hE hB1).mono ?_
  rintro e w' ⟨hy,_,hB⟩
  obtain⟨v,rfl,ho⟩:=hy hR.2
  obtain⟨g3,k3,rfl⟩:=own_slice ho hlen.2
  exact⟨g3,k3,rfl,own_pcame ho rfl,hB⟩
 have HLP:Hid (∀ W a1 a2 k1 k2,(Came W a1 (sizeA L) (lenA L)∧Came W a2 (sizeB L) (lenB L)∧OrderG W)→Calls Tryz.prog 134 #[.slice a1 (sizeA L) k1,.slice a2 (sizeB L) k2] W fun e w'=>∃ g3 k3,e=.returned (.slice (some ⟨g3,0,none⟩) (lensP L).length k3)∧PCame w' (some ⟨g3,0,none⟩) (lensP L)∧Below W.heap.size W w'):=by
  intro W a1 a2 k1 k2 q
  refine (lengthParts_any a1 a2 k1 k2 L W q.1 q.2.1 hR q.2.2).mono ?_
  rintro e w' ⟨v,rfl,ho,hB⟩
  obtain⟨g3,k3,rfl⟩:=own_slice ho (by omega)
  exact⟨g3,k3,rfl,own_pcame ho rfl,hB⟩
 have HTL:Hid (∀ W,TCame W a L.length (fun j=>L.getD j (0,0,0))→Calls Tryz.prog 132 #[.slice a L.length cp] W fun e w'=>∃ a1 c1 a2 c2,e=.returned (.tuple #[.slice a1 (sizeA L) c1,.slice a2 (sizeB L) c2,.bool true])∧Came w' a1 (sizeA L) (lenA L)∧Came w' a2 (sizeB L) (lenB L)∧Below W.heap.size W w'):=by
  intro W hC
  refine ((tokLen_answer a cp L W hC (by have:=hR.1; omega)).1 hR).mono ?_
  rintro e w' ⟨a1,c1,a2,c2,rfl,q1,q2,_,hB⟩
  exact⟨a1,c1,a2,c2,rfl,q1.came,q2.came,hB⟩
 have HRR:Hid (∀ p∈[headP 2 last] ++ lensP L ++ symsP (lenA L) (sizeA L) (lenB L) (sizeB L) (symsL L ++ [(false,(256,0,0))]),Right p):=hRt
 have HE1:=hid_of e1
 clear hC hG hR e1 hRt hE hB1
 generalize symsP (lenA L) (sizeA L) (lenB L) (sizeB L) (symsL L ++ [(false,(256,0,0))])=P at *
 generalize hNL:(lensP L).length=NL at *
 generalize hNP:P.length=NP at *
 have HNL:=hid_of hNL
 have HNP:=hid_of hNP
 clear hNL hNP
 obtain⟨tt,nn,bb,he⟩:=blkAns_form ((outSt s c).bind fun o=>bitsOut o (partBits ([headP 2 last] ++ lensP L ++ P)))
 have HWP:Hid (∀ (W:World) (g' cap':Nat),PCame W (some ⟨g',0,none⟩) ([headP 2 last] ++ lensP L ++ P)→Calls Tryz.prog 77 #[.agg #[.string s,.int .i64 c],.slice (some ⟨g',0,none⟩) (1+NL+NP) cap'] W fun e w'=>e=.returned (.tuple #[.agg #[.string tt,.int .i64 nn],.bool bb])∧Below W.heap.size W w'):=by
  intro W g' cap' hp
  have hl:([headP 2 last] ++ lensP L ++ P).length=1+NL+NP:=by rw [List.length_append,List.length_append,HNL.out,HNP.out]; rfl
  have h:=withParts_any s c (some ⟨g',0,none⟩) cap' ([headP 2 last] ++ lensP L ++ P) W hp HRR.out (by rw [hl]; omega) (by unfold maxLen; omega) hc1 hc2
  rw[he,hl] at h
  exact h
 have HCC:Hid (∀ (W:World) (g0 g1 g3 k1 k3 sb:Nat) (t:TypeId),W.heap.size=sb→PCame W (some ⟨g0,0,none⟩) [headP 2 last]→PCame W (some ⟨g1,0,none⟩) (lensP L)→PCame W (some ⟨g3,0,none⟩) P→Calls Tryz.prog 133 #[.slice (some ⟨sb,0,none⟩) 3 3] (W.alloc (.cells #[.slice (some ⟨g0,0,none⟩) 1 1,.slice (some ⟨g1,0,none⟩) NL k1,.slice (some ⟨g3,0,none⟩) NP k3] t)) fun e w'=>∃ g c,e=.returned (.slice (some ⟨g,0,none⟩) (1+NL+NP) c)∧PCame w' (some ⟨g,0,none⟩) ([headP 2 last] ++ lensP L ++ P)∧Below W.heap.size W w'):=by
  intro W g0 g1 g3 k1 k3 sb t q0 q1 q2 q3
  exact concat_three ⟨g0,0,none⟩ ⟨g1,0,none⟩ ⟨g3,0,none⟩ 1 k1 k3 1 NL NP sb [headP 2 last] (lensP L) P W t q0 q1 q2 q3 rfl HNL.out HNP.out (by omega) (by omega) (by omega) (by omega)
 have HE2:Hid (blkAns (wovenOut s c L last)=.tuple #[.agg #[.string tt,.int .i64 nn],.bool bb]):=by
  show _=_
  rw[HE1.out,he]
 clear he HE1 HRR
 generalize hnA:sizeA L=nA at *
 generalize hnB:sizeB L=nB at *
 clear hnA hnB
 go_enter Tryz.func88,Tryz.ntmps88
 go_wp2_with fail
 generalize (w.alloc _).alloc _=X at HX ⊢
 refine (HTL.out X (HC.out.called HX.out.1)).mono ?_
 rintro e w1 ⟨a1,k1,a2,k2,rfl,q1,q2,b1⟩
 have HX1:=hid_of (HX.out.called b1)
 have HA1:=hid_of (And.intro (q1.called (Below.refl _ _)) (q2.called (Below.refl _ _)))
 clear q1 q2 b1 HX HTL
 go_wp2_with fail
 refine (HTP.out w1 a1 a2 k1 k2 (HC.out.called HX1.out.1) HA1.out.1 HA1.out.2).mono ?_
 rintro e w2 ⟨g3,k3,rfl,p2,b2⟩
 have HX2:=hid_of (HX1.out.called b2)
 have HP2:=hid_of p2
 have HA2:Hid (Came w2 a1 nA (lenA L)∧Came w2 a2 nB (lenB L)∧OrderG w2):=⟨HA1.out.1.called b2,HA1.out.2.called b2,HG.out.below HX2.out.1 HG.out.1⟩
 clear p2 b2 HX1 HA1 HTP HC HG
 obtain⟨x0,x1,xl⟩:=HX2.out.cells
 go_wp2_with fail
 go_region_held_law (fun u=>u.cell? ⟨w.heap.size,0,none⟩=some (.string s)∧u.cell? ⟨w.heap.size,1,none⟩=some (.int .i64 c)) (first | go_keep | (refine⟨?_,?_⟩ <;> first | assumption | go_keep | (simp [*]; done))) (first | (go_at_call 75; refine (headPart_any 2 last _ (by omega)).mono ?_; rintro e w' ⟨rfl,hB⟩; have HXW:=hid_of (SBx.called (X:=w2.drew) (by exact HX2.out.drew) hB); have HPW:=hid_of (PCame.called (w:=w2.drew) (by exact HP2.out) hB); have HAW:Hid (Came w' a1 nA (lenA L)∧Came w' a2 nB (lenB L)∧OrderG w'):=⟨Came.called (w:=w2.drew) (by exact HA2.out.1) hB,Came.called (w:=w2.drew) (by exact HA2.out.2.1) hB,OrderG.below (w:=w2.drew) (by exact HA2.out.2.2) hB (by exact HA2.out.2.2.1)⟩; have hcw:=HXW.out.cells; have x0':=hcw.1; have x1':=hcw.2.1; clear hB hcw) | (go_at_call 134; guard_target=Calls Tryz.prog _ _ (World.alloc _ _) _; refine (HLP.out (w'.alloc _) a1 a2 k1 k2 ⟨HAW.out.1.called (bstart _ _),HAW.out.2.1.called (bstart _ _),HAW.out.2.2.below (bstart _ _) HAW.out.2.2.1⟩).mono ?_; rintro e u ⟨g5,k5,rfl,p5,b5⟩; have HX5:=hid_of (HXW.out.called (bnext (bstart w' _) b5)); have HP5:=hid_of (HPW.out.called (bnext (bstart w' _) b5)); have HL5:=hid_of p5; have HI5:Hid (PCame u (some ⟨w'.heap.size,0,none⟩) [headP 2 last]):=PCame.called (lit_came w' _ (headP 2 last) _ rfl) b5; have hc5:=HX5.out.cells; have y0:=hc5.1; have y1:=hc5.2.1; clear p5 b5 hc5) | (go_at_call 134; refine (HLP.out w' a1 a2 k1 k2 HAW.out).mono ?_; rintro e u ⟨g5,k5,rfl,p5,b5⟩; have HX5:=hid_of (HXW.out.called b5); have HP5:=hid_of (HPW.out.called b5); have HL5:=hid_of p5; have hc5:=HX5.out.cells; have y0:=hc5.1; have y1:=hc5.2.1; clear p5 b5 hc5) | (go_at_call 133; refine (HCC.out u w'.heap.size g5 g3 k5 k3 _ _ rfl HI5.out HL5.out HP5.out).mono ?_; rintro e u2 ⟨g6,k6,rfl,p6,b6⟩; have HX6:=hid_of (HX5.out.called b6); have HP6:=hid_of p6; have hc6:=HX6.out.cells; have v0:=hc6.1; have v1:=hc6.2.1; clear p6 b6 hc6) | (go_at_call 133; refine (HCC.out (u.alloc (.cells #[.int .i64 (headP 2 last).1,.int .i64 3,.bool false] 115)) u.heap.size g5 g3 k5 k3 _ _ (by simp) (lit_came u _ (headP 2 last) _ rfl) (HL5.out.called (bstart _ _)) (HP5.out.called (bstart _ _))).mono ?_; rintro e u2 ⟨g6,k6,rfl,p6,b6⟩; have HX6:=hid_of (HX5.out.called (bnext (bstart u _) b6)); have HP6:=hid_of p6; have hc6:=HX6.out.cells; have v0:=hc6.1; have v1:=hc6.2.1; clear p6 b6 hc6) | (go_at_call 77; refine (HWP.out u2 g6 k6 HP6.out).mono ?_; rintro e w4 ⟨rfl,hB4⟩; have HX7:=hid_of (HX6.out.called hB4); have hc4:=HX7.out.cells; have u0:=hc4.1; have u1:=hc4.2.1; have hr4:=HX7.out.res; have z0:=hr4.1; have z1:=hr4.2.1; have zf:=hr4.2.2.1; have zl:=hr4.2.2.2; clear hB4 hc4 hr4))
 all_goals
  go_wp2_with fail
  refine bodyPost_ret (v:=.tuple #[.agg #[.string tt,.int .i64 nn],.bool bb]) ?_ rfl ⟨by rw [HE2.out],?_⟩
  ·simp[results,Tryz.results88,go_sem,z0,z1]
  ·exact two_below HX7.out.1 (Nat.le_succ _) _ _
set_option maxHeartbeats 800000 in
theorem woven_answer:WovenAnswer:=by
 intro s c a cp L last w hs hc1 hc2 hC hL hG
 by_cases hR:TokensRight L
 ·exact woven_in s c a cp L last w hs hc1 hc2 hC hR hG
 ·have e1:wovenOut s c L last=none:=if_neg hR
  rw[e1]
  have HX:=hid_of (SBx.start w s c)
  have HTL:Hid (∀ W,TCame W a L.length (fun j=>L.getD j (0,0,0))→Calls Tryz.prog 132 #[.slice a L.length cp] W fun e w'=>e=.returned (.tuple #[.slice none 0 0,.slice none 0 0,.bool false])∧Below W.heap.size W w'):=fun W hC=>(tokLen_answer a cp L W hC hL).2 hR
  have HC:=hid_of hC
  clear hC hG
  go_enter Tryz.func88,Tryz.ntmps88
  go_wp2_with fail
  generalize (w.alloc _).alloc _=X at HX ⊢
  refine (HTL.out X (HC.out.called HX.out.1)).mono ?_
  rintro e w1 ⟨rfl,b1⟩
  have HX1:=hid_of (HX.out.called b1)
  clear b1 HX HTL HC
  obtain⟨z0,z1,zf,zl⟩:=HX1.out.res
  go_wp2_with fail
  refine bodyPost_ret (v:=.tuple #[.agg #[.string ⟨#[]⟩,.int .i64 0],.bool false]) ?_ rfl ⟨rfl,two_below HX1.out.1 (Nat.le_succ _) _ _⟩
  simp[results,Tryz.results88,go_sem,z0,z1]
end Go.Proofs.YtklpiihnbokkkaaGreatDoor

namespace Go.Proofs.YtklpiihnbokkkaaGreatDoor
open Go.RowKit Go.Joins TokMath
section
variable {w0 w w':World} {base g n cap:Nat} {L:List Tok}
end
theorem news_tk (w:World) (x y z:Int) (n:Nat) (h:w.heap.size=n):∀ q u,(tcells [(x,y,z)])[q]?=some u→(w.alloc (.cells #[.int .i64 x,.int .i64 y,.int .i64 z] 105)).cell? ((⟨n,0,none⟩:Addr).add q)=some u:=by
 subst h
 exact World.news_of_block (cs:=#[.int .i64 x,.int .i64 y,.int .i64 z]) (t:=105) (fr:=(0,0)) (heap_alloc_new w _)
end Go.Proofs.YtklpiihnbokkkaaGreatDoor

namespace Go.Proofs.YtklpiihnbokkkaaGreatDoor
open Go.RowKit Go.Maps Go.WideMaps
open Go.ChangeMaps (setBlock heap_setBlock_same heap_setBlock_other modify_eq_set)
abbrev kv (a b c:Nat):Value:=.agg #[.int .u8 (a:Int),.int .u8 (b:Int),.int .u8 (c:Int)]
theorem arr3:ArrKey Tryz.prog 179 5 3:=⟨Tryz.underlying179,by kernel_rfl,by kernel_rfl,by kernel_rfl⟩
theorem some_types:∃ m,Tryz.prog.types.size=m+1:=by
 have h:decide (0 < Tryz.prog.types.size)=true:=by kernel_rfl
 have:=of_decide_eq_true h
 exact⟨Tryz.prog.types.size - 1,by omega⟩
theorem keyOf_three {a b c:Nat} (ha:a < 256) (hb:b < 256) (hc:c < 256):∃ l,keyOf Tryz.prog 179 (kv a b c)=some l:=by
 have hkt:=arr3.keyType some_types
 obtain⟨m,hm⟩:=some_types
 have wf:∀ x:Nat,x < 256→(Lit.int .u8 (x:Int)).wf=true:=fun x hx=>by
  simp[Lit.wf,IntKind.min,IntKind.max,IntKind.signed,IntKind.bits]
  omega
 have wa:=wf a ha
 have wb:=wf b hb
 have wc:=wf c hc
 refine⟨.string (keyBytes [.int .u8 (a:Int),.int .u8 (b:Int),.int .u8 (c:Int)]),?_⟩
 unfold keyOf
 simp only [arr3.hu]
 rw[if_pos (by simp [hkt,Value.formed,arr3.hu,arr3.size]),hm]
 unfold Program.keyLits
 simp only [arr3.hu,Value.cells]
 rw[if_pos (by rw [arr3.size]; rfl),show List.range 3=[0,1,2] from rfl,List.mapM_cons,List.mapM_cons,List.mapM_cons,List.mapM_nil]
 simp[arr3.one,Program.keyLits,Tryz.underlying5,wa,wb,wc]
theorem key3:Keyed Tryz.prog 179:=Keyed.of_law arr3.law
theorem kv_inj {a b c a' b' c':Nat} (h:kv a b c=kv a' b' c'):a=a'∧b=b'∧c=c':=by
 simp only [kv,Value.agg.injEq,Array.mk.injEq,List.cons.injEq,Value.int.injEq,and_true,true_and] at h
 omega
def putG (G:Nat→Nat→Nat→Value) (a b c:Nat) (v:Value):Nat→Nat→Nat→Value:=fun x y z=>if x=a∧y=b∧z=c then v else G x y z
theorem putG_same (G:Nat→Nat→Nat→Value) (a b c:Nat) (v:Value):putG G a b c v a b c=v:=by simp [putG]
theorem putG_other (G:Nat→Nat→Nat→Value) {a b c:Nat} (v:Value) {x y z:Nat} (h:¬ (x=a∧y=b∧z=c)):putG G a b c v x y z=G x y z:=by unfold putG; rw [if_neg h]
def KM (w:World) (M:Nat) (G:Nat→Nat→Nat→Value):Prop:=
 ∃ es clock,w.heap[M]?=some (.map es clock)∧es.toList.Pairwise (fun x y=>x.key≠y.key)∧(∀ e∈es.toList,∃ a b c,a < 256∧b < 256∧c < 256∧e.key=kv a b c∧e.val=G a b c)∧
  ∀ a b c,a < 256→b < 256→c < 256→(∀ e∈es.toList,e.key≠kv a b c)→G a b c=.slice none 0 0
section
variable {w w':World} {M:Nat} {G:Nat→Nat→Nat→Value}
theorem KM.lt (h:KM w M G):M < w.heap.size:=by
 obtain⟨es,clock,h1,_⟩:=h
 exact block_lt h1
theorem KM.keep (h:KM w M G) (hk:w'.heap[M]?=w.heap[M]?):KM w' M G:=by
 obtain⟨es,clock,h1,h2⟩:=h
 exact⟨es,clock,hk.trans h1,h2⟩
theorem KM.called (h:KM w M G) (hb:Below w.heap.size w w'):KM w' M G:=h.keep (hb.block M h.lt)
theorem KM.grown {row:Option Nat} (h:KM w M G) (hg:w.grownBy w' row) (hne:row≠some M):KM w' M G:=h.keep (hg.block M h.lt (Ne.symm hne))
theorem KM.made (w:World):KM (w.alloc (.map #[] 0)) w.heap.size (fun _ _ _=>.slice none 0 0):=
 ⟨#[],0,heap_alloc_new w _,by simp,by simp,fun _ _ _ _ _ _ _=>rfl⟩
theorem KM.keys {es:Array MapEntry} (h:∀ e∈es.toList,∃ a b c,a < 256∧b < 256∧c < 256∧e.key=kv a b c∧e.val=G a b c):∀ e∈es.toList,∃ l,keyOf Tryz.prog 179 e.key=some l:=fun e he=>by
 obtain⟨a,b,c,ha,hb,hc,hk,_⟩:=h e he
 rw[hk]
 exact keyOf_three ha hb hc
theorem KM.look (h:KM w M G) {a b c:Nat} (ha:a < 256) (hb:b < 256) (hc:c < 256):(Instr.lookup 176 (.map (some M)) (kv a b c) false).run Tryz.prog w=.ok (G a b c) w:=by
 obtain⟨es,clock,h1,h2,h3,h4⟩:=h
 obtain⟨kl,hkey⟩:=keyOf_three ha hb hc
 rcases key3.find w hkey es.toList (KM.keys h3) with ⟨f1,f2⟩ | ⟨j,e0,f1,f2,f3⟩
 ·rw[h4 a b c ha hb hc f2]
  simp[Instr.lookup,run_underlying Tryz.underlying176,MapKept.run_getObj_map h1,key3.check w _ hkey,f1,Result.andThen]
 ·have hm0:e0∈es.toList:=List.mem_of_getElem? f2
  obtain⟨a',b',c',_,_,_,hk,hv⟩:=h3 e0 hm0
  obtain⟨rfl,rfl,rfl⟩:=kv_inj (f3.symm.trans hk)
  rw[← hv]
  simp[Instr.lookup,run_underlying Tryz.underlying176,MapKept.run_getObj_map h1,key3.check w _ hkey,f1,Result.andThen]
theorem KM.store (h:KM w M G) {a b c:Nat} (ha:a < 256) (hb:b < 256) (hc:c < 256) (v:Value):∃ w2,(Instr.mapUpdate 176 (.map (some M)) (kv a b c) v).run Tryz.prog w=.ok () w2∧KM w2 M (putG G a b c v)∧w.grownBy w2 (some M):=by
 obtain⟨es,clock,h1,h2,h3,h4⟩:=h
 obtain⟨kl,hkey⟩:=keyOf_three ha hb hc
 have hg:∀ o,w.grownBy (setBlock w M o) (some M):=fun o=>⟨rfl,rfl,rfl,by simp [setBlock],fun i _ hi=>heap_setBlock_other h1 _ (fun e1=>hi (by rw [e1]))⟩
 rcases key3.find w hkey es.toList (KM.keys h3) with ⟨f1,f2⟩ | ⟨j,e0,f1,f2,f3⟩
 ·refine⟨setBlock w M (.map (es.push ⟨kv a b c,v,clock⟩) (clock+1)),?_,⟨_,_,heap_setBlock_same h1 _,?_,fun e he=>?_,fun x y z hx hy hz hno=>?_⟩,hg _⟩
  ·simp[Instr.mapUpdate,run_underlying Tryz.underlying176,MapKept.run_getObj_map h1,key3.check w false hkey,f1,MapKept.run_setObj_map _ h1,Result.andThen,setBlock]
  ·rw[Array.toList_push,List.pairwise_append]
   refine⟨h2,List.pairwise_singleton _ _,fun x hx y hy=>?_⟩
   rw[List.mem_singleton.mp hy]
   exact f2 x hx
  ·rw[Array.toList_push] at he
   rcases List.mem_append.mp he with he | he
   ·obtain⟨a',b',c',k1,k2,k3,k4,k5⟩:=h3 e he
    refine⟨a',b',c',k1,k2,k3,k4,?_⟩
    rw[putG_other G v (fun q=>f2 e he (by rw [k4,q.1,q.2.1,q.2.2]))]
    exact k5
   ·rw[List.mem_singleton.mp he]
    exact⟨a,b,c,ha,hb,hc,rfl,(putG_same G a b c v).symm⟩
  ·rw[Array.toList_push] at hno
   rw[putG_other G v (fun q=>hno ⟨kv a b c,v,clock⟩ (List.mem_append_right _ (List.mem_singleton.mpr rfl)) (by rw [q.1,q.2.1,q.2.2]))]
   exact h4 x y z hx hy hz (fun e he=>hno e (List.mem_append_left _ he))
 ·have hj:es[j]?=some e0:=by simpa using f2
  have hjl:j < es.toList.length:=(List.getElem?_eq_some_iff.1 f2).1
  have hlist:(es.modify j (fun e'=>{ e' with key:=kv a b c,val:=v })).toList=es.toList.set j { e0 with key:=kv a b c,val:=v }:=by rw [Array.toList_modify,modify_eq_set _ _ _ _ f2]
  have hkeys:(es.toList.set j { e0 with key:=kv a b c,val:=v }).map (·.key)=es.toList.map (·.key):=by
   rw[List.map_set]
   refine List.ext_getElem (by simp) fun i q1 q2=>?_
   rw[List.getElem_set]
   split
   ·rename_i e
    subst e
    rw[List.getElem_map]
    have:=List.getElem?_eq_getElem hjl
    rw[f2] at this
    rw[← Option.some.inj this]
    exact f3.symm
   ·rfl
  have hne:∀ i (hi:i < es.toList.length),i≠j→(es.toList[i]'hi).key≠kv a b c:=fun i hi hij=>by
   have e1:(es.toList[j]'hjl)=e0:=by
    have:=List.getElem?_eq_getElem hjl
    rw[f2] at this
    exact (Option.some.inj this).symm
   rw[← f3,← e1]
   rcases Nat.lt_or_ge i j with q | q
   ·exact List.pairwise_iff_getElem.mp h2 i j hi hjl q
   ·exact Ne.symm (List.pairwise_iff_getElem.mp h2 j i hjl hi (by omega))
  refine⟨setBlock w M (.map (es.modify j (fun e'=>{ e' with key:=kv a b c,val:=v })) clock),?_,⟨_,_,heap_setBlock_same h1 _,?_,fun e he=>?_,fun x y z hx hy hz hno=>?_⟩,hg _⟩
  ·simp[Instr.mapUpdate,run_underlying Tryz.underlying176,MapKept.run_getObj_map h1,key3.check w false hkey,f1,hj,f3,key3.stays w hkey,MapKept.run_setObj_map _ h1,Result.andThen,setBlock]
  ·rw[hlist]
   have p1:(es.toList.map (·.key)).Pairwise (fun x y=>x≠y):=List.pairwise_map.mpr h2
   rw[← hkeys] at p1
   exact List.pairwise_map.mp p1
  ·rw[hlist] at he
   obtain⟨i,hi,ex⟩:=List.getElem_of_mem he
   rw[List.getElem_set] at ex
   split at ex
   ·rw[← ex]
    exact⟨a,b,c,ha,hb,hc,rfl,(putG_same G a b c v).symm⟩
   ·rename_i hij
    have hi':i < es.toList.length:=by simpa using hi
    obtain⟨a',b',c',k1,k2,k3,k4,k5⟩:=h3 _ (List.getElem_mem hi')
    refine⟨a',b',c',k1,k2,k3,by rw [← ex]; exact k4,?_⟩
    rw[putG_other G v (fun q=>hne i hi' (fun e=>hij e.symm) (by rw [k4,q.1,q.2.1,q.2.2])),← ex]
    exact k5
  ·rw[hlist] at hno
   have hmem:∀ k,(∃ e∈es.toList,e.key=k)→∃ e∈es.toList.set j { e0 with key:=kv a b c,val:=v },e.key=k:=fun k ⟨e,he,hk⟩=>by
    have:k∈(es.toList.set j { e0 with key:=kv a b c,val:=v }).map (·.key):=by
     rw[hkeys]
     exact List.mem_map.mpr ⟨e,he,hk⟩
    obtain⟨e',he',hk'⟩:=List.mem_map.mp this
    exact⟨e',he',hk'⟩
   have hold:∀ e∈es.toList,e.key≠kv x y z:=fun e he hk=>by
    obtain⟨e',he',hk'⟩:=hmem _ ⟨e,he,hk⟩
    exact hno e' he' hk'
   rw[putG_other G v (fun q=>hold e0 (List.mem_of_getElem? f2) (by rw [f3,q.1,q.2.1,q.2.2]))]
   exact h4 x y z hx hy hz hold
end
end Go.Proofs.YtklpiihnbokkkaaGreatDoor
namespace Go.Proofs.YtklpiihnbokkkaaGreatDoor.SearchMath
open TokMath
def occ (f:Nat→Nat) (a b c:Nat):Nat→List Nat
 | 0=>[]
 | K+1=>if f K=a∧f (K+1)=b∧f (K+2)=c then occ f a b c K ++ [K] else occ f a b c K
def occAt (f:Nat→Nat) (i K:Nat):List Nat:=occ f (f i) (f (i+1)) (f (i+2)) K
section
variable {f:Nat→Nat} {N:Nat}
theorem occ_lt {a b c:Nat}:∀ {K k:Nat},k∈occ f a b c K→k < K
 | 0,_,h=>by cases h
 | K+1,k,h=>by
  unfold occ at h
  split at h
  ·rcases List.mem_append.mp h with h | h
   ·have:=occ_lt h
    omega
   ·rw[List.mem_singleton.mp h]
    exact Nat.lt_succ_self K
  ·have:=occ_lt h
   omega
theorem occ_length_le {a b c:Nat} (K:Nat):(occ f a b c K).length≤K:=by
 induction K with
 | zero=>exact Nat.le_refl _
 | succ K this=>
  unfold occ
  split
  ·rw[List.length_append,List.length_singleton]
   omega
  ·omega
theorem occ_here (i:Nat):occAt f i (i+1)=occAt f i i ++ [i]:=by
 unfold occAt
 rw[occ,if_pos ⟨rfl,rfl,rfl⟩]
theorem occ_step {a b c K:Nat} (h:¬ (f K=a∧f (K+1)=b∧f (K+2)=c)):occ f a b c (K+1)=occ f a b c K:=by
 rw[occ,if_neg h]
theorem occ_more {a b c:Nat} (d K:Nat):∃ r,occ f a b c (K+d)=occ f a b c K ++ r:=by
 induction d with
 | zero=>exact⟨[],by simp⟩
 | succ d ih=>
  obtain⟨r,hr⟩:=ih
  rw[show K+(d+1)=K+d+1 by omega,occ]
  split
  ·exact⟨r ++ [K+d],by rw [hr,List.append_assoc]⟩
  ·exact⟨r,hr⟩
theorem occ_take {a b c k K:Nat} (h:k≤K):(occ f a b c k).length≤(occ f a b c K).length∧∀ j,j < (occ f a b c k).length→(occ f a b c K).getD j 0=(occ f a b c k).getD j 0:=by
 obtain⟨d,rfl⟩:=Nat.exists_eq_add_of_le h
 obtain⟨r,hr⟩:=occ_more (f:=f) (a:=a) (b:=b) (c:=c) d k
 rw[hr]
 refine⟨by rw [List.length_append]; omega,fun j hj=>?_⟩
 rw[List.getD_eq_getElem?_getD,List.getD_eq_getElem?_getD,List.getElem?_append_left hj]
theorem occ_pos {i K:Nat} (h:i < K):0 < (occAt f i K).length:=by
 have h1:=(occ_take (f:=f) (a:=f i) (b:=f (i+1)) (c:=f (i+2)) (k:=i+1) (K:=K) h).1
 have h2:=congrArg List.length (occ_here (f:=f) i)
 rw[List.length_append,List.length_singleton] at h2
 unfold occAt at h2 ⊢
 omega
theorem places_occ {at':Nat} (h:at'+2 < N):∀ K,places f N at' K=(occAt f at' K).reverse
 | 0=>rfl
 | K+1=>by
  have ih:=places_occ h K
  unfold occAt at ih ⊢
  rw[places,occ]
  by_cases q:f K=f at'∧f (K+1)=f (at'+1)∧f (K+2)=f (at'+2)
  ·rw[if_pos (show Three f N K at' from ⟨h,q⟩),if_pos q,ih,List.reverse_append]
   rfl
  ·rw[if_neg (fun k:Three f N K at'=>q k.2),if_neg q,ih]
theorem pick_app (at':Nat):∀ (l r:List Nat) (b d:Nat),pick f N at' (l ++ r) b d=pick f N at' r (pick f N at' l b d).1 (pick f N at' l b d).2
 | [],r,b,d=>rfl
 | k :: l,r,b,d=>by
  rw[List.cons_append,pick,pick]
  split
  ·exact pick_app at' l r _ _
  ·exact pick_app at' l r b d
theorem common_room (a b:Nat) (hb:b < N):common f N a b 258≤N - b:=by
 rcases Nat.eq_zero_or_pos (common f N a b 258) with h | h
 ·omega
 ·have:=(common_same (f:=f) (N:=N) 258 a b (common f N a b 258 - 1) (by omega)).1
  omega
theorem pick_full {at':Nat} (hat:at' < N):∀ (l:List Nat) (b d:Nat),min 258 (N - at')≤b→pick f N at' l b d=(b,d)
 | [],_,_,_=>rfl
 | k :: l,b,d,h=>by
  have h1:=common_le (f:=f) (N:=N) 258 k at'
  have h2:=common_room (f:=f) k at' hat
  rw[pick,if_neg (by omega)]
  exact pick_full hat l b d h
theorem places_last {at' c:Nat} (h:at'+2 < N):(places f N at' at').take c=(List.range ((occAt f at' at').length - ((occAt f at' at').length - c))).map fun j=>(occAt f at' at').getD ((occAt f at' at').length - 1 - j) 0:=by
 rw[places_occ h]
 refine List.ext_getElem ?_ fun j h1 h2=>?_
 ·rw[List.length_take,List.length_reverse,List.length_map,List.length_range]
  omega
 ·rw[List.length_map,List.length_range] at h2
  rw[List.getElem_take,List.getElem_reverse,List.getElem_map,List.getElem_range,List.getD_eq_getElem?_getD,List.getElem?_eq_getElem (by omega)]
  rfl
theorem common_run {a b n:Nat} (hb:b < N) (hn:n≤min 258 (N - b)) (h:∀ i,i < n→f (a+i)=f (b+i)) (hs:n=min 258 (N - b)∨f (a+n)≠f (b+n)):common f N a b 258=n:=by
 refine common_eq (by omega) (fun i hi=>⟨by omega,h i hi⟩) ?_
 rcases hs with q | q
 ·rcases Nat.lt_or_ge (N - b) 258 with k | k
  ·exact .inr (fun e=>by omega)
  ·exact .inl (by omega)
 ·exact .inr (fun e=>q e.2)
theorem common_short (a b:Nat) (hb:b < N):common f N a b (min 258 (N - b))=common f N a b 258:=by
 have h1:=common_le (f:=f) (N:=N) (min 258 (N - b)) a b
 have h2:=common_same (f:=f) (N:=N) (min 258 (N - b)) a b
 have h3:=common_stop (f:=f) (N:=N) (min 258 (N - b)) a b
 generalize common f N a b (min 258 (N - b))=n at *
 refine (common_run hb h1 (fun i hi=>(h2 i hi).2) ?_).symm
 by_cases q:n=min 258 (N - b)
 ·exact .inl q
 ·rcases h3 with k | k
  ·exact .inl k
  ·exact .inr (fun e=>k ⟨by omega,e⟩)
theorem pick_more {at' m k b d:Nat} {l:List Nat} (hat:at' < N) (hm:m=min 258 (N - at')) (h:pick f N at' l 0 0=(b,d)):pick f N at' (l ++ [k]) 0 0=if b < common f N k at' m then (common f N k at' m,at' - k) else (b,d):=by
 rw[pick_app,h,hm,common_short _ _ hat]
 show (if b < common f N k at' 258 then pick f N at' [] _ _ else pick f N at' [] b d)=_
 split <;> rfl
theorem pick_stop {at' m n k b d:Nat} {g:Nat→Nat} (hat:at' < N) (hm:m=min 258 (N - at')) (hk:k≤n) (h:pick f N at' ((List.range k).map g) 0 0=(b,d)) (hb:b=m):pick f N at' ((List.range n).map g) 0 0=(b,d):=by
 obtain⟨e,rfl⟩:=Nat.exists_eq_add_of_le hk
 rw[List.range_add,List.map_append,pick_app,h]
 exact pick_full hat _ _ _ (by omega)
end
end Go.Proofs.YtklpiihnbokkkaaGreatDoor.SearchMath
namespace Go.Proofs.YtklpiihnbokkkaaGreatDoor
open Go.RowKit SearchMath
def MtCells (w:World) (p:Nat) (s:ByteArray) (c:Nat) (M:Nat) (a:Option Addr) (n cap:Nat):Prop:=
 w.cell? ⟨p,0,none⟩=some (.string s)∧w.cell? ⟨p,1,none⟩=some (.int .i64 (c:Int))∧w.cell? ⟨p,2,none⟩=some (.map (some M))∧w.cell? ⟨p,3,none⟩=some (.slice a n cap)∧p < w.heap.size
def MtList (w:World) (s:ByteArray) (v:Value) (i:Nat):Prop:=∃ g cap,v=.slice (some ⟨g,0,none⟩) (occAt (txt s) i (s.size - 2)).length cap∧(occAt (txt s) i (s.size - 2)).length≤cap∧g < w.heap.size∧∀ j,j < (occAt (txt s) i (s.size - 2)).length→w.cell? ⟨g,j,none⟩=some (.int .i64 ((occAt (txt s) i (s.size - 2)).getD j 0:Nat))
def Mt (w:World) (p:Nat) (s:ByteArray) (c:Nat):Prop:=
 ∃ M a cap G,MtCells w p s c M a (s.size - 2) cap∧s.size - 2≤cap∧Came w a (s.size - 2) (fun i=>((occAt (txt s) i i).length:Nat))∧KM w M G∧∀ i,i+2 < s.size→MtList w s (G (txt s i) (txt s (i+1)) (txt s (i+2))) i
section
variable {w w':World} {p:Nat} {s:ByteArray} {c:Nat}
theorem MtCells.called {M:Nat} {a:Option Addr} {n cap:Nat} (h:MtCells w p s c M a n cap) (hb:Below w.heap.size w w'):MtCells w' p s c M a n cap:=by
 obtain⟨h0,h1,h2,h3,h4⟩:=h
 exact⟨(hb.cell (p:=⟨p,0,none⟩) h4).trans h0,(hb.cell (p:=⟨p,1,none⟩) h4).trans h1,(hb.cell (p:=⟨p,2,none⟩) h4).trans h2,(hb.cell (p:=⟨p,3,none⟩) h4).trans h3,Nat.lt_of_lt_of_le h4 hb.size⟩
theorem Mt.called (h:Mt w p s c) (hb:Below w.heap.size w w'):Mt w' p s c:=by
 obtain⟨M,a,cap,G,h1,h2,h3,h4,h5⟩:=h
 refine⟨M,a,cap,G,h1.called hb,h2,h3.called hb,h4.called hb,fun i hi=>?_⟩
 obtain⟨g,cp,e1,e2,e3,e4⟩:=h5 i hi
 exact⟨g,cp,e1,e2,Nat.lt_of_lt_of_le e3 hb.size,fun j hj=>(hb.cell (p:=⟨g,j,none⟩) e3).trans (e4 j hj)⟩
theorem Mt.text (h:Mt w p s c):w.cell? ⟨p,0,none⟩=some (.string s)∧p < w.heap.size:=by
 obtain⟨M,a,cap,G,h1,_⟩:=h
 exact⟨h1.1,h1.2.2.2.2⟩
end
end Go.Proofs.YtklpiihnbokkkaaGreatDoor
namespace Go.Proofs.YtklpiihnbokkkaaGreatDoor
open Go.RowKit
def IR (w:World) (base:Nat) (v:Value) (zs:List Int):Prop:=w.ownsRow base 3 1 v zs.length (zs.map (Value.int .i64))
section
variable {w w':World} {base:Nat} {v:Value} {zs:List Int}
theorem IR.nil (w:World) (base:Nat):IR w base (.slice none 0 0) []:=World.ownsRow_nil _ _ _ _
theorem IR.kept {row:Option Nat} (h:IR w base v zs) (hg:w.grownBy w' row) (hne:v.ownBlock=none∨v.ownBlock≠row):IR w' base v zs:=World.ownsRow.kept h hg hne
theorem IR.alloc (h:IR w base v zs) (o:Obj):IR (w.alloc o) base v zs:=World.ownsRow.alloc h o
theorem IR.lt (h:IR w base v zs) {k:Nat} (e:v.ownBlock=some k):base≤k∧k < w.heap.size:=World.ownsRow.lt h k e
theorem IR.form (h:IR w base v zs):∃ a c,v=.slice a zs.length c:=by
 rcases h.2 with ⟨rfl,h0⟩ | ⟨g,cap,cur,rfl,_⟩
 ·exact⟨none,0,by rw [h0]⟩
 ·exact⟨_,cap,rfl⟩
theorem IR.room (h:IR w base v zs) {a:Option Addr} {n c:Nat} (e:v=.slice a n c):zs.length≤c:=by
 rcases h.2 with ⟨rfl,h0⟩ | ⟨g,cap,cur,rfl,_,_,hn,_⟩
 ·omega
 ·cases e
  exact hn
theorem IR.cells (h:IR w base v zs) (hn:0 < zs.length):∃ g cap,v=.slice (some ⟨g,0,none⟩) zs.length cap∧zs.length≤cap∧g < w.heap.size∧∀ j,j < zs.length→w.cell? ⟨g,j,none⟩=some (.int .i64 (zs.getD j 0)):=by
 have h':w.ownsRow base 3 1 v zs.length (zs.map (Value.int .i64)):=h
 obtain⟨g,cap,rfl,hb,hg⟩:=World.ownsRow.form h' hn
 refine⟨g,cap,rfl,h.room rfl,hg,fun j hj=>?_⟩
 rw[World.ownsRow.cellAt h' j (by omega),List.getElem?_map,List.getElem?_eq_getElem hj,List.getD_eq_getElem?_getD,List.getElem?_eq_getElem hj]
 rfl
end
def Rws (w:World) (base:Nat) (P:Nat→Nat→Nat→List Int) (LA:List Int) (G:Nat→Nat→Nat→Value) (va:Value):Prop:=
 (∀ x y z,IR w base (G x y z) (P x y z))∧IR w base va LA∧(∀ x y z x' y' z',¬ (x=x'∧y=y'∧z=z')→(G x y z).ownBlock=none∨(G x y z).ownBlock≠(G x' y' z').ownBlock)∧∀ x y z,(G x y z).ownBlock=none∨(G x y z).ownBlock≠va.ownBlock
section
variable {w w':World} {base:Nat} {P:Nat→Nat→Nat→List Int} {LA:List Int} {G:Nat→Nat→Nat→Value} {va:Value}
theorem Rws.start (w:World) (base:Nat):Rws w base (fun _ _ _=>[]) [] (fun _ _ _=>.slice none 0 0) (.slice none 0 0):=
 ⟨fun _ _ _=>IR.nil _ _,IR.nil _ _,fun _ _ _ _ _ _ _=>.inl rfl,fun _ _ _=>.inl rfl⟩
theorem Rws.grown {row:Option Nat} (h:Rws w base P LA G va) (hg:w.grownBy w' row) (hr:∀ k,row=some k→k < base∨w.heap.size≤k):Rws w' base P LA G va:=by
 have key:∀ {v zs},IR w base v zs→v.ownBlock=none∨v.ownBlock≠row:=fun {v zs} hv=>by
  cases e:v.ownBlock with
  | none=>exact .inl rfl
  | some k=>
   refine .inr (fun e1=>?_)
   have h1:=hv.lt e
   have h2:=hr k e1.symm
   omega
 exact⟨fun x y z=>(h.1 x y z).kept hg (key (h.1 x y z)),h.2.1.kept hg (key h.2.1),h.2.2.1,h.2.2.2⟩
theorem Rws.called (h:Rws w base P LA G va) (hb:Below w.heap.size w w'):Rws w' base P LA G va:=
 h.grown (row:=none) ⟨hb.os,hb.tape,hb.output,hb.size,fun k hk _=>hb.block k hk⟩ (fun k e=>by cases e)
theorem Rws.ahead {va':Value} {LA':List Int} {o:Obj} (h:Rws w base P LA G va) (hg:(w.alloc o).grownBy w' va.ownBlock) (hv:IR w' base va' LA') (hl:va'.ownBlock=va.ownBlock∨∃ g,va'.ownBlock=some g∧w.heap.size≤g):Rws w' base P LA' G va':=by
 refine⟨fun x y z=>((h.1 x y z).alloc o).kept hg (h.2.2.2 x y z),hv,h.2.2.1,fun x y z=>?_⟩
 rcases hl with e | ⟨g,e,hgl⟩
 ·rw[e]
  exact h.2.2.2 x y z
 ·cases q:(G x y z).ownBlock with
  | none=>exact .inl rfl
  | some k=>
   refine .inr (fun e1=>?_)
   rw[e] at e1
   have:=((h.1 x y z).lt q).2
   cases e1
   omega
theorem Rws.put {a b c:Nat} {v':Value} {P':Nat→Nat→Nat→List Int} {o:Obj} (h:Rws w base P LA G va) (hg:(w.alloc o).grownBy w' (G a b c).ownBlock) (hv:IR w' base v' (P' a b c)) (hP:∀ x y z,¬ (x=a∧y=b∧z=c)→P' x y z=P x y z) (hl:v'.ownBlock=(G a b c).ownBlock∨∃ g,v'.ownBlock=some g∧w.heap.size≤g):
  Rws w' base P' LA (putG G a b c v') va:=by
 have apart:∀ {v zs},IR w base v zs→(v.ownBlock=none∨v.ownBlock≠(G a b c).ownBlock)→v.ownBlock=none∨v.ownBlock≠v'.ownBlock:=fun {v zs} hvz hne=>by
  rcases hl with e | ⟨g,e,hgl⟩
  ·rw[e]
   exact hne
  ·cases q:v.ownBlock with
   | none=>exact .inl rfl
   | some k=>
    refine .inr (fun e1=>?_)
    rw[e] at e1
    have:=(hvz.lt q).2
    cases e1
    omega
 have flip:∀ {u u':Option Nat},(u=none∨u≠u')→(u'=none∨u'≠u):=fun {u u'} k=>by
  cases u' with
  | none=>exact .inl rfl
  | some q=>
   refine .inr (fun e=>?_)
   rcases k with k | k
   ·rw[k] at e
    cases e
   ·exact k e.symm
 refine⟨fun x y z=>?_,(h.2.1.alloc o).kept hg (flip (h.2.2.2 a b c)),fun x y z x' y' z' hne=>?_,fun x y z=>?_⟩
 ·by_cases q:x=a∧y=b∧z=c
  ·rw[q.1,q.2.1,q.2.2,putG_same]
   exact hv
  ·rw[hP x y z q,putG_other G v' q]
   exact ((h.1 x y z).alloc o).kept hg (h.2.2.1 x y z a b c q)
 ·by_cases q:x=a∧y=b∧z=c
  ·have q':¬ (x'=a∧y'=b∧z'=c):=fun k=>hne ⟨q.1.trans k.1.symm,q.2.1.trans k.2.1.symm,q.2.2.trans k.2.2.symm⟩
   rw[putG_other G v' q',q.1,q.2.1,q.2.2,putG_same]
   exact flip (apart (h.1 x' y' z') (h.2.2.1 x' y' z' a b c q'))
  ·rw[putG_other G v' q]
   by_cases q':x'=a∧y'=b∧z'=c
   ·rw[q'.1,q'.2.1,q'.2.2,putG_same]
    exact apart (h.1 x y z) (h.2.2.1 x y z a b c q)
   ·rw[putG_other G v' q']
    exact h.2.2.1 x y z x' y' z' hne
 ·by_cases q:x=a∧y=b∧z=c
  ·rw[q.1,q.2.1,q.2.2,putG_same]
   exact flip (apart h.2.1 (flip (h.2.2.2 a b c)))
  ·rw[putG_other G v' q]
   exact h.2.2.2 x y z
end
end Go.Proofs.YtklpiihnbokkkaaGreatDoor
