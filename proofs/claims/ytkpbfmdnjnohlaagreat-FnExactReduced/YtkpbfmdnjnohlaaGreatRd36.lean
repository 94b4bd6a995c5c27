/-
  Texts of the proof, put together.
-/
import Derived.Test.YtkpbfmdnjnohlaaGreatRd07
import Derived.Test.YtkpbfmdnjnohlaaGreatRd35
namespace Go.Proofs.YtkpbfmdnjnohlaaGreat
open Go.RowKit Go.Joins OutMath PutMath RastMath HeadMath ChunkMath
set_option maxRecDepth 100000 in
set_option maxHeartbeats 6400000 in
theorem FnExactReduced_over
  (hx:∀ p q w,PngIn w p q→PngSz p→Calls Tryz.prog 21 #[pngV p q] w (RedPost p w))
  (hy:∀ p q w,PngIn w p q→PngSz p→Calls Tryz.prog 22 #[pngV p q] w (RedPost p w))
  (p:Pic) (q:PicA) (w:World) (hP:PngIn w p q) (ht:p.tn≤maxLen) (hc:p.cn≤maxLen) (hs:p.sn≤maxLen) (hk:p.kn≤maxLen) (hm:∀ i,i < p.kn→(p.K i).1.size≤maxLen∧(p.K i).2.size≤maxLen):
  Calls Tryz.prog 7 #[pngV p q] w fun e w'=>e=.returned (.bool true)∧Below w.heap.size w w':=by
 have hsz:=fun W h=>szPng_any p q W h ht hc hs hk hm
 have hto:=fun W h hz=>toPng_any p q W h hz
 have heq:=fun r1 r2 W h1 h2 hz=>eqPng_same p r1 r2 W h1 h2 hz
 have hmk:=fun base gt gc gs gk W hO hZ=>markPng_any p base gt gc gs gk 1 W hO hZ (by omega)
 have hx1:=fun r W h hz=>hx p r W h hz
 have hy1:=fun r W h hz=>hy p r W h hz
 have h1m:=fun hZ=>red_one p hZ
 clear ht hc hs hk hm hx hy
 have HP:=hid_of hP
 clear hP
 obtain⟨hw,hh,hd,hc',lace,tn,T,cn,C,rw',rh,rc,rd,sn,S,kn,K⟩:=p
 obtain⟨ta,tc,ca,cc,sa,sc,ka,kc⟩:=q
 simp only [pngV,picA] at hsz hto heq hx1 hy1 hmk ⊢
 have H0:Hid (LBox w (w.alloc (.cells #[.int .i64 hw,.int .i64 hh,.int .i64 hd,.int .i64 hc',.bool lace,.slice ta tn tc,.slice ca cn cc,.int .i64 rw',.int .i64 rh,.int .i64 rc,.int .i64 rd,.slice sa sn sc,.slice ka kn kc] 30)) #[.int .i64 hw,.int .i64 hh,.int .i64 hd,.int .i64 hc',.bool lace,.slice ta tn tc,.slice ca cn cc,.int .i64 rw',.int .i64 rh,.int .i64 rc,.int .i64 rd,.slice sa sn sc,.slice ka kn kc]):=⟨heap_alloc_new w _,bstart w _⟩
 go_enter Tryz.func7,Tryz.ntmps7
 go_wp2_with fail
 refine (hsz _ (HP.out.called H0.out.2)).mono ?_
 rintro e w1 ⟨z,rfl,hz,hB⟩
 have H1:=hid_of (H0.out.called hB)
 clear hB H0 hsz
 rcases hz with hz | ⟨hz,hZ⟩
 ·have dz:decide (z < 0)=true:=decide_eq_true hz
  clear hz
  go_wp2_with fail
  go_ret
  exact⟨rfl,H1.out.2⟩
 have dz:decide (z < 0)=false:=decide_eq_false (by omega)
 have HZ:=hid_of hZ
 clear hz
 obtain⟨m,hmz,hM⟩:=h1m hZ
 clear h1m hZ
 have hem:=fun r1 r2 W h1 h2=>eqPng_same m r1 r2 W h1 h2 hmz
 have hmm:=fun q base W h=>markPng_sl m q base 1 W h hmz (by omega)
 have hhm:=fun q W h=>heldPng_any m q 1 W h hmz (by omega)
 clear hmz
 obtain⟨mw,mh,md,mc,ml,mtn,MT,mcn,MC,mrw,mrh,mrc,mrd,msn,MS,mkn,MK⟩:=m
 simp only [pngV] at hM hem hmm hhm
 have la:=block_lt H1.out.1
 obtain⟨a0,a1,a2,a3,a4,a5,a6,a7,a8,a9,a10,a11,a12⟩:=zqc H1.out.1
 go_wp2_with fail
 clear la a0 a1 a2 a3 a4 a5 a6 a7 a8 a9 a10 a11 a12
 refine (hto _ (HP.out.called H1.out.2) HZ.out).mono ?_
 rintro e w2 ⟨gt1,gc1,gs1,gk1,he,hO,hB⟩
 simp only [pngV,picA] at he
 subst he
 have H2:=hid_of (H1.out.called hB)
 have O2:=hid_of hO
 clear hB hO H1
 go_wp2_with fail
 refine (hx1 (picA ⟨hw,hh,hd,hc',lace,tn,T,cn,C,rw',rh,rc,rd,sn,S,kn,K⟩ gt1 gc1 gs1 gk1) _ (O2.out.lie HZ.out) HZ.out).mono ?_
 intro e w3 hpost
 obtain⟨qa,rfl,hS,hB⟩:=hM _ _ _ hpost
 have H3:=hid_of (H2.out.called hB)
 have SA:=hid_of hS.at_
 have OO:Hid (w.heap.size < w2.heap.size∧w.heap.size < w3.heap.size):=⟨block_lt H2.out.1,block_lt H3.out.1⟩
 clear hB hS hpost H2 O2
 have la:=block_lt H3.out.1
 obtain⟨a0,a1,a2,a3,a4,a5,a6,a7,a8,a9,a10,a11,a12⟩:=zqc H3.out.1
 go_wp2_with fail
 clear la a0 a1 a2 a3 a4 a5 a6 a7 a8 a9 a10 a11 a12
 have H4:Hid (LBox w (w3.alloc (.cells #[.int .i64 mw,.int .i64 mh,.int .i64 md,.int .i64 mc,.bool ml,.slice qa.ta mtn qa.tc,.slice qa.ca mcn qa.cc,.int .i64 mrw,.int .i64 mrh,.int .i64 mrc,.int .i64 mrd,.slice qa.sa msn qa.sc,.slice qa.ka mkn qa.kc] 37)) #[.int .i64 hw,.int .i64 hh,.int .i64 hd,.int .i64 hc',.bool lace,.slice ta tn tc,.slice ca cn cc,.int .i64 rw',.int .i64 rh,.int .i64 rc,.int .i64 rd,.slice sa sn sc,.slice ka kn kc]):=hid_of (H3.out.called (bstart _ _))
 have Z4:Hid (BoxAt (w3.alloc (.cells #[.int .i64 mw,.int .i64 mh,.int .i64 md,.int .i64 mc,.bool ml,.slice qa.ta mtn qa.tc,.slice qa.ca mcn qa.cc,.int .i64 mrw,.int .i64 mrh,.int .i64 mrc,.int .i64 mrd,.slice qa.sa msn qa.sc,.slice qa.ka mkn qa.kc] 37)) w3.heap.size #[.int .i64 mw,.int .i64 mh,.int .i64 md,.int .i64 mc,.bool ml,.slice qa.ta mtn qa.tc,.slice qa.ca mcn qa.cc,.int .i64 mrw,.int .i64 mrh,.int .i64 mrc,.int .i64 mrd,.slice qa.sa msn qa.sc,.slice qa.ka mkn qa.kc]):=hid_of (heap_alloc_new _ _)
 have SA4:Hid (PngAt (w3.alloc (.cells #[.int .i64 mw,.int .i64 mh,.int .i64 md,.int .i64 mc,.bool ml,.slice qa.ta mtn qa.tc,.slice qa.ca mcn qa.cc,.int .i64 mrw,.int .i64 mrh,.int .i64 mrc,.int .i64 mrd,.slice qa.sa msn qa.sc,.slice qa.ka mkn qa.kc] 37)) w2.heap.size w3.heap.size ⟨mw,mh,md,mc,ml,mtn,MT,mcn,MC,mrw,mrh,mrc,mrd,msn,MS,mkn,MK⟩ qa):=hid_of (SA.out.stay fun g _ h=>(bstart _ _).block g h)
 generalize w3.alloc (.cells #[.int .i64 mw,.int .i64 mh,.int .i64 md,.int .i64 mc,.bool ml,.slice qa.ta mtn qa.tc,.slice qa.ca mcn qa.cc,.int .i64 mrw,.int .i64 mrh,.int .i64 mrc,.int .i64 mrd,.slice qa.sa msn qa.sc,.slice qa.ka mkn qa.kc] 37)=w4 at H4 Z4 SA4 ⊢
 generalize w3.heap.size=Y4 at Z4 SA4 OO ⊢
 generalize w2.heap.size=b0 at SA4 OO
 clear H3 SA
 refine (hto _ (HP.out.called H4.out.2) HZ.out).mono ?_
 rintro e w5 ⟨gt2,gc2,gs2,gk2,he,hO,hB⟩
 simp only [pngV,picA] at he
 subst he
 have H5:=hid_of (H4.out.called hB)
 have Z5:=hid_of (Z4.out.called hB)
 have L4:=hid_of (block_lt Z4.out)
 have SA5:Hid (PngAt w5 b0 Y4 ⟨mw,mh,md,mc,ml,mtn,MT,mcn,MC,mrw,mrh,mrc,mrd,msn,MS,mkn,MK⟩ qa):=hid_of (SA4.out.stay fun g _ h=>hB.block g (by have:=L4.out; omega))
 have O5:=hid_of hO
 have OR:Hid (Y4 < gt2∧gt2 < gc2∧gc2 < gs2∧gs2 < gk2∧gk2 < w5.heap.size):=⟨Nat.lt_of_lt_of_le L4.out hO.t.1,hO.ne.1,hO.ne.2.1,hO.ne.2.2,hO.k.lt⟩
 clear hB hO H4 Z4 SA4 L4
 go_wp2_with fail
 have H6:Hid (LBox w (w5.alloc (.cells #[.int .i64 hw,.int .i64 hh,.int .i64 hd,.int .i64 hc',.bool lace,.slice (some ⟨gt2,0,none⟩) tn tn,.slice (some ⟨gc2,0,none⟩) cn cn,.int .i64 rw',.int .i64 rh,.int .i64 rc,.int .i64 rd,.slice (some ⟨gs2,0,none⟩) sn sn,.slice (some ⟨gk2,0,none⟩) kn kn] 37)) #[.int .i64 hw,.int .i64 hh,.int .i64 hd,.int .i64 hc',.bool lace,.slice ta tn tc,.slice ca cn cc,.int .i64 rw',.int .i64 rh,.int .i64 rc,.int .i64 rd,.slice sa sn sc,.slice ka kn kc]):=hid_of (H5.out.called (bstart _ _))
 have Z6:Hid (BoxAt (w5.alloc (.cells #[.int .i64 hw,.int .i64 hh,.int .i64 hd,.int .i64 hc',.bool lace,.slice (some ⟨gt2,0,none⟩) tn tn,.slice (some ⟨gc2,0,none⟩) cn cn,.int .i64 rw',.int .i64 rh,.int .i64 rc,.int .i64 rd,.slice (some ⟨gs2,0,none⟩) sn sn,.slice (some ⟨gk2,0,none⟩) kn kn] 37)) Y4 #[.int .i64 mw,.int .i64 mh,.int .i64 md,.int .i64 mc,.bool ml,.slice qa.ta mtn qa.tc,.slice qa.ca mcn qa.cc,.int .i64 mrw,.int .i64 mrh,.int .i64 mrc,.int .i64 mrd,.slice qa.sa msn qa.sc,.slice qa.ka mkn qa.kc]):=hid_of (Z5.out.called (bstart _ _))
 have L5:=hid_of (block_lt Z5.out)
 have SA6:Hid (PngAt (w5.alloc (.cells #[.int .i64 hw,.int .i64 hh,.int .i64 hd,.int .i64 hc',.bool lace,.slice (some ⟨gt2,0,none⟩) tn tn,.slice (some ⟨gc2,0,none⟩) cn cn,.int .i64 rw',.int .i64 rh,.int .i64 rc,.int .i64 rd,.slice (some ⟨gs2,0,none⟩) sn sn,.slice (some ⟨gk2,0,none⟩) kn kn] 37)) b0 Y4 ⟨mw,mh,md,mc,ml,mtn,MT,mcn,MC,mrw,mrh,mrc,mrd,msn,MS,mkn,MK⟩ qa):=hid_of (SA5.out.stay fun g _ h=>(bstart _ _).block g (by have:=L5.out; omega))
 have X6:Hid (BoxAt (w5.alloc (.cells #[.int .i64 hw,.int .i64 hh,.int .i64 hd,.int .i64 hc',.bool lace,.slice (some ⟨gt2,0,none⟩) tn tn,.slice (some ⟨gc2,0,none⟩) cn cn,.int .i64 rw',.int .i64 rh,.int .i64 rc,.int .i64 rd,.slice (some ⟨gs2,0,none⟩) sn sn,.slice (some ⟨gk2,0,none⟩) kn kn] 37)) w5.heap.size #[.int .i64 hw,.int .i64 hh,.int .i64 hd,.int .i64 hc',.bool lace,.slice (some ⟨gt2,0,none⟩) tn tn,.slice (some ⟨gc2,0,none⟩) cn cn,.int .i64 rw',.int .i64 rh,.int .i64 rc,.int .i64 rd,.slice (some ⟨gs2,0,none⟩) sn sn,.slice (some ⟨gk2,0,none⟩) kn kn]):=hid_of (heap_alloc_new _ _)
 have O6:Hid (PngOwn (w5.alloc (.cells #[.int .i64 hw,.int .i64 hh,.int .i64 hd,.int .i64 hc',.bool lace,.slice (some ⟨gt2,0,none⟩) tn tn,.slice (some ⟨gc2,0,none⟩) cn cn,.int .i64 rw',.int .i64 rh,.int .i64 rc,.int .i64 rd,.slice (some ⟨gs2,0,none⟩) sn sn,.slice (some ⟨gk2,0,none⟩) kn kn] 37)) w4.heap.size ⟨hw,hh,hd,hc',lace,tn,T,cn,C,rw',rh,rc,rd,sn,S,kn,K⟩ gt2 gc2 gs2 gk2):=hid_of (O5.out.called (bstart _ _))
 generalize w5.alloc (.cells #[.int .i64 hw,.int .i64 hh,.int .i64 hd,.int .i64 hc',.bool lace,.slice (some ⟨gt2,0,none⟩) tn tn,.slice (some ⟨gc2,0,none⟩) cn cn,.int .i64 rw',.int .i64 rh,.int .i64 rc,.int .i64 rd,.slice (some ⟨gs2,0,none⟩) sn sn,.slice (some ⟨gk2,0,none⟩) kn kn] 37)=w6 at H6 Z6 SA6 X6 O6 ⊢
 generalize w5.heap.size=Y6 at X6 OR ⊢
 clear H5 Z5 SA5 O5 L5
 refine (hy1 (picA ⟨hw,hh,hd,hc',lace,tn,T,cn,C,rw',rh,rc,rd,sn,S,kn,K⟩ gt2 gc2 gs2 gk2) _ (O6.out.lie HZ.out) HZ.out).mono ?_
 intro e w7 hpost
 obtain⟨qb,rfl,hS,hB⟩:=hM _ _ _ hpost
 have L6:=hid_of (And.intro (block_lt Z6.out) (block_lt X6.out))
 have HA7:Hid (LBox w w7 #[.int .i64 hw,.int .i64 hh,.int .i64 hd,.int .i64 hc',.bool lace,.slice ta tn tc,.slice ca cn cc,.int .i64 rw',.int .i64 rh,.int .i64 rc,.int .i64 rd,.slice sa sn sc,.slice ka kn kc]∧BoxAt w7 Y4 #[.int .i64 mw,.int .i64 mh,.int .i64 md,.int .i64 mc,.bool ml,.slice qa.ta mtn qa.tc,.slice qa.ca mcn qa.cc,.int .i64 mrw,.int .i64 mrh,.int .i64 mrc,.int .i64 mrd,.slice qa.sa msn qa.sc,.slice qa.ka mkn qa.kc]∧BoxAt w7 Y6 #[.int .i64 hw,.int .i64 hh,.int .i64 hd,.int .i64 hc',.bool lace,.slice (some ⟨gt2,0,none⟩) tn tn,.slice (some ⟨gc2,0,none⟩) cn cn,.int .i64 rw',.int .i64 rh,.int .i64 rc,.int .i64 rd,.slice (some ⟨gs2,0,none⟩) sn sn,.slice (some ⟨gk2,0,none⟩) kn kn]∧PngAt w7 b0 Y4 ⟨mw,mh,md,mc,ml,mtn,MT,mcn,MC,mrw,mrh,mrc,mrd,msn,MS,mkn,MK⟩ qa∧PngAt w7 w6.heap.size w7.heap.size ⟨mw,mh,md,mc,ml,mtn,MT,mcn,MC,mrw,mrh,mrc,mrd,msn,MS,mkn,MK⟩ qb∧PngOwn w7 w4.heap.size ⟨hw,hh,hd,hc',lace,tn,T,cn,C,rw',rh,rc,rd,sn,S,kn,K⟩ gt2 gc2 gs2 gk2∧Y6 < w6.heap.size∧Y6 < w7.heap.size):=⟨H6.out.called hB,Z6.out.called hB,X6.out.called hB,SA6.out.stay fun g _ h=>hB.block g (by have:=L6.out.1; omega),hS.at_,O6.out.called hB,L6.out.2,block_lt (X6.out.called hB)⟩
 clear hB hS hpost H6 Z6 X6 SA6 O6 L6
 have lz:=block_lt HA7.out.2.1
 obtain⟨z0,z1,z2,z3,z4,z5,z6,z7,z8,z9,z10,z11,z12⟩:=zqc HA7.out.2.1
 go_wp2_with fail
 clear lz z0 z1 z2 z3 z4 z5 z6 z7 z8 z9 z10 z11 z12
 have G8:Hid (PAll w (w7.alloc (.cells #[.int .i64 mw,.int .i64 mh,.int .i64 md,.int .i64 mc,.bool ml,.slice qb.ta mtn qb.tc,.slice qb.ca mcn qb.cc,.int .i64 mrw,.int .i64 mrh,.int .i64 mrc,.int .i64 mrd,.slice qb.sa msn qb.sc,.slice qb.ka mkn qb.kc] 37)) #[.int .i64 hw,.int .i64 hh,.int .i64 hd,.int .i64 hc',.bool lace,.slice ta tn tc,.slice ca cn cc,.int .i64 rw',.int .i64 rh,.int .i64 rc,.int .i64 rd,.slice sa sn sc,.slice ka kn kc] #[.int .i64 hw,.int .i64 hh,.int .i64 hd,.int .i64 hc',.bool lace,.slice (some ⟨gt2,0,none⟩) tn tn,.slice (some ⟨gc2,0,none⟩) cn cn,.int .i64 rw',.int .i64 rh,.int .i64 rc,.int .i64 rd,.slice (some ⟨gs2,0,none⟩) sn sn,.slice (some ⟨gk2,0,none⟩) kn kn] #[.int .i64 mw,.int .i64 mh,.int .i64 md,.int .i64 mc,.bool ml,.slice qa.ta mtn qa.tc,.slice qa.ca mcn qa.cc,.int .i64 mrw,.int .i64 mrh,.int .i64 mrc,.int .i64 mrd,.slice qa.sa msn qa.sc,.slice qa.ka mkn qa.kc] #[.int .i64 mw,.int .i64 mh,.int .i64 md,.int .i64 mc,.bool ml,.slice qb.ta mtn qb.tc,.slice qb.ca mcn qb.cc,.int .i64 mrw,.int .i64 mrh,.int .i64 mrc,.int .i64 mrd,.slice qb.sa msn qb.sc,.slice qb.ka mkn qb.kc] Y4 Y6 w7.heap.size b0 Y4 w6.heap.size w7.heap.size ⟨mw,mh,md,mc,ml,mtn,MT,mcn,MC,mrw,mrh,mrc,mrd,msn,MS,mkn,MK⟩ ⟨mw,mh,md,mc,ml,mtn,MT,mcn,MC,mrw,mrh,mrc,mrd,msn,MS,mkn,MK⟩ qa qb ⟨hw,hh,hd,hc',lace,tn,T,cn,C,rw',rh,rc,rd,sn,S,kn,K⟩ ⟨ta,tc,ca,cc,sa,sc,ka,kc⟩ w4.heap.size gt2 gc2 gs2 gk2):=by
  have hb0:=bstart w7 (.cells #[.int .i64 mw,.int .i64 mh,.int .i64 md,.int .i64 mc,.bool ml,.slice qb.ta mtn qb.tc,.slice qb.ca mcn qb.cc,.int .i64 mrw,.int .i64 mrh,.int .i64 mrc,.int .i64 mrd,.slice qb.sa msn qb.sc,.slice qb.ka mkn qb.kc] 37)
  obtain⟨r1,r2,r3,r4,r5,r6,r7,r8⟩:=HA7.out
  have q:=OO.out
  have q1:=OR.out
  have q2:=block_lt r2
  exact⟨⟨r1.called hb0,r2.called hb0,r3.called hb0,heap_alloc_new _ _,r4.stay fun g _ h=>hb0.block g (by omega),r5.stay fun g _ h=>hb0.block g h,by omega⟩,HP.out.called (r1.called hb0).2,r6.called hb0⟩
 generalize w7.alloc (.cells #[.int .i64 mw,.int .i64 mh,.int .i64 md,.int .i64 mc,.bool ml,.slice qb.ta mtn qb.tc,.slice qb.ca mcn qb.cc,.int .i64 mrw,.int .i64 mrh,.int .i64 mrc,.int .i64 mrd,.slice qb.sa msn qb.sc,.slice qb.ka mkn qb.kc] 37)=w8 at G8 ⊢
 generalize w7.heap.size=Y7 at G8 ⊢
 generalize w6.heap.size=b7 at G8
 clear HA7
 refine (hem qb qa _ G8.out.m.b.sl.lie G8.out.m.a.sl.lie).mono ?_
 rintro e w9 ⟨rfl,hB⟩
 have G9:=hid_of (G8.out.called hB)
 clear hB G8
 go_wp2_with fail
 have HS0:=G9.out.called (bdraws (Below.refl _ _) 1)
 clear G9
 refine wp_region_held (S:=fun u=>PAll w u #[.int .i64 hw,.int .i64 hh,.int .i64 hd,.int .i64 hc',.bool lace,.slice ta tn tc,.slice ca cn cc,.int .i64 rw',.int .i64 rh,.int .i64 rc,.int .i64 rd,.slice sa sn sc,.slice ka kn kc] #[.int .i64 hw,.int .i64 hh,.int .i64 hd,.int .i64 hc',.bool lace,.slice (some ⟨gt2,0,none⟩) tn tn,.slice (some ⟨gc2,0,none⟩) cn cn,.int .i64 rw',.int .i64 rh,.int .i64 rc,.int .i64 rd,.slice (some ⟨gs2,0,none⟩) sn sn,.slice (some ⟨gk2,0,none⟩) kn kn] #[.int .i64 mw,.int .i64 mh,.int .i64 md,.int .i64 mc,.bool ml,.slice qa.ta mtn qa.tc,.slice qa.ca mcn qa.cc,.int .i64 mrw,.int .i64 mrh,.int .i64 mrc,.int .i64 mrd,.slice qa.sa msn qa.sc,.slice qa.ka mkn qa.kc] #[.int .i64 mw,.int .i64 mh,.int .i64 md,.int .i64 mc,.bool ml,.slice qb.ta mtn qb.tc,.slice qb.ca mcn qb.cc,.int .i64 mrw,.int .i64 mrh,.int .i64 mrc,.int .i64 mrd,.slice qb.sa msn qb.sc,.slice qb.ka mkn qb.kc] Y4 Y6 Y7 b0 Y4 b7 Y7 ⟨mw,mh,md,mc,ml,mtn,MT,mcn,MC,mrw,mrh,mrc,mrd,msn,MS,mkn,MK⟩ ⟨mw,mh,md,mc,ml,mtn,MT,mcn,MC,mrw,mrh,mrc,mrd,msn,MS,mkn,MK⟩ qa qb ⟨hw,hh,hd,hc',lace,tn,T,cn,C,rw',rh,rc,rd,sn,S,kn,K⟩ ⟨ta,tc,ca,cc,sa,sc,ka,kc⟩ w4.heap.size gt2 gc2 gs2 gk2) (by kernel_rfl) ?_
 show wpAnyH _ _ _ _ _ _ _ _ w9.drew
 change PAll w w9.drew #[.int .i64 hw,.int .i64 hh,.int .i64 hd,.int .i64 hc',.bool lace,.slice ta tn tc,.slice ca cn cc,.int .i64 rw',.int .i64 rh,.int .i64 rc,.int .i64 rd,.slice sa sn sc,.slice ka kn kc] #[.int .i64 hw,.int .i64 hh,.int .i64 hd,.int .i64 hc',.bool lace,.slice (some ⟨gt2,0,none⟩) tn tn,.slice (some ⟨gc2,0,none⟩) cn cn,.int .i64 rw',.int .i64 rh,.int .i64 rc,.int .i64 rd,.slice (some ⟨gs2,0,none⟩) sn sn,.slice (some ⟨gk2,0,none⟩) kn kn] #[.int .i64 mw,.int .i64 mh,.int .i64 md,.int .i64 mc,.bool ml,.slice qa.ta mtn qa.tc,.slice qa.ca mcn qa.cc,.int .i64 mrw,.int .i64 mrh,.int .i64 mrc,.int .i64 mrd,.slice qa.sa msn qa.sc,.slice qa.ka mkn qa.kc] #[.int .i64 mw,.int .i64 mh,.int .i64 md,.int .i64 mc,.bool ml,.slice qb.ta mtn qb.tc,.slice qb.ca mcn qb.cc,.int .i64 mrw,.int .i64 mrh,.int .i64 mrc,.int .i64 mrd,.slice qb.sa msn qb.sc,.slice qb.ka mkn qb.kc] Y4 Y6 Y7 b0 Y4 b7 Y7 ⟨mw,mh,md,mc,ml,mtn,MT,mcn,MC,mrw,mrh,mrc,mrd,msn,MS,mkn,MK⟩ ⟨mw,mh,md,mc,ml,mtn,MT,mcn,MC,mrw,mrh,mrc,mrd,msn,MS,mkn,MK⟩ qa qb ⟨hw,hh,hd,hc',lace,tn,T,cn,C,rw',rh,rc,rd,sn,S,kn,K⟩ ⟨ta,tc,ca,cc,sa,sc,ka,kc⟩ w4.heap.size gt2 gc2 gs2 gk2 at HS0
 generalize w9.drew=u0 at HS0 ⊢
 refine zqt 0 (.agg #[.int .i64 hw,.int .i64 hh,.int .i64 hd,.int .i64 hc',.bool lace,.slice (some ⟨gt2,0,none⟩) tn tn,.slice (some ⟨gc2,0,none⟩) cn cn,.int .i64 rw',.int .i64 rh,.int .i64 rc,.int .i64 rd,.slice (some ⟨gs2,0,none⟩) sn sn,.slice (some ⟨gk2,0,none⟩) kn kn]) rfl ?_ HS0 ?_
 ·intro w' hS
  obtain⟨c0,c1,c2,c3,c4,c5,c6,c7,c8,c9,c10,c11,c12⟩:=zqc hS.m.y6; have cl:=block_lt hS.m.y6
  go_simp
 simp only [Act.put,zga,zgb,zsa,zsb,zsc]
 refine zqt 1 (.agg #[.int .i64 hw,.int .i64 hh,.int .i64 hd,.int .i64 hc',.bool lace,.slice ta tn tc,.slice ca cn cc,.int .i64 rw',.int .i64 rh,.int .i64 rc,.int .i64 rd,.slice sa sn sc,.slice ka kn kc]) rfl ?_ HS0 ?_
 ·intro w' hS
  obtain⟨c0,c1,c2,c3,c4,c5,c6,c7,c8,c9,c10,c11,c12⟩:=zqc hS.m.l.1; have cl:=block_lt hS.m.l.1
  go_simp
 simp only [Act.put,zga,zgb,zgc,zsa,zsb,zsc]
 refine zqr 2 rfl (fun K1 hK=>?_)
 refine if_wanted (wanted_none rfl) ?_
 simp only [zga,zgb,zgc]
 go_simp
 refine (hto _ HS0.p HZ.out).mono ?_
 rintro e u1 ⟨gt3,gc3,gs3,gk3,he,hO,hB⟩
 simp only [pngV,picA] at he
 subst he
 have HT:=HS0.called hB
 refine hK.out _ _ HT (fun HS1=>?_)
 have HO3:=hid_of hO
 clear hK hB HT hO
 refine zqr 3 rfl (fun K1 hK=>?_)
 refine if_wanted (wanted_none rfl) ?_
 simp only [zga,zgb,zgc]
 go_simp
 refine (heq (picA ⟨hw,hh,hd,hc',lace,tn,T,cn,C,rw',rh,rc,rd,sn,S,kn,K⟩ gt2 gc2 gs2 gk2) (picA ⟨hw,hh,hd,hc',lace,tn,T,cn,C,rw',rh,rc,rd,sn,S,kn,K⟩ gt3 gc3 gs3 gk3) _ (HS1.o.lie HZ.out) (HO3.out.lie HZ.out) HZ.out).mono ?_
 rintro e u2 ⟨rfl,hB⟩
 have HT:=HS1.called hB
 refine hK.out _ _ HT (fun HS2=>?_)
 clear hK hB HT HO3
 refine zqt 4 (.bool false) rfl ?_ HS2 ?_
 ·intro w' _
  go_simp
 simp only [Act.put,zga,zgb,zgc,zsa,zsb,zsc]
 refine wpAnyH_done (by kernel_rfl) ?_ _
 have GA:=hid_of HS2
 clear HS2
 have lx:=block_lt GA.out.m.y6
 obtain⟨x0,x1,x2,x3,x4,x5,x6,x7,x8,x9,x10,x11,x12⟩:=zqc GA.out.m.y6
 go_wp2_with fail
 clear lx x0 x1 x2 x3 x4 x5 x6 x7 x8 x9 x10 x11 x12
 refine (hmk _ gt2 gc2 gs2 gk2 _ GA.out.o HZ.out).mono ?_
 rintro e u3 ⟨rfl,hW⟩
 have GB:=hid_of (GA.out.m.wrote hW OR.out)
 clear hW GA
 have dk:decide (((1+3 * tn+cn+sn+2 * kn:Nat):Int) < 0)=false:=decide_eq_false (by omega)
 have lz:=block_lt GB.out.y4
 obtain⟨z0,z1,z2,z3,z4,z5,z6,z7,z8,z9,z10,z11,z12⟩:=zqc GB.out.y4
 have ly:=block_lt GB.out.y7
 obtain⟨y0,y1,y2,y3,y4,y5,y6,y7,y8,y9,y10,y11,y12⟩:=zqc GB.out.y7
 go_wp2_with fail
 clear lz z0 z1 z2 z3 z4 z5 z6 z7 z8 z9 z10 z11 z12
 clear ly y0 y1 y2 y3 y4 y5 y6 y7 y8 y9 y10 y11 y12
 clear dk
 refine (hem qb qa _ GB.out.b.sl.lie GB.out.a.sl.lie).mono ?_
 rintro e u4 ⟨rfl,hB⟩
 have GC:=hid_of (GB.out.called hB)
 clear hB GB
 have ly:=block_lt GC.out.y7
 obtain⟨y0,y1,y2,y3,y4,y5,y6,y7,y8,y9,y10,y11,y12⟩:=zqc GC.out.y7
 go_wp2_with fail
 clear ly y0 y1 y2 y3 y4 y5 y6 y7 y8 y9 y10 y11 y12
 refine (hmm qb b7 _ GC.out.b.sl).mono ?_
 rintro e u5 ⟨rfl,hS,hB,hM5⟩
 have GD:=hid_of (GC.out.marked hS hB hM5)
 clear hS hB hM5 GC
 have dn:decide (((1+3 * mtn+mcn+msn+2 * mkn:Nat):Int) < 0)=false:=decide_eq_false (by omega)
 have ly:=block_lt GD.out.y7
 obtain⟨y0,y1,y2,y3,y4,y5,y6,y7,y8,y9,y10,y11,y12⟩:=zqc GD.out.y7
 go_wp2_with fail
 clear ly y0 y1 y2 y3 y4 y5 y6 y7 y8 y9 y10 y11 y12
 refine (hhm qb _ GD.out.b.sl.lie).mono ?_
 rintro e u6 ⟨rfl,hB⟩
 have GE:=hid_of (GD.out.called hB)
 clear hB GD
 have la:=block_lt GE.out.l.1
 obtain⟨a0,a1,a2,a3,a4,a5,a6,a7,a8,a9,a10,a11,a12⟩:=zqc GE.out.l.1
 go_wp2_with fail
 clear la a0 a1 a2 a3 a4 a5 a6 a7 a8 a9 a10 a11 a12
 refine (hto _ (HP.out.called GE.out.l.2) HZ.out).mono ?_
 rintro e u7 ⟨gt4,gc4,gs4,gk4,he,hO,hB⟩
 simp only [pngV,picA] at he
 subst he
 have GF:=hid_of (GE.out.called hB)
 have O7:=hid_of hO
 clear hB hO GE
 go_wp2_with fail
 refine (hy1 (picA ⟨hw,hh,hd,hc',lace,tn,T,cn,C,rw',rh,rc,rd,sn,S,kn,K⟩ gt4 gc4 gs4 gk4) _ (O7.out.lie HZ.out) HZ.out).mono ?_
 intro e u8 hpost
 obtain⟨qc,rfl,hS,hB⟩:=hM _ _ _ hpost
 have GG:=hid_of (GF.out.called hB)
 have SC:=hid_of hS
 clear hB hS hpost GF O7
 have lz:=block_lt GG.out.y4
 obtain⟨z0,z1,z2,z3,z4,z5,z6,z7,z8,z9,z10,z11,z12⟩:=zqc GG.out.y4
 go_wp2_with fail
 clear lz z0 z1 z2 z3 z4 z5 z6 z7 z8 z9 z10 z11 z12
 refine (hem qc qa _ (SC.out.called (bstart _ _)).lie (GG.out.called (bstart _ _)).a.sl.lie).mono ?_
 rintro e u9 ⟨rfl,hB⟩
 have GI:=hid_of ((GG.out.called (bstart _ _)).called hB)
 clear hB GG SC
 have ly:=block_lt GI.out.y7
 obtain⟨y0,y1,y2,y3,y4,y5,y6,y7,y8,y9,y10,y11,y12⟩:=zqc GI.out.y7
 go_wp2_with fail
 clear ly y0 y1 y2 y3 y4 y5 y6 y7 y8 y9 y10 y11 y12
 refine (hhm qb _ GI.out.b.sl.lie).mono ?_
 rintro e u10 ⟨rfl,hB⟩
 have GJ:=hid_of (GI.out.called hB)
 clear hB GI
 go_wp2_with fail
 go_ret
 exact⟨rfl,GJ.out.l.2⟩
end Go.Proofs.YtkpbfmdnjnohlaaGreat
