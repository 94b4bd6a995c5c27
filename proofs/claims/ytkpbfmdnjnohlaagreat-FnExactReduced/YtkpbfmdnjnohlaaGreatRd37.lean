/-
  Texts of the proof, put together.
-/
import Derived.Test.YtkpbfmdnjnohlaaGreatRd15
import Derived.Test.YtkpbfmdnjnohlaaGreatRd18
namespace Go.Proofs.YtkpbfmdnjnohlaaGreat
open Go.RowKit Go.Joins OutMath PutMath RastMath HeadMath ChunkMath
def CvI (w:World) (A:Array Value) (n o:Nat) (M:Int) (f:Nat→Int) (v:Value) (i:Nat) (u:World):Prop:=MoP w A u∧NumRow u w.heap.size v (covL n f i)∧∀ j,j < i→j % n=o→f j=M
set_option maxRecDepth 100000 in
set_option maxHeartbeats 6400000 in
theorem specCov_4_8 (p:Pic) (q:PicA) (w:World) (hP:PngIn w p q) (hZ:PngSz p) (hcc:p.hc=4) (hdd:p.hd=8) (hM:MayR p):
  Calls Tryz.prog 9 #[pngV p q] w (LessPost (MayR p∧∀ k,k < pixN p→p.S (2 * k+1)=255) (withP p 0 8 (pixN p) (tkF 2 0 1 p.S) 0 (fun _=>0)) w):=by
 have hmay:=fun W h=>specMayQ p q 4 6 W h hZ
 have hch:=fun W=>specChannels 4 W
 rw[show chan 4=(2:Int) by decide] at hch
 have hpw:=fun W=>pow_any 8 W (by omega)
 rw[show p2 8=(256:Int) by decide +kernel] at hpw
 have hr:=fun ya yn yc xa xc W (h:PngIn W p q)=>specWith p q 0 8 ya yn yc xa 0 xc W h.k (by have:=(png_fits hM.1).2.2.2.2; omega)
 have HNo:Hid (¬ (MayR p∧∀ k,k < pixN p→p.S (2 * k+1)=255)→∀ W,Below w.heap.size w W→LessPost (MayR p∧∀ k,k < pixN p→p.S (2 * k+1)=255) (withP p 0 8 (pixN p) (tkF 2 0 1 p.S) 0 (fun _=>0)) w (.returned (.tuple #[.agg #[.int .i64 0,.int .i64 0,.int .i64 0,.int .i64 0,.bool false,.slice none 0 0,.slice none 0 0,.int .i64 0,.int .i64 0,.int .i64 0,.int .i64 0,.slice none 0 0,.slice none 0 0],.bool false])) W):=fun h W b=>.inl ⟨h,rfl,b⟩
 have HYes:Hid ((MayR p∧∀ k,k < pixN p→p.S (2 * k+1)=255)→∀ (W:World) (a xa ka:Option Addr) (c xc kc:Nat),PngSL W w.heap.size (withP p 0 8 (pixN p) (tkF 2 0 1 p.S) 0 (fun _=>0)) ⟨none,0,xa,xc,a,c,ka,kc⟩→Below w.heap.size w W→LessPost (MayR p∧∀ k,k < pixN p→p.S (2 * k+1)=255) (withP p 0 8 (pixN p) (tkF 2 0 1 p.S) 0 (fun _=>0)) w (.returned (.tuple #[.agg #[.int .i64 p.hw,.int .i64 p.hh,.int .i64 8,.int .i64 0,.bool p.lace,.slice none 0 0,.slice xa 0 xc,.int .i64 p.hw,.int .i64 p.hh,.int .i64 0,.int .i64 8,.slice a (pixN p) c,.slice ka p.kn kc],.bool true])) W):=fun h W a xa ka c xc kc h1 h6=>.inr ⟨h,_,rfl,h1,h6⟩
 have HMk:Hid (∀ (W:World) (a xa ka:Option Addr) (c xc kc:Nat),SL W w.heap.size a (pixN p) c (tkF 2 0 1 p.S)→KSL W w.heap.size ka p.kn p.K→pixN p≤c∧c≤maxLen→PngSL W w.heap.size (withP p 0 8 (pixN p) (tkF 2 0 1 p.S) 0 (fun _=>0)) ⟨none,0,xa,xc,a,c,ka,kc⟩):=fun W a xa ka c xc kc h1 h3 h5=>⟨.inl rfl,.inl rfl,h1,h3,.inl rfl,h5⟩
 have hsn:p.sn=2 * pixN p:=by have:=(png_n hM.1).1; rw [hcc,show chanN 4=2 by decide] at this; exact this
 have hN1:=(png_n hM.1).2.1
 have hN2:=(png_n hM.1).2.2
 have HC:Hid (Came w q.sa p.sn p.S):=hP.s
 have HM:=hid_of hM
 have HP:=hid_of hP
 have HMM:Hid (MayR p∧(p.hc=4∨p.hc=6)):=⟨hM,by omega⟩
 clear hP hZ hM
 obtain⟨N,hNN⟩:∃ N,N=pixN p:=⟨_,rfl⟩
 rw[← hNN] at hsn hN1 hN2 HNo HYes HMk ⊢
 obtain⟨p0,hp0⟩:∃ p0,p0=p:=⟨_,rfl⟩
 obtain⟨hw,hh,hd,hc',lace,tn,T,cn,C,rw',rh,rc,rd,sn,S,kn,K⟩:=p
 obtain⟨ta,tc,ca,cc,sa,sc,ka,kc⟩:=q
 simp only [pngV] at hmay hr hsn HYes HNo HMk HC HMM ⊢
 replace hcc:hc'=4:=hcc
 replace hdd:hd=8:=hdd
 have HE:Hid (p0.kn=kn∧p0.K=K∧p0.hw=hw∧p0.hh=hh∧p0.lace=lace):=by rw [hp0]; exact⟨rfl,rfl,rfl,rfl,rfl⟩
 have HMQ:Hid (MayR p0∧(p0.hc=4∨p0.hc=6)):=by rw [hp0]; exact HMM.out
 rw[← hp0] at hmay hr HP HYes HNo HMk HM ⊢
 clear hp0 hNN HMM
 subst hcc hdd hsn
 obtain⟨g,off,rfl,hg,hc⟩:∃ g off,sa=some ⟨g,off,none⟩∧g < w.heap.size∧∀ j,j < 2 * N→w.cell? ⟨g,off+j,none⟩=some (.int .i64 (S j)):=by
  rcases HC.out with h | h
  ·omega
  ·exact h
 have HCE:=hid_of hc
 clear hc HC
 have H0:Hid (MoP w #[.int .i64 hw,.int .i64 hh,.int .i64 8,.int .i64 4,.bool lace,.slice ta tn tc,.slice ca cn cc,.int .i64 rw',.int .i64 rh,.int .i64 rc,.int .i64 rd,.slice (some ⟨g,off,none⟩) (2 * N) sc,.slice ka kn kc] ((w.alloc (.cells #[.int .i64 hw,.int .i64 hh,.int .i64 8,.int .i64 4,.bool lace,.slice ta tn tc,.slice ca cn cc,.int .i64 rw',.int .i64 rh,.int .i64 rc,.int .i64 rd,.slice (some ⟨g,off,none⟩) (2 * N) sc,.slice ka kn kc] 37)).alloc (.cells #[.int .i64 0,.int .i64 0,.int .i64 0,.int .i64 0,.bool false,.slice none 0 0,.slice none 0 0,.int .i64 0,.int .i64 0,.int .i64 0,.int .i64 0,.slice none 0 0,.slice none 0 0] 37))):=MoP.start w _ _ rfl
 go_enter Tryz.func9,Tryz.ntmps9
 go_wp2_with fail
 refine (hmay _ (HP.out.called H0.out.2.2)).mono ?_
 rintro e w1 ⟨b,rfl,hb,hB⟩
 have H1:=hid_of (H0.out.called hB)
 obtain rfl:b=true:=hb.mpr HMQ.out
 clear hB hb H0 hmay HMQ
 have lm:=block_lt H1.out.1
 obtain⟨m0,m1,m2,m3,m4,m5,m6,m7,m8,m9,m10,m11,m12⟩:=zqc H1.out.1
 go_wp2_with fail
 clear lm m0 m1 m2 m3 m4 m5 m6 m7 m8 m9 m10 m11 m12
 refine (hch _).mono ?_
 rintro e w2 ⟨rfl,q⟩
 obtain rfl:=q
 clear hch
 have H2:Hid (CvI w #[.int .i64 hw,.int .i64 hh,.int .i64 8,.int .i64 4,.bool lace,.slice ta tn tc,.slice ca cn cc,.int .i64 rw',.int .i64 rh,.int .i64 rc,.int .i64 rd,.slice (some ⟨g,off,none⟩) (2 * N) sc,.slice ka kn kc] 2 1 255 S (.slice (some ⟨w2.heap.size,0,none⟩) 0 0) 0 (w2.alloc (.cells #[] 3))):=⟨H1.out.called (bstart _ _),NumRow.empty w2 _ H1.out.2.2.size,fun j hj=>absurd hj (Nat.not_lt_zero j)⟩
 clear H1
 go_wp2_with fail
 go_loopg [5,6] (2 * N+1) (fun gk v z u=>∃ j:Nat,j≤2 * N∧z=.int .i64 j∧2 * N - j≤gk∧Hid (CvI w #[.int .i64 hw,.int .i64 hh,.int .i64 8,.int .i64 4,.bool lace,.slice ta tn tc,.slice ca cn cc,.int .i64 rw',.int .i64 rh,.int .i64 rc,.int .i64 rd,.slice (some ⟨g,off,none⟩) (2 * N) sc,.slice ka kn kc] 2 1 255 S v j u))
 case atStart=>exact⟨0,Nat.zero_le _,rfl,by omega,H2⟩
 case round=>
  clear H2
  obtain⟨j,hj,rfl,hk,hS⟩:=hrel
  have hMo:=hS.out.1
  have lm:=block_lt hMo.1
  obtain⟨m0,m1,m2,m3,m4,m5,m6,m7,m8,m9,m10,m11,m12⟩:=zqc hMo.1
  by_cases hlt:j < 2 * N
  ·have dl:decide ((j:Int) < ((2 * N:Nat):Int))=true:=decide_eq_true (by omega)
   have dl2:(j:Int) < 2 * (N:Int):=by omega
   have c0:=(hMo.2.2.cell (p:=⟨g,off+j,none⟩) hg).trans (HCE.out j hlt)
   have hl2:g < wr.heap.size:=Nat.lt_of_lt_of_le hg hMo.2.2.size
   generalize hfj:S j=fj at c0
   have HFJ:=hid_of hfj
   clear hfj
   by_cases hm:j % 2 < 1
   ·have dm:decide ((j:Int) % 2 < 1)=true:=decide_eq_true (by omega)
    have dm2:(j:Int) % 2 < 1:=by omega
    have HCL:Hid (covL 2 S (j+1)=covL 2 S j ++ [fj]):=by
     show _=_
     rw[← HFJ.out]
     show (if j % 2 < 2 - 1 then covL 2 S j ++ [S j] else covL 2 S j)=_
     rw[if_pos (by omega)]
    have HALL:Hid (∀ i,i < j+1→i % 2=1→S i=255):=fun i hi he=>hS.out.2.2 i (by omega) he
    have HNR:=hid_of hS.out.2.1
    have HLn:Hid ((covL 2 S j).length≤j):=covL_length _ _ _
    have HMo:=hid_of hMo
    clear hMo hm hS
    go_wp2_with (at_builtin; refine nums_append1 (S:=w.heap.size) (xs:=covL 2 S j) rfl _ _ rfl rfl (HNR.out.called (bstart _ _)) wr.heap.size 1 fj rfl ((cell_of_block (heap_alloc_new wr (.cells #[.int .i64 fj] 3)) 0).trans rfl) (by have:=HLn.out; omega) (by have:=HMo.out.2.2.size; simp; omega) ?_)
    intro v1 w1 y1 y2 y3
    have HS1:Hid (CvI w #[.int .i64 hw,.int .i64 hh,.int .i64 8,.int .i64 4,.bool lace,.slice ta tn tc,.slice ca cn cc,.int .i64 rw',.int .i64 rh,.int .i64 rc,.int .i64 rd,.slice (some ⟨g,off,none⟩) (2 * N) sc,.slice ka kn kc] 2 1 255 S v1 (j+1) w1):=by
     refine⟨?_,by rw [HCL.out]; exact y1,HALL.out⟩
     have hM0:=HMo.out.called (bstart wr (.cells #[.int .i64 fj] 3))
     obtain⟨q1,⟨Z,q2,qz⟩,q3⟩:=hM0
     have hne:∀ (b:Nat) (cs:Array Value),(wr.alloc (.cells #[.int .i64 fj] 3)).heap[b]?=some (.cells cs 37 (0,0))→w1.heap[b]?=(wr.alloc (.cells #[.int .i64 fj] 3)).heap[b]?:=fun b cs hb=>y2.block b (block_lt hb) (fun e=>by
      have hr:=HNR.out.called (bstart wr (.cells #[.int .i64 fj] 3))
      rcases hr.2 with ⟨h,_⟩ | ⟨g1,cap,cur,h,_,q5,_⟩
      ·rw[h] at e; simp [Value.ownBlock] at e
      ·rw[h] at e
       simp[Value.ownBlock] at e
       rw[e,q5] at hb
       cases hb)
     exact⟨(hne _ _ q1).trans q1,⟨Z,(hne _ _ q2).trans q2,qz⟩,q3.grown y2 (by have:=HMo.out.2.2.size; simp; omega) (fun b hb=>(HNR.out.lt b hb).1)⟩
    clear y1 y2 y3 HNR HCL HALL HMo
    go_wp2_with fail
    go_roundg (2 * N - (j+1))
    case measure=>omega
    case rel=>exact⟨j+1,by omega,by go_num,Nat.le_refl _,HS1⟩
   ·have dm:decide ((j:Int) % 2 < 1)=false:=decide_eq_false (by omega)
    have dm2:¬ (j:Int) % 2 < 1:=by omega
    have HCL:Hid (covL 2 S (j+1)=covL 2 S j):=by
     show (if j % 2 < 2 - 1 then covL 2 S j ++ [S j] else covL 2 S j)=_
     rw[if_neg (by omega)]
    have HALL:Hid (fj=255→∀ i,i < j+1→i % 2=1→S i=255):=fun hf i hi he=>by
     by_cases e:i=j
     ·rw[e,HFJ.out,hf]
     ·exact hS.out.2.2 i (by omega) he
    have HNOT:Hid (¬ fj=255→¬ ∀ k,k < N→S (2 * k+1)=255):=fun hf h=>by
     have h1:=h (j / 2) (by omega)
     rw[show 2 * (j / 2)+1=j by omega,HFJ.out] at h1
     exact hf h1
    have HNR:=hid_of hS.out.2.1
    have HMo:=hid_of hMo
    clear hMo hm hS
    go_wp2_with fail
    clear lm m0 m1 m2 m3 m4 m5 m6 m7 m8 m9 m10 m11 m12
    refine wp_region_held (S:=fun Y=>Y=wr.drew) (by kernel_rfl) ?_
    show wpAnyH _ _ _ _ _ _ _ _ wr.drew
    have HM1:Hid (MoP w #[.int .i64 hw,.int .i64 hh,.int .i64 8,.int .i64 4,.bool lace,.slice ta tn tc,.slice ca cn cc,.int .i64 rw',.int .i64 rh,.int .i64 rc,.int .i64 rd,.slice (some ⟨g,off,none⟩) (2 * N) sc,.slice ka kn kc] wr.drew∧NumRow wr.drew w.heap.size u5 (covL 2 S j)):=⟨HMo.out.called (bdraws (Below.refl _ _) 1),HNR.out.called (bdraws (Below.refl _ _) 1)⟩
    have c1:wr.drew.cell? ⟨g,off+j,none⟩=some (.int .i64 fj):=c0
    have HSx:(fun Y=>Y=wr.drew) wr.drew:=rfl
    have lg:g < wr.drew.heap.size:=hl2
    generalize wr.drew=u0 at HM1 c1 HSx lg ⊢
    clear c0 hl2 HMo HNR
    refine zqt 0 (.pointer (some ⟨w.heap.size,7,none⟩)) rfl ?_ HSx ?_
    ·intro w' _
     go_simp
    simp only [Act.put,zga,zgb,zsa,zsb,zsc]
    refine zqt 1 (.pointer (some ⟨w.heap.size,11,none⟩)) rfl ?_ HSx ?_
    ·intro w' _
     go_simp
    simp only [Act.put,zga,zgb,zgc,zsa,zsb,zsc]
    refine zqt 2 (.slice (some ⟨g,off,none⟩) (2 * N) sc) rfl ?_ HSx ?_
    ·intro w' hS
     subst hS; obtain⟨b0,b1,b2,b3,b4,b5,b6,b7,b8,b9,b10,b11,b12⟩:=zqc HM1.out.1.1; have bl:=block_lt HM1.out.1.1
     go_simp
    simp only [Act.put,zga,zgb,zgc,zsa,zsb,zsc]
    refine zqt 3 (.int .i64 (j:Int)) rfl ?_ HSx ?_
    ·intro w' _
     go_simp
    simp only [Act.put,zga,zgb,zgc,zsa,zsb,zsc]
    refine zqt 4 (.pointer (some ⟨g,off+j,none⟩)) rfl ?_ HSx ?_
    ·intro w' _
     go_simp
    simp only [Act.put,zga,zgb,zgc,zsa,zsb,zsc]
    refine zqt 5 (.int .i64 fj) rfl ?_ HSx ?_
    ·intro w' hS
     subst hS
     go_simp
    simp only [Act.put,zga,zgb,zgc,zsa,zsb,zsc]
    refine zqt 6 (.pointer (some ⟨w.heap.size,0,none⟩)) rfl ?_ HSx ?_
    ·intro w' _
     go_simp
    simp only [Act.put,zga,zgb,zgc,zsa,zsb,zsc]
    refine zqt 7 (.pointer (some ⟨w.heap.size,2,none⟩)) rfl ?_ HSx ?_
    ·intro w' _
     go_simp
    simp only [Act.put,zga,zgb,zgc,zsa,zsb,zsc]
    refine zqt 8 (.int .i64 8) rfl ?_ HSx ?_
    ·intro w' hS
     subst hS; obtain⟨b0,b1,b2,b3,b4,b5,b6,b7,b8,b9,b10,b11,b12⟩:=zqc HM1.out.1.1; have bl:=block_lt HM1.out.1.1
     go_simp
    simp only [Act.put,zga,zgb,zgc,zsa,zsb,zsc]
    refine zqr 9 rfl (fun K1 hK=>?_)
    refine if_wanted (wanted_none rfl) ?_
    simp only [zga,zgb,zgc]
    go_simp
    refine (hpw _).mono ?_
    rintro e u1 ⟨rfl,q⟩
    obtain rfl:=q
    refine hK.out _ _ HSx (fun _=>?_)
    clear hK
    refine zqt 10 (.int .i64 255) rfl ?_ HSx ?_
    ·intro w' _
     go_simp
     rfl
    simp only [Act.put,zga,zgb,zgc,zsa,zsb,zsc]
    by_cases hf:fj=255
    ·have nf:(fj != 255)=false:=by simpa using hf
     have HA:=hid_of (HALL.out hf)
     clear hf c1
     refine zqt 11 (.bool false) rfl ?_ HSx ?_
     ·intro w' _
      go_simp
     simp only [Act.put,zga,zgb,zgc,zsa,zsb,zsc]
     refine wpAnyH_done (by kernel_rfl) ?_ _
     have HS1:Hid (CvI w #[.int .i64 hw,.int .i64 hh,.int .i64 8,.int .i64 4,.bool lace,.slice ta tn tc,.slice ca cn cc,.int .i64 rw',.int .i64 rh,.int .i64 rc,.int .i64 rd,.slice (some ⟨g,off,none⟩) (2 * N) sc,.slice ka kn kc] 2 1 255 S u5 (j+1) u1):=⟨HM1.out.1,by rw [HCL.out]; exact HM1.out.2,HA.out⟩
     clear HSx HM1 HA HCL HALL HNOT nf lg
     go_wp2_with fail
     go_roundg (2 * N - (j+1))
     case measure=>omega
     case rel=>exact⟨j+1,by omega,by go_num,Nat.le_refl _,HS1⟩
    ·have nf:(fj != 255)=true:=by simpa using hf
     have HN:=hid_of (HNo.out fun h=>HNOT.out hf h.2)
     clear hf c1
     refine zqt 11 (.bool true) rfl ?_ HSx ?_
     ·intro w' _
      go_simp
     simp only [Act.put,zga,zgb,zgc,zsa,zsb,zsc]
     refine wpAnyH_done (by kernel_rfl) ?_ _
     have HM2:=hid_of HM1.out.1
     clear HSx HM1 HALL HCL HNOT nf lg HYes HMk hr hpw
     obtain⟨⟨z0,z1,z2,z3,z4,z5,z6,z7,z8,z9,z10,z11,z12,y0,y1,y2,y3,y4,y5,y6,y7,y8,y9,y10,y11,y12⟩,yf,yl⟩:=HM2.out.cells
     go_wp2_with fail
     refine bodyPost_ret (v:=.tuple #[.agg #[.int .i64 0,.int .i64 0,.int .i64 0,.int .i64 0,.bool false,.slice none 0 0,.slice none 0 0,.int .i64 0,.int .i64 0,.int .i64 0,.int .i64 0,.slice none 0 0,.slice none 0 0],.bool false]) ?_ rfl (HN.out _ ?_)
     ·simp[results,Tryz.results9,go_sem, *]
     ·exact HM2.out.stored _ _ _ _ _ _ _ _ _ _ _ _ _ 
  ·obtain rfl:j=2 * N:=by omega
   have dl:decide (((2 * N:Nat):Int) < ((2 * N:Nat):Int))=false:=decide_eq_false (by omega)
   have dl2:¬ ((2 * N:Nat):Int) < 2 * (N:Int):=by omega
   obtain⟨a1,c1,e1,_⟩:=hS.out.2.1.form
   have hlen:(covL 2 S (2 * N)).length=N:=by
    rw[covL_whole 2 (by omega)]
    simp
   have HL:Hid (SL wr w.heap.size a1 (N) c1 (tkF 2 0 1 S)∧N≤c1∧c1≤maxLen):=by
    have q:=hS.out.2.1
    rw[e1,hlen] at q
    refine⟨(sl_of_num q hlen.symm).congr fun i hi=>?_,q.max⟩
    rw[covL_whole 2 (by omega),List.getD_eq_getElem?_getD,List.getElem?_eq_getElem (by simp; omega)]
    simp
   rw[hlen] at e1
   obtain rfl:=e1
   have HYA:=hid_of (HYes.out ⟨HM.out,fun k hk2=>hS.out.2.2 _ (by omega) (by omega)⟩)
   have H3:=hid_of (hMo.called (bstart wr (.cells #[] 3)))
   have HL2:Hid (SL (wr.alloc (.cells #[] 3)) w.heap.size a1 (N) c1 (tkF 2 0 1 S)∧N≤c1∧c1≤maxLen):=⟨HL.out.1.called (bstart _ _),HL.out.2⟩
   clear hMo hlt hS HL HYes HNo HM hlen
   go_wp2_with fail
   clear lm m0 m1 m2 m3 m4 m5 m6 m7 m8 m9 m10 m11 m12
   refine (hr a1 (N) c1 (some ⟨wr.heap.size,0,none⟩) 0 _ (HP.out.called H3.out.2.2)).mono ?_
   rintro e w5 ⟨kk,kc1,he,hk3,hB⟩
   simp only [HE.out.1,HE.out.2.1,HE.out.2.2.1,HE.out.2.2.2.1,HE.out.2.2.2.2] at he hk3
   subst he
   have H5:Hid (WP w #[.int .i64 hw,.int .i64 hh,.int .i64 8,.int .i64 4,.bool lace,.slice ta tn tc,.slice ca cn cc,.int .i64 rw',.int .i64 rh,.int .i64 rc,.int .i64 rd,.slice (some ⟨g,off,none⟩) (2 * N) sc,.slice ka kn kc] (withP p0 0 8 (N) (tkF 2 0 1 S) 0 (fun _=>0)) ⟨none,0,some ⟨wr.heap.size,0,none⟩,0,a1,c1,kk,kc1⟩ w5):=⟨H3.out.called hB,HMk.out _ _ _ _ _ _ _ (HL2.out.1.called hB) (ksl_low2 hk3 H3.out.2.2.size) HL2.out.2⟩
   clear hB hk3 H3 HL2 HMk hr
   obtain⟨⟨z0,z1,z2,z3,z4,z5,z6,z7,z8,z9,z10,z11,z12,y0,y1,y2,y3,y4,y5,y6,y7,y8,y9,y10,y11,y12⟩,yf,yl⟩:=H5.out.m.cells
   go_wp2_with fail
   refine bodyPost_ret (v:=.tuple #[.agg #[.int .i64 hw,.int .i64 hh,.int .i64 8,.int .i64 0,.bool lace,.slice none 0 0,.slice (some ⟨wr.heap.size,0,none⟩) 0 0,.int .i64 hw,.int .i64 hh,.int .i64 0,.int .i64 8,.slice a1 (N) c1,.slice kk kn kc1],.bool true]) ?_ rfl (HYA.out _ _ _ _ _ _ _ ?_ ?_)
   ·simp[results,Tryz.results9,go_sem, *]
   ·exact (H5.out.stored _ _ _ _ _ _ _ _ _ _ _ _ _ ).1
   ·exact (H5.out.stored _ _ _ _ _ _ _ _ _ _ _ _ _ ).2
set_option maxRecDepth 100000 in
set_option maxHeartbeats 6400000 in
theorem specCov_4_16 (p:Pic) (q:PicA) (w:World) (hP:PngIn w p q) (hZ:PngSz p) (hcc:p.hc=4) (hdd:p.hd=16) (hM:MayR p):
  Calls Tryz.prog 9 #[pngV p q] w (LessPost (MayR p∧∀ k,k < pixN p→p.S (2 * k+1)=65535) (withP p 0 16 (pixN p) (tkF 2 0 1 p.S) 0 (fun _=>0)) w):=by
 have hmay:=fun W h=>specMayQ p q 4 6 W h hZ
 have hch:=fun W=>specChannels 4 W
 rw[show chan 4=(2:Int) by decide] at hch
 have hpw:=fun W=>pow_any 16 W (by omega)
 rw[show p2 16=(65536:Int) by decide +kernel] at hpw
 have hr:=fun ya yn yc xa xc W (h:PngIn W p q)=>specWith p q 0 16 ya yn yc xa 0 xc W h.k (by have:=(png_fits hM.1).2.2.2.2; omega)
 have HNo:Hid (¬ (MayR p∧∀ k,k < pixN p→p.S (2 * k+1)=65535)→∀ W,Below w.heap.size w W→LessPost (MayR p∧∀ k,k < pixN p→p.S (2 * k+1)=65535) (withP p 0 16 (pixN p) (tkF 2 0 1 p.S) 0 (fun _=>0)) w (.returned (.tuple #[.agg #[.int .i64 0,.int .i64 0,.int .i64 0,.int .i64 0,.bool false,.slice none 0 0,.slice none 0 0,.int .i64 0,.int .i64 0,.int .i64 0,.int .i64 0,.slice none 0 0,.slice none 0 0],.bool false])) W):=fun h W b=>.inl ⟨h,rfl,b⟩
 have HYes:Hid ((MayR p∧∀ k,k < pixN p→p.S (2 * k+1)=65535)→∀ (W:World) (a xa ka:Option Addr) (c xc kc:Nat),PngSL W w.heap.size (withP p 0 16 (pixN p) (tkF 2 0 1 p.S) 0 (fun _=>0)) ⟨none,0,xa,xc,a,c,ka,kc⟩→Below w.heap.size w W→LessPost (MayR p∧∀ k,k < pixN p→p.S (2 * k+1)=65535) (withP p 0 16 (pixN p) (tkF 2 0 1 p.S) 0 (fun _=>0)) w (.returned (.tuple #[.agg #[.int .i64 p.hw,.int .i64 p.hh,.int .i64 16,.int .i64 0,.bool p.lace,.slice none 0 0,.slice xa 0 xc,.int .i64 p.hw,.int .i64 p.hh,.int .i64 0,.int .i64 16,.slice a (pixN p) c,.slice ka p.kn kc],.bool true])) W):=fun h W a xa ka c xc kc h1 h6=>.inr ⟨h,_,rfl,h1,h6⟩
 have HMk:Hid (∀ (W:World) (a xa ka:Option Addr) (c xc kc:Nat),SL W w.heap.size a (pixN p) c (tkF 2 0 1 p.S)→KSL W w.heap.size ka p.kn p.K→pixN p≤c∧c≤maxLen→PngSL W w.heap.size (withP p 0 16 (pixN p) (tkF 2 0 1 p.S) 0 (fun _=>0)) ⟨none,0,xa,xc,a,c,ka,kc⟩):=fun W a xa ka c xc kc h1 h3 h5=>⟨.inl rfl,.inl rfl,h1,h3,.inl rfl,h5⟩
 have hsn:p.sn=2 * pixN p:=by have:=(png_n hM.1).1; rw [hcc,show chanN 4=2 by decide] at this; exact this
 have hN1:=(png_n hM.1).2.1
 have hN2:=(png_n hM.1).2.2
 have HC:Hid (Came w q.sa p.sn p.S):=hP.s
 have HM:=hid_of hM
 have HP:=hid_of hP
 have HMM:Hid (MayR p∧(p.hc=4∨p.hc=6)):=⟨hM,by omega⟩
 clear hP hZ hM
 obtain⟨N,hNN⟩:∃ N,N=pixN p:=⟨_,rfl⟩
 rw[← hNN] at hsn hN1 hN2 HNo HYes HMk ⊢
 obtain⟨p0,hp0⟩:∃ p0,p0=p:=⟨_,rfl⟩
 obtain⟨hw,hh,hd,hc',lace,tn,T,cn,C,rw',rh,rc,rd,sn,S,kn,K⟩:=p
 obtain⟨ta,tc,ca,cc,sa,sc,ka,kc⟩:=q
 simp only [pngV] at hmay hr hsn HYes HNo HMk HC HMM ⊢
 replace hcc:hc'=4:=hcc
 replace hdd:hd=16:=hdd
 have HE:Hid (p0.kn=kn∧p0.K=K∧p0.hw=hw∧p0.hh=hh∧p0.lace=lace):=by rw [hp0]; exact⟨rfl,rfl,rfl,rfl,rfl⟩
 have HMQ:Hid (MayR p0∧(p0.hc=4∨p0.hc=6)):=by rw [hp0]; exact HMM.out
 rw[← hp0] at hmay hr HP HYes HNo HMk HM ⊢
 clear hp0 hNN HMM
 subst hcc hdd hsn
 obtain⟨g,off,rfl,hg,hc⟩:∃ g off,sa=some ⟨g,off,none⟩∧g < w.heap.size∧∀ j,j < 2 * N→w.cell? ⟨g,off+j,none⟩=some (.int .i64 (S j)):=by
  rcases HC.out with h | h
  ·omega
  ·exact h
 have HCE:=hid_of hc
 clear hc HC
 have H0:Hid (MoP w #[.int .i64 hw,.int .i64 hh,.int .i64 16,.int .i64 4,.bool lace,.slice ta tn tc,.slice ca cn cc,.int .i64 rw',.int .i64 rh,.int .i64 rc,.int .i64 rd,.slice (some ⟨g,off,none⟩) (2 * N) sc,.slice ka kn kc] ((w.alloc (.cells #[.int .i64 hw,.int .i64 hh,.int .i64 16,.int .i64 4,.bool lace,.slice ta tn tc,.slice ca cn cc,.int .i64 rw',.int .i64 rh,.int .i64 rc,.int .i64 rd,.slice (some ⟨g,off,none⟩) (2 * N) sc,.slice ka kn kc] 37)).alloc (.cells #[.int .i64 0,.int .i64 0,.int .i64 0,.int .i64 0,.bool false,.slice none 0 0,.slice none 0 0,.int .i64 0,.int .i64 0,.int .i64 0,.int .i64 0,.slice none 0 0,.slice none 0 0] 37))):=MoP.start w _ _ rfl
 go_enter Tryz.func9,Tryz.ntmps9
 go_wp2_with fail
 refine (hmay _ (HP.out.called H0.out.2.2)).mono ?_
 rintro e w1 ⟨b,rfl,hb,hB⟩
 have H1:=hid_of (H0.out.called hB)
 obtain rfl:b=true:=hb.mpr HMQ.out
 clear hB hb H0 hmay HMQ
 have lm:=block_lt H1.out.1
 obtain⟨m0,m1,m2,m3,m4,m5,m6,m7,m8,m9,m10,m11,m12⟩:=zqc H1.out.1
 go_wp2_with fail
 clear lm m0 m1 m2 m3 m4 m5 m6 m7 m8 m9 m10 m11 m12
 refine (hch _).mono ?_
 rintro e w2 ⟨rfl,q⟩
 obtain rfl:=q
 clear hch
 have H2:Hid (CvI w #[.int .i64 hw,.int .i64 hh,.int .i64 16,.int .i64 4,.bool lace,.slice ta tn tc,.slice ca cn cc,.int .i64 rw',.int .i64 rh,.int .i64 rc,.int .i64 rd,.slice (some ⟨g,off,none⟩) (2 * N) sc,.slice ka kn kc] 2 1 65535 S (.slice (some ⟨w2.heap.size,0,none⟩) 0 0) 0 (w2.alloc (.cells #[] 3))):=⟨H1.out.called (bstart _ _),NumRow.empty w2 _ H1.out.2.2.size,fun j hj=>absurd hj (Nat.not_lt_zero j)⟩
 clear H1
 go_wp2_with fail
 go_loopg [5,6] (2 * N+1) (fun gk v z u=>∃ j:Nat,j≤2 * N∧z=.int .i64 j∧2 * N - j≤gk∧Hid (CvI w #[.int .i64 hw,.int .i64 hh,.int .i64 16,.int .i64 4,.bool lace,.slice ta tn tc,.slice ca cn cc,.int .i64 rw',.int .i64 rh,.int .i64 rc,.int .i64 rd,.slice (some ⟨g,off,none⟩) (2 * N) sc,.slice ka kn kc] 2 1 65535 S v j u))
 case atStart=>exact⟨0,Nat.zero_le _,rfl,by omega,H2⟩
 case round=>
  clear H2
  obtain⟨j,hj,rfl,hk,hS⟩:=hrel
  have hMo:=hS.out.1
  have lm:=block_lt hMo.1
  obtain⟨m0,m1,m2,m3,m4,m5,m6,m7,m8,m9,m10,m11,m12⟩:=zqc hMo.1
  by_cases hlt:j < 2 * N
  ·have dl:decide ((j:Int) < ((2 * N:Nat):Int))=true:=decide_eq_true (by omega)
   have dl2:(j:Int) < 2 * (N:Int):=by omega
   have c0:=(hMo.2.2.cell (p:=⟨g,off+j,none⟩) hg).trans (HCE.out j hlt)
   have hl2:g < wr.heap.size:=Nat.lt_of_lt_of_le hg hMo.2.2.size
   generalize hfj:S j=fj at c0
   have HFJ:=hid_of hfj
   clear hfj
   by_cases hm:j % 2 < 1
   ·have dm:decide ((j:Int) % 2 < 1)=true:=decide_eq_true (by omega)
    have dm2:(j:Int) % 2 < 1:=by omega
    have HCL:Hid (covL 2 S (j+1)=covL 2 S j ++ [fj]):=by
     show _=_
     rw[← HFJ.out]
     show (if j % 2 < 2 - 1 then covL 2 S j ++ [S j] else covL 2 S j)=_
     rw[if_pos (by omega)]
    have HALL:Hid (∀ i,i < j+1→i % 2=1→S i=65535):=fun i hi he=>hS.out.2.2 i (by omega) he
    have HNR:=hid_of hS.out.2.1
    have HLn:Hid ((covL 2 S j).length≤j):=covL_length _ _ _
    have HMo:=hid_of hMo
    clear hMo hm hS
    go_wp2_with (at_builtin; refine nums_append1 (S:=w.heap.size) (xs:=covL 2 S j) rfl _ _ rfl rfl (HNR.out.called (bstart _ _)) wr.heap.size 1 fj rfl ((cell_of_block (heap_alloc_new wr (.cells #[.int .i64 fj] 3)) 0).trans rfl) (by have:=HLn.out; omega) (by have:=HMo.out.2.2.size; simp; omega) ?_)
    intro v1 w1 y1 y2 y3
    have HS1:Hid (CvI w #[.int .i64 hw,.int .i64 hh,.int .i64 16,.int .i64 4,.bool lace,.slice ta tn tc,.slice ca cn cc,.int .i64 rw',.int .i64 rh,.int .i64 rc,.int .i64 rd,.slice (some ⟨g,off,none⟩) (2 * N) sc,.slice ka kn kc] 2 1 65535 S v1 (j+1) w1):=by
     refine⟨?_,by rw [HCL.out]; exact y1,HALL.out⟩
     have hM0:=HMo.out.called (bstart wr (.cells #[.int .i64 fj] 3))
     obtain⟨q1,⟨Z,q2,qz⟩,q3⟩:=hM0
     have hne:∀ (b:Nat) (cs:Array Value),(wr.alloc (.cells #[.int .i64 fj] 3)).heap[b]?=some (.cells cs 37 (0,0))→w1.heap[b]?=(wr.alloc (.cells #[.int .i64 fj] 3)).heap[b]?:=fun b cs hb=>y2.block b (block_lt hb) (fun e=>by
      have hr:=HNR.out.called (bstart wr (.cells #[.int .i64 fj] 3))
      rcases hr.2 with ⟨h,_⟩ | ⟨g1,cap,cur,h,_,q5,_⟩
      ·rw[h] at e; simp [Value.ownBlock] at e
      ·rw[h] at e
       simp[Value.ownBlock] at e
       rw[e,q5] at hb
       cases hb)
     exact⟨(hne _ _ q1).trans q1,⟨Z,(hne _ _ q2).trans q2,qz⟩,q3.grown y2 (by have:=HMo.out.2.2.size; simp; omega) (fun b hb=>(HNR.out.lt b hb).1)⟩
    clear y1 y2 y3 HNR HCL HALL HMo
    go_wp2_with fail
    go_roundg (2 * N - (j+1))
    case measure=>omega
    case rel=>exact⟨j+1,by omega,by go_num,Nat.le_refl _,HS1⟩
   ·have dm:decide ((j:Int) % 2 < 1)=false:=decide_eq_false (by omega)
    have dm2:¬ (j:Int) % 2 < 1:=by omega
    have HCL:Hid (covL 2 S (j+1)=covL 2 S j):=by
     show (if j % 2 < 2 - 1 then covL 2 S j ++ [S j] else covL 2 S j)=_
     rw[if_neg (by omega)]
    have HALL:Hid (fj=65535→∀ i,i < j+1→i % 2=1→S i=65535):=fun hf i hi he=>by
     by_cases e:i=j
     ·rw[e,HFJ.out,hf]
     ·exact hS.out.2.2 i (by omega) he
    have HNOT:Hid (¬ fj=65535→¬ ∀ k,k < N→S (2 * k+1)=65535):=fun hf h=>by
     have h1:=h (j / 2) (by omega)
     rw[show 2 * (j / 2)+1=j by omega,HFJ.out] at h1
     exact hf h1
    have HNR:=hid_of hS.out.2.1
    have HMo:=hid_of hMo
    clear hMo hm hS
    go_wp2_with fail
    clear lm m0 m1 m2 m3 m4 m5 m6 m7 m8 m9 m10 m11 m12
    refine wp_region_held (S:=fun Y=>Y=wr.drew) (by kernel_rfl) ?_
    show wpAnyH _ _ _ _ _ _ _ _ wr.drew
    have HM1:Hid (MoP w #[.int .i64 hw,.int .i64 hh,.int .i64 16,.int .i64 4,.bool lace,.slice ta tn tc,.slice ca cn cc,.int .i64 rw',.int .i64 rh,.int .i64 rc,.int .i64 rd,.slice (some ⟨g,off,none⟩) (2 * N) sc,.slice ka kn kc] wr.drew∧NumRow wr.drew w.heap.size u5 (covL 2 S j)):=⟨HMo.out.called (bdraws (Below.refl _ _) 1),HNR.out.called (bdraws (Below.refl _ _) 1)⟩
    have c1:wr.drew.cell? ⟨g,off+j,none⟩=some (.int .i64 fj):=c0
    have HSx:(fun Y=>Y=wr.drew) wr.drew:=rfl
    have lg:g < wr.drew.heap.size:=hl2
    generalize wr.drew=u0 at HM1 c1 HSx lg ⊢
    clear c0 hl2 HMo HNR
    refine zqt 0 (.pointer (some ⟨w.heap.size,7,none⟩)) rfl ?_ HSx ?_
    ·intro w' _
     go_simp
    simp only [Act.put,zga,zgb,zsa,zsb,zsc]
    refine zqt 1 (.pointer (some ⟨w.heap.size,11,none⟩)) rfl ?_ HSx ?_
    ·intro w' _
     go_simp
    simp only [Act.put,zga,zgb,zgc,zsa,zsb,zsc]
    refine zqt 2 (.slice (some ⟨g,off,none⟩) (2 * N) sc) rfl ?_ HSx ?_
    ·intro w' hS
     subst hS; obtain⟨b0,b1,b2,b3,b4,b5,b6,b7,b8,b9,b10,b11,b12⟩:=zqc HM1.out.1.1; have bl:=block_lt HM1.out.1.1
     go_simp
    simp only [Act.put,zga,zgb,zgc,zsa,zsb,zsc]
    refine zqt 3 (.int .i64 (j:Int)) rfl ?_ HSx ?_
    ·intro w' _
     go_simp
    simp only [Act.put,zga,zgb,zgc,zsa,zsb,zsc]
    refine zqt 4 (.pointer (some ⟨g,off+j,none⟩)) rfl ?_ HSx ?_
    ·intro w' _
     go_simp
    simp only [Act.put,zga,zgb,zgc,zsa,zsb,zsc]
    refine zqt 5 (.int .i64 fj) rfl ?_ HSx ?_
    ·intro w' hS
     subst hS
     go_simp
    simp only [Act.put,zga,zgb,zgc,zsa,zsb,zsc]
    refine zqt 6 (.pointer (some ⟨w.heap.size,0,none⟩)) rfl ?_ HSx ?_
    ·intro w' _
     go_simp
    simp only [Act.put,zga,zgb,zgc,zsa,zsb,zsc]
    refine zqt 7 (.pointer (some ⟨w.heap.size,2,none⟩)) rfl ?_ HSx ?_
    ·intro w' _
     go_simp
    simp only [Act.put,zga,zgb,zgc,zsa,zsb,zsc]
    refine zqt 8 (.int .i64 16) rfl ?_ HSx ?_
    ·intro w' hS
     subst hS; obtain⟨b0,b1,b2,b3,b4,b5,b6,b7,b8,b9,b10,b11,b12⟩:=zqc HM1.out.1.1; have bl:=block_lt HM1.out.1.1
     go_simp
    simp only [Act.put,zga,zgb,zgc,zsa,zsb,zsc]
    refine zqr 9 rfl (fun K1 hK=>?_)
    refine if_wanted (wanted_none rfl) ?_
    simp only [zga,zgb,zgc]
    go_simp
    refine (hpw _).mono ?_
    rintro e u1 ⟨rfl,q⟩
    obtain rfl:=q
    refine hK.out _ _ HSx (fun _=>?_)
    clear hK
    refine zqt 10 (.int .i64 65535) rfl ?_ HSx ?_
    ·intro w' _
     go_simp
     rfl
    simp only [Act.put,zga,zgb,zgc,zsa,zsb,zsc]
    by_cases hf:fj=65535
    ·have nf:(fj != 65535)=false:=by simpa using hf
     have HA:=hid_of (HALL.out hf)
     clear hf c1
     refine zqt 11 (.bool false) rfl ?_ HSx ?_
     ·intro w' _
      go_simp
     simp only [Act.put,zga,zgb,zgc,zsa,zsb,zsc]
     refine wpAnyH_done (by kernel_rfl) ?_ _
     have HS1:Hid (CvI w #[.int .i64 hw,.int .i64 hh,.int .i64 16,.int .i64 4,.bool lace,.slice ta tn tc,.slice ca cn cc,.int .i64 rw',.int .i64 rh,.int .i64 rc,.int .i64 rd,.slice (some ⟨g,off,none⟩) (2 * N) sc,.slice ka kn kc] 2 1 65535 S u5 (j+1) u1):=⟨HM1.out.1,by rw [HCL.out]; exact HM1.out.2,HA.out⟩
     clear HSx HM1 HA HCL HALL HNOT nf lg
     go_wp2_with fail
     go_roundg (2 * N - (j+1))
     case measure=>omega
     case rel=>exact⟨j+1,by omega,by go_num,Nat.le_refl _,HS1⟩
    ·have nf:(fj != 65535)=true:=by simpa using hf
     have HN:=hid_of (HNo.out fun h=>HNOT.out hf h.2)
     clear hf c1
     refine zqt 11 (.bool true) rfl ?_ HSx ?_
     ·intro w' _
      go_simp
     simp only [Act.put,zga,zgb,zgc,zsa,zsb,zsc]
     refine wpAnyH_done (by kernel_rfl) ?_ _
     have HM2:=hid_of HM1.out.1
     clear HSx HM1 HALL HCL HNOT nf lg HYes HMk hr hpw
     obtain⟨⟨z0,z1,z2,z3,z4,z5,z6,z7,z8,z9,z10,z11,z12,y0,y1,y2,y3,y4,y5,y6,y7,y8,y9,y10,y11,y12⟩,yf,yl⟩:=HM2.out.cells
     go_wp2_with fail
     refine bodyPost_ret (v:=.tuple #[.agg #[.int .i64 0,.int .i64 0,.int .i64 0,.int .i64 0,.bool false,.slice none 0 0,.slice none 0 0,.int .i64 0,.int .i64 0,.int .i64 0,.int .i64 0,.slice none 0 0,.slice none 0 0],.bool false]) ?_ rfl (HN.out _ ?_)
     ·simp[results,Tryz.results9,go_sem, *]
     ·exact HM2.out.stored _ _ _ _ _ _ _ _ _ _ _ _ _ 
  ·obtain rfl:j=2 * N:=by omega
   have dl:decide (((2 * N:Nat):Int) < ((2 * N:Nat):Int))=false:=decide_eq_false (by omega)
   have dl2:¬ ((2 * N:Nat):Int) < 2 * (N:Int):=by omega
   obtain⟨a1,c1,e1,_⟩:=hS.out.2.1.form
   have hlen:(covL 2 S (2 * N)).length=N:=by
    rw[covL_whole 2 (by omega)]
    simp
   have HL:Hid (SL wr w.heap.size a1 (N) c1 (tkF 2 0 1 S)∧N≤c1∧c1≤maxLen):=by
    have q:=hS.out.2.1
    rw[e1,hlen] at q
    refine⟨(sl_of_num q hlen.symm).congr fun i hi=>?_,q.max⟩
    rw[covL_whole 2 (by omega),List.getD_eq_getElem?_getD,List.getElem?_eq_getElem (by simp; omega)]
    simp
   rw[hlen] at e1
   obtain rfl:=e1
   have HYA:=hid_of (HYes.out ⟨HM.out,fun k hk2=>hS.out.2.2 _ (by omega) (by omega)⟩)
   have H3:=hid_of (hMo.called (bstart wr (.cells #[] 3)))
   have HL2:Hid (SL (wr.alloc (.cells #[] 3)) w.heap.size a1 (N) c1 (tkF 2 0 1 S)∧N≤c1∧c1≤maxLen):=⟨HL.out.1.called (bstart _ _),HL.out.2⟩
   clear hMo hlt hS HL HYes HNo HM hlen
   go_wp2_with fail
   clear lm m0 m1 m2 m3 m4 m5 m6 m7 m8 m9 m10 m11 m12
   refine (hr a1 (N) c1 (some ⟨wr.heap.size,0,none⟩) 0 _ (HP.out.called H3.out.2.2)).mono ?_
   rintro e w5 ⟨kk,kc1,he,hk3,hB⟩
   simp only [HE.out.1,HE.out.2.1,HE.out.2.2.1,HE.out.2.2.2.1,HE.out.2.2.2.2] at he hk3
   subst he
   have H5:Hid (WP w #[.int .i64 hw,.int .i64 hh,.int .i64 16,.int .i64 4,.bool lace,.slice ta tn tc,.slice ca cn cc,.int .i64 rw',.int .i64 rh,.int .i64 rc,.int .i64 rd,.slice (some ⟨g,off,none⟩) (2 * N) sc,.slice ka kn kc] (withP p0 0 16 (N) (tkF 2 0 1 S) 0 (fun _=>0)) ⟨none,0,some ⟨wr.heap.size,0,none⟩,0,a1,c1,kk,kc1⟩ w5):=⟨H3.out.called hB,HMk.out _ _ _ _ _ _ _ (HL2.out.1.called hB) (ksl_low2 hk3 H3.out.2.2.size) HL2.out.2⟩
   clear hB hk3 H3 HL2 HMk hr
   obtain⟨⟨z0,z1,z2,z3,z4,z5,z6,z7,z8,z9,z10,z11,z12,y0,y1,y2,y3,y4,y5,y6,y7,y8,y9,y10,y11,y12⟩,yf,yl⟩:=H5.out.m.cells
   go_wp2_with fail
   refine bodyPost_ret (v:=.tuple #[.agg #[.int .i64 hw,.int .i64 hh,.int .i64 16,.int .i64 0,.bool lace,.slice none 0 0,.slice (some ⟨wr.heap.size,0,none⟩) 0 0,.int .i64 hw,.int .i64 hh,.int .i64 0,.int .i64 16,.slice a1 (N) c1,.slice kk kn kc1],.bool true]) ?_ rfl (HYA.out _ _ _ _ _ _ _ ?_ ?_)
   ·simp[results,Tryz.results9,go_sem, *]
   ·exact (H5.out.stored _ _ _ _ _ _ _ _ _ _ _ _ _ ).1
   ·exact (H5.out.stored _ _ _ _ _ _ _ _ _ _ _ _ _ ).2
set_option maxRecDepth 100000 in
set_option maxHeartbeats 6400000 in
theorem specCov_6_8 (p:Pic) (q:PicA) (w:World) (hP:PngIn w p q) (hZ:PngSz p) (hcc:p.hc=6) (hdd:p.hd=8) (hM:MayR p):
  Calls Tryz.prog 9 #[pngV p q] w (LessPost (MayR p∧∀ k,k < pixN p→p.S (4 * k+3)=255) (withP p 2 8 (3 * pixN p) (tkF 4 0 3 p.S) 0 (fun _=>0)) w):=by
 have hmay:=fun W h=>specMayQ p q 4 6 W h hZ
 have hch:=fun W=>specChannels 6 W
 rw[show chan 6=(4:Int) by decide] at hch
 have hpw:=fun W=>pow_any 8 W (by omega)
 rw[show p2 8=(256:Int) by decide +kernel] at hpw
 have hr:=fun ya yn yc xa xc W (h:PngIn W p q)=>specWith p q 2 8 ya yn yc xa 0 xc W h.k (by have:=(png_fits hM.1).2.2.2.2; omega)
 have HNo:Hid (¬ (MayR p∧∀ k,k < pixN p→p.S (4 * k+3)=255)→∀ W,Below w.heap.size w W→LessPost (MayR p∧∀ k,k < pixN p→p.S (4 * k+3)=255) (withP p 2 8 (3 * pixN p) (tkF 4 0 3 p.S) 0 (fun _=>0)) w (.returned (.tuple #[.agg #[.int .i64 0,.int .i64 0,.int .i64 0,.int .i64 0,.bool false,.slice none 0 0,.slice none 0 0,.int .i64 0,.int .i64 0,.int .i64 0,.int .i64 0,.slice none 0 0,.slice none 0 0],.bool false])) W):=fun h W b=>.inl ⟨h,rfl,b⟩
 have HYes:Hid ((MayR p∧∀ k,k < pixN p→p.S (4 * k+3)=255)→∀ (W:World) (a xa ka:Option Addr) (c xc kc:Nat),PngSL W w.heap.size (withP p 2 8 (3 * pixN p) (tkF 4 0 3 p.S) 0 (fun _=>0)) ⟨none,0,xa,xc,a,c,ka,kc⟩→Below w.heap.size w W→LessPost (MayR p∧∀ k,k < pixN p→p.S (4 * k+3)=255) (withP p 2 8 (3 * pixN p) (tkF 4 0 3 p.S) 0 (fun _=>0)) w (.returned (.tuple #[.agg #[.int .i64 p.hw,.int .i64 p.hh,.int .i64 8,.int .i64 2,.bool p.lace,.slice none 0 0,.slice xa 0 xc,.int .i64 p.hw,.int .i64 p.hh,.int .i64 2,.int .i64 8,.slice a (3 * pixN p) c,.slice ka p.kn kc],.bool true])) W):=fun h W a xa ka c xc kc h1 h6=>.inr ⟨h,_,rfl,h1,h6⟩
 have HMk:Hid (∀ (W:World) (a xa ka:Option Addr) (c xc kc:Nat),SL W w.heap.size a (3 * pixN p) c (tkF 4 0 3 p.S)→KSL W w.heap.size ka p.kn p.K→3 * pixN p≤c∧c≤maxLen→PngSL W w.heap.size (withP p 2 8 (3 * pixN p) (tkF 4 0 3 p.S) 0 (fun _=>0)) ⟨none,0,xa,xc,a,c,ka,kc⟩):=fun W a xa ka c xc kc h1 h3 h5=>⟨.inl rfl,.inl rfl,h1,h3,.inl rfl,h5⟩
 have hsn:p.sn=4 * pixN p:=by have:=(png_n hM.1).1; rw [hcc,show chanN 6=4 by decide] at this; exact this
 have hN1:=(png_n hM.1).2.1
 have hN2:=(png_n hM.1).2.2
 have HC:Hid (Came w q.sa p.sn p.S):=hP.s
 have HM:=hid_of hM
 have HP:=hid_of hP
 have HMM:Hid (MayR p∧(p.hc=4∨p.hc=6)):=⟨hM,by omega⟩
 clear hP hZ hM
 obtain⟨N,hNN⟩:∃ N,N=pixN p:=⟨_,rfl⟩
 rw[← hNN] at hsn hN1 hN2 HNo HYes HMk ⊢
 obtain⟨p0,hp0⟩:∃ p0,p0=p:=⟨_,rfl⟩
 obtain⟨hw,hh,hd,hc',lace,tn,T,cn,C,rw',rh,rc,rd,sn,S,kn,K⟩:=p
 obtain⟨ta,tc,ca,cc,sa,sc,ka,kc⟩:=q
 simp only [pngV] at hmay hr hsn HYes HNo HMk HC HMM ⊢
 replace hcc:hc'=6:=hcc
 replace hdd:hd=8:=hdd
 have HE:Hid (p0.kn=kn∧p0.K=K∧p0.hw=hw∧p0.hh=hh∧p0.lace=lace):=by rw [hp0]; exact⟨rfl,rfl,rfl,rfl,rfl⟩
 have HMQ:Hid (MayR p0∧(p0.hc=4∨p0.hc=6)):=by rw [hp0]; exact HMM.out
 rw[← hp0] at hmay hr HP HYes HNo HMk HM ⊢
 clear hp0 hNN HMM
 subst hcc hdd hsn
 obtain⟨g,off,rfl,hg,hc⟩:∃ g off,sa=some ⟨g,off,none⟩∧g < w.heap.size∧∀ j,j < 4 * N→w.cell? ⟨g,off+j,none⟩=some (.int .i64 (S j)):=by
  rcases HC.out with h | h
  ·omega
  ·exact h
 have HCE:=hid_of hc
 clear hc HC
 have H0:Hid (MoP w #[.int .i64 hw,.int .i64 hh,.int .i64 8,.int .i64 6,.bool lace,.slice ta tn tc,.slice ca cn cc,.int .i64 rw',.int .i64 rh,.int .i64 rc,.int .i64 rd,.slice (some ⟨g,off,none⟩) (4 * N) sc,.slice ka kn kc] ((w.alloc (.cells #[.int .i64 hw,.int .i64 hh,.int .i64 8,.int .i64 6,.bool lace,.slice ta tn tc,.slice ca cn cc,.int .i64 rw',.int .i64 rh,.int .i64 rc,.int .i64 rd,.slice (some ⟨g,off,none⟩) (4 * N) sc,.slice ka kn kc] 37)).alloc (.cells #[.int .i64 0,.int .i64 0,.int .i64 0,.int .i64 0,.bool false,.slice none 0 0,.slice none 0 0,.int .i64 0,.int .i64 0,.int .i64 0,.int .i64 0,.slice none 0 0,.slice none 0 0] 37))):=MoP.start w _ _ rfl
 go_enter Tryz.func9,Tryz.ntmps9
 go_wp2_with fail
 refine (hmay _ (HP.out.called H0.out.2.2)).mono ?_
 rintro e w1 ⟨b,rfl,hb,hB⟩
 have H1:=hid_of (H0.out.called hB)
 obtain rfl:b=true:=hb.mpr HMQ.out
 clear hB hb H0 hmay HMQ
 have lm:=block_lt H1.out.1
 obtain⟨m0,m1,m2,m3,m4,m5,m6,m7,m8,m9,m10,m11,m12⟩:=zqc H1.out.1
 go_wp2_with fail
 clear lm m0 m1 m2 m3 m4 m5 m6 m7 m8 m9 m10 m11 m12
 refine (hch _).mono ?_
 rintro e w2 ⟨rfl,q⟩
 obtain rfl:=q
 clear hch
 have H2:Hid (CvI w #[.int .i64 hw,.int .i64 hh,.int .i64 8,.int .i64 6,.bool lace,.slice ta tn tc,.slice ca cn cc,.int .i64 rw',.int .i64 rh,.int .i64 rc,.int .i64 rd,.slice (some ⟨g,off,none⟩) (4 * N) sc,.slice ka kn kc] 4 3 255 S (.slice (some ⟨w2.heap.size,0,none⟩) 0 0) 0 (w2.alloc (.cells #[] 3))):=⟨H1.out.called (bstart _ _),NumRow.empty w2 _ H1.out.2.2.size,fun j hj=>absurd hj (Nat.not_lt_zero j)⟩
 clear H1
 go_wp2_with fail
 go_loopg [5,6] (4 * N+1) (fun gk v z u=>∃ j:Nat,j≤4 * N∧z=.int .i64 j∧4 * N - j≤gk∧Hid (CvI w #[.int .i64 hw,.int .i64 hh,.int .i64 8,.int .i64 6,.bool lace,.slice ta tn tc,.slice ca cn cc,.int .i64 rw',.int .i64 rh,.int .i64 rc,.int .i64 rd,.slice (some ⟨g,off,none⟩) (4 * N) sc,.slice ka kn kc] 4 3 255 S v j u))
 case atStart=>exact⟨0,Nat.zero_le _,rfl,by omega,H2⟩
 case round=>
  clear H2
  obtain⟨j,hj,rfl,hk,hS⟩:=hrel
  have hMo:=hS.out.1
  have lm:=block_lt hMo.1
  obtain⟨m0,m1,m2,m3,m4,m5,m6,m7,m8,m9,m10,m11,m12⟩:=zqc hMo.1
  by_cases hlt:j < 4 * N
  ·have dl:decide ((j:Int) < ((4 * N:Nat):Int))=true:=decide_eq_true (by omega)
   have dl2:(j:Int) < 4 * (N:Int):=by omega
   have c0:=(hMo.2.2.cell (p:=⟨g,off+j,none⟩) hg).trans (HCE.out j hlt)
   have hl2:g < wr.heap.size:=Nat.lt_of_lt_of_le hg hMo.2.2.size
   generalize hfj:S j=fj at c0
   have HFJ:=hid_of hfj
   clear hfj
   by_cases hm:j % 4 < 3
   ·have dm:decide ((j:Int) % 4 < 3)=true:=decide_eq_true (by omega)
    have dm2:(j:Int) % 4 < 3:=by omega
    have HCL:Hid (covL 4 S (j+1)=covL 4 S j ++ [fj]):=by
     show _=_
     rw[← HFJ.out]
     show (if j % 4 < 4 - 1 then covL 4 S j ++ [S j] else covL 4 S j)=_
     rw[if_pos (by omega)]
    have HALL:Hid (∀ i,i < j+1→i % 4=3→S i=255):=fun i hi he=>hS.out.2.2 i (by omega) he
    have HNR:=hid_of hS.out.2.1
    have HLn:Hid ((covL 4 S j).length≤j):=covL_length _ _ _
    have HMo:=hid_of hMo
    clear hMo hm hS
    go_wp2_with (at_builtin; refine nums_append1 (S:=w.heap.size) (xs:=covL 4 S j) rfl _ _ rfl rfl (HNR.out.called (bstart _ _)) wr.heap.size 1 fj rfl ((cell_of_block (heap_alloc_new wr (.cells #[.int .i64 fj] 3)) 0).trans rfl) (by have:=HLn.out; omega) (by have:=HMo.out.2.2.size; simp; omega) ?_)
    intro v1 w1 y1 y2 y3
    have HS1:Hid (CvI w #[.int .i64 hw,.int .i64 hh,.int .i64 8,.int .i64 6,.bool lace,.slice ta tn tc,.slice ca cn cc,.int .i64 rw',.int .i64 rh,.int .i64 rc,.int .i64 rd,.slice (some ⟨g,off,none⟩) (4 * N) sc,.slice ka kn kc] 4 3 255 S v1 (j+1) w1):=by
     refine⟨?_,by rw [HCL.out]; exact y1,HALL.out⟩
     have hM0:=HMo.out.called (bstart wr (.cells #[.int .i64 fj] 3))
     obtain⟨q1,⟨Z,q2,qz⟩,q3⟩:=hM0
     have hne:∀ (b:Nat) (cs:Array Value),(wr.alloc (.cells #[.int .i64 fj] 3)).heap[b]?=some (.cells cs 37 (0,0))→w1.heap[b]?=(wr.alloc (.cells #[.int .i64 fj] 3)).heap[b]?:=fun b cs hb=>y2.block b (block_lt hb) (fun e=>by
      have hr:=HNR.out.called (bstart wr (.cells #[.int .i64 fj] 3))
      rcases hr.2 with ⟨h,_⟩ | ⟨g1,cap,cur,h,_,q5,_⟩
      ·rw[h] at e; simp [Value.ownBlock] at e
      ·rw[h] at e
       simp[Value.ownBlock] at e
       rw[e,q5] at hb
       cases hb)
     exact⟨(hne _ _ q1).trans q1,⟨Z,(hne _ _ q2).trans q2,qz⟩,q3.grown y2 (by have:=HMo.out.2.2.size; simp; omega) (fun b hb=>(HNR.out.lt b hb).1)⟩
    clear y1 y2 y3 HNR HCL HALL HMo
    go_wp2_with fail
    go_roundg (4 * N - (j+1))
    case measure=>omega
    case rel=>exact⟨j+1,by omega,by go_num,Nat.le_refl _,HS1⟩
   ·have dm:decide ((j:Int) % 4 < 3)=false:=decide_eq_false (by omega)
    have dm2:¬ (j:Int) % 4 < 3:=by omega
    have HCL:Hid (covL 4 S (j+1)=covL 4 S j):=by
     show (if j % 4 < 4 - 1 then covL 4 S j ++ [S j] else covL 4 S j)=_
     rw[if_neg (by omega)]
    have HALL:Hid (fj=255→∀ i,i < j+1→i % 4=3→S i=255):=fun hf i hi he=>by
     by_cases e:i=j
     ·rw[e,HFJ.out,hf]
     ·exact hS.out.2.2 i (by omega) he
    have HNOT:Hid (¬ fj=255→¬ ∀ k,k < N→S (4 * k+3)=255):=fun hf h=>by
     have h1:=h (j / 4) (by omega)
     rw[show 4 * (j / 4)+3=j by omega,HFJ.out] at h1
     exact hf h1
    have HNR:=hid_of hS.out.2.1
    have HMo:=hid_of hMo
    clear hMo hm hS
    go_wp2_with fail
    clear lm m0 m1 m2 m3 m4 m5 m6 m7 m8 m9 m10 m11 m12
    refine wp_region_held (S:=fun Y=>Y=wr.drew) (by kernel_rfl) ?_
    show wpAnyH _ _ _ _ _ _ _ _ wr.drew
    have HM1:Hid (MoP w #[.int .i64 hw,.int .i64 hh,.int .i64 8,.int .i64 6,.bool lace,.slice ta tn tc,.slice ca cn cc,.int .i64 rw',.int .i64 rh,.int .i64 rc,.int .i64 rd,.slice (some ⟨g,off,none⟩) (4 * N) sc,.slice ka kn kc] wr.drew∧NumRow wr.drew w.heap.size u5 (covL 4 S j)):=⟨HMo.out.called (bdraws (Below.refl _ _) 1),HNR.out.called (bdraws (Below.refl _ _) 1)⟩
    have c1:wr.drew.cell? ⟨g,off+j,none⟩=some (.int .i64 fj):=c0
    have HSx:(fun Y=>Y=wr.drew) wr.drew:=rfl
    have lg:g < wr.drew.heap.size:=hl2
    generalize wr.drew=u0 at HM1 c1 HSx lg ⊢
    clear c0 hl2 HMo HNR
    refine zqt 0 (.pointer (some ⟨w.heap.size,7,none⟩)) rfl ?_ HSx ?_
    ·intro w' _
     go_simp
    simp only [Act.put,zga,zgb,zsa,zsb,zsc]
    refine zqt 1 (.pointer (some ⟨w.heap.size,11,none⟩)) rfl ?_ HSx ?_
    ·intro w' _
     go_simp
    simp only [Act.put,zga,zgb,zgc,zsa,zsb,zsc]
    refine zqt 2 (.slice (some ⟨g,off,none⟩) (4 * N) sc) rfl ?_ HSx ?_
    ·intro w' hS
     subst hS; obtain⟨b0,b1,b2,b3,b4,b5,b6,b7,b8,b9,b10,b11,b12⟩:=zqc HM1.out.1.1; have bl:=block_lt HM1.out.1.1
     go_simp
    simp only [Act.put,zga,zgb,zgc,zsa,zsb,zsc]
    refine zqt 3 (.int .i64 (j:Int)) rfl ?_ HSx ?_
    ·intro w' _
     go_simp
    simp only [Act.put,zga,zgb,zgc,zsa,zsb,zsc]
    refine zqt 4 (.pointer (some ⟨g,off+j,none⟩)) rfl ?_ HSx ?_
    ·intro w' _
     go_simp
    simp only [Act.put,zga,zgb,zgc,zsa,zsb,zsc]
    refine zqt 5 (.int .i64 fj) rfl ?_ HSx ?_
    ·intro w' hS
     subst hS
     go_simp
    simp only [Act.put,zga,zgb,zgc,zsa,zsb,zsc]
    refine zqt 6 (.pointer (some ⟨w.heap.size,0,none⟩)) rfl ?_ HSx ?_
    ·intro w' _
     go_simp
    simp only [Act.put,zga,zgb,zgc,zsa,zsb,zsc]
    refine zqt 7 (.pointer (some ⟨w.heap.size,2,none⟩)) rfl ?_ HSx ?_
    ·intro w' _
     go_simp
    simp only [Act.put,zga,zgb,zgc,zsa,zsb,zsc]
    refine zqt 8 (.int .i64 8) rfl ?_ HSx ?_
    ·intro w' hS
     subst hS; obtain⟨b0,b1,b2,b3,b4,b5,b6,b7,b8,b9,b10,b11,b12⟩:=zqc HM1.out.1.1; have bl:=block_lt HM1.out.1.1
     go_simp
    simp only [Act.put,zga,zgb,zgc,zsa,zsb,zsc]
    refine zqr 9 rfl (fun K1 hK=>?_)
    refine if_wanted (wanted_none rfl) ?_
    simp only [zga,zgb,zgc]
    go_simp
    refine (hpw _).mono ?_
    rintro e u1 ⟨rfl,q⟩
    obtain rfl:=q
    refine hK.out _ _ HSx (fun _=>?_)
    clear hK
    refine zqt 10 (.int .i64 255) rfl ?_ HSx ?_
    ·intro w' _
     go_simp
     rfl
    simp only [Act.put,zga,zgb,zgc,zsa,zsb,zsc]
    by_cases hf:fj=255
    ·have nf:(fj != 255)=false:=by simpa using hf
     have HA:=hid_of (HALL.out hf)
     clear hf c1
     refine zqt 11 (.bool false) rfl ?_ HSx ?_
     ·intro w' _
      go_simp
     simp only [Act.put,zga,zgb,zgc,zsa,zsb,zsc]
     refine wpAnyH_done (by kernel_rfl) ?_ _
     have HS1:Hid (CvI w #[.int .i64 hw,.int .i64 hh,.int .i64 8,.int .i64 6,.bool lace,.slice ta tn tc,.slice ca cn cc,.int .i64 rw',.int .i64 rh,.int .i64 rc,.int .i64 rd,.slice (some ⟨g,off,none⟩) (4 * N) sc,.slice ka kn kc] 4 3 255 S u5 (j+1) u1):=⟨HM1.out.1,by rw [HCL.out]; exact HM1.out.2,HA.out⟩
     clear HSx HM1 HA HCL HALL HNOT nf lg
     go_wp2_with fail
     go_roundg (4 * N - (j+1))
     case measure=>omega
     case rel=>exact⟨j+1,by omega,by go_num,Nat.le_refl _,HS1⟩
    ·have nf:(fj != 255)=true:=by simpa using hf
     have HN:=hid_of (HNo.out fun h=>HNOT.out hf h.2)
     clear hf c1
     refine zqt 11 (.bool true) rfl ?_ HSx ?_
     ·intro w' _
      go_simp
     simp only [Act.put,zga,zgb,zgc,zsa,zsb,zsc]
     refine wpAnyH_done (by kernel_rfl) ?_ _
     have HM2:=hid_of HM1.out.1
     clear HSx HM1 HALL HCL HNOT nf lg HYes HMk hr hpw
     obtain⟨⟨z0,z1,z2,z3,z4,z5,z6,z7,z8,z9,z10,z11,z12,y0,y1,y2,y3,y4,y5,y6,y7,y8,y9,y10,y11,y12⟩,yf,yl⟩:=HM2.out.cells
     go_wp2_with fail
     refine bodyPost_ret (v:=.tuple #[.agg #[.int .i64 0,.int .i64 0,.int .i64 0,.int .i64 0,.bool false,.slice none 0 0,.slice none 0 0,.int .i64 0,.int .i64 0,.int .i64 0,.int .i64 0,.slice none 0 0,.slice none 0 0],.bool false]) ?_ rfl (HN.out _ ?_)
     ·simp[results,Tryz.results9,go_sem, *]
     ·exact HM2.out.stored _ _ _ _ _ _ _ _ _ _ _ _ _ 
  ·obtain rfl:j=4 * N:=by omega
   have dl:decide (((4 * N:Nat):Int) < ((4 * N:Nat):Int))=false:=decide_eq_false (by omega)
   have dl2:¬ ((4 * N:Nat):Int) < 4 * (N:Int):=by omega
   obtain⟨a1,c1,e1,_⟩:=hS.out.2.1.form
   have hlen:(covL 4 S (4 * N)).length=3 * N:=by
    rw[covL_whole 4 (by omega)]
    simp
   have HL:Hid (SL wr w.heap.size a1 (3 * N) c1 (tkF 4 0 3 S)∧3 * N≤c1∧c1≤maxLen):=by
    have q:=hS.out.2.1
    rw[e1,hlen] at q
    refine⟨(sl_of_num q hlen.symm).congr fun i hi=>?_,q.max⟩
    rw[covL_whole 4 (by omega),List.getD_eq_getElem?_getD,List.getElem?_eq_getElem (by simp; omega)]
    simp
   rw[hlen] at e1
   obtain rfl:=e1
   have HYA:=hid_of (HYes.out ⟨HM.out,fun k hk2=>hS.out.2.2 _ (by omega) (by omega)⟩)
   have H3:=hid_of (hMo.called (bstart wr (.cells #[] 3)))
   have HL2:Hid (SL (wr.alloc (.cells #[] 3)) w.heap.size a1 (3 * N) c1 (tkF 4 0 3 S)∧3 * N≤c1∧c1≤maxLen):=⟨HL.out.1.called (bstart _ _),HL.out.2⟩
   clear hMo hlt hS HL HYes HNo HM hlen
   go_wp2_with fail
   clear lm m0 m1 m2 m3 m4 m5 m6 m7 m8 m9 m10 m11 m12
   refine (hr a1 (3 * N) c1 (some ⟨wr.heap.size,0,none⟩) 0 _ (HP.out.called H3.out.2.2)).mono ?_
   rintro e w5 ⟨kk,kc1,he,hk3,hB⟩
   simp only [HE.out.1,HE.out.2.1,HE.out.2.2.1,HE.out.2.2.2.1,HE.out.2.2.2.2] at he hk3
   subst he
   have H5:Hid (WP w #[.int .i64 hw,.int .i64 hh,.int .i64 8,.int .i64 6,.bool lace,.slice ta tn tc,.slice ca cn cc,.int .i64 rw',.int .i64 rh,.int .i64 rc,.int .i64 rd,.slice (some ⟨g,off,none⟩) (4 * N) sc,.slice ka kn kc] (withP p0 2 8 (3 * N) (tkF 4 0 3 S) 0 (fun _=>0)) ⟨none,0,some ⟨wr.heap.size,0,none⟩,0,a1,c1,kk,kc1⟩ w5):=⟨H3.out.called hB,HMk.out _ _ _ _ _ _ _ (HL2.out.1.called hB) (ksl_low2 hk3 H3.out.2.2.size) HL2.out.2⟩
   clear hB hk3 H3 HL2 HMk hr
   obtain⟨⟨z0,z1,z2,z3,z4,z5,z6,z7,z8,z9,z10,z11,z12,y0,y1,y2,y3,y4,y5,y6,y7,y8,y9,y10,y11,y12⟩,yf,yl⟩:=H5.out.m.cells
   go_wp2_with fail
   refine bodyPost_ret (v:=.tuple #[.agg #[.int .i64 hw,.int .i64 hh,.int .i64 8,.int .i64 2,.bool lace,.slice none 0 0,.slice (some ⟨wr.heap.size,0,none⟩) 0 0,.int .i64 hw,.int .i64 hh,.int .i64 2,.int .i64 8,.slice a1 (3 * N) c1,.slice kk kn kc1],.bool true]) ?_ rfl (HYA.out _ _ _ _ _ _ _ ?_ ?_)
   ·simp[results,Tryz.results9,go_sem, *]
   ·exact (H5.out.stored _ _ _ _ _ _ _ _ _ _ _ _ _ ).1
   ·exact (H5.out.stored _ _ _ _ _ _ _ _ _ _ _ _ _ ).2
set_option maxRecDepth 100000 in
set_option maxHeartbeats 6400000 in
theorem specCov_6_16 (p:Pic) (q:PicA) (w:World) (hP:PngIn w p q) (hZ:PngSz p) (hcc:p.hc=6) (hdd:p.hd=16) (hM:MayR p):
  Calls Tryz.prog 9 #[pngV p q] w (LessPost (MayR p∧∀ k,k < pixN p→p.S (4 * k+3)=65535) (withP p 2 16 (3 * pixN p) (tkF 4 0 3 p.S) 0 (fun _=>0)) w):=by
 have hmay:=fun W h=>specMayQ p q 4 6 W h hZ
 have hch:=fun W=>specChannels 6 W
 rw[show chan 6=(4:Int) by decide] at hch
 have hpw:=fun W=>pow_any 16 W (by omega)
 rw[show p2 16=(65536:Int) by decide +kernel] at hpw
 have hr:=fun ya yn yc xa xc W (h:PngIn W p q)=>specWith p q 2 16 ya yn yc xa 0 xc W h.k (by have:=(png_fits hM.1).2.2.2.2; omega)
 have HNo:Hid (¬ (MayR p∧∀ k,k < pixN p→p.S (4 * k+3)=65535)→∀ W,Below w.heap.size w W→LessPost (MayR p∧∀ k,k < pixN p→p.S (4 * k+3)=65535) (withP p 2 16 (3 * pixN p) (tkF 4 0 3 p.S) 0 (fun _=>0)) w (.returned (.tuple #[.agg #[.int .i64 0,.int .i64 0,.int .i64 0,.int .i64 0,.bool false,.slice none 0 0,.slice none 0 0,.int .i64 0,.int .i64 0,.int .i64 0,.int .i64 0,.slice none 0 0,.slice none 0 0],.bool false])) W):=fun h W b=>.inl ⟨h,rfl,b⟩
 have HYes:Hid ((MayR p∧∀ k,k < pixN p→p.S (4 * k+3)=65535)→∀ (W:World) (a xa ka:Option Addr) (c xc kc:Nat),PngSL W w.heap.size (withP p 2 16 (3 * pixN p) (tkF 4 0 3 p.S) 0 (fun _=>0)) ⟨none,0,xa,xc,a,c,ka,kc⟩→Below w.heap.size w W→LessPost (MayR p∧∀ k,k < pixN p→p.S (4 * k+3)=65535) (withP p 2 16 (3 * pixN p) (tkF 4 0 3 p.S) 0 (fun _=>0)) w (.returned (.tuple #[.agg #[.int .i64 p.hw,.int .i64 p.hh,.int .i64 16,.int .i64 2,.bool p.lace,.slice none 0 0,.slice xa 0 xc,.int .i64 p.hw,.int .i64 p.hh,.int .i64 2,.int .i64 16,.slice a (3 * pixN p) c,.slice ka p.kn kc],.bool true])) W):=fun h W a xa ka c xc kc h1 h6=>.inr ⟨h,_,rfl,h1,h6⟩
 have HMk:Hid (∀ (W:World) (a xa ka:Option Addr) (c xc kc:Nat),SL W w.heap.size a (3 * pixN p) c (tkF 4 0 3 p.S)→KSL W w.heap.size ka p.kn p.K→3 * pixN p≤c∧c≤maxLen→PngSL W w.heap.size (withP p 2 16 (3 * pixN p) (tkF 4 0 3 p.S) 0 (fun _=>0)) ⟨none,0,xa,xc,a,c,ka,kc⟩):=fun W a xa ka c xc kc h1 h3 h5=>⟨.inl rfl,.inl rfl,h1,h3,.inl rfl,h5⟩
 have hsn:p.sn=4 * pixN p:=by have:=(png_n hM.1).1; rw [hcc,show chanN 6=4 by decide] at this; exact this
 have hN1:=(png_n hM.1).2.1
 have hN2:=(png_n hM.1).2.2
 have HC:Hid (Came w q.sa p.sn p.S):=hP.s
 have HM:=hid_of hM
 have HP:=hid_of hP
 have HMM:Hid (MayR p∧(p.hc=4∨p.hc=6)):=⟨hM,by omega⟩
 clear hP hZ hM
 obtain⟨N,hNN⟩:∃ N,N=pixN p:=⟨_,rfl⟩
 rw[← hNN] at hsn hN1 hN2 HNo HYes HMk ⊢
 obtain⟨p0,hp0⟩:∃ p0,p0=p:=⟨_,rfl⟩
 obtain⟨hw,hh,hd,hc',lace,tn,T,cn,C,rw',rh,rc,rd,sn,S,kn,K⟩:=p
 obtain⟨ta,tc,ca,cc,sa,sc,ka,kc⟩:=q
 simp only [pngV] at hmay hr hsn HYes HNo HMk HC HMM ⊢
 replace hcc:hc'=6:=hcc
 replace hdd:hd=16:=hdd
 have HE:Hid (p0.kn=kn∧p0.K=K∧p0.hw=hw∧p0.hh=hh∧p0.lace=lace):=by rw [hp0]; exact⟨rfl,rfl,rfl,rfl,rfl⟩
 have HMQ:Hid (MayR p0∧(p0.hc=4∨p0.hc=6)):=by rw [hp0]; exact HMM.out
 rw[← hp0] at hmay hr HP HYes HNo HMk HM ⊢
 clear hp0 hNN HMM
 subst hcc hdd hsn
 obtain⟨g,off,rfl,hg,hc⟩:∃ g off,sa=some ⟨g,off,none⟩∧g < w.heap.size∧∀ j,j < 4 * N→w.cell? ⟨g,off+j,none⟩=some (.int .i64 (S j)):=by
  rcases HC.out with h | h
  ·omega
  ·exact h
 have HCE:=hid_of hc
 clear hc HC
 have H0:Hid (MoP w #[.int .i64 hw,.int .i64 hh,.int .i64 16,.int .i64 6,.bool lace,.slice ta tn tc,.slice ca cn cc,.int .i64 rw',.int .i64 rh,.int .i64 rc,.int .i64 rd,.slice (some ⟨g,off,none⟩) (4 * N) sc,.slice ka kn kc] ((w.alloc (.cells #[.int .i64 hw,.int .i64 hh,.int .i64 16,.int .i64 6,.bool lace,.slice ta tn tc,.slice ca cn cc,.int .i64 rw',.int .i64 rh,.int .i64 rc,.int .i64 rd,.slice (some ⟨g,off,none⟩) (4 * N) sc,.slice ka kn kc] 37)).alloc (.cells #[.int .i64 0,.int .i64 0,.int .i64 0,.int .i64 0,.bool false,.slice none 0 0,.slice none 0 0,.int .i64 0,.int .i64 0,.int .i64 0,.int .i64 0,.slice none 0 0,.slice none 0 0] 37))):=MoP.start w _ _ rfl
 go_enter Tryz.func9,Tryz.ntmps9
 go_wp2_with fail
 refine (hmay _ (HP.out.called H0.out.2.2)).mono ?_
 rintro e w1 ⟨b,rfl,hb,hB⟩
 have H1:=hid_of (H0.out.called hB)
 obtain rfl:b=true:=hb.mpr HMQ.out
 clear hB hb H0 hmay HMQ
 have lm:=block_lt H1.out.1
 obtain⟨m0,m1,m2,m3,m4,m5,m6,m7,m8,m9,m10,m11,m12⟩:=zqc H1.out.1
 go_wp2_with fail
 clear lm m0 m1 m2 m3 m4 m5 m6 m7 m8 m9 m10 m11 m12
 refine (hch _).mono ?_
 rintro e w2 ⟨rfl,q⟩
 obtain rfl:=q
 clear hch
 have H2:Hid (CvI w #[.int .i64 hw,.int .i64 hh,.int .i64 16,.int .i64 6,.bool lace,.slice ta tn tc,.slice ca cn cc,.int .i64 rw',.int .i64 rh,.int .i64 rc,.int .i64 rd,.slice (some ⟨g,off,none⟩) (4 * N) sc,.slice ka kn kc] 4 3 65535 S (.slice (some ⟨w2.heap.size,0,none⟩) 0 0) 0 (w2.alloc (.cells #[] 3))):=⟨H1.out.called (bstart _ _),NumRow.empty w2 _ H1.out.2.2.size,fun j hj=>absurd hj (Nat.not_lt_zero j)⟩
 clear H1
 go_wp2_with fail
 go_loopg [5,6] (4 * N+1) (fun gk v z u=>∃ j:Nat,j≤4 * N∧z=.int .i64 j∧4 * N - j≤gk∧Hid (CvI w #[.int .i64 hw,.int .i64 hh,.int .i64 16,.int .i64 6,.bool lace,.slice ta tn tc,.slice ca cn cc,.int .i64 rw',.int .i64 rh,.int .i64 rc,.int .i64 rd,.slice (some ⟨g,off,none⟩) (4 * N) sc,.slice ka kn kc] 4 3 65535 S v j u))
 case atStart=>exact⟨0,Nat.zero_le _,rfl,by omega,H2⟩
 case round=>
  clear H2
  obtain⟨j,hj,rfl,hk,hS⟩:=hrel
  have hMo:=hS.out.1
  have lm:=block_lt hMo.1
  obtain⟨m0,m1,m2,m3,m4,m5,m6,m7,m8,m9,m10,m11,m12⟩:=zqc hMo.1
  by_cases hlt:j < 4 * N
  ·have dl:decide ((j:Int) < ((4 * N:Nat):Int))=true:=decide_eq_true (by omega)
   have dl2:(j:Int) < 4 * (N:Int):=by omega
   have c0:=(hMo.2.2.cell (p:=⟨g,off+j,none⟩) hg).trans (HCE.out j hlt)
   have hl2:g < wr.heap.size:=Nat.lt_of_lt_of_le hg hMo.2.2.size
   generalize hfj:S j=fj at c0
   have HFJ:=hid_of hfj
   clear hfj
   by_cases hm:j % 4 < 3
   ·have dm:decide ((j:Int) % 4 < 3)=true:=decide_eq_true (by omega)
    have dm2:(j:Int) % 4 < 3:=by omega
    have HCL:Hid (covL 4 S (j+1)=covL 4 S j ++ [fj]):=by
     show _=_
     rw[← HFJ.out]
     show (if j % 4 < 4 - 1 then covL 4 S j ++ [S j] else covL 4 S j)=_
     rw[if_pos (by omega)]
    have HALL:Hid (∀ i,i < j+1→i % 4=3→S i=65535):=fun i hi he=>hS.out.2.2 i (by omega) he
    have HNR:=hid_of hS.out.2.1
    have HLn:Hid ((covL 4 S j).length≤j):=covL_length _ _ _
    have HMo:=hid_of hMo
    clear hMo hm hS
    go_wp2_with (at_builtin; refine nums_append1 (S:=w.heap.size) (xs:=covL 4 S j) rfl _ _ rfl rfl (HNR.out.called (bstart _ _)) wr.heap.size 1 fj rfl ((cell_of_block (heap_alloc_new wr (.cells #[.int .i64 fj] 3)) 0).trans rfl) (by have:=HLn.out; omega) (by have:=HMo.out.2.2.size; simp; omega) ?_)
    intro v1 w1 y1 y2 y3
    have HS1:Hid (CvI w #[.int .i64 hw,.int .i64 hh,.int .i64 16,.int .i64 6,.bool lace,.slice ta tn tc,.slice ca cn cc,.int .i64 rw',.int .i64 rh,.int .i64 rc,.int .i64 rd,.slice (some ⟨g,off,none⟩) (4 * N) sc,.slice ka kn kc] 4 3 65535 S v1 (j+1) w1):=by
     refine⟨?_,by rw [HCL.out]; exact y1,HALL.out⟩
     have hM0:=HMo.out.called (bstart wr (.cells #[.int .i64 fj] 3))
     obtain⟨q1,⟨Z,q2,qz⟩,q3⟩:=hM0
     have hne:∀ (b:Nat) (cs:Array Value),(wr.alloc (.cells #[.int .i64 fj] 3)).heap[b]?=some (.cells cs 37 (0,0))→w1.heap[b]?=(wr.alloc (.cells #[.int .i64 fj] 3)).heap[b]?:=fun b cs hb=>y2.block b (block_lt hb) (fun e=>by
      have hr:=HNR.out.called (bstart wr (.cells #[.int .i64 fj] 3))
      rcases hr.2 with ⟨h,_⟩ | ⟨g1,cap,cur,h,_,q5,_⟩
      ·rw[h] at e; simp [Value.ownBlock] at e
      ·rw[h] at e
       simp[Value.ownBlock] at e
       rw[e,q5] at hb
       cases hb)
     exact⟨(hne _ _ q1).trans q1,⟨Z,(hne _ _ q2).trans q2,qz⟩,q3.grown y2 (by have:=HMo.out.2.2.size; simp; omega) (fun b hb=>(HNR.out.lt b hb).1)⟩
    clear y1 y2 y3 HNR HCL HALL HMo
    go_wp2_with fail
    go_roundg (4 * N - (j+1))
    case measure=>omega
    case rel=>exact⟨j+1,by omega,by go_num,Nat.le_refl _,HS1⟩
   ·have dm:decide ((j:Int) % 4 < 3)=false:=decide_eq_false (by omega)
    have dm2:¬ (j:Int) % 4 < 3:=by omega
    have HCL:Hid (covL 4 S (j+1)=covL 4 S j):=by
     show (if j % 4 < 4 - 1 then covL 4 S j ++ [S j] else covL 4 S j)=_
     rw[if_neg (by omega)]
    have HALL:Hid (fj=65535→∀ i,i < j+1→i % 4=3→S i=65535):=fun hf i hi he=>by
     by_cases e:i=j
     ·rw[e,HFJ.out,hf]
     ·exact hS.out.2.2 i (by omega) he
    have HNOT:Hid (¬ fj=65535→¬ ∀ k,k < N→S (4 * k+3)=65535):=fun hf h=>by
     have h1:=h (j / 4) (by omega)
     rw[show 4 * (j / 4)+3=j by omega,HFJ.out] at h1
     exact hf h1
    have HNR:=hid_of hS.out.2.1
    have HMo:=hid_of hMo
    clear hMo hm hS
    go_wp2_with fail
    clear lm m0 m1 m2 m3 m4 m5 m6 m7 m8 m9 m10 m11 m12
    refine wp_region_held (S:=fun Y=>Y=wr.drew) (by kernel_rfl) ?_
    show wpAnyH _ _ _ _ _ _ _ _ wr.drew
    have HM1:Hid (MoP w #[.int .i64 hw,.int .i64 hh,.int .i64 16,.int .i64 6,.bool lace,.slice ta tn tc,.slice ca cn cc,.int .i64 rw',.int .i64 rh,.int .i64 rc,.int .i64 rd,.slice (some ⟨g,off,none⟩) (4 * N) sc,.slice ka kn kc] wr.drew∧NumRow wr.drew w.heap.size u5 (covL 4 S j)):=⟨HMo.out.called (bdraws (Below.refl _ _) 1),HNR.out.called (bdraws (Below.refl _ _) 1)⟩
    have c1:wr.drew.cell? ⟨g,off+j,none⟩=some (.int .i64 fj):=c0
    have HSx:(fun Y=>Y=wr.drew) wr.drew:=rfl
    have lg:g < wr.drew.heap.size:=hl2
    generalize wr.drew=u0 at HM1 c1 HSx lg ⊢
    clear c0 hl2 HMo HNR
    refine zqt 0 (.pointer (some ⟨w.heap.size,7,none⟩)) rfl ?_ HSx ?_
    ·intro w' _
     go_simp
    simp only [Act.put,zga,zgb,zsa,zsb,zsc]
    refine zqt 1 (.pointer (some ⟨w.heap.size,11,none⟩)) rfl ?_ HSx ?_
    ·intro w' _
     go_simp
    simp only [Act.put,zga,zgb,zgc,zsa,zsb,zsc]
    refine zqt 2 (.slice (some ⟨g,off,none⟩) (4 * N) sc) rfl ?_ HSx ?_
    ·intro w' hS
     subst hS; obtain⟨b0,b1,b2,b3,b4,b5,b6,b7,b8,b9,b10,b11,b12⟩:=zqc HM1.out.1.1; have bl:=block_lt HM1.out.1.1
     go_simp
    simp only [Act.put,zga,zgb,zgc,zsa,zsb,zsc]
    refine zqt 3 (.int .i64 (j:Int)) rfl ?_ HSx ?_
    ·intro w' _
     go_simp
    simp only [Act.put,zga,zgb,zgc,zsa,zsb,zsc]
    refine zqt 4 (.pointer (some ⟨g,off+j,none⟩)) rfl ?_ HSx ?_
    ·intro w' _
     go_simp
    simp only [Act.put,zga,zgb,zgc,zsa,zsb,zsc]
    refine zqt 5 (.int .i64 fj) rfl ?_ HSx ?_
    ·intro w' hS
     subst hS
     go_simp
    simp only [Act.put,zga,zgb,zgc,zsa,zsb,zsc]
    refine zqt 6 (.pointer (some ⟨w.heap.size,0,none⟩)) rfl ?_ HSx ?_
    ·intro w' _
     go_simp
    simp only [Act.put,zga,zgb,zgc,zsa,zsb,zsc]
    refine zqt 7 (.pointer (some ⟨w.heap.size,2,none⟩)) rfl ?_ HSx ?_
    ·intro w' _
     go_simp
    simp only [Act.put,zga,zgb,zgc,zsa,zsb,zsc]
    refine zqt 8 (.int .i64 16) rfl ?_ HSx ?_
    ·intro w' hS
     subst hS; obtain⟨b0,b1,b2,b3,b4,b5,b6,b7,b8,b9,b10,b11,b12⟩:=zqc HM1.out.1.1; have bl:=block_lt HM1.out.1.1
     go_simp
    simp only [Act.put,zga,zgb,zgc,zsa,zsb,zsc]
    refine zqr 9 rfl (fun K1 hK=>?_)
    refine if_wanted (wanted_none rfl) ?_
    simp only [zga,zgb,zgc]
    go_simp
    refine (hpw _).mono ?_
    rintro e u1 ⟨rfl,q⟩
    obtain rfl:=q
    refine hK.out _ _ HSx (fun _=>?_)
    clear hK
    refine zqt 10 (.int .i64 65535) rfl ?_ HSx ?_
    ·intro w' _
     go_simp
     rfl
    simp only [Act.put,zga,zgb,zgc,zsa,zsb,zsc]
    by_cases hf:fj=65535
    ·have nf:(fj != 65535)=false:=by simpa using hf
     have HA:=hid_of (HALL.out hf)
     clear hf c1
     refine zqt 11 (.bool false) rfl ?_ HSx ?_
     ·intro w' _
      go_simp
     simp only [Act.put,zga,zgb,zgc,zsa,zsb,zsc]
     refine wpAnyH_done (by kernel_rfl) ?_ _
     have HS1:Hid (CvI w #[.int .i64 hw,.int .i64 hh,.int .i64 16,.int .i64 6,.bool lace,.slice ta tn tc,.slice ca cn cc,.int .i64 rw',.int .i64 rh,.int .i64 rc,.int .i64 rd,.slice (some ⟨g,off,none⟩) (4 * N) sc,.slice ka kn kc] 4 3 65535 S u5 (j+1) u1):=⟨HM1.out.1,by rw [HCL.out]; exact HM1.out.2,HA.out⟩
     clear HSx HM1 HA HCL HALL HNOT nf lg
     go_wp2_with fail
     go_roundg (4 * N - (j+1))
     case measure=>omega
     case rel=>exact⟨j+1,by omega,by go_num,Nat.le_refl _,HS1⟩
    ·have nf:(fj != 65535)=true:=by simpa using hf
     have HN:=hid_of (HNo.out fun h=>HNOT.out hf h.2)
     clear hf c1
     refine zqt 11 (.bool true) rfl ?_ HSx ?_
     ·intro w' _
      go_simp
     simp only [Act.put,zga,zgb,zgc,zsa,zsb,zsc]
     refine wpAnyH_done (by kernel_rfl) ?_ _
     have HM2:=hid_of HM1.out.1
     clear HSx HM1 HALL HCL HNOT nf lg HYes HMk hr hpw
     obtain⟨⟨z0,z1,z2,z3,z4,z5,z6,z7,z8,z9,z10,z11,z12,y0,y1,y2,y3,y4,y5,y6,y7,y8,y9,y10,y11,y12⟩,yf,yl⟩:=HM2.out.cells
     go_wp2_with fail
     refine bodyPost_ret (v:=.tuple #[.agg #[.int .i64 0,.int .i64 0,.int .i64 0,.int .i64 0,.bool false,.slice none 0 0,.slice none 0 0,.int .i64 0,.int .i64 0,.int .i64 0,.int .i64 0,.slice none 0 0,.slice none 0 0],.bool false]) ?_ rfl (HN.out _ ?_)
     ·simp[results,Tryz.results9,go_sem, *]
     ·exact HM2.out.stored _ _ _ _ _ _ _ _ _ _ _ _ _ 
  ·obtain rfl:j=4 * N:=by omega
   have dl:decide (((4 * N:Nat):Int) < ((4 * N:Nat):Int))=false:=decide_eq_false (by omega)
   have dl2:¬ ((4 * N:Nat):Int) < 4 * (N:Int):=by omega
   obtain⟨a1,c1,e1,_⟩:=hS.out.2.1.form
   have hlen:(covL 4 S (4 * N)).length=3 * N:=by
    rw[covL_whole 4 (by omega)]
    simp
   have HL:Hid (SL wr w.heap.size a1 (3 * N) c1 (tkF 4 0 3 S)∧3 * N≤c1∧c1≤maxLen):=by
    have q:=hS.out.2.1
    rw[e1,hlen] at q
    refine⟨(sl_of_num q hlen.symm).congr fun i hi=>?_,q.max⟩
    rw[covL_whole 4 (by omega),List.getD_eq_getElem?_getD,List.getElem?_eq_getElem (by simp; omega)]
    simp
   rw[hlen] at e1
   obtain rfl:=e1
   have HYA:=hid_of (HYes.out ⟨HM.out,fun k hk2=>hS.out.2.2 _ (by omega) (by omega)⟩)
   have H3:=hid_of (hMo.called (bstart wr (.cells #[] 3)))
   have HL2:Hid (SL (wr.alloc (.cells #[] 3)) w.heap.size a1 (3 * N) c1 (tkF 4 0 3 S)∧3 * N≤c1∧c1≤maxLen):=⟨HL.out.1.called (bstart _ _),HL.out.2⟩
   clear hMo hlt hS HL HYes HNo HM hlen
   go_wp2_with fail
   clear lm m0 m1 m2 m3 m4 m5 m6 m7 m8 m9 m10 m11 m12
   refine (hr a1 (3 * N) c1 (some ⟨wr.heap.size,0,none⟩) 0 _ (HP.out.called H3.out.2.2)).mono ?_
   rintro e w5 ⟨kk,kc1,he,hk3,hB⟩
   simp only [HE.out.1,HE.out.2.1,HE.out.2.2.1,HE.out.2.2.2.1,HE.out.2.2.2.2] at he hk3
   subst he
   have H5:Hid (WP w #[.int .i64 hw,.int .i64 hh,.int .i64 16,.int .i64 6,.bool lace,.slice ta tn tc,.slice ca cn cc,.int .i64 rw',.int .i64 rh,.int .i64 rc,.int .i64 rd,.slice (some ⟨g,off,none⟩) (4 * N) sc,.slice ka kn kc] (withP p0 2 16 (3 * N) (tkF 4 0 3 S) 0 (fun _=>0)) ⟨none,0,some ⟨wr.heap.size,0,none⟩,0,a1,c1,kk,kc1⟩ w5):=⟨H3.out.called hB,HMk.out _ _ _ _ _ _ _ (HL2.out.1.called hB) (ksl_low2 hk3 H3.out.2.2.size) HL2.out.2⟩
   clear hB hk3 H3 HL2 HMk hr
   obtain⟨⟨z0,z1,z2,z3,z4,z5,z6,z7,z8,z9,z10,z11,z12,y0,y1,y2,y3,y4,y5,y6,y7,y8,y9,y10,y11,y12⟩,yf,yl⟩:=H5.out.m.cells
   go_wp2_with fail
   refine bodyPost_ret (v:=.tuple #[.agg #[.int .i64 hw,.int .i64 hh,.int .i64 16,.int .i64 2,.bool lace,.slice none 0 0,.slice (some ⟨wr.heap.size,0,none⟩) 0 0,.int .i64 hw,.int .i64 hh,.int .i64 2,.int .i64 16,.slice a1 (3 * N) c1,.slice kk kn kc1],.bool true]) ?_ rfl (HYA.out _ _ _ _ _ _ _ ?_ ?_)
   ·simp[results,Tryz.results9,go_sem, *]
   ·exact (H5.out.stored _ _ _ _ _ _ _ _ _ _ _ _ _ ).1
   ·exact (H5.out.stored _ _ _ _ _ _ _ _ _ _ _ _ _ ).2
set_option maxRecDepth 100000 in
set_option maxHeartbeats 6400000 in
theorem specCov_no (p:Pic) (q:PicA) (w:World) (hP:PngIn w p q) (hZ:PngSz p) (hno:¬ (MayR p∧(p.hc=4∨p.hc=6))):
  Calls Tryz.prog 9 #[pngV p q] w fun e w'=>e=.returned (.tuple #[noPng,.bool false])∧Below w.heap.size w w':=by
 have hmay:=fun W h=>specMayQ p q 4 6 W h hZ
 have HP:=hid_of hP
 have HNN:=hid_of hno
 clear hP hZ hno
 obtain⟨p0,hp0⟩:∃ p0,p0=p:=⟨_,rfl⟩
 rw[← hp0] at HP HNN hmay
 obtain⟨hw,hh,hd,hc',lace,tn,T,cn,C,rw',rh,rc,rd,sn,S,kn,K⟩:=p
 obtain⟨ta,tc,ca,cc,sa,sc,ka,kc⟩:=q
 have hmay1:=hmay
 rw[hp0] at hmay1
 simp only [pngV] at hmay1 ⊢
 rw[← hp0] at hmay1
 clear hp0 hmay
 have H0:Hid (MoP w #[.int .i64 hw,.int .i64 hh,.int .i64 hd,.int .i64 hc',.bool lace,.slice ta tn tc,.slice ca cn cc,.int .i64 rw',.int .i64 rh,.int .i64 rc,.int .i64 rd,.slice sa sn sc,.slice ka kn kc] ((w.alloc (.cells #[.int .i64 hw,.int .i64 hh,.int .i64 hd,.int .i64 hc',.bool lace,.slice ta tn tc,.slice ca cn cc,.int .i64 rw',.int .i64 rh,.int .i64 rc,.int .i64 rd,.slice sa sn sc,.slice ka kn kc] 37)).alloc (.cells #[.int .i64 0,.int .i64 0,.int .i64 0,.int .i64 0,.bool false,.slice none 0 0,.slice none 0 0,.int .i64 0,.int .i64 0,.int .i64 0,.int .i64 0,.slice none 0 0,.slice none 0 0] 37))):=MoP.start w _ _ rfl
 go_enter Tryz.func9,Tryz.ntmps9
 go_wp2_with fail
 refine (hmay1 _ (HP.out.called H0.out.2.2)).mono ?_
 rintro e w1 ⟨b,rfl,hb,hB⟩
 have H1:=hid_of (H0.out.called hB)
 obtain rfl:b=false:=by
  cases b
  ·rfl
  ·exact absurd (hb.mp rfl) HNN.out
 clear hB hb H0 hmay1
 obtain⟨⟨z0,z1,z2,z3,z4,z5,z6,z7,z8,z9,z10,z11,z12,y0,y1,y2,y3,y4,y5,y6,y7,y8,y9,y10,y11,y12⟩,yf,yl⟩:=H1.out.cells
 go_wp2_with fail
 refine bodyPost_ret (v:=.tuple #[.agg #[.int .i64 0,.int .i64 0,.int .i64 0,.int .i64 0,.bool false,.slice none 0 0,.slice none 0 0,.int .i64 0,.int .i64 0,.int .i64 0,.int .i64 0,.slice none 0 0,.slice none 0 0],.bool false]) ?_ rfl ⟨rfl,?_⟩
 ·simp[results,Tryz.results9,go_sem, *]
 ·exact H1.out.stored _ _ _ _ _ _ _ _ _ _ _ _ _ 
end Go.Proofs.YtkpbfmdnjnohlaaGreat
