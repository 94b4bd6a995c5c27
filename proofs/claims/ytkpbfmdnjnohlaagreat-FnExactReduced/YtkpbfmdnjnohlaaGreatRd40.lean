/-
  Texts of the proof, put together.
-/
import Derived.Test.YtkpbfmdnjnohlaaGreatRd35
namespace Go.Proofs.YtkpbfmdnjnohlaaGreat
open Go.RowKit Go.Joins OutMath PutMath RastMath HeadMath ChunkMath
def GlI (w:World) (A:Array Value) (n:Nat) (f:Nat→Int) (v:Value) (i:Nat) (u:World):Prop:=MoP w A u∧NumRow u w.heap.size v (grL n f i)∧∀ j,j < i→(j % n=1∨j % n=2)→f j=f (j - 1)
theorem MoP.grown {w V V':World} {A:Array Value} {v:Value} {S:Nat} {l:List Int} (h:MoP w A V) (hr:NumRow V S v l) (hS:w.heap.size≤S) (hg:V.grownBy V' v.ownBlock):MoP w A V':=by
 obtain⟨q1,⟨Z,q2,qz⟩,q3⟩:=h
 have hne:∀ (b:Nat) (cs:Array Value),V.heap[b]?=some (.cells cs 37 (0,0))→V'.heap[b]?=V.heap[b]?:=fun b cs hb=>hg.block b (block_lt hb) (fun e=>by
  rcases hr.2 with ⟨h,_⟩ | ⟨g1,cap,cur,h,_,q5,_⟩
  ·rw[h] at e; simp [Value.ownBlock] at e
  ·rw[h] at e
   simp[Value.ownBlock] at e
   rw[e,q5] at hb
   cases hb)
 exact⟨(hne _ _ q1).trans q1,⟨Z,(hne _ _ q2).trans q2,qz⟩,q3.grown hg q3.size (fun b hb=>Nat.le_trans hS (hr.lt b hb).1)⟩
set_option maxRecDepth 100000 in
set_option maxHeartbeats 6400000 in
theorem specCol_2_0 (p:Pic) (q:PicA) (w:World) (hP:PngIn w p q) (hZ:PngSz p) (hcc:p.hc=2) (hcn:p.cn=0) (hM:MayR p):
  Calls Tryz.prog 15 #[pngV p q] w (LessPost (MayR p∧(∀ k,k < pixN p→GryR 3 p.S k)∧∀ k,k < 0→GryR 3 p.C k) (withP p 0 p.hd (pixN p) (tkF 3 2 1 p.S) 0 (tkF 3 2 1 p.C)) w):=by
 have hmay:=fun W h=>specMayQ p q 2 6 W h hZ
 have hch:=fun W=>specChannels 2 W
 rw[show chan 2=(3:Int) by decide] at hch
 have hr:=fun ya yn yc xa xn xc W (h:PngIn W p q)=>specWith p q 0 p.hd ya yn yc xa xn xc W h.k (by have:=(png_fits hM.1).2.2.2.2; omega)
 have HNo:Hid (¬ (MayR p∧(∀ k,k < pixN p→GryR 3 p.S k)∧∀ k,k < 0→GryR 3 p.C k)→∀ W,Below w.heap.size w W→LessPost (MayR p∧(∀ k,k < pixN p→GryR 3 p.S k)∧∀ k,k < 0→GryR 3 p.C k) (withP p 0 p.hd (pixN p) (tkF 3 2 1 p.S) 0 (tkF 3 2 1 p.C)) w (.returned (.tuple #[.agg #[.int .i64 0,.int .i64 0,.int .i64 0,.int .i64 0,.bool false,.slice none 0 0,.slice none 0 0,.int .i64 0,.int .i64 0,.int .i64 0,.int .i64 0,.slice none 0 0,.slice none 0 0],.bool false])) W):=fun h W b=>.inl ⟨h,rfl,b⟩
 have HYes:Hid ((MayR p∧(∀ k,k < pixN p→GryR 3 p.S k)∧∀ k,k < 0→GryR 3 p.C k)→∀ (W:World) (a xa ka:Option Addr) (c xc kc:Nat),PngSL W w.heap.size (withP p 0 p.hd (pixN p) (tkF 3 2 1 p.S) 0 (tkF 3 2 1 p.C)) ⟨none,0,xa,xc,a,c,ka,kc⟩→Below w.heap.size w W→LessPost (MayR p∧(∀ k,k < pixN p→GryR 3 p.S k)∧∀ k,k < 0→GryR 3 p.C k) (withP p 0 p.hd (pixN p) (tkF 3 2 1 p.S) 0 (tkF 3 2 1 p.C)) w (.returned (.tuple #[.agg #[.int .i64 p.hw,.int .i64 p.hh,.int .i64 p.hd,.int .i64 0,.bool p.lace,.slice none 0 0,.slice xa 0 xc,.int .i64 p.hw,.int .i64 p.hh,.int .i64 0,.int .i64 p.hd,.slice a (pixN p) c,.slice ka p.kn kc],.bool true])) W):=fun h W a xa ka c xc kc h1 h6=>.inr ⟨h,_,rfl,h1,h6⟩
 have HMk:Hid (∀ (W:World) (a xa ka:Option Addr) (c xc kc:Nat),SL W w.heap.size a (pixN p) c (tkF 3 2 1 p.S)→SL W w.heap.size xa 0 xc (tkF 3 2 1 p.C)→KSL W w.heap.size ka p.kn p.K→(0=0∨pixN p=0∨xa≠a)→pixN p≤c∧c≤maxLen→PngSL W w.heap.size (withP p 0 p.hd (pixN p) (tkF 3 2 1 p.S) 0 (tkF 3 2 1 p.C)) ⟨none,0,xa,xc,a,c,ka,kc⟩):=fun W a xa ka c xc kc h1 h2 h3 h4 h5=>⟨.inl rfl,h2,h1,h3,h4,h5⟩
 have hsn:p.sn=3 * pixN p:=by have:=(png_n hM.1).1; rw [hcc,show chanN 2=3 by decide] at this; exact this
 have hN1:=(png_n hM.1).2.1
 have hN2:=(png_n hM.1).2.2
 have HC:Hid (Came w q.sa p.sn p.S):=hP.s
 have HCC:Hid (Came w q.ca p.cn p.C):=hP.c
 have HM:=hid_of hM
 have HP:=hid_of hP
 have HMM:Hid (MayR p∧(p.hc=2∨p.hc=6)):=⟨hM,by omega⟩
 clear hP hZ hM
 obtain⟨N,hNN⟩:∃ N,N=pixN p:=⟨_,rfl⟩
 rw[← hNN] at hsn hN1 hN2 HNo HYes HMk ⊢
 obtain⟨p0,hp0⟩:∃ p0,p0=p:=⟨_,rfl⟩
 obtain⟨hw,hh,hd,hc',lace,tn,T,cn,C,rw',rh,rc,rd,sn,S,kn,K⟩:=p
 obtain⟨ta,tc,ca,cc,sa,sc,ka,kc⟩:=q
 simp only [pngV] at hmay hr hsn HYes HNo HMk HC HCC HMM ⊢
 replace hcc:hc'=2:=hcc
 replace hcn:cn=0:=hcn
 have HE:Hid (p0.kn=kn∧p0.K=K∧p0.hw=hw∧p0.hh=hh∧p0.lace=lace):=by rw [hp0]; exact⟨rfl,rfl,rfl,rfl,rfl⟩
 have HMQ:Hid (MayR p0∧(p0.hc=2∨p0.hc=6)):=by rw [hp0]; exact HMM.out
 rw[← hp0] at hmay hr HP HYes HNo HMk HM ⊢
 clear hp0 hNN HMM
 subst hcc hcn hsn
 obtain⟨g,off,rfl,hg,hc⟩:∃ g off,sa=some ⟨g,off,none⟩∧g < w.heap.size∧∀ j,j < 3 * N→w.cell? ⟨g,off+j,none⟩=some (.int .i64 (S j)):=by
  rcases HC.out with h | h
  ·omega
  ·exact h
 have HCE:=hid_of hc
 clear hc HC HCC
 have H0:Hid (MoP w #[.int .i64 hw,.int .i64 hh,.int .i64 hd,.int .i64 2,.bool lace,.slice ta tn tc,.slice ca 0 cc,.int .i64 rw',.int .i64 rh,.int .i64 rc,.int .i64 rd,.slice (some ⟨g,off,none⟩) (3 * N) sc,.slice ka kn kc] ((w.alloc (.cells #[.int .i64 hw,.int .i64 hh,.int .i64 hd,.int .i64 2,.bool lace,.slice ta tn tc,.slice ca 0 cc,.int .i64 rw',.int .i64 rh,.int .i64 rc,.int .i64 rd,.slice (some ⟨g,off,none⟩) (3 * N) sc,.slice ka kn kc] 37)).alloc (.cells #[.int .i64 0,.int .i64 0,.int .i64 0,.int .i64 0,.bool false,.slice none 0 0,.slice none 0 0,.int .i64 0,.int .i64 0,.int .i64 0,.int .i64 0,.slice none 0 0,.slice none 0 0] 37))):=MoP.start w _ _ rfl
 go_enter Tryz.func15,Tryz.ntmps15
 go_wp2_with fail
 refine (hmay _ (HP.out.called H0.out.2.2)).mono ?_
 rintro e w1 ⟨b,rfl,hb,hB⟩
 have H1:=hid_of (H0.out.called hB)
 obtain rfl:b=true:=hb.mpr HMQ.out
 clear hB hb H0 hmay HMQ
 have lm:=block_lt H1.out.1
 obtain⟨m0,m1,m2,m3,m4,m5,m6,m7,m8,m9,m10,m11,m12⟩:=zqc H1.out.1
 go_wp2_with fail
 clear lm m0 m1 m2 m3 m4 m5 m6 m7 m8 m9 m10 m11 m12
 refine (hch _).mono ?_
 rintro e w2 ⟨rfl,q⟩
 obtain rfl:=q
 clear hch
 have H2:Hid (GlI w #[.int .i64 hw,.int .i64 hh,.int .i64 hd,.int .i64 2,.bool lace,.slice ta tn tc,.slice ca 0 cc,.int .i64 rw',.int .i64 rh,.int .i64 rc,.int .i64 rd,.slice (some ⟨g,off,none⟩) (3 * N) sc,.slice ka kn kc] 3 S (.slice (some ⟨w2.heap.size,0,none⟩) 0 0) 0 (w2.alloc (.cells #[] 3))):=⟨H1.out.called (bstart _ _),NumRow.empty w2 _ H1.out.2.2.size,fun j hj=>absurd hj (Nat.not_lt_zero j)⟩
 clear H1
 go_wp2_with fail
 go_loopg [5,6] (3 * N+1) (fun gk v z u=>∃ j:Nat,j≤3 * N∧z=.int .i64 j∧3 * N - j≤gk∧Hid (GlI w #[.int .i64 hw,.int .i64 hh,.int .i64 hd,.int .i64 2,.bool lace,.slice ta tn tc,.slice ca 0 cc,.int .i64 rw',.int .i64 rh,.int .i64 rc,.int .i64 rd,.slice (some ⟨g,off,none⟩) (3 * N) sc,.slice ka kn kc] 3 S v j u))
 case atStart=>exact⟨0,Nat.zero_le _,rfl,by omega,H2⟩
 case round=>
  clear H2
  obtain⟨j,hj,rfl,hk,hS⟩:=hrel
  have hMo:=hS.out.1
  have lm:=block_lt hMo.1
  obtain⟨m0,m1,m2,m3,m4,m5,m6,m7,m8,m9,m10,m11,m12⟩:=zqc hMo.1
  by_cases hlt:j < 3 * N
  ·have dl:decide ((j:Int) < ((3 * N:Nat):Int))=true:=decide_eq_true (by omega)
   have dl2:(j:Int) < 3 * (N:Int):=by omega
   have c0:=(hMo.2.2.cell (p:=⟨g,off+j,none⟩) hg).trans (HCE.out j hlt)
   have hl2:g < wr.heap.size:=Nat.lt_of_lt_of_le hg hMo.2.2.size
   generalize hfj:S j=fj at c0
   have HFJ:=hid_of hfj
   clear hfj
   have hcases:j % 3=0∨j % 3=1∨j % 3=2:=by omega
   rcases hcases with hres | hres | hres
   ·have km:(j:Int) % 3=0:=by omega
    have HCL:Hid (grL 3 S (j+1)=grL 3 S j ++ [fj]):=by
     show _=_
     rw[← HFJ.out,grL_succ,if_pos (by omega)]
    have HALL:Hid (∀ i,i < j+1→(i % 3=1∨i % 3=2)→S i=S (i - 1)):=fun i hi he=>hS.out.2.2 i (by omega) he
    have HNR:=hid_of hS.out.2.1
    have HLn:Hid ((grL 3 S j).length≤j):=grL_length _ _ _
    have HMo:=hid_of hMo
    clear hMo hres hS
    go_wp2_with fail
    clear lm m0 m1 m2 m3 m4 m5 m6 m7 m8 m9 m10 m11 m12
    refine wp_region_held (S:=fun Y=>Y=wr.drew) (by kernel_rfl) ?_
    show wpAnyH _ _ _ _ _ _ _ _ wr.drew
    have HM1:Hid (MoP w #[.int .i64 hw,.int .i64 hh,.int .i64 hd,.int .i64 2,.bool lace,.slice ta tn tc,.slice ca 0 cc,.int .i64 rw',.int .i64 rh,.int .i64 rc,.int .i64 rd,.slice (some ⟨g,off,none⟩) (3 * N) sc,.slice ka kn kc] wr.drew∧NumRow wr.drew w.heap.size u5 (grL 3 S j)):=⟨HMo.out.called (bdraws (Below.refl _ _) 1),HNR.out.called (bdraws (Below.refl _ _) 1)⟩
    have c1:wr.drew.cell? ⟨g,off+j,none⟩=some (.int .i64 fj):=c0
    have HSx:(fun Y=>Y=wr.drew) wr.drew:=rfl
    have lg:g < wr.drew.heap.size:=hl2
    generalize wr.drew=u0 at HM1 c1 HSx lg ⊢
    clear c0 hl2 HMo HNR
    refine zqt 0 (.int .i64 0) rfl ?_ HSx ?_
    ·intro w' _
     go_simp
    simp only [Act.put,zga,zgb,zsa,zsb,zsc]
    refine zqt 1 (.bool false) rfl ?_ HSx ?_
    ·intro w' _
     go_simp
    simp only [Act.put,zga,zgb,zgc,zsa,zsb,zsc]
    refine zqt 2 (.bool false) rfl ?_ HSx ?_
    ·intro w' _
     go_simp
    simp only [Act.put,zga,zgb,zgc,zsa,zsb,zsc]
    refine zqt 3 (.int .i64 0) rfl ?_ HSx ?_
    ·intro w' _
     go_simp
    simp only [Act.put,zga,zgb,zgc,zsa,zsb,zsc]
    refine zqt 4 (.bool false) rfl ?_ HSx ?_
    ·intro w' _
     go_simp
    simp only [Act.put,zga,zgb,zgc,zsa,zsb,zsc]
    refine zqt 5 (.bool false) rfl ?_ HSx ?_
    ·intro w' _
     go_simp
    simp only [Act.put,zga,zgb,zgc,zsa,zsb,zsc]
    refine zqt 6 (.bool false) rfl ?_ HSx ?_
    ·intro w' _
     go_simp
    simp only [Act.put,zga,zgb,zgc,zsa,zsb,zsc]
    refine zqu 7 rfl HSx ?_
    simp only [Act.put,zga,zgb,zgc,zsa,zsb,zsc]
    refine zqu 8 rfl HSx ?_
    simp only [Act.put,zga,zgb,zgc,zsa,zsb,zsc]
    refine zqu 9 rfl HSx ?_
    simp only [Act.put,zga,zgb,zgc,zsa,zsb,zsc]
    refine zqu 10 rfl HSx ?_
    simp only [Act.put,zga,zgb,zgc,zsa,zsb,zsc]
    refine zqu 11 rfl HSx ?_
    simp only [Act.put,zga,zgb,zgc,zsa,zsb,zsc]
    refine zqu 12 rfl HSx ?_
    simp only [Act.put,zga,zgb,zgc,zsa,zsb,zsc]
    refine zqu 13 rfl HSx ?_
    simp only [Act.put,zga,zgb,zgc,zsa,zsb,zsc]
    refine zqu 14 rfl HSx ?_
    simp only [Act.put,zga,zgb,zgc,zsa,zsb,zsc]
    refine zqu 15 rfl HSx ?_
    simp only [Act.put,zga,zgb,zgc,zsa,zsb,zsc]
    refine zqu 16 rfl HSx ?_
    simp only [Act.put,zga,zgb,zgc,zsa,zsb,zsc]
    refine zqu 17 rfl HSx ?_
    simp only [Act.put,zga,zgb,zgc,zsa,zsb,zsc]
    refine zqu 18 rfl HSx ?_
    simp only [Act.put,zga,zgb,zgc,zsa,zsb,zsc]
    refine zqu 19 rfl HSx ?_
    simp only [Act.put,zga,zgb,zgc,zsa,zsb,zsc]
    refine zqu 20 rfl HSx ?_
    simp only [Act.put,zga,zgb,zgc,zsa,zsb,zsc]
    refine zqt 21 (.bool false) rfl ?_ HSx ?_
    ·intro w' _
     go_simp
    simp only [Act.put,zga,zgb,zgc,zsa,zsb,zsc]
    refine wpAnyH_done (by kernel_rfl) ?_ _
    clear HSx
    have lm:=block_lt HM1.out.1.1
    obtain⟨m0,m1,m2,m3,m4,m5,m6,m7,m8,m9,m10,m11,m12⟩:=zqc HM1.out.1.1
    go_wp2_with (at_builtin; refine nums_append1 (S:=w.heap.size) (xs:=grL 3 S j) rfl _ _ rfl rfl (HM1.out.2.called (bstart _ _)) u0.heap.size 1 fj rfl ((cell_of_block (heap_alloc_new u0 (.cells #[.int .i64 fj] 3)) 0).trans rfl) (by have:=HLn.out; omega) (by have:=HM1.out.1.2.2.size; simp; omega) ?_)
    intro v1 w1 y1 y2 y3
    have HS1:Hid (GlI w #[.int .i64 hw,.int .i64 hh,.int .i64 hd,.int .i64 2,.bool lace,.slice ta tn tc,.slice ca 0 cc,.int .i64 rw',.int .i64 rh,.int .i64 rc,.int .i64 rd,.slice (some ⟨g,off,none⟩) (3 * N) sc,.slice ka kn kc] 3 S v1 (j+1) w1):=⟨(HM1.out.1.called (bstart u0 (.cells #[.int .i64 fj] 3))).grown (HM1.out.2.called (bstart u0 (.cells #[.int .i64 fj] 3))) (Nat.le_refl _) y2,by rw [HCL.out]; exact y1,HALL.out⟩
    clear y1 y2 y3 HM1 HCL HALL c1 lg lm m0 m1 m2 m3 m4 m5 m6 m7 m8 m9 m10 m11 m12
    go_wp2_with fail
    go_roundg (3 * N - (j+1))
    case measure=>omega
    case rel=>exact⟨j+1,by omega,by go_num,Nat.le_refl _,HS1⟩
   ·have km:(j:Int) % 3=1:=by omega
    obtain⟨m,hjm⟩:∃ m,j=m+1:=⟨j - 1,by omega⟩
    have cm:=(hMo.2.2.cell (p:=⟨g,off+m,none⟩) hg).trans (HCE.out m (by omega))
    have HSM:Hid (S (j - 1)=S m):=by
     show _=_
     rw[hjm]
     rfl
    generalize hfm:S m=fm at cm HSM
    have HFM0:=hid_of hfm
    clear hfm
    have wj:IntKind.i64.wrap ((j:Int) - 1)=(m:Int):=by rw [IntKind.wrap_i64]; omega
    have wj2:(j:Int) - 1=(m:Int):=by omega
    have wm:IntKind.i64.wrap (m:Int)=(m:Int):=by rw [IntKind.wrap_i64]; omega
    have ml:m < 3 * N:=by omega
    have ml2:(m:Int) < 3 * (N:Int):=by omega
    have HCL:Hid (grL 3 S (j+1)=grL 3 S j):=by
     show _=_
     rw[grL_succ,if_neg (by omega)]
    have HALL:Hid (fj=fm→∀ i,i < j+1→(i % 3=1∨i % 3=2)→S i=S (i - 1)):=fun hf i hi he=>by
     by_cases e:i=j
     ·rw[e,HSM.out,HFJ.out,hf]
     ·exact hS.out.2.2 i (by omega) he
    have HNOT:Hid (¬ fj=fm→¬ ∀ k,k < N→GryR 3 S k):=fun hf h=>by
     have h1:=h (j / 3) (by omega)
     unfold GryR at h1
     apply hf
     rw[← HFJ.out,← HFM0.out]
     have e1:=h1.1
     rw[show 3 * (j / 3)+1=j by omega,show 3 * (j / 3)=m by omega] at e1
     exact e1.symm
    have HNR:=hid_of hS.out.2.1
    have HMo:=hid_of hMo
    clear hMo hres hS hjm
    go_wp2_with fail
    clear lm m0 m1 m2 m3 m4 m5 m6 m7 m8 m9 m10 m11 m12
    refine wp_region_held (S:=fun Y=>Y=wr.drew) (by kernel_rfl) ?_
    show wpAnyH _ _ _ _ _ _ _ _ wr.drew
    have HM1:Hid (MoP w #[.int .i64 hw,.int .i64 hh,.int .i64 hd,.int .i64 2,.bool lace,.slice ta tn tc,.slice ca 0 cc,.int .i64 rw',.int .i64 rh,.int .i64 rc,.int .i64 rd,.slice (some ⟨g,off,none⟩) (3 * N) sc,.slice ka kn kc] wr.drew∧NumRow wr.drew w.heap.size u5 (grL 3 S j)):=⟨HMo.out.called (bdraws (Below.refl _ _) 1),HNR.out.called (bdraws (Below.refl _ _) 1)⟩
    have c1:wr.drew.cell? ⟨g,off+j,none⟩=some (.int .i64 fj):=c0
    have HSx:(fun Y=>Y=wr.drew) wr.drew:=rfl
    have lg:g < wr.drew.heap.size:=hl2
    have c2:wr.drew.cell? ⟨g,off+m,none⟩=some (.int .i64 fm):=cm
    generalize wr.drew=u0 at HM1 c1 c2 HSx lg ⊢
    clear c0 cm hl2 HMo HNR
    refine zqt 0 (.int .i64 1) rfl ?_ HSx ?_
    ·intro w' _
     go_simp
    simp only [Act.put,zga,zgb,zsa,zsb,zsc]
    refine zqt 1 (.bool true) rfl ?_ HSx ?_
    ·intro w' _
     go_simp
    simp only [Act.put,zga,zgb,zgc,zsa,zsb,zsc]
    refine zqt 2 (.bool true) rfl ?_ HSx ?_
    ·intro w' _
     go_simp
    simp only [Act.put,zga,zgb,zgc,zsa,zsb,zsc]
    refine zqu 3 rfl HSx ?_
    simp only [Act.put,zga,zgb,zgc,zsa,zsb,zsc]
    refine zqu 4 rfl HSx ?_
    simp only [Act.put,zga,zgb,zgc,zsa,zsb,zsc]
    refine zqt 5 (.bool true) rfl ?_ HSx ?_
    ·intro w' _
     go_simp
    simp only [Act.put,zga,zgb,zgc,zsa,zsb,zsc]
    refine zqt 6 (.bool true) rfl ?_ HSx ?_
    ·intro w' _
     go_simp
    simp only [Act.put,zga,zgb,zgc,zsa,zsb,zsc]
    refine zqt 7 (.pointer (some ⟨w.heap.size,7,none⟩)) rfl ?_ HSx ?_
    ·intro w' _
     go_simp
    simp only [Act.put,zga,zgb,zgc,zsa,zsb,zsc]
    refine zqt 8 (.pointer (some ⟨w.heap.size,11,none⟩)) rfl ?_ HSx ?_
    ·intro w' _
     go_simp
    simp only [Act.put,zga,zgb,zgc,zsa,zsb,zsc]
    refine zqt 9 (.slice (some ⟨g,off,none⟩) (3 * N) sc) rfl ?_ HSx ?_
    ·intro w' hS
     subst hS; obtain⟨b0,b1,b2,b3,b4,b5,b6,b7,b8,b9,b10,b11,b12⟩:=zqc HM1.out.1.1; have bl:=block_lt HM1.out.1.1
     go_simp
    simp only [Act.put,zga,zgb,zgc,zsa,zsb,zsc]
    refine zqt 10 (.int .i64 (j:Int)) rfl ?_ HSx ?_
    ·intro w' _
     go_simp
    simp only [Act.put,zga,zgb,zgc,zsa,zsb,zsc]
    refine zqt 11 (.pointer (some ⟨g,off+j,none⟩)) rfl ?_ HSx ?_
    ·intro w' _
     go_simp
    simp only [Act.put,zga,zgb,zgc,zsa,zsb,zsc]
    refine zqt 12 (.int .i64 fj) rfl ?_ HSx ?_
    ·intro w' hS
     subst hS
     go_simp
    simp only [Act.put,zga,zgb,zgc,zsa,zsb,zsc]
    refine zqt 13 (.pointer (some ⟨w.heap.size,7,none⟩)) rfl ?_ HSx ?_
    ·intro w' _
     go_simp
    simp only [Act.put,zga,zgb,zgc,zsa,zsb,zsc]
    refine zqt 14 (.pointer (some ⟨w.heap.size,11,none⟩)) rfl ?_ HSx ?_
    ·intro w' _
     go_simp
    simp only [Act.put,zga,zgb,zgc,zsa,zsb,zsc]
    refine zqt 15 (.slice (some ⟨g,off,none⟩) (3 * N) sc) rfl ?_ HSx ?_
    ·intro w' hS
     subst hS; obtain⟨b0,b1,b2,b3,b4,b5,b6,b7,b8,b9,b10,b11,b12⟩:=zqc HM1.out.1.1; have bl:=block_lt HM1.out.1.1
     go_simp
    simp only [Act.put,zga,zgb,zgc,zsa,zsb,zsc]
    refine zqt 16 (.int .i64 (j:Int)) rfl ?_ HSx ?_
    ·intro w' _
     go_simp
    simp only [Act.put,zga,zgb,zgc,zsa,zsb,zsc]
    refine zqt 17 (.int .i64 (m:Int)) rfl ?_ HSx ?_
    ·intro w' _
     go_simp
    simp only [Act.put,zga,zgb,zgc,zsa,zsb,zsc]
    refine zqt 18 (.pointer (some ⟨g,off+m,none⟩)) rfl ?_ HSx ?_
    ·intro w' _
     go_simp
    simp only [Act.put,zga,zgb,zgc,zsa,zsb,zsc]
    refine zqt 19 (.int .i64 fm) rfl ?_ HSx ?_
    ·intro w' hS
     subst hS
     go_simp
    simp only [Act.put,zga,zgb,zgc,zsa,zsb,zsc]
    by_cases hf:fj=fm
    ·have nf:(fj != fm)=false:=by simpa using hf
     have HA:=hid_of (HALL.out hf)
     clear hf c1 c2
     refine zqt 20 (.bool false) rfl ?_ HSx ?_
     ·intro w' _
      go_simp
     simp only [Act.put,zga,zgb,zgc,zsa,zsb,zsc]
     refine zqt 21 (.bool false) rfl ?_ HSx ?_
     ·intro w' _
      go_simp
     simp only [Act.put,zga,zgb,zgc,zsa,zsb,zsc]
     refine wpAnyH_done (by kernel_rfl) ?_ _
     have HS1:Hid (GlI w #[.int .i64 hw,.int .i64 hh,.int .i64 hd,.int .i64 2,.bool lace,.slice ta tn tc,.slice ca 0 cc,.int .i64 rw',.int .i64 rh,.int .i64 rc,.int .i64 rd,.slice (some ⟨g,off,none⟩) (3 * N) sc,.slice ka kn kc] 3 S u5 (j+1) u0):=⟨HM1.out.1,by rw [HCL.out]; exact HM1.out.2,HA.out⟩
     clear HSx HM1 HA HCL HALL HNOT nf lg wj wj2 wm ml ml2
     go_wp2_with fail
     go_roundg (3 * N - (j+1))
     case measure=>omega
     case rel=>exact⟨j+1,by omega,by go_num,Nat.le_refl _,HS1⟩
    ·have nf:(fj != fm)=true:=by simpa using hf
     have HN:=hid_of (HNo.out fun h=>HNOT.out hf h.2.1)
     clear hf c1 c2
     refine zqt 20 (.bool true) rfl ?_ HSx ?_
     ·intro w' _
      go_simp
     simp only [Act.put,zga,zgb,zgc,zsa,zsb,zsc]
     refine zqt 21 (.bool true) rfl ?_ HSx ?_
     ·intro w' _
      go_simp
     simp only [Act.put,zga,zgb,zgc,zsa,zsb,zsc]
     refine wpAnyH_done (by kernel_rfl) ?_ _
     have HM2:=hid_of HM1.out.1
     clear HSx HM1 HALL HCL HNOT nf lg HYes HMk hr wj wj2 wm ml ml2
     obtain⟨⟨z0,z1,z2,z3,z4,z5,z6,z7,z8,z9,z10,z11,z12,y0,y1,y2,y3,y4,y5,y6,y7,y8,y9,y10,y11,y12⟩,yf,yl⟩:=HM2.out.cells
     go_wp2_with fail
     refine bodyPost_ret (v:=.tuple #[.agg #[.int .i64 0,.int .i64 0,.int .i64 0,.int .i64 0,.bool false,.slice none 0 0,.slice none 0 0,.int .i64 0,.int .i64 0,.int .i64 0,.int .i64 0,.slice none 0 0,.slice none 0 0],.bool false]) ?_ rfl (HN.out _ ?_)
     ·simp[results,Tryz.results15,go_sem, *]
     ·exact HM2.out.stored _ _ _ _ _ _ _ _ _ _ _ _ _ 
   ·have km:(j:Int) % 3=2:=by omega
    obtain⟨m,hjm⟩:∃ m,j=m+1:=⟨j - 1,by omega⟩
    have cm:=(hMo.2.2.cell (p:=⟨g,off+m,none⟩) hg).trans (HCE.out m (by omega))
    have HSM:Hid (S (j - 1)=S m):=by
     show _=_
     rw[hjm]
     rfl
    generalize hfm:S m=fm at cm HSM
    have HFM0:=hid_of hfm
    clear hfm
    have wj:IntKind.i64.wrap ((j:Int) - 1)=(m:Int):=by rw [IntKind.wrap_i64]; omega
    have wj2:(j:Int) - 1=(m:Int):=by omega
    have wm:IntKind.i64.wrap (m:Int)=(m:Int):=by rw [IntKind.wrap_i64]; omega
    have ml:m < 3 * N:=by omega
    have ml2:(m:Int) < 3 * (N:Int):=by omega
    have HCL:Hid (grL 3 S (j+1)=grL 3 S j):=by
     show _=_
     rw[grL_succ,if_neg (by omega)]
    have HALL:Hid (fj=fm→∀ i,i < j+1→(i % 3=1∨i % 3=2)→S i=S (i - 1)):=fun hf i hi he=>by
     by_cases e:i=j
     ·rw[e,HSM.out,HFJ.out,hf]
     ·exact hS.out.2.2 i (by omega) he
    have HNOT:Hid (¬ fj=fm→¬ ∀ k,k < N→GryR 3 S k):=fun hf h=>by
     have h1:=h (j / 3) (by omega)
     unfold GryR at h1
     apply hf
     rw[← HFJ.out,← HFM0.out]
     have e1:=h1.2
     rw[show 3 * (j / 3)+2=j by omega,show 3 * (j / 3)+1=m by omega] at e1
     exact e1.symm
    have HNR:=hid_of hS.out.2.1
    have HMo:=hid_of hMo
    clear hMo hres hS hjm
    go_wp2_with fail
    clear lm m0 m1 m2 m3 m4 m5 m6 m7 m8 m9 m10 m11 m12
    refine wp_region_held (S:=fun Y=>Y=wr.drew) (by kernel_rfl) ?_
    show wpAnyH _ _ _ _ _ _ _ _ wr.drew
    have HM1:Hid (MoP w #[.int .i64 hw,.int .i64 hh,.int .i64 hd,.int .i64 2,.bool lace,.slice ta tn tc,.slice ca 0 cc,.int .i64 rw',.int .i64 rh,.int .i64 rc,.int .i64 rd,.slice (some ⟨g,off,none⟩) (3 * N) sc,.slice ka kn kc] wr.drew∧NumRow wr.drew w.heap.size u5 (grL 3 S j)):=⟨HMo.out.called (bdraws (Below.refl _ _) 1),HNR.out.called (bdraws (Below.refl _ _) 1)⟩
    have c1:wr.drew.cell? ⟨g,off+j,none⟩=some (.int .i64 fj):=c0
    have HSx:(fun Y=>Y=wr.drew) wr.drew:=rfl
    have lg:g < wr.drew.heap.size:=hl2
    have c2:wr.drew.cell? ⟨g,off+m,none⟩=some (.int .i64 fm):=cm
    generalize wr.drew=u0 at HM1 c1 c2 HSx lg ⊢
    clear c0 cm hl2 HMo HNR
    refine zqt 0 (.int .i64 2) rfl ?_ HSx ?_
    ·intro w' _
     go_simp
    simp only [Act.put,zga,zgb,zsa,zsb,zsc]
    refine zqt 1 (.bool false) rfl ?_ HSx ?_
    ·intro w' _
     go_simp
    simp only [Act.put,zga,zgb,zgc,zsa,zsb,zsc]
    refine zqt 2 (.bool false) rfl ?_ HSx ?_
    ·intro w' _
     go_simp
    simp only [Act.put,zga,zgb,zgc,zsa,zsb,zsc]
    refine zqt 3 (.int .i64 2) rfl ?_ HSx ?_
    ·intro w' _
     go_simp
    simp only [Act.put,zga,zgb,zgc,zsa,zsb,zsc]
    refine zqt 4 (.bool true) rfl ?_ HSx ?_
    ·intro w' _
     go_simp
    simp only [Act.put,zga,zgb,zgc,zsa,zsb,zsc]
    refine zqt 5 (.bool true) rfl ?_ HSx ?_
    ·intro w' _
     go_simp
    simp only [Act.put,zga,zgb,zgc,zsa,zsb,zsc]
    refine zqt 6 (.bool true) rfl ?_ HSx ?_
    ·intro w' _
     go_simp
    simp only [Act.put,zga,zgb,zgc,zsa,zsb,zsc]
    refine zqt 7 (.pointer (some ⟨w.heap.size,7,none⟩)) rfl ?_ HSx ?_
    ·intro w' _
     go_simp
    simp only [Act.put,zga,zgb,zgc,zsa,zsb,zsc]
    refine zqt 8 (.pointer (some ⟨w.heap.size,11,none⟩)) rfl ?_ HSx ?_
    ·intro w' _
     go_simp
    simp only [Act.put,zga,zgb,zgc,zsa,zsb,zsc]
    refine zqt 9 (.slice (some ⟨g,off,none⟩) (3 * N) sc) rfl ?_ HSx ?_
    ·intro w' hS
     subst hS; obtain⟨b0,b1,b2,b3,b4,b5,b6,b7,b8,b9,b10,b11,b12⟩:=zqc HM1.out.1.1; have bl:=block_lt HM1.out.1.1
     go_simp
    simp only [Act.put,zga,zgb,zgc,zsa,zsb,zsc]
    refine zqt 10 (.int .i64 (j:Int)) rfl ?_ HSx ?_
    ·intro w' _
     go_simp
    simp only [Act.put,zga,zgb,zgc,zsa,zsb,zsc]
    refine zqt 11 (.pointer (some ⟨g,off+j,none⟩)) rfl ?_ HSx ?_
    ·intro w' _
     go_simp
    simp only [Act.put,zga,zgb,zgc,zsa,zsb,zsc]
    refine zqt 12 (.int .i64 fj) rfl ?_ HSx ?_
    ·intro w' hS
     subst hS
     go_simp
    simp only [Act.put,zga,zgb,zgc,zsa,zsb,zsc]
    refine zqt 13 (.pointer (some ⟨w.heap.size,7,none⟩)) rfl ?_ HSx ?_
    ·intro w' _
     go_simp
    simp only [Act.put,zga,zgb,zgc,zsa,zsb,zsc]
    refine zqt 14 (.pointer (some ⟨w.heap.size,11,none⟩)) rfl ?_ HSx ?_
    ·intro w' _
     go_simp
    simp only [Act.put,zga,zgb,zgc,zsa,zsb,zsc]
    refine zqt 15 (.slice (some ⟨g,off,none⟩) (3 * N) sc) rfl ?_ HSx ?_
    ·intro w' hS
     subst hS; obtain⟨b0,b1,b2,b3,b4,b5,b6,b7,b8,b9,b10,b11,b12⟩:=zqc HM1.out.1.1; have bl:=block_lt HM1.out.1.1
     go_simp
    simp only [Act.put,zga,zgb,zgc,zsa,zsb,zsc]
    refine zqt 16 (.int .i64 (j:Int)) rfl ?_ HSx ?_
    ·intro w' _
     go_simp
    simp only [Act.put,zga,zgb,zgc,zsa,zsb,zsc]
    refine zqt 17 (.int .i64 (m:Int)) rfl ?_ HSx ?_
    ·intro w' _
     go_simp
    simp only [Act.put,zga,zgb,zgc,zsa,zsb,zsc]
    refine zqt 18 (.pointer (some ⟨g,off+m,none⟩)) rfl ?_ HSx ?_
    ·intro w' _
     go_simp
    simp only [Act.put,zga,zgb,zgc,zsa,zsb,zsc]
    refine zqt 19 (.int .i64 fm) rfl ?_ HSx ?_
    ·intro w' hS
     subst hS
     go_simp
    simp only [Act.put,zga,zgb,zgc,zsa,zsb,zsc]
    by_cases hf:fj=fm
    ·have nf:(fj != fm)=false:=by simpa using hf
     have HA:=hid_of (HALL.out hf)
     clear hf c1 c2
     refine zqt 20 (.bool false) rfl ?_ HSx ?_
     ·intro w' _
      go_simp
     simp only [Act.put,zga,zgb,zgc,zsa,zsb,zsc]
     refine zqt 21 (.bool false) rfl ?_ HSx ?_
     ·intro w' _
      go_simp
     simp only [Act.put,zga,zgb,zgc,zsa,zsb,zsc]
     refine wpAnyH_done (by kernel_rfl) ?_ _
     have HS1:Hid (GlI w #[.int .i64 hw,.int .i64 hh,.int .i64 hd,.int .i64 2,.bool lace,.slice ta tn tc,.slice ca 0 cc,.int .i64 rw',.int .i64 rh,.int .i64 rc,.int .i64 rd,.slice (some ⟨g,off,none⟩) (3 * N) sc,.slice ka kn kc] 3 S u5 (j+1) u0):=⟨HM1.out.1,by rw [HCL.out]; exact HM1.out.2,HA.out⟩
     clear HSx HM1 HA HCL HALL HNOT nf lg wj wj2 wm ml ml2
     go_wp2_with fail
     go_roundg (3 * N - (j+1))
     case measure=>omega
     case rel=>exact⟨j+1,by omega,by go_num,Nat.le_refl _,HS1⟩
    ·have nf:(fj != fm)=true:=by simpa using hf
     have HN:=hid_of (HNo.out fun h=>HNOT.out hf h.2.1)
     clear hf c1 c2
     refine zqt 20 (.bool true) rfl ?_ HSx ?_
     ·intro w' _
      go_simp
     simp only [Act.put,zga,zgb,zgc,zsa,zsb,zsc]
     refine zqt 21 (.bool true) rfl ?_ HSx ?_
     ·intro w' _
      go_simp
     simp only [Act.put,zga,zgb,zgc,zsa,zsb,zsc]
     refine wpAnyH_done (by kernel_rfl) ?_ _
     have HM2:=hid_of HM1.out.1
     clear HSx HM1 HALL HCL HNOT nf lg HYes HMk hr wj wj2 wm ml ml2
     obtain⟨⟨z0,z1,z2,z3,z4,z5,z6,z7,z8,z9,z10,z11,z12,y0,y1,y2,y3,y4,y5,y6,y7,y8,y9,y10,y11,y12⟩,yf,yl⟩:=HM2.out.cells
     go_wp2_with fail
     refine bodyPost_ret (v:=.tuple #[.agg #[.int .i64 0,.int .i64 0,.int .i64 0,.int .i64 0,.bool false,.slice none 0 0,.slice none 0 0,.int .i64 0,.int .i64 0,.int .i64 0,.int .i64 0,.slice none 0 0,.slice none 0 0],.bool false]) ?_ rfl (HN.out _ ?_)
     ·simp[results,Tryz.results15,go_sem, *]
     ·exact HM2.out.stored _ _ _ _ _ _ _ _ _ _ _ _ _ 
  ·obtain rfl:j=3 * N:=by omega
   have dl:decide (((3 * N:Nat):Int) < ((3 * N:Nat):Int))=false:=decide_eq_false (by omega)
   have dl2:¬ ((3 * N:Nat):Int) < 3 * (N:Int):=by omega
   have HG:Hid (∀ k,k < N→GryR 3 S k):=fun k hk2=>by
    have h1:=hS.out.2.2 (3 * k+1) (by omega) (by omega)
    have h2:=hS.out.2.2 (3 * k+2) (by omega) (by omega)
    exact⟨h1.symm,h2.symm⟩
   have hgl:=grL_3 S N HG.out
   obtain⟨al,cl,e1,_⟩:=hS.out.2.1.form
   have hlen:(grL 3 S (3 * N)).length=N:=by
    rw[hgl]
    simp
   have HL:Hid (SL wr w.heap.size al (N) cl (tkF 3 2 1 S)∧N≤cl∧cl≤maxLen):=by
    have q:=hS.out.2.1
    rw[e1,hlen] at q
    refine⟨(sl_of_num q hlen.symm).congr fun i hi=>?_,q.max⟩
    rw[hgl,List.getD_eq_getElem?_getD,List.getElem?_eq_getElem (by simp; omega)]
    simp
   rw[hlen] at e1
   obtain rfl:=e1
   have HMo:=hid_of hMo
   clear hMo hlt hS hlen hgl
   have HYA:=hid_of (HYes.out ⟨HM.out,HG.out,fun k hk2=>absurd hk2 (by omega)⟩)
   have H3:=hid_of (HMo.out.called (bstart wr (.cells #[] 3)))
   have HL2:Hid (SL (wr.alloc (.cells #[] 3)) w.heap.size al (N) cl (tkF 3 2 1 S)∧N≤cl∧cl≤maxLen):=⟨HL.out.1.called (bstart _ _),HL.out.2⟩
   clear HL HYes HNo HM HG HMo
   go_wp2_with fail
   clear lm m0 m1 m2 m3 m4 m5 m6 m7 m8 m9 m10 m11 m12
   refine (hr al (N) cl ((some ⟨wr.heap.size,0,none⟩)) 0 0 _ (HP.out.called H3.out.2.2)).mono ?_
   rintro e w5 ⟨kk,kc1,he,hk3,hB⟩
   simp only [HE.out.1,HE.out.2.1,HE.out.2.2.1,HE.out.2.2.2.1,HE.out.2.2.2.2] at he hk3
   subst he
   have H5:Hid (WP w #[.int .i64 hw,.int .i64 hh,.int .i64 hd,.int .i64 2,.bool lace,.slice ta tn tc,.slice ca 0 cc,.int .i64 rw',.int .i64 rh,.int .i64 rc,.int .i64 rd,.slice (some ⟨g,off,none⟩) (3 * N) sc,.slice ka kn kc] (withP p0 0 hd (N) (tkF 3 2 1 S) 0 (tkF 3 2 1 C)) ⟨none,0,(some ⟨wr.heap.size,0,none⟩),0,al,cl,kk,kc1⟩ w5):=⟨H3.out.called hB,HMk.out _ _ _ _ _ _ _ (HL2.out.1.called hB) (.inl (by first | rfl | trivial)) (ksl_low2 hk3 H3.out.2.2.size) (.inl (by first | rfl | trivial)) HL2.out.2⟩
   clear hB hk3 H3 HL2 HMk hr
   obtain⟨⟨z0,z1,z2,z3,z4,z5,z6,z7,z8,z9,z10,z11,z12,y0,y1,y2,y3,y4,y5,y6,y7,y8,y9,y10,y11,y12⟩,yf,yl⟩:=H5.out.m.cells
   go_wp2_with fail
   refine bodyPost_ret (v:=.tuple #[.agg #[.int .i64 hw,.int .i64 hh,.int .i64 hd,.int .i64 0,.bool lace,.slice none 0 0,.slice (some ⟨wr.heap.size,0,none⟩) 0 0,.int .i64 hw,.int .i64 hh,.int .i64 0,.int .i64 hd,.slice al (N) cl,.slice kk kn kc1],.bool true]) ?_ rfl (HYA.out _ _ _ _ _ _ _ ?_ ?_)
   ·simp[results,Tryz.results15,go_sem, *]
   ·exact (H5.out.stored _ _ _ _ _ _ _ _ _ _ _ _ _ ).1
   ·exact (H5.out.stored _ _ _ _ _ _ _ _ _ _ _ _ _ ).2
set_option maxRecDepth 100000 in
set_option maxHeartbeats 6400000 in
theorem specCol_2_3 (p:Pic) (q:PicA) (w:World) (hP:PngIn w p q) (hZ:PngSz p) (hcc:p.hc=2) (hcn:p.cn=3) (hM:MayR p):
  Calls Tryz.prog 15 #[pngV p q] w (LessPost (MayR p∧(∀ k,k < pixN p→GryR 3 p.S k)∧∀ k,k < 1→GryR 3 p.C k) (withP p 0 p.hd (pixN p) (tkF 3 2 1 p.S) 1 (tkF 3 2 1 p.C)) w):=by
 have hmay:=fun W h=>specMayQ p q 2 6 W h hZ
 have hch:=fun W=>specChannels 2 W
 rw[show chan 2=(3:Int) by decide] at hch
 have hr:=fun ya yn yc xa xn xc W (h:PngIn W p q)=>specWith p q 0 p.hd ya yn yc xa xn xc W h.k (by have:=(png_fits hM.1).2.2.2.2; omega)
 have HNo:Hid (¬ (MayR p∧(∀ k,k < pixN p→GryR 3 p.S k)∧∀ k,k < 1→GryR 3 p.C k)→∀ W,Below w.heap.size w W→LessPost (MayR p∧(∀ k,k < pixN p→GryR 3 p.S k)∧∀ k,k < 1→GryR 3 p.C k) (withP p 0 p.hd (pixN p) (tkF 3 2 1 p.S) 1 (tkF 3 2 1 p.C)) w (.returned (.tuple #[.agg #[.int .i64 0,.int .i64 0,.int .i64 0,.int .i64 0,.bool false,.slice none 0 0,.slice none 0 0,.int .i64 0,.int .i64 0,.int .i64 0,.int .i64 0,.slice none 0 0,.slice none 0 0],.bool false])) W):=fun h W b=>.inl ⟨h,rfl,b⟩
 have HYes:Hid ((MayR p∧(∀ k,k < pixN p→GryR 3 p.S k)∧∀ k,k < 1→GryR 3 p.C k)→∀ (W:World) (a xa ka:Option Addr) (c xc kc:Nat),PngSL W w.heap.size (withP p 0 p.hd (pixN p) (tkF 3 2 1 p.S) 1 (tkF 3 2 1 p.C)) ⟨none,0,xa,xc,a,c,ka,kc⟩→Below w.heap.size w W→LessPost (MayR p∧(∀ k,k < pixN p→GryR 3 p.S k)∧∀ k,k < 1→GryR 3 p.C k) (withP p 0 p.hd (pixN p) (tkF 3 2 1 p.S) 1 (tkF 3 2 1 p.C)) w (.returned (.tuple #[.agg #[.int .i64 p.hw,.int .i64 p.hh,.int .i64 p.hd,.int .i64 0,.bool p.lace,.slice none 0 0,.slice xa 1 xc,.int .i64 p.hw,.int .i64 p.hh,.int .i64 0,.int .i64 p.hd,.slice a (pixN p) c,.slice ka p.kn kc],.bool true])) W):=fun h W a xa ka c xc kc h1 h6=>.inr ⟨h,_,rfl,h1,h6⟩
 have HMk:Hid (∀ (W:World) (a xa ka:Option Addr) (c xc kc:Nat),SL W w.heap.size a (pixN p) c (tkF 3 2 1 p.S)→SL W w.heap.size xa 1 xc (tkF 3 2 1 p.C)→KSL W w.heap.size ka p.kn p.K→(1=0∨pixN p=0∨xa≠a)→pixN p≤c∧c≤maxLen→PngSL W w.heap.size (withP p 0 p.hd (pixN p) (tkF 3 2 1 p.S) 1 (tkF 3 2 1 p.C)) ⟨none,0,xa,xc,a,c,ka,kc⟩):=fun W a xa ka c xc kc h1 h2 h3 h4 h5=>⟨.inl rfl,h2,h1,h3,h4,h5⟩
 have hsn:p.sn=3 * pixN p:=by have:=(png_n hM.1).1; rw [hcc,show chanN 2=3 by decide] at this; exact this
 have hN1:=(png_n hM.1).2.1
 have hN2:=(png_n hM.1).2.2
 have HC:Hid (Came w q.sa p.sn p.S):=hP.s
 have HCC:Hid (Came w q.ca p.cn p.C):=hP.c
 have HM:=hid_of hM
 have HP:=hid_of hP
 have HMM:Hid (MayR p∧(p.hc=2∨p.hc=6)):=⟨hM,by omega⟩
 clear hP hZ hM
 obtain⟨N,hNN⟩:∃ N,N=pixN p:=⟨_,rfl⟩
 rw[← hNN] at hsn hN1 hN2 HNo HYes HMk ⊢
 obtain⟨p0,hp0⟩:∃ p0,p0=p:=⟨_,rfl⟩
 obtain⟨hw,hh,hd,hc',lace,tn,T,cn,C,rw',rh,rc,rd,sn,S,kn,K⟩:=p
 obtain⟨ta,tc,ca,cc,sa,sc,ka,kc⟩:=q
 simp only [pngV] at hmay hr hsn HYes HNo HMk HC HCC HMM ⊢
 replace hcc:hc'=2:=hcc
 replace hcn:cn=3:=hcn
 have HE:Hid (p0.kn=kn∧p0.K=K∧p0.hw=hw∧p0.hh=hh∧p0.lace=lace):=by rw [hp0]; exact⟨rfl,rfl,rfl,rfl,rfl⟩
 have HMQ:Hid (MayR p0∧(p0.hc=2∨p0.hc=6)):=by rw [hp0]; exact HMM.out
 rw[← hp0] at hmay hr HP HYes HNo HMk HM ⊢
 clear hp0 hNN HMM
 subst hcc hcn hsn
 obtain⟨g,off,rfl,hg,hc⟩:∃ g off,sa=some ⟨g,off,none⟩∧g < w.heap.size∧∀ j,j < 3 * N→w.cell? ⟨g,off+j,none⟩=some (.int .i64 (S j)):=by
  rcases HC.out with h | h
  ·omega
  ·exact h
 have HCE:=hid_of hc
 obtain⟨gc,offc,rfl,hgc,hcc⟩:∃ gc offc,ca=some ⟨gc,offc,none⟩∧gc < w.heap.size∧∀ j,j < 3→w.cell? ⟨gc,offc+j,none⟩=some (.int .i64 (C j)):=by
  rcases HCC.out with h | h
  ·omega
  ·exact h
 have HCF:=hid_of hcc
 clear hcc
 clear hc HC HCC
 have H0:Hid (MoP w #[.int .i64 hw,.int .i64 hh,.int .i64 hd,.int .i64 2,.bool lace,.slice ta tn tc,.slice (some ⟨gc,offc,none⟩) 3 cc,.int .i64 rw',.int .i64 rh,.int .i64 rc,.int .i64 rd,.slice (some ⟨g,off,none⟩) (3 * N) sc,.slice ka kn kc] ((w.alloc (.cells #[.int .i64 hw,.int .i64 hh,.int .i64 hd,.int .i64 2,.bool lace,.slice ta tn tc,.slice (some ⟨gc,offc,none⟩) 3 cc,.int .i64 rw',.int .i64 rh,.int .i64 rc,.int .i64 rd,.slice (some ⟨g,off,none⟩) (3 * N) sc,.slice ka kn kc] 37)).alloc (.cells #[.int .i64 0,.int .i64 0,.int .i64 0,.int .i64 0,.bool false,.slice none 0 0,.slice none 0 0,.int .i64 0,.int .i64 0,.int .i64 0,.int .i64 0,.slice none 0 0,.slice none 0 0] 37))):=MoP.start w _ _ rfl
 go_enter Tryz.func15,Tryz.ntmps15
 go_wp2_with fail
 refine (hmay _ (HP.out.called H0.out.2.2)).mono ?_
 rintro e w1 ⟨b,rfl,hb,hB⟩
 have H1:=hid_of (H0.out.called hB)
 obtain rfl:b=true:=hb.mpr HMQ.out
 clear hB hb H0 hmay HMQ
 have lm:=block_lt H1.out.1
 obtain⟨m0,m1,m2,m3,m4,m5,m6,m7,m8,m9,m10,m11,m12⟩:=zqc H1.out.1
 go_wp2_with fail
 clear lm m0 m1 m2 m3 m4 m5 m6 m7 m8 m9 m10 m11 m12
 refine (hch _).mono ?_
 rintro e w2 ⟨rfl,q⟩
 obtain rfl:=q
 clear hch
 have H2:Hid (GlI w #[.int .i64 hw,.int .i64 hh,.int .i64 hd,.int .i64 2,.bool lace,.slice ta tn tc,.slice (some ⟨gc,offc,none⟩) 3 cc,.int .i64 rw',.int .i64 rh,.int .i64 rc,.int .i64 rd,.slice (some ⟨g,off,none⟩) (3 * N) sc,.slice ka kn kc] 3 S (.slice (some ⟨w2.heap.size,0,none⟩) 0 0) 0 (w2.alloc (.cells #[] 3))):=⟨H1.out.called (bstart _ _),NumRow.empty w2 _ H1.out.2.2.size,fun j hj=>absurd hj (Nat.not_lt_zero j)⟩
 clear H1
 go_wp2_with fail
 go_loopg [5,6] (3 * N+1) (fun gk v z u=>∃ j:Nat,j≤3 * N∧z=.int .i64 j∧3 * N - j≤gk∧Hid (GlI w #[.int .i64 hw,.int .i64 hh,.int .i64 hd,.int .i64 2,.bool lace,.slice ta tn tc,.slice (some ⟨gc,offc,none⟩) 3 cc,.int .i64 rw',.int .i64 rh,.int .i64 rc,.int .i64 rd,.slice (some ⟨g,off,none⟩) (3 * N) sc,.slice ka kn kc] 3 S v j u))
 case atStart=>exact⟨0,Nat.zero_le _,rfl,by omega,H2⟩
 case round=>
  clear H2
  obtain⟨j,hj,rfl,hk,hS⟩:=hrel
  have hMo:=hS.out.1
  have lm:=block_lt hMo.1
  obtain⟨m0,m1,m2,m3,m4,m5,m6,m7,m8,m9,m10,m11,m12⟩:=zqc hMo.1
  by_cases hlt:j < 3 * N
  ·have dl:decide ((j:Int) < ((3 * N:Nat):Int))=true:=decide_eq_true (by omega)
   have dl2:(j:Int) < 3 * (N:Int):=by omega
   have c0:=(hMo.2.2.cell (p:=⟨g,off+j,none⟩) hg).trans (HCE.out j hlt)
   have hl2:g < wr.heap.size:=Nat.lt_of_lt_of_le hg hMo.2.2.size
   generalize hfj:S j=fj at c0
   have HFJ:=hid_of hfj
   clear hfj
   have hcases:j % 3=0∨j % 3=1∨j % 3=2:=by omega
   rcases hcases with hres | hres | hres
   ·have km:(j:Int) % 3=0:=by omega
    have HCL:Hid (grL 3 S (j+1)=grL 3 S j ++ [fj]):=by
     show _=_
     rw[← HFJ.out,grL_succ,if_pos (by omega)]
    have HALL:Hid (∀ i,i < j+1→(i % 3=1∨i % 3=2)→S i=S (i - 1)):=fun i hi he=>hS.out.2.2 i (by omega) he
    have HNR:=hid_of hS.out.2.1
    have HLn:Hid ((grL 3 S j).length≤j):=grL_length _ _ _
    have HMo:=hid_of hMo
    clear hMo hres hS
    go_wp2_with fail
    clear lm m0 m1 m2 m3 m4 m5 m6 m7 m8 m9 m10 m11 m12
    refine wp_region_held (S:=fun Y=>Y=wr.drew) (by kernel_rfl) ?_
    show wpAnyH _ _ _ _ _ _ _ _ wr.drew
    have HM1:Hid (MoP w #[.int .i64 hw,.int .i64 hh,.int .i64 hd,.int .i64 2,.bool lace,.slice ta tn tc,.slice (some ⟨gc,offc,none⟩) 3 cc,.int .i64 rw',.int .i64 rh,.int .i64 rc,.int .i64 rd,.slice (some ⟨g,off,none⟩) (3 * N) sc,.slice ka kn kc] wr.drew∧NumRow wr.drew w.heap.size u5 (grL 3 S j)):=⟨HMo.out.called (bdraws (Below.refl _ _) 1),HNR.out.called (bdraws (Below.refl _ _) 1)⟩
    have c1:wr.drew.cell? ⟨g,off+j,none⟩=some (.int .i64 fj):=c0
    have HSx:(fun Y=>Y=wr.drew) wr.drew:=rfl
    have lg:g < wr.drew.heap.size:=hl2
    generalize wr.drew=u0 at HM1 c1 HSx lg ⊢
    clear c0 hl2 HMo HNR
    refine zqt 0 (.int .i64 0) rfl ?_ HSx ?_
    ·intro w' _
     go_simp
    simp only [Act.put,zga,zgb,zsa,zsb,zsc]
    refine zqt 1 (.bool false) rfl ?_ HSx ?_
    ·intro w' _
     go_simp
    simp only [Act.put,zga,zgb,zgc,zsa,zsb,zsc]
    refine zqt 2 (.bool false) rfl ?_ HSx ?_
    ·intro w' _
     go_simp
    simp only [Act.put,zga,zgb,zgc,zsa,zsb,zsc]
    refine zqt 3 (.int .i64 0) rfl ?_ HSx ?_
    ·intro w' _
     go_simp
    simp only [Act.put,zga,zgb,zgc,zsa,zsb,zsc]
    refine zqt 4 (.bool false) rfl ?_ HSx ?_
    ·intro w' _
     go_simp
    simp only [Act.put,zga,zgb,zgc,zsa,zsb,zsc]
    refine zqt 5 (.bool false) rfl ?_ HSx ?_
    ·intro w' _
     go_simp
    simp only [Act.put,zga,zgb,zgc,zsa,zsb,zsc]
    refine zqt 6 (.bool false) rfl ?_ HSx ?_
    ·intro w' _
     go_simp
    simp only [Act.put,zga,zgb,zgc,zsa,zsb,zsc]
    refine zqu 7 rfl HSx ?_
    simp only [Act.put,zga,zgb,zgc,zsa,zsb,zsc]
    refine zqu 8 rfl HSx ?_
    simp only [Act.put,zga,zgb,zgc,zsa,zsb,zsc]
    refine zqu 9 rfl HSx ?_
    simp only [Act.put,zga,zgb,zgc,zsa,zsb,zsc]
    refine zqu 10 rfl HSx ?_
    simp only [Act.put,zga,zgb,zgc,zsa,zsb,zsc]
    refine zqu 11 rfl HSx ?_
    simp only [Act.put,zga,zgb,zgc,zsa,zsb,zsc]
    refine zqu 12 rfl HSx ?_
    simp only [Act.put,zga,zgb,zgc,zsa,zsb,zsc]
    refine zqu 13 rfl HSx ?_
    simp only [Act.put,zga,zgb,zgc,zsa,zsb,zsc]
    refine zqu 14 rfl HSx ?_
    simp only [Act.put,zga,zgb,zgc,zsa,zsb,zsc]
    refine zqu 15 rfl HSx ?_
    simp only [Act.put,zga,zgb,zgc,zsa,zsb,zsc]
    refine zqu 16 rfl HSx ?_
    simp only [Act.put,zga,zgb,zgc,zsa,zsb,zsc]
    refine zqu 17 rfl HSx ?_
    simp only [Act.put,zga,zgb,zgc,zsa,zsb,zsc]
    refine zqu 18 rfl HSx ?_
    simp only [Act.put,zga,zgb,zgc,zsa,zsb,zsc]
    refine zqu 19 rfl HSx ?_
    simp only [Act.put,zga,zgb,zgc,zsa,zsb,zsc]
    refine zqu 20 rfl HSx ?_
    simp only [Act.put,zga,zgb,zgc,zsa,zsb,zsc]
    refine zqt 21 (.bool false) rfl ?_ HSx ?_
    ·intro w' _
     go_simp
    simp only [Act.put,zga,zgb,zgc,zsa,zsb,zsc]
    refine wpAnyH_done (by kernel_rfl) ?_ _
    clear HSx
    have lm:=block_lt HM1.out.1.1
    obtain⟨m0,m1,m2,m3,m4,m5,m6,m7,m8,m9,m10,m11,m12⟩:=zqc HM1.out.1.1
    go_wp2_with (at_builtin; refine nums_append1 (S:=w.heap.size) (xs:=grL 3 S j) rfl _ _ rfl rfl (HM1.out.2.called (bstart _ _)) u0.heap.size 1 fj rfl ((cell_of_block (heap_alloc_new u0 (.cells #[.int .i64 fj] 3)) 0).trans rfl) (by have:=HLn.out; omega) (by have:=HM1.out.1.2.2.size; simp; omega) ?_)
    intro v1 w1 y1 y2 y3
    have HS1:Hid (GlI w #[.int .i64 hw,.int .i64 hh,.int .i64 hd,.int .i64 2,.bool lace,.slice ta tn tc,.slice (some ⟨gc,offc,none⟩) 3 cc,.int .i64 rw',.int .i64 rh,.int .i64 rc,.int .i64 rd,.slice (some ⟨g,off,none⟩) (3 * N) sc,.slice ka kn kc] 3 S v1 (j+1) w1):=⟨(HM1.out.1.called (bstart u0 (.cells #[.int .i64 fj] 3))).grown (HM1.out.2.called (bstart u0 (.cells #[.int .i64 fj] 3))) (Nat.le_refl _) y2,by rw [HCL.out]; exact y1,HALL.out⟩
    clear y1 y2 y3 HM1 HCL HALL c1 lg lm m0 m1 m2 m3 m4 m5 m6 m7 m8 m9 m10 m11 m12
    go_wp2_with fail
    go_roundg (3 * N - (j+1))
    case measure=>omega
    case rel=>exact⟨j+1,by omega,by go_num,Nat.le_refl _,HS1⟩
   ·have km:(j:Int) % 3=1:=by omega
    obtain⟨m,hjm⟩:∃ m,j=m+1:=⟨j - 1,by omega⟩
    have cm:=(hMo.2.2.cell (p:=⟨g,off+m,none⟩) hg).trans (HCE.out m (by omega))
    have HSM:Hid (S (j - 1)=S m):=by
     show _=_
     rw[hjm]
     rfl
    generalize hfm:S m=fm at cm HSM
    have HFM0:=hid_of hfm
    clear hfm
    have wj:IntKind.i64.wrap ((j:Int) - 1)=(m:Int):=by rw [IntKind.wrap_i64]; omega
    have wj2:(j:Int) - 1=(m:Int):=by omega
    have wm:IntKind.i64.wrap (m:Int)=(m:Int):=by rw [IntKind.wrap_i64]; omega
    have ml:m < 3 * N:=by omega
    have ml2:(m:Int) < 3 * (N:Int):=by omega
    have HCL:Hid (grL 3 S (j+1)=grL 3 S j):=by
     show _=_
     rw[grL_succ,if_neg (by omega)]
    have HALL:Hid (fj=fm→∀ i,i < j+1→(i % 3=1∨i % 3=2)→S i=S (i - 1)):=fun hf i hi he=>by
     by_cases e:i=j
     ·rw[e,HSM.out,HFJ.out,hf]
     ·exact hS.out.2.2 i (by omega) he
    have HNOT:Hid (¬ fj=fm→¬ ∀ k,k < N→GryR 3 S k):=fun hf h=>by
     have h1:=h (j / 3) (by omega)
     unfold GryR at h1
     apply hf
     rw[← HFJ.out,← HFM0.out]
     have e1:=h1.1
     rw[show 3 * (j / 3)+1=j by omega,show 3 * (j / 3)=m by omega] at e1
     exact e1.symm
    have HNR:=hid_of hS.out.2.1
    have HMo:=hid_of hMo
    clear hMo hres hS hjm
    go_wp2_with fail
    clear lm m0 m1 m2 m3 m4 m5 m6 m7 m8 m9 m10 m11 m12
    refine wp_region_held (S:=fun Y=>Y=wr.drew) (by kernel_rfl) ?_
    show wpAnyH _ _ _ _ _ _ _ _ wr.drew
    have HM1:Hid (MoP w #[.int .i64 hw,.int .i64 hh,.int .i64 hd,.int .i64 2,.bool lace,.slice ta tn tc,.slice (some ⟨gc,offc,none⟩) 3 cc,.int .i64 rw',.int .i64 rh,.int .i64 rc,.int .i64 rd,.slice (some ⟨g,off,none⟩) (3 * N) sc,.slice ka kn kc] wr.drew∧NumRow wr.drew w.heap.size u5 (grL 3 S j)):=⟨HMo.out.called (bdraws (Below.refl _ _) 1),HNR.out.called (bdraws (Below.refl _ _) 1)⟩
    have c1:wr.drew.cell? ⟨g,off+j,none⟩=some (.int .i64 fj):=c0
    have HSx:(fun Y=>Y=wr.drew) wr.drew:=rfl
    have lg:g < wr.drew.heap.size:=hl2
    have c2:wr.drew.cell? ⟨g,off+m,none⟩=some (.int .i64 fm):=cm
    generalize wr.drew=u0 at HM1 c1 c2 HSx lg ⊢
    clear c0 cm hl2 HMo HNR
    refine zqt 0 (.int .i64 1) rfl ?_ HSx ?_
    ·intro w' _
     go_simp
    simp only [Act.put,zga,zgb,zsa,zsb,zsc]
    refine zqt 1 (.bool true) rfl ?_ HSx ?_
    ·intro w' _
     go_simp
    simp only [Act.put,zga,zgb,zgc,zsa,zsb,zsc]
    refine zqt 2 (.bool true) rfl ?_ HSx ?_
    ·intro w' _
     go_simp
    simp only [Act.put,zga,zgb,zgc,zsa,zsb,zsc]
    refine zqu 3 rfl HSx ?_
    simp only [Act.put,zga,zgb,zgc,zsa,zsb,zsc]
    refine zqu 4 rfl HSx ?_
    simp only [Act.put,zga,zgb,zgc,zsa,zsb,zsc]
    refine zqt 5 (.bool true) rfl ?_ HSx ?_
    ·intro w' _
     go_simp
    simp only [Act.put,zga,zgb,zgc,zsa,zsb,zsc]
    refine zqt 6 (.bool true) rfl ?_ HSx ?_
    ·intro w' _
     go_simp
    simp only [Act.put,zga,zgb,zgc,zsa,zsb,zsc]
    refine zqt 7 (.pointer (some ⟨w.heap.size,7,none⟩)) rfl ?_ HSx ?_
    ·intro w' _
     go_simp
    simp only [Act.put,zga,zgb,zgc,zsa,zsb,zsc]
    refine zqt 8 (.pointer (some ⟨w.heap.size,11,none⟩)) rfl ?_ HSx ?_
    ·intro w' _
     go_simp
    simp only [Act.put,zga,zgb,zgc,zsa,zsb,zsc]
    refine zqt 9 (.slice (some ⟨g,off,none⟩) (3 * N) sc) rfl ?_ HSx ?_
    ·intro w' hS
     subst hS; obtain⟨b0,b1,b2,b3,b4,b5,b6,b7,b8,b9,b10,b11,b12⟩:=zqc HM1.out.1.1; have bl:=block_lt HM1.out.1.1
     go_simp
    simp only [Act.put,zga,zgb,zgc,zsa,zsb,zsc]
    refine zqt 10 (.int .i64 (j:Int)) rfl ?_ HSx ?_
    ·intro w' _
     go_simp
    simp only [Act.put,zga,zgb,zgc,zsa,zsb,zsc]
    refine zqt 11 (.pointer (some ⟨g,off+j,none⟩)) rfl ?_ HSx ?_
    ·intro w' _
     go_simp
    simp only [Act.put,zga,zgb,zgc,zsa,zsb,zsc]
    refine zqt 12 (.int .i64 fj) rfl ?_ HSx ?_
    ·intro w' hS
     subst hS
     go_simp
    simp only [Act.put,zga,zgb,zgc,zsa,zsb,zsc]
    refine zqt 13 (.pointer (some ⟨w.heap.size,7,none⟩)) rfl ?_ HSx ?_
    ·intro w' _
     go_simp
    simp only [Act.put,zga,zgb,zgc,zsa,zsb,zsc]
    refine zqt 14 (.pointer (some ⟨w.heap.size,11,none⟩)) rfl ?_ HSx ?_
    ·intro w' _
     go_simp
    simp only [Act.put,zga,zgb,zgc,zsa,zsb,zsc]
    refine zqt 15 (.slice (some ⟨g,off,none⟩) (3 * N) sc) rfl ?_ HSx ?_
    ·intro w' hS
     subst hS; obtain⟨b0,b1,b2,b3,b4,b5,b6,b7,b8,b9,b10,b11,b12⟩:=zqc HM1.out.1.1; have bl:=block_lt HM1.out.1.1
     go_simp
    simp only [Act.put,zga,zgb,zgc,zsa,zsb,zsc]
    refine zqt 16 (.int .i64 (j:Int)) rfl ?_ HSx ?_
    ·intro w' _
     go_simp
    simp only [Act.put,zga,zgb,zgc,zsa,zsb,zsc]
    refine zqt 17 (.int .i64 (m:Int)) rfl ?_ HSx ?_
    ·intro w' _
     go_simp
    simp only [Act.put,zga,zgb,zgc,zsa,zsb,zsc]
    refine zqt 18 (.pointer (some ⟨g,off+m,none⟩)) rfl ?_ HSx ?_
    ·intro w' _
     go_simp
    simp only [Act.put,zga,zgb,zgc,zsa,zsb,zsc]
    refine zqt 19 (.int .i64 fm) rfl ?_ HSx ?_
    ·intro w' hS
     subst hS
     go_simp
    simp only [Act.put,zga,zgb,zgc,zsa,zsb,zsc]
    by_cases hf:fj=fm
    ·have nf:(fj != fm)=false:=by simpa using hf
     have HA:=hid_of (HALL.out hf)
     clear hf c1 c2
     refine zqt 20 (.bool false) rfl ?_ HSx ?_
     ·intro w' _
      go_simp
     simp only [Act.put,zga,zgb,zgc,zsa,zsb,zsc]
     refine zqt 21 (.bool false) rfl ?_ HSx ?_
     ·intro w' _
      go_simp
     simp only [Act.put,zga,zgb,zgc,zsa,zsb,zsc]
     refine wpAnyH_done (by kernel_rfl) ?_ _
     have HS1:Hid (GlI w #[.int .i64 hw,.int .i64 hh,.int .i64 hd,.int .i64 2,.bool lace,.slice ta tn tc,.slice (some ⟨gc,offc,none⟩) 3 cc,.int .i64 rw',.int .i64 rh,.int .i64 rc,.int .i64 rd,.slice (some ⟨g,off,none⟩) (3 * N) sc,.slice ka kn kc] 3 S u5 (j+1) u0):=⟨HM1.out.1,by rw [HCL.out]; exact HM1.out.2,HA.out⟩
     clear HSx HM1 HA HCL HALL HNOT nf lg wj wj2 wm ml ml2
     go_wp2_with fail
     go_roundg (3 * N - (j+1))
     case measure=>omega
     case rel=>exact⟨j+1,by omega,by go_num,Nat.le_refl _,HS1⟩
    ·have nf:(fj != fm)=true:=by simpa using hf
     have HN:=hid_of (HNo.out fun h=>HNOT.out hf h.2.1)
     clear hf c1 c2
     refine zqt 20 (.bool true) rfl ?_ HSx ?_
     ·intro w' _
      go_simp
     simp only [Act.put,zga,zgb,zgc,zsa,zsb,zsc]
     refine zqt 21 (.bool true) rfl ?_ HSx ?_
     ·intro w' _
      go_simp
     simp only [Act.put,zga,zgb,zgc,zsa,zsb,zsc]
     refine wpAnyH_done (by kernel_rfl) ?_ _
     have HM2:=hid_of HM1.out.1
     clear HSx HM1 HALL HCL HNOT nf lg HYes HMk hr wj wj2 wm ml ml2
     obtain⟨⟨z0,z1,z2,z3,z4,z5,z6,z7,z8,z9,z10,z11,z12,y0,y1,y2,y3,y4,y5,y6,y7,y8,y9,y10,y11,y12⟩,yf,yl⟩:=HM2.out.cells
     go_wp2_with fail
     refine bodyPost_ret (v:=.tuple #[.agg #[.int .i64 0,.int .i64 0,.int .i64 0,.int .i64 0,.bool false,.slice none 0 0,.slice none 0 0,.int .i64 0,.int .i64 0,.int .i64 0,.int .i64 0,.slice none 0 0,.slice none 0 0],.bool false]) ?_ rfl (HN.out _ ?_)
     ·simp[results,Tryz.results15,go_sem, *]
     ·exact HM2.out.stored _ _ _ _ _ _ _ _ _ _ _ _ _ 
   ·have km:(j:Int) % 3=2:=by omega
    obtain⟨m,hjm⟩:∃ m,j=m+1:=⟨j - 1,by omega⟩
    have cm:=(hMo.2.2.cell (p:=⟨g,off+m,none⟩) hg).trans (HCE.out m (by omega))
    have HSM:Hid (S (j - 1)=S m):=by
     show _=_
     rw[hjm]
     rfl
    generalize hfm:S m=fm at cm HSM
    have HFM0:=hid_of hfm
    clear hfm
    have wj:IntKind.i64.wrap ((j:Int) - 1)=(m:Int):=by rw [IntKind.wrap_i64]; omega
    have wj2:(j:Int) - 1=(m:Int):=by omega
    have wm:IntKind.i64.wrap (m:Int)=(m:Int):=by rw [IntKind.wrap_i64]; omega
    have ml:m < 3 * N:=by omega
    have ml2:(m:Int) < 3 * (N:Int):=by omega
    have HCL:Hid (grL 3 S (j+1)=grL 3 S j):=by
     show _=_
     rw[grL_succ,if_neg (by omega)]
    have HALL:Hid (fj=fm→∀ i,i < j+1→(i % 3=1∨i % 3=2)→S i=S (i - 1)):=fun hf i hi he=>by
     by_cases e:i=j
     ·rw[e,HSM.out,HFJ.out,hf]
     ·exact hS.out.2.2 i (by omega) he
    have HNOT:Hid (¬ fj=fm→¬ ∀ k,k < N→GryR 3 S k):=fun hf h=>by
     have h1:=h (j / 3) (by omega)
     unfold GryR at h1
     apply hf
     rw[← HFJ.out,← HFM0.out]
     have e1:=h1.2
     rw[show 3 * (j / 3)+2=j by omega,show 3 * (j / 3)+1=m by omega] at e1
     exact e1.symm
    have HNR:=hid_of hS.out.2.1
    have HMo:=hid_of hMo
    clear hMo hres hS hjm
    go_wp2_with fail
    clear lm m0 m1 m2 m3 m4 m5 m6 m7 m8 m9 m10 m11 m12
    refine wp_region_held (S:=fun Y=>Y=wr.drew) (by kernel_rfl) ?_
    show wpAnyH _ _ _ _ _ _ _ _ wr.drew
    have HM1:Hid (MoP w #[.int .i64 hw,.int .i64 hh,.int .i64 hd,.int .i64 2,.bool lace,.slice ta tn tc,.slice (some ⟨gc,offc,none⟩) 3 cc,.int .i64 rw',.int .i64 rh,.int .i64 rc,.int .i64 rd,.slice (some ⟨g,off,none⟩) (3 * N) sc,.slice ka kn kc] wr.drew∧NumRow wr.drew w.heap.size u5 (grL 3 S j)):=⟨HMo.out.called (bdraws (Below.refl _ _) 1),HNR.out.called (bdraws (Below.refl _ _) 1)⟩
    have c1:wr.drew.cell? ⟨g,off+j,none⟩=some (.int .i64 fj):=c0
    have HSx:(fun Y=>Y=wr.drew) wr.drew:=rfl
    have lg:g < wr.drew.heap.size:=hl2
    have c2:wr.drew.cell? ⟨g,off+m,none⟩=some (.int .i64 fm):=cm
    generalize wr.drew=u0 at HM1 c1 c2 HSx lg ⊢
    clear c0 cm hl2 HMo HNR
    refine zqt 0 (.int .i64 2) rfl ?_ HSx ?_
    ·intro w' _
     go_simp
    simp only [Act.put,zga,zgb,zsa,zsb,zsc]
    refine zqt 1 (.bool false) rfl ?_ HSx ?_
    ·intro w' _
     go_simp
    simp only [Act.put,zga,zgb,zgc,zsa,zsb,zsc]
    refine zqt 2 (.bool false) rfl ?_ HSx ?_
    ·intro w' _
     go_simp
    simp only [Act.put,zga,zgb,zgc,zsa,zsb,zsc]
    refine zqt 3 (.int .i64 2) rfl ?_ HSx ?_
    ·intro w' _
     go_simp
    simp only [Act.put,zga,zgb,zgc,zsa,zsb,zsc]
    refine zqt 4 (.bool true) rfl ?_ HSx ?_
    ·intro w' _
     go_simp
    simp only [Act.put,zga,zgb,zgc,zsa,zsb,zsc]
    refine zqt 5 (.bool true) rfl ?_ HSx ?_
    ·intro w' _
     go_simp
    simp only [Act.put,zga,zgb,zgc,zsa,zsb,zsc]
    refine zqt 6 (.bool true) rfl ?_ HSx ?_
    ·intro w' _
     go_simp
    simp only [Act.put,zga,zgb,zgc,zsa,zsb,zsc]
    refine zqt 7 (.pointer (some ⟨w.heap.size,7,none⟩)) rfl ?_ HSx ?_
    ·intro w' _
     go_simp
    simp only [Act.put,zga,zgb,zgc,zsa,zsb,zsc]
    refine zqt 8 (.pointer (some ⟨w.heap.size,11,none⟩)) rfl ?_ HSx ?_
    ·intro w' _
     go_simp
    simp only [Act.put,zga,zgb,zgc,zsa,zsb,zsc]
    refine zqt 9 (.slice (some ⟨g,off,none⟩) (3 * N) sc) rfl ?_ HSx ?_
    ·intro w' hS
     subst hS; obtain⟨b0,b1,b2,b3,b4,b5,b6,b7,b8,b9,b10,b11,b12⟩:=zqc HM1.out.1.1; have bl:=block_lt HM1.out.1.1
     go_simp
    simp only [Act.put,zga,zgb,zgc,zsa,zsb,zsc]
    refine zqt 10 (.int .i64 (j:Int)) rfl ?_ HSx ?_
    ·intro w' _
     go_simp
    simp only [Act.put,zga,zgb,zgc,zsa,zsb,zsc]
    refine zqt 11 (.pointer (some ⟨g,off+j,none⟩)) rfl ?_ HSx ?_
    ·intro w' _
     go_simp
    simp only [Act.put,zga,zgb,zgc,zsa,zsb,zsc]
    refine zqt 12 (.int .i64 fj) rfl ?_ HSx ?_
    ·intro w' hS
     subst hS
     go_simp
    simp only [Act.put,zga,zgb,zgc,zsa,zsb,zsc]
    refine zqt 13 (.pointer (some ⟨w.heap.size,7,none⟩)) rfl ?_ HSx ?_
    ·intro w' _
     go_simp
    simp only [Act.put,zga,zgb,zgc,zsa,zsb,zsc]
    refine zqt 14 (.pointer (some ⟨w.heap.size,11,none⟩)) rfl ?_ HSx ?_
    ·intro w' _
     go_simp
    simp only [Act.put,zga,zgb,zgc,zsa,zsb,zsc]
    refine zqt 15 (.slice (some ⟨g,off,none⟩) (3 * N) sc) rfl ?_ HSx ?_
    ·intro w' hS
     subst hS; obtain⟨b0,b1,b2,b3,b4,b5,b6,b7,b8,b9,b10,b11,b12⟩:=zqc HM1.out.1.1; have bl:=block_lt HM1.out.1.1
     go_simp
    simp only [Act.put,zga,zgb,zgc,zsa,zsb,zsc]
    refine zqt 16 (.int .i64 (j:Int)) rfl ?_ HSx ?_
    ·intro w' _
     go_simp
    simp only [Act.put,zga,zgb,zgc,zsa,zsb,zsc]
    refine zqt 17 (.int .i64 (m:Int)) rfl ?_ HSx ?_
    ·intro w' _
     go_simp
    simp only [Act.put,zga,zgb,zgc,zsa,zsb,zsc]
    refine zqt 18 (.pointer (some ⟨g,off+m,none⟩)) rfl ?_ HSx ?_
    ·intro w' _
     go_simp
    simp only [Act.put,zga,zgb,zgc,zsa,zsb,zsc]
    refine zqt 19 (.int .i64 fm) rfl ?_ HSx ?_
    ·intro w' hS
     subst hS
     go_simp
    simp only [Act.put,zga,zgb,zgc,zsa,zsb,zsc]
    by_cases hf:fj=fm
    ·have nf:(fj != fm)=false:=by simpa using hf
     have HA:=hid_of (HALL.out hf)
     clear hf c1 c2
     refine zqt 20 (.bool false) rfl ?_ HSx ?_
     ·intro w' _
      go_simp
     simp only [Act.put,zga,zgb,zgc,zsa,zsb,zsc]
     refine zqt 21 (.bool false) rfl ?_ HSx ?_
     ·intro w' _
      go_simp
     simp only [Act.put,zga,zgb,zgc,zsa,zsb,zsc]
     refine wpAnyH_done (by kernel_rfl) ?_ _
     have HS1:Hid (GlI w #[.int .i64 hw,.int .i64 hh,.int .i64 hd,.int .i64 2,.bool lace,.slice ta tn tc,.slice (some ⟨gc,offc,none⟩) 3 cc,.int .i64 rw',.int .i64 rh,.int .i64 rc,.int .i64 rd,.slice (some ⟨g,off,none⟩) (3 * N) sc,.slice ka kn kc] 3 S u5 (j+1) u0):=⟨HM1.out.1,by rw [HCL.out]; exact HM1.out.2,HA.out⟩
     clear HSx HM1 HA HCL HALL HNOT nf lg wj wj2 wm ml ml2
     go_wp2_with fail
     go_roundg (3 * N - (j+1))
     case measure=>omega
     case rel=>exact⟨j+1,by omega,by go_num,Nat.le_refl _,HS1⟩
    ·have nf:(fj != fm)=true:=by simpa using hf
     have HN:=hid_of (HNo.out fun h=>HNOT.out hf h.2.1)
     clear hf c1 c2
     refine zqt 20 (.bool true) rfl ?_ HSx ?_
     ·intro w' _
      go_simp
     simp only [Act.put,zga,zgb,zgc,zsa,zsb,zsc]
     refine zqt 21 (.bool true) rfl ?_ HSx ?_
     ·intro w' _
      go_simp
     simp only [Act.put,zga,zgb,zgc,zsa,zsb,zsc]
     refine wpAnyH_done (by kernel_rfl) ?_ _
     have HM2:=hid_of HM1.out.1
     clear HSx HM1 HALL HCL HNOT nf lg HYes HMk hr wj wj2 wm ml ml2
     obtain⟨⟨z0,z1,z2,z3,z4,z5,z6,z7,z8,z9,z10,z11,z12,y0,y1,y2,y3,y4,y5,y6,y7,y8,y9,y10,y11,y12⟩,yf,yl⟩:=HM2.out.cells
     go_wp2_with fail
     refine bodyPost_ret (v:=.tuple #[.agg #[.int .i64 0,.int .i64 0,.int .i64 0,.int .i64 0,.bool false,.slice none 0 0,.slice none 0 0,.int .i64 0,.int .i64 0,.int .i64 0,.int .i64 0,.slice none 0 0,.slice none 0 0],.bool false]) ?_ rfl (HN.out _ ?_)
     ·simp[results,Tryz.results15,go_sem, *]
     ·exact HM2.out.stored _ _ _ _ _ _ _ _ _ _ _ _ _ 
  ·obtain rfl:j=3 * N:=by omega
   have dl:decide (((3 * N:Nat):Int) < ((3 * N:Nat):Int))=false:=decide_eq_false (by omega)
   have dl2:¬ ((3 * N:Nat):Int) < 3 * (N:Int):=by omega
   have HG:Hid (∀ k,k < N→GryR 3 S k):=fun k hk2=>by
    have h1:=hS.out.2.2 (3 * k+1) (by omega) (by omega)
    have h2:=hS.out.2.2 (3 * k+2) (by omega) (by omega)
    exact⟨h1.symm,h2.symm⟩
   have hgl:=grL_3 S N HG.out
   obtain⟨al,cl,e1,_⟩:=hS.out.2.1.form
   have hlen:(grL 3 S (3 * N)).length=N:=by
    rw[hgl]
    simp
   have HL:Hid (SL wr w.heap.size al (N) cl (tkF 3 2 1 S)∧N≤cl∧cl≤maxLen):=by
    have q:=hS.out.2.1
    rw[e1,hlen] at q
    refine⟨(sl_of_num q hlen.symm).congr fun i hi=>?_,q.max⟩
    rw[hgl,List.getD_eq_getElem?_getD,List.getElem?_eq_getElem (by simp; omega)]
    simp
   rw[hlen] at e1
   obtain rfl:=e1
   have HL9:=HL
   have HMo:=hid_of hMo
   clear hMo hlt hS hlen hgl
   have H3:=hid_of (HMo.out.called (bstart wr (.cells #[] 3)))
   have HNE0:=hid_of (NumRow.empty wr wr.heap.size (Nat.le_refl _))
   have HL2:Hid (SL (wr.alloc (.cells #[] 3)) w.heap.size al (N) cl (tkF 3 2 1 S)∧N≤cl∧cl≤maxLen):=⟨HL.out.1.called (bstart _ _),HL.out.2⟩
   have HWS:Hid (wr.heap.size < (wr.alloc (.cells #[] 3)).heap.size∧w.heap.size≤wr.heap.size):=⟨by simp,HMo.out.2.2.size⟩
   go_wp2_with fail
   clear lm m0 m1 m2 m3 m4 m5 m6 m7 m8 m9 m10 m11 m12
   generalize wr.alloc (.cells #[] 3)=wz at H3 HNE0 HL2 HWS ⊢
   clear HMo
   refine wp_region_held (S:=fun Y=>Y=wz.drew) (by kernel_rfl) ?_
   show wpAnyH _ _ _ _ _ _ _ _ wz.drew
   have H4:=hid_of (H3.out.called (bdraws (Below.refl _ _) 1))
   have HNE1:=hid_of (HNE0.out.called (bdraws (Below.refl wz.heap.size wz) 1))
   have HL3:Hid (SL wz.drew w.heap.size al (N) cl (tkF 3 2 1 S)∧N≤cl∧cl≤maxLen):=⟨HL2.out.1.called (bdraws (Below.refl _ _) 1),HL2.out.2⟩
   have HWS2:Hid (wr.heap.size < wz.drew.heap.size∧w.heap.size≤wr.heap.size):=HWS.out
   have k0:wz.drew.cell? ⟨gc,offc+0,none⟩=some (.int .i64 (C 0)):=(H4.out.2.2.cell (p:=⟨gc,offc+0,none⟩) hgc).trans (HCF.out 0 (by omega))
   have k1:wz.drew.cell? ⟨gc,offc+1,none⟩=some (.int .i64 (C 1)):=(H4.out.2.2.cell (p:=⟨gc,offc+1,none⟩) hgc).trans (HCF.out 1 (by omega))
   have k2:wz.drew.cell? ⟨gc,offc+2,none⟩=some (.int .i64 (C 2)):=(H4.out.2.2.cell (p:=⟨gc,offc+2,none⟩) hgc).trans (HCF.out 2 (by omega))
   have HSx:(fun Y=>Y=wz.drew) wz.drew:=rfl
   have lgc:gc < wz.drew.heap.size:=Nat.lt_of_lt_of_le hgc H4.out.2.2.size
   have H4b:Hid (MoP w #[.int .i64 hw,.int .i64 hh,.int .i64 hd,.int .i64 2,.bool lace,.slice ta tn tc,.slice (some ⟨gc,offc,none⟩) 3 cc,.int .i64 rw',.int .i64 rh,.int .i64 rc,.int .i64 rd,.slice (some ⟨g,off,none⟩) (3 * N) sc,.slice ka kn kc] wz.drew):=H4
   have HNE2:Hid (NumRow wz.drew wr.heap.size (.slice (some ⟨wr.heap.size,0,none⟩) 0 0) []):=HNE1
   clear H4 HNE1 H3 HNE0 HL2 HWS
   generalize wz.drew=u0 at H4b HNE2 HL3 HWS2 k0 k1 k2 HSx lgc ⊢
   rw[Nat.add_zero] at k0
   have HGC:Hid ((∀ k,k < 1→GryR 3 C k)↔C 0=C 1∧C 1=C 2):=⟨fun h=>h 0 (by omega),fun h k hk2=>by
    obtain rfl:k=0:=by omega
    exact h⟩
   have HTK:Hid (tkF 3 2 1 C 0=C 2):=rfl
   generalize C 0=x0 at k0 HGC
   generalize C 1=x1 at k1 HGC
   generalize C 2=x2 at k2 HGC HTK
   refine zqt 0 (.pointer (some ⟨w.heap.size,6,none⟩)) rfl ?_ HSx ?_
   ·intro w' _
    go_simp
   simp only [Act.put,zga,zgb,zsa,zsb,zsc]
   refine zqt 1 (.slice (some ⟨gc,offc,none⟩) 3 cc) rfl ?_ HSx ?_
   ·intro w' hS
    subst hS; obtain⟨b0,b1,b2,b3,b4,b5,b6,b7,b8,b9,b10,b11,b12⟩:=zqc H4b.out.1; have bl:=block_lt H4b.out.1
    go_simp
   simp only [Act.put,zga,zgb,zgc,zsa,zsb,zsc]
   refine zqt 2 (.pointer (some ⟨gc,offc,none⟩)) rfl ?_ HSx ?_
   ·intro w' _
    go_simp
   simp only [Act.put,zga,zgb,zgc,zsa,zsb,zsc]
   refine zqt 3 (.int .i64 x0) rfl ?_ HSx ?_
   ·intro w' hS
    subst hS
    go_simp
   simp only [Act.put,zga,zgb,zgc,zsa,zsb,zsc]
   refine zqt 4 (.pointer (some ⟨w.heap.size,6,none⟩)) rfl ?_ HSx ?_
   ·intro w' _
    go_simp
   simp only [Act.put,zga,zgb,zgc,zsa,zsb,zsc]
   refine zqt 5 (.slice (some ⟨gc,offc,none⟩) 3 cc) rfl ?_ HSx ?_
   ·intro w' hS
    subst hS; obtain⟨b0,b1,b2,b3,b4,b5,b6,b7,b8,b9,b10,b11,b12⟩:=zqc H4b.out.1; have bl:=block_lt H4b.out.1
    go_simp
   simp only [Act.put,zga,zgb,zgc,zsa,zsb,zsc]
   refine zqt 6 (.pointer (some ⟨gc,offc+1,none⟩)) rfl ?_ HSx ?_
   ·intro w' _
    go_simp
   simp only [Act.put,zga,zgb,zgc,zsa,zsb,zsc]
   refine zqt 7 (.int .i64 x1) rfl ?_ HSx ?_
   ·intro w' hS
    subst hS
    go_simp
   simp only [Act.put,zga,zgb,zgc,zsa,zsb,zsc]
   by_cases h01:x0=x1
   ·have n1:(x0 != x1)=false:=by simpa using h01
    refine zqt 8 (.bool false) rfl ?_ HSx ?_
    ·intro w' _
     go_simp
    simp only [Act.put,zga,zgb,zgc,zsa,zsb,zsc]
    refine zqt 9 (.bool false) rfl ?_ HSx ?_
    ·intro w' _
     go_simp
    simp only [Act.put,zga,zgb,zgc,zsa,zsb,zsc]
    refine zqt 10 (.pointer (some ⟨w.heap.size,6,none⟩)) rfl ?_ HSx ?_
    ·intro w' _
     go_simp
    simp only [Act.put,zga,zgb,zgc,zsa,zsb,zsc]
    refine zqt 11 (.slice (some ⟨gc,offc,none⟩) 3 cc) rfl ?_ HSx ?_
    ·intro w' hS
     subst hS; obtain⟨b0,b1,b2,b3,b4,b5,b6,b7,b8,b9,b10,b11,b12⟩:=zqc H4b.out.1; have bl:=block_lt H4b.out.1
     go_simp
    simp only [Act.put,zga,zgb,zgc,zsa,zsb,zsc]
    refine zqt 12 (.pointer (some ⟨gc,offc+1,none⟩)) rfl ?_ HSx ?_
    ·intro w' _
     go_simp
    simp only [Act.put,zga,zgb,zgc,zsa,zsb,zsc]
    refine zqt 13 (.int .i64 x1) rfl ?_ HSx ?_
    ·intro w' hS
     subst hS
     go_simp
    simp only [Act.put,zga,zgb,zgc,zsa,zsb,zsc]
    refine zqt 14 (.pointer (some ⟨w.heap.size,6,none⟩)) rfl ?_ HSx ?_
    ·intro w' _
     go_simp
    simp only [Act.put,zga,zgb,zgc,zsa,zsb,zsc]
    refine zqt 15 (.slice (some ⟨gc,offc,none⟩) 3 cc) rfl ?_ HSx ?_
    ·intro w' hS
     subst hS; obtain⟨b0,b1,b2,b3,b4,b5,b6,b7,b8,b9,b10,b11,b12⟩:=zqc H4b.out.1; have bl:=block_lt H4b.out.1
     go_simp
    simp only [Act.put,zga,zgb,zgc,zsa,zsb,zsc]
    refine zqt 16 (.pointer (some ⟨gc,offc+2,none⟩)) rfl ?_ HSx ?_
    ·intro w' _
     go_simp
    simp only [Act.put,zga,zgb,zgc,zsa,zsb,zsc]
    refine zqt 17 (.int .i64 x2) rfl ?_ HSx ?_
    ·intro w' hS
     subst hS
     go_simp
    simp only [Act.put,zga,zgb,zgc,zsa,zsb,zsc]
    by_cases h12:x1=x2
    ·have n2:(x1 != x2)=false:=by simpa using h12
     have HX0:Hid (x0=x2):=h01.trans h12
     have HYA:=hid_of (HYes.out ⟨HM.out,HG.out,HGC.out.mpr ⟨h01,h12⟩⟩)
     clear h01 h12
     refine zqt 18 (.bool false) rfl ?_ HSx ?_
     ·intro w' _
      go_simp
     simp only [Act.put,zga,zgb,zgc,zsa,zsb,zsc]
     refine zqt 19 (.bool false) rfl ?_ HSx ?_
     ·intro w' _
      go_simp
     simp only [Act.put,zga,zgb,zgc,zsa,zsb,zsc]
     refine wpAnyH_done (by kernel_rfl) ?_ _
     clear HSx n1 n2 k1 k2 HYes HNo HM HG HGC HL
     have lm:=block_lt H4b.out.1
     obtain⟨m0,m1,m2,m3,m4,m5,m6,m7,m8,m9,m10,m11,m12⟩:=zqc H4b.out.1
     go_wp2_with (at_builtin; refine nums_append1 (S:=wr.heap.size) (xs:=[]) rfl _ _ rfl rfl (HNE2.out.called (bstart _ _)) u0.heap.size 1 x0 rfl ((cell_of_block (heap_alloc_new u0 (.cells #[.int .i64 x0] 3)) 0).trans rfl) (by simp) (by have:=HWS2.out; simp; omega) ?_)
     intro v1 w1 y1 y2 y3
     obtain⟨xa,xc,e1,_⟩:=y1.form
     obtain rfl:v1=.slice xa 1 xc:=e1
     have HLX:Hid (SL w1 wr.heap.size xa 1 xc (tkF 3 2 1 C)):=(sl_of_num y1 rfl).congr fun i hi=>by
      obtain rfl:i=0:=by omega
      rw[HTK.out,← HX0.out]
      rfl
     have H6:Hid (MoP w #[.int .i64 hw,.int .i64 hh,.int .i64 hd,.int .i64 2,.bool lace,.slice ta tn tc,.slice (some ⟨gc,offc,none⟩) 3 cc,.int .i64 rw',.int .i64 rh,.int .i64 rc,.int .i64 rd,.slice (some ⟨g,off,none⟩) (3 * N) sc,.slice ka kn kc] w1):=(H4b.out.called (bstart u0 (.cells #[.int .i64 x0] 3))).grown (HNE2.out.called (bstart u0 (.cells #[.int .i64 x0] 3))) HWS2.out.2 y2
     have HL4:Hid (SL w1 w.heap.size al (N) cl (tkF 3 2 1 S)∧N≤cl∧cl≤maxLen):=⟨by
      rcases HL9.out.1 with h | ⟨ga,ea,ho⟩
      ·exact .inl h
      ·refine .inr ⟨ga,ea,?_⟩
       have hlt:ga < wr.heap.size:=ho.lt
       rcases HL3.out.1 with h | ⟨ga2,ea2,ho2⟩
       ·exact absurd h (by omega)
       ·rw[ea] at ea2
        cases ea2
        exact ((ho2.called (bstart u0 (.cells #[.int .i64 x0] 3)))).grown y2 (by simp [Value.ownBlock]; omega),HL3.out.2⟩
     have HNEQ:Hid (1=0∨N=0∨xa≠al):=sl_apart HL9.out.1 HLX.out
     have HLY:=hid_of (sl_low2 HLX.out HWS2.out.2)
     clear y1 y2 y3 H4b HNE2 HL3 HLX HL9 HTK HX0 k0 lgc lm m0 m1 m2 m3 m4 m5 m6 m7 m8 m9 m10 m11 m12
     have lm:=block_lt H6.out.1
     obtain⟨m0,m1,m2,m3,m4,m5,m6,m7,m8,m9,m10,m11,m12⟩:=zqc H6.out.1
     go_wp2_with fail
     clear lm m0 m1 m2 m3 m4 m5 m6 m7 m8 m9 m10 m11 m12
     refine (hr al (N) cl (xa) 1 xc _ (HP.out.called H6.out.2.2)).mono ?_
     rintro e w5 ⟨kk,kc1,he,hk3,hB⟩
     simp only [HE.out.1,HE.out.2.1,HE.out.2.2.1,HE.out.2.2.2.1,HE.out.2.2.2.2] at he hk3
     subst he
     have H5:Hid (WP w #[.int .i64 hw,.int .i64 hh,.int .i64 hd,.int .i64 2,.bool lace,.slice ta tn tc,.slice (some ⟨gc,offc,none⟩) 3 cc,.int .i64 rw',.int .i64 rh,.int .i64 rc,.int .i64 rd,.slice (some ⟨g,off,none⟩) (3 * N) sc,.slice ka kn kc] (withP p0 0 hd (N) (tkF 3 2 1 S) 1 (tkF 3 2 1 C)) ⟨none,0,xa,xc,al,cl,kk,kc1⟩ w5):=⟨H6.out.called hB,HMk.out _ _ _ _ _ _ _ (HL4.out.1.called hB) (HLY.out.called hB) (ksl_low2 hk3 H6.out.2.2.size) HNEQ.out HL4.out.2⟩
     clear hB hk3 H6 HL4 HMk hr
     obtain⟨⟨z0,z1,z2,z3,z4,z5,z6,z7,z8,z9,z10,z11,z12,y0,y1,y2,y3,y4,y5,y6,y7,y8,y9,y10,y11,y12⟩,yf,yl⟩:=H5.out.m.cells
     go_wp2_with fail
     refine bodyPost_ret (v:=.tuple #[.agg #[.int .i64 hw,.int .i64 hh,.int .i64 hd,.int .i64 0,.bool lace,.slice none 0 0,.slice xa 1 xc,.int .i64 hw,.int .i64 hh,.int .i64 0,.int .i64 hd,.slice al (N) cl,.slice kk kn kc1],.bool true]) ?_ rfl (HYA.out _ _ _ _ _ _ _ ?_ ?_)
     ·simp[results,Tryz.results15,go_sem, *]
     ·exact (H5.out.stored _ _ _ _ _ _ _ _ _ _ _ _ _ ).1
     ·exact (H5.out.stored _ _ _ _ _ _ _ _ _ _ _ _ _ ).2
    ·have n2:(x1 != x2)=true:=by simpa using h12
     have HN:=hid_of (HNo.out fun h=>h12 (HGC.out.mp h.2.2).2)
     clear h01 h12 k0 k1 k2
     refine zqt 18 (.bool true) rfl ?_ HSx ?_
     ·intro w' _
      go_simp
     simp only [Act.put,zga,zgb,zgc,zsa,zsb,zsc]
     refine zqt 19 (.bool true) rfl ?_ HSx ?_
     ·intro w' _
      go_simp
     simp only [Act.put,zga,zgb,zgc,zsa,zsb,zsc]
     refine wpAnyH_done (by kernel_rfl) ?_ _
     clear HSx HYes HMk hr HL3 HNE2 HGC HTK
     obtain⟨⟨z0,z1,z2,z3,z4,z5,z6,z7,z8,z9,z10,z11,z12,y0,y1,y2,y3,y4,y5,y6,y7,y8,y9,y10,y11,y12⟩,yf,yl⟩:=H4b.out.cells
     go_wp2_with fail
     refine bodyPost_ret (v:=.tuple #[.agg #[.int .i64 0,.int .i64 0,.int .i64 0,.int .i64 0,.bool false,.slice none 0 0,.slice none 0 0,.int .i64 0,.int .i64 0,.int .i64 0,.int .i64 0,.slice none 0 0,.slice none 0 0],.bool false]) ?_ rfl (HN.out _ ?_)
     ·simp[results,Tryz.results15,go_sem, *]
     ·exact H4b.out.stored _ _ _ _ _ _ _ _ _ _ _ _ _ 
   ·have n1:(x0 != x1)=true:=by simpa using h01
    have HN:=hid_of (HNo.out fun h=>h01 (HGC.out.mp h.2.2).1)
    clear h01 k0 k1 k2
    refine zqt 8 (.bool true) rfl ?_ HSx ?_
    ·intro w' _
     go_simp
    simp only [Act.put,zga,zgb,zgc,zsa,zsb,zsc]
    refine zqt 9 (.bool true) rfl ?_ HSx ?_
    ·intro w' _
     go_simp
    simp only [Act.put,zga,zgb,zgc,zsa,zsb,zsc]
    refine zqu 10 rfl HSx ?_
    simp only [Act.put,zga,zgb,zgc,zsa,zsb,zsc]
    refine zqu 11 rfl HSx ?_
    simp only [Act.put,zga,zgb,zgc,zsa,zsb,zsc]
    refine zqu 12 rfl HSx ?_
    simp only [Act.put,zga,zgb,zgc,zsa,zsb,zsc]
    refine zqu 13 rfl HSx ?_
    simp only [Act.put,zga,zgb,zgc,zsa,zsb,zsc]
    refine zqu 14 rfl HSx ?_
    simp only [Act.put,zga,zgb,zgc,zsa,zsb,zsc]
    refine zqu 15 rfl HSx ?_
    simp only [Act.put,zga,zgb,zgc,zsa,zsb,zsc]
    refine zqu 16 rfl HSx ?_
    simp only [Act.put,zga,zgb,zgc,zsa,zsb,zsc]
    refine zqu 17 rfl HSx ?_
    simp only [Act.put,zga,zgb,zgc,zsa,zsb,zsc]
    refine zqu 18 rfl HSx ?_
    simp only [Act.put,zga,zgb,zgc,zsa,zsb,zsc]
    refine zqt 19 (.bool true) rfl ?_ HSx ?_
    ·intro w' _
     go_simp
    simp only [Act.put,zga,zgb,zgc,zsa,zsb,zsc]
    refine wpAnyH_done (by kernel_rfl) ?_ _
    clear HSx HYes HMk hr HL3 HNE2 HGC HTK
    obtain⟨⟨z0,z1,z2,z3,z4,z5,z6,z7,z8,z9,z10,z11,z12,y0,y1,y2,y3,y4,y5,y6,y7,y8,y9,y10,y11,y12⟩,yf,yl⟩:=H4b.out.cells
    go_wp2_with fail
    refine bodyPost_ret (v:=.tuple #[.agg #[.int .i64 0,.int .i64 0,.int .i64 0,.int .i64 0,.bool false,.slice none 0 0,.slice none 0 0,.int .i64 0,.int .i64 0,.int .i64 0,.int .i64 0,.slice none 0 0,.slice none 0 0],.bool false]) ?_ rfl (HN.out _ ?_)
    ·simp[results,Tryz.results15,go_sem, *]
    ·exact H4b.out.stored _ _ _ _ _ _ _ _ _ _ _ _ _ 
set_option maxRecDepth 100000 in
set_option maxHeartbeats 6400000 in
theorem specCol_6_0 (p:Pic) (q:PicA) (w:World) (hP:PngIn w p q) (hZ:PngSz p) (hcc:p.hc=6) (hcn:p.cn=0) (hM:MayR p):
  Calls Tryz.prog 15 #[pngV p q] w (LessPost (MayR p∧(∀ k,k < pixN p→GryR 4 p.S k)∧∀ k,k < 0→GryR 4 p.C k) (withP p 4 p.hd (2 * pixN p) (tkF 4 2 2 p.S) 0 (tkF 4 2 2 p.C)) w):=by
 have hmay:=fun W h=>specMayQ p q 2 6 W h hZ
 have hch:=fun W=>specChannels 6 W
 rw[show chan 6=(4:Int) by decide] at hch
 have hr:=fun ya yn yc xa xn xc W (h:PngIn W p q)=>specWith p q 4 p.hd ya yn yc xa xn xc W h.k (by have:=(png_fits hM.1).2.2.2.2; omega)
 have HNo:Hid (¬ (MayR p∧(∀ k,k < pixN p→GryR 4 p.S k)∧∀ k,k < 0→GryR 4 p.C k)→∀ W,Below w.heap.size w W→LessPost (MayR p∧(∀ k,k < pixN p→GryR 4 p.S k)∧∀ k,k < 0→GryR 4 p.C k) (withP p 4 p.hd (2 * pixN p) (tkF 4 2 2 p.S) 0 (tkF 4 2 2 p.C)) w (.returned (.tuple #[.agg #[.int .i64 0,.int .i64 0,.int .i64 0,.int .i64 0,.bool false,.slice none 0 0,.slice none 0 0,.int .i64 0,.int .i64 0,.int .i64 0,.int .i64 0,.slice none 0 0,.slice none 0 0],.bool false])) W):=fun h W b=>.inl ⟨h,rfl,b⟩
 have HYes:Hid ((MayR p∧(∀ k,k < pixN p→GryR 4 p.S k)∧∀ k,k < 0→GryR 4 p.C k)→∀ (W:World) (a xa ka:Option Addr) (c xc kc:Nat),PngSL W w.heap.size (withP p 4 p.hd (2 * pixN p) (tkF 4 2 2 p.S) 0 (tkF 4 2 2 p.C)) ⟨none,0,xa,xc,a,c,ka,kc⟩→Below w.heap.size w W→LessPost (MayR p∧(∀ k,k < pixN p→GryR 4 p.S k)∧∀ k,k < 0→GryR 4 p.C k) (withP p 4 p.hd (2 * pixN p) (tkF 4 2 2 p.S) 0 (tkF 4 2 2 p.C)) w (.returned (.tuple #[.agg #[.int .i64 p.hw,.int .i64 p.hh,.int .i64 p.hd,.int .i64 4,.bool p.lace,.slice none 0 0,.slice xa 0 xc,.int .i64 p.hw,.int .i64 p.hh,.int .i64 4,.int .i64 p.hd,.slice a (2 * pixN p) c,.slice ka p.kn kc],.bool true])) W):=fun h W a xa ka c xc kc h1 h6=>.inr ⟨h,_,rfl,h1,h6⟩
 have HMk:Hid (∀ (W:World) (a xa ka:Option Addr) (c xc kc:Nat),SL W w.heap.size a (2 * pixN p) c (tkF 4 2 2 p.S)→SL W w.heap.size xa 0 xc (tkF 4 2 2 p.C)→KSL W w.heap.size ka p.kn p.K→(0=0∨2 * pixN p=0∨xa≠a)→2 * pixN p≤c∧c≤maxLen→PngSL W w.heap.size (withP p 4 p.hd (2 * pixN p) (tkF 4 2 2 p.S) 0 (tkF 4 2 2 p.C)) ⟨none,0,xa,xc,a,c,ka,kc⟩):=fun W a xa ka c xc kc h1 h2 h3 h4 h5=>⟨.inl rfl,h2,h1,h3,h4,h5⟩
 have hsn:p.sn=4 * pixN p:=by have:=(png_n hM.1).1; rw [hcc,show chanN 6=4 by decide] at this; exact this
 have hN1:=(png_n hM.1).2.1
 have hN2:=(png_n hM.1).2.2
 have HC:Hid (Came w q.sa p.sn p.S):=hP.s
 have HCC:Hid (Came w q.ca p.cn p.C):=hP.c
 have HM:=hid_of hM
 have HP:=hid_of hP
 have HMM:Hid (MayR p∧(p.hc=2∨p.hc=6)):=⟨hM,by omega⟩
 clear hP hZ hM
 obtain⟨N,hNN⟩:∃ N,N=pixN p:=⟨_,rfl⟩
 rw[← hNN] at hsn hN1 hN2 HNo HYes HMk ⊢
 obtain⟨p0,hp0⟩:∃ p0,p0=p:=⟨_,rfl⟩
 obtain⟨hw,hh,hd,hc',lace,tn,T,cn,C,rw',rh,rc,rd,sn,S,kn,K⟩:=p
 obtain⟨ta,tc,ca,cc,sa,sc,ka,kc⟩:=q
 simp only [pngV] at hmay hr hsn HYes HNo HMk HC HCC HMM ⊢
 replace hcc:hc'=6:=hcc
 replace hcn:cn=0:=hcn
 have HE:Hid (p0.kn=kn∧p0.K=K∧p0.hw=hw∧p0.hh=hh∧p0.lace=lace):=by rw [hp0]; exact⟨rfl,rfl,rfl,rfl,rfl⟩
 have HMQ:Hid (MayR p0∧(p0.hc=2∨p0.hc=6)):=by rw [hp0]; exact HMM.out
 rw[← hp0] at hmay hr HP HYes HNo HMk HM ⊢
 clear hp0 hNN HMM
 subst hcc hcn hsn
 obtain⟨g,off,rfl,hg,hc⟩:∃ g off,sa=some ⟨g,off,none⟩∧g < w.heap.size∧∀ j,j < 4 * N→w.cell? ⟨g,off+j,none⟩=some (.int .i64 (S j)):=by
  rcases HC.out with h | h
  ·omega
  ·exact h
 have HCE:=hid_of hc
 clear hc HC HCC
 have H0:Hid (MoP w #[.int .i64 hw,.int .i64 hh,.int .i64 hd,.int .i64 6,.bool lace,.slice ta tn tc,.slice ca 0 cc,.int .i64 rw',.int .i64 rh,.int .i64 rc,.int .i64 rd,.slice (some ⟨g,off,none⟩) (4 * N) sc,.slice ka kn kc] ((w.alloc (.cells #[.int .i64 hw,.int .i64 hh,.int .i64 hd,.int .i64 6,.bool lace,.slice ta tn tc,.slice ca 0 cc,.int .i64 rw',.int .i64 rh,.int .i64 rc,.int .i64 rd,.slice (some ⟨g,off,none⟩) (4 * N) sc,.slice ka kn kc] 37)).alloc (.cells #[.int .i64 0,.int .i64 0,.int .i64 0,.int .i64 0,.bool false,.slice none 0 0,.slice none 0 0,.int .i64 0,.int .i64 0,.int .i64 0,.int .i64 0,.slice none 0 0,.slice none 0 0] 37))):=MoP.start w _ _ rfl
 go_enter Tryz.func15,Tryz.ntmps15
 go_wp2_with fail
 refine (hmay _ (HP.out.called H0.out.2.2)).mono ?_
 rintro e w1 ⟨b,rfl,hb,hB⟩
 have H1:=hid_of (H0.out.called hB)
 obtain rfl:b=true:=hb.mpr HMQ.out
 clear hB hb H0 hmay HMQ
 have lm:=block_lt H1.out.1
 obtain⟨m0,m1,m2,m3,m4,m5,m6,m7,m8,m9,m10,m11,m12⟩:=zqc H1.out.1
 go_wp2_with fail
 clear lm m0 m1 m2 m3 m4 m5 m6 m7 m8 m9 m10 m11 m12
 refine (hch _).mono ?_
 rintro e w2 ⟨rfl,q⟩
 obtain rfl:=q
 clear hch
 have H2:Hid (GlI w #[.int .i64 hw,.int .i64 hh,.int .i64 hd,.int .i64 6,.bool lace,.slice ta tn tc,.slice ca 0 cc,.int .i64 rw',.int .i64 rh,.int .i64 rc,.int .i64 rd,.slice (some ⟨g,off,none⟩) (4 * N) sc,.slice ka kn kc] 4 S (.slice (some ⟨w2.heap.size,0,none⟩) 0 0) 0 (w2.alloc (.cells #[] 3))):=⟨H1.out.called (bstart _ _),NumRow.empty w2 _ H1.out.2.2.size,fun j hj=>absurd hj (Nat.not_lt_zero j)⟩
 clear H1
 go_wp2_with fail
 go_loopg [5,6] (4 * N+1) (fun gk v z u=>∃ j:Nat,j≤4 * N∧z=.int .i64 j∧4 * N - j≤gk∧Hid (GlI w #[.int .i64 hw,.int .i64 hh,.int .i64 hd,.int .i64 6,.bool lace,.slice ta tn tc,.slice ca 0 cc,.int .i64 rw',.int .i64 rh,.int .i64 rc,.int .i64 rd,.slice (some ⟨g,off,none⟩) (4 * N) sc,.slice ka kn kc] 4 S v j u))
 case atStart=>exact⟨0,Nat.zero_le _,rfl,by omega,H2⟩
 case round=>
  clear H2
  obtain⟨j,hj,rfl,hk,hS⟩:=hrel
  have hMo:=hS.out.1
  have lm:=block_lt hMo.1
  obtain⟨m0,m1,m2,m3,m4,m5,m6,m7,m8,m9,m10,m11,m12⟩:=zqc hMo.1
  by_cases hlt:j < 4 * N
  ·have dl:decide ((j:Int) < ((4 * N:Nat):Int))=true:=decide_eq_true (by omega)
   have dl2:(j:Int) < 4 * (N:Int):=by omega
   have c0:=(hMo.2.2.cell (p:=⟨g,off+j,none⟩) hg).trans (HCE.out j hlt)
   have hl2:g < wr.heap.size:=Nat.lt_of_lt_of_le hg hMo.2.2.size
   generalize hfj:S j=fj at c0
   have HFJ:=hid_of hfj
   clear hfj
   have hcases:j % 4=0∨j % 4=1∨j % 4=2∨j % 4=3:=by omega
   rcases hcases with hres | hres | hres | hres
   ·have km:(j:Int) % 4=0:=by omega
    have HCL:Hid (grL 4 S (j+1)=grL 4 S j ++ [fj]):=by
     show _=_
     rw[← HFJ.out,grL_succ,if_pos (by omega)]
    have HALL:Hid (∀ i,i < j+1→(i % 4=1∨i % 4=2)→S i=S (i - 1)):=fun i hi he=>hS.out.2.2 i (by omega) he
    have HNR:=hid_of hS.out.2.1
    have HLn:Hid ((grL 4 S j).length≤j):=grL_length _ _ _
    have HMo:=hid_of hMo
    clear hMo hres hS
    go_wp2_with fail
    clear lm m0 m1 m2 m3 m4 m5 m6 m7 m8 m9 m10 m11 m12
    refine wp_region_held (S:=fun Y=>Y=wr.drew) (by kernel_rfl) ?_
    show wpAnyH _ _ _ _ _ _ _ _ wr.drew
    have HM1:Hid (MoP w #[.int .i64 hw,.int .i64 hh,.int .i64 hd,.int .i64 6,.bool lace,.slice ta tn tc,.slice ca 0 cc,.int .i64 rw',.int .i64 rh,.int .i64 rc,.int .i64 rd,.slice (some ⟨g,off,none⟩) (4 * N) sc,.slice ka kn kc] wr.drew∧NumRow wr.drew w.heap.size u5 (grL 4 S j)):=⟨HMo.out.called (bdraws (Below.refl _ _) 1),HNR.out.called (bdraws (Below.refl _ _) 1)⟩
    have c1:wr.drew.cell? ⟨g,off+j,none⟩=some (.int .i64 fj):=c0
    have HSx:(fun Y=>Y=wr.drew) wr.drew:=rfl
    have lg:g < wr.drew.heap.size:=hl2
    generalize wr.drew=u0 at HM1 c1 HSx lg ⊢
    clear c0 hl2 HMo HNR
    refine zqt 0 (.int .i64 0) rfl ?_ HSx ?_
    ·intro w' _
     go_simp
    simp only [Act.put,zga,zgb,zsa,zsb,zsc]
    refine zqt 1 (.bool false) rfl ?_ HSx ?_
    ·intro w' _
     go_simp
    simp only [Act.put,zga,zgb,zgc,zsa,zsb,zsc]
    refine zqt 2 (.bool false) rfl ?_ HSx ?_
    ·intro w' _
     go_simp
    simp only [Act.put,zga,zgb,zgc,zsa,zsb,zsc]
    refine zqt 3 (.int .i64 0) rfl ?_ HSx ?_
    ·intro w' _
     go_simp
    simp only [Act.put,zga,zgb,zgc,zsa,zsb,zsc]
    refine zqt 4 (.bool false) rfl ?_ HSx ?_
    ·intro w' _
     go_simp
    simp only [Act.put,zga,zgb,zgc,zsa,zsb,zsc]
    refine zqt 5 (.bool false) rfl ?_ HSx ?_
    ·intro w' _
     go_simp
    simp only [Act.put,zga,zgb,zgc,zsa,zsb,zsc]
    refine zqt 6 (.bool false) rfl ?_ HSx ?_
    ·intro w' _
     go_simp
    simp only [Act.put,zga,zgb,zgc,zsa,zsb,zsc]
    refine zqu 7 rfl HSx ?_
    simp only [Act.put,zga,zgb,zgc,zsa,zsb,zsc]
    refine zqu 8 rfl HSx ?_
    simp only [Act.put,zga,zgb,zgc,zsa,zsb,zsc]
    refine zqu 9 rfl HSx ?_
    simp only [Act.put,zga,zgb,zgc,zsa,zsb,zsc]
    refine zqu 10 rfl HSx ?_
    simp only [Act.put,zga,zgb,zgc,zsa,zsb,zsc]
    refine zqu 11 rfl HSx ?_
    simp only [Act.put,zga,zgb,zgc,zsa,zsb,zsc]
    refine zqu 12 rfl HSx ?_
    simp only [Act.put,zga,zgb,zgc,zsa,zsb,zsc]
    refine zqu 13 rfl HSx ?_
    simp only [Act.put,zga,zgb,zgc,zsa,zsb,zsc]
    refine zqu 14 rfl HSx ?_
    simp only [Act.put,zga,zgb,zgc,zsa,zsb,zsc]
    refine zqu 15 rfl HSx ?_
    simp only [Act.put,zga,zgb,zgc,zsa,zsb,zsc]
    refine zqu 16 rfl HSx ?_
    simp only [Act.put,zga,zgb,zgc,zsa,zsb,zsc]
    refine zqu 17 rfl HSx ?_
    simp only [Act.put,zga,zgb,zgc,zsa,zsb,zsc]
    refine zqu 18 rfl HSx ?_
    simp only [Act.put,zga,zgb,zgc,zsa,zsb,zsc]
    refine zqu 19 rfl HSx ?_
    simp only [Act.put,zga,zgb,zgc,zsa,zsb,zsc]
    refine zqu 20 rfl HSx ?_
    simp only [Act.put,zga,zgb,zgc,zsa,zsb,zsc]
    refine zqt 21 (.bool false) rfl ?_ HSx ?_
    ·intro w' _
     go_simp
    simp only [Act.put,zga,zgb,zgc,zsa,zsb,zsc]
    refine wpAnyH_done (by kernel_rfl) ?_ _
    clear HSx
    have lm:=block_lt HM1.out.1.1
    obtain⟨m0,m1,m2,m3,m4,m5,m6,m7,m8,m9,m10,m11,m12⟩:=zqc HM1.out.1.1
    go_wp2_with (at_builtin; refine nums_append1 (S:=w.heap.size) (xs:=grL 4 S j) rfl _ _ rfl rfl (HM1.out.2.called (bstart _ _)) u0.heap.size 1 fj rfl ((cell_of_block (heap_alloc_new u0 (.cells #[.int .i64 fj] 3)) 0).trans rfl) (by have:=HLn.out; omega) (by have:=HM1.out.1.2.2.size; simp; omega) ?_)
    intro v1 w1 y1 y2 y3
    have HS1:Hid (GlI w #[.int .i64 hw,.int .i64 hh,.int .i64 hd,.int .i64 6,.bool lace,.slice ta tn tc,.slice ca 0 cc,.int .i64 rw',.int .i64 rh,.int .i64 rc,.int .i64 rd,.slice (some ⟨g,off,none⟩) (4 * N) sc,.slice ka kn kc] 4 S v1 (j+1) w1):=⟨(HM1.out.1.called (bstart u0 (.cells #[.int .i64 fj] 3))).grown (HM1.out.2.called (bstart u0 (.cells #[.int .i64 fj] 3))) (Nat.le_refl _) y2,by rw [HCL.out]; exact y1,HALL.out⟩
    clear y1 y2 y3 HM1 HCL HALL c1 lg lm m0 m1 m2 m3 m4 m5 m6 m7 m8 m9 m10 m11 m12
    go_wp2_with fail
    go_roundg (4 * N - (j+1))
    case measure=>omega
    case rel=>exact⟨j+1,by omega,by go_num,Nat.le_refl _,HS1⟩
   ·have km:(j:Int) % 4=1:=by omega
    obtain⟨m,hjm⟩:∃ m,j=m+1:=⟨j - 1,by omega⟩
    have cm:=(hMo.2.2.cell (p:=⟨g,off+m,none⟩) hg).trans (HCE.out m (by omega))
    have HSM:Hid (S (j - 1)=S m):=by
     show _=_
     rw[hjm]
     rfl
    generalize hfm:S m=fm at cm HSM
    have HFM0:=hid_of hfm
    clear hfm
    have wj:IntKind.i64.wrap ((j:Int) - 1)=(m:Int):=by rw [IntKind.wrap_i64]; omega
    have wj2:(j:Int) - 1=(m:Int):=by omega
    have wm:IntKind.i64.wrap (m:Int)=(m:Int):=by rw [IntKind.wrap_i64]; omega
    have ml:m < 4 * N:=by omega
    have ml2:(m:Int) < 4 * (N:Int):=by omega
    have HCL:Hid (grL 4 S (j+1)=grL 4 S j):=by
     show _=_
     rw[grL_succ,if_neg (by omega)]
    have HALL:Hid (fj=fm→∀ i,i < j+1→(i % 4=1∨i % 4=2)→S i=S (i - 1)):=fun hf i hi he=>by
     by_cases e:i=j
     ·rw[e,HSM.out,HFJ.out,hf]
     ·exact hS.out.2.2 i (by omega) he
    have HNOT:Hid (¬ fj=fm→¬ ∀ k,k < N→GryR 4 S k):=fun hf h=>by
     have h1:=h (j / 4) (by omega)
     unfold GryR at h1
     apply hf
     rw[← HFJ.out,← HFM0.out]
     have e1:=h1.1
     rw[show 4 * (j / 4)+1=j by omega,show 4 * (j / 4)=m by omega] at e1
     exact e1.symm
    have HNR:=hid_of hS.out.2.1
    have HMo:=hid_of hMo
    clear hMo hres hS hjm
    go_wp2_with fail
    clear lm m0 m1 m2 m3 m4 m5 m6 m7 m8 m9 m10 m11 m12
    refine wp_region_held (S:=fun Y=>Y=wr.drew) (by kernel_rfl) ?_
    show wpAnyH _ _ _ _ _ _ _ _ wr.drew
    have HM1:Hid (MoP w #[.int .i64 hw,.int .i64 hh,.int .i64 hd,.int .i64 6,.bool lace,.slice ta tn tc,.slice ca 0 cc,.int .i64 rw',.int .i64 rh,.int .i64 rc,.int .i64 rd,.slice (some ⟨g,off,none⟩) (4 * N) sc,.slice ka kn kc] wr.drew∧NumRow wr.drew w.heap.size u5 (grL 4 S j)):=⟨HMo.out.called (bdraws (Below.refl _ _) 1),HNR.out.called (bdraws (Below.refl _ _) 1)⟩
    have c1:wr.drew.cell? ⟨g,off+j,none⟩=some (.int .i64 fj):=c0
    have HSx:(fun Y=>Y=wr.drew) wr.drew:=rfl
    have lg:g < wr.drew.heap.size:=hl2
    have c2:wr.drew.cell? ⟨g,off+m,none⟩=some (.int .i64 fm):=cm
    generalize wr.drew=u0 at HM1 c1 c2 HSx lg ⊢
    clear c0 cm hl2 HMo HNR
    refine zqt 0 (.int .i64 1) rfl ?_ HSx ?_
    ·intro w' _
     go_simp
    simp only [Act.put,zga,zgb,zsa,zsb,zsc]
    refine zqt 1 (.bool true) rfl ?_ HSx ?_
    ·intro w' _
     go_simp
    simp only [Act.put,zga,zgb,zgc,zsa,zsb,zsc]
    refine zqt 2 (.bool true) rfl ?_ HSx ?_
    ·intro w' _
     go_simp
    simp only [Act.put,zga,zgb,zgc,zsa,zsb,zsc]
    refine zqu 3 rfl HSx ?_
    simp only [Act.put,zga,zgb,zgc,zsa,zsb,zsc]
    refine zqu 4 rfl HSx ?_
    simp only [Act.put,zga,zgb,zgc,zsa,zsb,zsc]
    refine zqt 5 (.bool true) rfl ?_ HSx ?_
    ·intro w' _
     go_simp
    simp only [Act.put,zga,zgb,zgc,zsa,zsb,zsc]
    refine zqt 6 (.bool true) rfl ?_ HSx ?_
    ·intro w' _
     go_simp
    simp only [Act.put,zga,zgb,zgc,zsa,zsb,zsc]
    refine zqt 7 (.pointer (some ⟨w.heap.size,7,none⟩)) rfl ?_ HSx ?_
    ·intro w' _
     go_simp
    simp only [Act.put,zga,zgb,zgc,zsa,zsb,zsc]
    refine zqt 8 (.pointer (some ⟨w.heap.size,11,none⟩)) rfl ?_ HSx ?_
    ·intro w' _
     go_simp
    simp only [Act.put,zga,zgb,zgc,zsa,zsb,zsc]
    refine zqt 9 (.slice (some ⟨g,off,none⟩) (4 * N) sc) rfl ?_ HSx ?_
    ·intro w' hS
     subst hS; obtain⟨b0,b1,b2,b3,b4,b5,b6,b7,b8,b9,b10,b11,b12⟩:=zqc HM1.out.1.1; have bl:=block_lt HM1.out.1.1
     go_simp
    simp only [Act.put,zga,zgb,zgc,zsa,zsb,zsc]
    refine zqt 10 (.int .i64 (j:Int)) rfl ?_ HSx ?_
    ·intro w' _
     go_simp
    simp only [Act.put,zga,zgb,zgc,zsa,zsb,zsc]
    refine zqt 11 (.pointer (some ⟨g,off+j,none⟩)) rfl ?_ HSx ?_
    ·intro w' _
     go_simp
    simp only [Act.put,zga,zgb,zgc,zsa,zsb,zsc]
    refine zqt 12 (.int .i64 fj) rfl ?_ HSx ?_
    ·intro w' hS
     subst hS
     go_simp
    simp only [Act.put,zga,zgb,zgc,zsa,zsb,zsc]
    refine zqt 13 (.pointer (some ⟨w.heap.size,7,none⟩)) rfl ?_ HSx ?_
    ·intro w' _
     go_simp
    simp only [Act.put,zga,zgb,zgc,zsa,zsb,zsc]
    refine zqt 14 (.pointer (some ⟨w.heap.size,11,none⟩)) rfl ?_ HSx ?_
    ·intro w' _
     go_simp
    simp only [Act.put,zga,zgb,zgc,zsa,zsb,zsc]
    refine zqt 15 (.slice (some ⟨g,off,none⟩) (4 * N) sc) rfl ?_ HSx ?_
    ·intro w' hS
     subst hS; obtain⟨b0,b1,b2,b3,b4,b5,b6,b7,b8,b9,b10,b11,b12⟩:=zqc HM1.out.1.1; have bl:=block_lt HM1.out.1.1
     go_simp
    simp only [Act.put,zga,zgb,zgc,zsa,zsb,zsc]
    refine zqt 16 (.int .i64 (j:Int)) rfl ?_ HSx ?_
    ·intro w' _
     go_simp
    simp only [Act.put,zga,zgb,zgc,zsa,zsb,zsc]
    refine zqt 17 (.int .i64 (m:Int)) rfl ?_ HSx ?_
    ·intro w' _
     go_simp
    simp only [Act.put,zga,zgb,zgc,zsa,zsb,zsc]
    refine zqt 18 (.pointer (some ⟨g,off+m,none⟩)) rfl ?_ HSx ?_
    ·intro w' _
     go_simp
    simp only [Act.put,zga,zgb,zgc,zsa,zsb,zsc]
    refine zqt 19 (.int .i64 fm) rfl ?_ HSx ?_
    ·intro w' hS
     subst hS
     go_simp
    simp only [Act.put,zga,zgb,zgc,zsa,zsb,zsc]
    by_cases hf:fj=fm
    ·have nf:(fj != fm)=false:=by simpa using hf
     have HA:=hid_of (HALL.out hf)
     clear hf c1 c2
     refine zqt 20 (.bool false) rfl ?_ HSx ?_
     ·intro w' _
      go_simp
     simp only [Act.put,zga,zgb,zgc,zsa,zsb,zsc]
     refine zqt 21 (.bool false) rfl ?_ HSx ?_
     ·intro w' _
      go_simp
     simp only [Act.put,zga,zgb,zgc,zsa,zsb,zsc]
     refine wpAnyH_done (by kernel_rfl) ?_ _
     have HS1:Hid (GlI w #[.int .i64 hw,.int .i64 hh,.int .i64 hd,.int .i64 6,.bool lace,.slice ta tn tc,.slice ca 0 cc,.int .i64 rw',.int .i64 rh,.int .i64 rc,.int .i64 rd,.slice (some ⟨g,off,none⟩) (4 * N) sc,.slice ka kn kc] 4 S u5 (j+1) u0):=⟨HM1.out.1,by rw [HCL.out]; exact HM1.out.2,HA.out⟩
     clear HSx HM1 HA HCL HALL HNOT nf lg wj wj2 wm ml ml2
     go_wp2_with fail
     go_roundg (4 * N - (j+1))
     case measure=>omega
     case rel=>exact⟨j+1,by omega,by go_num,Nat.le_refl _,HS1⟩
    ·have nf:(fj != fm)=true:=by simpa using hf
     have HN:=hid_of (HNo.out fun h=>HNOT.out hf h.2.1)
     clear hf c1 c2
     refine zqt 20 (.bool true) rfl ?_ HSx ?_
     ·intro w' _
      go_simp
     simp only [Act.put,zga,zgb,zgc,zsa,zsb,zsc]
     refine zqt 21 (.bool true) rfl ?_ HSx ?_
     ·intro w' _
      go_simp
     simp only [Act.put,zga,zgb,zgc,zsa,zsb,zsc]
     refine wpAnyH_done (by kernel_rfl) ?_ _
     have HM2:=hid_of HM1.out.1
     clear HSx HM1 HALL HCL HNOT nf lg HYes HMk hr wj wj2 wm ml ml2
     obtain⟨⟨z0,z1,z2,z3,z4,z5,z6,z7,z8,z9,z10,z11,z12,y0,y1,y2,y3,y4,y5,y6,y7,y8,y9,y10,y11,y12⟩,yf,yl⟩:=HM2.out.cells
     go_wp2_with fail
     refine bodyPost_ret (v:=.tuple #[.agg #[.int .i64 0,.int .i64 0,.int .i64 0,.int .i64 0,.bool false,.slice none 0 0,.slice none 0 0,.int .i64 0,.int .i64 0,.int .i64 0,.int .i64 0,.slice none 0 0,.slice none 0 0],.bool false]) ?_ rfl (HN.out _ ?_)
     ·simp[results,Tryz.results15,go_sem, *]
     ·exact HM2.out.stored _ _ _ _ _ _ _ _ _ _ _ _ _ 
   ·have km:(j:Int) % 4=2:=by omega
    obtain⟨m,hjm⟩:∃ m,j=m+1:=⟨j - 1,by omega⟩
    have cm:=(hMo.2.2.cell (p:=⟨g,off+m,none⟩) hg).trans (HCE.out m (by omega))
    have HSM:Hid (S (j - 1)=S m):=by
     show _=_
     rw[hjm]
     rfl
    generalize hfm:S m=fm at cm HSM
    have HFM0:=hid_of hfm
    clear hfm
    have wj:IntKind.i64.wrap ((j:Int) - 1)=(m:Int):=by rw [IntKind.wrap_i64]; omega
    have wj2:(j:Int) - 1=(m:Int):=by omega
    have wm:IntKind.i64.wrap (m:Int)=(m:Int):=by rw [IntKind.wrap_i64]; omega
    have ml:m < 4 * N:=by omega
    have ml2:(m:Int) < 4 * (N:Int):=by omega
    have HCL:Hid (grL 4 S (j+1)=grL 4 S j):=by
     show _=_
     rw[grL_succ,if_neg (by omega)]
    have HALL:Hid (fj=fm→∀ i,i < j+1→(i % 4=1∨i % 4=2)→S i=S (i - 1)):=fun hf i hi he=>by
     by_cases e:i=j
     ·rw[e,HSM.out,HFJ.out,hf]
     ·exact hS.out.2.2 i (by omega) he
    have HNOT:Hid (¬ fj=fm→¬ ∀ k,k < N→GryR 4 S k):=fun hf h=>by
     have h1:=h (j / 4) (by omega)
     unfold GryR at h1
     apply hf
     rw[← HFJ.out,← HFM0.out]
     have e1:=h1.2
     rw[show 4 * (j / 4)+2=j by omega,show 4 * (j / 4)+1=m by omega] at e1
     exact e1.symm
    have HNR:=hid_of hS.out.2.1
    have HMo:=hid_of hMo
    clear hMo hres hS hjm
    go_wp2_with fail
    clear lm m0 m1 m2 m3 m4 m5 m6 m7 m8 m9 m10 m11 m12
    refine wp_region_held (S:=fun Y=>Y=wr.drew) (by kernel_rfl) ?_
    show wpAnyH _ _ _ _ _ _ _ _ wr.drew
    have HM1:Hid (MoP w #[.int .i64 hw,.int .i64 hh,.int .i64 hd,.int .i64 6,.bool lace,.slice ta tn tc,.slice ca 0 cc,.int .i64 rw',.int .i64 rh,.int .i64 rc,.int .i64 rd,.slice (some ⟨g,off,none⟩) (4 * N) sc,.slice ka kn kc] wr.drew∧NumRow wr.drew w.heap.size u5 (grL 4 S j)):=⟨HMo.out.called (bdraws (Below.refl _ _) 1),HNR.out.called (bdraws (Below.refl _ _) 1)⟩
    have c1:wr.drew.cell? ⟨g,off+j,none⟩=some (.int .i64 fj):=c0
    have HSx:(fun Y=>Y=wr.drew) wr.drew:=rfl
    have lg:g < wr.drew.heap.size:=hl2
    have c2:wr.drew.cell? ⟨g,off+m,none⟩=some (.int .i64 fm):=cm
    generalize wr.drew=u0 at HM1 c1 c2 HSx lg ⊢
    clear c0 cm hl2 HMo HNR
    refine zqt 0 (.int .i64 2) rfl ?_ HSx ?_
    ·intro w' _
     go_simp
    simp only [Act.put,zga,zgb,zsa,zsb,zsc]
    refine zqt 1 (.bool false) rfl ?_ HSx ?_
    ·intro w' _
     go_simp
    simp only [Act.put,zga,zgb,zgc,zsa,zsb,zsc]
    refine zqt 2 (.bool false) rfl ?_ HSx ?_
    ·intro w' _
     go_simp
    simp only [Act.put,zga,zgb,zgc,zsa,zsb,zsc]
    refine zqt 3 (.int .i64 2) rfl ?_ HSx ?_
    ·intro w' _
     go_simp
    simp only [Act.put,zga,zgb,zgc,zsa,zsb,zsc]
    refine zqt 4 (.bool true) rfl ?_ HSx ?_
    ·intro w' _
     go_simp
    simp only [Act.put,zga,zgb,zgc,zsa,zsb,zsc]
    refine zqt 5 (.bool true) rfl ?_ HSx ?_
    ·intro w' _
     go_simp
    simp only [Act.put,zga,zgb,zgc,zsa,zsb,zsc]
    refine zqt 6 (.bool true) rfl ?_ HSx ?_
    ·intro w' _
     go_simp
    simp only [Act.put,zga,zgb,zgc,zsa,zsb,zsc]
    refine zqt 7 (.pointer (some ⟨w.heap.size,7,none⟩)) rfl ?_ HSx ?_
    ·intro w' _
     go_simp
    simp only [Act.put,zga,zgb,zgc,zsa,zsb,zsc]
    refine zqt 8 (.pointer (some ⟨w.heap.size,11,none⟩)) rfl ?_ HSx ?_
    ·intro w' _
     go_simp
    simp only [Act.put,zga,zgb,zgc,zsa,zsb,zsc]
    refine zqt 9 (.slice (some ⟨g,off,none⟩) (4 * N) sc) rfl ?_ HSx ?_
    ·intro w' hS
     subst hS; obtain⟨b0,b1,b2,b3,b4,b5,b6,b7,b8,b9,b10,b11,b12⟩:=zqc HM1.out.1.1; have bl:=block_lt HM1.out.1.1
     go_simp
    simp only [Act.put,zga,zgb,zgc,zsa,zsb,zsc]
    refine zqt 10 (.int .i64 (j:Int)) rfl ?_ HSx ?_
    ·intro w' _
     go_simp
    simp only [Act.put,zga,zgb,zgc,zsa,zsb,zsc]
    refine zqt 11 (.pointer (some ⟨g,off+j,none⟩)) rfl ?_ HSx ?_
    ·intro w' _
     go_simp
    simp only [Act.put,zga,zgb,zgc,zsa,zsb,zsc]
    refine zqt 12 (.int .i64 fj) rfl ?_ HSx ?_
    ·intro w' hS
     subst hS
     go_simp
    simp only [Act.put,zga,zgb,zgc,zsa,zsb,zsc]
    refine zqt 13 (.pointer (some ⟨w.heap.size,7,none⟩)) rfl ?_ HSx ?_
    ·intro w' _
     go_simp
    simp only [Act.put,zga,zgb,zgc,zsa,zsb,zsc]
    refine zqt 14 (.pointer (some ⟨w.heap.size,11,none⟩)) rfl ?_ HSx ?_
    ·intro w' _
     go_simp
    simp only [Act.put,zga,zgb,zgc,zsa,zsb,zsc]
    refine zqt 15 (.slice (some ⟨g,off,none⟩) (4 * N) sc) rfl ?_ HSx ?_
    ·intro w' hS
     subst hS; obtain⟨b0,b1,b2,b3,b4,b5,b6,b7,b8,b9,b10,b11,b12⟩:=zqc HM1.out.1.1; have bl:=block_lt HM1.out.1.1
     go_simp
    simp only [Act.put,zga,zgb,zgc,zsa,zsb,zsc]
    refine zqt 16 (.int .i64 (j:Int)) rfl ?_ HSx ?_
    ·intro w' _
     go_simp
    simp only [Act.put,zga,zgb,zgc,zsa,zsb,zsc]
    refine zqt 17 (.int .i64 (m:Int)) rfl ?_ HSx ?_
    ·intro w' _
     go_simp
    simp only [Act.put,zga,zgb,zgc,zsa,zsb,zsc]
    refine zqt 18 (.pointer (some ⟨g,off+m,none⟩)) rfl ?_ HSx ?_
    ·intro w' _
     go_simp
    simp only [Act.put,zga,zgb,zgc,zsa,zsb,zsc]
    refine zqt 19 (.int .i64 fm) rfl ?_ HSx ?_
    ·intro w' hS
     subst hS
     go_simp
    simp only [Act.put,zga,zgb,zgc,zsa,zsb,zsc]
    by_cases hf:fj=fm
    ·have nf:(fj != fm)=false:=by simpa using hf
     have HA:=hid_of (HALL.out hf)
     clear hf c1 c2
     refine zqt 20 (.bool false) rfl ?_ HSx ?_
     ·intro w' _
      go_simp
     simp only [Act.put,zga,zgb,zgc,zsa,zsb,zsc]
     refine zqt 21 (.bool false) rfl ?_ HSx ?_
     ·intro w' _
      go_simp
     simp only [Act.put,zga,zgb,zgc,zsa,zsb,zsc]
     refine wpAnyH_done (by kernel_rfl) ?_ _
     have HS1:Hid (GlI w #[.int .i64 hw,.int .i64 hh,.int .i64 hd,.int .i64 6,.bool lace,.slice ta tn tc,.slice ca 0 cc,.int .i64 rw',.int .i64 rh,.int .i64 rc,.int .i64 rd,.slice (some ⟨g,off,none⟩) (4 * N) sc,.slice ka kn kc] 4 S u5 (j+1) u0):=⟨HM1.out.1,by rw [HCL.out]; exact HM1.out.2,HA.out⟩
     clear HSx HM1 HA HCL HALL HNOT nf lg wj wj2 wm ml ml2
     go_wp2_with fail
     go_roundg (4 * N - (j+1))
     case measure=>omega
     case rel=>exact⟨j+1,by omega,by go_num,Nat.le_refl _,HS1⟩
    ·have nf:(fj != fm)=true:=by simpa using hf
     have HN:=hid_of (HNo.out fun h=>HNOT.out hf h.2.1)
     clear hf c1 c2
     refine zqt 20 (.bool true) rfl ?_ HSx ?_
     ·intro w' _
      go_simp
     simp only [Act.put,zga,zgb,zgc,zsa,zsb,zsc]
     refine zqt 21 (.bool true) rfl ?_ HSx ?_
     ·intro w' _
      go_simp
     simp only [Act.put,zga,zgb,zgc,zsa,zsb,zsc]
     refine wpAnyH_done (by kernel_rfl) ?_ _
     have HM2:=hid_of HM1.out.1
     clear HSx HM1 HALL HCL HNOT nf lg HYes HMk hr wj wj2 wm ml ml2
     obtain⟨⟨z0,z1,z2,z3,z4,z5,z6,z7,z8,z9,z10,z11,z12,y0,y1,y2,y3,y4,y5,y6,y7,y8,y9,y10,y11,y12⟩,yf,yl⟩:=HM2.out.cells
     go_wp2_with fail
     refine bodyPost_ret (v:=.tuple #[.agg #[.int .i64 0,.int .i64 0,.int .i64 0,.int .i64 0,.bool false,.slice none 0 0,.slice none 0 0,.int .i64 0,.int .i64 0,.int .i64 0,.int .i64 0,.slice none 0 0,.slice none 0 0],.bool false]) ?_ rfl (HN.out _ ?_)
     ·simp[results,Tryz.results15,go_sem, *]
     ·exact HM2.out.stored _ _ _ _ _ _ _ _ _ _ _ _ _ 
   ·have km:(j:Int) % 4=3:=by omega
    have HCL:Hid (grL 4 S (j+1)=grL 4 S j ++ [fj]):=by
     show _=_
     rw[← HFJ.out,grL_succ,if_pos (by omega)]
    have HALL:Hid (∀ i,i < j+1→(i % 4=1∨i % 4=2)→S i=S (i - 1)):=fun i hi he=>hS.out.2.2 i (by omega) he
    have HNR:=hid_of hS.out.2.1
    have HLn:Hid ((grL 4 S j).length≤j):=grL_length _ _ _
    have HMo:=hid_of hMo
    clear hMo hres hS
    go_wp2_with fail
    clear lm m0 m1 m2 m3 m4 m5 m6 m7 m8 m9 m10 m11 m12
    refine wp_region_held (S:=fun Y=>Y=wr.drew) (by kernel_rfl) ?_
    show wpAnyH _ _ _ _ _ _ _ _ wr.drew
    have HM1:Hid (MoP w #[.int .i64 hw,.int .i64 hh,.int .i64 hd,.int .i64 6,.bool lace,.slice ta tn tc,.slice ca 0 cc,.int .i64 rw',.int .i64 rh,.int .i64 rc,.int .i64 rd,.slice (some ⟨g,off,none⟩) (4 * N) sc,.slice ka kn kc] wr.drew∧NumRow wr.drew w.heap.size u5 (grL 4 S j)):=⟨HMo.out.called (bdraws (Below.refl _ _) 1),HNR.out.called (bdraws (Below.refl _ _) 1)⟩
    have c1:wr.drew.cell? ⟨g,off+j,none⟩=some (.int .i64 fj):=c0
    have HSx:(fun Y=>Y=wr.drew) wr.drew:=rfl
    have lg:g < wr.drew.heap.size:=hl2
    generalize wr.drew=u0 at HM1 c1 HSx lg ⊢
    clear c0 hl2 HMo HNR
    refine zqt 0 (.int .i64 3) rfl ?_ HSx ?_
    ·intro w' _
     go_simp
    simp only [Act.put,zga,zgb,zsa,zsb,zsc]
    refine zqt 1 (.bool false) rfl ?_ HSx ?_
    ·intro w' _
     go_simp
    simp only [Act.put,zga,zgb,zgc,zsa,zsb,zsc]
    refine zqt 2 (.bool false) rfl ?_ HSx ?_
    ·intro w' _
     go_simp
    simp only [Act.put,zga,zgb,zgc,zsa,zsb,zsc]
    refine zqt 3 (.int .i64 3) rfl ?_ HSx ?_
    ·intro w' _
     go_simp
    simp only [Act.put,zga,zgb,zgc,zsa,zsb,zsc]
    refine zqt 4 (.bool false) rfl ?_ HSx ?_
    ·intro w' _
     go_simp
    simp only [Act.put,zga,zgb,zgc,zsa,zsb,zsc]
    refine zqt 5 (.bool false) rfl ?_ HSx ?_
    ·intro w' _
     go_simp
    simp only [Act.put,zga,zgb,zgc,zsa,zsb,zsc]
    refine zqt 6 (.bool false) rfl ?_ HSx ?_
    ·intro w' _
     go_simp
    simp only [Act.put,zga,zgb,zgc,zsa,zsb,zsc]
    refine zqu 7 rfl HSx ?_
    simp only [Act.put,zga,zgb,zgc,zsa,zsb,zsc]
    refine zqu 8 rfl HSx ?_
    simp only [Act.put,zga,zgb,zgc,zsa,zsb,zsc]
    refine zqu 9 rfl HSx ?_
    simp only [Act.put,zga,zgb,zgc,zsa,zsb,zsc]
    refine zqu 10 rfl HSx ?_
    simp only [Act.put,zga,zgb,zgc,zsa,zsb,zsc]
    refine zqu 11 rfl HSx ?_
    simp only [Act.put,zga,zgb,zgc,zsa,zsb,zsc]
    refine zqu 12 rfl HSx ?_
    simp only [Act.put,zga,zgb,zgc,zsa,zsb,zsc]
    refine zqu 13 rfl HSx ?_
    simp only [Act.put,zga,zgb,zgc,zsa,zsb,zsc]
    refine zqu 14 rfl HSx ?_
    simp only [Act.put,zga,zgb,zgc,zsa,zsb,zsc]
    refine zqu 15 rfl HSx ?_
    simp only [Act.put,zga,zgb,zgc,zsa,zsb,zsc]
    refine zqu 16 rfl HSx ?_
    simp only [Act.put,zga,zgb,zgc,zsa,zsb,zsc]
    refine zqu 17 rfl HSx ?_
    simp only [Act.put,zga,zgb,zgc,zsa,zsb,zsc]
    refine zqu 18 rfl HSx ?_
    simp only [Act.put,zga,zgb,zgc,zsa,zsb,zsc]
    refine zqu 19 rfl HSx ?_
    simp only [Act.put,zga,zgb,zgc,zsa,zsb,zsc]
    refine zqu 20 rfl HSx ?_
    simp only [Act.put,zga,zgb,zgc,zsa,zsb,zsc]
    refine zqt 21 (.bool false) rfl ?_ HSx ?_
    ·intro w' _
     go_simp
    simp only [Act.put,zga,zgb,zgc,zsa,zsb,zsc]
    refine wpAnyH_done (by kernel_rfl) ?_ _
    clear HSx
    have lm:=block_lt HM1.out.1.1
    obtain⟨m0,m1,m2,m3,m4,m5,m6,m7,m8,m9,m10,m11,m12⟩:=zqc HM1.out.1.1
    go_wp2_with (at_builtin; refine nums_append1 (S:=w.heap.size) (xs:=grL 4 S j) rfl _ _ rfl rfl (HM1.out.2.called (bstart _ _)) u0.heap.size 1 fj rfl ((cell_of_block (heap_alloc_new u0 (.cells #[.int .i64 fj] 3)) 0).trans rfl) (by have:=HLn.out; omega) (by have:=HM1.out.1.2.2.size; simp; omega) ?_)
    intro v1 w1 y1 y2 y3
    have HS1:Hid (GlI w #[.int .i64 hw,.int .i64 hh,.int .i64 hd,.int .i64 6,.bool lace,.slice ta tn tc,.slice ca 0 cc,.int .i64 rw',.int .i64 rh,.int .i64 rc,.int .i64 rd,.slice (some ⟨g,off,none⟩) (4 * N) sc,.slice ka kn kc] 4 S v1 (j+1) w1):=⟨(HM1.out.1.called (bstart u0 (.cells #[.int .i64 fj] 3))).grown (HM1.out.2.called (bstart u0 (.cells #[.int .i64 fj] 3))) (Nat.le_refl _) y2,by rw [HCL.out]; exact y1,HALL.out⟩
    clear y1 y2 y3 HM1 HCL HALL c1 lg lm m0 m1 m2 m3 m4 m5 m6 m7 m8 m9 m10 m11 m12
    go_wp2_with fail
    go_roundg (4 * N - (j+1))
    case measure=>omega
    case rel=>exact⟨j+1,by omega,by go_num,Nat.le_refl _,HS1⟩
  ·obtain rfl:j=4 * N:=by omega
   have dl:decide (((4 * N:Nat):Int) < ((4 * N:Nat):Int))=false:=decide_eq_false (by omega)
   have dl2:¬ ((4 * N:Nat):Int) < 4 * (N:Int):=by omega
   have HG:Hid (∀ k,k < N→GryR 4 S k):=fun k hk2=>by
    have h1:=hS.out.2.2 (4 * k+1) (by omega) (by omega)
    have h2:=hS.out.2.2 (4 * k+2) (by omega) (by omega)
    exact⟨h1.symm,h2.symm⟩
   have hgl:=grL_4 S N HG.out
   obtain⟨al,cl,e1,_⟩:=hS.out.2.1.form
   have hlen:(grL 4 S (4 * N)).length=2 * N:=by
    rw[hgl]
    simp
   have HL:Hid (SL wr w.heap.size al (2 * N) cl (tkF 4 2 2 S)∧2 * N≤cl∧cl≤maxLen):=by
    have q:=hS.out.2.1
    rw[e1,hlen] at q
    refine⟨(sl_of_num q hlen.symm).congr fun i hi=>?_,q.max⟩
    rw[hgl,List.getD_eq_getElem?_getD,List.getElem?_eq_getElem (by simp; omega)]
    simp
   rw[hlen] at e1
   obtain rfl:=e1
   have HMo:=hid_of hMo
   clear hMo hlt hS hlen hgl
   have HYA:=hid_of (HYes.out ⟨HM.out,HG.out,fun k hk2=>absurd hk2 (by omega)⟩)
   have H3:=hid_of (HMo.out.called (bstart wr (.cells #[] 3)))
   have HL2:Hid (SL (wr.alloc (.cells #[] 3)) w.heap.size al (2 * N) cl (tkF 4 2 2 S)∧2 * N≤cl∧cl≤maxLen):=⟨HL.out.1.called (bstart _ _),HL.out.2⟩
   clear HL HYes HNo HM HG HMo
   go_wp2_with fail
   clear lm m0 m1 m2 m3 m4 m5 m6 m7 m8 m9 m10 m11 m12
   refine (hr al (2 * N) cl ((some ⟨wr.heap.size,0,none⟩)) 0 0 _ (HP.out.called H3.out.2.2)).mono ?_
   rintro e w5 ⟨kk,kc1,he,hk3,hB⟩
   simp only [HE.out.1,HE.out.2.1,HE.out.2.2.1,HE.out.2.2.2.1,HE.out.2.2.2.2] at he hk3
   subst he
   have H5:Hid (WP w #[.int .i64 hw,.int .i64 hh,.int .i64 hd,.int .i64 6,.bool lace,.slice ta tn tc,.slice ca 0 cc,.int .i64 rw',.int .i64 rh,.int .i64 rc,.int .i64 rd,.slice (some ⟨g,off,none⟩) (4 * N) sc,.slice ka kn kc] (withP p0 4 hd (2 * N) (tkF 4 2 2 S) 0 (tkF 4 2 2 C)) ⟨none,0,(some ⟨wr.heap.size,0,none⟩),0,al,cl,kk,kc1⟩ w5):=⟨H3.out.called hB,HMk.out _ _ _ _ _ _ _ (HL2.out.1.called hB) (.inl (by first | rfl | trivial)) (ksl_low2 hk3 H3.out.2.2.size) (.inl (by first | rfl | trivial)) HL2.out.2⟩
   clear hB hk3 H3 HL2 HMk hr
   obtain⟨⟨z0,z1,z2,z3,z4,z5,z6,z7,z8,z9,z10,z11,z12,y0,y1,y2,y3,y4,y5,y6,y7,y8,y9,y10,y11,y12⟩,yf,yl⟩:=H5.out.m.cells
   go_wp2_with fail
   refine bodyPost_ret (v:=.tuple #[.agg #[.int .i64 hw,.int .i64 hh,.int .i64 hd,.int .i64 4,.bool lace,.slice none 0 0,.slice (some ⟨wr.heap.size,0,none⟩) 0 0,.int .i64 hw,.int .i64 hh,.int .i64 4,.int .i64 hd,.slice al (2 * N) cl,.slice kk kn kc1],.bool true]) ?_ rfl (HYA.out _ _ _ _ _ _ _ ?_ ?_)
   ·simp[results,Tryz.results15,go_sem, *]
   ·exact (H5.out.stored _ _ _ _ _ _ _ _ _ _ _ _ _ ).1
   ·exact (H5.out.stored _ _ _ _ _ _ _ _ _ _ _ _ _ ).2
set_option maxRecDepth 100000 in
set_option maxHeartbeats 6400000 in
theorem specCol_no (p:Pic) (q:PicA) (w:World) (hP:PngIn w p q) (hZ:PngSz p) (hno:¬ (MayR p∧(p.hc=2∨p.hc=6))):
  Calls Tryz.prog 15 #[pngV p q] w fun e w'=>e=.returned (.tuple #[noPng,.bool false])∧Below w.heap.size w w':=by
 have hmay:=fun W h=>specMayQ p q 2 6 W h hZ
 have HP:=hid_of hP
 have HNN:=hid_of hno
 clear hP hZ hno
 obtain⟨p0,hp0⟩:∃ p0,p0=p:=⟨_,rfl⟩
 rw[← hp0] at HP HNN hmay
 obtain⟨hw,hh,hd,hc',lace,tn,T,cn,C,rw',rh,rc,rd,sn,S,kn,K⟩:=p
 obtain⟨ta,tc,ca,cc,sa,sc,ka,kc⟩:=q
 have hmay1:=hmay
 rw[hp0] at hmay1
 simp only [pngV] at hmay1 ⊢
 rw[← hp0] at hmay1
 clear hp0 hmay
 have H0:Hid (MoP w #[.int .i64 hw,.int .i64 hh,.int .i64 hd,.int .i64 hc',.bool lace,.slice ta tn tc,.slice ca cn cc,.int .i64 rw',.int .i64 rh,.int .i64 rc,.int .i64 rd,.slice sa sn sc,.slice ka kn kc] ((w.alloc (.cells #[.int .i64 hw,.int .i64 hh,.int .i64 hd,.int .i64 hc',.bool lace,.slice ta tn tc,.slice ca cn cc,.int .i64 rw',.int .i64 rh,.int .i64 rc,.int .i64 rd,.slice sa sn sc,.slice ka kn kc] 37)).alloc (.cells #[.int .i64 0,.int .i64 0,.int .i64 0,.int .i64 0,.bool false,.slice none 0 0,.slice none 0 0,.int .i64 0,.int .i64 0,.int .i64 0,.int .i64 0,.slice none 0 0,.slice none 0 0] 37))):=MoP.start w _ _ rfl
 go_enter Tryz.func15,Tryz.ntmps15
 go_wp2_with fail
 refine (hmay1 _ (HP.out.called H0.out.2.2)).mono ?_
 rintro e w1 ⟨b,rfl,hb,hB⟩
 have H1:=hid_of (H0.out.called hB)
 obtain rfl:b=false:=by
  cases b
  ·rfl
  ·exact absurd (hb.mp rfl) HNN.out
 clear hB hb H0 hmay1
 obtain⟨⟨z0,z1,z2,z3,z4,z5,z6,z7,z8,z9,z10,z11,z12,y0,y1,y2,y3,y4,y5,y6,y7,y8,y9,y10,y11,y12⟩,yf,yl⟩:=H1.out.cells
 go_wp2_with fail
 refine bodyPost_ret (v:=.tuple #[.agg #[.int .i64 0,.int .i64 0,.int .i64 0,.int .i64 0,.bool false,.slice none 0 0,.slice none 0 0,.int .i64 0,.int .i64 0,.int .i64 0,.int .i64 0,.slice none 0 0,.slice none 0 0],.bool false]) ?_ rfl ⟨rfl,?_⟩
 ·simp[results,Tryz.results15,go_sem, *]
 ·exact H1.out.stored _ _ _ _ _ _ _ _ _ _ _ _ _ 
end Go.Proofs.YtkpbfmdnjnohlaaGreat
