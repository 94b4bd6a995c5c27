/-
  Texts of the proof, put together.
-/
import Derived.Test.YtkpbfmdnjnohlaaGreatRd24
namespace Go.Proofs.YtkpbfmdnjnohlaaGreat
open Go.RowKit Go.Joins OutMath PutMath RastMath HeadMath ChunkMath
def B1 (w:World) (A:Array Value) (u:World):Prop:=BoxAt u w.heap.size A∧Below w.heap.size w u
theorem B1.start (w:World) (A:Array Value):B1 w A (w.alloc (.cells A 37)):=⟨heap_alloc_new w _,bstart w _⟩
theorem B1.called {w u u':World} {A:Array Value} (h:B1 w A u) (hb:Below u.heap.size u u'):B1 w A u':=⟨h.1.called hb,bnext h.2 hb⟩
def MayPost (p:Pic) (w:World) (e:Ending) (w':World):Prop:=∃ b,e=.returned (.bool b)∧(b=true↔MayR p)∧Below w.heap.size w w'
set_option maxRecDepth 100000 in
set_option maxHeartbeats 1600000 in
theorem implMay (p:Pic) (q:PicA) (w:World) (hP:PngIn w p q) (hZ:PngSz p):
  Calls Tryz.prog 37 #[pngV p q] w (MayPost p w):=by
 have hok:=fun W h=>implPngOk p q W h hZ
 have hto:=fun W h=>implTouchy p q W h hZ.k
 have HP:=hid_of hP
 clear hP hZ
 obtain⟨p0,hp0⟩:∃ p0,p0=p:=⟨_,rfl⟩
 obtain⟨hw,hh,hd,hc',lace,tn,T,cn,C,rw',rh,rc,rd,sn,S,kn,K⟩:=p
 obtain⟨ta,tc,ca,cc,sa,sc,ka,kc⟩:=q
 simp only [pngV] at hok hto ⊢
 have hKC:∀ W,PngIn W p0 ⟨ta,tc,ca,cc,sa,sc,ka,kc⟩→KCame W ka kn K:=fun W h=>by rw [hp0] at h; exact h.k
 have HT0:Hid (TouchyR p0.kn p0.K↔TouchyR kn K):=by rw [hp0]; exact Iff.rfl
 rw[← hp0] at hok HP ⊢
 have hto1:=fun W h=>hto W (hKC W h)
 clear hto hKC hp0
 have H0:Hid (B1 w #[.int .i64 hw,.int .i64 hh,.int .i64 hd,.int .i64 hc',.bool lace,.slice ta tn tc,.slice ca cn cc,.int .i64 rw',.int .i64 rh,.int .i64 rc,.int .i64 rd,.slice sa sn sc,.slice ka kn kc] (w.alloc (.cells #[.int .i64 hw,.int .i64 hh,.int .i64 hd,.int .i64 hc',.bool lace,.slice ta tn tc,.slice ca cn cc,.int .i64 rw',.int .i64 rh,.int .i64 rc,.int .i64 rd,.slice sa sn sc,.slice ka kn kc] 37))):=B1.start w _
 go_enter Tryz.func37,Tryz.ntmps37
 go_wp2_with fail
 refine (hok _ (HP.out.called H0.out.2)).mono ?_
 rintro e w1 ⟨b,rfl,hb,hB⟩
 have H1:=hid_of (H0.out.called hB)
 have HB:=hid_of hb
 clear hB hb H0 hok
 cases b
 ·have HN:Hid (¬ MayR p0):=fun h=>by have:=HB.out.mpr h.1; cases this
  go_wp2_with fail
  go_ret
  exact⟨false,rfl,⟨fun e=>(by cases e),fun h=>absurd h HN.out⟩,H1.out.2⟩
 have HR:=hid_of (HB.out.mp rfl)
 clear HB
 have la:=block_lt H1.out.1
 obtain⟨a0,a1,a2,a3,a4,a5,a6,a7,a8,a9,a10,a11,a12⟩:=zqc H1.out.1
 go_wp2_with fail
 refine (hto1 _ (HP.out.called H1.out.2)).mono ?_
 rintro e w2 ⟨t,rfl,ht,hB⟩
 have H2:=hid_of (H1.out.called hB)
 have HM:Hid ((!t)=true↔MayR p0):=by
  have hR:=HR.out
  have h0:=HT0.out
  cases t
  ·exact⟨fun _=>⟨hR,fun h=>by have:=ht.mpr (h0.mp h); cases this⟩,fun _=>rfl⟩
  ·exact⟨fun h=>(by cases h),fun h=>absurd (h0.mpr (ht.mp rfl)) h.2⟩
 clear hB ht HR HT0 H1 la a0 a1 a2 a3 a4 a5 a6 a7 a8 a9 a10 a11 a12
 go_wp2_with fail
 go_ret
 exact⟨_,rfl,HM.out,H2.out.2⟩
end Go.Proofs.YtkpbfmdnjnohlaaGreat
