/-
  Texts of the proof, put together.
-/
import Derived.Test.YtkpbfmdnjnohlaaGreatRd14
namespace Go.Proofs.YtkpbfmdnjnohlaaGreat
open Go.RowKit Go.Joins OutMath PutMath RastMath HeadMath ChunkMath
def B2 (w:World) (A:Array Value) (u:World):Prop:=BoxAt u w.heap.size A∧Below w.heap.size w u
theorem B2.start (w:World) (A:Array Value):B2 w A (w.alloc (.cells A 37)):=⟨heap_alloc_new w _,bstart w _⟩
theorem B2.called {w u u':World} {A:Array Value} (h:B2 w A u) (hb:Below u.heap.size u u'):B2 w A u':=⟨h.1.called hb,bnext h.2 hb⟩
def MayQPost (p:Pic) (x y:Int) (w:World) (e:Ending) (w':World):Prop:=∃ b,e=.returned (.bool b)∧(b=true↔MayR p∧(p.hc=x∨p.hc=y))∧Below w.heap.size w w'
set_option maxRecDepth 100000 in
set_option maxHeartbeats 1600000 in
theorem specMayQ (p:Pic) (q:PicA) (x y:Int) (w:World) (hP:PngIn w p q) (hZ:PngSz p):
  Calls Tryz.prog 27 #[pngV p q,.int .i64 x,.int .i64 y] w (MayQPost p x y w):=by
 have hok:=fun W h=>specPngOk p q W h hZ
 have hto:=fun W (h:PngIn W p q)=>specTouchy p q W h.k hZ.k
 have HTo:Hid (MayR p↔PngR p∧¬ TouchyR p.kn p.K):=Iff.rfl
 have HNo:Hid (¬ (MayR p∧(p.hc=x∨p.hc=y))→∀ W,Below w.heap.size w W→MayQPost p x y w (.returned (.bool false)) W):=fun h W b=>⟨false,rfl,⟨fun e=>(by cases e),fun k=>absurd k h⟩,b⟩
 have HYes:Hid ((MayR p∧(p.hc=x∨p.hc=y))→∀ W,Below w.heap.size w W→MayQPost p x y w (.returned (.bool true)) W):=fun h W b=>⟨true,rfl,⟨fun _=>h,fun _=>rfl⟩,b⟩
 have HP:=hid_of hP
 clear hP hZ
 obtain⟨p0,hp0⟩:∃ p0,p0=p:=⟨_,rfl⟩
 obtain⟨hw,hh,hd,hc',lace,tn,T,cn,C,rw',rh,rc,rd,sn,S,kn,K⟩:=p
 obtain⟨ta,tc,ca,cc,sa,sc,ka,kc⟩:=q
 simp only [pngV] at hok hto HTo HNo HYes ⊢
 rw[← hp0] at hok hto HP HTo HNo HYes ⊢
 clear hp0
 have H0:Hid (B2 w #[.int .i64 hw,.int .i64 hh,.int .i64 hd,.int .i64 hc',.bool lace,.slice ta tn tc,.slice ca cn cc,.int .i64 rw',.int .i64 rh,.int .i64 rc,.int .i64 rd,.slice sa sn sc,.slice ka kn kc] (w.alloc (.cells #[.int .i64 hw,.int .i64 hh,.int .i64 hd,.int .i64 hc',.bool lace,.slice ta tn tc,.slice ca cn cc,.int .i64 rw',.int .i64 rh,.int .i64 rc,.int .i64 rd,.slice sa sn sc,.slice ka kn kc] 37))):=B2.start w _
 go_enter Tryz.func27,Tryz.ntmps27
 go_wp2_with fail
 refine (hok _ (HP.out.called H0.out.2)).mono ?_
 rintro e w1 ⟨b,rfl,hb,hB⟩
 have H1:=hid_of (H0.out.called hB)
 have HB:=hid_of hb
 clear hB hb H0 hok
 cases b
 ·have HN:=hid_of (HNo.out fun h=>by have:=HB.out.mpr (HTo.out.mp h.1).1; cases this)
  clear hto HYes
  go_wp2_with fail
  go_ret
  exact HN.out _ H1.out.2
 have HR:=hid_of (HB.out.mp rfl)
 clear HB
 have la:=block_lt H1.out.1
 obtain⟨a0,a1,a2,a3,a4,a5,a6,a7,a8,a9,a10,a11,a12⟩:=zqc H1.out.1
 go_wp2_with fail
 clear la a0 a1 a2 a3 a4 a5 a6 a7 a8 a9 a10 a11 a12
 refine (hto _ (HP.out.called H1.out.2)).mono ?_
 rintro e w2 ⟨t,rfl,ht,hB⟩
 have H2:=hid_of (H1.out.called hB)
 have HT:=hid_of ht
 clear hB ht H1 hto
 cases t
 rotate_left
 ·have HN:=hid_of (HNo.out fun h=>(HTo.out.mp h.1).2 (HT.out.mp rfl))
  clear HYes
  go_wp2_with fail
  go_ret
  exact HN.out _ H2.out.2
 have HM:Hid (MayR p0):=HTo.out.mpr ⟨HR.out,fun h=>by have:=HT.out.mpr h; cases this⟩
 clear HT HTo HR
 have la:=block_lt H2.out.1
 obtain⟨a0,a1,a2,a3,a4,a5,a6,a7,a8,a9,a10,a11,a12⟩:=zqc H2.out.1
 by_cases hx:hc'=x
 ·have dx:(hc' == x)=true:=by simpa using hx
  have HF:=hid_of (HYes.out ⟨HM.out,.inl hx⟩)
  clear hx HNo HYes
  go_wp2_with fail
  go_ret
  exact HF.out _ H2.out.2
 have dx:(hc' == x)=false:=by simpa using hx
 by_cases hy:hc'=y
 ·have dy:(hc' == y)=true:=by simpa using hy
  have HF:=hid_of (HYes.out ⟨HM.out,.inr hy⟩)
  clear hx hy HNo HYes
  go_wp2_with fail
  go_ret
  exact HF.out _ H2.out.2
 have dy:(hc' == y)=false:=by simpa using hy
 have HF:=hid_of (HNo.out fun h=>h.2.elim hx hy)
 clear hx hy HNo HYes
 go_wp2_with fail
 go_ret
 exact HF.out _ H2.out.2
end Go.Proofs.YtkpbfmdnjnohlaaGreat
