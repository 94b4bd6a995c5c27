/-
  Texts of the proof, put together.
-/
import Derived.Test.YtkpbfmdnjnohlaaGreatGk46
import Derived.Test.YtkpbfmdnjnohlaaGreatGk47
import Derived.Test.YtkpbfmdnjnohlaaGreatGk37
namespace Go.Proofs.YtkpbfmdnjnohlaaGreat
section
open Go.RowKit Go.Joins OutMath PutMath RastMath HeadMath ChunkMath
def B1 (w:World) (A:Array Value) (u:World):Prop:=BoxAt u w.heap.size A∧Below w.heap.size w u
theorem B1.start (w:World) (A:Array Value):B1 w A (w.alloc (.cells A 37)):=⟨heap_alloc_new w _,bstart w _⟩
theorem B1.called {w u u':World} {A:Array Value} (h:B1 w A u) (hb:Below u.heap.size u u'):B1 w A u':=⟨h.1.called hb,bnext h.2 hb⟩
def MayPost (p:Pic) (w:World) (e:Ending) (w':World):Prop:=∃ b,e=.returned (.bool b)∧(b=true↔MayR p)∧Below w.heap.size w w'
set_option maxRecDepth 100000 in
set_option maxHeartbeats 1600000 in
theorem implMay (p:Pic) (q:PicA) (w:World) (hP:PngIn w p q) (hZ:PngSz p):
  Calls Tryz.prog 37 #[pngV p q] w (MayPost p w):=by
 have hok:=fun W h=>implPngOk p q W h hZ
 have hto:=fun W h=>implTouchy p q W h hZ.k
 have HP:=hid_of hP
 clear hP hZ
 obtain⟨p0,hp0⟩:∃ p0,p0=p:=⟨_,rfl⟩
 obtain⟨hw,hh,hd,hc',lace,tn,T,cn,C,rw',rh,rc,rd,sn,S,kn,K⟩:=p
 obtain⟨ta,tc,ca,cc,sa,sc,ka,kc⟩:=q
 simp only [pngV] at hok hto ⊢
 have hKC:∀ W,PngIn W p0 ⟨ta,tc,ca,cc,sa,sc,ka,kc⟩→KCame W ka kn K:=fun W h=>by rw [hp0] at h; exact h.k
 have HT0:Hid (TouchyR p0.kn p0.K↔TouchyR kn K):=by rw [hp0]; exact Iff.rfl
 rw[← hp0] at hok HP ⊢
 have hto1:=fun W h=>hto W (hKC W h)
 clear hto hKC hp0
 have H0:Hid (B1 w #[.int .i64 hw,.int .i64 hh,.int .i64 hd,.int .i64 hc',.bool lace,.slice ta tn tc,.slice ca cn cc,.int .i64 rw',.int .i64 rh,.int .i64 rc,.int .i64 rd,.slice sa sn sc,.slice ka kn kc] (w.alloc (.cells #[.int .i64 hw,.int .i64 hh,.int .i64 hd,.int .i64 hc',.bool lace,.slice ta tn tc,.slice ca cn cc,.int .i64 rw',.int .i64 rh,.int .i64 rc,.int .i64 rd,.slice sa sn sc,.slice ka kn kc] 37))):=B1.start w _
 go_enter Tryz.func37,Tryz.ntmps37
 go_wp2_with fail
 refine (hok _ (HP.out.called H0.out.2)).mono ?_
 rintro e w1 ⟨b,rfl,hb,hB⟩
 have H1:=hid_of (H0.out.called hB)
 have HB:=hid_of hb
 clear hB hb H0 hok
 cases b
 ·have HN:Hid (¬ MayR p0):=fun h=>by have:=HB.out.mpr h.1; cases this
  go_wp2_with fail
  go_ret
  exact⟨false,rfl,⟨fun e=>(by cases e),fun h=>absurd h HN.out⟩,H1.out.2⟩
 have HR:=hid_of (HB.out.mp rfl)
 clear HB
 have la:=block_lt H1.out.1
 have a0:=(cell_of_block H1.out.1 0).trans rfl
 have a1:=(cell_of_block H1.out.1 1).trans rfl
 have a2:=(cell_of_block H1.out.1 2).trans rfl
 have a3:=(cell_of_block H1.out.1 3).trans rfl
 have a4:=(cell_of_block H1.out.1 4).trans rfl
 have a5:=(cell_of_block H1.out.1 5).trans rfl
 have a6:=(cell_of_block H1.out.1 6).trans rfl
 have a7:=(cell_of_block H1.out.1 7).trans rfl
 have a8:=(cell_of_block H1.out.1 8).trans rfl
 have a9:=(cell_of_block H1.out.1 9).trans rfl
 have a10:=(cell_of_block H1.out.1 10).trans rfl
 have a11:=(cell_of_block H1.out.1 11).trans rfl
 have a12:=(cell_of_block H1.out.1 12).trans rfl
 go_wp2_with fail
 refine (hto1 _ (HP.out.called H1.out.2)).mono ?_
 rintro e w2 ⟨t,rfl,ht,hB⟩
 have H2:=hid_of (H1.out.called hB)
 have HM:Hid ((!t)=true↔MayR p0):=by
  have hR:=HR.out
  have h0:=HT0.out
  cases t
  ·exact⟨fun _=>⟨hR,fun h=>by have:=ht.mpr (h0.mp h); cases this⟩,fun _=>rfl⟩
  ·exact⟨fun h=>(by cases h),fun h=>absurd (h0.mpr (ht.mp rfl)) h.2⟩
 clear hB ht HR HT0 H1 la a0 a1 a2 a3 a4 a5 a6 a7 a8 a9 a10 a11 a12
 go_wp2_with fail
 go_ret
 exact⟨_,rfl,HM.out,H2.out.2⟩
end
section
open Go.RowKit Go.Joins
def wrD (f:Nat→Int) (b:Int) (j i:Nat):Int:=if i < j then f i / b else 0
theorem wrD_here (f:Nat→Int) (b:Int) (j i:Nat):upd (wrD f b j) j (f j / b) i=wrD f b (j+1) i:=by
 unfold upd wrD
 by_cases e:i=j
 ·rw[if_pos e,if_pos (by omega),e]
 ·rw[if_neg e]
  by_cases h:i < j
  ·rw[if_pos h,if_pos (by omega)]
  ·rw[if_neg h,if_neg (by omega)]
def DivI (w u:World) (f:Nat→Int) (b:Int) (g n j:Nat):Prop:=IOwn u w.heap.size g n n (wrD f b j)∧Below w.heap.size w u∧∀ i,i < j→f i % b=0
set_option maxRecDepth 100000 in
set_option maxHeartbeats 1600000 in
theorem implDivided (a:Option Addr) (n c:Nat) (f:Nat→Int) (b:Nat) (w:World) (hC:Came w a n f) (hn:n≤65536) (hf:∀ i,i < n→0≤f i∧f i≤65535) (hb:1≤b∧b≤257):
  Calls Tryz.prog 84 #[.slice a n c,.int .i64 (b:Int)] w (DivPost n f b w):=by
 have H0:Hid (DivI w (w.alloc (.cells (madeCells #[Value.int .i64 0] n) 3)) f b w.heap.size n 0):=⟨(IOwn.made (base:=w.heap.size) w n (by unfold maxLen; omega) (Nat.le_refl _)).congr fun i _=>by unfold wrD; rw [if_neg (by omega)],bstart w _,fun i hi=>absurd hi (Nat.not_lt_zero i)⟩
 have hmk:=make_ints w n (by omega)
 have HC:=hid_of hC
 have HF:=hid_of hf
 clear hC hf
 go_enter Tryz.func84,Tryz.ntmps84
 go_wp2_with fail
 go_loopw [14] (fun i u=>∃ j:Nat,j≤n∧i=.int .i64 j∧Hid (DivI w u f b w.heap.size n j)) (fun i _=>n - (intOf i).toNat)
 case atStart=>exact⟨0,Nat.zero_le _,rfl,H0⟩
 case round=>
  clear H0 hmk
  obtain⟨j,hj,rfl,hS⟩:=hrel
  by_cases hlt:j < n
  ·rcases HC.out with h0 | ⟨g,off,rfl,hg,hc⟩
   ·omega
   ·have c0:=(hS.out.2.1.cell (p:=⟨g,off+j,none⟩) hg).trans (hc j hlt)
    have hl2:g < wr.heap.size:=Nat.lt_of_lt_of_le hg hS.out.2.1.size
    have hv:=HF.out j hlt
    have HNo:Hid (¬ f j % b=0→¬ ∀ i,i < n→f i % b=0):=fun h k=>h (k j hlt)
    have HYes:Hid (f j % b=0→∀ i,i < j+1→f i % b=0):=fun h i hi=>by
     by_cases e:i=j
     ·rw[e]; exact h
     ·exact hS.out.2.2 i (by omega)
    have c1:=hS.out.1.cell j hlt
    have f1:=hS.out.1.free j hlt
    have l1:=hS.out.1.lt
    clear hc
    by_cases hd:f j % b=0
    ·have HS1:Hid (DivI w (wr.setCell ⟨w.heap.size,j,none⟩ (.int .i64 (f j / b))) f b w.heap.size n (j+1)):=⟨(hS.out.1.set j hlt (f j / b)).congr fun i _=>wrD_here f b j i,hS.out.2.1.setCell (p:=⟨w.heap.size,j,none⟩) (Nat.le_refl _) _,HYes.out hd⟩
     clear HNo HYes
     go_wp2_with fail
     go_roundw
     case rel=>exact⟨j+1,by omega,by go_num,HS1⟩
     case measure=>simp [intOf]; omega
    ·have HN:=hid_of (HNo.out hd)
     have HB:=hid_of hS.out.2.1
     clear HNo HYes hS
     go_wp2_with fail
     go_ret2
     exact⟨false,_,_,_,rfl,⟨fun e=>(by cases e),fun k=>absurd k HN.out⟩,fun e=>(by cases e),HB.out⟩
  ·obtain rfl:j=n:=by omega
   have HL:Hid (SL wr w.heap.size (some ⟨w.heap.size,0,none⟩) j j (fun i=>f i / b)∧j≤j∧j≤maxLen):=⟨(hS.out.1.congr fun i hi=>by unfold wrD; rw [if_pos hi]).sl,Nat.le_refl _,by unfold maxLen; omega⟩
   have HR:Hid (∀ i,i < j→f i % b=0):=hid_of hS.out.2.2
   have HB:=hid_of hS.out.2.1
   clear hS
   go_wp2_with fail
   go_ret2
   exact⟨true,_,_,_,rfl,⟨fun _=>HR.out,fun _=>rfl⟩,fun _=>⟨rfl,HL.out.1,HL.out.2⟩,HB.out⟩
end
end Go.Proofs.YtkpbfmdnjnohlaaGreat
