/-
  Texts of the proof, put together.
-/
import Derived.Test.YtkpbfmdnjnohlaaGreatGk36
import Derived.Shelf.Pu.Clone
namespace Go.Proofs.YtkpbfmdnjnohlaaGreat
section
open Go.RowKit Go.Joins
def DivPost (n:Nat) (f:Nat→Int) (b:Int) (w:World) (e:Ending) (w':World):Prop:=
 ∃ ok a m c,e=.returned (.tuple #[.slice a m c,.bool ok])∧(ok=true↔∀ i,i < n→f i % b=0)∧(ok=true→m=n∧SL w' w.heap.size a n c (fun j=>f j / b)∧n≤c∧c≤maxLen)∧Below w.heap.size w w'
theorem SL.congr {w:World} {base:Nat} {a:Option Addr} {n c:Nat} {f g:Nat→Int} (h:SL w base a n c f) (e:∀ i,i < n→f i=g i):SL w base a n c g:=by
 rcases h with h | ⟨k,ea,ho⟩
 ·exact .inl h
 ·exact .inr ⟨k,ea,ho.congr e⟩
theorem NumRow.max {w:World} {S:Nat} {a:Option Addr} {n c:Nat} {l:List Int} (h:NumRow w S (.slice a n c) l):n≤c∧c≤maxLen:=by
 rcases h.2 with ⟨e,_⟩ | ⟨g,cap,cur,e,_,_,h1,h2,_⟩
 ·cases e; exact⟨Nat.le_refl _,by unfold maxLen; omega⟩
 ·cases e; exact⟨h1,h2⟩
def DivSt (w w':World) (v:Value) (f:Nat→Int) (b:Int) (j:Nat):Prop:=NumRow w' w.heap.size v (divL f b j)∧Below w.heap.size w w'∧∀ i,i < j→f i % b=0
set_option maxRecDepth 100000 in
set_option maxHeartbeats 1600000 in
theorem specDivided (a:Option Addr) (n c:Nat) (f:Nat→Int) (b:Nat) (w:World) (hC:Came w a n f) (hn:n≤65536) (hf:∀ i,i < n→0≤f i∧f i≤65535) (hb:1≤b∧b≤257):
  Calls Tryz.prog 60 #[.slice a n c,.int .i64 (b:Int)] w (DivPost n f b w):=by
 have H0:Hid (DivSt w (w.alloc (.cells #[] 3)) (.slice (some ⟨w.heap.size,0,none⟩) 0 0) f b 0):=⟨NumRow.empty w _ (Nat.le_refl _),bstart w _,fun i hi=>absurd hi (Nat.not_lt_zero i)⟩
 have HC:=hid_of hC
 have HF:=hid_of hf
 clear hC hf
 go_enter Tryz.func60,Tryz.ntmps60
 go_wp2_with fail
 go_loopg [6,7] (n+1) (fun gk v z w'=>∃ j:Nat,j≤n∧z=.int .i64 j∧n - j≤gk∧Hid (DivSt w w' v f b j))
 case atStart=>exact⟨0,Nat.zero_le _,rfl,by omega,H0⟩
 case round=>
  clear H0
  obtain⟨j,hj,rfl,hk,hS⟩:=hrel
  by_cases hlt:j < n
  ·rcases HC.out with h0 | ⟨g,off,rfl,hg,hc⟩
   ·omega
   ·have c0:=(hS.out.2.1.cell (p:=⟨g,off+j,none⟩) hg).trans (hc j hlt)
    have hl2:g < wr.heap.size:=Nat.lt_of_lt_of_le hg hS.out.2.1.size
    have hv:=HF.out j hlt
    have HNo:Hid (¬ f j % b=0→¬ ∀ i,i < n→f i % b=0):=fun h k=>h (k j hlt)
    have HYes:Hid (f j % b=0→∀ i,i < j+1→f i % b=0):=fun h i hi=>by
     by_cases e:i=j
     ·rw[e]; exact h
     ·exact hS.out.2.2 i (by omega)
    clear hc
    by_cases hd:f j % b=0
    ·have HK:=hid_of (HYes.out hd)
     have HNR:=hid_of hS.out.1
     have HB:=hid_of hS.out.2.1
     clear HNo HYes hS
     go_wp2_with (at_builtin; refine nums_append1 (S:=w.heap.size) (xs:=divL f b j) rfl _ _ rfl rfl (HNR.out.called (bstart _ _)) wr.heap.size 1 (f j / b) rfl ((cell_of_block (heap_alloc_new wr (.cells #[.int .i64 (f j / b)] 3)) 0).trans rfl) (by rw [divL_length]; omega) (by have:=HB.out.size; simp; omega) ?_)
     intro v1 w1 y1 y2 _
     have HS1:Hid (DivSt w w1 v1 f b (j+1)):=⟨by rw [divL_succ]; exact y1,(bal HB.out _).grown y2 (by have:=HB.out.size; simp; omega) (fun q hq=>(HNR.out.lt q hq).1),HK.out⟩
     clear y1 y2 HK HNR HB
     go_wp2_with fail
     go_roundg (n - (j+1))
     case measure=>omega
     case rel=>exact⟨j+1,by omega,by go_num,Nat.le_refl _,HS1⟩
    ·have HN:=hid_of (HNo.out hd)
     have HB:=hid_of (bal hS.out.2.1 (.cells #[] 3))
     clear HNo HYes hS
     go_wp2_with fail
     go_ret2
     exact⟨false,_,_,_,rfl,⟨fun e=>(by cases e),fun k=>absurd k HN.out⟩,fun e=>(by cases e),HB.out⟩
  ·obtain rfl:j=n:=by omega
   obtain⟨a',c',e',hcap,_⟩:=hS.out.1.form
   have HR:Hid (∀ i,i < j→f i % b=0):=hid_of hS.out.2.2
   have HB:=hid_of hS.out.2.1
   have HL:Hid (SL wr w.heap.size a' j c' (fun i=>f i / b)∧j≤c'∧c'≤maxLen):=by
    have q:=hS.out.1
    rw[e',divL_length] at q
    exact⟨(sl_of_num q (divL_length f b j).symm).congr fun i hi=>divL_get f b j i hi,q.max⟩
   clear hS
   go_wp2_with fail
   go_ret2
   rw[e',divL_length]
   exact⟨true,_,_,_,rfl,⟨fun _=>HR.out,fun _=>rfl⟩,fun _=>⟨rfl,HL.out.1,HL.out.2⟩,HB.out⟩
end
section
open Go.RowKit Go.Joins
def renClone:Go.Shelf.Ren:=⟨fun _=>138,fun n=>match n with
 | 0=>0
 | 3=>3
 | 4=>4
 | 5=>5
 | 9=>9
 | 37=>120
 | _=>134,fun n=>n⟩
set_option maxRecDepth 100000 in
theorem clone_laid:LaysPu.n25 Tryz.prog renClone:=by
 constructor <;> first | kernel_rfl | exact fun w=>by kernel_rfl | exact fun w=>rfl
theorem implCloneLite (s:ByteArray) (w:World) (hs:s.size≤1048576):Calls Tryz.prog 138 #[.string s] w fun e w'=>e=.returned (.string s)∧Below w.heap.size w w':=AnyPu.stringslite_Clone clone_laid s w (by omega)
theorem implClone (s:ByteArray) (w:World) (hs:s.size≤1048576):Calls Tryz.prog 132 #[.string s] w fun e w'=>e=.returned (.string s)∧Below w.heap.size w w':=by
 go_enter Tryz.func132,Tryz.ntmps132
 go_wp2_with fail
 refine (implCloneLite s _ hs).mono ?_
 rintro e w1 ⟨rfl,hb⟩
 go_wp2_with fail
 go_ret
 exact⟨rfl,hb⟩
end
end Go.Proofs.YtkpbfmdnjnohlaaGreat
