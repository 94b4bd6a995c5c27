/-
  Texts of the proof, put together.
-/
import Derived.Test.YtklpiihnbokkkaaGreatDoorZk07
import Derived.Deep.RegionHeld3
namespace Go.Proofs.YtklpiihnbokkkaaGreatDoor
open Go.RowKit Go.Joins OutMath TokMath SearchMath DeflMath
def SpecBest:Prop:=∀ (s:ByteArray) (c:Int) (t:ByteArray) (a:Option Addr) (cp:Nat) (L:List Tok) (last:Bool) (w:World),s.size≤maxLen→-9223372036854775808≤c→c≤9223372036854775807→t.size≤1048576→TCame w a L.length (fun j=>L.getD j (0,0,0))→L.length≤1048576→
 Calls Tryz.prog 42 #[.agg #[.string s,.int .i64 c],.string t,.slice a L.length cp,.bool last] w fun e w'=>e=.returned (blkAns (bestOut s c t L last))∧Below w.heap.size w w'
def MI (w:World) (t:ByteArray) (L:List Tok) (k:Nat) (V:World):Prop:=∃ (s:ByteArray) (c:Nat),partsSt t L k=some (s,c)∧
 V.heap[w.heap.size]?=some (.cells #[.string ⟨#[]⟩,.int .i64 0] 43 (0,0))∧
 V.heap[w.heap.size+1]?=some (.cells #[.string s,.int .i64 (c:Int)] 43 (0,0))∧Below w.heap.size w V
def midS (L:List Tok) (i j:Nat):Nat:=sizeL ((L.drop i).take (j - i))
theorem midS_none (L:List Tok) (i:Nat):midS L i i=0:=by simp [midS,sizeL]
theorem midS_next {L:List Tok} {i j:Nat} (hi:i≤j) (hj:j < L.length):midS L i (j+1)=midS L i j+sizeT (L.getD j (0,0,0)):=by
 unfold midS
 rw[show j+1 - i=(j - i)+1 by omega,List.take_add_one,sizeL_app,List.getElem?_drop,show i+(j - i)=j by omega,List.getElem?_eq_getElem hj,List.getD_eq_getElem?_getD,List.getElem?_eq_getElem hj]
 rfl
theorem sizeT_len {x y z:Int} (h:TokRight (x,y,z)):(if y=0 then y+1 else y)=((sizeT (x,y,z):Nat):Int)∧0≤y∧y≤258:=by
 unfold sizeT TokRight at *
 simp only [] at h ⊢
 split at h
 ·rename_i q
  rw[if_pos q,if_pos q,q]
  exact⟨rfl,by omega,by omega⟩
 ·rename_i q
  rw[if_neg q,if_neg q]
  omega
set_option maxRecDepth 100000 in
set_option maxHeartbeats 3200000 in
theorem specParts_any (hBB:SpecBest) (t:ByteArray) (a:Option Addr) (cp:Nat) (L:List Tok) (w:World) (hC:TCame w a L.length (fun j=>L.getD j (0,0,0))) (hs:sizeL L=t.size) (ht:t.size≤2600) (hn:L.length≤t.size) (hcp:L.length≤cp) (hR:∀ t∈L,TokRight t):
  Calls Tryz.prog 44 #[.string t,.slice a L.length cp] w fun e w'=>e=.returned (.tuple #[.agg #[.string (blkS (partsSt t L (partsN L))),.int .i64 (blkN (partsSt t L (partsN L)))],.bool (decide (0 < L.length))])∧Below w.heap.size w w':=by
 have HC:=hid_of hC
 have HR:=hid_of hR
 have HM0:Hid (MI w t L 0 ((w.alloc (.cells #[.string ⟨#[]⟩,.int .i64 0] 43)).alloc (.cells #[.string ⟨#[]⟩,.int .i64 0] 43))):=by
  have s1:(w.alloc (.cells #[.string ⟨#[]⟩,.int .i64 0] 43)).heap.size=w.heap.size+1:=by simp
  refine⟨_,_,rfl,((bstart _ _).block _ (by omega)).trans (heap_alloc_new w _),?_,bal (bstart _ _) _⟩
  have:=heap_alloc_new (w.alloc (.cells #[.string ⟨#[]⟩,.int .i64 0] 43)) (.cells #[.string ⟨#[]⟩,.int .i64 0] 43)
  rw[s1] at this
  exact this
 clear hC hR
 go_enter Tryz.func44,Tryz.ntmps44
 go_wp2_with fail
 generalize (w.alloc _).alloc _=W0 at HM0 ⊢
 go_loopg [7,8] (partsN L+1) (fun gk at' i w'=>∃ k:Nat,k≤partsN L∧partsN L - k≤gk∧i=.int .i64 ((60 * k:Nat):Int)∧at'=.int .i64 ((off L k:Nat):Int)∧Hid (MI w t L k w'))
 case atStart=>exact⟨0,Nat.zero_le _,by omega,rfl,by rw [off_zero]; rfl,HM0⟩
 case round=>
  clear HM0
  obtain⟨k,hk,hgk,rfl,rfl,hS⟩:=hrel
  by_cases hlt:60 * k < L.length
  ·have hkN:k < partsN L:=by
    unfold partsN
    omega
   have dl:decide (((60 * k:Nat):Int) < (L.length:Int))=true:=decide_eq_true (by omega)
   have hpl:=part_length L k
   obtain⟨m,hm⟩:∃ m,m=min (60 * k+60) L.length:=⟨_,rfl⟩
   have hm1:m≤L.length:=by omega
   have hm2:60 * k < m:=by omega
   have hm3:m - 60 * k=(prt L k).length:=by omega
   have hm4:m≤60 * k+60:=by omega
   have hmp:(L.drop (60 * k)).take (m - 60 * k)=prt L k:=by
    unfold prt
    by_cases q:60 * k+60≤L.length
    ·rw[show m - 60 * k=60 by omega]
    ·rw[List.take_of_length_le (by rw [List.length_drop]; omega),List.take_of_length_le (by rw [List.length_drop]; omega)]
   have HMP:=hid_of hmp
   rcases HC.out with h0 | ⟨g,off',rfl,hg,hc⟩
   ·omega
   have HCE:=hid_of hc
   have dlm:decide (60 * (k:Int) < (m:Int))=true:=decide_eq_true (by omega)
   have dlm':60 * (k:Int) < (m:Int):=by omega
   have hcase:(decide ((m:Int) < 60 * (k:Int)+60)=true∧(m:Int) < 60 * (k:Int)+60∧(L.length:Int)=(m:Int))∨(decide ((L.length:Int) < (m:Int))=false∧¬ (L.length:Int) < (m:Int)∧60 * (k:Int)+60=(m:Int)):=by
    by_cases hov:L.length < 60 * k+60
    ·exact .inl ⟨decide_eq_true (by omega),by omega,by omega⟩
    ·exact .inr ⟨decide_eq_false (by omega),by omega,by omega⟩
   clear hc hmp hm
   rcases hcase with ⟨do1,do2,e9⟩ | ⟨do1,do2,e9⟩
   all_goals
    go_wp2_with fail
    have HM3:=hid_of hm3
    clear e9 do1 do2 dlm dl
    go_loopg [10,11] (L.length+1) (fun gj v i w'=>∃ (j z:Nat),60 * k≤j∧j≤m∧m - j≤gj∧i=.int .i64 j∧v=.int .i64 z∧z≤258 * j∧Hid (w'=wr∧z=midS L (60 * k) j))
    case atStart=>exact⟨60 * k,0,Nat.le_refl _,by omega,by omega,by first | rfl | simp,rfl,by omega,rfl,(midS_none L _).symm⟩
    case round=>
     obtain⟨j,z,hj0,hj1,hgj,rfl,rfl,hz,hS2⟩:=hrel
     obtain⟨hw,hzz⟩:=hS2.out
     subst hw
     have HZZ:=hid_of hzz
     clear hS2 hzz
     by_cases hjm:j < m
     ·have HXB:Hid (Below w.heap.size w wr):=by
       obtain⟨_,_,_,_,_,h⟩:=hS.out
       exact h
      obtain⟨_,c1,_⟩:=HCE.out j (by omega)
      have HIN:Hid (L.getD j (0,0,0)∈L):=by
       rw[List.getD_eq_getElem?_getD,List.getElem?_eq_getElem (show j < L.length by omega)]
       exact List.getElem_mem _
      have HNX:=hid_of (midS_next (i:=60 * k) (j:=j) hj0 (show j < L.length by omega))
      obtain⟨⟨x,y,q⟩,hr⟩:∃ r,r=L.getD j (0,0,0):=⟨_,rfl⟩
      rw[← hr] at c1 HIN HNX
      obtain⟨hy1,hy2,hy3⟩:=sizeT_len (HR.out _ HIN.out)
      have f1:wr.cell? ⟨g,off'+j * 3+1,none⟩=some (.int .i64 y):=(HXB.out.cell (p:=⟨g,off'+j * 3+1,none⟩) hg).trans c1
      have dj:decide ((j:Int) < (m:Int))=true:=decide_eq_true (by omega)
      have dj2:(j:Int) < (L.length:Int):=by omega
      have hzn:((z+sizeT (x,y,q):Nat):Int)=(z:Int)+(if y=0 then y+1 else y):=by omega
      have hzb:z+sizeT (x,y,q)≤258 * (j+1):=by
       split at hy1 <;> omega
      have HZN:Hid (z+sizeT (x,y,q)=midS L (60 * k) (j+1)):=by
       show _=_
       rw[HNX.out,HZZ.out]
      clear hr c1 hy1
      generalize z+sizeT (x,y,q)=z' at hzn hzb HZN
      by_cases hy:y=0
      ·rw[if_pos hy] at hzn
       subst hy
       go_wp2_with fail
       go_roundg (m - (j+1))
       case measure=>omega
       case rel=>exact⟨j+1,z',by omega,by omega,Nat.le_refl _,by go_num,by rw [hzn]; simp,hzb,rfl,HZN.out⟩
      ·rw[if_neg hy] at hzn
       have dy:(y == 0)=false:=by simpa using hy
       go_wp2_with fail
       go_roundg (m - (j+1))
       case measure=>omega
       case rel=>exact⟨j+1,z',by omega,by omega,Nat.le_refl _,by go_num,by rw [hzn],hzb,rfl,HZN.out⟩
     ·obtain rfl:j=m:=by omega
      have dj:decide ((j:Int) < (j:Int))=false:=decide_eq_false (by omega)
      obtain⟨s,c,hst,x0,x1,xb⟩:=hS.out
      obtain⟨⟨s',c'⟩,hst1,_,_⟩:=parts_some hs ht hn (k+1) (by omega)
      obtain⟨o0,hst2,ho0,_⟩:=parts_some hs ht hn k (by omega)
      rw[hst] at hst2
      obtain rfl:=Option.some.inj hst2
      have hf0:=fits_of_outB _ _ ho0
      have hsb:s.size≤12000:=hf0.1
      have hcb:c≤96000:=by
       have h1:(c:Int)≤8 * (s.size:Int):=hf0.2.2.1
       omega
      have hoff:=off_next L k
      have hle:=off_le L (k+1)
      have hzz:z=sizeL (prt L k):=by
       rw[HZZ.out]
       unfold midS
       rw[HMP.out]
      have hlast:((j:Int) == (L.length:Int))=lastP L k:=by
       unfold lastP
       by_cases q:L.length≤60 * (k+1)
       ·rw[decide_eq_true q]
        simp
        omega
       ·rw[decide_eq_false q]
        simp
        omega
      have hxt:off L k+z≤t.size:=by omega
      have HBB:Hid (∀ W:World,TCame W (some ⟨g,off'+60 * k * 3,none⟩) (prt L k).length (fun j=>(prt L k).getD j (0,0,0))→Calls Tryz.prog 42 #[.agg #[.string s,.int .i64 (c:Int)],.string (t.extract (off L k) (off L k+z)),.slice (some ⟨g,off'+60 * k * 3,none⟩) (j - 60 * k) (cp - 60 * k),.bool ((j:Int) == (L.length:Int))] W fun e w'=>e=.returned (.tuple #[.agg #[.string s',.int .i64 (c':Int)],.bool true])∧Below W.heap.size W w'):=fun W hW=>by
       have h:=hBB s c (t.extract (off L k) (off L k+z)) (some ⟨g,off'+60 * k * 3,none⟩) (cp - 60 * k) (prt L k) ((j:Int) == (L.length:Int)) W (by unfold maxLen; omega) (by omega) (by omega) (by rw [cut_size t hxt]; omega) hW (by omega)
       have e:bestOut s (c:Int) (t.extract (off L k) (off L k+z)) (prt L k) ((j:Int) == (L.length:Int))=some (s',c'):=by
        rw[hlast,← hst1]
        show _=(partsSt t L k).bind _
        rw[hst,hoff,← hzz]
        rfl
       rw[e,← hm3] at h
       exact h
      have HST:=hid_of hst1
      have HOFF:Hid (off L (k+1)=off L k+z):=by
       show _=_
       omega
      have HCX:Hid (TCame wr (some ⟨g,off'+60 * k * 3,none⟩) (prt L k).length (fun j=>(prt L k).getD j (0,0,0))):=(part_came HC.out hlt).called xb
      have c0:wr.cell? ⟨w.heap.size+1,0,none⟩=some (.string s):=(cell_of_block x1 0).trans rfl
      have c1:wr.cell? ⟨w.heap.size+1,1,none⟩=some (.int .i64 (c:Int)):=(cell_of_block x1 1).trans rfl
      have hl1:=block_lt x1
      have HX0:=hid_of x0
      have HX1:=hid_of x1
      have HXB:=hid_of xb
      have n1:(0:Int)≤(off L k:Int):=by omega
      have n2:(off L k:Int)+(z:Int)≤(t.size:Int):=by omega
      have n3:(off L k:Int)≤(off L k:Int)+(z:Int):=by omega
      have n4:(j:Int)≤(cp:Int):=by omega
      have n5:60 * (k:Int)≤(j:Int):=by omega
      have n6:(0:Int)≤60 * (k:Int):=by omega
      have n0:¬ cp=60 * k:=by omega
      have n7:(60 * (k:Int)).toNat=60 * k:=by omega
      have n8:IntKind.i64.wrap ((off L k:Int)+(z:Int))=(off L k:Int)+(z:Int):=by
       rw[IntKind.wrap_i64]
       omega
      have n9:((off L k:Int)+(z:Int)).toNat=off L k+z:=by omega
      have n10:(0:Int)≤(off L k:Int)+(z:Int):=by omega
      have hob:off L k≤2600:=by omega
      have hzb:z≤2600:=by omega
      clear hst hst2 hst1 x0 x1 xb ho0 hf0 hoff hle hzz hlast hS HZZ HMP hz hm3 hpl
      go_wp2_with fail
      refine wp_region_held (S:=fun w':World=>w'.cell? ⟨w.heap.size+1,0,none⟩=some (.string s)∧w'.cell? ⟨w.heap.size+1,1,none⟩=some (.int .i64 (c:Int))) (by kernel_rfl) ?_
      have HS:(fun w':World=>w'.cell? ⟨w.heap.size+1,0,none⟩=some (.string s)∧w'.cell? ⟨w.heap.size+1,1,none⟩=some (.int .i64 (c:Int))) wr.drew:=⟨c0,c1⟩
      show wpAnyH _ _ _ _ _ _ _ _ wr.drew
      refine wpAnyH_take (i:=0) (v:=.agg #[.string s,.int .i64 (c:Int)]) rfl (by kernel_rfl) (by kernel_rfl) (by kernel_rfl) (fun _ _ _ h=>h) (Or.inl ⟨by rfl,?_⟩) HS ?_
      ·intro w' hS
       obtain⟨q0,q1⟩:=hS
       go_simp
      simp only [Act.put,List.getElem_toArray,List.getElem_cons_zero,List.setIfInBounds_toArray,List.set_cons_zero,List.set_cons_succ]
      refine wpAnyH_take (i:=1) (v:=.string t) rfl (by kernel_rfl) (by kernel_rfl) (by kernel_rfl) (fun _ _ _ h=>h) (Or.inl ⟨by rfl,?_⟩) HS ?_
      ·intro w' hS
       obtain⟨q0,q1⟩:=hS
       go_simp
      simp only [Act.put,List.getElem_toArray,List.getElem_cons_zero,List.getElem_cons_succ,List.setIfInBounds_toArray,List.set_cons_zero,List.set_cons_succ]
      refine wpAnyH_take (i:=2) (v:=.int .i64 (off L k:Int)) rfl (by kernel_rfl) (by kernel_rfl) (by kernel_rfl) (fun _ _ _ h=>h) (Or.inl ⟨by rfl,?_⟩) HS ?_
      ·intro w' hS
       obtain⟨q0,q1⟩:=hS
       go_simp
      simp only [Act.put,List.getElem_toArray,List.getElem_cons_zero,List.getElem_cons_succ,List.setIfInBounds_toArray,List.set_cons_zero,List.set_cons_succ]
      refine wpAnyH_take (i:=3) (v:=.int .i64 (off L k:Int)) rfl (by kernel_rfl) (by kernel_rfl) (by kernel_rfl) (fun _ _ _ h=>h) (Or.inl ⟨by rfl,?_⟩) HS ?_
      ·intro w' hS
       obtain⟨q0,q1⟩:=hS
       go_simp
      simp only [Act.put,List.getElem_toArray,List.getElem_cons_zero,List.getElem_cons_succ,List.setIfInBounds_toArray,List.set_cons_zero,List.set_cons_succ]
      refine wpAnyH_take (i:=4) (v:=.int .i64 (z:Int)) rfl (by kernel_rfl) (by kernel_rfl) (by kernel_rfl) (fun _ _ _ h=>h) (Or.inl ⟨by rfl,?_⟩) HS ?_
      ·intro w' hS
       obtain⟨q0,q1⟩:=hS
       go_simp
      simp only [Act.put,List.getElem_toArray,List.getElem_cons_zero,List.getElem_cons_succ,List.setIfInBounds_toArray,List.set_cons_zero,List.set_cons_succ]
      refine wpAnyH_take (i:=5) (v:=.int .i64 ((off L k:Int)+(z:Int))) rfl (by kernel_rfl) (by kernel_rfl) (by kernel_rfl) (fun _ _ _ h=>h) (Or.inl ⟨by rfl,?_⟩) HS ?_
      ·intro w' hS
       obtain⟨q0,q1⟩:=hS
       go_simp
      simp only [Act.put,List.getElem_toArray,List.getElem_cons_zero,List.getElem_cons_succ,List.setIfInBounds_toArray,List.set_cons_zero,List.set_cons_succ]
      refine wpAnyH_take (i:=6) (v:=.string (t.extract (off L k) (off L k+z))) rfl (by kernel_rfl) (by kernel_rfl) (by kernel_rfl) (fun _ _ _ h=>h) (Or.inl ⟨by rfl,?_⟩) HS ?_
      ·intro w' hS
       obtain⟨q0,q1⟩:=hS
       go_simp
      simp only [Act.put,List.getElem_toArray,List.getElem_cons_zero,List.getElem_cons_succ,List.setIfInBounds_toArray,List.set_cons_zero,List.set_cons_succ]
      refine wpAnyH_take (i:=7) (v:=.slice (some ⟨g,off',none⟩) L.length cp) rfl (by kernel_rfl) (by kernel_rfl) (by kernel_rfl) (fun _ _ _ h=>h) (Or.inl ⟨by rfl,?_⟩) HS ?_
      ·intro w' hS
       obtain⟨q0,q1⟩:=hS
       go_simp
      simp only [Act.put,List.getElem_toArray,List.getElem_cons_zero,List.getElem_cons_succ,List.setIfInBounds_toArray,List.set_cons_zero,List.set_cons_succ]
      refine wpAnyH_take (i:=8) (v:=.int .i64 (60 * (k:Int))) rfl (by kernel_rfl) (by kernel_rfl) (by kernel_rfl) (fun _ _ _ h=>h) (Or.inl ⟨by rfl,?_⟩) HS ?_
      ·intro w' hS
       obtain⟨q0,q1⟩:=hS
       go_simp
      simp only [Act.put,List.getElem_toArray,List.getElem_cons_zero,List.getElem_cons_succ,List.setIfInBounds_toArray,List.set_cons_zero,List.set_cons_succ]
      refine wpAnyH_take (i:=9) (v:=.int .i64 (j:Int)) rfl (by kernel_rfl) (by kernel_rfl) (by kernel_rfl) (fun _ _ _ h=>h) (Or.inl ⟨by rfl,?_⟩) HS ?_
      ·intro w' hS
       obtain⟨q0,q1⟩:=hS
       go_simp
      simp only [Act.put,List.getElem_toArray,List.getElem_cons_zero,List.getElem_cons_succ,List.setIfInBounds_toArray,List.set_cons_zero,List.set_cons_succ]
      refine wpAnyH_take (i:=10) (v:=.slice (some ⟨g,off'+60 * k * 3,none⟩) (j - 60 * k) (cp - 60 * k)) rfl (by kernel_rfl) (by kernel_rfl) (by kernel_rfl) (fun _ _ _ h=>h) (Or.inl ⟨by rfl,?_⟩) HS ?_
      ·intro w' hS
       obtain⟨q0,q1⟩:=hS
       go_simp
      simp only [Act.put,List.getElem_toArray,List.getElem_cons_zero,List.getElem_cons_succ,List.setIfInBounds_toArray,List.set_cons_zero,List.set_cons_succ]
      refine wpAnyH_take (i:=11) (v:=.int .i64 (j:Int)) rfl (by kernel_rfl) (by kernel_rfl) (by kernel_rfl) (fun _ _ _ h=>h) (Or.inl ⟨by rfl,?_⟩) HS ?_
      ·intro w' hS
       obtain⟨q0,q1⟩:=hS
       go_simp
      simp only [Act.put,List.getElem_toArray,List.getElem_cons_zero,List.getElem_cons_succ,List.setIfInBounds_toArray,List.set_cons_zero,List.set_cons_succ]
      refine wpAnyH_take (i:=12) (v:=.slice (some ⟨g,off',none⟩) L.length cp) rfl (by kernel_rfl) (by kernel_rfl) (by kernel_rfl) (fun _ _ _ h=>h) (Or.inl ⟨by rfl,?_⟩) HS ?_
      ·intro w' hS
       obtain⟨q0,q1⟩:=hS
       go_simp
      simp only [Act.put,List.getElem_toArray,List.getElem_cons_zero,List.getElem_cons_succ,List.setIfInBounds_toArray,List.set_cons_zero,List.set_cons_succ]
      refine wpAnyH_take (i:=13) (v:=.int .i64 (L.length:Int)) rfl (by kernel_rfl) (by kernel_rfl) (by kernel_rfl) (fun _ _ _ h=>h) (Or.inl ⟨by rfl,?_⟩) HS ?_
      ·intro w' hS
       obtain⟨q0,q1⟩:=hS
       go_simp
      simp only [Act.put,List.getElem_toArray,List.getElem_cons_zero,List.getElem_cons_succ,List.setIfInBounds_toArray,List.set_cons_zero,List.set_cons_succ]
      refine wpAnyH_take (i:=14) (v:=.bool ((j:Int) == (L.length:Int))) rfl (by kernel_rfl) (by kernel_rfl) (by kernel_rfl) (fun _ _ _ h=>h) (Or.inl ⟨by rfl,?_⟩) HS ?_
      ·intro w' hS
       obtain⟨q0,q1⟩:=hS
       go_simp
      simp only [Act.put,List.getElem_toArray,List.getElem_cons_zero,List.getElem_cons_succ,List.setIfInBounds_toArray,List.set_cons_zero,List.set_cons_succ]
      refine wpAnyH_ready (rs:=[15,19]) (by kernel_rfl) (by simp) ?_
      refine AllReadyH.cons rfl (fun K hK=>?_) (AllReadyH.cons rfl (fun K hK=>?_) AllReadyH.nil)
      ·refine if_wanted (wanted_none rfl) ?_
       simp only [List.getElem_toArray,List.getElem_cons_zero,List.getElem_cons_succ]
       go_simp
       refine (HBB.out wr.drew (by exact HCX.out)).mono ?_
       rintro e w4 ⟨rfl,hb4⟩
       have k0:w4.cell? ⟨w.heap.size+1,0,none⟩=some (.string s):=(hb4.cell (p:=⟨w.heap.size+1,0,none⟩) hl1).trans c0
       have k1:w4.cell? ⟨w.heap.size+1,1,none⟩=some (.int .i64 (c:Int)):=(hb4.cell (p:=⟨w.heap.size+1,1,none⟩) hl1).trans c1
       have HB4:Hid (Below wr.heap.size wr w4):=⟨hb4.1,hb4.2,hb4.3,hb4.4,hb4.5⟩
       clear hb4
       refine hK.out _ _ ⟨k0,k1⟩ (fun HS2=>?_)
       clear hK K
       refine wpAnyH_take (i:=16) (v:=.tuple #[.agg #[.string s',.int .i64 (c':Int)],.bool true]) rfl (by kernel_rfl) (by kernel_rfl) (by kernel_rfl) (fun _ _ _ h=>h) (Or.inl ⟨by rfl,?_⟩) HS2 ?_
       ·intro w' hS
        obtain⟨q0,q1⟩:=hS
        go_simp
       simp only [Act.put,List.getElem_toArray,List.getElem_cons_zero,List.getElem_cons_succ,List.setIfInBounds_toArray,List.set_cons_zero,List.set_cons_succ]
       refine wpAnyH_take (i:=17) (v:=.agg #[.string s',.int .i64 (c':Int)]) rfl (by kernel_rfl) (by kernel_rfl) (by kernel_rfl) (fun _ _ _ h=>h) (Or.inl ⟨by rfl,?_⟩) HS2 ?_
       ·intro w' hS
        obtain⟨q0,q1⟩:=hS
        go_simp
       simp only [Act.put,List.getElem_toArray,List.getElem_cons_zero,List.getElem_cons_succ,List.setIfInBounds_toArray,List.set_cons_zero,List.set_cons_succ]
       refine wpAnyH_take (i:=18) (v:=.bool true) rfl (by kernel_rfl) (by kernel_rfl) (by kernel_rfl) (fun _ _ _ h=>h) (Or.inl ⟨by rfl,?_⟩) HS2 ?_
       ·intro w' hS
        obtain⟨q0,q1⟩:=hS
        go_simp
       simp only [Act.put,List.getElem_toArray,List.getElem_cons_zero,List.getElem_cons_succ,List.setIfInBounds_toArray,List.set_cons_zero,List.set_cons_succ]
       refine wpAnyH_ready (rs:=[19]) (by kernel_rfl) (by simp) ?_
       refine AllReadyH.cons rfl (fun K hK=>?_) AllReadyH.nil
       refine if_wanted (wanted_none rfl) ?_
       simp only [List.getElem_toArray,List.getElem_cons_zero,List.getElem_cons_succ]
       go_simp
       have hl4:w.heap.size+1 < w4.heap.size:=Nat.lt_of_lt_of_le hl1 HB4.out.size
       refine hK.out _ _ ⟨(grow_cell _ hl4 0).trans k0,(grow_cell _ hl4 1).trans k1⟩ (fun _=>?_)
       clear hK K
       refine wpAnyH_ready (rs:=[20]) (by kernel_rfl) (by simp) ?_
       refine AllReadyH.cons rfl (fun K hK=>?_) AllReadyH.nil
       refine if_wanted (wanted_none rfl) ?_
       simp only [List.getElem_toArray,List.getElem_cons_zero,List.getElem_cons_succ]
       go_simp
       have h5p:=heap_alloc_new w4 (.cells #[.string s',.int .i64 (c':Int)] 43)
       have h5b:Below wr.heap.size wr (w4.alloc (.cells #[.string s',.int .i64 (c':Int)] 43)):=bal HB4.out _
       generalize w4.alloc (.cells #[.string s',.int .i64 (c':Int)] 43)=V5 at h5p h5b ⊢
       have e1:V5.heap[w.heap.size+1]?=some (.cells #[.string s,.int .i64 (c:Int)] 43 (0,0)):=(h5b.block _ hl1).trans HX1.out
       have e0:V5.heap[w.heap.size]?=some (.cells #[.string ⟨#[]⟩,.int .i64 0] 43 (0,0)):=(h5b.block _ (by omega)).trans HX0.out
       refine hK.out _ _ ⟨(cell_of_block e1 0).trans rfl,(cell_of_block e1 1).trans rfl⟩ (fun HS4=>?_)
       clear hK K
       refine wpAnyH_take (i:=21) (v:=.bool true) rfl (by kernel_rfl) (by kernel_rfl) (by kernel_rfl) (fun _ _ _ h=>h) (Or.inl ⟨by rfl,?_⟩) HS4 ?_
       ·intro w' hS
        obtain⟨q0,q1⟩:=hS
        go_simp
       simp only [Act.put,List.getElem_toArray,List.getElem_cons_zero,List.getElem_cons_succ,List.setIfInBounds_toArray,List.set_cons_zero,List.set_cons_succ]
       refine wpAnyH_done (by kernel_rfl) ?_ _
       have y0:V5.cell? ⟨w4.heap.size,0,none⟩=some (.string s'):=(cell_of_block h5p 0).trans rfl
       have y1:V5.cell? ⟨w4.heap.size,1,none⟩=some (.int .i64 (c':Int)):=(cell_of_block h5p 1).trans rfl
       have b0:V5.cell? ⟨w.heap.size+1,0,none⟩=some (.string s):=(cell_of_block e1 0).trans rfl
       have b1:V5.cell? ⟨w.heap.size+1,1,none⟩=some (.int .i64 (c:Int)):=(cell_of_block e1 1).trans rfl
       have bf:∀ q,V5.frozen? ⟨w.heap.size+1,q,none⟩=false:=fun q=>by simp [World.frozen?,e1]
       have bl:=block_lt e1
       have pl:=block_lt h5p
       have HEND:Hid (MI w t L (k+1) ((V5.setCell ⟨w.heap.size+1,0,none⟩ (.string s')).setCell ⟨w.heap.size+1,1,none⟩ (.int .i64 (c':Int)))):=by
        refine⟨s',c',HST.out,?_,two_set e1 _ _,two_below (bnext HXB.out h5b) (by omega) _ _⟩
        rw[← e0]
        simp[World.setCell,Array.getElem?_modify]
       clear h5p h5b e0 e1 HS4
       go_wp2_with fail
       go_roundg (partsN L - (k+1))
       case measure=>omega
       case rel=>exact⟨k+1,by omega,Nat.le_refl _,by go_num,by rw [HOFF.out]; go_num,HEND⟩
      ·refine if_wanted (wanted_none rfl) ?_
       simp only [List.getElem_toArray,List.getElem_cons_zero,List.getElem_cons_succ]
       go_simp
       refine hK.out _ _ ⟨(grow_cell _ hl1 0).trans c0,(grow_cell _ hl1 1).trans c1⟩ (fun _=>?_)
       clear hK K
       refine wpAnyH_ready (rs:=[15]) (by kernel_rfl) (by simp) ?_
       refine AllReadyH.cons rfl (fun K hK=>?_) AllReadyH.nil
       refine if_wanted (wanted_none rfl) ?_
       simp only [List.getElem_toArray,List.getElem_cons_zero,List.getElem_cons_succ]
       go_simp
       refine (HBB.out (wr.alloc _).drew (HCX.out.called (bstart wr _).drew)).mono ?_
       rintro e w4 ⟨rfl,hb4⟩
       have k0:w4.cell? ⟨w.heap.size+1,0,none⟩=some (.string s):=(hb4.cell (p:=⟨w.heap.size+1,0,none⟩) (grow_lt _ hl1)).trans ((grow_cell _ hl1 0).trans c0)
       have k1:w4.cell? ⟨w.heap.size+1,1,none⟩=some (.int .i64 (c:Int)):=(hb4.cell (p:=⟨w.heap.size+1,1,none⟩) (grow_lt _ hl1)).trans ((grow_cell _ hl1 1).trans c1)
       have z4:w4.heap[wr.heap.size]?=some (.cells #[.string ⟨#[]⟩,.int .i64 0] 43 (0,0)):=(hb4.block _ (by simp)).trans (heap_alloc_new wr _)
       have d0:w4.cell? ⟨wr.heap.size,0,none⟩=some (.string ⟨#[]⟩):=(cell_of_block z4 0).trans rfl
       have d1:w4.cell? ⟨wr.heap.size,1,none⟩=some (.int .i64 0):=(cell_of_block z4 1).trans rfl
       have df:∀ q,w4.frozen? ⟨wr.heap.size,q,none⟩=false:=fun q=>by simp [World.frozen?,z4]
       have dz:wr.heap.size < w4.heap.size:=block_lt z4
       have HB4:Hid (Below wr.heap.size wr w4):=by
        have h1:Below wr.heap.size wr (wr.alloc (.cells #[.string ⟨#[]⟩,.int .i64 0] 43)).drew:=(bstart wr _).drew
        exact h1.trans (hb4.mono h1.size)
       have HZ4:=hid_of z4
       clear z4 hb4
       refine hK.out _ _ ⟨k0,k1⟩ (fun HS2=>?_)
       clear hK K
       refine wpAnyH_take (i:=16) (v:=.tuple #[.agg #[.string s',.int .i64 (c':Int)],.bool true]) rfl (by kernel_rfl) (by kernel_rfl) (by kernel_rfl) (fun _ _ _ h=>h) (Or.inl ⟨by rfl,?_⟩) HS2 ?_
       ·intro w' hS
        obtain⟨q0,q1⟩:=hS
        go_simp
       simp only [Act.put,List.getElem_toArray,List.getElem_cons_zero,List.getElem_cons_succ,List.setIfInBounds_toArray,List.set_cons_zero,List.set_cons_succ]
       refine wpAnyH_take (i:=17) (v:=.agg #[.string s',.int .i64 (c':Int)]) rfl (by kernel_rfl) (by kernel_rfl) (by kernel_rfl) (fun _ _ _ h=>h) (Or.inl ⟨by rfl,?_⟩) HS2 ?_
       ·intro w' hS
        obtain⟨q0,q1⟩:=hS
        go_simp
       simp only [Act.put,List.getElem_toArray,List.getElem_cons_zero,List.getElem_cons_succ,List.setIfInBounds_toArray,List.set_cons_zero,List.set_cons_succ]
       refine wpAnyH_take (i:=18) (v:=.bool true) rfl (by kernel_rfl) (by kernel_rfl) (by kernel_rfl) (fun _ _ _ h=>h) (Or.inl ⟨by rfl,?_⟩) HS2 ?_
       ·intro w' hS
        obtain⟨q0,q1⟩:=hS
        go_simp
       simp only [Act.put,List.getElem_toArray,List.getElem_cons_zero,List.getElem_cons_succ,List.setIfInBounds_toArray,List.set_cons_zero,List.set_cons_succ]
       refine wpAnyH_ready (rs:=[20]) (by kernel_rfl) (by simp) ?_
       refine AllReadyH.cons rfl (fun K hK=>?_) AllReadyH.nil
       refine if_wanted (wanted_none rfl) ?_
       simp only [List.getElem_toArray,List.getElem_cons_zero,List.getElem_cons_succ]
       go_simp
       have h5p:=two_set HZ4.out (.string s') (.int .i64 (c':Int))
       have h5b:=two_below HB4.out (Nat.le_refl wr.heap.size) (.string s') (.int .i64 (c':Int))
       generalize (w4.setCell ⟨wr.heap.size,0,none⟩ (.string s')).setCell ⟨wr.heap.size,1,none⟩ (.int .i64 (c':Int))=V5 at h5p h5b ⊢
       have e1:V5.heap[w.heap.size+1]?=some (.cells #[.string s,.int .i64 (c:Int)] 43 (0,0)):=(h5b.block _ hl1).trans HX1.out
       have e0:V5.heap[w.heap.size]?=some (.cells #[.string ⟨#[]⟩,.int .i64 0] 43 (0,0)):=(h5b.block _ (by omega)).trans HX0.out
       refine hK.out _ _ ⟨(cell_of_block e1 0).trans rfl,(cell_of_block e1 1).trans rfl⟩ (fun HS4=>?_)
       clear hK K
       refine wpAnyH_take (i:=21) (v:=.bool true) rfl (by kernel_rfl) (by kernel_rfl) (by kernel_rfl) (fun _ _ _ h=>h) (Or.inl ⟨by rfl,?_⟩) HS4 ?_
       ·intro w' hS
        obtain⟨q0,q1⟩:=hS
        go_simp
       simp only [Act.put,List.getElem_toArray,List.getElem_cons_zero,List.getElem_cons_succ,List.setIfInBounds_toArray,List.set_cons_zero,List.set_cons_succ]
       refine wpAnyH_done (by kernel_rfl) ?_ _
       have y0:V5.cell? ⟨wr.heap.size,0,none⟩=some (.string s'):=(cell_of_block h5p 0).trans rfl
       have y1:V5.cell? ⟨wr.heap.size,1,none⟩=some (.int .i64 (c':Int)):=(cell_of_block h5p 1).trans rfl
       have b0:V5.cell? ⟨w.heap.size+1,0,none⟩=some (.string s):=(cell_of_block e1 0).trans rfl
       have b1:V5.cell? ⟨w.heap.size+1,1,none⟩=some (.int .i64 (c:Int)):=(cell_of_block e1 1).trans rfl
       have bf:∀ q,V5.frozen? ⟨w.heap.size+1,q,none⟩=false:=fun q=>by simp [World.frozen?,e1]
       have bl:=block_lt e1
       have pl:=block_lt h5p
       have HEND:Hid (MI w t L (k+1) ((V5.setCell ⟨w.heap.size+1,0,none⟩ (.string s')).setCell ⟨w.heap.size+1,1,none⟩ (.int .i64 (c':Int)))):=by
        refine⟨s',c',HST.out,?_,two_set e1 _ _,two_below (bnext HXB.out h5b) (by omega) _ _⟩
        rw[← e0]
        simp[World.setCell,Array.getElem?_modify]
       clear h5p h5b e0 e1 HS4
       go_wp2_with fail
       go_roundg (partsN L - (k+1))
       case measure=>omega
       case rel=>exact⟨k+1,by omega,Nat.le_refl _,by go_num,by rw [HOFF.out]; go_num,HEND⟩
  ·have hkk:k=partsN L:=by
    unfold partsN at hk ⊢
    omega
   have dl:decide (((60 * k:Nat):Int) < (L.length:Int))=false:=decide_eq_false (by omega)
   have dl':decide (60 * (k:Int) < (L.length:Int))=false:=decide_eq_false (by omega)
   obtain⟨s,c,hst,x0,x1,xb⟩:=hS.out
   have HE:Hid (partsSt t L (partsN L)=some (s,c)):=by
    rw[← hkk]
    exact hst
   have HD:Hid (decide ((0:Int) < (L.length:Int))=decide (0 < L.length)):=by
    show _=_
    simp
   have c0:wr.cell? ⟨w.heap.size+1,0,none⟩=some (.string s):=(cell_of_block x1 0).trans rfl
   have c1:wr.cell? ⟨w.heap.size+1,1,none⟩=some (.int .i64 (c:Int)):=(cell_of_block x1 1).trans rfl
   have b0:wr.cell? ⟨w.heap.size,0,none⟩=some (.string ⟨#[]⟩):=(cell_of_block x0 0).trans rfl
   have b1:wr.cell? ⟨w.heap.size,1,none⟩=some (.int .i64 0):=(cell_of_block x0 1).trans rfl
   have bf:∀ q,wr.frozen? ⟨w.heap.size,q,none⟩=false:=fun q=>by simp [World.frozen?,x0]
   have bl:=block_lt x0
   have bl2:=block_lt x1
   have HX0:=hid_of x0
   have HXB:=hid_of xb
   clear x0 x1 xb hst hkk hS
   go_wp2_with fail
   have g:=two_set HX0.out (.string s) (.int .i64 (c:Int))
   have gb:=two_below HXB.out (Nat.le_refl w.heap.size) (.string s) (.int .i64 (c:Int))
   generalize (wr.setCell ⟨w.heap.size,0,none⟩ (.string s)).setCell ⟨w.heap.size,1,none⟩ (.int .i64 (c:Int))=W at g gb ⊢
   have a0:W.cell? ⟨w.heap.size,0,none⟩=some (.string s):=(cell_of_block g 0).trans rfl
   have a1:W.cell? ⟨w.heap.size,1,none⟩=some (.int .i64 (c:Int)):=(cell_of_block g 1).trans rfl
   refine bodyPost_ret (v:=.tuple #[.agg #[.string s,.int .i64 (c:Int)],.bool (decide (0 < L.length))]) ?_ rfl ⟨by rw [HE.out]; rfl,gb⟩
   simp[results,Tryz.results44,go_sem,a0,a1]
end Go.Proofs.YtklpiihnbokkkaaGreatDoor
