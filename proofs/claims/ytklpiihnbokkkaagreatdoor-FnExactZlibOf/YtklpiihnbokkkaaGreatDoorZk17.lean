/-
  Texts of the proof, put together.
-/
import Derived.Test.YtklpiihnbokkkaaGreatDoorZk16
namespace Go.Proofs.YtklpiihnbokkkaaGreatDoor
section
open Go.RowKit Go.Joins TokMath StepMath TellMath
set_option maxRecDepth 100000 in
set_option maxHeartbeats 3200000 in
theorem tell_parts (p1 p2 q:Nat) (Gd:Bool→Cod→Prop) (I:World→List (Bool×Cod)→Prop) (T:World→Nat→Prop) (w0 w:World) (a:Option Addr) (c:Nat) (L:List Tok)
  (hC:TCame w0 a L.length (fun j=>L.getD j (0,0,0))) (hL:L.length≤12000) (hS:Stays w0 I T) 
  (h1:∀ (w:World) (S:List (Bool×Cod)) (s:Cod),I w S→Gd false s→S.length≤24001→Calls Tryz.prog 126 #[codV s,.pointer (some ⟨p1,0,none⟩),.pointer (some ⟨q,0,none⟩)] w fun e w'=>e=.returned (.tuple #[])∧I w' (S ++ [(false,s)])∧w.heap.size≤w'.heap.size∧∀ g,g < w.heap.size→¬ T w g→w'.heap[g]?=w.heap[g]?)
  (h2:∀ (w:World) (S:List (Bool×Cod)) (s:Cod),I w S→Gd true s→S.length≤24001→Calls Tryz.prog 126 #[codV s,.pointer (some ⟨p2,0,none⟩),.pointer (some ⟨q,0,none⟩)] w fun e w'=>e=.returned (.tuple #[])∧I w' (S ++ [(true,s)])∧w.heap.size≤w'.heap.size∧∀ g,g < w.heap.size→¬ T w g→w'.heap[g]?=w.heap[g]?)
  (hG:∀ t∈L,TokRight t→∀ x∈symsT t,Gd x.1 x.2) (hE:Gd false (256,0,0)) (hI:I w []):
  Calls Tryz.prog 128 #[.slice a L.length c,.func (.func 126) #[] #[.pointer (some ⟨p1,0,none⟩),.pointer (some ⟨q,0,none⟩)],.func (.func 126) #[] #[.pointer (some ⟨p2,0,none⟩),.pointer (some ⟨q,0,none⟩)]] w fun e w'=>
   ((∀ t∈L,TokRight t)→e=.returned (.bool true)∧I w' (symsL L ++ [(false,(256,0,0))]))∧(¬ (∀ t∈L,TokRight t)→e=.returned (.bool false)∧∃ S,I w' S):=by
 have HC:=hid_of hC
 have HS:=hid_of hS
 have H1:=hid_of h1
 have H2:=hid_of h2
 have HG:=hid_of hG
 have HE:=hid_of hE
 have HI:=hid_of hI
 clear hC hS h1 h2 hG hE hI
 go_enter Tryz.func128,Tryz.ntmps128
 go_wp2_with fail
 go_loopg [14] (L.length+1) (fun gk i w'=>∃ (j:Nat),j≤L.length∧L.length - j≤gk∧i=.int .i64 j∧Hid (I w' (symsL (L.take j))∧∀ t∈L.take j,TokRight t))
 case atStart=>exact⟨0,Nat.zero_le _,by omega,rfl,HI.out,fun t ht=>by cases ht⟩
 case round=>
  obtain⟨j,hj,hgk,rfl,hSt⟩:=hrel
  by_cases hlt:j < L.length
  ·have dl:decide ((j:Int) < (L.length:Int))=true:=decide_eq_true (by omega)
   rcases HC.out.called (HS.out.below hSt.out.1) with q | ⟨g,off,rfl,hg,hc⟩
   ·omega
   obtain⟨f0,f1,f2⟩:=hc j hlt
   simp only [] at f0 f1 f2
   have hmem:L.getD j (0,0,0)∈L:=by rw [List.getD_eq_getElem?_getD,List.getElem?_eq_getElem hlt]; exact List.getElem_mem hlt
   have HMEM:=hid_of hmem
   have HSN:=hid_of (symsL_snoc hlt)
   have HTK:=hid_of (show L.take (j+1)=L.take j ++ [L.getD j (0,0,0)] by rw [List.take_add_one,List.getElem?_eq_getElem hlt,List.getD_eq_getElem?_getD,List.getElem?_eq_getElem hlt]; rfl)
   obtain⟨⟨x,y,z⟩,hr⟩:∃ r,r=L.getD j (0,0,0):=⟨_,rfl⟩
   rw[← hr] at f0 f1 f2 HSN HTK HMEM
   clear hc hr hmem
   by_cases hT:TokRight (x,y,z)
   ·by_cases hy:y=0
    ·subst hy
     obtain⟨⟨hx0,hx1⟩,hz⟩:(0≤x∧x≤255)∧z=0:=by unfold TokRight at hT; rw [if_pos rfl] at hT; exact hT
     subst hz
     have t1:=as_literal
     have hp:=fun w=>pieceOf_any x 0 0 w
     rw[piece_byte hx0 hx1] at hp
     have hw:wrap64 x=x:=by unfold wrap64; omega
     go_wp2_with fail
     refine (hp _).mono ?_
     rintro e w1 ⟨rfl,hB1⟩
     go_wp2_with fail
     refine (newCoded_any _ _ _ _).mono ?_
     rintro e w2 ⟨rfl,hB2⟩
     have HI2:=hid_of (HS.out.called hSt.out.1 (bnext (bnext (bstart wr _) hB1) hB2)).1
     have hlen:(symsL (L.take j)).length≤24001:=by have:=symsL_length (L.take j); rw [List.length_take] at this; omega
     have hgd:Gd false (x,0,0):=HG.out _ HMEM.out hT (false,(x,0,0)) (by rw [symsT_byte]; exact List.mem_singleton.mpr rfl)
     clear hB1 hB2
     go_wp2_with fail
     refine (H1.out w2 _ (x,0,0) HI2.out hgd hlen).mono ?_
     rintro e w3 ⟨rfl,hI3,_,_⟩
     have HN:Hid (I w3 (symsL (L.take (j+1)))∧∀ t∈L.take (j+1),TokRight t):=by
      refine⟨by rw [HSN.out,symsT_byte]; exact hI3,fun t ht=>?_⟩
      rw[HTK.out] at ht
      rcases List.mem_append.mp ht with ht | ht
      ·exact hSt.out.2 t ht
      ·rw[List.mem_singleton.mp ht]; exact hT
     clear hI3
     go_wp2_with fail
     go_roundg (L.length - (j+1))
     case measure=>omega
     case rel=>exact⟨j+1,by omega,Nat.le_refl _,by go_num,HN⟩
    ·obtain⟨hx,hy2,hz2⟩:x=0∧(3≤y∧y≤258)∧(1≤z∧z≤32768):=by unfold TokRight at hT; rw [if_neg hy] at hT; exact hT
     subst hx
     have t1:=no_literal
     have t2:=as_repeat
     have hp:=fun w=>pieceOf_any 0 y z w
     rw[piece_repeat hy2 hz2] at hp
     have hl:=fun w=>lengthCode_answer y w (wf_small y (by omega) (by omega))
     have hd:=fun w=>distCode_answer z w (wf_small z (by omega) (by omega))
     have hg1:Gd false (LengthCodeOf y):=HG.out _ HMEM.out hT (false,LengthCodeOf y) (by rw [symsT_rep _ _ hy]; exact List.mem_cons_self ..)
     have hg2:Gd true (DistCodeOf z):=HG.out _ HMEM.out hT (true,DistCodeOf z) (by rw [symsT_rep _ _ hy]; exact List.mem_cons_of_mem _ (List.mem_cons_self ..))
     have hsn:symsL (L.take (j+1))=symsL (L.take j) ++ [(false,LengthCodeOf y)] ++ [(true,DistCodeOf z)]:=by rw [HSN.out,symsT_rep _ _ hy,List.append_assoc]; rfl
     obtain⟨⟨l1,l2,l3⟩,hlc⟩:∃ r,r=LengthCodeOf y:=⟨_,rfl⟩
     obtain⟨⟨d1,d2,d3⟩,hdc⟩:∃ r,r=DistCodeOf z:=⟨_,rfl⟩
     rw[← hlc] at hl hg1 hsn
     rw[← hdc] at hd hg2 hsn
     simp only [] at hl hd
     have HSN2:=hid_of hsn
     have hlen:(symsL (L.take j)).length≤24000:=by have:=symsL_length (L.take j); rw [List.length_take] at this; omega
     clear hlc hdc hsn HSN
     go_wp2_with fail
     refine (hp _).mono ?_
     rintro e w1 ⟨rfl,hB1⟩
     have HI1:=hid_of (HS.out.called hSt.out.1 (bnext (bstart wr _) hB1)).1
     clear hB1 hp
     go_wp2_with fail
     refine (hl _).mono ?_
     rintro e w2 ⟨rfl,hB2⟩
     clear hl
     go_wp2_with fail
     refine (newCoded_any _ _ _ _).mono ?_
     rintro e w3 ⟨rfl,hB3⟩
     have hr3:w3.heap[w1.heap.size]?=some (.cells #[.int .i64 y,.int .i64 z] 237 (0,0)):=by
      have h1:w2.heap[w1.heap.size]?=_:=(hB2.block _ (by simp)).trans (heap_alloc_new w1 _)
      exact (hB3.block _ (block_lt h1)).trans h1
     have hb13:=bnext (bnext (bstart w1 (.cells #[.int .i64 y,.int .i64 z] 237)) hB2) hB3
     obtain⟨hI3,hT3⟩:=HS.out.called HI1.out hb13
     have hnt:¬ T w3 w1.heap.size:=fun h=>by have:=HS.out.lt HI1.out (hT3 _ h); omega
     have HI3:=hid_of hI3
     have HR3:=hid_of hr3
     have hl3:=block_lt hr3
     clear hB2 hB3 hI3 hT3 hr3 hb13
     go_wp2_with fail
     refine (H1.out w3 _ (l1,l2,l3) HI3.out hg1 (by omega)).mono ?_
     rintro e w4 ⟨rfl,hI4,hsz4,hk4⟩
     have hr4:w4.heap[w1.heap.size]?=some (.cells #[.int .i64 y,.int .i64 z] 237 (0,0)):=(hk4 _ hl3 hnt).trans HR3.out
     have c0:w4.cell? ⟨w1.heap.size,0,none⟩=some (.int .i64 y):=(cell_of_block hr4 0).trans rfl
     have c1:w4.cell? ⟨w1.heap.size,1,none⟩=some (.int .i64 z):=(cell_of_block hr4 1).trans rfl
     have HI4:=hid_of hI4
     clear hI4 hsz4 hk4 hr4 HR3 HI3 HI1
     go_wp2_with fail
     refine (hd _).mono ?_
     rintro e w5 ⟨rfl,hB5⟩
     clear hd
     go_wp2_with fail
     refine (newCoded_any _ _ _ _).mono ?_
     rintro e w6 ⟨rfl,hB6⟩
     have HI6:=hid_of (HS.out.called HI4.out (bnext hB5 hB6)).1
     clear hB5 hB6 HI4
     go_wp2_with fail
     refine (H2.out w6 _ (d1,d2,d3) HI6.out hg2 (by rw [List.length_append,List.length_singleton]; omega)).mono ?_
     rintro e w7 ⟨rfl,hI7,_,_⟩
     have HN:Hid (I w7 (symsL (L.take (j+1)))∧∀ t∈L.take (j+1),TokRight t):=by
      refine⟨by rw [HSN2.out]; exact hI7,fun t ht=>?_⟩
      rw[HTK.out] at ht
      rcases List.mem_append.mp ht with ht | ht
      ·exact hSt.out.2 t ht
      ·rw[List.mem_singleton.mp ht]; exact hT
     clear hI7
     go_wp2_with fail
     go_roundg (L.length - (j+1))
     case measure=>omega
     case rel=>exact⟨j+1,by omega,Nat.le_refl _,by go_num,HN⟩
   ·have t1:=nil_literal
    have t2:=nil_repeat
    have hp:=fun w=>pieceOf_any x y z w
    rw[piece_none hT] at hp
    go_wp2_with fail
    refine (hp _).mono ?_
    rintro e w1 ⟨rfl,hB1⟩
    have HI1:=hid_of (HS.out.called hSt.out.1 (bnext (bstart wr _) hB1)).1
    clear hB1 hp
    go_wp2_with fail
    go_ret
    exact⟨fun h=>absurd (h _ HMEM.out) hT,fun _=>⟨rfl,_,by first | exact HI1.out | exact (HS.out.called HI1.out (bstart _ _)).1⟩⟩
  ·obtain rfl:L.length=j:=by omega
   have dl:decide ((L.length:Int) < (L.length:Int))=false:=decide_eq_false (by omega)
   rw[List.take_length] at hSt
   have hlen:=symsL_length L
   go_wp2_with fail
   refine (newCoded_any _ _ _ _).mono ?_
   rintro e w1 ⟨rfl,hB1⟩
   have HI1:=hid_of (HS.out.called hSt.out.1 hB1).1
   clear hB1
   go_wp2_with fail
   refine (H1.out w1 _ (256,0,0) HI1.out HE.out (by omega)).mono ?_
   rintro e w2 ⟨rfl,hI2,_,_⟩
   have HI2:=hid_of hI2
   clear hI2
   go_wp2_with fail
   go_ret
   exact⟨fun _=>⟨rfl,HI2.out⟩,fun h=>absurd hSt.out.2 h⟩
end
section
open Go.RowKit Go.Joins TokMath StepMath CodeMath TellMath PartMath BodyMath
def PtI (wK:World) (q:Nat) (f1:Nat→Int) (n1:Nat) (f2:Nat→Int) (n2:Nat) (w:World) (S:List (Bool×Cod)):Prop:=
 ∃ v,w.heap[q]?=some (.cells #[v] 118 (0,0))∧w.ownsRow wK.heap.size 115 3 v (symsP f1 n1 f2 n2 S).length (pcells (symsP f1 n1 f2 n2 S))∧wK.grownBy w (some q)
def PtT (q:Nat) (w:World) (g:Nat):Prop:=g=q∨∃ v,w.heap[q]?=some (.cells #[v] 118 (0,0))∧v.ownBlock=some g
def PtG (n1:Nat) (f2:Nat→Int) (n2:Nat) (b:Bool) (s:Cod):Prop:=(0≤s.1∧(if b=true then Coded f2 n2∧s.1.toNat < n2 else s.1.toNat < n1))∧0≤s.2.1∧s.2.1≤14
theorem pt_stays {w0 wK:World} {q:Nat} {f1:Nat→Int} {n1:Nat} {f2:Nat→Int} {n2:Nat} (hB:Below w0.heap.size w0 wK) (hq:w0.heap.size≤q):Stays w0 (PtI wK q f1 n1 f2 n2) (PtT q) where
 called:=by
  rintro w w' S ⟨v,h1,h2,h3⟩ hb
  have e:=hb.block q (block_lt h1)
  refine⟨⟨v,e.trans h1,row_called h2 hb,h3.trans (bgr hb _)⟩,fun g hg=>?_⟩
  rcases hg with hg | ⟨u,hu,hg⟩
  ·exact .inl hg
  ·exact .inr ⟨u,e.symm.trans hu,hg⟩
 lt:=by
  rintro w S g ⟨v,h1,h2,h3⟩ hg
  rcases hg with rfl | ⟨u,hu,hg⟩
  ·exact block_lt h1
  ·rw[h1] at hu
   cases hu
   exact (h2.lt g hg).2
 below:=by
  rintro w S ⟨v,h1,h2,h3⟩
  exact hB.grown h3 hB.size (fun k hk=>by cases hk; exact hq)
theorem came_kept {wK w:World} {q:Nat} {a:Option Addr} {n:Nat} {f:Nat→Int} {v0:Value} (h:Came wK a n f) (hq:wK.heap[q]?=some (.cells #[v0] 118 (0,0))) (hv:∀ x,v0≠.int .i64 x) (hg:wK.grownBy w (some q)):Came w a n f:=by
 by_cases h0:n=0
 ·exact .inl h0
 rcases h with h | ⟨g,off,ha,hl,hc⟩
 ·exact absurd h h0
 ·have hne:g≠q:=by
   rintro rfl
   have h1:=hc 0 (by omega)
   rw[cell_of_block hq] at h1
   match off,h1 with
   | 0,h1=>
    simp at h1
    exact hv _ h1
   | k+1,h1=>simp at h1
  refine .inr ⟨g,off,ha,Nat.lt_of_lt_of_le hl hg.size,fun j hj=>?_⟩
  exact (hg.cell_far ⟨g,off+j,none⟩ hl (fun e=>hne (Option.some.inj e))).trans (hc j hj)
theorem row_set {w:World} {e:TypeId} {S m n q i:Nat} {v u:Value} {L:List Value} (h:w.ownsRow S e m v n L) (hq:q < S):(w.setCell ⟨q,i,none⟩ u).ownsRow S e m v n L:=by
 refine⟨h.1,?_⟩
 rcases h.2 with h | ⟨g,cap,cur,rfl,h1,h2,h3⟩
 ·exact .inl h
 ·exact .inr ⟨g,cap,cur,rfl,h1,(Below.heap_setCell _ _ _ _ (by show g≠q; omega)).trans h2,h3⟩
set_option maxRecDepth 100000 in
set_option maxHeartbeats 3200000 in
theorem hearsP (b:Bool) (wK:World) (q p:Nat) (f1 f2 f:Nat→Int) (n1 n2 n k m ko:Nat) (a o:Option Addr) (v0:Value) (w:World) (S:List (Bool×Cod)) (s:Cod)
  (hI:PtI wK q f1 n1 f2 n2 w S) (hG:PtG n1 f2 n2 b s) (hS:S.length≤24001)
  (hq:wK.heap[q]?=some (.cells #[v0] 118 (0,0))) (hv0:∀ x,v0≠.int .i64 x) (hp:wK.heap[p]?=some (.cells #[.slice a n k,.slice o m ko] 183 (0,0))) (hpq:p≠q) (h1:Came wK a n f) (h2:Came wK o m (codeOf f n))
  (hfn:(if b=true then f2 else f1)=f∧(if b=true then n2 else n1)=n) (hf:Coded f n→(m=n∧∀ i,i < n→0≤f i∧f i≤15)) (hc1:b=false→Coded f n):
  Calls Tryz.prog 126 #[codV s,.pointer (some ⟨p,0,none⟩),.pointer (some ⟨q,0,none⟩)] w fun e w'=>e=.returned (.tuple #[])∧PtI wK q f1 n1 f2 n2 w' (S ++ [(b,s)])∧w.heap.size≤w'.heap.size∧∀ g,g < w.heap.size→¬ PtT q w g→w'.heap[g]?=w.heap[g]?:=by
 obtain⟨v,i1,i2,i3⟩:=hI
 obtain⟨x,y,z⟩:=s
 obtain⟨⟨hx0,hx1⟩,hy0,hy1⟩:=hG
 simp only [] at hx0 hx1 hy0 hy1
 obtain⟨i,rfl⟩:=Int.eq_ofNat_of_zero_le hx0
 obtain⟨sz,rfl⟩:=Int.eq_ofNat_of_zero_le hy0
 rw[Int.toNat_natCast] at hx1
 have hcod:Coded f n∧i < n:=by
  cases b with
  | false=>exact⟨hc1 rfl,by rw [← hfn.2]; simpa using hx1⟩
  | true=>
   simp only [if_true] at hx1 hfn
   rw[← hfn.1,← hfn.2]
   exact hx1
 obtain⟨hmn,hf15⟩:=hf hcod.1
 have hi:=hcod.2
 have hSP:symsP f1 n1 f2 n2 (S ++ [(b,((i:Int),(sz:Int),z))])=symsP f1 n1 f2 n2 S ++ [codeP f n i,(z,sz,false)]:=by
  rw[symsP_app,← hfn.1,← hfn.2]
  cases b <;> rfl
 have hql:q < wK.heap.size:=block_lt hq
 have hpw:w.heap[p]?=some (.cells #[.slice a n k,.slice o m ko] 183 (0,0)):=(i3.block p (block_lt hp) (fun e=>hpq (Option.some.inj e))).trans hp
 have c0:w.cell? ⟨p,0,none⟩=some (.slice a n k):=(cell_of_block hpw 0).trans rfl
 have c1:w.cell? ⟨p,1,none⟩=some (.slice o m ko):=(cell_of_block hpw 1).trans rfl
 have c2:w.cell? ⟨q,0,none⟩=some v:=(cell_of_block i1 0).trans rfl
 have lp:=block_lt hpw
 have lq:=block_lt i1
 have HK:=hid_of (And.intro (came_kept h1 hq hv0 i3) (came_kept h2 hq hv0 i3))
 have hlen:(symsP f1 n1 f2 n2 S).length≤100000:=by rw [symsP_length]; omega
 subst hmn
 obtain⟨P,hP⟩:∃ P,P=symsP f1 n1 f2 n2 S:=⟨_,rfl⟩
 rw[← hP] at hlen i2 hSP
 clear hP
 have hws:=fun (o':Obj)=>withSymbol_any a o m k m ko i sz z f wK.heap.size v P (w.alloc o') (HK.out.1.called (bstart _ _)) (HK.out.2.called (bstart _ _)) hi hi (hf15 i hi) (row_called i2 (bstart _ _)) (by have:=i3.size; simp; omega) (by omega)
 have HI1:=hid_of i1
 have HI2:=hid_of i2
 have HI3:=hid_of i3
 have HSP:=hid_of hSP
 have hob:∀ g,v.ownBlock=some g→wK.heap.size≤g:=fun g hg=>(i2.lt g hg).1
 have HOB:=hid_of hob
 clear i1 i2 i3 hq hp hpw h1 h2 hf hc1 hx1 hcod hSP hfn hob hf15 hlen
 unfold penV at hws
 unfold codV at hws ⊢
 simp only [] at hws ⊢
 go_enter Tryz.func126,Tryz.ntmps126
 go_wp2_with fail
 refine (hws _).mono ?_
 rintro e w1 ⟨g1,cap1,rfl,r1,r2⟩
 clear hws
 have hq1:w1.heap[q]?=some (.cells #[v] 118 (0,0)):=(r2.block q (by simp; omega) (fun e=>by have:=HOB.out q e.symm; omega)).trans ((Below.heap_alloc w _ q lq).trans HI1.out)
 have z0:w1.cell? ⟨q,0,none⟩=some v:=(cell_of_block hq1 0).trans rfl
 have zf:∀ j,w1.frozen? ⟨q,j,none⟩=false:=fun j=>by simp [World.frozen?,hq1]
 have zl:=block_lt hq1
 have HE:Hid (PtI wK q f1 n1 f2 n2 (w1.setCell ⟨q,0,none⟩ (.slice (some ⟨g1,0,none⟩) (P.length+2) cap1)) (S ++ [(b,((i:Int),(sz:Int),z))])):=by
  refine⟨.slice (some ⟨g1,0,none⟩) (P.length+2) cap1,?_,?_,?_⟩
  ·have:=block_setCell (i:=0) hq1 (.slice (some ⟨g1,0,none⟩) (P.length+2) cap1)
   simpa using this
  ·rw[HSP.out]
   exact row_set r1 hql
  ·have hs3:=HI3.out.size
   have hs4:=r2.size
   refine⟨r2.os.trans HI3.out.os,r2.tape.trans HI3.out.tape,r2.output.trans HI3.out.output,?_,fun g hg hne=>?_⟩
   ·simp at hs4 ⊢
    omega
   ·have hgq:g≠q:=fun e=>hne (by rw [e])
    exact (Below.heap_setCell _ _ _ _ hgq).trans ((r2.block g (by simp; omega) (fun e=>by have:=HOB.out g e.symm; omega)).trans ((Below.heap_alloc w _ g (by omega)).trans (HI3.out.block g hg hne)))
 have HF:Hid (w.heap.size≤(w1.setCell ⟨q,0,none⟩ (.slice (some ⟨g1,0,none⟩) (P.length+2) cap1)).heap.size∧∀ g,g < w.heap.size→¬ PtT q w g→(w1.setCell ⟨q,0,none⟩ (.slice (some ⟨g1,0,none⟩) (P.length+2) cap1)).heap[g]?=w.heap[g]?):=by
  refine⟨by have:=r2.size; simp at this ⊢; omega,fun g hg hT=>?_⟩
  have hgq:g≠q:=fun e=>hT (.inl e)
  have hgv:v.ownBlock≠some g:=fun e=>hT (.inr ⟨v,HI1.out,e⟩)
  exact (Below.heap_setCell _ _ _ _ hgq).trans ((r2.block g (by simp; omega) (fun e=>hgv e.symm)).trans (Below.heap_alloc w _ g hg))
 clear r1 r2 hq1
 go_wp2_with fail
 go_end0
 exact⟨rfl,HE.out,HF.out.1,HF.out.2⟩
theorem by_any (a o:Option Addr) (n k m ko q:Nat) (w:World):
  Calls Tryz.prog 125 #[penV a o n k m ko,.pointer (some ⟨q,0,none⟩)] w fun e w'=>e=.returned (.func (.func 126) #[] #[.pointer (some ⟨w.heap.size,0,none⟩),.pointer (some ⟨q,0,none⟩)])∧w'=w.alloc (.cells #[.slice a n k,.slice o m ko] 183):=by
 unfold penV
 go_enter Tryz.func125,Tryz.ntmps125
 go_wp2_with fail
 go_ret
 exact⟨rfl,rfl⟩
set_option maxRecDepth 100000 in
set_option maxHeartbeats 3200000 in
theorem tokenParts_any (a a1 a2:Option Addr) (c k1 k2:Nat) (f1 f2:Nat→Int) (n1 n2:Nat) (L:List Tok) (w:World) (hC:TCame w a L.length (fun j=>L.getD j (0,0,0))) (h1:Came w a1 n1 f1) (h2:Came w a2 n2 f2) (hL:L.length≤12000) (hE:BodyOk f1 n1 f2 n2 []) (hG:∀ t∈L,TokRight t→BodyOk f1 n1 f2 n2 [t]):
  Calls Tryz.prog 83 #[.slice a L.length c,.slice a1 n1 k1,.slice a2 n2 k2] w fun e w'=>
   ((∀ t∈L,TokRight t)→∃ v,e=.returned (.tuple #[v,.bool true])∧w'.ownsRow w.heap.size 115 3 v (symsP f1 n1 f2 n2 (symsL L ++ [(false,(256,0,0))])).length (pcells (symsP f1 n1 f2 n2 (symsL L ++ [(false,(256,0,0))]))))∧(¬ (∀ t∈L,TokRight t)→∃ v,e=.returned (.tuple #[v,.bool false]))∧Below w.heap.size w w':=by
 have HC:=hid_of hC
 have H1:=hid_of h1
 have H2:=hid_of h2
 have HE:=hid_of hE
 have HG:=hid_of hG
 have hn1:=hE.c1.1
 have hn2:=hE.m2
 clear hC h1 h2 hE hG
 have hW0:=bstart w (.cells #[.slice none 0 0] 118)
 have hQ0:(w.alloc (.cells #[.slice none 0 0] 118)).heap[w.heap.size]?=some (.cells #[.slice none 0 0] 118 (0,0)):=heap_alloc_new w _
 generalize hX:w.alloc (.cells #[.slice none 0 0] 118)=X at hW0 hQ0
 have HX:=hid_of hX
 have HW0:=hid_of hW0
 have HQ0:=hid_of hQ0
 clear hX hW0 hQ0
 go_enter Tryz.func83,Tryz.ntmps83
 go_wp2_with fail
 rw[HX.out]
 refine (newPen a1 n1 k1 f1 X (H1.out.called HW0.out) (by omega) HE.out.c1.2.1).mono ?_
 rintro e w1 ⟨o1,m1,ko1,rfl,hK1,hm1,hB1⟩
 obtain rfl:m1=n1:=hm1 HE.out.c1
 have HK1:=hid_of hK1
 have HB1:=hid_of hB1
 clear hK1 hm1 hB1 HX
 go_wp2_with fail
 refine (by_any a1 o1 m1 k1 m1 ko1 w.heap.size w1).mono ?_
 rintro e w2 ⟨rfl,rfl⟩
 have HB2:=hid_of (bnext HB1.out (bstart w1 (.cells #[.slice a1 m1 k1,.slice o1 m1 ko1] 183)))
 have HP1:Hid ((w1.alloc (.cells #[.slice a1 m1 k1,.slice o1 m1 ko1] 183)).heap[w1.heap.size]?=some (.cells #[.slice a1 m1 k1,.slice o1 m1 ko1] 183 (0,0))):=heap_alloc_new w1 _
 have HK2:=hid_of (HK1.out.called (bstart w1 (.cells #[.slice a1 m1 k1,.slice o1 m1 ko1] 183)))
 clear HK1
 have hlt1:w.heap.size < w1.heap.size:=Nat.lt_of_lt_of_le (block_lt HQ0.out) HB1.out.size
 generalize w1.alloc (.cells #[.slice a1 m1 k1,.slice o1 m1 ko1] 183)=w2 at HB2 HP1 HK2 ⊢
 generalize w1.heap.size=p1 at HP1 hlt1 ⊢
 clear HB1
 go_wp2_with fail
 refine (newPen a2 n2 k2 f2 w2 (H2.out.called (bnext HW0.out HB2.out)) hn2 HE.out.w2).mono ?_
 rintro e w3 ⟨o2,m2,ko2,rfl,hK3,hm2,hB3⟩
 have HK3:=hid_of hK3
 have HM2:=hid_of hm2
 have HB3:=hid_of hB3
 clear hK3 hm2 hB3
 go_wp2_with fail
 refine (by_any a2 o2 n2 k2 m2 ko2 w.heap.size w3).mono ?_
 rintro e w4 ⟨rfl,rfl⟩
 have hb4:=bstart w3 (.cells #[.slice a2 n2 k2,.slice o2 m2 ko2] 183)
 have HB4:=hid_of (bnext (bnext HB2.out HB3.out) hb4)
 have HP2:Hid ((w3.alloc (.cells #[.slice a2 n2 k2,.slice o2 m2 ko2] 183)).heap[w3.heap.size]?=some (.cells #[.slice a2 n2 k2,.slice o2 m2 ko2] 183 (0,0))):=heap_alloc_new w3 _
 have HP1':Hid ((w3.alloc (.cells #[.slice a2 n2 k2,.slice o2 m2 ko2] 183)).heap[p1]?=some (.cells #[.slice a1 m1 k1,.slice o1 m1 ko1] 183 (0,0))):=((bnext HB3.out hb4).block _ (block_lt HP1.out)).trans HP1.out
 have HKK:=hid_of (And.intro (HK2.out.called (bnext HB3.out hb4)) (HK3.out.called hb4))
 have hlt3:w.heap.size < w3.heap.size:=Nat.lt_of_lt_of_le (block_lt HQ0.out) (bnext HB2.out HB3.out).size
 clear hb4 HB2 HB3 HP1 HK2 HK3
 generalize w3.alloc (.cells #[.slice a2 n2 k2,.slice o2 m2 ko2] 183)=wK at HB4 HP2 HP1' HKK ⊢
 generalize w3.heap.size=p2 at HP2 hlt3 ⊢
 have HQK:Hid (wK.heap[w.heap.size]?=some (.cells #[.slice none 0 0] 118 (0,0))):=(HB4.out.block _ (block_lt HQ0.out)).trans HQ0.out
 have HBK:=hid_of (bnext HW0.out HB4.out)
 have hI0:PtI wK w.heap.size f1 m1 f2 n2 wK []:=⟨.slice none 0 0,HQK.out,World.ownsRow_nil _ _ _ _,bgr (Below.refl _ _) _⟩
 have htl:=tell_parts p1 p2 w.heap.size (PtG m1 f2 n2) (PtI wK w.heap.size f1 m1 f2 n2) (PtT w.heap.size) w wK a c L HC.out hL (pt_stays HBK.out (Nat.le_refl _))
  (fun w' S s hI hG hS=>hearsP false wK w.heap.size p1 f1 f2 f1 m1 n2 m1 k1 m1 ko1 a1 o1 _ w' S s hI hG hS HQK.out (fun x e=>by cases e) HP1'.out (by omega) (H1.out.called HBK.out) HKK.out.1 ⟨rfl,rfl⟩ (fun _=>⟨rfl,HE.out.c1.2.1⟩) (fun _=>HE.out.c1))
  (fun w' S s hI hG hS=>hearsP true wK w.heap.size p2 f1 f2 f2 m1 n2 n2 k2 m2 ko2 a2 o2 _ w' S s hI hG hS HQK.out (fun x e=>by cases e) HP2.out (by omega) (H2.out.called HBK.out) HKK.out.2 ⟨rfl,rfl⟩ (fun h=>⟨HM2.out h,h.2.1⟩) (fun h=>by cases h))
  (fun t ht hT x hx=>by have h:=(HG.out t ht hT).sym (List.mem_singleton.mpr rfl) x hx; exact⟨h.1,h.2.1⟩) ⟨⟨by decide,by simpa using HE.out.e1⟩,by decide,by decide⟩ hI0
 have HSTY:=hid_of (pt_stays (f1:=f1) (n1:=m1) (f2:=f2) (n2:=n2) HBK.out (Nat.le_refl _))
 have HBKs:Hid (w.heap.size≤wK.heap.size):=HBK.out.size
 clear hI0 HC H1 H2 HE HG HQ0 HW0 HB4 HP2 HP1' HKK HQK HM2
 go_wp2_with fail
 refine htl.mono ?_
 rintro e w5 ⟨hy,hno⟩
 clear htl
 by_cases hall:∀ t∈L,TokRight t
 ·obtain⟨rfl,hI⟩:=hy hall
  have HBB:=hid_of (HSTY.out.below hI)
  obtain⟨v,i1,i2,i3⟩:=hI
  have z0:w5.cell? ⟨w.heap.size,0,none⟩=some v:=(cell_of_block i1 0).trans rfl
  have HI2:=hid_of i2
  clear i1 i2 i3 hy hno
  go_wp2_with fail
  go_ret2
  refine⟨fun _=>⟨v,rfl,?_⟩,fun h=>absurd hall h,HBB.out⟩
  exact⟨HI2.out.1,by
   rcases HI2.out.2 with q | ⟨g5,cap5,cur5,e5,b5,h5⟩
   ·exact .inl q
   ·exact .inr ⟨g5,cap5,cur5,e5,Nat.le_trans HBKs.out b5,h5⟩⟩
 ·obtain⟨rfl,S,hI⟩:=hno hall
  have HBB:=hid_of (HSTY.out.below hI)
  obtain⟨v,i1,i2,i3⟩:=hI
  have z0:w5.cell? ⟨w.heap.size,0,none⟩=some v:=(cell_of_block i1 0).trans rfl
  clear i1 i2 i3 hy hno
  go_wp2_with fail
  go_ret2
  exact⟨fun h=>absurd h hall,fun _=>⟨v,rfl⟩,HBB.out⟩
end
section
open Go.RowKit Go.Joins InfMath
def firstJ (f:Nat→Int) (j:Nat):List Int:=(List.range j).map f
theorem firstJ_next (f:Nat→Int) (j:Nat):firstJ f (j+1)=firstJ f j ++ [f j]:=by simp [firstJ,List.range_succ]
theorem firstJ_length (f:Nat→Int) (j:Nat):(firstJ f j).length=j:=by simp [firstJ]
theorem firstJ_getD (f:Nat→Int) {j i:Nat} (h:i < j):(firstJ f j).getD i 0=f i:=by simp [firstJ,List.getD_eq_getElem?_getD,List.getElem?_map,List.getElem?_range h]
def FixSt (w w':World) (v:Value) (j:Nat):Prop:=NumRow w' w.heap.size v (firstJ fixed1 j)∧Below w.heap.size w w'
def FixSt2 (w w':World) (K:Nat) (v v2:Value) (j:Nat):Prop:=NumRow w' w.heap.size v (firstJ fixed1 288)∧NumRow w' K v2 (firstJ fixed2 j)∧(∀ k,v.ownBlock=some k→k < K)∧Below w.heap.size w w'∧w.heap.size≤K∧K≤w'.heap.size
set_option maxHeartbeats 1600000 in
theorem specFixed (w:World):
  Calls Tryz.prog 68 #[] w fun e w'=>∃ v1 v2 K,e=.returned (.tuple #[v1,v2])∧FixSt2 w w' K v1 v2 32:=by
 have H0:Hid (FixSt w (w.alloc (.cells #[] 3)) (.slice (some ⟨w.heap.size,0,none⟩) 0 0) 0):=⟨NumRow.empty w w.heap.size (Nat.le_refl _),bstart _ _⟩
 go_enter Tryz.func68,Tryz.ntmps68
 go_wp2_with fail
 go_loopg [2,3] 289 (fun gk v z w'=>∃ j:Nat,j≤288∧z=.int .i64 j∧288 - j≤gk∧Hid (FixSt w w' v j))
 case atStart=>exact⟨0,Nat.zero_le _,rfl,by omega,H0⟩
 case round=>
  clear H0
  obtain⟨j,hj,rfl,hk,hS⟩:=hrel
  by_cases hlt:j < 288
  ·have dl:decide ((j:Int) < 288)=true:=decide_eq_true (by omega)
   have dl2:(j:Int) < 288:=by omega
   have hs:=hS.out.2.size
   have key:∀ (x:Int),x=fixed1 j→∀ v1 w1,NumRow w1 w.heap.size v1 (firstJ fixed1 j ++ [x])→(wr.alloc (.cells #[.int .i64 x] 3)).grownBy w1 u2.ownBlock→Hid (FixSt w w1 v1 (j+1)):=by
    intro x hx v1 w1 y1 y2
    refine⟨?_,(bal hS.out.2 _).grown y2 (by simp; omega) (fun q hq=>(hS.out.1.lt q hq).1)⟩
    rw[firstJ_next,← hx]
    exact y1
   have HKEY:=hid_of key
   clear key
   by_cases q1:j < 144
   ·have c1:decide ((144:Int)≤(j:Int))=false:=decide_eq_false (by omega)
    have c2:¬ (144:Int)≤(j:Int):=by omega
    have c3:decide ((256:Int)≤(j:Int))=false:=decide_eq_false (by omega)
    have c4:¬ (256:Int)≤(j:Int):=by omega
    go_wp2_with (at_builtin; refine nums_append (S:=w.heap.size) (xs:=firstJ fixed1 j) (ys:=[8]) rfl _ _ rfl rfl (hS.out.1.called (bstart _ _)) (some ⟨wr.heap.size,0,none⟩) 1 1 rfl rfl (fun ad e=>by cases e; exact World.news_of_block (cs:=#[.int .i64 (8)]) (t:=3) (fr:=(0,0)) (heap_alloc_new wr _)) (fun h=>by cases h) (by rw [firstJ_length]; simp only [List.length_cons,List.length_nil]; omega) (by simp; omega) ?_)
    intro v1 w1 y1 y2
    have HS1:=HKEY.out 8 (by unfold fixed1; rw [if_pos q1]) v1 w1 y1 y2
    clear y1 y2 HKEY hS
    go_wp2_with fail
    go_roundg (288 - (j+1))
    case measure=>omega
    case rel=>exact⟨j+1,by omega,by go_num,Nat.le_refl _,HS1⟩
   ·have c1:decide ((144:Int)≤(j:Int))=true:=decide_eq_true (by omega)
    have c2:(144:Int)≤(j:Int):=by omega
    by_cases q2:j < 256
    ·have c3:decide ((256:Int)≤(j:Int))=false:=decide_eq_false (by omega)
     have c4:¬ (256:Int)≤(j:Int):=by omega
     have c5:decide ((j:Int) < 256)=true:=decide_eq_true (by omega)
     have c6:(j:Int) < 256:=by omega
     go_wp2_with (at_builtin; refine nums_append (S:=w.heap.size) (xs:=firstJ fixed1 j) (ys:=[9]) rfl _ _ rfl rfl (hS.out.1.called (bstart _ _)) (some ⟨wr.heap.size,0,none⟩) 1 1 rfl rfl (fun ad e=>by cases e; exact World.news_of_block (cs:=#[.int .i64 (9)]) (t:=3) (fr:=(0,0)) (heap_alloc_new wr _)) (fun h=>by cases h) (by rw [firstJ_length]; simp only [List.length_cons,List.length_nil]; omega) (by simp; omega) ?_)
     intro v1 w1 y1 y2
     have HS1:=HKEY.out 9 (by unfold fixed1; rw [if_neg q1,if_pos q2]) v1 w1 y1 y2
     clear y1 y2 HKEY hS
     go_wp2_with fail
     go_roundg (288 - (j+1))
     case measure=>omega
     case rel=>exact⟨j+1,by omega,by go_num,Nat.le_refl _,HS1⟩
    ·have c3:decide ((256:Int)≤(j:Int))=true:=decide_eq_true (by omega)
     have c4:(256:Int)≤(j:Int):=by omega
     have c5:decide ((j:Int) < 256)=false:=decide_eq_false (by omega)
     have c6:¬ (j:Int) < 256:=by omega
     by_cases q3:j < 280
     ·have c7:decide ((j:Int) < 280)=true:=decide_eq_true (by omega)
      have c8:(j:Int) < 280:=by omega
      go_wp2_with (at_builtin; refine nums_append (S:=w.heap.size) (xs:=firstJ fixed1 j) (ys:=[7]) rfl _ _ rfl rfl (hS.out.1.called (bstart _ _)) (some ⟨wr.heap.size,0,none⟩) 1 1 rfl rfl (fun ad e=>by cases e; exact World.news_of_block (cs:=#[.int .i64 (7)]) (t:=3) (fr:=(0,0)) (heap_alloc_new wr _)) (fun h=>by cases h) (by rw [firstJ_length]; simp only [List.length_cons,List.length_nil]; omega) (by simp; omega) ?_)
      intro v1 w1 y1 y2
      have HS1:=HKEY.out 7 (by unfold fixed1; rw [if_neg q1,if_neg q2,if_pos q3]) v1 w1 y1 y2
      clear y1 y2 HKEY hS
      go_wp2_with fail
      go_roundg (288 - (j+1))
      case measure=>omega
      case rel=>exact⟨j+1,by omega,by go_num,Nat.le_refl _,HS1⟩
     ·have c7:decide ((j:Int) < 280)=false:=decide_eq_false (by omega)
      have c8:¬ (j:Int) < 280:=by omega
      go_wp2_with (at_builtin; refine nums_append (S:=w.heap.size) (xs:=firstJ fixed1 j) (ys:=[8]) rfl _ _ rfl rfl (hS.out.1.called (bstart _ _)) (some ⟨wr.heap.size,0,none⟩) 1 1 rfl rfl (fun ad e=>by cases e; exact World.news_of_block (cs:=#[.int .i64 (8)]) (t:=3) (fr:=(0,0)) (heap_alloc_new wr _)) (fun h=>by cases h) (by rw [firstJ_length]; simp only [List.length_cons,List.length_nil]; omega) (by simp; omega) ?_)
      intro v1 w1 y1 y2
      have HS1:=HKEY.out 8 (by unfold fixed1; rw [if_neg q1,if_neg q2,if_neg q3]) v1 w1 y1 y2
      clear y1 y2 HKEY hS
      go_wp2_with fail
      go_roundg (288 - (j+1))
      case measure=>omega
      case rel=>exact⟨j+1,by omega,by go_num,Nat.le_refl _,HS1⟩
  ·obtain rfl:j=288:=by omega
   have dl:decide (((288:Nat):Int) < 288)=false:=decide_eq_false (by omega)
   have HS2:Hid (FixSt2 w (wr.alloc (.cells #[] 3)) wr.heap.size u2 (.slice (some ⟨wr.heap.size,0,none⟩) 0 0) 0):=⟨hS.out.1.called (bstart _ _),NumRow.empty wr wr.heap.size (Nat.le_refl _),fun k hk=>(hS.out.1.lt k hk).2,bal hS.out.2 _,hS.out.2.size,by simp⟩
   have hKs:wr.heap.size≤(wr.alloc (.cells #[] 3)).heap.size:=by simp
   clear hS
   go_wp2_with fail
   generalize wr.alloc (.cells #[] 3)=W2 at HS2 hKs
   generalize wr.heap.size=K at HS2 hKs
   go_loopg [5,6] 33 (fun gk v z w'=>∃ j:Nat,j≤32∧z=.int .i64 j∧32 - j≤gk∧Hid (FixSt2 w w' K u2 v j))
   case atStart=>exact⟨0,Nat.zero_le _,rfl,by omega,HS2⟩
   case round=>
    clear HS2
    obtain⟨j,hj,rfl,hk,hS⟩:=hrel
    by_cases hlt:j < 32
    ·have dl:decide ((j:Int) < 32)=true:=decide_eq_true (by omega)
     have dl2:(j:Int) < 32:=by omega
     have hs:=hS.out.2.2.2.1.size
     have hb2:=hS.out.2.2.2.2.2
     go_wp2_with (at_builtin; refine nums_append (S:=K) (xs:=firstJ fixed2 j) (ys:=[5]) rfl _ _ rfl rfl (hS.out.2.1.called (bstart _ _)) (some ⟨wr.heap.size,0,none⟩) 1 1 rfl rfl (fun ad e=>by cases e; exact World.news_of_block (cs:=#[.int .i64 (5)]) (t:=3) (fr:=(0,0)) (heap_alloc_new wr _)) (fun h=>by cases h) (by rw [firstJ_length]; simp only [List.length_cons,List.length_nil]; omega) (by simp; omega) ?_)
     intro v1 w1 y1 y2
     have HS1:Hid (FixSt2 w w1 K u2 v1 (j+1)):=by
      refine⟨World.ownsRow.kept (hS.out.1.called (bstart _ _)) y2 ?_,?_,hS.out.2.2.1,(bal hS.out.2.2.2.1 _).grown y2 (by simp; omega) (fun q hq=>Nat.le_trans hS.out.2.2.2.2.1 (World.ownsRow.lt hS.out.2.1 q hq).1),hS.out.2.2.2.2.1,by have:=y2.size; simp at this; omega⟩
      ·cases e:u2.ownBlock with
       | none=>exact .inl rfl
       | some k=>
        refine .inr (fun e1=>?_)
        have h1:=hS.out.2.2.1 k e
        have h2:=(World.ownsRow.lt hS.out.2.1 k e1.symm).1
        omega
      ·rw[firstJ_next]
       exact y1
     clear y1 y2 hS
     go_wp2_with fail
     go_roundg (32 - (j+1))
     case measure=>omega
     case rel=>exact⟨j+1,by omega,by go_num,Nat.le_refl _,HS1⟩
    ·obtain rfl:j=32:=by omega
     have dl:decide (((32:Nat):Int) < 32)=false:=decide_eq_false (by omega)
     go_wp2_with fail
     go_ret2
     exact⟨u2,u5,K,rfl,hS.out⟩
end
end Go.Proofs.YtklpiihnbokkkaaGreatDoor
