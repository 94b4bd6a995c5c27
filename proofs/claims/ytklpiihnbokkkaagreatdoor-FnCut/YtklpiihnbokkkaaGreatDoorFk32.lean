/-
  Texts of the proof, put together.
-/
import Derived.Test.YtklpiihnbokkkaaGreatDoorFk31
namespace Go.Proofs.YtklpiihnbokkkaaGreatDoor
section
open Go.RowKit Go.Joins TokMath StepMath TellMath
set_option maxRecDepth 100000 in
set_option maxHeartbeats 3200000 in
theorem tell_parts (p1 p2 q:Nat) (Gd:Bool→Cod→Prop) (I:World→List (Bool×Cod)→Prop) (T:World→Nat→Prop) (w0 w:World) (a:Option Addr) (c:Nat) (L:List Tok)
  (hC:TCame w0 a L.length (fun j=>L.getD j (0,0,0))) (hL:L.length≤12000) (hS:Stays w0 I T) 
  (h1:∀ (w:World) (S:List (Bool×Cod)) (s:Cod),I w S→Gd false s→S.length≤24001→Calls Tryz.prog 126 #[codV s,.pointer (some ⟨p1,0,none⟩),.pointer (some ⟨q,0,none⟩)] w fun e w'=>e=.returned (.tuple #[])∧I w' (S ++ [(false,s)])∧w.heap.size≤w'.heap.size∧∀ g,g < w.heap.size→¬ T w g→w'.heap[g]?=w.heap[g]?)
  (h2:∀ (w:World) (S:List (Bool×Cod)) (s:Cod),I w S→Gd true s→S.length≤24001→Calls Tryz.prog 126 #[codV s,.pointer (some ⟨p2,0,none⟩),.pointer (some ⟨q,0,none⟩)] w fun e w'=>e=.returned (.tuple #[])∧I w' (S ++ [(true,s)])∧w.heap.size≤w'.heap.size∧∀ g,g < w.heap.size→¬ T w g→w'.heap[g]?=w.heap[g]?)
  (hG:∀ t∈L,TokRight t→∀ x∈symsT t,Gd x.1 x.2) (hE:Gd false (256,0,0)) (hI:I w []):
  Calls Tryz.prog 128 #[.slice a L.length c,.func (.func 126) #[] #[.pointer (some ⟨p1,0,none⟩),.pointer (some ⟨q,0,none⟩)],.func (.func 126) #[] #[.pointer (some ⟨p2,0,none⟩),.pointer (some ⟨q,0,none⟩)]] w fun e w'=>
   ((∀ t∈L,TokRight t)→e=.returned (.bool true)∧I w' (symsL L ++ [(false,(256,0,0))]))∧(¬ (∀ t∈L,TokRight t)→e=.returned (.bool false)∧∃ S,I w' S):=by
 have HC:=hid_of hC
 have HS:=hid_of hS
 have H1:=hid_of h1
 have H2:=hid_of h2
 have HG:=hid_of hG
 have HE:=hid_of hE
 have HI:=hid_of hI
 clear hC hS h1 h2 hG hE hI
 go_enter Tryz.func128,Tryz.ntmps128
 go_wp2_with fail
 go_loopg [14] (L.length+1) (fun gk i w'=>∃ (j:Nat),j≤L.length∧L.length - j≤gk∧i=.int .i64 j∧Hid (I w' (symsL (L.take j))∧∀ t∈L.take j,TokRight t))
 case atStart=>exact⟨0,Nat.zero_le _,by omega,rfl,HI.out,fun t ht=>by cases ht⟩
 case round=>
  obtain⟨j,hj,hgk,rfl,hSt⟩:=hrel
  by_cases hlt:j < L.length
  ·have dl:decide ((j:Int) < (L.length:Int))=true:=decide_eq_true (by omega)
   rcases HC.out.called (HS.out.below hSt.out.1) with q | ⟨g,off,rfl,hg,hc⟩
   ·omega
   obtain⟨f0,f1,f2⟩:=hc j hlt
   simp only [] at f0 f1 f2
   have hmem:L.getD j (0,0,0)∈L:=by rw [List.getD_eq_getElem?_getD,List.getElem?_eq_getElem hlt]; exact List.getElem_mem hlt
   have HMEM:=hid_of hmem
   have HSN:=hid_of (symsL_snoc hlt)
   have HTK:=hid_of (show L.take (j+1)=L.take j ++ [L.getD j (0,0,0)] by rw [List.take_add_one,List.getElem?_eq_getElem hlt,List.getD_eq_getElem?_getD,List.getElem?_eq_getElem hlt]; rfl)
   obtain⟨⟨x,y,z⟩,hr⟩:∃ r,r=L.getD j (0,0,0):=⟨_,rfl⟩
   rw[← hr] at f0 f1 f2 HSN HTK HMEM
   clear hc hr hmem
   by_cases hT:TokRight (x,y,z)
   ·by_cases hy:y=0
    ·subst hy
     obtain⟨⟨hx0,hx1⟩,hz⟩:(0≤x∧x≤255)∧z=0:=by unfold TokRight at hT; rw [if_pos rfl] at hT; exact hT
     subst hz
     have t1:=as_literal
     have hp:=fun w=>pieceOf_any x 0 0 w
     rw[piece_byte hx0 hx1] at hp
     have hw:wrap64 x=x:=by unfold wrap64; omega
     go_wp2_with fail
     refine (hp _).mono ?_
     rintro e w1 ⟨rfl,hB1⟩
     go_wp2_with fail
     refine (newCoded_any _ _ _ _).mono ?_
     rintro e w2 ⟨rfl,hB2⟩
     have HI2:=hid_of (HS.out.called hSt.out.1 (bnext (bnext (bstart wr _) hB1) hB2)).1
     have hlen:(symsL (L.take j)).length≤24001:=by have:=symsL_length (L.take j); rw [List.length_take] at this; omega
     have hgd:Gd false (x,0,0):=HG.out _ HMEM.out hT (false,(x,0,0)) (by rw [symsT_byte]; exact List.mem_singleton.mpr rfl)
     clear hB1 hB2
     go_wp2_with fail
     refine (H1.out w2 _ (x,0,0) HI2.out hgd hlen).mono ?_
     rintro e w3 ⟨rfl,hI3,_,_⟩
     have HN:Hid (I w3 (symsL (L.take (j+1)))∧∀ t∈L.take (j+1),TokRight t):=by
      refine⟨by rw [HSN.out,symsT_byte]; exact hI3,fun t ht=>?_⟩
      rw[HTK.out] at ht
      rcases List.mem_append.mp ht with ht | ht
      ·exact hSt.out.2 t ht
      ·rw[List.mem_singleton.mp ht]; exact hT
     clear hI3
     go_wp2_with fail
     go_roundg (L.length - (j+1))
     case measure=>omega
     case rel=>exact⟨j+1,by omega,Nat.le_refl _,by go_num,HN⟩
    ·obtain⟨hx,hy2,hz2⟩:x=0∧(3≤y∧y≤258)∧(1≤z∧z≤32768):=by unfold TokRight at hT; rw [if_neg hy] at hT; exact hT
     subst hx
     have t1:=no_literal
     have t2:=as_repeat
     have hp:=fun w=>pieceOf_any 0 y z w
     rw[piece_repeat hy2 hz2] at hp
     have hl:=fun w=>lengthCode_answer y w (wf_small y (by omega) (by omega))
     have hd:=fun w=>distCode_answer z w (wf_small z (by omega) (by omega))
     have hg1:Gd false (LengthCodeOf y):=HG.out _ HMEM.out hT (false,LengthCodeOf y) (by rw [symsT_rep _ _ hy]; exact List.mem_cons_self ..)
     have hg2:Gd true (DistCodeOf z):=HG.out _ HMEM.out hT (true,DistCodeOf z) (by rw [symsT_rep _ _ hy]; exact List.mem_cons_of_mem _ (List.mem_cons_self ..))
     have hsn:symsL (L.take (j+1))=symsL (L.take j) ++ [(false,LengthCodeOf y)] ++ [(true,DistCodeOf z)]:=by rw [HSN.out,symsT_rep _ _ hy,List.append_assoc]; rfl
     obtain⟨⟨l1,l2,l3⟩,hlc⟩:∃ r,r=LengthCodeOf y:=⟨_,rfl⟩
     obtain⟨⟨d1,d2,d3⟩,hdc⟩:∃ r,r=DistCodeOf z:=⟨_,rfl⟩
     rw[← hlc] at hl hg1 hsn
     rw[← hdc] at hd hg2 hsn
     simp only [] at hl hd
     have HSN2:=hid_of hsn
     have hlen:(symsL (L.take j)).length≤24000:=by have:=symsL_length (L.take j); rw [List.length_take] at this; omega
     clear hlc hdc hsn HSN
     go_wp2_with fail
     refine (hp _).mono ?_
     rintro e w1 ⟨rfl,hB1⟩
     have HI1:=hid_of (HS.out.called hSt.out.1 (bnext (bstart wr _) hB1)).1
     clear hB1 hp
     go_wp2_with fail
     refine (hl _).mono ?_
     rintro e w2 ⟨rfl,hB2⟩
     clear hl
     go_wp2_with fail
     refine (newCoded_any _ _ _ _).mono ?_
     rintro e w3 ⟨rfl,hB3⟩
     have hr3:w3.heap[w1.heap.size]?=some (.cells #[.int .i64 y,.int .i64 z] 237 (0,0)):=by
      have h1:w2.heap[w1.heap.size]?=_:=(hB2.block _ (by simp)).trans (heap_alloc_new w1 _)
      exact (hB3.block _ (block_lt h1)).trans h1
     have hb13:=bnext (bnext (bstart w1 (.cells #[.int .i64 y,.int .i64 z] 237)) hB2) hB3
     obtain⟨hI3,hT3⟩:=HS.out.called HI1.out hb13
     have hnt:¬ T w3 w1.heap.size:=fun h=>by have:=HS.out.lt HI1.out (hT3 _ h); omega
     have HI3:=hid_of hI3
     have HR3:=hid_of hr3
     have hl3:=block_lt hr3
     clear hB2 hB3 hI3 hT3 hr3 hb13
     go_wp2_with fail
     refine (H1.out w3 _ (l1,l2,l3) HI3.out hg1 (by omega)).mono ?_
     rintro e w4 ⟨rfl,hI4,hsz4,hk4⟩
     have hr4:w4.heap[w1.heap.size]?=some (.cells #[.int .i64 y,.int .i64 z] 237 (0,0)):=(hk4 _ hl3 hnt).trans HR3.out
     have c0:w4.cell? ⟨w1.heap.size,0,none⟩=some (.int .i64 y):=(cell_of_block hr4 0).trans rfl
     have c1:w4.cell? ⟨w1.heap.size,1,none⟩=some (.int .i64 z):=(cell_of_block hr4 1).trans rfl
     have HI4:=hid_of hI4
     clear hI4 hsz4 hk4 hr4 HR3 HI3 HI1
     go_wp2_with fail
     refine (hd _).mono ?_
     rintro e w5 ⟨rfl,hB5⟩
     clear hd
     go_wp2_with fail
     refine (newCoded_any _ _ _ _).mono ?_
     rintro e w6 ⟨rfl,hB6⟩
     have HI6:=hid_of (HS.out.called HI4.out (bnext hB5 hB6)).1
     clear hB5 hB6 HI4
     go_wp2_with fail
     refine (H2.out w6 _ (d1,d2,d3) HI6.out hg2 (by rw [List.length_append,List.length_singleton]; omega)).mono ?_
     rintro e w7 ⟨rfl,hI7,_,_⟩
     have HN:Hid (I w7 (symsL (L.take (j+1)))∧∀ t∈L.take (j+1),TokRight t):=by
      refine⟨by rw [HSN2.out]; exact hI7,fun t ht=>?_⟩
      rw[HTK.out] at ht
      rcases List.mem_append.mp ht with ht | ht
      ·exact hSt.out.2 t ht
      ·rw[List.mem_singleton.mp ht]; exact hT
     clear hI7
     go_wp2_with fail
     go_roundg (L.length - (j+1))
     case measure=>omega
     case rel=>exact⟨j+1,by omega,Nat.le_refl _,by go_num,HN⟩
   ·have t1:=nil_literal
    have t2:=nil_repeat
    have hp:=fun w=>pieceOf_any x y z w
    rw[piece_none hT] at hp
    go_wp2_with fail
    refine (hp _).mono ?_
    rintro e w1 ⟨rfl,hB1⟩
    have HI1:=hid_of (HS.out.called hSt.out.1 (bnext (bstart wr _) hB1)).1
    clear hB1 hp
    go_wp2_with fail
    go_ret
    exact⟨fun h=>absurd (h _ HMEM.out) hT,fun _=>⟨rfl,_,by first | exact HI1.out | exact (HS.out.called HI1.out (bstart _ _)).1⟩⟩
  ·obtain rfl:L.length=j:=by omega
   have dl:decide ((L.length:Int) < (L.length:Int))=false:=decide_eq_false (by omega)
   rw[List.take_length] at hSt
   have hlen:=symsL_length L
   go_wp2_with fail
   refine (newCoded_any _ _ _ _).mono ?_
   rintro e w1 ⟨rfl,hB1⟩
   have HI1:=hid_of (HS.out.called hSt.out.1 hB1).1
   clear hB1
   go_wp2_with fail
   refine (H1.out w1 _ (256,0,0) HI1.out HE.out (by omega)).mono ?_
   rintro e w2 ⟨rfl,hI2,_,_⟩
   have HI2:=hid_of hI2
   clear hI2
   go_wp2_with fail
   go_ret
   exact⟨fun _=>⟨rfl,HI2.out⟩,fun h=>absurd hSt.out.2 h⟩
end
section
open Go.RowKit Go.Joins TokMath StepMath CodeMath TellMath PartMath BodyMath
def PtI (wK:World) (q:Nat) (f1:Nat→Int) (n1:Nat) (f2:Nat→Int) (n2:Nat) (w:World) (S:List (Bool×Cod)):Prop:=
 ∃ v,w.heap[q]?=some (.cells #[v] 118 (0,0))∧w.ownsRow wK.heap.size 115 3 v (symsP f1 n1 f2 n2 S).length (pcells (symsP f1 n1 f2 n2 S))∧wK.grownBy w (some q)
def PtT (q:Nat) (w:World) (g:Nat):Prop:=g=q∨∃ v,w.heap[q]?=some (.cells #[v] 118 (0,0))∧v.ownBlock=some g
def PtG (n1:Nat) (f2:Nat→Int) (n2:Nat) (b:Bool) (s:Cod):Prop:=(0≤s.1∧(if b=true then Coded f2 n2∧s.1.toNat < n2 else s.1.toNat < n1))∧0≤s.2.1∧s.2.1≤14
theorem pt_stays {w0 wK:World} {q:Nat} {f1:Nat→Int} {n1:Nat} {f2:Nat→Int} {n2:Nat} (hB:Below w0.heap.size w0 wK) (hq:w0.heap.size≤q):Stays w0 (PtI wK q f1 n1 f2 n2) (PtT q) where
 called:=by
  rintro w w' S ⟨v,h1,h2,h3⟩ hb
  have e:=hb.block q (block_lt h1)
  refine⟨⟨v,e.trans h1,row_called h2 hb,h3.trans (bgr hb _)⟩,fun g hg=>?_⟩
  rcases hg with hg | ⟨u,hu,hg⟩
  ·exact .inl hg
  ·exact .inr ⟨u,e.symm.trans hu,hg⟩
 lt:=by
  rintro w S g ⟨v,h1,h2,h3⟩ hg
  rcases hg with rfl | ⟨u,hu,hg⟩
  ·exact block_lt h1
  ·rw[h1] at hu
   cases hu
   exact (h2.lt g hg).2
 below:=by
  rintro w S ⟨v,h1,h2,h3⟩
  exact hB.grown h3 hB.size (fun k hk=>by cases hk; exact hq)
theorem came_kept {wK w:World} {q:Nat} {a:Option Addr} {n:Nat} {f:Nat→Int} {v0:Value} (h:Came wK a n f) (hq:wK.heap[q]?=some (.cells #[v0] 118 (0,0))) (hv:∀ x,v0≠.int .i64 x) (hg:wK.grownBy w (some q)):Came w a n f:=by
 by_cases h0:n=0
 ·exact .inl h0
 rcases h with h | ⟨g,off,ha,hl,hc⟩
 ·exact absurd h h0
 ·have hne:g≠q:=by
   rintro rfl
   have h1:=hc 0 (by omega)
   rw[cell_of_block hq] at h1
   match off,h1 with
   | 0,h1=>
    simp at h1
    exact hv _ h1
   | k+1,h1=>simp at h1
  refine .inr ⟨g,off,ha,Nat.lt_of_lt_of_le hl hg.size,fun j hj=>?_⟩
  exact (hg.cell_far ⟨g,off+j,none⟩ hl (fun e=>hne (Option.some.inj e))).trans (hc j hj)
theorem row_set {w:World} {e:TypeId} {S m n q i:Nat} {v u:Value} {L:List Value} (h:w.ownsRow S e m v n L) (hq:q < S):(w.setCell ⟨q,i,none⟩ u).ownsRow S e m v n L:=by
 refine⟨h.1,?_⟩
 rcases h.2 with h | ⟨g,cap,cur,rfl,h1,h2,h3⟩
 ·exact .inl h
 ·exact .inr ⟨g,cap,cur,rfl,h1,(Below.heap_setCell _ _ _ _ (by show g≠q; omega)).trans h2,h3⟩
set_option maxRecDepth 100000 in
set_option maxHeartbeats 3200000 in
theorem hearsP (b:Bool) (wK:World) (q p:Nat) (f1 f2 f:Nat→Int) (n1 n2 n k m ko:Nat) (a o:Option Addr) (v0:Value) (w:World) (S:List (Bool×Cod)) (s:Cod)
  (hI:PtI wK q f1 n1 f2 n2 w S) (hG:PtG n1 f2 n2 b s) (hS:S.length≤24001)
  (hq:wK.heap[q]?=some (.cells #[v0] 118 (0,0))) (hv0:∀ x,v0≠.int .i64 x) (hp:wK.heap[p]?=some (.cells #[.slice a n k,.slice o m ko] 183 (0,0))) (hpq:p≠q) (h1:Came wK a n f) (h2:Came wK o m (codeOf f n))
  (hfn:(if b=true then f2 else f1)=f∧(if b=true then n2 else n1)=n) (hf:Coded f n→(m=n∧∀ i,i < n→0≤f i∧f i≤15)) (hc1:b=false→Coded f n):
  Calls Tryz.prog 126 #[codV s,.pointer (some ⟨p,0,none⟩),.pointer (some ⟨q,0,none⟩)] w fun e w'=>e=.returned (.tuple #[])∧PtI wK q f1 n1 f2 n2 w' (S ++ [(b,s)])∧w.heap.size≤w'.heap.size∧∀ g,g < w.heap.size→¬ PtT q w g→w'.heap[g]?=w.heap[g]?:=by
 obtain⟨v,i1,i2,i3⟩:=hI
 obtain⟨x,y,z⟩:=s
 obtain⟨⟨hx0,hx1⟩,hy0,hy1⟩:=hG
 simp only [] at hx0 hx1 hy0 hy1
 obtain⟨i,rfl⟩:=Int.eq_ofNat_of_zero_le hx0
 obtain⟨sz,rfl⟩:=Int.eq_ofNat_of_zero_le hy0
 rw[Int.toNat_natCast] at hx1
 have hcod:Coded f n∧i < n:=by
  cases b with
  | false=>exact⟨hc1 rfl,by rw [← hfn.2]; simpa using hx1⟩
  | true=>
   simp only [if_true] at hx1 hfn
   rw[← hfn.1,← hfn.2]
   exact hx1
 obtain⟨hmn,hf15⟩:=hf hcod.1
 have hi:=hcod.2
 have hSP:symsP f1 n1 f2 n2 (S ++ [(b,((i:Int),(sz:Int),z))])=symsP f1 n1 f2 n2 S ++ [codeP f n i,(z,sz,false)]:=by
  rw[symsP_app,← hfn.1,← hfn.2]
  cases b <;> rfl
 have hql:q < wK.heap.size:=block_lt hq
 have hpw:w.heap[p]?=some (.cells #[.slice a n k,.slice o m ko] 183 (0,0)):=(i3.block p (block_lt hp) (fun e=>hpq (Option.some.inj e))).trans hp
 have c0:w.cell? ⟨p,0,none⟩=some (.slice a n k):=(cell_of_block hpw 0).trans rfl
 have c1:w.cell? ⟨p,1,none⟩=some (.slice o m ko):=(cell_of_block hpw 1).trans rfl
 have c2:w.cell? ⟨q,0,none⟩=some v:=(cell_of_block i1 0).trans rfl
 have lp:=block_lt hpw
 have lq:=block_lt i1
 have HK:=hid_of (And.intro (came_kept h1 hq hv0 i3) (came_kept h2 hq hv0 i3))
 have hlen:(symsP f1 n1 f2 n2 S).length≤100000:=by rw [symsP_length]; omega
 subst hmn
 obtain⟨P,hP⟩:∃ P,P=symsP f1 n1 f2 n2 S:=⟨_,rfl⟩
 rw[← hP] at hlen i2 hSP
 clear hP
 have hws:=fun (o':Obj)=>withSymbol_any a o m k m ko i sz z f wK.heap.size v P (w.alloc o') (HK.out.1.called (bstart _ _)) (HK.out.2.called (bstart _ _)) hi hi (hf15 i hi) (row_called i2 (bstart _ _)) (by have:=i3.size; simp; omega) (by omega)
 have HI1:=hid_of i1
 have HI2:=hid_of i2
 have HI3:=hid_of i3
 have HSP:=hid_of hSP
 have hob:∀ g,v.ownBlock=some g→wK.heap.size≤g:=fun g hg=>(i2.lt g hg).1
 have HOB:=hid_of hob
 clear i1 i2 i3 hq hp hpw h1 h2 hf hc1 hx1 hcod hSP hfn hob hf15 hlen
 unfold penV at hws
 unfold codV at hws ⊢
 simp only [] at hws ⊢
 go_enter Tryz.func126,Tryz.ntmps126
 go_wp2_with fail
 refine (hws _).mono ?_
 rintro e w1 ⟨g1,cap1,rfl,r1,r2⟩
 clear hws
 have hq1:w1.heap[q]?=some (.cells #[v] 118 (0,0)):=(r2.block q (by simp; omega) (fun e=>by have:=HOB.out q e.symm; omega)).trans ((Below.heap_alloc w _ q lq).trans HI1.out)
 have z0:w1.cell? ⟨q,0,none⟩=some v:=(cell_of_block hq1 0).trans rfl
 have zf:∀ j,w1.frozen? ⟨q,j,none⟩=false:=fun j=>by simp [World.frozen?,hq1]
 have zl:=block_lt hq1
 have HE:Hid (PtI wK q f1 n1 f2 n2 (w1.setCell ⟨q,0,none⟩ (.slice (some ⟨g1,0,none⟩) (P.length+2) cap1)) (S ++ [(b,((i:Int),(sz:Int),z))])):=by
  refine⟨.slice (some ⟨g1,0,none⟩) (P.length+2) cap1,?_,?_,?_⟩
  ·have:=block_setCell (i:=0) hq1 (.slice (some ⟨g1,0,none⟩) (P.length+2) cap1)
   simpa using this
  ·rw[HSP.out]
   exact row_set r1 hql
  ·have hs3:=HI3.out.size
   have hs4:=r2.size
   refine⟨r2.os.trans HI3.out.os,r2.tape.trans HI3.out.tape,r2.output.trans HI3.out.output,?_,fun g hg hne=>?_⟩
   ·simp at hs4 ⊢
    omega
   ·have hgq:g≠q:=fun e=>hne (by rw [e])
    exact (Below.heap_setCell _ _ _ _ hgq).trans ((r2.block g (by simp; omega) (fun e=>by have:=HOB.out g e.symm; omega)).trans ((Below.heap_alloc w _ g (by omega)).trans (HI3.out.block g hg hne)))
 have HF:Hid (w.heap.size≤(w1.setCell ⟨q,0,none⟩ (.slice (some ⟨g1,0,none⟩) (P.length+2) cap1)).heap.size∧∀ g,g < w.heap.size→¬ PtT q w g→(w1.setCell ⟨q,0,none⟩ (.slice (some ⟨g1,0,none⟩) (P.length+2) cap1)).heap[g]?=w.heap[g]?):=by
  refine⟨by have:=r2.size; simp at this ⊢; omega,fun g hg hT=>?_⟩
  have hgq:g≠q:=fun e=>hT (.inl e)
  have hgv:v.ownBlock≠some g:=fun e=>hT (.inr ⟨v,HI1.out,e⟩)
  exact (Below.heap_setCell _ _ _ _ hgq).trans ((r2.block g (by simp; omega) (fun e=>hgv e.symm)).trans (Below.heap_alloc w _ g hg))
 clear r1 r2 hq1
 go_wp2_with fail
 go_end0
 exact⟨rfl,HE.out,HF.out.1,HF.out.2⟩
theorem by_any (a o:Option Addr) (n k m ko q:Nat) (w:World):
  Calls Tryz.prog 125 #[penV a o n k m ko,.pointer (some ⟨q,0,none⟩)] w fun e w'=>e=.returned (.func (.func 126) #[] #[.pointer (some ⟨w.heap.size,0,none⟩),.pointer (some ⟨q,0,none⟩)])∧w'=w.alloc (.cells #[.slice a n k,.slice o m ko] 183):=by
 unfold penV
 go_enter Tryz.func125,Tryz.ntmps125
 go_wp2_with fail
 go_ret
 exact⟨rfl,rfl⟩
set_option maxRecDepth 100000 in
set_option maxHeartbeats 3200000 in
theorem tokenParts_any (a a1 a2:Option Addr) (c k1 k2:Nat) (f1 f2:Nat→Int) (n1 n2:Nat) (L:List Tok) (w:World) (hC:TCame w a L.length (fun j=>L.getD j (0,0,0))) (h1:Came w a1 n1 f1) (h2:Came w a2 n2 f2) (hL:L.length≤12000) (hE:BodyOk f1 n1 f2 n2 []) (hG:∀ t∈L,TokRight t→BodyOk f1 n1 f2 n2 [t]):
  Calls Tryz.prog 83 #[.slice a L.length c,.slice a1 n1 k1,.slice a2 n2 k2] w fun e w'=>
   ((∀ t∈L,TokRight t)→∃ v,e=.returned (.tuple #[v,.bool true])∧w'.ownsRow w.heap.size 115 3 v (symsP f1 n1 f2 n2 (symsL L ++ [(false,(256,0,0))])).length (pcells (symsP f1 n1 f2 n2 (symsL L ++ [(false,(256,0,0))]))))∧(¬ (∀ t∈L,TokRight t)→∃ v,e=.returned (.tuple #[v,.bool false]))∧Below w.heap.size w w':=by
 have HC:=hid_of hC
 have H1:=hid_of h1
 have H2:=hid_of h2
 have HE:=hid_of hE
 have HG:=hid_of hG
 have hn1:=hE.c1.1
 have hn2:=hE.m2
 clear hC h1 h2 hE hG
 have hW0:=bstart w (.cells #[.slice none 0 0] 118)
 have hQ0:(w.alloc (.cells #[.slice none 0 0] 118)).heap[w.heap.size]?=some (.cells #[.slice none 0 0] 118 (0,0)):=heap_alloc_new w _
 generalize hX:w.alloc (.cells #[.slice none 0 0] 118)=X at hW0 hQ0
 have HX:=hid_of hX
 have HW0:=hid_of hW0
 have HQ0:=hid_of hQ0
 clear hX hW0 hQ0
 go_enter Tryz.func83,Tryz.ntmps83
 go_wp2_with fail
 rw[HX.out]
 refine (newPen a1 n1 k1 f1 X (H1.out.called HW0.out) (by omega) HE.out.c1.2.1).mono ?_
 rintro e w1 ⟨o1,m1,ko1,rfl,hK1,hm1,hB1⟩
 obtain rfl:m1=n1:=hm1 HE.out.c1
 have HK1:=hid_of hK1
 have HB1:=hid_of hB1
 clear hK1 hm1 hB1 HX
 go_wp2_with fail
 refine (by_any a1 o1 m1 k1 m1 ko1 w.heap.size w1).mono ?_
 rintro e w2 ⟨rfl,rfl⟩
 have HB2:=hid_of (bnext HB1.out (bstart w1 (.cells #[.slice a1 m1 k1,.slice o1 m1 ko1] 183)))
 have HP1:Hid ((w1.alloc (.cells #[.slice a1 m1 k1,.slice o1 m1 ko1] 183)).heap[w1.heap.size]?=some (.cells #[.slice a1 m1 k1,.slice o1 m1 ko1] 183 (0,0))):=heap_alloc_new w1 _
 have HK2:=hid_of (HK1.out.called (bstart w1 (.cells #[.slice a1 m1 k1,.slice o1 m1 ko1] 183)))
 clear HK1
 have hlt1:w.heap.size < w1.heap.size:=Nat.lt_of_lt_of_le (block_lt HQ0.out) HB1.out.size
 generalize w1.alloc (.cells #[.slice a1 m1 k1,.slice o1 m1 ko1] 183)=w2 at HB2 HP1 HK2 ⊢
 generalize w1.heap.size=p1 at HP1 hlt1 ⊢
 clear HB1
 go_wp2_with fail
 refine (newPen a2 n2 k2 f2 w2 (H2.out.called (bnext HW0.out HB2.out)) hn2 HE.out.w2).mono ?_
 rintro e w3 ⟨o2,m2,ko2,rfl,hK3,hm2,hB3⟩
 have HK3:=hid_of hK3
 have HM2:=hid_of hm2
 have HB3:=hid_of hB3
 clear hK3 hm2 hB3
 go_wp2_with fail
 refine (by_any a2 o2 n2 k2 m2 ko2 w.heap.size w3).mono ?_
 rintro e w4 ⟨rfl,rfl⟩
 have hb4:=bstart w3 (.cells #[.slice a2 n2 k2,.slice o2 m2 ko2] 183)
 have HB4:=hid_of (bnext (bnext HB2.out HB3.out) hb4)
 have HP2:Hid ((w3.alloc (.cells #[.slice a2 n2 k2,.slice o2 m2 ko2] 183)).heap[w3.heap.size]?=some (.cells #[.slice a2 n2 k2,.slice o2 m2 ko2] 183 (0,0))):=heap_alloc_new w3 _
 have HP1':Hid ((w3.alloc (.cells #[.slice a2 n2 k2,.slice o2 m2 ko2] 183)).heap[p1]?=some (.cells #[.slice a1 m1 k1,.slice o1 m1 ko1] 183 (0,0))):=((bnext HB3.out hb4).block _ (block_lt HP1.out)).trans HP1.out
 have HKK:=hid_of (And.intro (HK2.out.called (bnext HB3.out hb4)) (HK3.out.called hb4))
 have hlt3:w.heap.size < w3.heap.size:=Nat.lt_of_lt_of_le (block_lt HQ0.out) (bnext HB2.out HB3.out).size
 clear hb4 HB2 HB3 HP1 HK2 HK3
 generalize w3.alloc (.cells #[.slice a2 n2 k2,.slice o2 m2 ko2] 183)=wK at HB4 HP2 HP1' HKK ⊢
 generalize w3.heap.size=p2 at HP2 hlt3 ⊢
 have HQK:Hid (wK.heap[w.heap.size]?=some (.cells #[.slice none 0 0] 118 (0,0))):=(HB4.out.block _ (block_lt HQ0.out)).trans HQ0.out
 have HBK:=hid_of (bnext HW0.out HB4.out)
 have hI0:PtI wK w.heap.size f1 m1 f2 n2 wK []:=⟨.slice none 0 0,HQK.out,World.ownsRow_nil _ _ _ _,bgr (Below.refl _ _) _⟩
 have htl:=tell_parts p1 p2 w.heap.size (PtG m1 f2 n2) (PtI wK w.heap.size f1 m1 f2 n2) (PtT w.heap.size) w wK a c L HC.out hL (pt_stays HBK.out (Nat.le_refl _))
  (fun w' S s hI hG hS=>hearsP false wK w.heap.size p1 f1 f2 f1 m1 n2 m1 k1 m1 ko1 a1 o1 _ w' S s hI hG hS HQK.out (fun x e=>by cases e) HP1'.out (by omega) (H1.out.called HBK.out) HKK.out.1 ⟨rfl,rfl⟩ (fun _=>⟨rfl,HE.out.c1.2.1⟩) (fun _=>HE.out.c1))
  (fun w' S s hI hG hS=>hearsP true wK w.heap.size p2 f1 f2 f2 m1 n2 n2 k2 m2 ko2 a2 o2 _ w' S s hI hG hS HQK.out (fun x e=>by cases e) HP2.out (by omega) (H2.out.called HBK.out) HKK.out.2 ⟨rfl,rfl⟩ (fun h=>⟨HM2.out h,h.2.1⟩) (fun h=>by cases h))
  (fun t ht hT x hx=>by have h:=(HG.out t ht hT).sym (List.mem_singleton.mpr rfl) x hx; exact⟨h.1,h.2.1⟩) ⟨⟨by decide,by simpa using HE.out.e1⟩,by decide,by decide⟩ hI0
 have HSTY:=hid_of (pt_stays (f1:=f1) (n1:=m1) (f2:=f2) (n2:=n2) HBK.out (Nat.le_refl _))
 have HBKs:Hid (w.heap.size≤wK.heap.size):=HBK.out.size
 clear hI0 HC H1 H2 HE HG HQ0 HW0 HB4 HP2 HP1' HKK HQK HM2
 go_wp2_with fail
 refine htl.mono ?_
 rintro e w5 ⟨hy,hno⟩
 clear htl
 by_cases hall:∀ t∈L,TokRight t
 ·obtain⟨rfl,hI⟩:=hy hall
  have HBB:=hid_of (HSTY.out.below hI)
  obtain⟨v,i1,i2,i3⟩:=hI
  have z0:w5.cell? ⟨w.heap.size,0,none⟩=some v:=(cell_of_block i1 0).trans rfl
  have HI2:=hid_of i2
  clear i1 i2 i3 hy hno
  go_wp2_with fail
  go_ret2
  refine⟨fun _=>⟨v,rfl,?_⟩,fun h=>absurd hall h,HBB.out⟩
  exact⟨HI2.out.1,by
   rcases HI2.out.2 with q | ⟨g5,cap5,cur5,e5,b5,h5⟩
   ·exact .inl q
   ·exact .inr ⟨g5,cap5,cur5,e5,Nat.le_trans HBKs.out b5,h5⟩⟩
 ·obtain⟨rfl,S,hI⟩:=hno hall
  have HBB:=hid_of (HSTY.out.below hI)
  obtain⟨v,i1,i2,i3⟩:=hI
  have z0:w5.cell? ⟨w.heap.size,0,none⟩=some v:=(cell_of_block i1 0).trans rfl
  clear i1 i2 i3 hy hno
  go_wp2_with fail
  go_ret2
  exact⟨fun h=>absurd h hall,fun _=>⟨v,rfl⟩,HBB.out⟩
end
section
open Go.RowKit Go.Joins OutMath InfMath TokMath TrimMath TellMath BlockMath PartMath BodyMath
theorem came_fixed {w:World} {S:Nat} {a:Option Addr} {n c:Nat} {f:Nat→Int} (h:NumRow w S (.slice a n c) (firstJ f n)):Came w a n f:=by
 rcases sl_of_num h (firstJ_length f n).symm with q | ⟨g,e,ho⟩
 ·exact .inl q
 ·subst e
  exact (ho.congr fun i hi=>firstJ_getD f hi).sl.came
theorem PCame.low {w w':World} {a:Option Addr} {L:List Part} {row:Option Nat} (h:PCame w a L) (hg:w.grownBy w' row) (hr:∀ k,row=some k→w.heap.size≤k):PCame w' a L:=by
 rcases h with h | ⟨g,off,ha,hl,hc⟩
 ·exact .inl h
 ·have hne:∀ i,some (⟨g,i,none⟩:Addr).block≠row:=fun i e=>by have:=hr g e.symm; omega
  exact .inr ⟨g,off,ha,Nat.lt_of_lt_of_le hl hg.size,fun j hj=>⟨(hg.cell_far ⟨g,off+j * 3,none⟩ hl (hne _)).trans (hc j hj).1,(hg.cell_far ⟨g,off+j * 3+1,none⟩ hl (hne _)).trans (hc j hj).2.1,(hg.cell_far ⟨g,off+j * 3+2,none⟩ hl (hne _)).trans (hc j hj).2.2⟩⟩
theorem own_came {w:World} {e:TypeId} {S N g cap:Nat} {P:List Part} (h:w.ownsRow S e 3 (.slice (some ⟨g,0,none⟩) N cap) N (pcells P)) (hN:P.length=N):PCame w (some ⟨g,0,none⟩) P:=by
 subst hN
 obtain⟨a,c,hv,_,_,_,hp,_⟩:=pcame_of_own h rfl
 cases hv
 exact hp
set_option maxRecDepth 100000 in
set_option maxHeartbeats 3200000 in
theorem fixed_in (s:ByteArray) (c:Int) (a:Option Addr) (cp:Nat) (L:List Tok) (last:Bool) (w:World) (hs:s.size≤1048576) (hc1:-9223372036854775808≤c) (hc2:c≤9223372036854775807) (hC:TCame w a L.length (fun j=>L.getD j (0,0,0))) (hL:L.length≤12000):
  Calls Tryz.prog 52 #[.agg #[.string s,.int .i64 c],.slice a L.length cp,.bool last] w fun e w'=>e=.returned (blkAns (fixedOut s c L last))∧Below w.heap.size w w':=by
 have d:decide ((12000:Int) < (L.length:Int))=false:=decide_eq_false (by omega)
 have d':decide (12000 < L.length)=false:=decide_eq_false (by omega)
 have HX:=hid_of (SBx.start w s c)
 have HC:=hid_of hC
 clear hC
 go_enter Tryz.func52,Tryz.ntmps52
 go_wp2_with fail
 generalize (w.alloc _).alloc _=X at HX ⊢
 refine (implFixed X).mono ?_
 rintro e w1 ⟨a1,k1,a2,k2,K,rfl,r1,r2,_,b1,_⟩
 have HX1:=hid_of (HX.out.called b1)
 have HF:=hid_of (And.intro (came_fixed r1) (came_fixed r2))
 clear r1 r2 b1 HX
 go_wp2_with fail
 refine (tokenParts_any a a1 a2 cp k1 k2 fixed1 fixed2 288 32 L w1 (HC.out.called HX1.out.1) HF.out.1 HF.out.2 hL (fixed_body (fun t ht=>by cases ht)) (fun t _ hT=>fixed_body (fun u hu=>by rw [List.mem_singleton.mp hu]; exact hT))).mono ?_
 rintro e w2 ⟨hy,hno,hB2⟩
 have HX2:=hid_of (HX1.out.called hB2)
 clear hB2 HX1 HF HC
 by_cases hall:∀ t∈L,TokRight t
 ·obtain⟨v,rfl,hown⟩:=hy hall
  clear hy hno
  have e1:fixedOut s c L last=(outSt s c).bind fun o=>bitsOut o (partBits (headP 1 last :: symsP fixed1 288 fixed2 32 (symsL L ++ [(false,(256,0,0))]))):=by
   unfold fixedOut
   rw[if_pos ⟨hL,hall⟩]
   congr 1
   funext o
   rw[partBits_cons,headP_bits (by omega),progP_bits]
  have hR:∀ p∈headP 1 last :: symsP fixed1 288 fixed2 32 (symsL L ++ [(false,(256,0,0))]),Right p:=by
   intro p hp
   rcases List.mem_cons.mp hp with rfl | hp
   ·exact headP_right (by omega) last
   ·exact (fixed_body hall).progR p hp
  have hlen:(symsP fixed1 288 fixed2 32 (symsL L ++ [(false,(256,0,0))])).length≤100000∧0 < (symsP fixed1 288 fixed2 32 (symsL L ++ [(false,(256,0,0))])).length:=by
   rw[symsP_length,List.length_append,List.length_singleton]
   have:=symsL_length L
   omega
  obtain⟨P,hP⟩:∃ P,P=symsP fixed1 288 fixed2 32 (symsL L ++ [(false,(256,0,0))]):=⟨_,rfl⟩
  rw[← hP] at e1 hR hlen hown
  obtain⟨a3,k3,rfl,_,_,_,hPC,_⟩:=pcame_of_own hown rfl
  obtain⟨g3,o3,rfl⟩:∃ g3 o3,a3=some ⟨g3,o3,none⟩:=by
   rcases hPC with q | ⟨g,off,e,_⟩
   ·omega
   ·exact⟨g,off,e⟩
  obtain⟨N,hN⟩:∃ N,N=P.length:=⟨_,rfl⟩
  have HPC:=hid_of hPC
  have HR:=hid_of hR
  have HE1:=hid_of e1
  have HN:=hid_of hN
  have hNl:N≤100000∧0 < N:=by rw [hN]; exact hlen
  rw[← hN]
  clear hP hPC hR e1 hlen hown hN
  obtain⟨x0,x1,xl⟩:=HX2.out.cells
  obtain⟨tt,nn,bb,he⟩:=blkAns_form ((outSt s c).bind fun o=>bitsOut o (partBits (headP 1 last :: P)))
  have HWP:Hid (∀ (W:World) (g' cap':Nat),PCame W (some ⟨g',0,none⟩) (headP 1 last :: P)→Calls Tryz.prog 77 #[.agg #[.string s,.int .i64 c],.slice (some ⟨g',0,none⟩) (N+1) cap'] W fun e w'=>e=.returned (.tuple #[.agg #[.string tt,.int .i64 nn],.bool bb])∧Below W.heap.size W w'):=by
   intro W g' cap' hp
   have h:=withParts_any s c (some ⟨g',0,none⟩) cap' (headP 1 last :: P) W hp HR.out (by rw [List.length_cons,← HN.out]; omega) (by unfold maxLen; omega) hc1 hc2
   rw[he,List.length_cons,← HN.out] at h
   exact h
  have HE2:Hid (fixedOut s c L last=fixedOut s c L last∧blkAns (fixedOut s c L last)=.tuple #[.agg #[.string tt,.int .i64 nn],.bool bb]):=⟨rfl,by rw [HE1.out,he]⟩
  have HLN:Hid ((headP 1 last :: P).length=N+1):=by rw [List.length_cons,← HN.out]; rfl
  clear he HE1
  go_wp2_with fail
  go_region_held_law (fun u=>u.cell? ⟨w.heap.size,0,none⟩=some (.string s)∧u.cell? ⟨w.heap.size,1,none⟩=some (.int .i64 c)) (first | go_keep | (refine⟨?_,?_⟩ <;> first | assumption | go_keep | (simp [*]; done))) (first | (refine step_parts Tryz.underlying118 info_part9 _ rfl (.tmp 33) (.tmp 34) rfl (w.heap.size+2) (.slice (some ⟨w'.heap.size,0,none⟩) 1 1) [headP 1 last] P (by simp [Act.eval]) (by exact own_lit w' 115 (w.heap.size+2) hwl [headP 1 last] (by simp)) ⟨g3,o3,none⟩ N k3 (by simp [Act.eval]) HN.out.symm hNl.2 (by exact (HPW.out.called (bstart w' _)).news) (by rw [← HN.out]; simp only [List.length_singleton]; omega) (by exact Nat.le_trans hwl (by simp)) _ rfl (N+1) (by rw [List.length_append,← HN.out,List.length_singleton]; omega) ?_; intro g' cap' w3 r1 r2 r3 r4; have HX3:=hid_of ((HXW.out.called (by first | exact bstart w' _ | exact (bstart w' _).drew)).grown r2 hwl); have hc3:=HX3.out.cells; have q0:=hc3.1; have q1:=hc3.2.1; have HP3:Hid (PCame w3 (some ⟨g',0,none⟩) (headP 1 last :: P)):=hid_of (own_came r1 HLN.out); clear hc3 r1 r2 r3 r4) | (go_at_call 75; refine (headPart_any 1 last _ (by omega)).mono ?_; rintro e w' ⟨rfl,hB⟩; have HXW:=hid_of (SBx.called (X:=w2.drew) (by exact HX2.out.drew) hB); have HPW:=hid_of (PCame.called (w:=w2.drew) (by exact HPC.out) hB); have hcw:=HXW.out.cells; have x0':=hcw.1; have x1':=hcw.2.1; have hwl:w.heap.size+2≤w'.heap.size:=HXW.out.res.2.2.2; clear hB hcw) | (go_at_call 77; refine (HWP.out _ _ _ HP3.out).mono ?_; rintro e w4 ⟨rfl,hB4⟩; have HX4:=hid_of (HX3.out.called hB4); have hc4:=HX4.out.cells; have v0:=hc4.1; have v1:=hc4.2.1; have hr4:=HX4.out.res; have z0:=hr4.1; have z1:=hr4.2.1; have zf:=hr4.2.2.1; have zl:=hr4.2.2.2; clear hB4 hc4 hr4))
  all_goals
   go_wp2_with fail
   refine bodyPost_ret (v:=.tuple #[.agg #[.string tt,.int .i64 nn],.bool bb]) ?_ rfl ⟨by rw [HE2.out.2],?_⟩
   ·simp[results,Tryz.results52,go_sem,z0,z1]
   ·exact two_below HX4.out.1 (Nat.le_succ _) _ _
 ·obtain⟨v,rfl⟩:=hno hall
  clear hy hno
  have e1:fixedOut s c L last=none:=if_neg (fun h=>hall h.2)
  obtain⟨z0,z1,zf,zl⟩:=HX2.out.res
  go_wp2_with fail
  refine bodyPost_ret (v:=.tuple #[.agg #[.string ⟨#[]⟩,.int .i64 0],.bool false]) ?_ rfl ⟨by rw [e1]; rfl,two_below HX2.out.1 (Nat.le_succ _) _ _⟩
  simp[results,Tryz.results52,go_sem,z0,z1]
set_option maxHeartbeats 800000 in
theorem fixed_answer:FixedAnswer:=by
 intro s c a cp L last w hs hc1 hc2 hC _
 by_cases hL:L.length≤12000
 ·exact fixed_in s c a cp L last w hs hc1 hc2 hC hL
 ·have d:decide ((12000:Int) < (L.length:Int))=true:=decide_eq_true (by omega)
  have d':decide (12000 < L.length)=true:=decide_eq_true (by omega)
  have e1:fixedOut s c L last=none:=if_neg (fun h=>hL h.1)
  rw[e1]
  have HX:=hid_of (SBx.start w s c)
  clear hC
  go_enter Tryz.func52,Tryz.ntmps52
  go_wp2_with fail
  generalize (w.alloc _).alloc _=X at HX ⊢
  obtain⟨z0,z1,zf,zl⟩:=HX.out.res
  refine bodyPost_ret (v:=.tuple #[.agg #[.string ⟨#[]⟩,.int .i64 0],.bool false]) ?_ rfl ⟨rfl,HX.out.1⟩
  simp[results,Tryz.results52,go_sem,z0,z1]
end
section
namespace CntMath
open TokMath StepMath TokLenMath TellMath
def cnt (b:Bool) (S:List (Bool×Cod)) (i:Nat):Int:=((S.filter fun x=>decide (x.1=b∧x.2.1.toNat=i)).length:Int)
theorem cnt_le (b:Bool) (S:List (Bool×Cod)) (i:Nat):0≤cnt b S i∧cnt b S i≤S.length:=by
 unfold cnt
 have:=List.length_filter_le (fun x:Bool×Cod=>decide (x.1=b∧x.2.1.toNat=i)) S
 omega
theorem cnt_app (b:Bool) (S R:List (Bool×Cod)) (i:Nat):cnt b (S ++ R) i=cnt b S i+cnt b R i:=by
 unfold cnt
 rw[List.filter_append,List.length_append]
 omega
theorem cnt_one (b:Bool) (s:Cod) (i:Nat):cnt b [(b,s)] i=if i=s.1.toNat then 1 else 0:=by
 unfold cnt
 by_cases h:i=s.1.toNat
 ·subst h
  simp
 ·have h':¬ s.1.toNat=i:=fun e=>h e.symm
  simp[h,h']
theorem cnt_none (b:Bool) (s:Cod) (i:Nat):cnt b [(!b,s)] i=0:=by
 unfold cnt
 cases b <;> simp
theorem cnt_snoc (S:List (Bool×Cod)) (b:Bool) (s:Cod) (i:Nat):upd (cnt b S) s.1.toNat (cnt b S s.1.toNat+1) i=cnt b (S ++ [(b,s)]) i:=by
 rw[cnt_app,cnt_one]
 unfold upd
 by_cases h:i=s.1.toNat
 ·rw[if_pos h,if_pos h,h]
 ·rw[if_neg h,if_neg h]
  omega
theorem cnt_other (S:List (Bool×Cod)) {b:Bool} (s:Cod) (i:Nat):cnt (!b) S i=cnt (!b) (S ++ [(b,s)]) i:=by
 have:=cnt_none (!b) s i
 rw[Bool.not_not] at this
 rw[cnt_app,this]
 omega
theorem cnt_first:∀ (L:List Tok) (i:Nat),(if i=256 then 1 else 0)+cnt false (symsL L) i=cntA L i
 | [],i=>rfl
 | t :: L,i=>by
  have ih:=cnt_first L i
  have e:symsL (t :: L)=symsT t ++ symsL L:=rfl
  rw[e,cnt_app]
  have h1:cntA (t :: L) i=(if i=sym1 t then 1 else 0)+cntA L i:=by
   unfold cntA
   rw[List.filter_cons]
   by_cases h:i=sym1 t
   ·rw[if_pos h,if_pos (decide_eq_true h.symm),List.length_cons]
    omega
   ·have h':¬ decide (sym1 t=i)=true:=by simpa using fun e:sym1 t=i=>h e.symm
    rw[if_neg h,if_neg h']
    omega
  have h2:cnt false (symsT t) i=if i=sym1 t then 1 else 0:=by
   obtain⟨x,y,z⟩:=t
   by_cases hy:y=0
   ·subst hy
    rw[symsT_byte,sym1_byte,cnt_one]
   ·rw[symsT_rep _ _ hy,sym1_rep hy,show [(false,LengthCodeOf y),(true,DistCodeOf z)]=[(false,LengthCodeOf y)] ++ [(!false,DistCodeOf z)] from rfl,cnt_app,cnt_one,cnt_none]
    omega
  rw[h1,h2,← ih]
  omega
theorem cnt_second:∀ (L:List Tok) (i:Nat),cnt true (symsL L) i=cntB L i
 | [],i=>rfl
 | t :: L,i=>by
  have ih:=cnt_second L i
  have e:symsL (t :: L)=symsT t ++ symsL L:=rfl
  rw[e,cnt_app,ih]
  obtain⟨x,y,z⟩:=t
  unfold cntB
  rw[List.filter_cons]
  by_cases hy:y=0
  ·subst hy
   rw[symsT_byte,show cnt true [(false,(x,0,0))] i=0 from cnt_none true _ i,if_neg (by simp)]
   omega
  ·rw[symsT_rep _ _ hy,show [(false,LengthCodeOf y),(true,DistCodeOf z)]=[(!true,LengthCodeOf y)] ++ [(true,DistCodeOf z)] from rfl,cnt_app,cnt_one,cnt_none]
   by_cases h:i=(DistCodeOf z).1.toNat
   ·rw[if_pos h,if_pos (decide_eq_true ⟨hy,h.symm⟩),List.length_cons]
    omega
   ·have h':¬ decide ((x,y,z).2.1≠0∧sym2 (x,y,z)=i)=true:=by
     rw[decide_eq_true_eq]
     exact fun e=>h e.2.symm
    rw[if_neg h,if_neg h']
    omega
end CntMath
end
end Go.Proofs.YtklpiihnbokkkaaGreatDoor
