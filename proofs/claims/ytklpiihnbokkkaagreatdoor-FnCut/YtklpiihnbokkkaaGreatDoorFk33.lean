/-
  Texts of the proof, put together.
-/
import Derived.Test.YtklpiihnbokkkaaGreatDoorFk30
namespace Go.Proofs.YtklpiihnbokkkaaGreatDoor
open Go.RowKit Go.Joins TokMath StepMath TellMath
set_option maxRecDepth 100000 in
set_option maxHeartbeats 3200000 in
theorem tell_count (p1 p2:Nat) (Gd:Bool→Cod→Prop) (I:World→List (Bool×Cod)→Prop) (T:World→Nat→Prop) (w0 w:World) (a:Option Addr) (c:Nat) (L:List Tok)
  (hC:TCame w0 a L.length (fun j=>L.getD j (0,0,0))) (hL:L.length≤12000) (hS:Stays w0 I T) 
  (h1:∀ (w:World) (S:List (Bool×Cod)) (s:Cod),I w S→Gd false s→S.length≤24001→Calls Tryz.prog 169 #[codV s,.pointer (some ⟨p1,0,none⟩)] w fun e w'=>e=.returned (.tuple #[])∧I w' (S ++ [(false,s)])∧w.heap.size≤w'.heap.size∧∀ g,g < w.heap.size→¬ T w g→w'.heap[g]?=w.heap[g]?)
  (h2:∀ (w:World) (S:List (Bool×Cod)) (s:Cod),I w S→Gd true s→S.length≤24001→Calls Tryz.prog 170 #[codV s,.pointer (some ⟨p2,0,none⟩)] w fun e w'=>e=.returned (.tuple #[])∧I w' (S ++ [(true,s)])∧w.heap.size≤w'.heap.size∧∀ g,g < w.heap.size→¬ T w g→w'.heap[g]?=w.heap[g]?)
  (hG:∀ t∈L,TokRight t→∀ x∈symsT t,Gd x.1 x.2) (hE:Gd false (256,0,0)) (hI:I w []):
  Calls Tryz.prog 128 #[.slice a L.length c,.func (.func 169) #[] #[.pointer (some ⟨p1,0,none⟩)],.func (.func 170) #[] #[.pointer (some ⟨p2,0,none⟩)]] w fun e w'=>
   ((∀ t∈L,TokRight t)→e=.returned (.bool true)∧I w' (symsL L ++ [(false,(256,0,0))]))∧(¬ (∀ t∈L,TokRight t)→e=.returned (.bool false)∧∃ S,I w' S):=by
 have HC:=hid_of hC
 have HS:=hid_of hS
 have H1:=hid_of h1
 have H2:=hid_of h2
 have HG:=hid_of hG
 have HE:=hid_of hE
 have HI:=hid_of hI
 clear hC hS h1 h2 hG hE hI
 go_enter Tryz.func128,Tryz.ntmps128
 go_wp2_with fail
 go_loopg [14] (L.length+1) (fun gk i w'=>∃ (j:Nat),j≤L.length∧L.length - j≤gk∧i=.int .i64 j∧Hid (I w' (symsL (L.take j))∧∀ t∈L.take j,TokRight t))
 case atStart=>exact⟨0,Nat.zero_le _,by omega,rfl,HI.out,fun t ht=>by cases ht⟩
 case round=>
  obtain⟨j,hj,hgk,rfl,hSt⟩:=hrel
  by_cases hlt:j < L.length
  ·have dl:decide ((j:Int) < (L.length:Int))=true:=decide_eq_true (by omega)
   rcases HC.out.called (HS.out.below hSt.out.1) with q | ⟨g,off,rfl,hg,hc⟩
   ·omega
   obtain⟨f0,f1,f2⟩:=hc j hlt
   simp only [] at f0 f1 f2
   have hmem:L.getD j (0,0,0)∈L:=by rw [List.getD_eq_getElem?_getD,List.getElem?_eq_getElem hlt]; exact List.getElem_mem hlt
   have HMEM:=hid_of hmem
   have HSN:=hid_of (symsL_snoc hlt)
   have HTK:=hid_of (show L.take (j+1)=L.take j ++ [L.getD j (0,0,0)] by rw [List.take_add_one,List.getElem?_eq_getElem hlt,List.getD_eq_getElem?_getD,List.getElem?_eq_getElem hlt]; rfl)
   obtain⟨⟨x,y,z⟩,hr⟩:∃ r,r=L.getD j (0,0,0):=⟨_,rfl⟩
   rw[← hr] at f0 f1 f2 HSN HTK HMEM
   clear hc hr hmem
   by_cases hT:TokRight (x,y,z)
   ·by_cases hy:y=0
    ·subst hy
     obtain⟨⟨hx0,hx1⟩,hz⟩:(0≤x∧x≤255)∧z=0:=by unfold TokRight at hT; rw [if_pos rfl] at hT; exact hT
     subst hz
     have t1:=as_literal
     have hp:=fun w=>pieceOf_any x 0 0 w
     rw[piece_byte hx0 hx1] at hp
     have hw:wrap64 x=x:=by unfold wrap64; omega
     go_wp2_with fail
     refine (hp _).mono ?_
     rintro e w1 ⟨rfl,hB1⟩
     go_wp2_with fail
     refine (newCoded_any _ _ _ _).mono ?_
     rintro e w2 ⟨rfl,hB2⟩
     have HI2:=hid_of (HS.out.called hSt.out.1 (bnext (bnext (bstart wr _) hB1) hB2)).1
     have hlen:(symsL (L.take j)).length≤24001:=by have:=symsL_length (L.take j); rw [List.length_take] at this; omega
     have hgd:Gd false (x,0,0):=HG.out _ HMEM.out hT (false,(x,0,0)) (by rw [symsT_byte]; exact List.mem_singleton.mpr rfl)
     clear hB1 hB2
     go_wp2_with fail
     refine (H1.out w2 _ (x,0,0) HI2.out hgd hlen).mono ?_
     rintro e w3 ⟨rfl,hI3,_,_⟩
     have HN:Hid (I w3 (symsL (L.take (j+1)))∧∀ t∈L.take (j+1),TokRight t):=by
      refine⟨by rw [HSN.out,symsT_byte]; exact hI3,fun t ht=>?_⟩
      rw[HTK.out] at ht
      rcases List.mem_append.mp ht with ht | ht
      ·exact hSt.out.2 t ht
      ·rw[List.mem_singleton.mp ht]; exact hT
     clear hI3
     go_wp2_with fail
     go_roundg (L.length - (j+1))
     case measure=>omega
     case rel=>exact⟨j+1,by omega,Nat.le_refl _,by go_num,HN⟩
    ·obtain⟨hx,hy2,hz2⟩:x=0∧(3≤y∧y≤258)∧(1≤z∧z≤32768):=by unfold TokRight at hT; rw [if_neg hy] at hT; exact hT
     subst hx
     have t1:=no_literal
     have t2:=as_repeat
     have hp:=fun w=>pieceOf_any 0 y z w
     rw[piece_repeat hy2 hz2] at hp
     have hl:=fun w=>lengthCode_answer y w (wf_small y (by omega) (by omega))
     have hd:=fun w=>distCode_answer z w (wf_small z (by omega) (by omega))
     have hg1:Gd false (LengthCodeOf y):=HG.out _ HMEM.out hT (false,LengthCodeOf y) (by rw [symsT_rep _ _ hy]; exact List.mem_cons_self ..)
     have hg2:Gd true (DistCodeOf z):=HG.out _ HMEM.out hT (true,DistCodeOf z) (by rw [symsT_rep _ _ hy]; exact List.mem_cons_of_mem _ (List.mem_cons_self ..))
     have hsn:symsL (L.take (j+1))=symsL (L.take j) ++ [(false,LengthCodeOf y)] ++ [(true,DistCodeOf z)]:=by rw [HSN.out,symsT_rep _ _ hy,List.append_assoc]; rfl
     obtain⟨⟨l1,l2,l3⟩,hlc⟩:∃ r,r=LengthCodeOf y:=⟨_,rfl⟩
     obtain⟨⟨d1,d2,d3⟩,hdc⟩:∃ r,r=DistCodeOf z:=⟨_,rfl⟩
     rw[← hlc] at hl hg1 hsn
     rw[← hdc] at hd hg2 hsn
     simp only [] at hl hd
     have HSN2:=hid_of hsn
     have hlen:(symsL (L.take j)).length≤24000:=by have:=symsL_length (L.take j); rw [List.length_take] at this; omega
     clear hlc hdc hsn HSN
     go_wp2_with fail
     refine (hp _).mono ?_
     rintro e w1 ⟨rfl,hB1⟩
     have HI1:=hid_of (HS.out.called hSt.out.1 (bnext (bstart wr _) hB1)).1
     clear hB1 hp
     go_wp2_with fail
     refine (hl _).mono ?_
     rintro e w2 ⟨rfl,hB2⟩
     clear hl
     go_wp2_with fail
     refine (newCoded_any _ _ _ _).mono ?_
     rintro e w3 ⟨rfl,hB3⟩
     have hr3:w3.heap[w1.heap.size]?=some (.cells #[.int .i64 y,.int .i64 z] 237 (0,0)):=by
      have h1:w2.heap[w1.heap.size]?=_:=(hB2.block _ (by simp)).trans (heap_alloc_new w1 _)
      exact (hB3.block _ (block_lt h1)).trans h1
     have hb13:=bnext (bnext (bstart w1 (.cells #[.int .i64 y,.int .i64 z] 237)) hB2) hB3
     obtain⟨hI3,hT3⟩:=HS.out.called HI1.out hb13
     have hnt:¬ T w3 w1.heap.size:=fun h=>by have:=HS.out.lt HI1.out (hT3 _ h); omega
     have HI3:=hid_of hI3
     have HR3:=hid_of hr3
     have hl3:=block_lt hr3
     clear hB2 hB3 hI3 hT3 hr3 hb13
     go_wp2_with fail
     refine (H1.out w3 _ (l1,l2,l3) HI3.out hg1 (by omega)).mono ?_
     rintro e w4 ⟨rfl,hI4,hsz4,hk4⟩
     have hr4:w4.heap[w1.heap.size]?=some (.cells #[.int .i64 y,.int .i64 z] 237 (0,0)):=(hk4 _ hl3 hnt).trans HR3.out
     have c0:w4.cell? ⟨w1.heap.size,0,none⟩=some (.int .i64 y):=(cell_of_block hr4 0).trans rfl
     have c1:w4.cell? ⟨w1.heap.size,1,none⟩=some (.int .i64 z):=(cell_of_block hr4 1).trans rfl
     have HI4:=hid_of hI4
     clear hI4 hsz4 hk4 hr4 HR3 HI3 HI1
     go_wp2_with fail
     refine (hd _).mono ?_
     rintro e w5 ⟨rfl,hB5⟩
     clear hd
     go_wp2_with fail
     refine (newCoded_any _ _ _ _).mono ?_
     rintro e w6 ⟨rfl,hB6⟩
     have HI6:=hid_of (HS.out.called HI4.out (bnext hB5 hB6)).1
     clear hB5 hB6 HI4
     go_wp2_with fail
     refine (H2.out w6 _ (d1,d2,d3) HI6.out hg2 (by rw [List.length_append,List.length_singleton]; omega)).mono ?_
     rintro e w7 ⟨rfl,hI7,_,_⟩
     have HN:Hid (I w7 (symsL (L.take (j+1)))∧∀ t∈L.take (j+1),TokRight t):=by
      refine⟨by rw [HSN2.out]; exact hI7,fun t ht=>?_⟩
      rw[HTK.out] at ht
      rcases List.mem_append.mp ht with ht | ht
      ·exact hSt.out.2 t ht
      ·rw[List.mem_singleton.mp ht]; exact hT
     clear hI7
     go_wp2_with fail
     go_roundg (L.length - (j+1))
     case measure=>omega
     case rel=>exact⟨j+1,by omega,Nat.le_refl _,by go_num,HN⟩
   ·have t1:=nil_literal
    have t2:=nil_repeat
    have hp:=fun w=>pieceOf_any x y z w
    rw[piece_none hT] at hp
    go_wp2_with fail
    refine (hp _).mono ?_
    rintro e w1 ⟨rfl,hB1⟩
    have HI1:=hid_of (HS.out.called hSt.out.1 (bnext (bstart wr _) hB1)).1
    clear hB1 hp
    go_wp2_with fail
    go_ret
    exact⟨fun h=>absurd (h _ HMEM.out) hT,fun _=>⟨rfl,_,by first | exact HI1.out | exact (HS.out.called HI1.out (bstart _ _)).1⟩⟩
  ·obtain rfl:L.length=j:=by omega
   have dl:decide ((L.length:Int) < (L.length:Int))=false:=decide_eq_false (by omega)
   rw[List.take_length] at hSt
   have hlen:=symsL_length L
   go_wp2_with fail
   refine (newCoded_any _ _ _ _).mono ?_
   rintro e w1 ⟨rfl,hB1⟩
   have HI1:=hid_of (HS.out.called hSt.out.1 hB1).1
   clear hB1
   go_wp2_with fail
   refine (H1.out w1 _ (256,0,0) HI1.out HE.out (by omega)).mono ?_
   rintro e w2 ⟨rfl,hI2,_,_⟩
   have HI2:=hid_of hI2
   clear hI2
   go_wp2_with fail
   go_ret
   exact⟨fun _=>⟨rfl,HI2.out⟩,fun h=>absurd hSt.out.2 h⟩
end Go.Proofs.YtklpiihnbokkkaaGreatDoor

namespace Go.Proofs.YtklpiihnbokkkaaGreatDoor
open Go.RowKit Go.Joins PackageMath
def LimitAnswer : Prop := ∀ (a : Option Addr) (n cap : Nat) (f : Nat → Int) (z : Int) (w : World), Came w a n f → n ≤ 1048576 → (∀ i, i < n → (Lit.int .i64 (f i)).wf = true) → (Lit.int .i64 z).wf = true →
    (LimitRight f n z → Calls Tryz.prog 171 #[.slice a n cap, .int .i64 z] w fun e w' => ∃ (a' : Option Addr) (cap' : Nat), e = .returned (.tuple #[.slice a' n cap', .bool true]) ∧ SL w' w.heap.size a' n cap' (limLen f n z) ∧ Below w.heap.size w w') ∧
    (¬ LimitRight f n z → Calls Tryz.prog 171 #[.slice a n cap, .int .i64 z] w fun e w' => ∃ (a' : Option Addr) (cap' : Nat), e = .returned (.tuple #[.slice a' 0 cap', .bool false]) ∧ Below w.heap.size w w')
end Go.Proofs.YtklpiihnbokkkaaGreatDoor

namespace Go.Proofs.YtklpiihnbokkkaaGreatDoor.SortMath
def sw (f:Nat→Int) (i j:Nat):Nat→Int:=fun x=>if x=i then f j else if x=j then f i else f x
def Up (f:Nat→Int) (a b:Nat):Prop:=∀ i j,a≤i→i < j→j < b→f i < f j
def Stb (f:Nat→Int) (a b:Nat):Prop:=∀ i j,a≤i→i < j→j < b→f i < f j∨f j / 1024 < f i / 1024
def Of (f g:Nat→Int) (a b:Nat):Prop:=(∀ i,a≤i→i < b→∃ j,a≤j∧j < b∧g i=f j)∧∀ i,¬ (a≤i∧i < b)→g i=f i
theorem Of.refl (f:Nat→Int) (a b:Nat):Of f f a b:=⟨fun i h1 h2=>⟨i,h1,h2,rfl⟩,fun _ _=>rfl⟩
theorem Of.trans {f g h:Nat→Int} {a b:Nat} (h1:Of f g a b) (h2:Of g h a b):Of f h a b:=by
 refine⟨fun i q1 q2=>?_,fun i q=>(h2.2 i q).trans (h1.2 i q)⟩
 obtain⟨j,p1,p2,e⟩:=h2.1 i q1 q2
 obtain⟨k,r1,r2,e2⟩:=h1.1 j p1 p2
 exact⟨k,r1,r2,e.trans e2⟩
theorem Of.wide {f g:Nat→Int} {a b a' b':Nat} (h:Of f g a b) (h1:a'≤a) (h2:b≤b'):Of f g a' b':=by
 refine⟨fun i q1 q2=>?_,fun i q=>h.2 i (by omega)⟩
 by_cases hi:a≤i∧i < b
 ·obtain⟨j,p1,p2,e⟩:=h.1 i hi.1 hi.2
  exact⟨j,by omega,by omega,e⟩
 ·exact⟨i,q1,q2,h.2 i hi⟩
theorem Up.le {f:Nat→Int} {a b:Nat} (h:Up f a b) {i j:Nat} (h1:a≤i) (h2:i≤j) (h3:j < b):f i≤f j:=by
 rcases Nat.lt_or_ge i j with q | q
 ·exact Int.le_of_lt (h i j h1 q h3)
 ·obtain rfl:i=j:=by omega
  exact Int.le_refl _
theorem Up.part {f:Nat→Int} {a b a' b':Nat} (h:Up f a b) (h1:a≤a') (h2:b'≤b):Up f a' b':=fun i j q1 q2 q3=>h i j (by omega) q2 (by omega)
theorem Stb.part {f:Nat→Int} {a b a' b':Nat} (h:Stb f a b) (h1:a≤a') (h2:b'≤b):Stb f a' b':=fun i j q1 q2 q3=>h i j (by omega) q2 (by omega)
theorem Up.congr {f g:Nat→Int} {a b:Nat} (h:Up f a b) (e:∀ i,a≤i→i < b→g i=f i):Up g a b:=fun i j q1 q2 q3=>by rw [e i q1 (by omega),e j (by omega) q3]; exact h i j q1 q2 q3
theorem Stb.sorted {f g:Nat→Int} {a b n:Nat} (h:Stb f 0 n) (hb:b≤n) (hu:Up g a b) (ho:Of f g a b):Stb g 0 n:=by
 intro i j _ h2 h3
 by_cases qi:a≤i∧i < b
 ·by_cases qj:a≤j∧j < b
  ·exact .inl (hu i j qi.1 h2 qj.2)
  ·obtain⟨k,p1,p2,e⟩:=ho.1 i qi.1 qi.2
   rw[e,ho.2 j qj]
   exact h k j (Nat.zero_le _) (by omega) h3
 ·by_cases qj:a≤j∧j < b
  ·obtain⟨k,p1,p2,e⟩:=ho.1 j qj.1 qj.2
   rw[e,ho.2 i qi]
   exact h i k (Nat.zero_le _) (by omega) (by omega)
  ·rw[ho.2 i qi,ho.2 j qj]
   exact h i j (Nat.zero_le _) h2 h3
/-! The insertion of one element. -/
def Ins (g f:Nat→Int) (a j i:Nat):Prop:=a≤j∧j≤i∧(∀ x y,a≤x→x < y→y≤i→x≠j→y≠j→f x < f y)∧(∀ y,j < y→y≤i→f j < f y)∧f j=g i∧(∀ x,a≤x→x≤i→x≠j→∃ y,a≤y∧y < i∧f x=g y)∧∀ x,¬ (a≤x∧x≤i)→f x=g x
theorem ins_start {g:Nat→Int} {a i:Nat} (hai:a≤i) (h:Up g a i):Ins g g a i i:=
 ⟨hai,Nat.le_refl _,fun x y h1 h2 h3 _ h5=>h x y h1 h2 (by omega),fun y h1 h2=>by omega,rfl,fun x h1 h2 h3=>⟨x,h1,by omega,rfl⟩,fun _ _=>rfl⟩
theorem ins_step {g f:Nat→Int} {a j i:Nat} (hI:Ins g f a (j+1) i) (haj:a≤j) (hlt:f (j+1) < f j):Ins g (sw f (j+1) j) a j i:=by
 obtain⟨h1,h2,h3,h4,h5,h6,h7⟩:=hI
 have e0:sw f (j+1) j j=f (j+1):=by unfold sw; rw [if_neg (by omega),if_pos rfl]
 have e1:sw f (j+1) j (j+1)=f j:=by unfold sw; rw [if_pos rfl]
 have e2:∀ x,x≠j→x≠j+1→sw f (j+1) j x=f x:=fun x p q=>by unfold sw; rw [if_neg q,if_neg p]
 refine⟨haj,by omega,fun x y q1 q2 q3 q4 q5=>?_,fun y q1 q2=>?_,by rw [e0]; exact h5,fun x q1 q2 q3=>?_,fun x q=>?_⟩
 ·by_cases ex:x=j+1
  ·rw[ex,e1,e2 y q5 (by omega)]
   exact h3 j y haj (by omega) q3 (by omega) (by omega)
  ·by_cases ey:y=j+1
   ·rw[ey,e1,e2 x q4 ex]
    exact h3 x j q1 (by omega) (by omega) (by omega) (by omega)
   ·rw[e2 x q4 ex,e2 y q5 ey]
    exact h3 x y q1 q2 q3 ex ey
 ·rw[e0]
  by_cases ey:y=j+1
  ·rw[ey,e1]; exact hlt
  ·rw[e2 y (by omega) ey]
   exact h4 y (by omega) q2
 ·by_cases ex:x=j+1
  ·rw[ex,e1]
   exact h6 j haj (by omega) (by omega)
  ·rw[e2 x q3 ex]
   exact h6 x q1 q2 ex
 ·rw[e2 x (by omega) (by omega)]
  exact h7 x q
theorem ins_end {g f:Nat→Int} {a j i:Nat} (hI:Ins g f a j i) (hs:j=a∨f (j - 1) < f j):Up f a (i+1)∧Of g f a (i+1):=by
 obtain⟨h1,h2,h3,h4,h5,h6,h7⟩:=hI
 refine⟨fun x y q1 q2 q3=>?_,fun x q1 q2=>?_,fun x q=>h7 x (by omega)⟩
 ·by_cases ex:x=j
  ·rw[ex]; exact h4 y (by omega) (by omega)
  ·by_cases ey:y=j
   ·rw[ey]
    have hlt:f (j - 1) < f j:=by
     rcases hs with e | e
     ·omega
     ·exact e
    by_cases e:x=j - 1
    ·rw[e]; exact hlt
    ·exact Int.lt_trans (h3 x (j - 1) q1 (by omega) (by omega) ex (by omega)) hlt
   ·exact h3 x y q1 q2 (by omega) ex ey
 ·by_cases ex:x=j
  ·exact⟨i,by omega,by omega,by rw [ex]; exact h5⟩
  ·obtain⟨y,p1,p2,e⟩:=h6 x q1 (by omega) ex
   exact⟨y,p1,by omega,e⟩
theorem ins_wt {g f:Nat→Int} {a j i b:Nat} (hI:Ins g f a (j+1) i) (haj:a≤j) (hib:i < b) (hs:Stb g a b):(f (j+1) / 1024 < f j / 1024→f (j+1) < f j)∧(¬ f (j+1) / 1024 < f j / 1024→f j < f (j+1)):=by
 obtain⟨h1,h2,h3,h4,h5,h6,h7⟩:=hI
 obtain⟨y,p1,p2,e⟩:=h6 j haj (by omega) (by omega)
 have:=hs y i p1 p2 hib
 rw[h5,e]
 constructor
 ·intro q; omega
 ·intro q
  rcases this with q2 | q2
  ·exact q2
  ·exact absurd q2 q
/-! Elements moved past others. -/
def shl (f:Nat→Int) (a k:Nat):Nat→Int:=fun x=>if a≤x∧x < k then f (x+1) else if x=k then f a else f x
theorem shl_zero (f:Nat→Int) (a x:Nat):shl f a a x=f x:=by
 unfold shl
 by_cases h:x=a
 ·rw[if_neg (by omega),if_pos h,h]
 ·rw[if_neg (by omega),if_neg h]
theorem shl_step (f:Nat→Int) (a k x:Nat) (h:a≤k):sw (shl f a k) k (k+1) x=shl f a (k+1) x:=by
 unfold sw shl
 by_cases e:x=k
 ·subst e
  simp[h]
  omega
 ·by_cases e2:x=k+1
  ·subst e2; simp
  ·by_cases e3:a≤x∧x < k
   ·rw[if_neg e,if_neg e2,if_pos e3,if_pos (by omega)]
   ·rw[if_neg e,if_neg e2,if_neg e3,if_neg e,if_neg (by omega),if_neg e2]
def shr (f:Nat→Int) (m k:Nat):Nat→Int:=fun x=>if k < x∧x≤m then f (x - 1) else if x=k then f m else f x
theorem shr_zero (f:Nat→Int) (m x:Nat):shr f m m x=f x:=by
 unfold shr
 by_cases h:x=m
 ·rw[if_neg (by omega),if_pos h,h]
 ·rw[if_neg (by omega),if_neg h]
theorem shr_step (f:Nat→Int) (m k x:Nat) (h:k+1≤m):sw (shr f m (k+1)) (k+1) k x=shr f m k x:=by
 unfold sw shr
 by_cases e:x=k+1
 ·subst e
  simp[h]
  intro q
  omega
 ·by_cases e2:x=k
  ·subst e2; simp
  ·by_cases e3:k+1 < x∧x≤m
   ·rw[if_neg e,if_neg e2,if_pos e3,if_pos (by omega)]
   ·rw[if_neg e,if_neg e2,if_neg e3,if_neg e,if_neg (by omega),if_neg e2]
theorem shl_up {f:Nat→Int} {a b i:Nat} (hu:Up f (a+1) b) (hi:a+1≤i) (hib:i≤b) (hlo:∀ x,a+1≤x→x < i→f x < f a) (hhi:∀ x,i≤x→x < b→f a < f x):Up (shl f a (i - 1)) a b∧Of f (shl f a (i - 1)) a b:=by
 have e0:∀ x,a≤x→x < i - 1→shl f a (i - 1) x=f (x+1):=fun x p q=>by unfold shl; rw [if_pos ⟨p,q⟩]
 have e1:shl f a (i - 1) (i - 1)=f a:=by unfold shl; rw [if_neg (by omega),if_pos rfl]
 have e2:∀ x,¬ (a≤x∧x≤i - 1)→shl f a (i - 1) x=f x:=fun x q=>by unfold shl; rw [if_neg (by omega),if_neg (by omega)]
 refine⟨fun x y q1 q2 q3=>?_,fun x q1 q2=>?_,fun x q=>e2 x (by omega)⟩
 ·by_cases h1:x < i - 1
  ·rw[e0 x q1 h1]
   by_cases h2:y < i - 1
   ·rw[e0 y (by omega) h2]; exact hu _ _ (by omega) (by omega) (by omega)
   ·by_cases h3:y=i - 1
    ·rw[h3,e1]; exact hlo _ (by omega) (by omega)
    ·rw[e2 y (by omega)]; exact hu _ _ (by omega) (by omega) q3
  ·by_cases h3:x=i - 1
   ·rw[h3,e1,e2 y (by omega)]; exact hhi _ (by omega) q3
   ·rw[e2 x (by omega),e2 y (by omega)]; exact hu _ _ (by omega) q2 q3
 ·by_cases h1:x < i - 1
  ·exact⟨x+1,by omega,by omega,e0 x q1 h1⟩
  ·by_cases h3:x=i - 1
   ·exact⟨a,by omega,by omega,by rw [h3]; exact e1⟩
   ·exact⟨x,q1,q2,e2 x (by omega)⟩
theorem shr_up {f:Nat→Int} {a m i:Nat} (hu:Up f a m) (hi:a≤i) (him:i≤m) (hlo:∀ x,a≤x→x < i→f x < f m) (hhi:∀ x,i≤x→x < m→f m < f x):Up (shr f m i) a (m+1)∧Of f (shr f m i) a (m+1):=by
 have e0:∀ x,i < x→x≤m→shr f m i x=f (x - 1):=fun x p q=>by unfold shr; rw [if_pos ⟨p,q⟩]
 have e1:shr f m i i=f m:=by unfold shr; rw [if_neg (by omega),if_pos rfl]
 have e2:∀ x,¬ (i≤x∧x≤m)→shr f m i x=f x:=fun x q=>by unfold shr; rw [if_neg (by omega),if_neg (by omega)]
 refine⟨fun x y q1 q2 q3=>?_,fun x q1 q2=>?_,fun x q=>e2 x (by omega)⟩
 ·by_cases h1:x < i
  ·rw[e2 x (by omega)]
   by_cases h2:y < i
   ·rw[e2 y (by omega)]; exact hu _ _ q1 q2 (by omega)
   ·by_cases h3:y=i
    ·rw[h3,e1]; exact hlo _ q1 h1
    ·rw[e0 y (by omega) (by omega)]; exact hu _ _ q1 (by omega) (by omega)
  ·by_cases h3:x=i
   ·rw[h3,e1,e0 y (by omega) (by omega)]; exact hhi _ (by omega) (by omega)
   ·rw[e0 x (by omega) (by omega),e0 y (by omega) (by omega)]; exact hu _ _ (by omega) (by omega) (by omega)
 ·by_cases h1:x < i
  ·exact⟨x,by omega,by omega,e2 x (by omega)⟩
  ·by_cases h3:x=i
   ·exact⟨m,by omega,by omega,by rw [h3]; exact e1⟩
   ·exact⟨x - 1,by omega,by omega,e0 x (by omega) (by omega)⟩
/-! Parts that change places. -/
def swr (f:Nat→Int) (p q n:Nat):Nat→Int:=fun x=>if p≤x∧x < p+n then f (x - p+q) else if q≤x∧x < q+n then f (x - q+p) else f x
theorem swr_zero (f:Nat→Int) (p q x:Nat):swr f p q 0 x=f x:=by unfold swr; rw [if_neg (by omega),if_neg (by omega)]
theorem swr_step (f:Nat→Int) (p q n x:Nat) (h:p+n < q):sw (swr f p q n) (p+n) (q+n) x=swr f p q (n+1) x:=by
 have e1:swr f p q n (q+n)=f (q+n):=by unfold swr; rw [if_neg (by omega),if_neg (by omega)]
 have e2:swr f p q n (p+n)=f (p+n):=by unfold swr; rw [if_neg (by omega),if_neg (by omega)]
 unfold sw
 rw[e1,e2]
 by_cases h1:x=p+n
 ·rw[if_pos h1]; unfold swr; rw [if_pos (by omega)]; congr 1; omega
 ·rw[if_neg h1]
  by_cases h2:x=q+n
  ·rw[if_pos h2]; unfold swr; rw [if_neg (by omega),if_pos (by omega)]; congr 1; omega
  ·rw[if_neg h2]
   unfold swr
   by_cases h3:p≤x∧x < p+n
   ·rw[if_pos h3,if_pos (by omega)]
   ·rw[if_neg h3,if_neg (show ¬ (p≤x∧x < p+(n+1)) by omega)]
    by_cases h4:q≤x∧x < q+n
    ·rw[if_pos h4,if_pos (by omega)]
    ·rw[if_neg h4,if_neg (by omega)]
def rot (f:Nat→Int) (s m e:Nat):Nat→Int:=fun x=>if s≤x∧x < s+(e - m) then f (x+(m - s)) else if s+(e - m)≤x∧x < e then f (x - (e - m)) else f x
theorem rot_same (f:Nat→Int) (s m e x:Nat) (h:s=m∨m=e) (h1:s≤m) (h2:m≤e):rot f s m e x=f x:=by
 unfold rot
 by_cases p:s≤x∧x < s+(e - m)
 ·rw[if_pos p]; congr 1; omega
 ·rw[if_neg p]
  by_cases q:s+(e - m)≤x∧x < e
  ·rw[if_pos q]; congr 1; omega
  ·rw[if_neg q]
theorem rot_last (f:Nat→Int) (m i x:Nat) (h:i≤m):swr f (m - i) m i x=rot f (m - i) m (m+i) x:=by
 unfold swr rot
 by_cases p:m - i≤x∧x < m - i+i
 ·rw[if_pos p,if_pos (by omega)]; congr 1; omega
 ·rw[if_neg p,if_neg (show ¬ (m - i≤x∧x < m - i+(m+i - m)) by omega)]
  by_cases q:m≤x∧x < m+i
  ·rw[if_pos q,if_pos (by omega)]; congr 1; omega
  ·rw[if_neg q,if_neg (by omega)]
theorem rot_left (f:Nat→Int) (m i j x:Nat) (h:i≤m) (hj:j < i):rot (swr f (m - i) m j) (m - (i - j)) m (m+j) x=rot f (m - i) m (m+j) x:=by
 have w1:∀ y,m - i≤y→y < m - i+j→swr f (m - i) m j y=f (y+i):=fun y p q=>by unfold swr; rw [if_pos ⟨p,q⟩]; congr 1; omega
 have w2:∀ y,m≤y→y < m+j→swr f (m - i) m j y=f (y - i):=fun y p q=>by unfold swr; rw [if_neg (by omega),if_pos ⟨p,q⟩]; congr 1; omega
 have w3:∀ y,¬ (m - i≤y∧y < m - i+j)→¬ (m≤y∧y < m+j)→swr f (m - i) m j y=f y:=fun y p q=>by unfold swr; rw [if_neg p,if_neg q]
 unfold rot
 by_cases p:m - i≤x∧x < m - i+j
 ·rw[if_neg (by omega),if_neg (by omega),if_pos (by omega),w1 x p.1 p.2]; congr 1; omega
 ·rw[if_neg (show ¬ (m - i≤x∧x < m - i+(m+j - m)) by omega)]
  by_cases p2:m - (i - j)≤x∧x < m - (i - j)+(m+j - m)
  ·rw[if_pos p2,if_pos (by omega),w2 _ (by omega) (by omega)]; congr 1; omega
  ·rw[if_neg p2]
   by_cases p3:m - (i - j)+(m+j - m)≤x∧x < m+j
   ·rw[if_pos p3,if_pos (by omega),w3 _ (by omega) (by omega)]
   ·rw[if_neg p3,if_neg (by omega),w3 _ p (by omega)]
theorem rot_right (f:Nat→Int) (m i j x:Nat) (h:i≤m) (hj:i < j):rot (swr f (m - i) (m+j - i) i) (m - i) m (m+(j - i)) x=rot f (m - i) m (m+j) x:=by
 have w1:∀ y,m - i≤y→y < m→swr f (m - i) (m+j - i) i y=f (y+j):=fun y p q=>by unfold swr; rw [if_pos (by omega)]; congr 1; omega
 have w2:∀ y,m+j - i≤y→y < m+j→swr f (m - i) (m+j - i) i y=f (y - j):=fun y p q=>by unfold swr; rw [if_neg (by omega),if_pos (by omega)]; congr 1; omega
 have w3:∀ y,¬ (m - i≤y∧y < m)→¬ (m+j - i≤y∧y < m+j)→swr f (m - i) (m+j - i) i y=f y:=fun y p q=>by unfold swr; rw [if_neg (by omega),if_neg (by omega)]
 unfold rot
 by_cases p:m - i≤x∧x < m - i+(m+(j - i) - m)
 ·rw[if_pos p,if_pos (by omega)]
  by_cases e:x+(m - (m - i)) < m
  ·omega
  ·rw[w3 _ (by omega) (by omega)]
 ·rw[if_neg p]
  by_cases p2:m - i+(m+(j - i) - m)≤x∧x < m+(j - i)
  ·rw[if_pos p2,if_pos (by omega),w1 _ (by omega) (by omega)]; congr 1; omega
  ·rw[if_neg p2]
   by_cases p3:m+j - i≤x∧x < m+j
   ·rw[if_neg (by omega),if_pos (by omega),w2 x p3.1 p3.2]; congr 1; omega
   ·rw[if_neg (by omega),if_neg (by omega),w3 x (by omega) p3]
theorem up_unique {f g:Nat→Int} {n:Nat} (hf:Up f 0 n) (hg:Up g 0 n) (h:∀ i,i < n→∃ j,j < n∧f i=g j):∀ i,i < n→f i=g i:=by
 have lo:∀ i,i < n→∀ j,j < n→f i=g j→i≤j:=by
  intro i
  induction i with
  | zero=>intros; omega
  | succ i ih=>
   intro hi j hj e
   obtain⟨k,hk,e2⟩:=h i (by omega)
   have:=ih (by omega) k hk e2
   have hlt:=hf i (i+1) (by omega) (by omega) hi
   rcases Nat.lt_or_ge k j with q | q
   ·omega
   ·have:=Up.le hg (Nat.zero_le j) q hk
    omega
 have hi:∀ d i,i+d+1=n→∀ j,j < n→f i=g j→j≤i:=by
  intro d
  induction d with
  | zero=>intros; omega
  | succ d ih=>
   intro i hi j hj e
   obtain⟨k,hk,e2⟩:=h (i+1) (by omega)
   have:=ih (i+1) (by omega) k hk e2
   have hlt:=hf i (i+1) (by omega) (by omega) (by omega)
   rcases Nat.lt_or_ge j k with q | q
   ·omega
   ·have:=Up.le hg (Nat.zero_le k) q hj
    omega
 intro i hin
 obtain⟨j,hj,e⟩:=h i hin
 have h1:=lo i hin j hj e
 have h2:=hi (n - i - 1) i (by omega) j hj e
 rw[e,show j=i by omega]
end Go.Proofs.YtklpiihnbokkkaaGreatDoor.SortMath
namespace Go.Proofs.YtklpiihnbokkkaaGreatDoor.SortMath
theorem sym_parts {f:Nat→Int} {a m b mid s e:Nat} (ham:a < m) (hmb:m < b) (h1:mid≤b) (hst:Stb f a b) (hu1:Up f a m) (hu2:Up f m b) (hs:a≤s) (hsm:s≤m) (hsd:s≤mid) (he:e+s=mid+m) (heb:e≤b)
  (hL:s=a∨e=b∨f (s - 1) < f e) (hR:s=m∨s=mid∨f (e - 1) < f s):
  Up (rot f s m e) a s∧Up (rot f s m e) s mid∧Up (rot f s m e) mid e∧Up (rot f s m e) e b∧Stb (rot f s m e) a mid∧Stb (rot f s m e) mid b∧(∀ x y,a≤x→x < mid→mid≤y→y < b→rot f s m e x < rot f s m e y)∧Of f (rot f s m e) a b:=by
 have g1:∀ x,x < s→rot f s m e x=f x:=fun x h=>by unfold rot; rw [if_neg (by omega),if_neg (by omega)]
 have g2:∀ x,s≤x→x < mid→rot f s m e x=f (x+(m - s)):=fun x h h'=>by unfold rot; rw [if_pos (by omega)]
 have g3:∀ x,mid≤x→x < e→rot f s m e x=f (x - (e - m)):=fun x h h'=>by unfold rot; rw [if_neg (by omega),if_pos (by omega)]
 have g4:∀ x,e≤x→rot f s m e x=f x:=fun x h=>by unfold rot; rw [if_neg (by omega),if_neg (by omega)]
 refine⟨?_,?_,?_,?_,?_,?_,?_,?_,?_⟩
 ·intro x y q1 q2 q3
  rw[g1 x (by omega),g1 y q3]; exact hu1 x y q1 q2 (by omega)
 ·intro x y q1 q2 q3
  rw[g2 x q1 (by omega),g2 y (by omega) q3]; exact hu2 _ _ (by omega) (by omega) (by omega)
 ·intro x y q1 q2 q3
  rw[g3 x q1 (by omega),g3 y (by omega) q3]; exact hu1 _ _ (by omega) (by omega) (by omega)
 ·intro x y q1 q2 q3
  rw[g4 x q1,g4 y (by omega)]; exact hu2 _ _ (by omega) (by omega) (by omega)
 ·intro x y q1 q2 q3
  by_cases c1:y < s
  ·rw[g1 x (by omega),g1 y c1]; exact hst x y q1 q2 (by omega)
  ·rw[g2 y (by omega) q3]
   by_cases c2:x < s
   ·rw[g1 x c2]; exact hst _ _ q1 (by omega) (by omega)
   ·rw[g2 x (by omega) (by omega)]; exact hst _ _ (by omega) (by omega) (by omega)
 ·intro x y q1 q2 q3
  by_cases c1:y < e
  ·rw[g3 x q1 (by omega),g3 y (by omega) c1]; exact hst _ _ (by omega) (by omega) (by omega)
  ·rw[g4 y (by omega)]
   by_cases c2:x < e
   ·rw[g3 x q1 c2]; exact hst _ _ (by omega) (by omega) q3
   ·rw[g4 x (by omega)]; exact hst _ _ (by omega) (by omega) q3
 ·intro x y q1 q2 q3 q4
  by_cases c1:x < s
  ·rw[g1 x c1]
   by_cases c2:y < e
   ·rw[g3 y q3 c2]; exact hu1 _ _ q1 (by omega) (by omega)
   ·rw[g4 y (by omega)]
    rcases hL with k | k | k
    ·omega
    ·omega
    ·have k1:=Up.le hu1 q1 (show x≤s - 1 by omega) (by omega)
     have k2:=Up.le hu2 (show m≤e by omega) (show e≤y by omega) q4
     omega
  ·rw[g2 x (by omega) q2]
   by_cases c2:y < e
   ·rw[g3 y q3 c2]
    rcases hR with k | k | k
    ·omega
    ·omega
    ·have k1:=Up.le hu2 (show m≤x+(m - s) by omega) (show x+(m - s)≤e - 1 by omega) (by omega)
     have k2:=Up.le hu1 hs (show s≤y - (e - m) by omega) (by omega)
     omega
   ·rw[g4 y (by omega)]; exact hu2 _ _ (by omega) (by omega) q4
 ·intro x q1 q2
  by_cases c1:x < s
  ·exact⟨x,q1,q2,g1 x c1⟩
  ·by_cases c2:x < mid
   ·exact⟨_,by omega,by omega,g2 x (by omega) c2⟩
   ·by_cases c3:x < e
    ·exact⟨_,by omega,by omega,g3 x (by omega) c3⟩
    ·exact⟨x,q1,q2,g4 x (by omega)⟩
 ·intro x q
  by_cases c1:x < s
  ·exact g1 x c1
  ·exact g4 x (by omega)
theorem up_two {f:Nat→Int} {a s b:Nat} (h1:Up f a s) (h2:Up f s b) (h:s=a∨s=b):Up f a b:=by
 rcases h with rfl | rfl
 ·exact h2
 ·exact h1
theorem sym_done {f g g1 g2:Nat→Int} {a mid b:Nat} (h0:a≤mid) (h1:mid≤b) (hx:∀ x y,a≤x→x < mid→mid≤y→y < b→g x < g y) (ho:Of f g a b) (o1:Of g g1 a mid) (u1:Up g1 a mid) (o2:Of g1 g2 mid b) (u2:Up g2 mid b):Up g2 a b∧Of f g2 a b:=by
 refine⟨fun x y q1 q2 q3=>?_,(ho.trans (o1.wide (Nat.le_refl _) h1)).trans (o2.wide h0 (Nat.le_refl _))⟩
 by_cases c1:y < mid
 ·rw[o2.2 x (by omega),o2.2 y (by omega)]; exact u1 x y q1 q2 c1
 ·by_cases c2:x < mid
  ·rw[o2.2 x (by omega)]
   obtain⟨x',p1,p2,e⟩:=o1.1 x q1 c2
   obtain⟨y',r1,r2,e2⟩:=o2.1 y (by omega) q3
   rw[e,e2,o1.2 y' (by omega)]
   exact hx x' y' p1 p2 r1 r2
  ·exact u2 x y (by omega) q2 q3
/-! Blocks. -/
def Bl (f:Nat→Int) (bs lo hi:Nat):Prop:=∀ q x y,q * bs≤x→x < y→y < q * bs+bs→lo≤x→y < hi→f x < f y
theorem bl_none (f:Nat→Int) (bs:Nat):Bl f bs 0 0:=fun q x y _ _ _ _ h=>by omega
theorem bl_next {f g:Nat→Int} {bs t b:Nat} (h:Bl f bs 0 (t * bs)) (hu:Up g (t * bs) b) (ho:Of f g (t * bs) b):Bl g bs 0 b:=by
 intro q x y h1 h2 h3 _ h5
 by_cases c:x < t * bs
 ·have hq:q < t:=by
   rcases Nat.lt_or_ge q t with k | k
   ·exact k
   ·have:=Nat.mul_le_mul_right bs k
    omega
  have:=Nat.mul_le_mul_right bs (show q+1≤t from hq)
  rw[Nat.succ_mul] at this
  rw[ho.2 x (by omega),ho.2 y (by omega)]
  exact h q x y h1 h2 h3 (Nat.zero_le _) (by omega)
 ·exact hu x y (by omega) h2 h5
theorem bl_later {f g:Nat→Int} {bs a b n:Nat} (hab:a≤b) (h:Bl f bs a n) (ho:Of f g a b):Bl g bs b n:=by
 intro q x y h1 h2 h3 h4 h5
 rw[ho.2 x (by omega),ho.2 y (by omega)]
 exact h q x y h1 h2 h3 (by omega) h5
theorem bl_up {f:Nat→Int} {bs lo n q b:Nat} (h:Bl f bs lo n) (hlo:lo≤q * bs) (hb:b≤n) (hq:b≤q * bs+bs):Up f (q * bs) b:=fun x y h1 h2 h3=>h q x y h1 h2 (by omega) (by omega) (by omega)
theorem bl_whole {f:Nat→Int} {bs n:Nat} (h:Bl f bs 0 n) (hn:n≤bs):Up f 0 n:=fun x y _ h2 h3=>h 0 x y (by omega) h2 (by omega) (by omega) h3
theorem bl_start {f:Nat→Int} {bs n:Nat} (h:Bl f bs 0 n):Bl f (2 * bs) 0 0∧Bl f bs 0 n:=⟨fun q x y _ _ _ _ h=>by omega,h⟩
theorem bl_rest {f:Nat→Int} {bs t n:Nat} (hb:n≤t * (2 * bs)+bs) (h1:Bl f (2 * bs) 0 (t * (2 * bs))) (h2:Bl f bs (t * (2 * bs)) n):Bl f (2 * bs) 0 n:=by
 intro q x y p1 p2 p3 _ p5
 by_cases c:x < t * (2 * bs)
 ·have hq:q < t:=by
   rcases Nat.lt_or_ge q t with k | k
   ·exact k
   ·have:=Nat.mul_le_mul_right (2 * bs) k
    omega
  have:=Nat.mul_le_mul_right (2 * bs) (show q+1≤t from hq)
  rw[Nat.succ_mul] at this
  exact h1 q x y p1 p2 p3 (Nat.zero_le _) (by omega)
 ·have e:2 * t * bs=t * (2 * bs):=by rw [Nat.mul_comm 2 t,Nat.mul_assoc]
  exact h2 (2 * t) x y (by omega) p2 (by omega) (by omega) p5
theorem bl_half {f:Nat→Int} {bs t n b:Nat} (h:Bl f bs (t * (2 * bs)) n) (hb:b≤n) (hq:b≤t * (2 * bs)+2 * bs) (hm:t * (2 * bs)+bs≤n):Up f (t * (2 * bs)) (t * (2 * bs)+bs)∧Up f (t * (2 * bs)+bs) b:=by
 have e:2 * t * bs=t * (2 * bs):=by rw [Nat.mul_comm 2 t,Nat.mul_assoc]
 have e2:(2 * t+1) * bs=t * (2 * bs)+bs:=by rw [Nat.succ_mul,e]
 constructor
 ·have:=bl_up (q:=2 * t) (b:=t * (2 * bs)+bs) h (by omega) hm (by omega)
  rw[e] at this
  exact this
 ·have:=bl_up (q:=2 * t+1) (b:=b) h (by omega) hb (by omega)
  rw[e2] at this
  exact this
/-! Searches by halves. -/
end Go.Proofs.YtklpiihnbokkkaaGreatDoor.SortMath
