/-
  Texts of the proof, put together.
-/
import Derived.Test.YtklpiihnbokkkaaGreatDoorZk39
namespace Go.Proofs.YtklpiihnbokkkaaGreatDoor
section
open Go.RowKit Go.Joins OutMath CodeMath
theorem info_cell:(Tryz.prog.info? 3).map (fun i=>(i.zero,i.size,i.bytes))=some (some (.int .i64 0),1,8):=by kernel_rfl
theorem make_cells (w:World) (n:Nat) (hn:n≤1048576):(Instr.makeSlice 25 (.int .i64 n) (.int .i64 n)).run Tryz.prog w=.ok (.slice (some ⟨w.heap.size,0,none⟩) n n) (w.alloc (.cells (madeCells #[Value.int .i64 0] n) 3)):=by
 obtain⟨i0,hi0,hz0,hz1,hz2⟩:=info_parts info_cell
 have h:=run_make (P:=Tryz.prog) w 25 3 i0 (.int .i64 0) Tryz.underlying25 hi0 hz0 .i64 .i64 n n (by omega) (by omega) (by rw [hz2]; omega) (by omega)
 rw[hz1,Int.toNat_natCast,Nat.mul_one] at h
 exact h
theorem specCodes_bad (a:Option Addr) (n cap:Nat) (f:Nat→Int) (w:World) (hC:Came w a n f) (hn:n≤1048576) (hB:¬ Coded f n):
  Calls Tryz.prog 107 #[.slice a n cap] w fun e w'=>e=.returned (.tuple #[.slice (some ⟨w.heap.size,0,none⟩) 0 0,.bool false])∧w.heap.size < w'.heap.size∧Below w.heap.size w w':=by
 have HC:Hid (Came w a n f):=hC
 have HB:Hid (¬ Coded f n):=hB
 clear hC hB
 go_enter Tryz.func107,Tryz.ntmps107
 go_wp2_with fail
 refine (specKind a n cap f w HC.out hn).mono ?_
 rintro e w1 ⟨k,rfl,hk,hw⟩
 obtain rfl:w=w1:=hw.symm
 rcases kind_bad hk HB.out with rfl | rfl
 ·clear hk
  go_wp2_with fail
  go_ret2
  exact⟨rfl,by simp,bstart _ _⟩
 ·clear hk
  go_wp2_with fail
  go_ret2
  exact⟨rfl,by simp,bstart _ _⟩
def CodesSt (w w':World) (f:Nat→Int) (n:Nat) (t:Int) (i:Nat):Prop:=IOwn w' w.heap.size w.heap.size n n (outAt f n t i)∧Below w.heap.size w w'
set_option maxRecDepth 100000 in
set_option maxHeartbeats 1600000 in
theorem specCodes_good (a:Option Addr) (n cap:Nat) (f:Nat→Int) (w:World) (hC:Came w a n f) (hG:Coded f n):
  Calls Tryz.prog 107 #[.slice a n cap] w fun e w'=>e=.returned (.tuple #[.slice (some ⟨w.heap.size,0,none⟩) n n,.bool true])∧IOwn w' w.heap.size w.heap.size n n (codeOf f n)∧Below w.heap.size w w':=by
 have HC:Hid (Came w a n f):=hC
 have HG:Hid (Coded f n):=hG
 have hm:=hG.1
 clear hC hG
 have hmk:=make_cells w n (by omega)
 have HS:Hid (CodesSt w (w.alloc (.cells (madeCells #[Value.int .i64 0] n) 3)) f n 1 0):=⟨(IOwn.made (base:=w.heap.size) w n (by unfold maxLen; omega) (Nat.le_refl _)).congr (fun i _=>(outAt_start f n i).symm),bstart _ _⟩
 generalize w.alloc (.cells (madeCells #[Value.int .i64 0] n) 3)=w0 at hmk HS
 go_enter Tryz.func107,Tryz.ntmps107
 go_wp2_with fail
 refine (specKind a n cap f w HC.out (by omega)).mono ?_
 rintro e w1 ⟨k,rfl,hk,hw⟩
 obtain rfl:w=w1:=hw.symm
 obtain⟨k0,k5⟩:=kind_good hk HG.out
 have d0:(k == 0)=false:=by simpa using k0
 have d5:(k == 5)=false:=by simpa using k5
 clear hk k0 k5 hw
 go_wp2_with fail
 go_loopw [6,7] (fun x i w'=>∃ t:Nat,1≤t∧t≤16∧i=.int .i64 t∧x=.int .i64 (nx f n (t - 1))∧Hid (CodesSt w w' f n t 0)) (fun _ i _=>16 - (intOf i).toNat)
 case atStart=>exact⟨1,by omega,by omega,rfl,rfl,HS⟩
 case round=>
  obtain⟨t,ht1,ht2,rfl,rfl,hS⟩:=hrel
  have hx:=nx_lt f n hm (t - 1) (by omega)
  by_cases hlt:t≤15
  ·go_wp2_with fail
   go_loopw [6,8] (fun x i w'=>∃ j:Nat,j≤n∧i=.int .i64 j∧x=.int .i64 (2 * nx f n (t - 1)+cntS f (t:Int) j)∧Hid (CodesSt w w' f n t j)) (fun _ i _=>n - (intOf i).toNat)
   case atStart=>exact⟨0,by omega,rfl,by simp [cntS],hS⟩
   case round=>
    obtain⟨j,hj,rfl,rfl,hSj⟩:=hrel
    have hcb:=cntS_bd f (t:Int) j
    by_cases hlt2:j < n
    ·rcases HC.out with h0 | ⟨g,off,rfl,hg,hc⟩
     ·omega
     ·have c0:wr.cell? ⟨g,off+j,none⟩=some (.int .i64 (f j)):=(hSj.out.2.cell (p:=⟨g,off+j,none⟩) hg).trans (hc j hlt2)
      have hl2:g < wr.heap.size:=Nat.lt_of_lt_of_le hg hSj.out.2.size
      clear hc
      by_cases he:f j=(t:Int)
      ·have d:(f j == (t:Int))=true:=by simpa using he
       have HR:Hid (2 * nx f n (t - 1)+cntS f (t:Int) (j+1)=2 * nx f n (t - 1)+cntS f (t:Int) j+1):=by
        show 2 * nx f n (t - 1)+(cntS f (t:Int) j+(if f j=(t:Int) then 1 else 0))=_
        rw[if_pos he]; omega
       have c1:=hSj.out.1.cell j hlt2
       have f1:=hSj.out.1.free j hlt2
       have hl:=hSj.out.1.lt
       have HS1:Hid (CodesSt w (wr.setCell ⟨w.heap.size,j,none⟩ (.int .i64 (2 * nx f n (t - 1)+cntS f (t:Int) j))) f n t (j+1)):=by
        refine⟨(hSj.out.1.set j hlt2 _).congr (fun i _=>?_),Below.setCell (p:=⟨w.heap.size,j,none⟩) hSj.out.2 (Nat.le_refl _) _⟩
        exact outAt_here f n t j ht1 he i
       clear he
       go_wp2_with fail
       go_roundw
       case rel=>exact⟨j+1,by omega,by go_num,by rw [HR.out],HS1⟩
       case measure=>simp [intOf]; omega
      ·have d:(f j == (t:Int))=false:=by simpa using he
       have HR:Hid (2 * nx f n (t - 1)+cntS f (t:Int) (j+1)=2 * nx f n (t - 1)+cntS f (t:Int) j):=by
        show 2 * nx f n (t - 1)+(cntS f (t:Int) j+(if f j=(t:Int) then 1 else 0))=_
        rw[if_neg he]; omega
       have HS1:Hid (CodesSt w wr f n t (j+1)):=⟨hSj.out.1.congr (fun i _=>outAt_skip f n t j he i),hSj.out.2⟩
       clear he
       go_wp2_with fail
       go_roundw
       case rel=>exact⟨j+1,by omega,by go_num,by rw [HR.out],HS1⟩
       case measure=>simp [intOf]; omega
    ·obtain rfl:j=n:=by omega
     have HR:Hid (nx f j (t+1 - 1)=2 * nx f j (t - 1)+cntS f (t:Int) j):=by
      rw[nx_step f j t ht1,Nat.add_sub_cancel]
      exact rfl
     have HS1:Hid (CodesSt w wr f j ((t+1:Nat):Int) 0):=⟨hSj.out.1.congr (fun i hi=>outAt_turn f j t i hi),hSj.out.2⟩
     go_wp2_with fail
     go_roundw
     case rel=>exact⟨t+1,by omega,by omega,by go_num,by rw [HR.out],HS1⟩
     case measure=>simp [intOf]; omega
  ·obtain rfl:t=16:=by omega
   go_wp2_with fail
   go_ret2
   exact⟨rfl,hS.out.1.congr (fun i hi=>outAt_end f n i (HG.out.2.1 i hi).2),hS.out.2⟩
end
section
open Go.RowKit Go.Joins TokMath StepMath CodeMath TokLenMath TellMath PartMath BodyMath
theorem info_piece:(Tryz.prog.info? 154).map (fun i=>(i.zero,i.size,i.bytes))=some (some (.agg #[.int .i64 0,.int .i64 0,.bool false]),3,24):=by kernel_rfl
structure BdMem (w:World) (a1 a2 o1 o2:Option Addr) (f1:Nat→Int) (n1:Nat) (f2:Nat→Int) (n2 m2:Nat):Prop where
 l1:Came w a1 n1 f1
 l2:Came w a2 n2 f2
 k1:Came w o1 n1 (codeOf f1 n1)
 k2:Came w o2 m2 (codeOf f2 n2)
theorem BdMem.called {w w':World} {a1 a2 o1 o2:Option Addr} {f1:Nat→Int} {n1:Nat} {f2:Nat→Int} {n2 m2:Nat} (h:BdMem w a1 a2 o1 o2 f1 n1 f2 n2 m2) (hb:Below w.heap.size w w'):BdMem w' a1 a2 o1 o2 f1 n1 f2 n2 m2:=
 ⟨h.l1.called hb,h.l2.called hb,h.k1.called hb,h.k2.called hb⟩
theorem came_at {w:World} {a:Option Addr} {n:Nat} {f:Nat→Int} (h:Came w a n f) {i:Nat} (hi:i < n):∃ g off,a=some ⟨g,off,none⟩∧g < w.heap.size∧w.cell? ⟨g,off+i,none⟩=some (.int .i64 (f i)):=by
 rcases h with h | ⟨g,off,ha,hg,hc⟩
 ·omega
 ·exact⟨g,off,ha,hg,hc i hi⟩
def BySt (w2 w':World) (g n cp:Nat) (P:List Part):Prop:=n=P.length∧w'.ownsRow w2.heap.size 154 3 (.slice (some ⟨g,0,none⟩) n cp) P.length (pcells P)∧Below w2.heap.size w2 w'
theorem BySt.own {w2 w':World} {g n cp:Nat} {P:List Part} (h:BySt w2 w' g n cp P):w'.ownsRow w2.heap.size 154 3 (.slice (some ⟨g,0,none⟩) n cp) P.length (pcells P):=h.2.1
theorem BySt.next {w2 wr X w3:World} {g n cp m g' cap':Nat} {P R:List Part} (h:BySt w2 wr g n cp P) (hR:R.length=m) (bX:Below wr.heap.size wr X) (y1:w3.ownsRow w2.heap.size 154 3 (.slice (some ⟨g',0,none⟩) (n+m) cap') (n+m) (pcells (P ++ R))) (y2:X.grownBy w3 (some g)):BySt w2 w3 g' (n+m) cap' (P ++ R):=by
 have hl:(P ++ R).length=n+m:=by rw [List.length_append,← h.1,hR]
 have hg:=(h.2.1.lt g rfl).1
 have hs:=bX.size
 have hB:Below w2.heap.size w2 w3:=(h.2.2.trans (bX.mono h.2.2.size)).grown y2 (by have:=h.2.2.size; omega) (fun q hq=>by cases hq; exact hg)
 exact⟨hl.symm,by rw [hl]; exact y1,hB⟩
theorem far_cell {wr X w3:World} {g b i:Nat} {v:Value} (bX:Below wr.heap.size wr X) (y2:X.grownBy w3 (some g)) (hb:b < wr.heap.size) (hne:b≠g) (hc:wr.cell? ⟨b,i,none⟩=some v):w3.cell? ⟨b,i,none⟩=some v:=
 (y2.cell_far ⟨b,i,none⟩ (Nat.lt_of_lt_of_le hb bX.size) (fun e=>hne (Option.some.inj e))).trans ((bX.cell (p:=⟨b,i,none⟩) hb).trans hc)
set_option maxRecDepth 100000 in
set_option maxHeartbeats 6400000 in
theorem specBody (a a1 a2:Option Addr) (c k1 k2:Nat) (f1 f2:Nat→Int) (n1 n2:Nat) (L:List Tok) (w:World) (hC:TCame w a L.length (fun j=>L.getD j (0,0,0))) (h1:Came w a1 n1 f1) (h2:Came w a2 n2 f2) (hL:L.length≤12000) (hOk:BodyOk f1 n1 f2 n2 L):
  Calls Tryz.prog 70 #[.slice a L.length c,.slice a1 n1 k1,.slice a2 n2 k2] w fun e w'=>∃ v,e=.returned v∧w'.ownsRow w.heap.size 154 3 v (bodyP f1 n1 f2 n2 L).length (pcells (bodyP f1 n1 f2 n2 L))∧Below w.heap.size w w':=by
 have HC:=hid_of hC
 have HOK:=hid_of hOk
 have H1:=hid_of h1
 have H2:=hid_of h2
 have hn1:=hOk.c1.1
 have hn2:=hOk.m2
 have hsc:=specCodes_good a1 n1 k1 f1 w h1 hOk.c1
 clear hC hOk h1 h2
 go_enter Tryz.func70,Tryz.ntmps70
 go_wp2_with fail
 refine hsc.mono ?_
 rintro e w1 ⟨rfl,o1,hB1⟩
 clear hsc
 have hsc2:Calls Tryz.prog 107 #[.slice a2 n2 k2] w1 fun e w'=>∃ m2 b2,e=.returned (.tuple #[.slice (some ⟨w1.heap.size,0,none⟩) m2 m2,.bool b2])∧Came w' (some ⟨w1.heap.size,0,none⟩) m2 (codeOf f2 n2)∧(Coded f2 n2→m2=n2)∧m2≤288∧Below w1.heap.size w1 w':=by
  by_cases hc2:Coded f2 n2
  ·refine (specCodes_good a2 n2 k2 f2 w1 (H2.out.called hB1) hc2).mono ?_
   rintro e w' ⟨rfl,o2,hB2⟩
   exact⟨n2,true,rfl,o2.sl.came,fun _=>rfl,hn2,hB2⟩
  ·refine (specCodes_bad a2 n2 k2 f2 w1 (H2.out.called hB1) (by omega) hc2).mono ?_
   rintro e w' ⟨rfl,_,hB2⟩
   exact⟨0,false,rfl,.inl rfl,fun h=>absurd h hc2,by omega,hB2⟩
 have HM1:Hid (Came w1 (some ⟨w.heap.size,0,none⟩) n1 (codeOf f1 n1)):=o1.sl.came
 have HB1:=hid_of hB1
 clear o1 hB1
 go_wp2_with fail
 refine hsc2.mono ?_
 rintro e w2 ⟨m2,b2,rfl,hk2,hm2,hm288,hB2⟩
 clear hsc2
 have HMM:Hid (BdMem w2 a1 a2 (some ⟨w.heap.size,0,none⟩) (some ⟨w1.heap.size,0,none⟩) f1 n1 f2 n2 m2):=⟨H1.out.called (bnext HB1.out hB2),H2.out.called (bnext HB1.out hB2),HM1.out.called hB2,hk2⟩
 have HB2:=hid_of (bnext HB1.out hB2)
 have HM2:=hid_of hm2
 clear hk2 hm2 hB2 HM1 HB1 H1 H2
 generalize w1.heap.size=G1 at HMM ⊢
 go_wp2_with fail
 have H0:Hid (BySt w2 (w2.alloc (.cells #[] 154)) w2.heap.size 0 0 []):=⟨rfl,⟨rfl,.inr ⟨w2.heap.size,0,#[],rfl,Nat.le_refl _,heap_alloc_new w2 _,Nat.le_refl _,Nat.zero_le _,rfl,rfl⟩⟩,bstart _ _⟩
 have HCC:Hid (∀ W,Below w2.heap.size w2 W→TCame W a L.length (fun j=>L.getD j (0,0,0))∧BdMem W a1 a2 (some ⟨w.heap.size,0,none⟩) (some ⟨G1,0,none⟩) f1 n1 f2 n2 m2∧Below w.heap.size w W):=fun W h=>⟨HC.out.called (bnext HB2.out h),HMM.out.called h,bnext HB2.out h⟩
 clear HMM HC
 have hw2:w.heap.size≤w2.heap.size:=HB2.out.size
 clear HB2
 go_loopg [11,12] (L.length+1) (fun gk v i w'=>∃ (j g n cp:Nat),j≤L.length∧L.length - j≤gk∧i=.int .i64 j∧v=.slice (some ⟨g,0,none⟩) n cp∧Hid (BySt w2 w' g n cp (toksP f1 n1 f2 n2 (L.take j))))
 case atStart=>exact⟨0,w2.heap.size,0,0,Nat.zero_le _,by omega,rfl,rfl,H0⟩
 case round=>
  clear H0
  obtain⟨j,g,n,cp,hj,hgk,rfl,rfl,hS⟩:=hrel
  obtain⟨hT,hM,hBw⟩:=HCC.out wr hS.out.2.2
  by_cases hlt:j < L.length
  ·have dl:decide ((j:Int) < (L.length:Int))=true:=decide_eq_true (by omega)
   rcases hT with q | ⟨tg,off,rfl,htg,hc⟩
   ·omega
   obtain⟨c0,c1,c2⟩:=hc j hlt
   simp only [] at c0 c1 c2
   have hmem:L.getD j (0,0,0)∈L:=by rw [List.getD_eq_getElem?_getD,List.getElem?_eq_getElem hlt]; exact List.getElem_mem hlt
   have hR:=HOK.out.right _ hmem
   have hs1:=HOK.out.s1 _ hmem
   have hs2:=HOK.out.s2 _ hmem
   have hlen:=toksP_length (f1:=f1) (n1:=n1) (f2:=f2) (n2:=n2) (L.take j)
   rw[List.length_take] at hlen
   have HSN:=hid_of (toksP_snoc (f1:=f1) (n1:=n1) (f2:=f2) (n2:=n2) hlt)
   have HLEN:=hid_of hlen
   obtain⟨⟨x,y,z⟩,hr⟩:∃ r,r=L.getD j (0,0,0):=⟨_,rfl⟩
   rw[← hr] at c0 c1 c2 hR hs1 hs2 HSN
   clear hc hr hmem hlen
   have HM:=hid_of hM
   clear hM
   by_cases hy:y=0
   ·subst hy
    unfold TokRight at hR
    rw[if_pos rfl] at hR
    obtain⟨⟨hx0,hx1⟩,hz⟩:=hR
    simp only [] at hx0 hx1 hz
    subst hz
    rw[sym1_byte] at hs1
    obtain⟨xn,rfl⟩:=Int.eq_ofNat_of_zero_le hx0
    rw[Int.toNat_natCast] at hs1
    have hf15:=HOK.out.c1.2.1 xn hs1
    obtain⟨g1,off1,ha1,hg1,k1⟩:=came_at HM.out.l1 hs1
    subst ha1
    obtain⟨g3,off3,ha3,hg3,k3⟩:=came_at HM.out.k1 hs1
    cases ha3
    rw[Nat.zero_add] at k3
    have HTK:Hid (tokP f1 n1 f2 n2 ((xn:Int),0,0)=[(codeOf f1 n1 xn,(f1 xn).toNat,true)]):=rfl
    obtain⟨fl,hfl⟩:=Int.eq_ofNat_of_zero_le hf15.1
    rw[hfl] at k1
    have HFL:=hid_of hfl
    obtain⟨V,hV⟩:∃ V,V=codeOf f1 n1 xn:=⟨_,rfl⟩
    rw[← hV] at k3
    have HV:=hid_of hV
    clear hV hfl hs2 hf15
    go_wp2_with fail
    go_region_law (refine step_parts Tryz.underlying110 info_piece _ rfl (.tmp 48) (.tmp 58) rfl w2.heap.size (.slice (some ⟨g,0,none⟩) n cp) (toksP f1 n1 f2 n2 (L.take j)) [(V,fl,true)] (by simp [Act.eval]) (by exact World.ownsRow.alloc hS.out.own _) ⟨wr.heap.size,0,none⟩ 1 1 (by simp [Act.eval]) rfl (by omega) (by exact news_part wr _ _ _ _ _ rfl) (by have:=HLEN.out; simp only [List.length_singleton]; omega) (by exact Nat.le_trans hS.out.2.2.size (by simp)) _ rfl (n+1) (by rw [List.length_append,hS.out.1]; rfl) ?_; intro g' cap' w3 y1 y2 y3 y4)
    all_goals
     have HN:Hid (BySt w2 w3 g' (n+1) cap' (toksP f1 n1 f2 n2 (L.take (j+1)))):=by
      have e:toksP f1 n1 f2 n2 (L.take (j+1))=toksP f1 n1 f2 n2 (L.take j) ++ [(V,fl,true)]:=by rw [HSN.out,HTK.out,HV.out,HFL.out]; rfl
      rw[e]
      exact hS.out.next rfl (by first | exact bstart _ _ | exact (bstart _ _).drew) y1 y2
     clear y1 y2 y3 y4 hS
     go_wp2_with fail
     go_roundg (L.length - (j+1))
     case measure=>omega
     case rel=>exact⟨j+1,g',n+1,cap',by omega,Nat.le_refl _,by go_num,rfl,HN⟩
   ·have dy:(y == 0)=false:=by simpa using hy
    unfold TokRight at hR
    rw[if_neg hy] at hR
    obtain⟨hx,hy2,hz2⟩:=hR
    simp only [] at hx hy2 hz2
    subst hx
    rw[sym1_rep hy] at hs1
    obtain⟨hc2,hs2⟩:=hs2 hy
    obtain rfl:m2=n2:=HM2.out hc2
    unfold sym2 at hs2
    simp only [] at hs2
    have ra:=len_range hy2
    have rb:=dist_range hz2
    have sa:=lenCode_small hy2
    have sb:=distCode_small hz2
    have hl:=fun W=>specLenCode y W
    have hd:=fun W=>specDistCode z W
    have htk:tokP f1 n1 f2 m2 (0,y,z)=[codeP f1 n1 (LengthCodeOf y).1.toNat,((LengthCodeOf y).2.2,(LengthCodeOf y).2.1.toNat,false),codeP f2 m2 (DistCodeOf z).1.toNat,((DistCodeOf z).2.2,(DistCodeOf z).2.1.toNat,false)]:=if_neg hy
    obtain⟨⟨l1,l2,l3⟩,hlc⟩:∃ r,r=LengthCodeOf y:=⟨_,rfl⟩
    obtain⟨⟨d1,d2,d3⟩,hdc⟩:∃ r,r=DistCodeOf z:=⟨_,rfl⟩
    rw[← hlc] at hl hs1 ra sa htk
    rw[← hdc] at hd hs2 rb sb htk
    clear hlc hdc
    simp only [] at hl hs1 ra sa hd hs2 rb sb htk
    obtain⟨an,rfl⟩:=Int.eq_ofNat_of_zero_le (show 0≤l1 by omega)
    obtain⟨bn,rfl⟩:=Int.eq_ofNat_of_zero_le (show 0≤d1 by omega)
    obtain⟨lb,rfl⟩:=Int.eq_ofNat_of_zero_le (show 0≤l2 by omega)
    obtain⟨db,rfl⟩:=Int.eq_ofNat_of_zero_le (show 0≤d2 by omega)
    simp only [Int.toNat_natCast] at hs1 hs2 htk
    have hf15:=HOK.out.c1.2.1 an hs1
    have hg15:=hc2.2.1 bn hs2
    obtain⟨g1,off1,ha1,hg1,k1⟩:=came_at HM.out.l1 hs1
    subst ha1
    obtain⟨g3,off3,ha3,hg3,k3⟩:=came_at HM.out.k1 hs1
    cases ha3
    obtain⟨g2,off2,ha2,hg2,k2⟩:=came_at HM.out.l2 hs2
    subst ha2
    obtain⟨g4,off4,ha4,hg4,k4⟩:=came_at HM.out.k2 hs2
    cases ha4
    rw[Nat.zero_add] at k3 k4
    obtain⟨fl,hfl⟩:=Int.eq_ofNat_of_zero_le hf15.1
    obtain⟨gl,hgl⟩:=Int.eq_ofNat_of_zero_le hg15.1
    have hge:g1≠g∧g2≠g∧w.heap.size≠g∧G1≠g:=by
     have hM0:=(HCC.out w2 (Below.refl _ _)).2.1
     have hgg:=(hS.out.own.lt g rfl).1
     obtain⟨u1,v1,e1,b1,_⟩:=came_at hM0.l1 hs1
     obtain⟨u2,v2,e2,b2,_⟩:=came_at hM0.l2 hs2
     obtain⟨u3,v3,e3,b3,_⟩:=came_at hM0.k1 hs1
     obtain⟨u4,v4,e4,b4,_⟩:=came_at hM0.k2 hs2
     cases e1
     cases e2
     cases e3
     cases e4
     omega
    have HTK:Hid (tokP f1 n1 f2 m2 (0,y,z)=[(codeOf f1 n1 an,fl,true),(l3,lb,false),(codeOf f2 m2 bn,gl,true),(d3,db,false)]):=by
     show _=_
     rw[htk]
     unfold codeP
     rw[hfl,hgl]
     rfl
    rw[hfl] at k1
    rw[hgl] at k2
    generalize codeOf f1 n1 an=V at k3 HTK
    generalize codeOf f2 m2 bn=U at k4 HTK
    clear hfl hgl htk hf15 hg15 sa sb ra rb hc2
    go_wp2_with fail
    refine (hl _).mono ?_
    rintro e w4 ⟨rfl,rfl⟩
    go_wp2_with fail
    refine (hd _).mono ?_
    rintro e w5 ⟨rfl,rfl⟩
    clear hl hd
    go_wp2_with fail
    have ne1:=World.new_ne w5 ⟨g1,off1+an,none⟩ k1
    have ne2:=World.new_ne w5 ⟨g2,off2+bn,none⟩ k2
    have ne3:=World.new_ne w5 ⟨w.heap.size,an,none⟩ k3
    have ne4:=World.new_ne w5 ⟨G1,bn,none⟩ k4
    go_region_held_law (fun w'=>w'.cell? ⟨g1,off1+an,none⟩=some (.int .i64 (fl:Int))∧w'.cell? ⟨w.heap.size,an,none⟩=some (.int .i64 V)∧w'.cell? ⟨g2,off2+bn,none⟩=some (.int .i64 (gl:Int))∧w'.cell? ⟨G1,bn,none⟩=some (.int .i64 U)) (first | go_keep | (refine⟨?_,?_,?_,?_⟩ <;> first | assumption | go_keep | (simp [*]; done))) ((refine step_parts Tryz.underlying110 info_piece _ rfl (.tmp 80) (.tmp 105) rfl w2.heap.size (.slice (some ⟨g,0,none⟩) n cp) (toksP f1 n1 f2 m2 (L.take j)) [(V,fl,true),(l3,lb,false),(U,gl,true),(d3,db,false)] (by simp [Act.eval]) (by exact World.ownsRow.alloc hS.out.own _) ⟨w5.heap.size,0,none⟩ 4 4 (by simp [Act.eval]) rfl (by omega) (by exact news_parts w5 _ [(V,fl,true),(l3,lb,false),(U,gl,true),(d3,db,false)] _ rfl) (by have:=HLEN.out; simp only [List.length_cons,List.length_nil]; omega) (by exact Nat.le_trans hS.out.2.2.size (by simp)) _ rfl (n+4) (by rw [List.length_append,hS.out.1]; rfl) ?_; intro g' cap' w3 y1 y2 y3 y4; have q1:=far_cell (by first | exact bstart w5 _ | exact (bstart w5 _).drew) y2 hg1 hge.1 k1; have q2:=far_cell (by first | exact bstart w5 _ | exact (bstart w5 _).drew) y2 hg2 hge.2.1 k2; have q3:=far_cell (by first | exact bstart w5 _ | exact (bstart w5 _).drew) y2 hg3 hge.2.2.1 k3; have q4:=far_cell (by first | exact bstart w5 _ | exact (bstart w5 _).drew) y2 hg4 hge.2.2.2 k4))
    all_goals
     have HN:Hid (BySt w2 w3 g' (n+4) cap' (toksP f1 n1 f2 m2 (L.take (j+1)))):=by
      have e:toksP f1 n1 f2 m2 (L.take (j+1))=toksP f1 n1 f2 m2 (L.take j) ++ [(V,fl,true),(l3,lb,false),(U,gl,true),(d3,db,false)]:=by rw [HSN.out,HTK.out]
      rw[e]
      exact hS.out.next rfl (by first | exact bstart _ _ | exact (bstart _ _).drew) y1 y2
     clear y1 y2 y3 y4 hS
     go_wp2_with fail
     go_roundg (L.length - (j+1))
     case measure=>omega
     case rel=>exact⟨j+1,g',n+4,cap',by omega,Nat.le_refl _,by go_num,rfl,HN⟩
  ·obtain rfl:L.length=j:=by omega
   have dl:decide ((L.length:Int) < (L.length:Int))=false:=decide_eq_false (by omega)
   rw[List.take_length] at hS
   have hs1:=HOK.out.e1
   have b256:(256:Int) < (n1:Int):=by omega
   have hf15:=HOK.out.c1.2.1 256 hs1
   obtain⟨g1,off1,ha1,hg1,k1⟩:=came_at hM.l1 hs1
   subst ha1
   obtain⟨g3,off3,ha3,hg3,k3⟩:=came_at hM.k1 hs1
   cases ha3
   rw[Nat.zero_add] at k3
   obtain⟨fl,hfl⟩:=Int.eq_ofNat_of_zero_le hf15.1
   have hlen:=toksP_length (f1:=f1) (n1:=n1) (f2:=f2) (n2:=n2) L
   have HBP:Hid (bodyP f1 n1 f2 n2 L=toksP f1 n1 f2 n2 L ++ [(codeOf f1 n1 256,fl,true)]):=by
    show toksP f1 n1 f2 n2 L ++ [codeP f1 n1 256]=_
    unfold codeP
    rw[hfl]
    rfl
   rw[hfl] at k1
   generalize codeOf f1 n1 256=V at k3 HBP
   have HLEN:=hid_of hlen
   have HBw:=hid_of hBw
   clear hfl hlen hf15 hM hT hBw
   go_wp2_with fail
   go_region_law (refine step_parts Tryz.underlying110 info_piece _ rfl (.tmp 107) (.tmp 115) rfl w2.heap.size (.slice (some ⟨g,0,none⟩) n cp) (toksP f1 n1 f2 n2 L) [(V,fl,true)] (by simp [Act.eval]) (by exact World.ownsRow.alloc hS.out.own _) ⟨wr.heap.size,0,none⟩ 1 1 (by simp [Act.eval]) rfl (by omega) (by exact news_part wr _ _ _ _ _ rfl) (by have:=HLEN.out; simp only [List.length_singleton]; omega) (by exact Nat.le_trans hS.out.2.2.size (by simp)) _ rfl (n+1) (by rw [List.length_append,hS.out.1]; rfl) ?_; intro g' cap' w3 y1 y2 y3 y4)
   all_goals
    have HN:Hid (BySt w2 w3 g' (n+1) cap' (bodyP f1 n1 f2 n2 L)):=by
     rw[HBP.out]
     exact hS.out.next rfl (by first | exact bstart _ _ | exact (bstart _ _).drew) y1 y2
    clear y1 y2 y3 y4 hS
    go_wp2_with fail
    go_ret
    have hown:=HN.out.2.1
    refine⟨_,rfl,?_,(HCC.out _ HN.out.2.2).2.2⟩
    exact⟨hown.1,by
     rcases hown.2 with q | ⟨g5,cap5,cur5,e5,b5,h5⟩
     ·exact .inl q
     ·exact .inr ⟨g5,cap5,cur5,e5,Nat.le_trans hw2 b5,h5⟩⟩
end
end Go.Proofs.YtklpiihnbokkkaaGreatDoor
