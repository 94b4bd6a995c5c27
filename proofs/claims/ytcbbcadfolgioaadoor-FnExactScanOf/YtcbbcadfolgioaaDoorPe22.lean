/-
  Texts of the proof, put together.
-/
import Derived.Test.YtcbbcadfolgioaaDoorPe18
namespace Go.Proofs.YtcbbcadfolgioaaDoor
section
open Go.RowKit Go.Joins RastMath PassMath
theorem info_num14:(Tryd.prog.info? 3).map (fun i=>(i.zero,i.size,i.bytes))=some (some (.int .i64 0),1,8):=by kernel_rfl
theorem make_room (w:World) (n:Nat) (hn:n≤1048576):(Instr.makeSlice 24 (.int .i64 0) (.int .i64 n)).run Tryd.prog w=.ok (.slice (some ⟨w.heap.size,0,none⟩) 0 n) (w.alloc (.cells (madeCells #[Value.int .i64 0] n) 3)):=by
 obtain⟨i0,hi0,hz0,hz1,hz2⟩:=info_parts info_num14
 have h:=run_make (P:=Tryd.prog) w 24 3 i0 (.int .i64 0) Tryd.underlying24 hi0 hz0 .i64 .i64 0 n (by omega) (by omega) (by rw [hz2]; omega) (by omega)
 rw[hz1,Int.toNat_natCast,Nat.mul_one] at h
 exact h
theorem IOwn.room {base:Nat} (w:World) (n:Nat) (F:Nat→Int) (hn:n≤maxLen) (hb:base≤w.heap.size):IOwn (w.alloc (.cells (madeCells #[Value.int .i64 0] n) 3)) base w.heap.size 0 n F:=
 ⟨n,madeCells #[Value.int .i64 0] n,(0,0),rfl,hb,heap_alloc_new w _,.inl rfl,Nat.zero_le _,hn,by simp [madeCells],rfl⟩
def PlI (w w':World) (bx:Array Value) (g c k:Nat) (F:Nat→Int):Prop:=w'.heap[w.heap.size]?=some (.cells bx 26 (0,0))∧IOwn w' (w.heap.size+1) g k c F∧Below w.heap.size w w'
theorem pl_append {w wr:World} {bx:Array Value} {g c k:Nat} {F:Nat→Int} {ops:Array Oper} {rest:List Oper} {o:Oper} {a:Act} {Q:Exit→Act→World→Prop} (hgd:o.guard=none) (s y:Operand)
  (hop:o.op=.call { callee:=.builtin .append,args:=#[s,y],argTypes:=#[24,24] }) (hs:a.eval s=.slice (some ⟨g,0,none⟩) k c) (hP:PlI w wr bx g c k F) (hy:a.eval y=.slice (some ⟨wr.heap.size,0,none⟩) 1 1) (hk:k≤100000)
  (hK:∀ g' c' w',PlI w w' bx g' c' (k+1) F→wpList Tryd.prog ops Q rest (a.put o.dst (.slice (some ⟨g',0,none⟩) (k+1) c')) w'):
  wpList Tryd.prog ops Q (o :: rest) a (wr.alloc (.cells #[.int .i64 (F k)] 3)):=by
 obtain⟨i0,hi0,hz0,hz1,hz2⟩:=info_parts info_num14
 obtain⟨h1,h2,h3⟩:=hP
 have hl:(fints F k).length=k:=fints_length F k
 refine wpList_append1 hgd s y 24 hop i0 (.int .i64 0) 8 Tryd.underlying24 hi0 hz0 hz1 hz2 rfl hs (IOwn.alloc h2 _) ⟨wr.heap.size,0,none⟩ 1 (.int .i64 (F k)) hy ((cell_of_block (heap_alloc_new wr _) 0).trans rfl) rfl rfl (by rw [hl]; unfold maxLen; omega) (by rw [hl]; omega) ?_
 intro g' v' w' ho hg' hg
 obtain⟨cap',rfl⟩:=ho.form
 have el:(fints F k ++ [Value.int .i64 (F k)]).length=k+1:=by simp [hl]
 have ef:fints F k ++ [Value.int .i64 (F k)]=fints F (k+1):=by
  rw[fints_app]
  exact fints_congr fun i _=>by
   unfold upd
   split
   ·rename_i e; rw [e]
   ·rfl
 rw[el]
 rw[el,ef] at ho
 have hbg:=h2.base_le
 refine hK g' cap' w' ⟨?_,ho,?_⟩
 ·rw[hg.block _ (by have:=block_lt h1; simp; omega) (fun e=>by have:=Option.some.inj e; omega),Below.heap_alloc wr _ _ (block_lt h1)]
  exact h1
 ·have h4:=bal h3 (.cells #[.int .i64 (F k)] 3)
  exact⟨hg.os.trans h4.os,hg.tape.trans h4.tape,hg.output.trans h4.output,Nat.le_trans h4.size hg.size,fun b hb=>(hg.block b (Nat.lt_of_lt_of_le hb h4.size) (fun e=>by have:=Option.some.inj e; omega)).trans (h4.block b hb)⟩
theorem PlI.called {w w' w2:World} {bx:Array Value} {g c k:Nat} {F:Nat→Int} (h:PlI w w' bx g c k F) (hb:Below w'.heap.size w' w2):PlI w w2 bx g c k F:=
 ⟨(hb.block _ (block_lt h.1)).trans h.1,h.2.1.called hb,bnext h.2.2 hb⟩
def PlacesPost (W H N p:Nat) (w:World) (e:Ending) (w':World):Prop:=∃ g c,e=.returned (.slice (some ⟨g,0,none⟩) (pw W H p * ph W H p * N) c)∧IOwn w' w.heap.size g (pw W H p * ph W H p * N) c (fun k=>(posP W H N p k:Int))∧Below w.heap.size w w'
set_option maxRecDepth 100000 in
set_option maxHeartbeats 6400000 in
theorem passPlaces_any (W H N p:Nat) (x2 x3:Int) (v:Value) (w:World) (hW:1≤W∧W≤24) (hH:1≤H∧H≤24) (hN:chan x2=(N:Int)) (hN4:N≤4) (hp:p < 7) (hG:GridG w):
  Calls Tryd.prog 37 #[.agg #[.int .i64 (W:Int),.int .i64 (H:Int),.int .i64 x2,.int .i64 x3,v],.int .i64 (p:Int)] w (PlacesPost W H N p w):=by
 have hch:=fun V=>implChannels x2 V
 rw[hN] at hch
 have hst:=fun V (h:GridG V)=>passStep_any (p:Int) V h
 have hsz:=fun V (h:GridG V)=>passSize_any (W:Int) (H:Int) (p:Int) V h
 obtain⟨ew,eh⟩:=wideV_nat hW hH hp
 rw[ew,eh] at hsz
 have estep:∀ f:Nat→Nat,stepV f (p:Int)=(f p:Int):=fun f=>by
  unfold stepV
  rw[if_pos (show PassR (p:Int) from ⟨by omega,by omega⟩)]
  rfl
 rw[estep,estep,estep,estep] at hst
 have b1:=pdx_pos hp
 have b2:=pdy_pos hp
 have b3:=px_le hp
 have b4:=pw_le W H p
 have b5:=ph_le W H p
 have HCOL:Hid (∀ i,i < pw W H p→px p+i * pdx p < W):=fun i hi=>col_lt hp hi
 have HROW:Hid (∀ j,j < ph W H p→py p+j * pdy p < H):=fun j hj=>row_lt hp hj
 have HF:Hid (∀ i j c,i < pw W H p→c < N→((posP W H N p ((j * pw W H p+i) * N+c):Nat):Int)=((((py p+j * pdy p) * W+(px p+i * pdx p)) * N+c:Nat):Int)):=fun i j c hi hc=>pass_at (f:=fun m=>((m:Nat):Int)) hi hc
 have HX:Hid ((w.alloc (.cells #[.int .i64 (W:Int),.int .i64 (H:Int),.int .i64 x2,.int .i64 x3,v] 26)).heap[w.heap.size]?=some (.cells #[.int .i64 (W:Int),.int .i64 (H:Int),.int .i64 x2,.int .i64 x3,v] 26 (0,0))):=heap_alloc_new w _
 have HB:=hid_of (bstart w (.cells #[.int .i64 (W:Int),.int .i64 (H:Int),.int .i64 x2,.int .i64 x3,v] 26))
 have HG:=hid_of (hG.called HB.out)
 unfold PlacesPost
 generalize hFq:(fun k=>(posP W H N p k:Int))=F
 have HF2:Hid (∀ i j c,i < pw W H p→c < N→F ((j * pw W H p+i) * N+c)=((((py p+j * pdy p) * W+(px p+i * pdx p)) * N+c:Nat):Int)):=by
  rw[← hFq]
  exact HF.out
 clear hFq HF ew eh estep hG hN
 generalize pw W H p=PW at *
 generalize ph W H p=PH at *
 generalize px p=PX at *
 generalize py p=PY at *
 generalize pdx p=DX at *
 generalize pdy p=DY at *
 obtain⟨A,hA⟩:∃ A,A=PW * PH:=⟨_,rfl⟩
 have hAb:A≤576:=by
  rw[hA]
  exact Nat.mul_le_mul (Nat.le_trans b4 hW.2) (Nat.le_trans b5 hH.2)
 have m1:(PW:Int) * (PH:Int)=(A:Int):=by rw [hA]; simp
 obtain⟨T,hT⟩:∃ T,T=A * N:=⟨_,rfl⟩
 have hTb:T≤2304:=by
  rw[hT]
  exact Nat.le_trans (Nat.mul_le_mul hAb hN4) (by omega)
 have m2:(A:Int) * (N:Int)=(T:Int):=by rw [hT]; simp
 have HTT:Hid (T=PW * PH * N):=by rw [hT,hA]; exact rfl
 rw[← hA,← hT]
 clear hA hT
 have hmk:=fun V=>make_room V T (by omega)
 go_enter Tryd.func37,Tryd.ntmps37
 go_wp2_with fail
 generalize w.alloc (.cells #[.int .i64 (W:Int),.int .i64 (H:Int),.int .i64 x2,.int .i64 x3,v] 26)=W1 at HX HB HG ⊢
 refine (hst W1 HG.out).mono ?_
 rintro e w1 ⟨rfl,hB1⟩
 have HG1:=hid_of (HG.out.called hB1)
 have HX1:=hid_of ((hB1.block _ (block_lt HX.out)).trans HX.out)
 have HB1:=hid_of (bnext HB.out hB1)
 clear hB1 HX HB HG hst
 have k2:w1.cell? ⟨w.heap.size,2,none⟩=some (.int .i64 x2):=(cell_of_block HX1.out 2).trans rfl
 have k0:w1.cell? ⟨w.heap.size,0,none⟩=some (.int .i64 (W:Int)):=(cell_of_block HX1.out 0).trans rfl
 have k1:w1.cell? ⟨w.heap.size,1,none⟩=some (.int .i64 (H:Int)):=(cell_of_block HX1.out 1).trans rfl
 have lx:=block_lt HX1.out
 go_wp2_with fail
 refine (hch w1).mono ?_
 rintro e w2 ⟨rfl,rfl⟩
 go_wp2_with fail
 refine (hsz w2 HG1.out).mono ?_
 rintro e w3 ⟨rfl,hB3⟩
 have HX3:=hid_of ((hB3.block _ (block_lt HX1.out)).trans HX1.out)
 have HB3:=hid_of (bnext HB1.out hB3)
 clear hB3 HX1 HB1 HG1 hsz hch k0 k1 k2 lx
 have hm:=hmk w3
 have H0:Hid (PlI w (w3.alloc (.cells (madeCells #[Value.int .i64 0] T) 3)) #[.int .i64 (W:Int),.int .i64 (H:Int),.int .i64 x2,.int .i64 x3,v] w3.heap.size T 0 F):=
  ⟨(Below.heap_alloc w3 _ _ (block_lt HX3.out)).trans HX3.out,IOwn.room w3 T F (by unfold maxLen; omega) (block_lt HX3.out),bal HB3.out _⟩
 generalize w3.alloc (.cells (madeCells #[Value.int .i64 0] T) 3)=W3 at hm H0
 generalize w3.heap.size=G3 at hm H0
 clear hmk HX3 HB3
 go_wp2_with fail
 clear hm
 go_loopg [12,43] (PH+1) (fun gk u i w'=>∃ (j g c:Nat),j≤PH∧PH - j≤gk∧i=.int .i64 (j:Int)∧u=.slice (some ⟨g,0,none⟩) (j * PW * N) c∧Hid (PlI w w' #[.int .i64 (W:Int),.int .i64 (H:Int),.int .i64 x2,.int .i64 x3,v] g c (j * PW * N) F))
 case atStart=>exact⟨0,G3,T,Nat.zero_le _,by omega,rfl,by simp,by simpa using H0⟩
 case round=>
  clear H0
  obtain⟨j,g,c,hj,hgk,rfl,rfl,hI⟩:=hrel
  by_cases hlj:j < PH
  ·have dlj:decide ((j:Int) < (PH:Int))=true:=decide_eq_true (by omega)
   have hrow:=HROW.out j hlj
   obtain⟨jd,hjd⟩:∃ jd,jd=j * DY:=⟨_,rfl⟩
   have e1:(j:Int) * (DY:Int)=(jd:Int):=by rw [hjd]; simp
   rw[← hjd] at hrow
   obtain⟨yw,hyw⟩:∃ yw,yw=(PY+jd) * W:=⟨_,rfl⟩
   have e2:((PY:Int)+(jd:Int)) * (W:Int)=(yw:Int):=by rw [hyw]; simp
   have hyw1:yw≤600:=by
    have:=Nat.mul_le_mul (show PY+jd≤24 by omega) hW.2
    omega
   have HJD:=hid_of (And.intro hjd hyw)
   clear hjd hyw
   go_wp2_with fail
   go_loopg [12,47] (PW+1) (fun gk u i w'=>∃ (q g c:Nat),q≤PW∧PW - q≤gk∧i=.int .i64 (q:Int)∧u=.slice (some ⟨g,0,none⟩) ((j * PW+q) * N) c∧Hid (PlI w w' #[.int .i64 (W:Int),.int .i64 (H:Int),.int .i64 x2,.int .i64 x3,v] g c ((j * PW+q) * N) F))
   case atStart=>exact⟨0,g,c,Nat.zero_le _,by omega,rfl,rfl,hI⟩
   case round=>
    clear hI
    obtain⟨q,g,c,hq,hgk2,rfl,rfl,hI⟩:=hrel
    by_cases hlq:q < PW
    ·have dlq:decide ((q:Int) < (PW:Int))=true:=decide_eq_true (by omega)
     have hcol:=HCOL.out q hlq
     obtain⟨qd,hqd⟩:∃ qd,qd=q * DX:=⟨_,rfl⟩
     have e3:(q:Int) * (DX:Int)=(qd:Int):=by rw [hqd]; simp
     rw[← hqd] at hcol
     obtain⟨pn,hpn⟩:∃ pn,pn=(yw+PX+qd) * N:=⟨_,rfl⟩
     have e4:((yw:Int)+(PX:Int)+(qd:Int)) * (N:Int)=(pn:Int):=by rw [hpn]; simp
     have hpn1:pn≤3000:=by
      have:=Nat.mul_le_mul (show yw+PX+qd≤624 by omega) hN4
      omega
     have HQD:=hid_of (And.intro hqd hpn)
     clear hqd hpn
     have k0:wr.cell? ⟨w.heap.size,0,none⟩=some (.int .i64 (W:Int)):=(cell_of_block hI.out.1 0).trans rfl
     have lx:=block_lt hI.out.1
     go_wp2_with fail
     go_loopg [12,65] (N+1) (fun gk u i w'=>∃ (s g c:Nat),s≤N∧N - s≤gk∧i=.int .i64 (s:Int)∧u=.slice (some ⟨g,0,none⟩) ((j * PW+q) * N+s) c∧Hid (PlI w w' #[.int .i64 (W:Int),.int .i64 (H:Int),.int .i64 x2,.int .i64 x3,v] g c ((j * PW+q) * N+s) F))
     case atStart=>exact⟨0,g,c,Nat.zero_le _,by omega,rfl,rfl,hI⟩
     case round=>
      clear hI k0 lx
      obtain⟨s,g,c,hs,hgk3,rfl,rfl,hI⟩:=hrel
      by_cases hls:s < N
      ·have dls:decide ((s:Int) < (N:Int))=true:=decide_eq_true (by omega)
       have HV:Hid ((pn:Int)+(s:Int)=F ((j * PW+q) * N+s)):=by
        show (pn:Int)+(s:Int)=F ((j * PW+q) * N+s)
        rw[HF2.out q j s hlq hls,← HQD.out.1,← HJD.out.1,← HJD.out.2,HQD.out.2,← Nat.add_assoc]
        simp
       have hkb:(j * PW+q) * N+s≤100000:=by
        have h1:=Nat.mul_le_mul (show j≤24 by omega) (show PW≤24 by omega)
        have h2:=Nat.mul_le_mul (show j * PW+q≤600 by omega) hN4
        omega
       obtain⟨K,hK⟩:∃ K,K=(j * PW+q) * N+s:=⟨_,rfl⟩
       rw[← hK] at HV hkb hI ⊢
       have HKK:=hid_of hK
       clear hK
       go_wp2_with (at_builtin; rw [HV.out]; refine pl_append (k:=K) rfl _ _ rfl rfl hI.out rfl hkb ?_)
       intro g' c' w' hI'
       have HI':=hid_of hI'
       clear hI' hI
       go_wp2_with fail
       go_roundg (N - (s+1))
       case measure=>omega
       case rel=>exact⟨s+1,g',c',by omega,Nat.le_refl _,by go_num,by rw [← Nat.add_assoc,← HKK.out],by rw [← Nat.add_assoc,← HKK.out]; exact HI'⟩
      ·obtain rfl:s=N:=by omega
       go_wp2_with fail
       go_roundg (PW - (q+1))
       case measure=>omega
       case rel=>exact⟨q+1,g,c,by omega,Nat.le_refl _,by go_num,by rw [← Nat.add_assoc,Nat.add_mul _ 1,Nat.one_mul],by rw [← Nat.add_assoc,Nat.add_mul _ 1,Nat.one_mul]; exact hI⟩
    ·obtain rfl:q=PW:=by omega
     go_wp2_with fail
     go_roundg (PH - (j+1))
     case measure=>omega
     case rel=>exact⟨j+1,g,c,by omega,Nat.le_refl _,by go_num,by rw [Nat.add_mul j 1,Nat.one_mul],by rw [Nat.add_mul j 1,Nat.one_mul]; exact hI⟩
  ·obtain rfl:j=PH:=by omega
   have HJT:Hid (j * PW * N=T):=by rw [HTT.out,Nat.mul_comm j PW]; exact rfl
   rw[HJT.out] at hI ⊢
   go_wp2_with fail
   go_ret
   exact⟨g,c,rfl,hI.out.2.1.mono (by omega),hI.out.2.2⟩
end
section
open Go.RowKit Go.Joins RastMath PassMath
theorem passShape_any (W H x2 x3 p:Int) (v:Value) (w:World) (hG:GridG w):
  Calls Tryd.prog 36 #[.agg #[.int .i64 W,.int .i64 H,.int .i64 x2,.int .i64 x3,v],.int .i64 p] w fun e w'=>e=.returned (.agg #[.int .i64 (wideV W H p),.int .i64 (highV W H p),.int .i64 x2,.int .i64 x3,.slice none 0 0])∧Below w.heap.size w w':=by
 have hsz:=fun V (h:GridG V)=>passSize_any W H p V h
 generalize wideV W H p=A at *
 generalize highV W H p=B at *
 have HX:Hid (((w.alloc (.cells #[.int .i64 W,.int .i64 H,.int .i64 x2,.int .i64 x3,v] 26)).alloc (.cells #[.int .i64 0,.int .i64 0,.int .i64 0,.int .i64 0,.slice none 0 0] 26)).heap[w.heap.size]?=some (.cells #[.int .i64 W,.int .i64 H,.int .i64 x2,.int .i64 x3,v] 26 (0,0))):=
  (Below.heap_alloc (w.alloc _) _ _ (by simp)).trans (heap_alloc_new w _)
 have HZ:Hid (((w.alloc (.cells #[.int .i64 W,.int .i64 H,.int .i64 x2,.int .i64 x3,v] 26)).alloc (.cells #[.int .i64 0,.int .i64 0,.int .i64 0,.int .i64 0,.slice none 0 0] 26)).heap[w.heap.size+1]?=some (.cells #[.int .i64 0,.int .i64 0,.int .i64 0,.int .i64 0,.slice none 0 0] 26 (0,0))):=by
  have:=heap_alloc_new (w.alloc (.cells #[.int .i64 W,.int .i64 H,.int .i64 x2,.int .i64 x3,v] 26)) (.cells #[.int .i64 0,.int .i64 0,.int .i64 0,.int .i64 0,.slice none 0 0] 26)
  rw[show (w.alloc (.cells #[.int .i64 W,.int .i64 H,.int .i64 x2,.int .i64 x3,v] 26)).heap.size=w.heap.size+1 by simp] at this
  exact this
 have HB:=hid_of (bal (bstart w (.cells #[.int .i64 W,.int .i64 H,.int .i64 x2,.int .i64 x3,v] 26)) (.cells #[.int .i64 0,.int .i64 0,.int .i64 0,.int .i64 0,.slice none 0 0] 26))
 have HG:=hid_of (hG.called HB.out)
 clear hG
 go_enter Tryd.func36,Tryd.ntmps36
 go_wp2_with fail
 generalize (w.alloc (.cells #[.int .i64 W,.int .i64 H,.int .i64 x2,.int .i64 x3,v] 26)).alloc (.cells #[.int .i64 0,.int .i64 0,.int .i64 0,.int .i64 0,.slice none 0 0] 26)=W1 at HX HZ HB HG ⊢
 refine (hsz W1 HG.out).mono ?_
 rintro e w1 ⟨rfl,hB1⟩
 have HX1:=hid_of ((hB1.block _ (block_lt HX.out)).trans HX.out)
 have HZ1:=hid_of ((hB1.block _ (block_lt HZ.out)).trans HZ.out)
 have HB1:=hid_of (bnext HB.out hB1)
 clear hB1 HX HZ HB HG hsz
 have k2:w1.cell? ⟨w.heap.size,2,none⟩=some (.int .i64 x2):=(cell_of_block HX1.out 2).trans rfl
 have k3:w1.cell? ⟨w.heap.size,3,none⟩=some (.int .i64 x3):=(cell_of_block HX1.out 3).trans rfl
 have lx:=block_lt HX1.out
 have z0:w1.cell? ⟨w.heap.size+1,0,none⟩=some (.int .i64 0):=(cell_of_block HZ1.out 0).trans rfl
 have z1:w1.cell? ⟨w.heap.size+1,1,none⟩=some (.int .i64 0):=(cell_of_block HZ1.out 1).trans rfl
 have z2:w1.cell? ⟨w.heap.size+1,2,none⟩=some (.int .i64 0):=(cell_of_block HZ1.out 2).trans rfl
 have z3:w1.cell? ⟨w.heap.size+1,3,none⟩=some (.int .i64 0):=(cell_of_block HZ1.out 3).trans rfl
 have z4:w1.cell? ⟨w.heap.size+1,4,none⟩=some (.slice none 0 0):=(cell_of_block HZ1.out 4).trans rfl
 have zf:∀ k,w1.frozen? ⟨w.heap.size+1,k,none⟩=false:=unfrozen_of_block HZ1.out
 have lz:=block_lt HZ1.out
 go_wp2_with fail
 refine bodyPost_ret (v:=.agg #[.int .i64 A,.int .i64 B,.int .i64 x2,.int .i64 x3,.slice none 0 0]) ?_ rfl ⟨rfl,?_⟩
 ·simp[results,Tryd.results36,go_sem, *]
 ·iterate 5 refine Below.setCell ?_ (by simp) _
  exact HB1.out
end
end Go.Proofs.YtcbbcadfolgioaaDoor
