/-
  Texts of the proof, put together.
-/
import Derived.Test.YtcbbcadfolgioaaDoorPf08
import Derived.Test.YtcbbcadfolgioaaDoorPf16
namespace Go.Proofs.YtcbbcadfolgioaaDoor
section
open Go.RowKit RastMath PassMath
def PassesAnswer:Prop:=∀ (r:Ras) (a:Option Addr) (cap:Nat) (w:World),Came w a r.n r.f→r.n≤1048576→r.n≤cap→cap≤maxLen→GridG w→
 (RasOk r→Calls Tryd.prog 11 #[rasA r a cap] w fun e w'=>∃ a' c',e=.returned (.tuple #[.slice a' 7 c',.bool true])∧RSL w' w.heap.size a' 7 (passesR r)∧Below w.heap.size w w')∧
 (¬ RasOk r→Calls Tryd.prog 11 #[rasA r a cap] w fun e w'=>∃ a' c',e=.returned (.tuple #[.slice a' 0 c',.bool false])∧Below w.heap.size w w')
def FromAnswer:Prop:=∀ (W H:Int) (a:Option Addr) (m c:Nat) (R:Nat→Ras) (w:World),RCame w a m R→m≤1048576→(∀ j,j < m→(R j).n≤1048576)→(Lit.int .i64 W).wf=true→(Lit.int .i64 H).wf=true→GridG w→
 (FromR W H m R→Calls Tryd.prog 12 #[.int .i64 W,.int .i64 H,.slice a m c] w fun e w'=>∃ a' c',e=.returned (.tuple #[rasA (joinR W H R) a' c',.bool true])∧SL w' w.heap.size a' (joinR W H R).n c' (joinR W H R).f∧(joinR W H R).n≤c'∧c'≤maxLen∧Below w.heap.size w w')∧
 (¬ FromR W H m R→Calls Tryd.prog 12 #[.int .i64 W,.int .i64 H,.slice a m c] w fun e w'=>∃ a' c',e=.returned (.tuple #[.agg #[.int .i64 0,.int .i64 0,.int .i64 0,.int .i64 0,.slice a' 0 c'],.bool false])∧Below w.heap.size w w')
end
section
open Go.RowKit Go.Joins RastMath PassMath
theorem isPass_any (p:Int) (w:World):Calls Tryd.prog 41 #[.int .i64 p] w fun e w'=>e=.returned (.bool (decide (PassR p)))∧w'=w:=by
 by_cases h1:0≤p
 ·have d1:decide (0≤p)=true:=decide_eq_true h1
  have hh:decide (PassR p)=decide (p < 7):=decide_eq_decide.mpr ⟨fun h=>by have:=h.2; omega,fun h=>⟨h1,by omega⟩⟩
  rw[hh]
  clear h1 hh
  generalize hb:decide (p < 7)=b
  go_enter Tryd.func41,Tryd.ntmps41
  go_wp2_with fail
  go_ret
  exact⟨rfl,rfl⟩
 ·have d1:decide (0≤p)=false:=decide_eq_false h1
  rw[decide_eq_false (fun h:PassR p=>h1 h.1)]
  clear h1
  go_enter Tryd.func41,Tryd.ntmps41
  go_wp2_with fail
  go_ret
  exact⟨rfl,rfl⟩
theorem stepsIn_any (s f t:Nat) (w:World) (hs:s≤24) (hf:f≤4) (ht:1≤t∧t≤8):
  Calls Tryd.prog 42 #[.int .i64 (s:Int),.int .i64 (f:Int),.int .i64 (t:Int)] w fun e w'=>e=.returned (.int .i64 (cntP s f t:Int))∧w'=w:=by
 unfold cntP
 by_cases h:f < s
 ·rw[if_pos h]
  obtain⟨q,hq⟩:∃ q,q=(s - f - 1) / t:=⟨_,rfl⟩
  have hqb:q≤24:=by rw [hq]; exact Nat.le_trans (Nat.div_le_self _ _) (by omega)
  have d0:decide ((s:Int)≤(f:Int))=false:=decide_eq_false (by omega)
  have e1:((s:Int) - (f:Int) - 1)=((s - f - 1:Nat):Int):=by omega
  have e2:((s:Int) - (f:Int) - 1) / (t:Int)=(q:Int):=by rw [e1,hq]; simp
  have e3:((s:Int) - (f:Int) - 1).tdiv (t:Int)=(q:Int):=by rw [e1,hq,Int.tdiv_eq_ediv_of_nonneg (by omega)]; simp
  have n0:¬ ((t:Int)=0):=by omega
  rw[← hq]
  clear hq e1
  go_enter Tryd.func42,Tryd.ntmps42
  go_wp2_with fail
  go_ret
  exact⟨by go_num,rfl⟩
 ·rw[if_neg h]
  have d0:s≤f:=by omega
  clear h
  go_enter Tryd.func42,Tryd.ntmps42
  go_wp2_with fail
  go_ret
  exact⟨rfl,rfl⟩
theorem passStep_any (p:Int) (w:World) (hG:GridG w):Calls Tryd.prog 79 #[.int .i64 p] w fun e w'=>e=.returned (.tuple #[.int .i64 (stepV px p),.int .i64 (stepV py p),.int .i64 (stepV pdx p),.int .i64 (stepV pdy p)])∧Below w.heap.size w w':=by
 have hi:=isPass_any p
 unfold stepV
 by_cases h:PassR p
 ·rw[decide_eq_true h] at hi
  rw[if_pos h,if_pos h,if_pos h,if_pos h]
  obtain⟨n,hn⟩:=Int.eq_ofNat_of_zero_le h.1
  subst hn
  have hn7:n < 7:=by have:=h.2; omega
  obtain⟨c0,c1,c2,c3⟩:=hG.2 n hn7
  have lg:=hG.1
  rw[Int.toNat_natCast]
  generalize px n=a0 at *
  generalize py n=a1 at *
  generalize pdx n=a2 at *
  generalize pdy n=a3 at *
  have HB:=hid_of (bstart w (.cells #[.int .i64 (a0:Int),.int .i64 (a1:Int),.int .i64 (a2:Int),.int .i64 (a3:Int)] 65))
  have HX:Hid ((w.alloc (.cells #[.int .i64 (a0:Int),.int .i64 (a1:Int),.int .i64 (a2:Int),.int .i64 (a3:Int)] 65)).heap[w.heap.size]?=some (.cells #[.int .i64 (a0:Int),.int .i64 (a1:Int),.int .i64 (a2:Int),.int .i64 (a3:Int)] 65 (0,0))):=heap_alloc_new w _
  clear hG h
  go_enter Tryd.func79,Tryd.ntmps79
  go_wp2_with fail
  refine (hi _).mono ?_
  rintro e w1 ⟨rfl,rfl⟩
  go_wp2_with fail
  go_quiet (fail)
  go_wp2_with fail
  refine bodyPost_ret (v:=.tuple #[.int .i64 (a0:Int),.int .i64 (a1:Int),.int .i64 (a2:Int),.int .i64 (a3:Int)]) ?_ rfl ⟨rfl,bdraws HB.out _⟩
  simp[results,Tryd.results79,go_sem]
 ·rw[decide_eq_false h] at hi
  rw[if_neg h,if_neg h,if_neg h,if_neg h]
  clear h
  go_enter Tryd.func79,Tryd.ntmps79
  go_wp2_with fail
  refine (hi _).mono ?_
  rintro e w1 ⟨rfl,rfl⟩
  go_wp2_with fail
  refine bodyPost_ret (v:=.tuple #[.int .i64 0,.int .i64 0,.int .i64 0,.int .i64 0]) ?_ rfl ⟨rfl,Below.refl _ _⟩
  simp[results,Tryd.results79,go_sem]
set_option maxHeartbeats 1600000 in
theorem passSize_any (W H p:Int) (w:World) (hG:GridG w):Calls Tryd.prog 13 #[.int .i64 W,.int .i64 H,.int .i64 p] w fun e w'=>e=.returned (.tuple #[.int .i64 (wideV W H p),.int .i64 (highV W H p)])∧Below w.heap.size w w':=by
 have hi:=isPass_any p
 have h1:=isSide_any W
 have h2:=isSide_any H
 unfold wideV highV
 by_cases hp:PassR p
 ·rw[decide_eq_true hp] at hi
  by_cases hw:SideR W
  ·rw[decide_eq_true hw] at h1
   by_cases hh:SideR H
   ·rw[decide_eq_true hh] at h2
    rw[if_pos ⟨hw,hh,hp⟩,if_pos ⟨hw,hh,hp⟩]
    obtain⟨n,hn⟩:=Int.eq_ofNat_of_zero_le hp.1
    subst hn
    obtain⟨A,hA⟩:=Int.eq_ofNat_of_zero_le (show 0≤W by have:=hw.1; omega)
    subst hA
    obtain⟨B,hB⟩:=Int.eq_ofNat_of_zero_le (show 0≤H by have:=hh.1; omega)
    subst hB
    have hn7:n < 7:=by have:=hp.2; omega
    have hA24:A≤24:=by have:=hw.2; omega
    have hB24:B≤24:=by have:=hh.2; omega
    obtain⟨c0,c1,c2,c3⟩:=hG.2 n hn7
    have lg:=hG.1
    rw[Int.toNat_natCast,Int.toNat_natCast,Int.toNat_natCast]
    unfold pw ph
    have hs1:=fun V=>stepsIn_any A (px n) (pdx n) V hA24 (px_le hn7).1 (pdx_pos hn7)
    have hs2:=fun V=>stepsIn_any B (py n) (pdy n) V hB24 (px_le hn7).2 (pdy_pos hn7)
    generalize cntP A (px n) (pdx n)=K1 at *
    generalize cntP B (py n) (pdy n)=K2 at *
    generalize px n=a0 at *
    generalize py n=a1 at *
    generalize pdx n=a2 at *
    generalize pdy n=a3 at *
    have HB:=hid_of (bstart w (.cells #[.int .i64 (a0:Int),.int .i64 (a1:Int),.int .i64 (a2:Int),.int .i64 (a3:Int)] 65))
    have HR:Hid (((K1=0∨K2=0)→(if K1=0∨K2=0 then 0 else K1)=0∧(if K1=0∨K2=0 then 0 else K2)=0)∧(¬ (K1=0∨K2=0)→(if K1=0∨K2=0 then 0 else K1)=K1∧(if K1=0∨K2=0 then 0 else K2)=K2)):=⟨fun h=>⟨if_pos h,if_pos h⟩,fun h=>⟨if_neg h,if_neg h⟩⟩
    generalize (if K1=0∨K2=0 then 0 else K1)=r1 at HR ⊢
    generalize (if K1=0∨K2=0 then 0 else K2)=r2 at HR ⊢
    clear hG hp hw hh
    go_enter Tryd.func13,Tryd.ntmps13
    go_wp2_with fail
    refine (hi _).mono ?_
    rintro e w1 ⟨rfl,rfl⟩
    go_wp2_with fail
    refine (h1 _).mono ?_
    rintro e w2 ⟨rfl,rfl⟩
    go_wp2_with fail
    refine (h2 _).mono ?_
    rintro e w1 ⟨rfl,rfl⟩
    go_wp2_with fail
    go_quiet ((go_at_call 42; first | (guard_target=Calls _ _ #[Value.int IntKind.i64 (A:Int),_,_] _ _; exact Calls.quiet_of_same (hs1 _)) | (guard_target=Calls _ _ #[Value.int IntKind.i64 (B:Int),_,_] _ _; exact Calls.quiet_of_same (hs2 _))))
    by_cases e1:K1=0
    ·obtain⟨u1,u2⟩:=HR.out.1 (.inl e1)
     subst e1 u1 u2
     go_wp2_with fail
     refine bodyPost_ret (v:=.tuple #[.int .i64 0,.int .i64 0]) ?_ rfl ⟨rfl,bdraws HB.out _⟩
     simp[results,Tryd.results13,go_sem]
    ·have b1:((K1:Int) == 0)=false:=by simp; omega
     by_cases e2:K2=0
     ·obtain⟨u1,u2⟩:=HR.out.1 (.inr e2)
      subst e2 u1 u2
      go_wp2_with fail
      refine bodyPost_ret (v:=.tuple #[.int .i64 0,.int .i64 0]) ?_ rfl ⟨rfl,bdraws HB.out _⟩
      simp[results,Tryd.results13,go_sem]
     ·have b2:((K2:Int) == 0)=false:=by simp; omega
      obtain⟨u1,u2⟩:=HR.out.2 (by omega)
      subst u1 u2
      go_wp2_with fail
      refine bodyPost_ret (v:=.tuple #[.int .i64 (r1:Int),.int .i64 (r2:Int)]) ?_ rfl ⟨rfl,bdraws HB.out _⟩
      simp[results,Tryd.results13,go_sem]
   ·rw[decide_eq_false hh] at h2
    rw[if_neg (fun h=>hh h.2.1),if_neg (fun h=>hh h.2.1)]
    clear hp hw hh
    go_enter Tryd.func13,Tryd.ntmps13
    go_wp2_with fail
    refine (hi _).mono ?_
    rintro e w1 ⟨rfl,rfl⟩
    go_wp2_with fail
    refine (h1 _).mono ?_
    rintro e w2 ⟨rfl,rfl⟩
    go_wp2_with fail
    refine (h2 _).mono ?_
    rintro e w1 ⟨rfl,rfl⟩
    go_wp2_with fail
    refine bodyPost_ret (v:=.tuple #[.int .i64 0,.int .i64 0]) ?_ rfl ⟨rfl,Below.refl _ _⟩
    simp[results,Tryd.results13,go_sem]
  ·rw[decide_eq_false hw] at h1
   rw[if_neg (fun h=>hw h.1),if_neg (fun h=>hw h.1)]
   clear hp hw
   go_enter Tryd.func13,Tryd.ntmps13
   go_wp2_with fail
   refine (hi _).mono ?_
   rintro e w1 ⟨rfl,rfl⟩
   go_wp2_with fail
   refine (h1 _).mono ?_
   rintro e w2 ⟨rfl,rfl⟩
   go_wp2_with fail
   refine bodyPost_ret (v:=.tuple #[.int .i64 0,.int .i64 0]) ?_ rfl ⟨rfl,Below.refl _ _⟩
   simp[results,Tryd.results13,go_sem]
 ·rw[decide_eq_false hp] at hi
  rw[if_neg (fun h=>hp h.2.2),if_neg (fun h=>hp h.2.2)]
  clear hp
  go_enter Tryd.func13,Tryd.ntmps13
  go_wp2_with fail
  refine (hi _).mono ?_
  rintro e w1 ⟨rfl,rfl⟩
  go_wp2_with fail
  refine bodyPost_ret (v:=.tuple #[.int .i64 0,.int .i64 0]) ?_ rfl ⟨rfl,Below.refl _ _⟩
  simp[results,Tryd.results13,go_sem]
end
section
open Go.RowKit Go.Joins RastMath PassMath
theorem info_num14:(Tryd.prog.info? 3).map (fun i=>(i.zero,i.size,i.bytes))=some (some (.int .i64 0),1,8):=by kernel_rfl
theorem make_room (w:World) (n:Nat) (hn:n≤1048576):(Instr.makeSlice 24 (.int .i64 0) (.int .i64 n)).run Tryd.prog w=.ok (.slice (some ⟨w.heap.size,0,none⟩) 0 n) (w.alloc (.cells (madeCells #[Value.int .i64 0] n) 3)):=by
 obtain⟨i0,hi0,hz0,hz1,hz2⟩:=info_parts info_num14
 have h:=run_make (P:=Tryd.prog) w 24 3 i0 (.int .i64 0) Tryd.underlying24 hi0 hz0 .i64 .i64 0 n (by omega) (by omega) (by rw [hz2]; omega) (by omega)
 rw[hz1,Int.toNat_natCast,Nat.mul_one] at h
 exact h
theorem IOwn.room {base:Nat} (w:World) (n:Nat) (F:Nat→Int) (hn:n≤maxLen) (hb:base≤w.heap.size):IOwn (w.alloc (.cells (madeCells #[Value.int .i64 0] n) 3)) base w.heap.size 0 n F:=
 ⟨n,madeCells #[Value.int .i64 0] n,(0,0),rfl,hb,heap_alloc_new w _,.inl rfl,Nat.zero_le _,hn,by simp [madeCells],rfl⟩
def PlI (w w':World) (bx:Array Value) (g c k:Nat) (F:Nat→Int):Prop:=w'.heap[w.heap.size]?=some (.cells bx 26 (0,0))∧IOwn w' (w.heap.size+1) g k c F∧Below w.heap.size w w'
theorem pl_append {w wr:World} {bx:Array Value} {g c k:Nat} {F:Nat→Int} {ops:Array Oper} {rest:List Oper} {o:Oper} {a:Act} {Q:Exit→Act→World→Prop} (hgd:o.guard=none) (s y:Operand)
  (hop:o.op=.call { callee:=.builtin .append,args:=#[s,y],argTypes:=#[24,24] }) (hs:a.eval s=.slice (some ⟨g,0,none⟩) k c) (hP:PlI w wr bx g c k F) (hy:a.eval y=.slice (some ⟨wr.heap.size,0,none⟩) 1 1) (hk:k≤100000)
  (hK:∀ g' c' w',PlI w w' bx g' c' (k+1) F→wpList Tryd.prog ops Q rest (a.put o.dst (.slice (some ⟨g',0,none⟩) (k+1) c')) w'):
  wpList Tryd.prog ops Q (o :: rest) a (wr.alloc (.cells #[.int .i64 (F k)] 3)):=by
 obtain⟨i0,hi0,hz0,hz1,hz2⟩:=info_parts info_num14
 obtain⟨h1,h2,h3⟩:=hP
 have hl:(fints F k).length=k:=fints_length F k
 refine wpList_append1 hgd s y 24 hop i0 (.int .i64 0) 8 Tryd.underlying24 hi0 hz0 hz1 hz2 rfl hs (IOwn.alloc h2 _) ⟨wr.heap.size,0,none⟩ 1 (.int .i64 (F k)) hy ((cell_of_block (heap_alloc_new wr _) 0).trans rfl) rfl rfl (by rw [hl]; unfold maxLen; omega) (by rw [hl]; omega) ?_
 intro g' v' w' ho hg' hg
 obtain⟨cap',rfl⟩:=ho.form
 have el:(fints F k ++ [Value.int .i64 (F k)]).length=k+1:=by simp [hl]
 have ef:fints F k ++ [Value.int .i64 (F k)]=fints F (k+1):=by
  rw[fints_app]
  exact fints_congr fun i _=>by
   unfold upd
   split
   ·rename_i e; rw [e]
   ·rfl
 rw[el]
 rw[el,ef] at ho
 have hbg:=h2.base_le
 refine hK g' cap' w' ⟨?_,ho,?_⟩
 ·rw[hg.block _ (by have:=block_lt h1; simp; omega) (fun e=>by have:=Option.some.inj e; omega),Below.heap_alloc wr _ _ (block_lt h1)]
  exact h1
 ·have h4:=bal h3 (.cells #[.int .i64 (F k)] 3)
  exact⟨hg.os.trans h4.os,hg.tape.trans h4.tape,hg.output.trans h4.output,Nat.le_trans h4.size hg.size,fun b hb=>(hg.block b (Nat.lt_of_lt_of_le hb h4.size) (fun e=>by have:=Option.some.inj e; omega)).trans (h4.block b hb)⟩
theorem PlI.called {w w' w2:World} {bx:Array Value} {g c k:Nat} {F:Nat→Int} (h:PlI w w' bx g c k F) (hb:Below w'.heap.size w' w2):PlI w w2 bx g c k F:=
 ⟨(hb.block _ (block_lt h.1)).trans h.1,h.2.1.called hb,bnext h.2.2 hb⟩
def PlacesPost (W H N p:Nat) (w:World) (e:Ending) (w':World):Prop:=∃ g c,e=.returned (.slice (some ⟨g,0,none⟩) (pw W H p * ph W H p * N) c)∧IOwn w' w.heap.size g (pw W H p * ph W H p * N) c (fun k=>(posP W H N p k:Int))∧Below w.heap.size w w'
set_option maxRecDepth 100000 in
set_option maxHeartbeats 6400000 in
theorem passPlaces_any (W H N p:Nat) (x2 x3:Int) (v:Value) (w:World) (hW:1≤W∧W≤24) (hH:1≤H∧H≤24) (hN:chan x2=(N:Int)) (hN4:N≤4) (hp:p < 7) (hG:GridG w):
  Calls Tryd.prog 37 #[.agg #[.int .i64 (W:Int),.int .i64 (H:Int),.int .i64 x2,.int .i64 x3,v],.int .i64 (p:Int)] w (PlacesPost W H N p w):=by
 have hch:=fun V=>implChannels x2 V
 rw[hN] at hch
 have hst:=fun V (h:GridG V)=>passStep_any (p:Int) V h
 have hsz:=fun V (h:GridG V)=>passSize_any (W:Int) (H:Int) (p:Int) V h
 obtain⟨ew,eh⟩:=wideV_nat hW hH hp
 rw[ew,eh] at hsz
 have estep:∀ f:Nat→Nat,stepV f (p:Int)=(f p:Int):=fun f=>by
  unfold stepV
  rw[if_pos (show PassR (p:Int) from ⟨by omega,by omega⟩)]
  rfl
 rw[estep,estep,estep,estep] at hst
 have b1:=pdx_pos hp
 have b2:=pdy_pos hp
 have b3:=px_le hp
 have b4:=pw_le W H p
 have b5:=ph_le W H p
 have HCOL:Hid (∀ i,i < pw W H p→px p+i * pdx p < W):=fun i hi=>col_lt hp hi
 have HROW:Hid (∀ j,j < ph W H p→py p+j * pdy p < H):=fun j hj=>row_lt hp hj
 have HF:Hid (∀ i j c,i < pw W H p→c < N→((posP W H N p ((j * pw W H p+i) * N+c):Nat):Int)=((((py p+j * pdy p) * W+(px p+i * pdx p)) * N+c:Nat):Int)):=fun i j c hi hc=>pass_at (f:=fun m=>((m:Nat):Int)) hi hc
 have HX:Hid ((w.alloc (.cells #[.int .i64 (W:Int),.int .i64 (H:Int),.int .i64 x2,.int .i64 x3,v] 26)).heap[w.heap.size]?=some (.cells #[.int .i64 (W:Int),.int .i64 (H:Int),.int .i64 x2,.int .i64 x3,v] 26 (0,0))):=heap_alloc_new w _
 have HB:=hid_of (bstart w (.cells #[.int .i64 (W:Int),.int .i64 (H:Int),.int .i64 x2,.int .i64 x3,v] 26))
 have HG:=hid_of (hG.called HB.out)
 unfold PlacesPost
 generalize hFq:(fun k=>(posP W H N p k:Int))=F
 have HF2:Hid (∀ i j c,i < pw W H p→c < N→F ((j * pw W H p+i) * N+c)=((((py p+j * pdy p) * W+(px p+i * pdx p)) * N+c:Nat):Int)):=by
  rw[← hFq]
  exact HF.out
 clear hFq HF ew eh estep hG hN
 generalize pw W H p=PW at *
 generalize ph W H p=PH at *
 generalize px p=PX at *
 generalize py p=PY at *
 generalize pdx p=DX at *
 generalize pdy p=DY at *
 obtain⟨A,hA⟩:∃ A,A=PW * PH:=⟨_,rfl⟩
 have hAb:A≤576:=by
  rw[hA]
  exact Nat.mul_le_mul (Nat.le_trans b4 hW.2) (Nat.le_trans b5 hH.2)
 have m1:(PW:Int) * (PH:Int)=(A:Int):=by rw [hA]; simp
 obtain⟨T,hT⟩:∃ T,T=A * N:=⟨_,rfl⟩
 have hTb:T≤2304:=by
  rw[hT]
  exact Nat.le_trans (Nat.mul_le_mul hAb hN4) (by omega)
 have m2:(A:Int) * (N:Int)=(T:Int):=by rw [hT]; simp
 have HTT:Hid (T=PW * PH * N):=by rw [hT,hA]; exact rfl
 rw[← hA,← hT]
 clear hA hT
 have hmk:=fun V=>make_room V T (by omega)
 go_enter Tryd.func37,Tryd.ntmps37
 go_wp2_with fail
 generalize w.alloc (.cells #[.int .i64 (W:Int),.int .i64 (H:Int),.int .i64 x2,.int .i64 x3,v] 26)=W1 at HX HB HG ⊢
 refine (hst W1 HG.out).mono ?_
 rintro e w1 ⟨rfl,hB1⟩
 have HG1:=hid_of (HG.out.called hB1)
 have HX1:=hid_of ((hB1.block _ (block_lt HX.out)).trans HX.out)
 have HB1:=hid_of (bnext HB.out hB1)
 clear hB1 HX HB HG hst
 have k2:w1.cell? ⟨w.heap.size,2,none⟩=some (.int .i64 x2):=(cell_of_block HX1.out 2).trans rfl
 have k0:w1.cell? ⟨w.heap.size,0,none⟩=some (.int .i64 (W:Int)):=(cell_of_block HX1.out 0).trans rfl
 have k1:w1.cell? ⟨w.heap.size,1,none⟩=some (.int .i64 (H:Int)):=(cell_of_block HX1.out 1).trans rfl
 have lx:=block_lt HX1.out
 go_wp2_with fail
 refine (hch w1).mono ?_
 rintro e w2 ⟨rfl,rfl⟩
 go_wp2_with fail
 refine (hsz w2 HG1.out).mono ?_
 rintro e w3 ⟨rfl,hB3⟩
 have HX3:=hid_of ((hB3.block _ (block_lt HX1.out)).trans HX1.out)
 have HB3:=hid_of (bnext HB1.out hB3)
 clear hB3 HX1 HB1 HG1 hsz hch k0 k1 k2 lx
 have hm:=hmk w3
 have H0:Hid (PlI w (w3.alloc (.cells (madeCells #[Value.int .i64 0] T) 3)) #[.int .i64 (W:Int),.int .i64 (H:Int),.int .i64 x2,.int .i64 x3,v] w3.heap.size T 0 F):=
  ⟨(Below.heap_alloc w3 _ _ (block_lt HX3.out)).trans HX3.out,IOwn.room w3 T F (by unfold maxLen; omega) (block_lt HX3.out),bal HB3.out _⟩
 generalize w3.alloc (.cells (madeCells #[Value.int .i64 0] T) 3)=W3 at hm H0
 generalize w3.heap.size=G3 at hm H0
 clear hmk HX3 HB3
 go_wp2_with fail
 clear hm
 go_loopg [12,43] (PH+1) (fun gk u i w'=>∃ (j g c:Nat),j≤PH∧PH - j≤gk∧i=.int .i64 (j:Int)∧u=.slice (some ⟨g,0,none⟩) (j * PW * N) c∧Hid (PlI w w' #[.int .i64 (W:Int),.int .i64 (H:Int),.int .i64 x2,.int .i64 x3,v] g c (j * PW * N) F))
 case atStart=>exact⟨0,G3,T,Nat.zero_le _,by omega,rfl,by simp,by simpa using H0⟩
 case round=>
  clear H0
  obtain⟨j,g,c,hj,hgk,rfl,rfl,hI⟩:=hrel
  by_cases hlj:j < PH
  ·have dlj:decide ((j:Int) < (PH:Int))=true:=decide_eq_true (by omega)
   have hrow:=HROW.out j hlj
   obtain⟨jd,hjd⟩:∃ jd,jd=j * DY:=⟨_,rfl⟩
   have e1:(j:Int) * (DY:Int)=(jd:Int):=by rw [hjd]; simp
   rw[← hjd] at hrow
   obtain⟨yw,hyw⟩:∃ yw,yw=(PY+jd) * W:=⟨_,rfl⟩
   have e2:((PY:Int)+(jd:Int)) * (W:Int)=(yw:Int):=by rw [hyw]; simp
   have hyw1:yw≤600:=by
    have:=Nat.mul_le_mul (show PY+jd≤24 by omega) hW.2
    omega
   have HJD:=hid_of (And.intro hjd hyw)
   clear hjd hyw
   go_wp2_with fail
   go_loopg [12,47] (PW+1) (fun gk u i w'=>∃ (q g c:Nat),q≤PW∧PW - q≤gk∧i=.int .i64 (q:Int)∧u=.slice (some ⟨g,0,none⟩) ((j * PW+q) * N) c∧Hid (PlI w w' #[.int .i64 (W:Int),.int .i64 (H:Int),.int .i64 x2,.int .i64 x3,v] g c ((j * PW+q) * N) F))
   case atStart=>exact⟨0,g,c,Nat.zero_le _,by omega,rfl,rfl,hI⟩
   case round=>
    clear hI
    obtain⟨q,g,c,hq,hgk2,rfl,rfl,hI⟩:=hrel
    by_cases hlq:q < PW
    ·have dlq:decide ((q:Int) < (PW:Int))=true:=decide_eq_true (by omega)
     have hcol:=HCOL.out q hlq
     obtain⟨qd,hqd⟩:∃ qd,qd=q * DX:=⟨_,rfl⟩
     have e3:(q:Int) * (DX:Int)=(qd:Int):=by rw [hqd]; simp
     rw[← hqd] at hcol
     obtain⟨pn,hpn⟩:∃ pn,pn=(yw+PX+qd) * N:=⟨_,rfl⟩
     have e4:((yw:Int)+(PX:Int)+(qd:Int)) * (N:Int)=(pn:Int):=by rw [hpn]; simp
     have hpn1:pn≤3000:=by
      have:=Nat.mul_le_mul (show yw+PX+qd≤624 by omega) hN4
      omega
     have HQD:=hid_of (And.intro hqd hpn)
     clear hqd hpn
     have k0:wr.cell? ⟨w.heap.size,0,none⟩=some (.int .i64 (W:Int)):=(cell_of_block hI.out.1 0).trans rfl
     have lx:=block_lt hI.out.1
     go_wp2_with fail
     go_loopg [12,65] (N+1) (fun gk u i w'=>∃ (s g c:Nat),s≤N∧N - s≤gk∧i=.int .i64 (s:Int)∧u=.slice (some ⟨g,0,none⟩) ((j * PW+q) * N+s) c∧Hid (PlI w w' #[.int .i64 (W:Int),.int .i64 (H:Int),.int .i64 x2,.int .i64 x3,v] g c ((j * PW+q) * N+s) F))
     case atStart=>exact⟨0,g,c,Nat.zero_le _,by omega,rfl,rfl,hI⟩
     case round=>
      clear hI k0 lx
      obtain⟨s,g,c,hs,hgk3,rfl,rfl,hI⟩:=hrel
      by_cases hls:s < N
      ·have dls:decide ((s:Int) < (N:Int))=true:=decide_eq_true (by omega)
       have HV:Hid ((pn:Int)+(s:Int)=F ((j * PW+q) * N+s)):=by
        show (pn:Int)+(s:Int)=F ((j * PW+q) * N+s)
        rw[HF2.out q j s hlq hls,← HQD.out.1,← HJD.out.1,← HJD.out.2,HQD.out.2,← Nat.add_assoc]
        simp
       have hkb:(j * PW+q) * N+s≤100000:=by
        have h1:=Nat.mul_le_mul (show j≤24 by omega) (show PW≤24 by omega)
        have h2:=Nat.mul_le_mul (show j * PW+q≤600 by omega) hN4
        omega
       obtain⟨K,hK⟩:∃ K,K=(j * PW+q) * N+s:=⟨_,rfl⟩
       rw[← hK] at HV hkb hI ⊢
       have HKK:=hid_of hK
       clear hK
       go_wp2_with (at_builtin; rw [HV.out]; refine pl_append (k:=K) rfl _ _ rfl rfl hI.out rfl hkb ?_)
       intro g' c' w' hI'
       have HI':=hid_of hI'
       clear hI' hI
       go_wp2_with fail
       go_roundg (N - (s+1))
       case measure=>omega
       case rel=>exact⟨s+1,g',c',by omega,Nat.le_refl _,by go_num,by rw [← Nat.add_assoc,← HKK.out],by rw [← Nat.add_assoc,← HKK.out]; exact HI'⟩
      ·obtain rfl:s=N:=by omega
       go_wp2_with fail
       go_roundg (PW - (q+1))
       case measure=>omega
       case rel=>exact⟨q+1,g,c,by omega,Nat.le_refl _,by go_num,by rw [← Nat.add_assoc,Nat.add_mul _ 1,Nat.one_mul],by rw [← Nat.add_assoc,Nat.add_mul _ 1,Nat.one_mul]; exact hI⟩
    ·obtain rfl:q=PW:=by omega
     go_wp2_with fail
     go_roundg (PH - (j+1))
     case measure=>omega
     case rel=>exact⟨j+1,g,c,by omega,Nat.le_refl _,by go_num,by rw [Nat.add_mul j 1,Nat.one_mul],by rw [Nat.add_mul j 1,Nat.one_mul]; exact hI⟩
  ·obtain rfl:j=PH:=by omega
   have HJT:Hid (j * PW * N=T):=by rw [HTT.out,Nat.mul_comm j PW]; exact rfl
   rw[HJT.out] at hI ⊢
   go_wp2_with fail
   go_ret
   exact⟨g,c,rfl,hI.out.2.1.mono (by omega),hI.out.2.2⟩
end
end Go.Proofs.YtcbbcadfolgioaaDoor
