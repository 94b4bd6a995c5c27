/-
  Texts of the proof, put together.
-/
import Derived.Test.YtkpbfmdnjnohlaaGreatRd31
import Derived.Test.YtkpbfmdnjnohlaaGreatRd14
namespace Go.Proofs.YtkpbfmdnjnohlaaGreat
section
open Go.RowKit Go.Joins OutMath PutMath RastMath HeadMath
theorem smq_in {p:Pic} (h:PngR p) {at' k:Nat} (ha:at' < pixN p) (hk:k < chanN p.hc):at' * chanN p.hc+k < p.sn∧0≤smq p at' k∧smq p at' k < p2 p.hd.toNat∧p.sn=pixN p * chanN p.hc:=by
 obtain⟨⟨_,hR,h1,h2,h3,h4⟩,_⟩:=h
 obtain⟨r1,r2,_,r4,r5⟩:=hR
 have hc0:=(chan_range p.hc).1
 have hsn:p.sn=pixN p * chanN p.hc:=by
  have e:((pixN p * chanN p.hc:Nat):Int)=p.rw * p.rh * chan p.rc:=by
   unfold pixN chanN
   rw[Int.natCast_mul,Int.toNat_of_nonneg hc0,Int.toNat_of_nonneg (by rw [← h1,← h2]; exact Int.mul_nonneg (by omega) (by omega)),h1,h2,h3]
  omega
 have hlt:at' * chanN p.hc+k < p.sn:=by
  have h5:=Nat.mul_le_mul_right (chanN p.hc) (show at'+1≤pixN p from ha)
  rw[Nat.succ_mul] at h5
  omega
 have h6:=r5 _ hlt
 rw[h4] at h6
 exact⟨hlt,h6.1,h6.2,hsn⟩
theorem p2_hd {p:Pic} (h:PngR p):∃ d:Nat,p.hd=(d:Int)∧Five (d:Int)∧p2 d≤65536:=by
 have h5:=depth_five h.1.1.2.2
 have hr:=five_range h5
 refine⟨p.hd.toNat,by omega,by rw [Int.toNat_of_nonneg (by omega)]; exact h5,?_⟩
 have h2:=p2_le (show p.hd.toNat≤16 by omega)
 rw[show p2 16=65536 by decide +kernel] at h2
 exact h2
set_option maxRecDepth 100000 in
set_option maxHeartbeats 1600000 in
theorem meant_any (p:Pic) (q:PicA) (at':Nat) (a:Option Addr) (cap:Nat) (w:World) (hP:PngIn w p q) (hZ:PngSz p) (hR:PngR p) (ha:at' < pixN p) (hS:Came w a (chanN p.hc) (fun k=>smq p at' k)) (hcap:chanN p.hc≤cap):
  Calls Tryz.prog 82 #[pngV p q,.slice a (chanN p.hc) cap] w (MeantPost (pixV p at') w):=by
 obtain⟨d,hd,h5,hp2⟩:=p2_hd hR
 have hsm:∀ i,i < chanN p.hc→0≤smq p at' i∧smq p at' i≤65535:=fun i hi=>by
  obtain⟨_,h1,h2,_⟩:=smq_in hR ha hi
  rw[hd,Int.toNat_natCast] at h2
  omega
 have hcl:clearB p at'=true↔LikeI (chanN p.hc) p.cn (fun k=>smq p at' k) p.C:=(clearB_iff p at').trans Iff.rfl
 have hD:=hR.1.1.2.2
 have hIn:=hR.2.2.2.1
 have hFits:=hR.2.1
 have hClr:=hR.2.2.1
 have hone:=fun (h0:0 < chanN p.hc)=>smq_in hR ha h0
 obtain⟨hw,hh,hd',hc',lace,tn,T,cn,C,rw',rh,rc,rd,sn,S,kn,K⟩:=p
 obtain⟨ta,tc,ca,cc,sa,sc,ka,kc⟩:=q
 have hT:RgbCame w ta tn T:=hP.t
 have hC:Came w ca cn C:=hP.c
 have hcn:cn≤1048576:=hZ.c
 simp only [] at hd hD hIn hFits hClr hcap
 subst hd
 have hc5:hc'=0∨hc'=3∨hc'=2∨hc'=4∨hc'=6:=by
  rcases hD with ⟨h,_⟩ | ⟨h,_⟩ | ⟨h | h | h,_⟩ <;> omega
 rcases hc5 with rfl | rfl | rfl | rfl | rfl
 ·refine (meant_0 hw hh d lace tn T cn C rw' rh rc rd sn kn ta ca sa ka tc cc sc kc a cap _ w hT hC hS h5 hcn _ hcl hsm).mono fun e w' h=>⟨h.1.trans ?_,h.2⟩
  refine congrArg (fun z=>Ending.returned (.agg z)) (four_congr fun k hk=>?_)
  simp[pixV]
 ·have h0:0 < chanN 3:=by decide
  have h1:=hone h0
  have hs0:=hIn rfl _ h1.1
  have hpl:smq ⟨hw,hh,(d:Int),3,lace,tn,T,cn,C,rw',rh,rc,rd,sn,S,kn,K⟩ at' 0 < (tn:Int):=hs0
  obtain⟨pl,hpe⟩:∃ pl:Nat,smq ⟨hw,hh,(d:Int),3,lace,tn,T,cn,C,rw',rh,rc,rd,sn,S,kn,K⟩ at' 0=(pl:Int):=⟨_,(Int.toNat_of_nonneg h1.2.1).symm⟩
  have hTR:TableR T tn:=by
   have:=hFits
   unfold FitsR at this
   rw[if_pos rfl] at this
   exact this.1
  have hcov:0≤coverT ⟨hw,hh,(d:Int),3,lace,tn,T,cn,C,rw',rh,rc,rd,sn,S,kn,K⟩ (pl:Int)∧coverT ⟨hw,hh,(d:Int),3,lace,tn,T,cn,C,rw',rh,rc,rd,sn,S,kn,K⟩ (pl:Int)≤255:=by
   unfold coverT
   split
   ·next h=>
    have h':(pl:Int) < (cn:Int):=h
    rcases hClr with h0 | h0
    ·have h0':cn=0:=h0
     omega
    ·rcases h0.2 with ⟨q,_⟩ | ⟨q,_⟩ | ⟨_,_,q⟩
     ·omega
     ·omega
     ·have:=q pl (by omega)
      rw[p2_8] at this
      rw[Int.toNat_natCast]
      show 0≤C pl∧C pl≤255
      omega
   ·omega
  refine (meant_3 hw hh d lace tn T cn C rw' rh rc rd sn kn ta ca sa ka tc cc sc kc a cap _ w hT hC hS pl hpe (by omega) (hTR.2 pl (by omega)) _ (by show _=_; unfold coverT; rw [Int.toNat_natCast]) hcov.1 hcov.2).mono fun e w' h=>⟨h.1.trans ?_,h.2⟩
  refine congrArg (fun z=>Ending.returned (.agg z)) (four_congr fun k hk=>?_)
  simp[pixV,hpe]
 ·refine (meant_2 hw hh d lace tn T cn C rw' rh rc rd sn kn ta ca sa ka tc cc sc kc a cap _ w hT hC hS h5 hcn _ hcl hsm).mono fun e w' h=>⟨h.1.trans ?_,h.2⟩
  refine congrArg (fun z=>Ending.returned (.agg z)) (four_congr fun k hk=>?_)
  simp[pixV]
 ·refine (meant_4 hw hh d lace tn T cn C rw' rh rc rd sn kn ta ca sa ka tc cc sc kc a cap _ w hT hC hS h5 hcap hsm).mono fun e w' h=>⟨h.1.trans ?_,h.2⟩
  refine congrArg (fun z=>Ending.returned (.agg z)) (four_congr fun k hk=>?_)
  simp[pixV]
 ·refine (meant_6 hw hh d lace tn T cn C rw' rh rc rd sn kn ta ca sa ka tc cc sc kc a cap _ w hT hC hS h5 hcap hsm).mono fun e w' h=>⟨h.1.trans ?_,h.2⟩
  refine congrArg (fun z=>Ending.returned (.agg z)) (four_congr fun k hk=>?_)
  simp[pixV]
end
section
open Go.RowKit Go.Joins Go.Shelf OutMath PutMath RastMath HeadMath
attribute [local go_sem] Oper.semAt_some
theorem own_kept {V V':World} {Bs n:Nat} {v:Value} {L:List Value} (h:V.ownsRow Bs 3 1 v n L) (hk:∀ (b:Nat) (cs:Array Value) (fz:Nat×Nat),Bs≤b→V.heap[b]?=some (.cells cs 3 fz)→V'.heap[b]?=V.heap[b]?):V'.ownsRow Bs 3 1 v n L:=by
 refine⟨h.1,?_⟩
 rcases h.2 with h | ⟨g,cap,cur,e,q1,q2,q3⟩
 ·exact .inl h
 ·exact .inr ⟨g,cap,cur,e,q1,(hk g _ _ q1 q2).trans q2,q3⟩
theorem info_int18:(Tryz.prog.info? 3).map (fun i=>(i.zero,i.size,i.bytes))=some (some (.int .i64 0),1,8):=by kernel_rfl
theorem step_append_run {o:Oper} {a:Act} {w w':World} {K:Act→World→Prop} {Q:Exit→Act→World→Prop} {v':Value} (s x:Operand) (t:TypeId) (ho:o.op=.call { callee:=.builtin .append,args:=#[s,x],argTypes:=#[t,t] }) (v u:Value) (hs:a.eval s=v) (hx:a.eval x=u) (hr:(Builtin.append_ #[t,t] o.type #[v,u]).run Tryz.prog w=.ok v' w') (h:K (a.put o.dst v') w'):Oper.wp Tryz.prog o a w K Q:=by
 unfold Oper.wp execOp
 simp only [ho,resolve,invoke,builtin,Sem.run_bind,Sem.run_pure,Result.andThen_ok,List.map_toArray,List.map_cons,List.map_nil,hs,hx,hr]
 exact h
theorem calm_of {Q:Exit→Act→World→Prop} {a:Act} {w:World} (h:Q .normal a w):Go.NoPanic Q .normal a w:=h
end
section
open Go.RowKit OutMath PutMath RastMath HeadMath ChunkMath CrcMath
def pq (p:Pic) (i:Nat):Q4:=(pixV p i 0,pixV p i 1,pixV p i 2,pixV p i 3)
def meaN (p:Pic):Nat:=(ddL (pq p) (pixN p)).length
def tblV (p:Pic) (j:Nat):Q4:=(ddL (pq p) (pixN p)).getD j (0,0,0,0)
def TblM (p:Pic):Prop:=MayR p∧(p.hc=2∨p.hc=6)∧p.hd=8
def TblC (p:Pic):Prop:=TblM p∧meaN p≤256
def tblP (p:Pic):Pic:=⟨p.hw,p.hh,(tblD (meaN p):Int),3,p.lace,meaN p,fun j=>((tblV p j).1 / 257,(tblV p j).2.1 / 257,(tblV p j).2.2.1 / 257),trimC (cvL (tblV p) (meaN p)) (meaN p),fun j=>(tblV p j).2.2.2 / 257,p.hw,p.hh,3,(tblD (meaN p):Int),pixN p,fun i=>(plc (pq p) i:Int),p.kn,p.K⟩
def Eight (x:Int):Prop:=∃ m:Int,0≤m∧m≤255∧x=257 * m
theorem pq_eight {p:Pic} (h:TblM p) {i:Nat} (hi:i < pixN p):Eight (pq p i).1∧Eight (pq p i).2.1∧Eight (pq p i).2.2.1∧Eight (pq p i).2.2.2:=by
 obtain⟨⟨hR,_⟩,hc,hd⟩:=h
 have hm:mulD p.hd.toNat=257:=by rw [hd]; decide +kernel
 have hs:∀ k,k < chanN p.hc→0≤smq p i k∧smq p i k≤255:=fun k hk=>by
  have h2:=smq_in hR hi hk
  rw[hd,show p2 (Int.toNat 8)=256 by decide +kernel] at h2
  omega
 have e8:∀ k,k < chanN p.hc→Eight (smq p i k * mulD p.hd.toNat):=fun k hk=>⟨smq p i k,(hs k hk).1,(hs k hk).2,by rw [hm,Int.mul_comm]⟩
 rcases hc with hc | hc
 ·have hn:chanN p.hc=3:=by rw [hc]; decide
  refine⟨?_,?_,?_,?_⟩ <;> show Eight (pixV p i _) <;> unfold pixV <;> simp only [hc]
  ·exact e8 0 (by omega)
  ·exact e8 1 (by omega)
  ·exact e8 2 (by omega)
  ·by_cases hb:clearB p i=true
   ·simp only [hb]; exact⟨0,by omega,by omega,rfl⟩
   ·simp only [hb]; exact⟨255,by omega,by omega,rfl⟩
 ·have hn:chanN p.hc=4:=by rw [hc]; decide
  refine⟨?_,?_,?_,?_⟩ <;> show Eight (pixV p i _) <;> unfold pixV <;> simp only [hc]
  ·exact e8 0 (by omega)
  ·exact e8 1 (by omega)
  ·exact e8 2 (by omega)
  ·exact e8 3 (by omega)
theorem ddL_mem {f:Nat→Q4} {n:Nat} {q:Q4} (h:q∈ddL f n):∃ i,i < n∧f i=q:=by
 induction n with
 | zero=>simp [ddL] at h
 | succ n ih=>
  rw[ddL_succ] at h
  split at h
  ·obtain⟨i,hi,e⟩:=ih h
   exact⟨i,by omega,e⟩
  ·rcases List.mem_append.mp h with h | h
   ·obtain⟨i,hi,e⟩:=ih h
    exact⟨i,by omega,e⟩
   ·exact⟨n,by omega,(List.mem_singleton.mp h).symm⟩
theorem Eight.range {x:Int} (h:Eight x):0≤x∧x≤65535:=by
 obtain⟨m,h1,h2,rfl⟩:=h
 omega
theorem pq_ok {p:Pic} (h:TblM p) {i:Nat} (hi:i < pixN p):QOk (pq p i):=by
 obtain⟨a,b,c,d⟩:=pq_eight h hi
 exact⟨a.range,b.range,c.range,d.range⟩
theorem tblV_ok {p:Pic} (h:TblM p) {j:Nat} (hj:j < meaN p):QOk (tblV p j):=by
 have hm:tblV p j∈ddL (pq p) (pixN p):=by
  unfold tblV
  rw[List.getD_eq_getElem?_getD,List.getElem?_eq_getElem hj]
  exact List.getElem_mem hj
 obtain⟨i,hi,e⟩:=ddL_mem hm
 rw[← e]
 exact pq_ok h hi
theorem meaN_le (p:Pic):meaN p≤pixN p:=ddL_length _ _
theorem meaN_pos {p:Pic} (h:PngR p):1≤meaN p:=by
 have h1:=(png_n h).2.1
 have h2:=List.length_pos_of_mem (ddL_here (pq p) (pixN p - 1))
 rw[show pixN p - 1+1=pixN p by omega] at h2
 exact h2
theorem tblP_sz {p:Pic} (h:TblC p) (hZ:PngSz p):PngSz (tblP p):=by
 have h1:=(png_n h.1.1.1).2.2
 have h2:=meaN_le p
 have h3:=trimC_le (cvL (tblV p) (meaN p)) (meaN p)
 exact⟨by show meaN p≤1048576; omega,by show trimC (cvL (tblV p) (meaN p)) (meaN p)≤1048576; omega,by show pixN p≤1048576; omega,hZ.k,hZ.m⟩
def E4 (q:Q4):Prop:=Eight q.1∧Eight q.2.1∧Eight q.2.2.1∧Eight q.2.2.2
theorem e4_apart {q r:Q4} (hq:E4 q) (hr:E4 r):((r.1 / 257=q.1 / 257∧r.2.1 / 257=q.2.1 / 257∧r.2.2.1 / 257=q.2.2.1 / 257)∧r.2.2.2 / 257=q.2.2.2 / 257)↔r=q:=by
 obtain⟨a,b,c,d⟩:=q
 obtain⟨a',b',c',d'⟩:=r
 obtain⟨⟨m1,_,_,h1⟩,⟨m2,_,_,h2⟩,⟨m3,_,_,h3⟩,⟨m4,_,_,h4⟩⟩:=hq
 obtain⟨⟨n1,_,_,k1⟩,⟨n2,_,_,k2⟩,⟨n3,_,_,k3⟩,⟨n4,_,_,k4⟩⟩:=hr
 simp only at h1 h2 h3 h4 k1 k2 k3 k4
 subst h1 h2 h3 h4 k1 k2 k3 k4
 simp only [Prod.mk.injEq]
 constructor
 ·rintro⟨⟨e1,e2,e3⟩,e4⟩
  exact⟨by omega,by omega,by omega,by omega⟩
 ·rintro⟨e1,e2,e3,e4⟩
  exact⟨⟨by omega,by omega,by omega⟩,by omega⟩
theorem tblV_e4 {p:Pic} (h:TblM p) {j:Nat} (hj:j < meaN p):E4 (tblV p j):=by
 have hm:tblV p j∈ddL (pq p) (pixN p):=by
  unfold tblV
  rw[List.getD_eq_getElem?_getD,List.getElem?_eq_getElem hj]
  exact List.getElem_mem hj
 obtain⟨i,hi,e⟩:=ddL_mem hm
 rw[← e]
 exact pq_eight h hi
def meaL (p:Pic) (i:Nat):Nat:=(ddL (pq p) i).length
theorem meaL_le {p:Pic} {i:Nat} (h:i≤pixN p):meaL p i≤meaN p:=ddL_grows _ h
def atT (p:Pic) (i m:Nat):Int:=atL (ddL (pq p) (pixN p)) (pq p i) m
theorem atT_succ (p:Pic) (i m:Nat):atT p i (m+1)=if tblV p m=pq p i then (m:Int) else atT p i m:=rfl
theorem atL_prefix {D r:List Q4} {q:Q4}:∀ m,m≤D.length→atL (D ++ r) q m=atL D q m:=by
 intro m hm
 induction m with
 | zero=>rfl
 | succ m ih=>
  unfold atL
  rw[ih (by omega),List.getD_eq_getElem?_getD,List.getElem?_append_left (by omega),← List.getD_eq_getElem?_getD]
theorem atT_len {p:Pic} {i:Nat} (h:i < pixN p):atT p i (meaL p i)=if pq p i∈ddL (pq p) i then (plc (pq p) i:Int) else -1:=by
 obtain⟨r,hr⟩:=ddL_more (pq p) i (pixN p - i)
 rw[show i+(pixN p - i)=pixN p by omega] at hr
 unfold atT meaL
 rw[hr,atL_prefix _ (Nat.le_refl _)]
 split
 ·rename_i hm
  rw[atL_some (ddL_nodup _ _) hm,plc_old hm]
 ·rename_i hm
  rw[atL_none hm _ (Nat.le_refl _)]
theorem meaL_old {p:Pic} {i:Nat} (h:pq p i∈ddL (pq p) i):meaL p (i+1)=meaL p i:=by
 unfold meaL
 rw[ddL_succ,if_pos h]
theorem meaL_new {p:Pic} {i:Nat} (h:pq p i ∉ ddL (pq p) i) (hi:i < pixN p):meaL p (i+1)=meaL p i+1∧tblV p (meaL p i)=pq p i∧plc (pq p) i=meaL p i:=by
 refine⟨?_,?_,plc_new h⟩
 ·unfold meaL
  rw[ddL_succ,if_neg h,List.length_append]
  rfl
 ·obtain⟨r,hr⟩:=ddL_more (pq p) (i+1) (pixN p - (i+1))
  rw[show i+1+(pixN p - (i+1))=pixN p by omega,ddL_succ,if_neg h] at hr
  unfold tblV meaL
  rw[hr,List.getD_eq_getElem?_getD,List.getElem?_append_left (by rw [List.length_append]; simp),List.getElem?_append_right (Nat.le_refl _),Nat.sub_self]
  rfl
def plcL (p:Pic) (i:Nat):List Int:=(List.range i).map fun j=>(plc (pq p) j:Int)
theorem plcL_length (p:Pic) (i:Nat):(plcL p i).length=i:=by simp [plcL]
theorem plcL_succ (p:Pic) (i:Nat):plcL p (i+1)=plcL p i ++ [(plc (pq p) i:Int)]:=by simp [plcL,List.range_succ]
theorem plcL_get (p:Pic) (i j:Nat) (h:j < i):(plcL p i).getD j 0=(plc (pq p) j:Int):=by
 rw[List.getD_eq_getElem?_getD,List.getElem?_eq_getElem (by rw [plcL_length]; exact h)]
 simp[plcL]
theorem tblC_iff {p:Pic} (h:TblM p):TblC p↔∀ i,i < pixN p→plc (pq p) i≤255:=by
 have hd:=dd_many (pq p) (pixN p)
 constructor
 ·rintro⟨_,hc⟩ i hi
  rcases Nat.lt_or_ge 255 (plc (pq p) i) with h1 | h1
  ·have:256 < (ddL (pq p) (pixN p)).length:=hd.mpr ⟨i,hi,h1⟩
   unfold meaN at hc
   omega
  ·exact h1
 ·intro hc
  refine⟨h,?_⟩
  rcases Nat.lt_or_ge 256 (meaN p) with h1 | h1
  ·obtain⟨i,hi,h2⟩:=hd.mp h1
   have:=hc i hi
   omega
  ·exact h1
def DepR (n d:Nat):Prop:=d=1∨(d=2∧2 < n)∨(d=4∧4 < n)∨(d=8∧16 < n)
theorem dep_le {n d:Nat} (h:DepR n d):1≤d∧d≤8:=by
 unfold DepR at h
 omega
theorem dep_step {n d:Nat} (h:DepR n d) (hn:n≤256) (hl:p2 d < (n:Int)):DepR n (2 * d)∧d≤4:=by
 rcases h with rfl | ⟨rfl,h⟩ | ⟨rfl,h⟩ | ⟨rfl,h⟩
 ·rw[show p2 1=2 by decide +kernel] at hl
  exact⟨.inr (.inl ⟨rfl,by omega⟩),by omega⟩
 ·rw[show p2 2=4 by decide +kernel] at hl
  exact⟨.inr (.inr (.inl ⟨rfl,by omega⟩)),by omega⟩
 ·rw[show p2 4=16 by decide +kernel] at hl
  exact⟨.inr (.inr (.inr ⟨rfl,by omega⟩)),by omega⟩
 ·rw[show p2 8=256 by decide +kernel] at hl
  omega
theorem dep_end {n d:Nat} (h:DepR n d) (hl:¬ p2 d < (n:Int)):d=tblD n:=by
 unfold tblD
 rcases h with rfl | ⟨rfl,h⟩ | ⟨rfl,h⟩ | ⟨rfl,h⟩
 ·rw[show p2 1=2 by decide +kernel] at hl
  rw[if_pos (by omega)]
 ·rw[show p2 2=4 by decide +kernel] at hl
  rw[if_neg (by omega),if_pos (by omega)]
 ·rw[show p2 4=16 by decide +kernel] at hl
  rw[if_neg (by omega),if_neg (by omega),if_pos (by omega)]
 ·rw[if_neg (by omega),if_neg (by omega),if_neg (by omega)]
end
section
open Go.RowKit Go.Joins OutMath PutMath RastMath HeadMath ChunkMath
def MB (w:World) (A:Array Value) (w2 u:World):Prop:=MoP w A u∧Below w2.heap.size w2 u
theorem MB.called {w w2 u u':World} {A:Array Value} (h:MB w A w2 u) (hb:Below u.heap.size u u'):MB w A w2 u':=⟨h.1.called hb,bnext h.2 hb⟩
structure TK (w:World) (A:Array Value) (w2:World) (X:Nat) (O:Array Value) (a:Option Addr) (n:Nat) (F:Nat→Chk) (u:World):Prop where
 k:WK w A X O a n F u
 b:Below w2.heap.size w2 u
 lt:w2.heap.size≤X
theorem TK.set {w w2 u:World} {A O:Array Value} {X n:Nat} {a:Option Addr} {F:Nat→Chk} (h:TK w A w2 X O a n F u) (k:Nat) (v:Value):TK w A w2 X (O.setIfInBounds k v) a n F (u.setCell ⟨X,k,none⟩ v):=⟨h.k.set k v,h.b.setCell (p:=⟨X,k,none⟩) h.lt v,h.lt⟩
structure WX (w:World) (A:Array Value) (X:Nat) (O:Array Value) (r:Pic) (q:PicA) (u:World):Prop where
 p:WP w A r q u
 x:BoxAt u X O
 lt:w.heap.size+1 < X
theorem WX.set {w u:World} {A O:Array Value} {X:Nat} {r:Pic} {q:PicA} (h:WX w A X O r q u) (k:Nat) (v:Value):WX w A X (O.setIfInBounds k v) r q (u.setCell ⟨X,k,none⟩ v):=⟨⟨h.p.m.other X k v h.lt,h.p.l.put h.x k v⟩,h.x.put k v,h.lt⟩
end
end Go.Proofs.YtkpbfmdnjnohlaaGreat
