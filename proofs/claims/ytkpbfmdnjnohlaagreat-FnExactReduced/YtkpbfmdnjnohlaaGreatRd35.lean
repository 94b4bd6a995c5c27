/-
  Texts of the proof, put together.
-/
import Derived.Test.YtkpbfmdnjnohlaaGreatRd34
import Derived.Test.YtkpbfmdnjnohlaaGreatRd29
import Derived.Test.YtkpbfmdnjnohlaaGreatRd05
import Derived.Deep.CutRange
import Derived.Laws.EntriesVeiled
namespace Go.Proofs.YtkpbfmdnjnohlaaGreat
section
open Go.RowKit OutMath PutMath RastMath HeadMath ChunkMath CrcMath
def colO (p:Pic):Nat:=if p.hc=2 then 1 else 2
def clN (p:Pic):Nat:=p.cn / (colO p+2)
def ColC (p:Pic):Prop:=(MayR p∧(p.hc=2∨p.hc=6))∧(∀ k,k < pixN p→GryR (colO p+2) p.S k)∧∀ k,k < clN p→GryR (colO p+2) p.C k
def colP (p:Pic):Pic:=withP p (p.hc - 2) p.hd (colO p * pixN p) (tkF (colO p+2) 2 (colO p) p.S) (colO p * clN p) (tkF (colO p+2) 2 (colO p) p.C)
theorem col_clear {p:Pic} (h:PngR p):(p.hc=2→p.cn=0∨p.cn=3)∧(p.hc=6→p.cn=0):=by
 obtain⟨_,_,hC,_⟩:=h
 rcases hC with h | ⟨h1,⟨h2,_⟩ | ⟨h2,h3,_⟩ | ⟨h2,_⟩⟩ <;> exact⟨fun _=>by omega,fun _=>by omega⟩
theorem colP_sz {p:Pic} (h:ColC p) (hZ:PngSz p):PngSz (colP p):=by
 have h1:=(png_n h.1.1.1).2.2
 have h3:colO p≤2:=by unfold colO; split <;> omega
 have h4:=Nat.mul_le_mul h3 h1
 have h5:=(png_fits h.1.1.1).2.2.1
 have h6:clN p≤256:=Nat.le_trans (Nat.div_le_self _ _) h5
 have h7:=Nat.mul_le_mul h3 h6
 exact⟨Nat.zero_le _,by show colO p * clN p≤1048576; omega,by show colO p * pixN p≤1048576; omega,hZ.k,hZ.m⟩
end
section
open Go.RowKit Go.Joins HeadMath ChunkMath
def DepC (p:Pic):Prop:=(MayR p∧p.hd=16)∧HalfR p (257:Nat)
def depP (p:Pic):Pic:=halfP p 8 (257:Nat)
def Stp (C:Pic→Prop) (r:Pic→Pic) (p m:Pic):Prop:=(C p∧m=r p)∨(¬ C p∧m=p)
section
variable {C:Pic→Prop} {r:Pic→Pic} {p a b:Pic}
theorem Stp.fn (h:Stp C r p a) (h':Stp C r p b):a=b:=by
 rcases h with ⟨h1,h2⟩ | ⟨h1,h2⟩ <;> rcases h' with ⟨k1,k2⟩ | ⟨k1,k2⟩
 ·rw[h2,k2]
 ·exact absurd h1 k1
 ·exact absurd k1 h1
 ·rw[h2,k2]
theorem Stp.none (h:Stp C r p a) (hn:¬ C p):a=p:=by
 rcases h with ⟨h1,_⟩ | ⟨_,h2⟩
 ·exact absurd h1 hn
 ·exact h2
theorem stp_one (hr:C p→PngSz (r p)) (hZ:PngSz p):∃ m,Stp C r p m∧PngSz m:=by
 by_cases h:C p
 ·exact⟨r p,.inl ⟨h,rfl⟩,hr h⟩
 ·exact⟨p,.inr ⟨h,rfl⟩,hZ⟩
end
def Gray3 (p m:Pic):Prop:=∃ a b,Stp GrayC grayP p a∧Stp GrayC grayP a b∧Stp GrayC grayP b m
def LateR (p m:Pic):Prop:=∃ a b,Stp ColC colP p a∧Stp TblC tblP a b∧Gray3 b m
def MidR (p m:Pic):Prop:=∃ a,Stp CovC covP p a∧LateR a m
def RedR (p m:Pic):Prop:=∃ a,Stp DepC depP p a∧MidR a m
theorem Gray3.fn {p m m':Pic} (h:Gray3 p m) (h':Gray3 p m'):m=m':=by
 obtain⟨a,b,h1,h2,h3⟩:=h
 obtain⟨a',b',k1,k2,k3⟩:=h'
 obtain rfl:=h1.fn k1
 obtain rfl:=h2.fn k2
 exact h3.fn k3
theorem LateR.fn {p m m':Pic} (h:LateR p m) (h':LateR p m'):m=m':=by
 obtain⟨a,b,h1,h2,h3⟩:=h
 obtain⟨a',b',k1,k2,k3⟩:=h'
 obtain rfl:=h1.fn k1
 obtain rfl:=h2.fn k2
 exact h3.fn k3
theorem RedR.fn {p m m':Pic} (h:RedR p m) (h':RedR p m'):m=m':=by
 obtain⟨a,h1,b,h2,h3⟩:=h
 obtain⟨a',k1,b',k2,k3⟩:=h'
 obtain rfl:=h1.fn k1
 obtain rfl:=h2.fn k2
 exact h3.fn k3
theorem RedR.mid {p m:Pic} (h:RedR p m) (hd:p.hd≠16):MidR p m:=by
 obtain⟨a,h1,h2⟩:=h
 obtain rfl:=h1.none fun h=>hd h.1.2
 exact h2
theorem MidR.late {p m:Pic} (h:MidR p m) (hc:p.hc≠4∧p.hc≠6):LateR p m:=by
 obtain⟨a,h1,h2⟩:=h
 obtain rfl:=h1.none fun h=>by have:=h.1.2; omega
 exact h2
theorem LateR.gray {p m:Pic} (h:LateR p m) (hc:p.hc≠2∧p.hc≠6):Gray3 p m:=by
 obtain⟨a,b,h1,h2,h3⟩:=h
 obtain rfl:=h1.none fun h=>by have:=h.1.2; omega
 obtain rfl:=h2.none fun h=>by have:=h.1.2.1; omega
 exact h3
theorem Gray3.same {p m:Pic} (h:Gray3 p m) (hc:p.hc≠0):m=p:=by
 obtain⟨a,b,h1,h2,h3⟩:=h
 have hn:¬ GrayC p:=fun h=>hc h.1.2.1
 obtain rfl:=h1.none hn
 obtain rfl:=h2.none hn
 exact h3.none hn
def GrayN:Nat→Pic→Pic→Prop
 | 0,p,m=>¬ GrayC p∧m=p
 | k+1,p,m=>(GrayC p∧GrayN k (grayP p) m)∨(¬ GrayC p∧m=p)
theorem gray_hd {p:Pic}:(grayP p).hd=p.hd / 2:=rfl
theorem Gray3.times {p m:Pic} (h:Gray3 p m):GrayN 3 p m:=by
 obtain⟨a,b,h1,h2,h3⟩:=h
 rcases h1 with ⟨c1,rfl⟩ | ⟨c1,rfl⟩
 ·refine .inl ⟨c1,?_⟩
  rcases h2 with ⟨c2,rfl⟩ | ⟨c2,rfl⟩
  ·refine .inl ⟨c2,?_⟩
   rcases h3 with ⟨c3,rfl⟩ | ⟨c3,rfl⟩
   ·refine .inl ⟨c3,fun c4=>?_,rfl⟩
    have e1:=c1.1.2.2
    have e2:=c4.1.2.2
    rw[gray_hd,gray_hd,gray_hd] at e2
    omega
   ·exact .inr ⟨c3,rfl⟩
  ·refine .inr ⟨c2,?_⟩
   exact h3.none c2
 ·refine .inr ⟨c1,?_⟩
  obtain rfl:=h2.none c1
  exact h3.none c1
theorem gray3_one (p:Pic) (hZ:PngSz p):∃ m,Gray3 p m∧PngSz m:=by
 obtain⟨a,h1,z1⟩:=stp_one (C:=GrayC) (r:=grayP) (p:=p) (fun _=>half_sz hZ _ _) hZ
 obtain⟨b,h2,z2⟩:=stp_one (C:=GrayC) (r:=grayP) (p:=a) (fun _=>half_sz z1 _ _) z1
 obtain⟨m,h3,z3⟩:=stp_one (C:=GrayC) (r:=grayP) (p:=b) (fun _=>half_sz z2 _ _) z2
 exact⟨m,⟨a,b,h1,h2,h3⟩,z3⟩
theorem cov_sz {p:Pic} (hZ:PngSz p) (h:CovC p):PngSz (covP p):=⟨Nat.zero_le _,Nat.zero_le _,covP_sn h,hZ.k,hZ.m⟩
theorem red_some (p:Pic) (hZ:PngSz p):∃ m,RedR p m∧PngSz m:=by
 obtain⟨a,h1,z1⟩:=stp_one (C:=DepC) (r:=depP) (p:=p) (fun _=>half_sz hZ _ _) hZ
 obtain⟨b,h2,z2⟩:=stp_one (C:=CovC) (r:=covP) (p:=a) (cov_sz z1) z1
 obtain⟨c,h3,z3⟩:=stp_one (C:=ColC) (r:=colP) (p:=b) (fun h=>colP_sz h z2) z2
 obtain⟨d,h4,z4⟩:=stp_one (C:=TblC) (r:=tblP) (p:=c) (fun h=>tblP_sz h z3) z3
 obtain⟨m,h5,z5⟩:=gray3_one d z4
 exact⟨m,⟨a,h1,b,h2,c,d,h3,h4,h5⟩,z5⟩
def RedPost (p:Pic) (w:World) (e:Ending) (w':World):Prop:=∃ m q,RedR p m∧e=.returned (pngV m q)∧PngSL w' w.heap.size m q∧Below w.heap.size w w'
theorem red_one (p:Pic) (hZ:PngSz p):∃ m:Pic,PngSz m∧∀ w e w',RedPost p w e w'→∃ q,e=.returned (pngV m q)∧PngSL w' w.heap.size m q∧Below w.heap.size w w':=by
 obtain⟨m,hR,hm⟩:=red_some p hZ
 refine⟨m,hm,fun w e w' h=>?_⟩
 obtain⟨m',q,h1,h2⟩:=h
 obtain rfl:=hR.fn h1
 exact⟨q,h2⟩
end
section
open Go.RowKit
def grL (n:Nat) (f:Nat→Int):Nat→List Int
 | 0=>[]
 | i+1=>if i % n=0∨i % n=3 then grL n f i ++ [f i] else grL n f i
theorem grL_succ (n:Nat) (f:Nat→Int) (i:Nat):grL n f (i+1)=if i % n=0∨i % n=3 then grL n f i ++ [f i] else grL n f i:=rfl
theorem grL_length (n:Nat) (f:Nat→Int) (i:Nat):(grL n f i).length≤i:=by
 induction i with
 | zero=>simp [grL]
 | succ i ih=>
  rw[grL_succ]
  split
  ·simp; omega
  ·omega
theorem grL_3 (f:Nat→Int) (N:Nat) (h:∀ k,k < N→GryR 3 f k):grL 3 f (3 * N)=(List.range N).map (tkF 3 2 1 f):=by
 induction N with
 | zero=>rfl
 | succ k ih=>
  have hk:=h k (by omega)
  have e:=tkF_at 3 2 1 f k 0 (by omega)
  rw[Nat.one_mul,Nat.add_zero,Nat.add_zero] at e
  rw[show 3 * (k+1)=3 * k+1+1+1 by omega,grL_succ,if_neg (by omega),grL_succ,if_neg (by omega),grL_succ,if_pos (by omega),ih fun j hj=>h j (by omega),List.range_succ,List.map_append]
  simp only [List.map_cons,List.map_nil]
  rw[e,← hk.2,← hk.1]
theorem grL_4 (f:Nat→Int) (N:Nat) (h:∀ k,k < N→GryR 4 f k):grL 4 f (4 * N)=(List.range (2 * N)).map (tkF 4 2 2 f):=by
 induction N with
 | zero=>rfl
 | succ k ih=>
  have hk:=h k (by omega)
  have e:=tkF_at 4 2 2 f k 0 (by omega)
  have e':=tkF_at 4 2 2 f k 1 (by omega)
  rw[Nat.add_zero,Nat.add_zero] at e
  rw[show 4 * (k+1)=4 * k+1+1+1+1 by omega,grL_succ,if_pos (by omega),grL_succ,if_neg (by omega),grL_succ,if_neg (by omega),grL_succ,if_pos (by omega),ih fun j hj=>h j (by omega),show 2 * (k+1)=2 * k+1+1 by omega,List.range_succ,List.range_succ,List.map_append,List.map_append]
  simp only [List.map_cons,List.map_nil]
  rw[e,e',← hk.2,← hk.1]
end
section
open Go.RowKit Go.Joins OutMath PutMath RastMath HeadMath ChunkMath
theorem took {C:Pic→Prop} {r:Pic→Pic} {p:Pic} {w w':World} {e:Ending} {b:Nat} (hb:b≤w.heap.size) (h:LessPost (C p) (r p) w e w'):∃ x q ok,e=.returned (.tuple #[.agg #[.int .i64 x.hw,.int .i64 x.hh,.int .i64 x.hd,.int .i64 x.hc,.bool x.lace,.slice q.ta x.tn q.tc,.slice q.ca x.cn q.cc,.int .i64 x.rw,.int .i64 x.rh,.int .i64 x.rc,.int .i64 x.rd,.slice q.sa x.sn q.sc,.slice q.ka x.kn q.kc],.bool ok])∧(ok=true→(C p∧x=r p)∧PngSL w' b x q)∧(ok=false→¬ C p)∧Below w.heap.size w w':=by
 rcases h with ⟨h1,h2,h3⟩ | ⟨h1,q,h2,h3,h4⟩
 ·exact⟨noPic,noPicA,false,h2,fun h=>by (cases h),fun _=>h1,h3⟩
 ·exact⟨r p,q,true,h2,fun _=>⟨⟨h1,rfl⟩,h3.low hb⟩,fun h=>(by cases h),h4⟩
structure RB (w:World) (A O:Array Value) (Y b:Nat) (ok:Bool) (p:Pic) (q:PicA) (x:Pic) (q':PicA) (u:World):Prop where
 m:MoP w A u
 y:BoxAt u Y O
 l:PngSL u b p q
 e:ok=true→PngSL u b x q'
 lt:w.heap.size+1 < Y
section
variable {w u u':World} {A O:Array Value} {Y b:Nat} {ok:Bool} {p x:Pic} {q q':PicA}
theorem RB.called (h:RB w A O Y b ok p q x q' u) (hb:Below u.heap.size u u'):RB w A O Y b ok p q x q' u':=⟨h.m.called hb,h.y.called hb,h.l.called hb,fun k=>(h.e k).called hb,h.lt⟩
theorem RB.set (h:RB w A O Y b ok p q x q' u) (k:Nat) (v:Value):RB w A (O.setIfInBounds k v) Y b ok p q x q' (u.setCell ⟨Y,k,none⟩ v):=⟨h.m.other Y k v h.lt,h.y.put k v,h.l.put h.y k v,fun j=>(h.e j).put h.y k v,h.lt⟩
theorem RB.arg (h:RB w A O Y b ok p q x q' u) (k:Nat) (v:Value):RB w (A.setIfInBounds k v) O Y b ok p q x q' (u.setCell ⟨w.heap.size,k,none⟩ v):=⟨h.m.arg k v,by rw [BoxAt,Below.heap_setCell _ _ _ _ (by show Y≠w.heap.size; have:=h.lt; omega)]; exact h.y,PngSL.put (O:=A) h.l h.m.1 k v,fun j=>PngSL.put (O:=A) (h.e j) h.m.1 k v,h.lt⟩
theorem RB.new (hm:MoP w A u) (hl:PngSL u b p q) (he:ok=true→PngSL u b x q') (Z:Array Value):RB w A Z u.heap.size b ok p q x q' (u.alloc (.cells Z 37)):=⟨hm.called (bstart u _),heap_alloc_new u _,hl.called (bstart u _),fun k=>(he k).called (bstart u _),hm.cells.2.2⟩
structure WQ (w:World) (A:Array Value) (b:Nat) (r:Pic) (q:PicA) (u:World):Prop where
 m:MoP w A u
 l:PngSL u b r q
theorem WQ.put {r:Pic} (h:WQ w A b r q u) (k:Nat) (v:Value):WQ w A b r q (u.setCell ⟨w.heap.size+1,k,none⟩ v):=by
 obtain⟨Z,h2,_⟩:=h.m.2.1
 exact⟨h.m.put k v,PngSL.put (O:=Z) h.l h2 k v⟩
theorem WQ.stored {r:Pic} (h:WQ w A b r q u) (v0 v1 v2 v3 v4 v5 v6 v7 v8 v9 v10 v11 v12:Value):PngSL (((((((((((((u.setCell ⟨w.heap.size+1,0,none⟩ v0).setCell ⟨w.heap.size+1,1,none⟩ v1).setCell ⟨w.heap.size+1,2,none⟩ v2).setCell ⟨w.heap.size+1,3,none⟩ v3).setCell ⟨w.heap.size+1,4,none⟩ v4).setCell ⟨w.heap.size+1,5,none⟩ v5).setCell ⟨w.heap.size+1,6,none⟩ v6).setCell ⟨w.heap.size+1,7,none⟩ v7).setCell ⟨w.heap.size+1,8,none⟩ v8).setCell ⟨w.heap.size+1,9,none⟩ v9).setCell ⟨w.heap.size+1,10,none⟩ v10).setCell ⟨w.heap.size+1,11,none⟩ v11).setCell ⟨w.heap.size+1,12,none⟩ v12) b r q∧Below w.heap.size w (((((((((((((u.setCell ⟨w.heap.size+1,0,none⟩ v0).setCell ⟨w.heap.size+1,1,none⟩ v1).setCell ⟨w.heap.size+1,2,none⟩ v2).setCell ⟨w.heap.size+1,3,none⟩ v3).setCell ⟨w.heap.size+1,4,none⟩ v4).setCell ⟨w.heap.size+1,5,none⟩ v5).setCell ⟨w.heap.size+1,6,none⟩ v6).setCell ⟨w.heap.size+1,7,none⟩ v7).setCell ⟨w.heap.size+1,8,none⟩ v8).setCell ⟨w.heap.size+1,9,none⟩ v9).setCell ⟨w.heap.size+1,10,none⟩ v10).setCell ⟨w.heap.size+1,11,none⟩ v11).setCell ⟨w.heap.size+1,12,none⟩ v12):=by
 have k:=((((((((((((h.put 0 v0).put 1 v1).put 2 v2).put 3 v3).put 4 v4).put 5 v5).put 6 v6).put 7 v7).put 8 v8).put 9 v9).put 10 v10).put 11 v11).put 12 v12
 exact⟨k.l,k.m.2.2⟩
theorem RB.take (h:RB w A O Y b true p q x q' u):RB w A O Y b false x q' x q' u:=⟨h.m,h.y,h.e rfl,fun k=>(by cases k),h.lt⟩
theorem RB.drop (h:RB w A O Y b ok p q x q' u):RB w A O Y b false p q x q' u:=⟨h.m,h.y,h.l,fun k=>(by cases k),h.lt⟩
theorem RB.other {ok0:Bool} {x0:Pic} {q0:PicA} (h:RB w A O Y b ok0 p q x0 q0 u) (he:ok=true→PngSL u b x q'):RB w A O Y b ok p q x q' u:=⟨h.m,h.y,h.l,he,h.lt⟩
theorem RB.came (h:RB w A O Y b ok p q x q' u) (he:ok=true→PngSL u b x q'):RB w A O Y b ok p q x q' u:=⟨h.m,h.y,h.l,he,h.lt⟩
end
theorem PngSL.cap_le {w:World} {b:Nat} {p:Pic} {q:PicA} (h:PngSL w b p q):p.cn≤q.cc:=by
 rcases h.c with h | ⟨g,_,h⟩
 ·omega
 ·obtain⟨cap,cur,fz,hv,_,_,_,hn,_⟩:=id h
  rw[fints_length] at hv hn
  cases hv
  exact hn
def RL:Nat→Pic→Pic→Prop
 | 0,p,m=>m=p
 | k+1,p,m=>∃ a,Stp GrayC grayP p a∧RL k a m
theorem Gray3.left {p m:Pic} (h:Gray3 p m):RL 3 p m:=by
 obtain⟨a,b,h1,h2,h3⟩:=h
 exact⟨a,h1,b,h2,m,h3,rfl⟩
end
section
open Go.RowKit Go.Joins HeadMath ChunkMath
set_option maxRecDepth 100000 in
theorem implWays (w:World):Calls Tryz.prog 65 #[] w (fun e w'=>e=.returned (.agg #[.func (.func 86) #[] #[],.func (.func 11) #[] #[],.func (.func 16) #[] #[],.func (.func 18) #[] #[],.func (.func 20) #[] #[]])∧Below w.heap.size w w'):=by
 have hb:=bstart w (.cells #[.func (.func 86) #[] #[],.func (.func 11) #[] #[],.func (.func 16) #[] #[],.func (.func 18) #[] #[],.func (.func 20) #[] #[]] 84)
 go_enter Tryz.func65,Tryz.ntmps65
 go_wp2_with fail
 refine bodyPost_ret (v:=.agg #[.func (.func 86) #[] #[],.func (.func 11) #[] #[],.func (.func 16) #[] #[],.func (.func 18) #[] #[],.func (.func 20) #[] #[]]) ?_ rfl ⟨rfl,hb⟩
 simp[results,Tryz.results65,go_sem, *]
def OnePost (C:Pic→Prop) (r:Pic→Pic) (p:Pic) (b:Nat) (w:World) (e:Ending) (w':World):Prop:=∃ x q,Stp C r p x∧e=.returned (pngV x q)∧PngSL w' b x q∧Below w.heap.size w w'
set_option maxRecDepth 100000 in
set_option maxHeartbeats 3200000 in
theorem implOnce (f:Nat) (C:Pic→Prop) (r:Pic→Pic) (p:Pic) (q:PicA) (b:Nat) (w:World) (hf:Enters Tryz.prog f) (hb:b≤w.heap.size) (hL:PngSL w b p q) (hF:∀ W,PngSL W b p q→Calls Tryz.prog f #[pngV p q] W (LessPost (C p) (r p) W)):
  Calls Tryz.prog 87 #[.func (.func f) #[] #[],pngV p q] w (OnePost C r p b w):=by
 have M0:Hid (MoP w #[.int .i64 p.hw,.int .i64 p.hh,.int .i64 p.hd,.int .i64 p.hc,.bool p.lace,.slice q.ta p.tn q.tc,.slice q.ca p.cn q.cc,.int .i64 p.rw,.int .i64 p.rh,.int .i64 p.rc,.int .i64 p.rd,.slice q.sa p.sn q.sc,.slice q.ka p.kn q.kc] ((w.alloc (.cells #[.int .i64 p.hw,.int .i64 p.hh,.int .i64 p.hd,.int .i64 p.hc,.bool p.lace,.slice q.ta p.tn q.tc,.slice q.ca p.cn q.cc,.int .i64 p.rw,.int .i64 p.rh,.int .i64 p.rc,.int .i64 p.rd,.slice q.sa p.sn q.sc,.slice q.ka p.kn q.kc] 37)).alloc (.cells #[.int .i64 0,.int .i64 0,.int .i64 0,.int .i64 0,.bool false,.slice none 0 0,.slice none 0 0,.int .i64 0,.int .i64 0,.int .i64 0,.int .i64 0,.slice none 0 0,.slice none 0 0] 37))):=MoP.start w _ _ rfl
 have L0:=hid_of (hL.called M0.out.2.2)
 have HB:=hid_of hb
 clear hb hL
 simp only [pngV] at hF ⊢
 unfold Enters at hf
 go_enter Tryz.func87,Tryz.ntmps87
 go_wp2_with fail
 refine (hF _ L0.out).mono ?_
 intro e w1 h
 obtain⟨x,y,ok,rfl,hy,hn,hB⟩:=took (b:=b) (Nat.le_trans HB.out M0.out.2.2.size) h
 have HN:=hid_of hn
 have HC:Hid (ok=true→C p∧x=r p):=fun h=>(hy h).1
 have R0:Hid (RB w #[.int .i64 p.hw,.int .i64 p.hh,.int .i64 p.hd,.int .i64 p.hc,.bool p.lace,.slice q.ta p.tn q.tc,.slice q.ca p.cn q.cc,.int .i64 p.rw,.int .i64 p.rh,.int .i64 p.rc,.int .i64 p.rd,.slice q.sa p.sn q.sc,.slice q.ka p.kn q.kc] #[.int .i64 x.hw,.int .i64 x.hh,.int .i64 x.hd,.int .i64 x.hc,.bool x.lace,.slice y.ta x.tn y.tc,.slice y.ca x.cn y.cc,.int .i64 x.rw,.int .i64 x.rh,.int .i64 x.rc,.int .i64 x.rd,.slice y.sa x.sn y.sc,.slice y.ka x.kn y.kc] w1.heap.size b ok p q x y (w1.alloc (.cells #[.int .i64 x.hw,.int .i64 x.hh,.int .i64 x.hd,.int .i64 x.hc,.bool x.lace,.slice y.ta x.tn y.tc,.slice y.ca x.cn y.cc,.int .i64 x.rw,.int .i64 x.rh,.int .i64 x.rc,.int .i64 x.rd,.slice y.sa x.sn y.sc,.slice y.ka x.kn y.kc] 37))):=RB.new (M0.out.called hB) (L0.out.called hB) (fun h=>(hy h).2) _
 clear h hy hn hB M0 L0 hF
 go_upto_if 13 with fail
 generalize w1.alloc (.cells #[.int .i64 x.hw,.int .i64 x.hh,.int .i64 x.hd,.int .i64 x.hc,.bool x.lace,.slice y.ta x.tn y.tc,.slice y.ca x.cn y.cc,.int .i64 x.rw,.int .i64 x.rh,.int .i64 x.rc,.int .i64 x.rd,.slice y.sa x.sn y.sc,.slice y.ka x.kn y.kc] 37)=u at R0 ⊢
 generalize w1.heap.size=Y at R0 ⊢
 clear w1
 cases ok
 ·have HN2:=HN.out (by simp)
  clear HN HC
  have a0:=block_lt R0.out.m.1
  obtain⟨a1,a2,a3,a4,a5,a6,a7,a8,a9,a10,a11,a12,a13⟩:=zqc R0.out.m.1
  obtain⟨⟨z0,z1,z2,z3,z4,z5,z6,z7,z8,z9,z10,z11,z12,y0,y1,y2,y3,y4,y5,y6,y7,y8,y9,y10,y11,y12⟩,yf,yl⟩:=R0.out.m.cells
  go_wp2_with fail
  have E5:=hid_of (⟨R0.out.m,R0.out.l⟩:WQ w #[.int .i64 p.hw,.int .i64 p.hh,.int .i64 p.hd,.int .i64 p.hc,.bool p.lace,.slice q.ta p.tn q.tc,.slice q.ca p.cn q.cc,.int .i64 p.rw,.int .i64 p.rh,.int .i64 p.rc,.int .i64 p.rd,.slice q.sa p.sn q.sc,.slice q.ka p.kn q.kc] b p q u).stored
  refine bodyPost_ret (v:=.agg #[.int .i64 p.hw,.int .i64 p.hh,.int .i64 p.hd,.int .i64 p.hc,.bool p.lace,.slice q.ta p.tn q.tc,.slice q.ca p.cn q.cc,.int .i64 p.rw,.int .i64 p.rh,.int .i64 p.rc,.int .i64 p.rd,.slice q.sa p.sn q.sc,.slice q.ka p.kn q.kc]) ?_ rfl ⟨p,q,.inr ⟨HN2,rfl⟩,rfl,?_,?_⟩
  ·simp[results,Tryz.results87,go_sem, *]
  ·exact (E5.out _ _ _ _ _ _ _ _ _ _ _ _ _).1
  ·exact (E5.out _ _ _ _ _ _ _ _ _ _ _ _ _).2
 ·have HC2:=hid_of (HC.out (by simp))
  clear HN HC
  have lb:=block_lt R0.out.y
  obtain⟨b0,b1,b2,b3,b4,b5,b6,b7,b8,b9,b10,b11,b12⟩:=zqc R0.out.y
  obtain⟨⟨z0,z1,z2,z3,z4,z5,z6,z7,z8,z9,z10,z11,z12,y0,y1,y2,y3,y4,y5,y6,y7,y8,y9,y10,y11,y12⟩,yf,yl⟩:=R0.out.m.cells
  go_wp2_with fail
  have E5:=hid_of (⟨R0.out.m,R0.out.e rfl⟩:WQ w #[.int .i64 p.hw,.int .i64 p.hh,.int .i64 p.hd,.int .i64 p.hc,.bool p.lace,.slice q.ta p.tn q.tc,.slice q.ca p.cn q.cc,.int .i64 p.rw,.int .i64 p.rh,.int .i64 p.rc,.int .i64 p.rd,.slice q.sa p.sn q.sc,.slice q.ka p.kn q.kc] b x y u).stored
  refine bodyPost_ret (v:=.agg #[.int .i64 x.hw,.int .i64 x.hh,.int .i64 x.hd,.int .i64 x.hc,.bool x.lace,.slice y.ta x.tn y.tc,.slice y.ca x.cn y.cc,.int .i64 x.rw,.int .i64 x.rh,.int .i64 x.rc,.int .i64 x.rd,.slice y.sa x.sn y.sc,.slice y.ka x.kn y.kc]) ?_ rfl ⟨x,y,.inl HC2.out,rfl,?_,?_⟩
  ·simp[results,Tryz.results87,go_sem, *]
  ·exact (E5.out _ _ _ _ _ _ _ _ _ _ _ _ _).1
  ·exact (E5.out _ _ _ _ _ _ _ _ _ _ _ _ _).2
end
section
open Go.RowKit Go.Joins HeadMath ChunkMath
set_option maxRecDepth 100000 in
set_option maxHeartbeats 6400000 in
theorem implAgain (p:Pic) (q:PicA) (b:Nat) (m:Pic) (w:World) (hb:b≤w.heap.size) (hL:PngSL w b p q) (hZ:PngSz p) (hR:Gray3 p m):
  Calls Tryz.prog 88 #[.func (.func 20) #[] #[],pngV p q] w (fun e w'=>∃ q',e=.returned (pngV m q')∧PngSL w' b m q'∧Below w.heap.size w w'):=by
 have HR:=hid_of hR.times
 have M0:Hid (MoP w #[.int .i64 p.hw,.int .i64 p.hh,.int .i64 p.hd,.int .i64 p.hc,.bool p.lace,.slice q.ta p.tn q.tc,.slice q.ca p.cn q.cc,.int .i64 p.rw,.int .i64 p.rh,.int .i64 p.rc,.int .i64 p.rd,.slice q.sa p.sn q.sc,.slice q.ka p.kn q.kc] ((w.alloc (.cells #[.int .i64 p.hw,.int .i64 p.hh,.int .i64 p.hd,.int .i64 p.hc,.bool p.lace,.slice q.ta p.tn q.tc,.slice q.ca p.cn q.cc,.int .i64 p.rw,.int .i64 p.rh,.int .i64 p.rc,.int .i64 p.rd,.slice q.sa p.sn q.sc,.slice q.ka p.kn q.kc] 37)).alloc (.cells #[.int .i64 0,.int .i64 0,.int .i64 0,.int .i64 0,.bool false,.slice none 0 0,.slice none 0 0,.int .i64 0,.int .i64 0,.int .i64 0,.int .i64 0,.slice none 0 0,.slice none 0 0] 37))):=MoP.start w _ _ rfl
 have L0:=hid_of (hL.called M0.out.2.2)
 have HB:=hid_of hb
 have HZ:=hid_of hZ
 have c0:=implGray p q _ L0.out.lie hZ
 clear hb hL hZ hR
 simp only [pngV] at c0 ⊢
 go_enter Tryz.func88,Tryz.ntmps88
 go_wp2_with fail
 refine c0.mono ?_
 intro e w1 h
 obtain⟨x,y,ok,rfl,hy,hn,hB⟩:=took (C:=GrayC) (r:=grayP) (b:=b) (Nat.le_trans HB.out M0.out.2.2.size) h
 have HN:=hid_of hn
 have HC:Hid (ok=true→GrayC p∧x=grayP p):=fun h=>(hy h).1
 have R0:Hid (RB w #[.int .i64 p.hw,.int .i64 p.hh,.int .i64 p.hd,.int .i64 p.hc,.bool p.lace,.slice q.ta p.tn q.tc,.slice q.ca p.cn q.cc,.int .i64 p.rw,.int .i64 p.rh,.int .i64 p.rc,.int .i64 p.rd,.slice q.sa p.sn q.sc,.slice q.ka p.kn q.kc] #[.int .i64 x.hw,.int .i64 x.hh,.int .i64 x.hd,.int .i64 x.hc,.bool x.lace,.slice y.ta x.tn y.tc,.slice y.ca x.cn y.cc,.int .i64 x.rw,.int .i64 x.rh,.int .i64 x.rc,.int .i64 x.rd,.slice y.sa x.sn y.sc,.slice y.ka x.kn y.kc] w1.heap.size b ok p q x y (w1.alloc (.cells #[.int .i64 x.hw,.int .i64 x.hh,.int .i64 x.hd,.int .i64 x.hc,.bool x.lace,.slice y.ta x.tn y.tc,.slice y.ca x.cn y.cc,.int .i64 x.rw,.int .i64 x.rh,.int .i64 x.rc,.int .i64 x.rd,.slice y.sa x.sn y.sc,.slice y.ka x.kn y.kc] 37))):=RB.new (M0.out.called hB) (L0.out.called hB) (fun h=>(hy h).2) _
 clear h hy hn hB M0 L0 c0
 go_wp2_with fail
 go_loopg [5,6] 3 (fun gk y ok wr=>∃ (p5:Pic) (q5:PicA) (x5:Pic) (y5:PicA) (Y5:Nat) (o5:Bool),y=.pointer (some ⟨Y5,0,none⟩)∧ok=.bool o5∧Hid (RB w #[.int .i64 p5.hw,.int .i64 p5.hh,.int .i64 p5.hd,.int .i64 p5.hc,.bool p5.lace,.slice q5.ta p5.tn q5.tc,.slice q5.ca p5.cn q5.cc,.int .i64 p5.rw,.int .i64 p5.rh,.int .i64 p5.rc,.int .i64 p5.rd,.slice q5.sa p5.sn q5.sc,.slice q5.ka p5.kn q5.kc] #[.int .i64 x5.hw,.int .i64 x5.hh,.int .i64 x5.hd,.int .i64 x5.hc,.bool x5.lace,.slice y5.ta x5.tn y5.tc,.slice y5.ca x5.cn y5.cc,.int .i64 x5.rw,.int .i64 x5.rh,.int .i64 x5.rc,.int .i64 x5.rd,.slice y5.sa x5.sn y5.sc,.slice y5.ka x5.kn y5.kc] Y5 b o5 p5 q5 x5 y5 wr∧(o5=true→GrayC p5∧x5=grayP p5)∧(o5=false→¬ GrayC p5)∧GrayN gk p5 m∧PngSz p5))
 case atStart=>exact⟨p,q,x,y,_,ok,rfl,rfl,R0.out,HC.out,HN.out,HR.out,HZ.out⟩
 case round=>
  clear R0 HC HN HR HZ
  obtain⟨p5,q5,x5,y5,Y5,o5,rfl,rfl,hI⟩:=hrel
  have R5:=hid_of hI.out.1
  have HC:=hid_of hI.out.2.1
  have HN:=hid_of hI.out.2.2.1
  have HG:=hid_of hI.out.2.2.2.1
  have Z5:=hid_of hI.out.2.2.2.2
  clear hI
  cases o5
  ·have hm:m=p5:=by
    have hn:=HN.out (by simp)
    have hg:=HG.out
    cases gk with
    | zero=>exact hg.2
    | succ k=>
     rcases hg with h | h
     ·exact absurd h.1 hn
     ·exact h.2
   clear HC HN HG
   subst hm
   have a0:=block_lt R5.out.m.1
   obtain⟨a1,a2,a3,a4,a5,a6,a7,a8,a9,a10,a11,a12,a13⟩:=zqc R5.out.m.1
   obtain⟨⟨z0,z1,z2,z3,z4,z5,z6,z7,z8,z9,z10,z11,z12,y0,y1,y2,y3,y4,y5,y6,y7,y8,y9,y10,y11,y12⟩,yf,yl⟩:=R5.out.m.cells
   go_wp2_with fail
   have E5:=hid_of (⟨R5.out.m,R5.out.l⟩:WQ w #[.int .i64 m.hw,.int .i64 m.hh,.int .i64 m.hd,.int .i64 m.hc,.bool m.lace,.slice q5.ta m.tn q5.tc,.slice q5.ca m.cn q5.cc,.int .i64 m.rw,.int .i64 m.rh,.int .i64 m.rc,.int .i64 m.rd,.slice q5.sa m.sn q5.sc,.slice q5.ka m.kn q5.kc] b m q5 wr).stored
   refine bodyPost_ret (v:=.agg #[.int .i64 m.hw,.int .i64 m.hh,.int .i64 m.hd,.int .i64 m.hc,.bool m.lace,.slice q5.ta m.tn q5.tc,.slice q5.ca m.cn q5.cc,.int .i64 m.rw,.int .i64 m.rh,.int .i64 m.rc,.int .i64 m.rd,.slice q5.sa m.sn q5.sc,.slice q5.ka m.kn q5.kc]) ?_ rfl ⟨q5,rfl,?_,?_⟩
   ·simp[results,Tryz.results88,go_sem, *]
   ·exact (E5.out _ _ _ _ _ _ _ _ _ _ _ _ _).1
   ·exact (E5.out _ _ _ _ _ _ _ _ _ _ _ _ _).2
  ·have hc:=HC.out (by simp)
   have HX:Hid (PngSz x5):=by
    rw[hc.2]
    exact half_sz Z5.out _ _
   have HGN:Hid (∃ k,k < gk∧GrayN k x5 m):=by
    have hg:=HG.out
    cases gk with
    | zero=>exact absurd hc.1 hg.1
    | succ k=>
     rcases hg with h | h
     ·exact⟨k,Nat.lt_succ_self k,by rw [hc.2]; exact h.2⟩
     ·exact absurd hc.1 h.1
   clear hc HC HN HG Z5
   have T1:=hid_of ((((((((((((((R5.out.take).arg 0 (.int .i64 x5.hw)).arg 1 (.int .i64 x5.hh)).arg 2 (.int .i64 x5.hd)).arg 3 (.int .i64 x5.hc)).arg 4 (.bool x5.lace)).arg 5 (.slice y5.ta x5.tn y5.tc)).arg 6 (.slice y5.ca x5.cn y5.cc)).arg 7 (.int .i64 x5.rw)).arg 8 (.int .i64 x5.rh)).arg 9 (.int .i64 x5.rc)).arg 10 (.int .i64 x5.rd)).arg 11 (.slice y5.sa x5.sn y5.sc)).arg 12 (.slice y5.ka x5.kn y5.kc))
   simp only [zsa,zsb,zsc] at T1
   have lb:=block_lt R5.out.y
   obtain⟨b0,b1,b2,b3,b4,b5,b6,b7,b8,b9,b10,b11,b12⟩:=zqc R5.out.y
   have a0:=block_lt R5.out.m.1
   have af:=unfrozen_of_block R5.out.m.1
   obtain⟨a1,a2,a3,a4,a5,a6,a7,a8,a9,a10,a11,a12,a13⟩:=zqc R5.out.m.1
   have n1:¬ Y5=w.heap.size:=by have:=R5.out.lt; omega
   have n2:¬ w.heap.size=Y5:=by have:=R5.out.lt; omega
   have es:Hid ((((((((((((((wr.setCell ⟨w.heap.size,0,none⟩ (.int .i64 x5.hw)).setCell ⟨w.heap.size,1,none⟩ (.int .i64 x5.hh)).setCell ⟨w.heap.size,2,none⟩ (.int .i64 x5.hd)).setCell ⟨w.heap.size,3,none⟩ (.int .i64 x5.hc)).setCell ⟨w.heap.size,4,none⟩ (.bool x5.lace)).setCell ⟨w.heap.size,5,none⟩ (.slice y5.ta x5.tn y5.tc)).setCell ⟨w.heap.size,6,none⟩ (.slice y5.ca x5.cn y5.cc)).setCell ⟨w.heap.size,7,none⟩ (.int .i64 x5.rw)).setCell ⟨w.heap.size,8,none⟩ (.int .i64 x5.rh)).setCell ⟨w.heap.size,9,none⟩ (.int .i64 x5.rc)).setCell ⟨w.heap.size,10,none⟩ (.int .i64 x5.rd)).setCell ⟨w.heap.size,11,none⟩ (.slice y5.sa x5.sn y5.sc)).setCell ⟨w.heap.size,12,none⟩ (.slice y5.ka x5.kn y5.kc)).heap.size=wr.heap.size):=by
    show _=_
    simp
   go_wp2_with fail
   clear lb b0 b1 b2 b3 b4 b5 b6 b7 b8 b9 b10 b11 b12
   clear af a0 a1 a2 a3 a4 a5 a6 a7 a8 a9 a10 a11 a12 a13
   generalize ((((((((((((wr.setCell ⟨w.heap.size,0,none⟩ (.int .i64 x5.hw)).setCell ⟨w.heap.size,1,none⟩ (.int .i64 x5.hh)).setCell ⟨w.heap.size,2,none⟩ (.int .i64 x5.hd)).setCell ⟨w.heap.size,3,none⟩ (.int .i64 x5.hc)).setCell ⟨w.heap.size,4,none⟩ (.bool x5.lace)).setCell ⟨w.heap.size,5,none⟩ (.slice y5.ta x5.tn y5.tc)).setCell ⟨w.heap.size,6,none⟩ (.slice y5.ca x5.cn y5.cc)).setCell ⟨w.heap.size,7,none⟩ (.int .i64 x5.rw)).setCell ⟨w.heap.size,8,none⟩ (.int .i64 x5.rh)).setCell ⟨w.heap.size,9,none⟩ (.int .i64 x5.rc)).setCell ⟨w.heap.size,10,none⟩ (.int .i64 x5.rd)).setCell ⟨w.heap.size,11,none⟩ (.slice y5.sa x5.sn y5.sc)).setCell ⟨w.heap.size,12,none⟩ (.slice y5.ka x5.kn y5.kc)=u0 at T1 es ⊢
   have N0:Hid (RB w #[.int .i64 x5.hw,.int .i64 x5.hh,.int .i64 x5.hd,.int .i64 x5.hc,.bool x5.lace,.slice y5.ta x5.tn y5.tc,.slice y5.ca x5.cn y5.cc,.int .i64 x5.rw,.int .i64 x5.rh,.int .i64 x5.rc,.int .i64 x5.rd,.slice y5.sa x5.sn y5.sc,.slice y5.ka x5.kn y5.kc] #[.int .i64 x5.hw,.int .i64 x5.hh,.int .i64 x5.hd,.int .i64 x5.hc,.bool x5.lace,.slice y5.ta x5.tn y5.tc,.slice y5.ca x5.cn y5.cc,.int .i64 x5.rw,.int .i64 x5.rh,.int .i64 x5.rc,.int .i64 x5.rd,.slice y5.sa x5.sn y5.sc,.slice y5.ka x5.kn y5.kc] wr.heap.size b false x5 y5 x5 y5 (u0.alloc (.cells #[.int .i64 x5.hw,.int .i64 x5.hh,.int .i64 x5.hd,.int .i64 x5.hc,.bool x5.lace,.slice y5.ta x5.tn y5.tc,.slice y5.ca x5.cn y5.cc,.int .i64 x5.rw,.int .i64 x5.rh,.int .i64 x5.rc,.int .i64 x5.rd,.slice y5.sa x5.sn y5.sc,.slice y5.ka x5.kn y5.kc] 37))):=by
    have h:=RB.new (ok:=false) (x:=x5) (q':=y5) T1.out.m T1.out.l (fun h=>by cases h) #[.int .i64 x5.hw,.int .i64 x5.hh,.int .i64 x5.hd,.int .i64 x5.hc,.bool x5.lace,.slice y5.ta x5.tn y5.tc,.slice y5.ca x5.cn y5.cc,.int .i64 x5.rw,.int .i64 x5.rh,.int .i64 x5.rc,.int .i64 x5.rd,.slice y5.sa x5.sn y5.sc,.slice y5.ka x5.kn y5.kc]
    rw[es.out] at h
    exact h
   clear T1 R5
   have c1:=implGray x5 y5 (u0.alloc (.cells #[.int .i64 x5.hw,.int .i64 x5.hh,.int .i64 x5.hd,.int .i64 x5.hc,.bool x5.lace,.slice y5.ta x5.tn y5.tc,.slice y5.ca x5.cn y5.cc,.int .i64 x5.rw,.int .i64 x5.rh,.int .i64 x5.rc,.int .i64 x5.rd,.slice y5.sa x5.sn y5.sc,.slice y5.ka x5.kn y5.kc] 37)) N0.out.l.lie HX.out
   simp only [pngV] at c1
   refine c1.mono ?_
   intro e v6 h
   obtain⟨x6,y6,ok,rfl,hy,hn,hB⟩:=took (C:=GrayC) (r:=grayP) (b:=b) (Nat.le_trans HB.out N0.out.m.2.2.size) h
   have HN:=hid_of hn
   have HC:Hid (ok=true→GrayC x5∧x6=grayP x5):=fun h=>(hy h).1
   have V0:Hid (RB w #[.int .i64 x5.hw,.int .i64 x5.hh,.int .i64 x5.hd,.int .i64 x5.hc,.bool x5.lace,.slice y5.ta x5.tn y5.tc,.slice y5.ca x5.cn y5.cc,.int .i64 x5.rw,.int .i64 x5.rh,.int .i64 x5.rc,.int .i64 x5.rd,.slice y5.sa x5.sn y5.sc,.slice y5.ka x5.kn y5.kc] #[.int .i64 x5.hw,.int .i64 x5.hh,.int .i64 x5.hd,.int .i64 x5.hc,.bool x5.lace,.slice y5.ta x5.tn y5.tc,.slice y5.ca x5.cn y5.cc,.int .i64 x5.rw,.int .i64 x5.rh,.int .i64 x5.rc,.int .i64 x5.rd,.slice y5.sa x5.sn y5.sc,.slice y5.ka x5.kn y5.kc] wr.heap.size b ok x5 y5 x6 y6 v6):=(N0.out.called hB).other (fun h=>(hy h).2)
   clear h hy hn hB N0 c1 es
   have V1:=hid_of (((((((((((((V0.out.set 0 (.int .i64 x6.hw)).set 1 (.int .i64 x6.hh)).set 2 (.int .i64 x6.hd)).set 3 (.int .i64 x6.hc)).set 4 (.bool x6.lace)).set 5 (.slice y6.ta x6.tn y6.tc)).set 6 (.slice y6.ca x6.cn y6.cc)).set 7 (.int .i64 x6.rw)).set 8 (.int .i64 x6.rh)).set 9 (.int .i64 x6.rc)).set 10 (.int .i64 x6.rd)).set 11 (.slice y6.sa x6.sn y6.sc)).set 12 (.slice y6.ka x6.kn y6.kc))
   simp only [zsa,zsb,zsc] at V1
   have lb:=block_lt V0.out.y
   obtain⟨b0,b1,b2,b3,b4,b5,b6,b7,b8,b9,b10,b11,b12⟩:=zqc V0.out.y
   have bf:=unfrozen_of_block V0.out.y
   go_wp2_with fail
   obtain⟨k,hk,hG⟩:=HGN.out
   go_roundg k
   case measure=>exact hk
   case rel=>exact⟨x5,y5,x6,y6,_,ok,rfl,rfl,V1.out,HC.out,HN.out,hG,HX.out⟩
end
end Go.Proofs.YtkpbfmdnjnohlaaGreat
