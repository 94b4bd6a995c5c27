/-
  Texts of the proof, put together.
-/
import Derived.Test.YtkpbfmdnjnohlaaGreatRd04
import Derived.Laws.CopyOwn
namespace Go.Proofs.YtkpbfmdnjnohlaaGreat
open Go.RowKit Go.Joins OutMath PutMath RastMath
def four (v:Nat→Int):Array Value:=#[.int .i64 (v 0),.int .i64 (v 1),.int .i64 (v 2),.int .i64 (v 3)]
def PfS (w:World) (a:Option Addr) (n:Nat) (f:Nat→Int) (u:World):Prop:=(∃ Z,u.heap[w.heap.size]?=some (.cells Z 104 (0,0))∧Z.size=4)∧Came u a n f∧Below w.heap.size w u
theorem PfS.called {w u u':World} {a:Option Addr} {n:Nat} {f:Nat→Int} (h:PfS w a n f u) (hb:Below u.heap.size u u'):PfS w a n f u':=by
 obtain⟨⟨Z,h1,hz⟩,h2,h3⟩:=h
 exact⟨⟨Z,(hb.block _ (block_lt h1)).trans h1,hz⟩,h2.called hb,bnext h3 hb⟩
def PxI (w:World) (X:Nat) (v:Nat→Int) (m:Int) (j:Nat) (u:World):Prop:=(∃ Z,u.heap[w.heap.size]?=some (.cells Z 104 (0,0))∧Z.size=4)∧u.heap[X]?=some (.cells (four fun i=>if i < j then v i * m else v i) 104 (0,0))∧Below w.heap.size w u∧w.heap.size < X
theorem PxI.called {w:World} {X:Nat} {v:Nat→Int} {m:Int} {j:Nat} {u u':World} (h:PxI w X v m j u) (hb:Below u.heap.size u u'):PxI w X v m j u':=by
 obtain⟨⟨Z,h1,hz⟩,h2,h3,h4⟩:=h
 exact⟨⟨Z,(hb.block _ (block_lt h1)).trans h1,hz⟩,(hb.block _ (block_lt h2)).trans h2,bnext h3 hb,h4⟩
theorem PxI.cell {w:World} {X:Nat} {v:Nat→Int} {m:Int} {j:Nat} {u:World} (h:PxI w X v m j u) (hj:j < 4):u.cell? ⟨X,j,none⟩=some (.int .i64 (v j))∧(∀ k,u.frozen? ⟨X,k,none⟩=false)∧X < u.heap.size:=by
 refine⟨?_,unfrozen_of_block h.2.1,block_lt h.2.1⟩
 rw[cell_of_block h.2.1 j]
 have:j=0∨j=1∨j=2∨j=3:=by omega
 rcases this with rfl | rfl | rfl | rfl <;> simp [four]
theorem PxI.next {w:World} {X:Nat} {v:Nat→Int} {m:Int} {j:Nat} {u:World} (h:PxI w X v m j u) (hj:j < 4):PxI w X v m (j+1) (u.setCell ⟨X,j,none⟩ (.int .i64 (v j * m))):=by
 obtain⟨⟨Z,h1,hz⟩,h2,h3,h4⟩:=h
 refine⟨⟨Z,?_,hz⟩,?_,h3.setCell (p:=⟨X,j,none⟩) (by show w.heap.size≤X; omega) _,h4⟩
 ·rw[Below.heap_setCell _ _ _ _ (by show w.heap.size≠X; omega)]; exact h1
 ·have:j=0∨j=1∨j=2∨j=3:=by omega
  rcases this with rfl | rfl | rfl | rfl <;> simp [World.setCell,Array.getElem?_modify,h2,four]
def colN3 (n:Nat) (f:Nat→Int) (c:Int) (k:Nat):Int:=if k=3 then c else if n=1 then f 0 else f k
theorem came_zero {w:World} {g off n:Nat} {f:Nat→Int} (h:Came w (some ⟨g,off,none⟩) n f) (hn:0 < n):w.cell? ⟨g,off,none⟩=some (.int .i64 (f 0)):=by
 rcases h with h | ⟨g',o',e,_,hc⟩
 ·omega
 ·cases e
  exact hc 0 hn
theorem came_src {w:World} {ad:Addr} {n:Nat} {f:Nat→Int} (h:Came w (some ad) n f) (j:Nat) (u:Value) (hu:(fints f n)[j]?=some u):w.cell? (ad.add j)=some u:=by
 have hj:j < n:=by
  rcases Nat.lt_or_ge j n with k | k
  ·exact k
  ·rw[List.getElem?_eq_none (by rw [fints_length]; exact k)] at hu
   cases hu
 rcases h with h | ⟨g',o',e,_,hc⟩
 ·omega
 ·cases e
  rw[Addr.add_lit,hc j hj,← hu,List.getElem?_eq_getElem (by rw [fints_length]; exact hj),fints_get]
theorem fints_one (f:Nat→Int) (n:Nat):∀ v∈fints f n,v.oneCell'=true:=by
 intro v hv
 obtain⟨i,_,rfl⟩:=List.mem_map.mp hv
 rfl
def PixPost (v:Nat→Int) (m:Int) (w:World) (e:Ending) (w':World):Prop:=e=.returned (.agg (four fun k=>v k * m))∧Below w.heap.size w w'
set_option maxRecDepth 100000 in
set_option maxHeartbeats 1600000 in
theorem pixelOf_any (a:Option Addr) (n cap d:Nat) (f:Nat→Int) (c:Int) (w:World) (hC:Came w a n f) (hn:n=1∨n=3) (hd:Five (d:Int)) (hf:∀ i,i < n→0≤f i∧f i≤65535) (hc0:0≤c) (hc1:c≤65535):
  Calls Tryz.prog 109 #[.slice a n cap,.int .i64 c,.int .i64 (d:Int)] w (PixPost (colN3 n f c) (mulD d) w):=by
 obtain⟨g,off,ha,hg,hcell⟩:∃ g off,a=some ⟨g,off,none⟩∧g < w.heap.size∧∀ j,j < n→w.cell? ⟨g,off+j,none⟩=some (.int .i64 (f j)):=by
  rcases hC with h | h
  ·omega
  ·exact h
 subst ha
 have k0:=hcell 0 (by omega)
 have hin:(0:Int) < (n:Int):=by omega
 have HC:=hid_of hC
 have HN:=hid_of hn
 have HD:=hid_of hd
 have HF:=hid_of hf
 clear hC hn hf hcell
 go_enter Tryz.func109,Tryz.ntmps109
 go_wp2_with fail
 have HS0:PfS w (some ⟨g,off,none⟩) n f (w.alloc (.cells #[.int .i64 0,.int .i64 0,.int .i64 0,.int .i64 0] 104)).drew:=⟨⟨_,heap_alloc_new w _,rfl⟩,HC.out.called (bdraws (bstart w _) 1),bdraws (bstart w _) 1⟩
 have hnz:¬ n=0:=by omega
 refine wp_region_held (S:=PfS w (some ⟨g,off,none⟩) n f) (by kernel_rfl) ?_
 show wpAnyH _ _ _ _ _ _ _ _ (w.alloc _).drew
 generalize (w.alloc _).drew=u0 at HS0 ⊢
 refine zqt 0 (.slice (some ⟨g,off,none⟩) n cap) rfl ?_ HS0 ?_
 ·intro w' _
  go_simp
 simp only [Act.put,zga,zgb,zsa,zsb,zsc]
 refine zqt 1 (.pointer (some ⟨g,off,none⟩)) rfl ?_ HS0 ?_
 ·intro w' _
  go_simp
 simp only [Act.put,zga,zgb,zgc,zsa,zsb,zsc]
 refine zqt 2 (.int .i64 (f 0)) rfl ?_ HS0 ?_
 ·intro w' hS
  have c0:w'.cell? ⟨g,off,none⟩=some (.int .i64 (f 0)):=came_zero hS.2.1 (by rcases HN.out with h | h <;> omega)
  go_simp
 simp only [Act.put,zga,zgb,zgc,zsa,zsb,zsc]
 refine zqt 3 (.slice (some ⟨g,off,none⟩) n cap) rfl ?_ HS0 ?_
 ·intro w' _
  go_simp
 simp only [Act.put,zga,zgb,zgc,zsa,zsb,zsc]
 refine zqt 4 (.pointer (some ⟨g,off,none⟩)) rfl ?_ HS0 ?_
 ·intro w' _
  go_simp
 simp only [Act.put,zga,zgb,zgc,zsa,zsb,zsc]
 refine zqt 5 (.int .i64 (f 0)) rfl ?_ HS0 ?_
 ·intro w' hS
  have c0:w'.cell? ⟨g,off,none⟩=some (.int .i64 (f 0)):=came_zero hS.2.1 (by rcases HN.out with h | h <;> omega)
  go_simp
 simp only [Act.put,zga,zgb,zgc,zsa,zsb,zsc]
 refine zqt 6 (.slice (some ⟨g,off,none⟩) n cap) rfl ?_ HS0 ?_
 ·intro w' _
  go_simp
 simp only [Act.put,zga,zgb,zgc,zsa,zsb,zsc]
 refine zqt 7 (.pointer (some ⟨g,off,none⟩)) rfl ?_ HS0 ?_
 ·intro w' _
  go_simp
 simp only [Act.put,zga,zgb,zgc,zsa,zsb,zsc]
 refine zqt 8 (.int .i64 (f 0)) rfl ?_ HS0 ?_
 ·intro w' hS
  have c0:w'.cell? ⟨g,off,none⟩=some (.int .i64 (f 0)):=came_zero hS.2.1 (by rcases HN.out with h | h <;> omega)
  go_simp
 simp only [Act.put,zga,zgb,zgc,zsa,zsb,zsc]
 refine zqt 9 (.int .i64 c) rfl ?_ HS0 ?_
 ·intro w' _
  go_simp
 simp only [Act.put,zga,zgb,zgc,zsa,zsb,zsc]
 refine zqt 10 (.agg #[.int .i64 (f 0),.int .i64 (f 0),.int .i64 (f 0),.int .i64 c]) rfl ?_ HS0 ?_
 ·intro w' _
  go_simp
 simp only [Act.put,zga,zgb,zgc,zsa,zsb,zsc]
 refine zqr 11 rfl (fun K1 hK=>?_)
 refine if_wanted (wanted_none rfl) ?_
 simp only [zga,zgb,zgc]
 go_simp
 refine hK.out _ _ (HS0.called (bstart u0 (.cells #[.int .i64 0,.int .i64 0,.int .i64 0,.int .i64 0] 104))) (fun HS1=>?_)
 clear hK
 have hblk:(u0.alloc (.cells #[.int .i64 0,.int .i64 0,.int .i64 0,.int .i64 0] 104)).heap[u0.heap.size]?=some (.cells #[.int .i64 0,.int .i64 0,.int .i64 0,.int .i64 0] 104 (0,0)):=heap_alloc_new u0 _
 have hlx:=HS0.2.2.size
 have hly:=block_lt HS0.1.choose_spec.1
 have hXg:g < u0.heap.size:=Nat.lt_of_lt_of_le hg HS0.2.2.size
 generalize u0.alloc (.cells #[.int .i64 0,.int .i64 0,.int .i64 0,.int .i64 0] 104)=u1 at HS1 hblk ⊢
 have z0:=(cell_of_block hblk 0).trans rfl
 have z1:=(cell_of_block hblk 1).trans rfl
 have z2:=(cell_of_block hblk 2).trans rfl
 have z3:=(cell_of_block hblk 3).trans rfl
 have zf:∀ k,u1.frozen? ⟨u0.heap.size,k,none⟩=false:=unfrozen_of_block hblk
 have zl:=block_lt hblk
 have H2:Hid (((((u1.setCell ⟨u0.heap.size,0,none⟩ (.int .i64 (f 0))).setCell ⟨u0.heap.size,1,none⟩ (.int .i64 (f 0))).setCell ⟨u0.heap.size,2,none⟩ (.int .i64 (f 0))).setCell ⟨u0.heap.size,3,none⟩ (.int .i64 c)).heap[u0.heap.size]?=some (.cells #[.int .i64 (f 0),.int .i64 (f 0),.int .i64 (f 0),.int .i64 c] 104 (0,0))∧PfS w (some ⟨g,off,none⟩) n f ((((u1.setCell ⟨u0.heap.size,0,none⟩ (.int .i64 (f 0))).setCell ⟨u0.heap.size,1,none⟩ (.int .i64 (f 0))).setCell ⟨u0.heap.size,2,none⟩ (.int .i64 (f 0))).setCell ⟨u0.heap.size,3,none⟩ (.int .i64 c))):=by
  refine⟨by simp [World.setCell,Array.getElem?_modify,hblk],?_⟩
  have hs:∀ (V:World) (k:Nat) (v:Value),PfS w (some ⟨g,off,none⟩) n f V→PfS w (some ⟨g,off,none⟩) n f (V.setCell ⟨u0.heap.size,k,none⟩ v):=fun V k v hV=>by
   obtain⟨⟨Z,b1,b2⟩,b3,b4⟩:=hV
   refine⟨⟨Z,?_,b2⟩,?_,b4.setCell (p:=⟨u0.heap.size,k,none⟩) hlx v⟩
   ·rw[Below.heap_setCell _ _ _ _ (by show w.heap.size≠u0.heap.size; omega)]; exact b1
   ·rcases b3 with h | ⟨g',o',e,q1,q2⟩
    ·exact .inl h
    ·cases e
     refine .inr ⟨g,off,rfl,by simpa using q1,fun j hj=>?_⟩
     rw[World.cell?_of_block (a:=⟨g,off+j,none⟩) (Below.heap_setCell _ _ _ _ (by show g≠u0.heap.size; omega))]
     exact q2 j hj
  exact hs _ _ _ (hs _ _ _ (hs _ _ _ (hs _ _ _ HS1)))
 refine zqr 12 rfl (fun K1 hK=>?_)
 refine if_wanted (wanted_none rfl) ?_
 simp only [zga,zgb,zgc]
 go_simp
 refine hK.out _ _ H2.out.2 (fun HS2=>?_)
 clear hK
 refine wpAnyH_done (by kernel_rfl) ?_ _
 generalize ((((u1.setCell ⟨u0.heap.size,0,none⟩ (.int .i64 (f 0))).setCell ⟨u0.heap.size,1,none⟩ (.int .i64 (f 0))).setCell ⟨u0.heap.size,2,none⟩ (.int .i64 (f 0))).setCell ⟨u0.heap.size,3,none⟩ (.int .i64 c))=w2 at H2 ⊢
 clear HS2 HS1 hblk z0 z1 z2 z3 zf zl
 have HXw:Hid (w.heap.size < u0.heap.size):=hly
 have HXg:Hid (g < u0.heap.size):=hXg
 clear HS0 hlx hly hXg
 generalize u0.heap.size=X at H2 HXw HXg ⊢
 have y0:=(cell_of_block H2.out.1 0).trans rfl
 have y1:=(cell_of_block H2.out.1 1).trans rfl
 have y2:=(cell_of_block H2.out.1 2).trans rfl
 have y3:=(cell_of_block H2.out.1 3).trans rfl
 have yl:=block_lt H2.out.1
 have HLE:Hid (n≤4):=by show n≤4; rcases HN.out with h | h <;> omega
 obtain⟨v,hv⟩:∃ v,v=colN3 n f c:=⟨_,rfl⟩
 obtain⟨m,hm⟩:∃ m,m=mulD d:=⟨_,rfl⟩
 obtain⟨w3,hcp,h3⟩:∃ w3,(∀ ty,(Builtin.copy_ #[25,25] ty #[.slice (some ⟨X,0,none⟩) 4 4,.slice (some ⟨g,off,none⟩) n cap]).run Tryz.prog w2=.ok (goInt n) w3)∧PxI w X v m 0 w3:=by
  refine⟨_,fun ty=>(run_copy_row (P:=Tryz.prog) w2 _ _ ty 3 X 0 4 4 ⟨g,off,none⟩ n cap _ 104 (fints f n) Tryz.underlying25 (by kernel_rfl) H2.out.1 (by rw [fints_length]; exact (Nat.min_eq_left HLE.out).symm) (came_src H2.out.2.2.1) (by rw [fints_length]; have:=HLE.out; simp; omega) (fints_one f n)).trans (by rw [fints_length]),?_⟩
  obtain⟨⟨Z,b1,b2⟩,_,b4⟩:=H2.out.2
  refine⟨⟨Z,?_,b2⟩,?_,?_,HXw.out⟩
  ·have hne:w.heap.size≠X:=by have:=HXw.out; omega
   simp[World.setRow,Array.getElem?_modify,hne.symm,b1]
  ·rcases HN.out with h | h
   ·subst h
    simp[World.setRow,Array.getElem?_modify,H2.out.1,hv,four,colN3,fints]
   ·subst h
    simp[World.setRow,Array.getElem?_modify,H2.out.1,hv,four,colN3,fints,List.range_succ]
  ·exact below_setRow b4 (by have:=HXw.out; omega) _
 have H3:=hid_of h3
 have HV:Hid (∀ k,k < 4→0≤v k∧v k≤65535):=by
  intro k hk
  rw[hv]
  unfold colN3
  rcases HN.out with h | h
  ·split
   ·omega
   ·first | exact HF.out 0 (by omega) | (rw [if_pos h]; exact HF.out 0 (by omega))
  ·split
   ·omega
   ·first | exact HF.out k (by omega) | (rw [if_neg (by omega)]; exact HF.out k (by omega))
 have HE:Hid (∀ u,Below w.heap.size w u→PixPost (colN3 n f c) (mulD d) w (.returned (.agg (four fun k=>v k * m))) u):=fun u hu=>⟨by rw [hv,hm],hu⟩
 have HM2:=hid_of (mulD_five hd)
 rw[← hm] at HM2
 clear h3 H2 y0 y1 y2 y3 yl hv HF HN hc0 hc1 k0
 go_wp2_with fail
 clear hcp
 obtain⟨M,hM⟩:∃ M:Int,M=2 ^ d:=⟨_,rfl⟩
 have hpd:p2 d=M:=by rw [hM]; rfl
 rw[hpd] at HM2
 have r2:=hM.symm
 have hMb:2≤M∧M≤65536:=by
  have h1:=HM2.out.2.2.2
  have h2:=p2_le (show d≤16 by have:=five_range hd; omega)
  rw[show p2 16=65536 by decide +kernel,hpd] at h2
  omega
 have w6:IntKind.i64.wrap M=M:=by rw [IntKind.wrap_i64]; omega
 have w7:IntKind.i64.wrap (M - 1)=M - 1:=by rw [IntKind.wrap_i64]; omega
 have m64:min d 64=d:=by have:=five_range hd; omega
 have n0:((M - 1:Int) == 0)=false:=by simp only [beq_eq_false_iff_ne,ne_eq]; omega
 have n0p:¬ (M - 1:Int)=0:=by omega
 have q1:(65535:Int).tdiv (M - 1)=m:=by
  have h3:=HM2.out.2.2.1
  rw[← h3,Int.mul_comm]
  exact Int.mul_tdiv_cancel _ n0p
 have hd0:(0:Int)≤(d:Int):=by omega
 have hm0:=HM2.out.1
 have hm1:=HM2.out.2.1
 have w8:IntKind.i64.wrap m=m:=by rw [IntKind.wrap_i64]; omega
 clear hM hpd hm
 go_loopw [8,23] (fun _ i u=>∃ j:Nat,j≤4∧i=.int .i64 (j:Int)∧Hid (PxI w X v m j u)) (fun _ i _=>4 - (intOf i).toNat)
 case atStart=>exact⟨0,by omega,rfl,H3⟩
 case round=>
  clear H3
  obtain⟨j,hj,rfl,hI⟩:=hrel
  by_cases hlt:j < 4
  ·have hv0:=HV.out j hlt
   have hj0:(0:Int)≤(j:Int):=by omega
   have hj1:(j:Int) < 4:=by omega
   have dj:decide ((j:Int) < 4)=true:=decide_eq_true hj1
   have HJ:Hid (∀ u,PxI w X v m j u→PxI w X v m (j+1) (u.setCell ⟨X,j,none⟩ (.int .i64 (v j * m)))):=fun u hu=>hu.next hlt
   obtain⟨c0,cf,cl⟩:=hI.out.cell hlt
   have wm:IntKind.i64.wrap (v j * m)=v j * m:=by
    rw[IntKind.wrap_i64]
    have h1:0≤v j * m:=Int.mul_nonneg hv0.1 (by omega)
    have h2:v j * m≤65535 * 65535:=Int.mul_le_mul hv0.2 hm1 (by omega) (by omega)
    omega
   generalize hvj:v j=x at wm HJ c0
   clear hv0 hvj
   go_wp2_with fail
   go_region
   all_goals
    have HN:=hid_of (HJ.out _ (hI.out.called (bdraws (Below.refl _ _) 1)))
    go_wp2_with fail
    go_roundw
    case rel=>exact⟨j+1,by omega,by go_num,HN⟩
    case measure=>simp [intOf]; omega
  ·obtain rfl:j=4:=by omega
   obtain⟨Z,b1,b2⟩:=hI.out.1
   have z0:=(cell_of_block hI.out.2.1 0).trans rfl
   have z1:=(cell_of_block hI.out.2.1 1).trans rfl
   have z2:=(cell_of_block hI.out.2.1 2).trans rfl
   have z3:=(cell_of_block hI.out.2.1 3).trans rfl
   have zl:=block_lt hI.out.2.1
   have rl:=block_lt b1
   have rf:∀ k,wr.frozen? ⟨w.heap.size,k,none⟩=false:=unfrozen_of_block b1
   obtain⟨e0,r0⟩:∃ q,wr.cell? ⟨w.heap.size,0,none⟩=some q:=⟨Z[0]'(by omega),(cell_of_block b1 0).trans (Array.getElem?_eq_getElem (by omega))⟩
   obtain⟨e1,r1⟩:∃ q,wr.cell? ⟨w.heap.size,1,none⟩=some q:=⟨Z[1]'(by omega),(cell_of_block b1 1).trans (Array.getElem?_eq_getElem (by omega))⟩
   obtain⟨e2,r2⟩:∃ q,wr.cell? ⟨w.heap.size,2,none⟩=some q:=⟨Z[2]'(by omega),(cell_of_block b1 2).trans (Array.getElem?_eq_getElem (by omega))⟩
   obtain⟨e3,r3⟩:∃ q,wr.cell? ⟨w.heap.size,3,none⟩=some q:=⟨Z[3]'(by omega),(cell_of_block b1 3).trans (Array.getElem?_eq_getElem (by omega))⟩
   have dj:decide (((4:Nat):Int) < 4)=false:=by decide
   have HB:=hid_of hI.out.2.2.1
   clear hI b1 b2
   simp only [four,show (0:Nat) < 4 by omega,show (1:Nat) < 4 by omega,show (2:Nat) < 4 by omega,show (3:Nat) < 4 by omega,if_true] at z0 z1 z2 z3
   go_wp2_with fail
   refine bodyPost_ret (v:=.agg (four fun k=>v k * m)) ?_ rfl (HE.out _ ?_)
   ·simp[results,Tryz.results109,go_sem,four, *]
   ·iterate 4 refine Below.setCell ?_ (by simp) _
    exact HB.out
end Go.Proofs.YtkpbfmdnjnohlaaGreat
