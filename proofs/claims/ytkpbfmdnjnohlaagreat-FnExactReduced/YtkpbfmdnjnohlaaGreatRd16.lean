/-
  Texts of the proof, put together.
-/
import Derived.Test.YtkpbfmdnjnohlaaGreatRd04
namespace Go.Proofs.YtkpbfmdnjnohlaaGreat
open Go.RowKit Go.Joins ChunkMath
def CnS (w:World) (x y:ByteArray) (u:World):Prop:=u.heap[w.heap.size]?=some (.cells #[.string x,.string y] 93 (0,0))∧(∃ Z,u.heap[w.heap.size+1]?=some (.cells Z 93 (0,0))∧Z.size=2)∧Below w.heap.size w u
theorem CnS.called {w u u':World} {x y:ByteArray} (h:CnS w x y u) (hb:Below u.heap.size u u'):CnS w x y u':=by
 obtain⟨h1,⟨Z,h2,hz⟩,h3⟩:=h
 exact⟨(hb.block _ (block_lt h1)).trans h1,⟨Z,(hb.block _ (block_lt h2)).trans h2,hz⟩,bnext h3 hb⟩
theorem CnS.set {w u:World} {x y:ByteArray} (h:CnS w x y u) (k:Nat) (v:Value):CnS w x y (u.setCell ⟨w.heap.size+1,k,none⟩ v):=by
 obtain⟨h1,⟨Z,h2,hz⟩,h3⟩:=h
 refine⟨?_,⟨Z.setIfInBounds k v,?_,by simpa using hz⟩,h3.setCell (p:=⟨w.heap.size+1,k,none⟩) (by simp) v⟩
 ·rw[Below.heap_setCell _ _ _ _ (by simp)]; exact h1
 ·simp[World.setCell,Array.getElem?_modify,h2]
set_option maxRecDepth 100000 in
set_option maxHeartbeats 1600000 in
theorem clone_any (x y:ByteArray) (w:World) (hx:x.size≤1048576) (hy:y.size≤1048576):
  Calls Tryz.prog 108 #[.agg #[.string x,.string y]] w fun e w'=>e=.returned (.agg #[.string x,.string y])∧Below w.heap.size w w':=by
 have hcx:=fun W=>implClone x W hx
 have hcy:=fun W=>implClone y W hy
 have HX:Hid (CnS w x y ((w.alloc (.cells #[.string x,.string y] 93)).alloc (.cells #[.string ⟨#[]⟩,.string ⟨#[]⟩] 93))):=by
  refine⟨?_,⟨#[.string ⟨#[]⟩,.string ⟨#[]⟩],?_,rfl⟩,bal (bstart _ _) _⟩
  ·show ((w.heap.push _).push _)[w.heap.size]?=_
   rw[Array.getElem?_push,if_neg (by simp),Array.getElem?_push,if_pos (by simp)]
  ·show ((w.heap.push _).push _)[w.heap.size+1]?=_
   rw[Array.getElem?_push,if_pos (by simp)]
 go_enter Tryz.func108,Tryz.ntmps108
 go_wp2_with fail
 have HS0:CnS w x y ((w.alloc (.cells #[.string x,.string y] 93)).alloc (.cells #[.string ⟨#[]⟩,.string ⟨#[]⟩] 93)).drew:=HX.out.called (bdraws (Below.refl _ _) 1)
 clear HX
 refine wp_region_held (S:=CnS w x y) (by kernel_rfl) ?_
 show wpAnyH _ _ _ _ _ _ _ _ ((w.alloc _).alloc _).drew
 generalize ((w.alloc _).alloc _).drew=u0 at HS0 ⊢
 refine zqt 0 (.pointer (some ⟨w.heap.size,0,none⟩)) rfl ?_ HS0 ?_
 ·intro w' _
  go_simp
 simp only [Act.put,zga,zgb,zsa,zsb,zsc]
 refine zqt 1 (.string x) rfl ?_ HS0 ?_
 ·intro w' hS
  have c0:=(cell_of_block hS.1 0).trans rfl; have c1:=(cell_of_block hS.1 1).trans rfl; have cl:=block_lt hS.1
  go_simp
 simp only [Act.put,zga,zgb,zgc,zsa,zsb,zsc]
 refine zqt 3 (.pointer (some ⟨w.heap.size,1,none⟩)) rfl ?_ HS0 ?_
 ·intro w' _
  go_simp
 simp only [Act.put,zga,zgb,zgc,zsa,zsb,zsc]
 refine zqt 4 (.string y) rfl ?_ HS0 ?_
 ·intro w' hS
  have c0:=(cell_of_block hS.1 0).trans rfl; have c1:=(cell_of_block hS.1 1).trans rfl; have cl:=block_lt hS.1
  go_simp
 simp only [Act.put,zga,zgb,zgc,zsa,zsb,zsc]
 refine zqr 2 rfl (fun K1 hK=>?_)
 refine if_wanted (wanted_none rfl) ?_
 simp only [zga,zgb,zgc]
 go_simp
 refine (hcx _).mono ?_
 rintro e u1 ⟨rfl,hB⟩
 have HT:=HS0.called hB
 refine hK.out _ _ HT (fun HS1=>?_)
 clear hK hB HT
 refine zqr 5 rfl (fun K1 hK=>?_)
 refine if_wanted (wanted_none rfl) ?_
 simp only [zga,zgb,zgc]
 go_simp
 refine (hcy _).mono ?_
 rintro e u2 ⟨rfl,hB⟩
 have HT:=HS1.called hB
 refine hK.out _ _ HT (fun HS2=>?_)
 clear hK hB HT
 refine zqt 6 (.agg #[.string x,.string y]) rfl ?_ HS2 ?_
 ·intro w' _
  go_simp
 simp only [Act.put,zga,zgb,zgc,zsa,zsb,zsc]
 obtain⟨Z,hZ,hZs⟩:=HS2.2.1
 obtain⟨q0,z0⟩:∃ q,u2.cell? ⟨w.heap.size+1,0,none⟩=some q:=⟨Z[0]'(by omega),(cell_of_block hZ 0).trans (Array.getElem?_eq_getElem (by omega))⟩
 obtain⟨q1,z1⟩:∃ q,u2.cell? ⟨w.heap.size+1,1,none⟩=some q:=⟨Z[1]'(by omega),(cell_of_block hZ 1).trans (Array.getElem?_eq_getElem (by omega))⟩
 have zf:∀ k,u2.frozen? ⟨w.heap.size+1,k,none⟩=false:=unfrozen_of_block hZ
 have zl:=block_lt hZ
 have HF:Hid (CnS w x y ((u2.setCell ⟨w.heap.size+1,0,none⟩ (.string x)).setCell ⟨w.heap.size+1,1,none⟩ (.string y))):=(HS2.set 0 _).set 1 _
 clear hZ hZs HS0 HS1
 refine zqr 7 rfl (fun K1 hK=>?_)
 refine if_wanted (wanted_none rfl) ?_
 simp only [zga,zgb,zgc]
 go_simp
 refine hK.out _ _ HF.out (fun HS3=>?_)
 clear hK
 refine wpAnyH_done (by kernel_rfl) ?_ _
 go_wp2_with fail
 refine bodyPost_ret (v:=.agg #[.string x,.string y]) ?_ rfl ⟨rfl,HF.out.2.2⟩
 simp[results,Tryz.results108,go_sem, *]
theorem chksOwn_called {w w':World} {S n:Nat} {v:Value} {L:List Value} (h:w.ownsRow S 93 2 v n L) (hb:Below w.heap.size w w'):w'.ownsRow S 93 2 v n L:=by
 refine⟨h.1,?_⟩
 rcases h.2 with h | ⟨g,cap,cur,rfl,h1,h2,h3⟩
 ·exact .inl h
 ·exact .inr ⟨g,cap,cur,rfl,h1,(hb.block g (block_lt h2)).trans h2,h3⟩
def CpI (w wr:World) (v:Value) (K:Nat→Chk) (j:Nat):Prop:=wr.ownsRow w.heap.size 93 2 v j (kcells ((List.range j).map K))∧Below w.heap.size w wr
theorem CpI.next {w wr w1:World} {v v1:Value} {K:Nat→Chk} {j:Nat} {W:World} (h:CpI w wr v K j) (hb:Below w.heap.size w W) (hown:w1.ownsRow w.heap.size 93 2 v1 ((List.range j).map K ++ [K j]).length (kcells ((List.range j).map K ++ [K j]))) (hg:W.grownBy w1 v.ownBlock):CpI w w1 v1 K (j+1):=by
 refine⟨?_,hb.grown hg hb.size (fun q hq=>(h.1.lt q hq).1)⟩
 rw[List.range_succ,List.map_append,List.map_singleton]
 simpa using hown
def CopiesPost (n:Nat) (K:Nat→Chk) (w:World) (e:Ending) (w':World):Prop:=∃ a c,e=.returned (.slice a n c)∧KSL w' w.heap.size a n K∧Below w.heap.size w w'
theorem copies_end {w wr:World} {v:Value} {K:Nat→Chk} {n:Nat} (h:CpI w wr v K n):CopiesPost n K w (.returned v) wr:=by
 obtain⟨a,c,rfl,hS⟩:=ksl_of_own (L:=(List.range n).map K) h.1 (by simp)
 have hl:((List.range n).map K).length=n:=by simp
 rw[hl] at hS
 refine⟨a,c,by rw [hl],?_,h.2⟩
 rcases hS with h0 | ⟨g,e,ho⟩
 ·exact .inl h0
 ·refine .inr ⟨g,e,ho.congr fun j hj=>?_⟩
  rw[List.getD_eq_getElem?_getD,List.getElem?_map,List.getElem?_range hj]
  rfl
set_option maxRecDepth 100000 in
set_option maxHeartbeats 1600000 in
theorem copiesOf_big (a:Option Addr) (n c:Nat) (K:Nat→Chk) (w:World) (hC:KCame w a n K) (hn:n≤1048576) (hm:∀ i,i < n→(K i).1.size≤1048576∧(K i).2.size≤1048576):
  Calls Tryz.prog 78 #[.slice a n c] w (CopiesPost n K w):=by
 have HC:=hid_of hC
 have HM:=hid_of hm
 have H0:Hid (CpI w w (.slice none 0 0) K 0):=⟨⟨rfl,.inl ⟨rfl,rfl⟩⟩,Below.refl _ _⟩
 clear hC hm
 go_enter Tryz.func78,Tryz.ntmps78
 go_wp2_with fail
 go_loopw [3,8] (fun z i w'=>∃ (j:Nat) (v:Value),j≤n∧z=v∧i=.int .i64 j∧Hid (CpI w w' v K j)) (fun _ i _=>n - (intOf i).toNat)
 case atStart=>exact⟨0,_,Nat.zero_le _,rfl,rfl,H0⟩
 case round=>
  clear H0
  obtain⟨j,v,hj,rfl,rfl,hI⟩:=hrel
  by_cases hlt:j < n
  ·rcases HC.out with h0 | ⟨g,off,rfl,hg,hc⟩
   ·omega
   ·have c0:wr.cell? ⟨g,off+j * 2,none⟩=some (.string (K j).1):=(hI.out.2.cell (p:=⟨g,off+j * 2,none⟩) hg).trans (hc j hlt).1
    have c1:wr.cell? ⟨g,off+j * 2+1,none⟩=some (.string (K j).2):=(hI.out.2.cell (p:=⟨g,off+j * 2+1,none⟩) hg).trans (hc j hlt).2
    have hl2:g < wr.heap.size:=Nat.lt_of_lt_of_le hg hI.out.2.size
    have hcl:=fun W=>clone_any (K j).1 (K j).2 W (HM.out j hlt).1 (HM.out j hlt).2
    have HE:Hid (K j=((K j).1,(K j).2)):=rfl
    generalize (K j).1=x at *
    generalize (K j).2=y at *
    clear hc
    go_wp2_with fail
    refine (hcl _).mono ?_
    rintro e w2 ⟨rfl,hB⟩
    have HB2:Hid (Below wr.heap.size wr w2):=bnext (bstart wr (.cells #[.string x,.string y] 93)) hB
    clear hB hcl
    go_wp2_with (at_builtin; refine chks_append (S:=w.heap.size) (xs:=(List.range j).map K) (ys:=[(x,y)]) rfl _ _ rfl rfl (World.ownsRow.alloc (by rw [List.length_map,List.length_range]; exact chksOwn_called hI.out.1 HB2.out) _) (some ⟨w2.heap.size,0,none⟩) 1 1 rfl rfl (fun ad e=>by cases e; exact World.news_of_block (cs:=#[.string x,.string y]) (t:=93) (fr:=(0,0)) (heap_alloc_new w2 _)) (fun h=>by cases h) (by simp only [List.length_map,List.length_range,List.length_cons,List.length_nil]; omega) (by have h1:=hI.out.2.size; have h2:=HB2.out.size; simp; omega) ?_)
    intro v7 w7 y1 y2
    have HI7:Hid (CpI w w7 v7 K (j+1)):=hI.out.next (bal (bnext hI.out.2 HB2.out) _) (by rw [HE.out]; simpa using y1) y2
    clear y1 y2
    go_wp2_with fail
    go_roundw
    case rel=>exact⟨j+1,_,by omega,rfl,by go_num,HI7⟩
    case measure=>simp [intOf]; omega
  ·obtain rfl:j=n:=by omega
   go_wp2_with fail
   go_ret
   exact copies_end hI.out
theorem kcame_news {w:World} {ad:Addr} {n:Nat} {K:Nat→Chk} (h:KCame w (some ad) n K) (j:Nat) (u:Value) (hu:(kcells ((List.range n).map K))[j]?=some u):w.cell? (ad.add j)=some u:=by
 have hlen:((List.range n).map K).length=n:=by simp
 have hj:j < n * 2:=by
  rcases Nat.lt_or_ge j (n * 2) with k | k
  ·exact k
  ·rw[List.getElem?_eq_none (by rw [dcells_length,hlen]; exact k)] at hu
   cases hu
 have hg:∀ i,i < n→((List.range n).map K).getD i (ByteArray.empty,ByteArray.empty)=K i:=fun i hi=>by
  rw[List.getD_eq_getElem?_getD,List.getElem?_map,List.getElem?_range hi]
  rfl
 rcases h with h0 | ⟨g,off,e,hb,hc⟩
 ·omega
 ·cases e
  rw[Addr.add_lit]
  rcases Nat.mod_two_eq_zero_or_one j with h2 | h2
  ·obtain⟨i,rfl⟩:∃ i,j=i * 2:=⟨j / 2,by omega⟩
   have hi:i < n:=by omega
   rw[dcells_get0 _ _ (by rw [hlen]; exact hi),hg _ hi] at hu
   rw[← hu]
   exact (hc i hi).1
  ·obtain⟨i,rfl⟩:∃ i,j=i * 2+1:=⟨j / 2,by omega⟩
   have hi:i < n:=by omega
   rw[dcells_get1 _ _ (by rw [hlen]; exact hi),hg _ hi] at hu
   rw[← hu]
   exact (hc i hi).2
set_option maxRecDepth 100000 in
set_option maxHeartbeats 1600000 in
theorem copyKept_big (a:Option Addr) (n c:Nat) (K:Nat→Chk) (w:World) (hC:KCame w a n K) (hn:n≤1048576):
  Calls Tryz.prog 71 #[.slice a n c] w (CopiesPost n K w):=by
 have hnone:a=none→n=0:=fun e=>by
  rcases hC with h | ⟨g,off,h,_⟩
  ·exact h
  ·rw[h] at e; cases e
 have HC:=hid_of hC
 have HN:=hid_of hnone
 clear hC hnone
 go_enter Tryz.func71,Tryz.ntmps71
 go_wp2_with (at_builtin; refine chks_append (S:=w.heap.size) (xs:=[]) (ys:=(List.range n).map K) rfl _ _ rfl rfl ?own a n c rfl (by simp) (fun ad e=>kcame_news (by rw [← e]; exact HC.out.called (bstart _ _))) HN.out (by simp; omega) (by simp) ?_)
 case own=>exact⟨rfl,.inr ⟨w.heap.size,0,#[],rfl,Nat.le_refl _,heap_alloc_new w _,Nat.le_refl _,Nat.zero_le _,rfl,rfl⟩⟩
 ·intro v7 w7 y1 y2
  have HI7:Hid (CpI w w7 v7 K n):=⟨by simpa using y1,(bstart w _).grown y2 (by simp) (fun q hq=>by cases hq; exact Nat.le_refl _)⟩
  clear y1 y2
  go_wp2_with fail
  go_ret
  exact copies_end HI7.out
theorem copiesOf_any (a:Option Addr) (n c:Nat) (K:Nat→Chk) (w:World) (hC:KCame w a n K) (hn:n≤1000) (hm:∀ i,i < n→(K i).1.size≤1048576∧(K i).2.size≤1048576):
  Calls Tryz.prog 78 #[.slice a n c] w (CopiesPost n K w):=copiesOf_big a n c K w hC (by omega) hm
theorem copyKept_any (a:Option Addr) (n c:Nat) (K:Nat→Chk) (w:World) (hC:KCame w a n K) (hn:n≤1000):
  Calls Tryz.prog 71 #[.slice a n c] w (CopiesPost n K w):=copyKept_big a n c K w hC (by omega)
end Go.Proofs.YtkpbfmdnjnohlaaGreat
