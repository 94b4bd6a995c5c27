/-
  Texts of the proof, put together.
-/
import Derived.Test.YtkpbfmdnjnohlaaGreatTk06
import Derived.Deep.LoopGhost
namespace Go.Proofs.YtkpbfmdnjnohlaaGreat
section
open Go.RowKit Go.Joins OutMath ChunkMath
def digT (d:Nat):ByteArray:=⟨#[UInt8.ofNat (48+d)]⟩
def digs:Nat→Nat→ByteArray→ByteArray
 | 0,_,o=>o
 | f+1,k,o=>if k=0 then o else digs f (k / 10) (digT (k % 10) ++ o)
def digsOf (k:Nat) (o:ByteArray):ByteArray:=digs k k o
theorem digs_zero (f:Nat) (o:ByteArray):digs f 0 o=o:=by
 cases f with
 | zero=>rfl
 | succ f=>rw [digs,if_pos rfl]
theorem digs_fuel:∀ (f k:Nat) (o:ByteArray),k≤f→digs f k o=digs k k o
 | f,0,o,_=>by rw [digs_zero,digs_zero]
 | 0,k+1,_,h=>by omega
 | f+1,k+1,o,h=>by
  rw[digs,digs,if_neg (by omega),if_neg (by omega),digs_fuel f ((k+1) / 10) _ (by omega),digs_fuel k ((k+1) / 10) _ (by omega)]
theorem digsOf_zero (o:ByteArray):digsOf 0 o=o:=rfl
theorem digsOf_step (k:Nat) (o:ByteArray) (h:0 < k):digsOf k o=digsOf (k / 10) (digT (k % 10) ++ o):=by
 obtain⟨q,rfl⟩:∃ q,k=q+1:=⟨k - 1,by omega⟩
 unfold digsOf
 rw[digs,if_neg (by omega),digs_fuel q _ _ (by omega)]
def markT (k:Nat):ByteArray:=if k=0 then ⟨#[109,48]⟩ else ⟨#[109]⟩ ++ digsOf k ⟨#[]⟩
set_option maxRecDepth 100000 in
set_option maxHeartbeats 800000 in
theorem markText_any (k:Nat) (w:World) (h:k≤100000000):Calls Tryz.prog 81 #[.int .i64 (k:Int)] w fun e w'=>e=.returned (.string (markT k))∧Below w.heap.size w w':=by
 by_cases h0:k=0
 ·subst h0
  have d0:decide ((((0:Nat):Int))≤0)=true:=decide_eq_true (by omega)
  go_enter Tryz.func81,Tryz.ntmps81
  go_wp2_with fail
  go_ret
  exact⟨rfl,Below.refl _ _⟩
 ·have d0:decide ((k:Int)≤0)=false:=decide_eq_false (by omega)
  have HM:Hid (markT k=⟨#[109]⟩ ++ digsOf k ⟨#[]⟩):=by
   show _=_
   unfold markT
   rw[if_neg h0]
  have H0:Hid (Below w.heap.size w w):=Below.refl _ _
  go_enter Tryz.func81,Tryz.ntmps81
  go_wp2_with fail
  go_loopg [0,3] (k+1) (fun gk z o w'=>∃ (q:Nat) (t:ByteArray),z=.int .i64 (q:Int)∧o=.string t∧q≤gk∧q+t.size≤k∧Hid (digsOf q t=digsOf k ⟨#[]⟩)∧Hid (Below w.heap.size w w'))
  case atStart=>exact⟨k,⟨#[]⟩,rfl,rfl,by omega,Nat.le_refl _,rfl,H0⟩
  case round=>
   clear H0
   obtain⟨q,t,rfl,rfl,hgk,hsz,hD,hB⟩:=hrel
   by_cases hq:q=0
   ·subst hq
    have dq:decide ((((0:Nat):Int)) > 0)=false:=decide_eq_false (by omega)
    have HT:Hid (digsOf k ⟨#[]⟩=t):=by
     show _=_
     rw[← hD.out,digsOf_zero]
    go_wp2_with fail
    refine bodyPost_ret (v:=.string (⟨#[109]⟩ ++ t)) ?_ rfl ⟨by rw [HM.out,HT.out],hB.out⟩
    simp[results,Tryz.results81,go_sem]
   ·have dq:decide ((q:Int) > 0)=true:=decide_eq_true (by omega)
    have HN:Hid (digsOf (q / 10) (digT (q % 10) ++ t)=digsOf k ⟨#[]⟩):=by
     show _=_
     rw[← hD.out,← digsOf_step q t (by omega)]
    have hz:(digT (q % 10) ++ t).size=1+t.size:=by rw [bx_size]; rfl
    have hcv:(convert 120 9 (.slice (some ⟨wr.heap.size,0,none⟩) 1 1)).run Tryz.prog (wr.alloc (.cells #[.int .u8 (48+(q:Int) % 10)] 5))=.ok (.string (digT (q % 10))) (wr.alloc (.cells #[.int .u8 (48+(q:Int) % 10)] 5)):=by
     have e:=run_convert_bytes_arg (wr.alloc (.cells #[.int .u8 (48+(q:Int) % 10)] 5)) 120 5 Tryz.underlying120 Tryz.underlying5 wr.heap.size 0 1 1 [48+(q:Int) % 10] rfl (fun i hi=>by
      obtain rfl:i=0:=by simp at hi; omega
      exact (cell_of_block (heap_alloc_new wr _) 0).trans rfl) 9 Tryz.underlying9
     have e2:(48+(q:Int) % 10).toNat=48+q % 10:=by omega
     have e3:strOfNums [48+(q:Int) % 10]=digT (q % 10):=by
      unfold strOfNums digT
      simp[e2]
     rw[e,e3]
    have hle:(digT (q % 10)).size+t.size≤9223372036854775807:=by rw [← bx_size,hz]; omega
    have HB:=hid_of (bal hB.out (.cells #[.int .u8 (48+(q:Int) % 10)] 5))
    clear hB hD
    go_wp2_with fail
    go_roundg (q / 10)
    case measure=>omega
    case rel=>exact⟨q / 10,digT (q % 10) ++ t,by first | rfl | go_num | (congr 1; omega),rfl,Nat.le_refl _,by rw [hz]; omega,HN,HB⟩
def mkd (k:Nat) (j:Nat):Chk:=(markT (k+2 * j),markT (k+2 * j+1))
theorem KOwn.set0 {w:World} {base g n:Nat} {F:Nat→Chk} (h:KOwn w base g n F) (j:Nat) (hj:j < n) (x:ByteArray):KOwn (w.setCell ⟨g,j * 2,none⟩ (.string x)) base g n (updK F j (x,(F j).2)):=by
 obtain⟨h1,cur,h2,h3,h4⟩:=h
 refine⟨h1,cur.setIfInBounds (j * 2) (.string x),?_,by simpa using h3,fun i hi=>?_⟩
 ·simp[World.setCell,Array.getElem?_modify,h2]
 ·obtain⟨k1,k2⟩:=h4 i hi
  unfold updK
  by_cases e:i=j
  ·subst e
   rw[if_pos rfl]
   refine⟨?_,?_⟩
   ·rw[Array.getElem?_setIfInBounds_self_of_lt (by omega)]
   ·rw[Array.getElem?_setIfInBounds_ne (by omega)]; exact k2
  ·rw[if_neg e]
   refine⟨?_,?_⟩
   ·rw[Array.getElem?_setIfInBounds_ne (by omega)]; exact k1
   ·rw[Array.getElem?_setIfInBounds_ne (by omega)]; exact k2
theorem KOwn.set1 {w:World} {base g n:Nat} {F:Nat→Chk} (h:KOwn w base g n F) (j:Nat) (hj:j < n) (y:ByteArray):KOwn (w.setCell ⟨g,j * 2+1,none⟩ (.string y)) base g n (updK F j ((F j).1,y)):=by
 obtain⟨h1,cur,h2,h3,h4⟩:=h
 refine⟨h1,cur.setIfInBounds (j * 2+1) (.string y),?_,by simpa using h3,fun i hi=>?_⟩
 ·simp[World.setCell,Array.getElem?_modify,h2]
 ·obtain⟨k1,k2⟩:=h4 i hi
  unfold updK
  by_cases e:i=j
  ·subst e
   rw[if_pos rfl]
   refine⟨?_,?_⟩
   ·rw[Array.getElem?_setIfInBounds_ne (by omega)]; exact k1
   ·rw[Array.getElem?_setIfInBounds_self_of_lt (by omega)]
  ·rw[if_neg e]
   refine⟨?_,?_⟩
   ·rw[Array.getElem?_setIfInBounds_ne (by omega)]; exact k1
   ·rw[Array.getElem?_setIfInBounds_ne (by omega)]; exact k2
def KM (w w':World) (base g n:Nat) (F:Nat→Chk):Prop:=KOwn w' base g n F∧w.grownBy w' (some g)
theorem KM.called {w w' w2:World} {base g n:Nat} {F:Nat→Chk} (h:KM w w' base g n F) (hb:Below w'.heap.size w' w2):KM w w2 base g n F:=
 ⟨h.1.called hb,hb.os.trans h.2.os,hb.tape.trans h.2.tape,hb.output.trans h.2.output,Nat.le_trans h.2.size hb.size,fun b hl hne=>(hb.block b (Nat.lt_of_lt_of_le hl h.2.size)).trans (h.2.block b hl hne)⟩
theorem KM.set {w w':World} {base g n:Nat} {F G:Nat→Chk} {q:Nat} {v:Value} (h:KM w w' base g n F) (hk:KOwn (w'.setCell ⟨g,q,none⟩ v) base g n G):KM w (w'.setCell ⟨g,q,none⟩ v) base g n G:=by
 refine⟨hk,h.2.os,h.2.tape,h.2.output,by simpa using h.2.size,fun b hl hne=>?_⟩
 have hbg:b≠g:=fun e=>hne (by rw [e])
 rw[Below.heap_setCell _ _ _ _ hbg]
 exact h.2.block b hl hne
theorem KM.congr {w w':World} {base g n:Nat} {F G:Nat→Chk} (h:KM w w' base g n F) (e:∀ j,j < n→F j=G j):KM w w' base g n G:=⟨h.1.congr e,h.2⟩
theorem mk_step {k j m n:Nat} {F:Nat→Chk} {X:ByteArray} (hm:m=k+2 * j):∀ i,i < n→updK (updK (fun i=>if i < j then mkd k i else F i) j (markT m,X)) j ((updK (fun i=>if i < j then mkd k i else F i) j (markT m,X) j).1,markT (m+1)) i=if i < j+1 then mkd k i else F i:=fun i _=>by
 subst hm
 by_cases q:i=j
 ·subst q
  rw[if_pos (Nat.lt_succ_self _)]
  simp[updK,mkd]
 ·have e:updK (updK (fun i=>if i < j then mkd k i else F i) j (markT (k+2 * j),X)) j ((updK (fun i=>if i < j then mkd k i else F i) j (markT (k+2 * j),X) j).1,markT (k+2 * j+1)) i=if i < j then mkd k i else F i:=by
   simp[updK,q]
  rw[e]
  by_cases q2:i < j
  ·rw[if_pos q2,if_pos (by omega)]
  ·rw[if_neg q2,if_neg (by omega)]
set_option maxHeartbeats 800000 in
theorem markChunkS_own (base g n c:Nat) (F:Nat→Chk) (k:Nat) (w:World) (ha:KOwn w base g n F) (hn:n≤1048576) (h1:k≤10000000):
  Calls Tryz.prog 49 #[.slice (some ⟨g,0,none⟩) n c,.int .i64 (k:Int)] w fun e w'=>e=.returned (.int .i64 ((k+2 * n:Nat):Int))∧KOwn w' base g n (mkd k)∧w.grownBy w' (some g):=by
 have H0:Hid (KM w w base g n (fun i=>if i < 0 then mkd k i else F i)):=⟨ha.congr (fun i _=>by rw [if_neg (Nat.not_lt_zero i)]),⟨rfl,rfl,rfl,Nat.le_refl _,fun _ _ _=>rfl⟩⟩
 clear ha
 go_enter Tryz.func49,Tryz.ntmps49
 go_wp2_with fail
 go_loopw [1,5] (fun z i w'=>∃ (j m:Nat),j≤n∧Hid (m=k+2 * j)∧i=.int .i64 (j:Int)∧z=.int .i64 (m:Int)∧Hid (KM w w' base g n (fun i=>if i < j then mkd k i else F i))) (fun _ i _=>n - (intOf i).toNat)
 case atStart=>exact⟨0,k,Nat.zero_le _,rfl,rfl,rfl,H0⟩
 case round=>
  clear H0
  obtain⟨j,m,hj,hm,rfl,rfl,hS⟩:=hrel
  by_cases hlt:j < n
  ·have hmb:m+2≤100000000:=by have:=hm.out; omega
   have hk0:=fun W=>markText_any m W (by omega)
   have hk1:=fun W=>markText_any (m+1) W (by omega)
   rw[show ((m+1:Nat):Int)=(m:Int)+1 by omega] at hk1
   go_wp2_with fail
   refine (hk0 _).mono ?_
   rintro e w1 ⟨rfl,hB1⟩
   have HS1:=hid_of (hS.out.called hB1)
   clear hB1 hS
   rcases HS1.out.1.came with q | ⟨g',off,e,hg,hc⟩
   ·omega
   ·cases e
    have c0:=(hc j hlt).1
    rw[Nat.zero_add] at c0
    have fz:=HS1.out.1.free (j * 2)
    have HS2:=hid_of (HS1.out.set (HS1.out.1.set0 j hlt (markT m)))
    clear hc
    go_wp2_with fail
    generalize w1.setCell ⟨g,j * 2,none⟩ (.string (markT m))=W2 at HS2 ⊢
    refine (hk1 _).mono ?_
    rintro e w3 ⟨rfl,hB3⟩
    have HS3:=hid_of (HS2.out.called hB3)
    clear hB3 HS2 HS1 c0 fz
    rcases HS3.out.1.came with q | ⟨g',off,e,hg3,hc⟩
    ·omega
    ·cases e
     have c1:=(hc j hlt).2
     rw[Nat.zero_add] at c1
     have fz:=HS3.out.1.free (j * 2+1)
     have HS4:Hid (KM w (w3.setCell ⟨g,j * 2+1,none⟩ (.string (markT (m+1)))) base g n (fun i=>if i < j+1 then mkd k i else F i)):=(HS3.out.set (HS3.out.1.set1 j hlt (markT (m+1)))).congr (mk_step hm.out)
     clear hc
     go_wp2_with fail
     go_roundw
     case rel=>exact⟨j+1,m+1+1,by omega,by have:=hm.out; show _=_; omega,by go_num,by first | go_num | (congr 1; omega),HS4⟩
     case measure=>simp [intOf]; omega
  ·obtain rfl:j=n:=by omega
   have HZ:Hid (KOwn wr base g j (mkd k)∧w.grownBy wr (some g)):=hS.out.congr (fun i hi=>by rw [if_pos hi])
   obtain rfl:m=k+2 * j:=hm.out
   go_wp2_with fail
   go_ret
   exact⟨rfl,HZ.out⟩
theorem markChunkS_none (a:Option Addr) (c:Nat) (k:Int) (w:World):Calls Tryz.prog 49 #[.slice a 0 c,.int .i64 k] w fun e w'=>e=.returned (.int .i64 k)∧w'=w:=by
 go_enter Tryz.func49,Tryz.ntmps49
 go_wp2_with fail
 go_loop [1,5] (fun z i=>i=.int .i64 0∧z=.int .i64 k) (fun _ _=>0)
 case atStart=>exact⟨rfl,rfl⟩
 case round=>
  obtain⟨rfl,rfl⟩:=hrel
  go_wp2_with fail
  go_ret
  exact⟨rfl,rfl⟩
set_option maxRecDepth 100000 in
set_option maxHeartbeats 1600000 in
theorem heldChunkS_same (a:Option Addr) (n c:Nat) (k:Nat) (w:World) (ha:KCame w a n (mkd k)) (hn:n≤1048576) (h1:k≤10000000):
  Calls Tryz.prog 53 #[.slice a n c,.int .i64 (k:Int)] w fun e w'=>e=.returned (.int .i64 ((k+2 * n:Nat):Int))∧Below w.heap.size w w':=by
 have HA:=hid_of ha
 have H0:Hid (Below w.heap.size w w):=Below.refl _ _
 clear ha
 go_enter Tryz.func53,Tryz.ntmps53
 go_wp2_with fail
 go_loopw [1,5] (fun z i w'=>∃ (j m:Nat),j≤n∧Hid (m=k+2 * j)∧i=.int .i64 (j:Int)∧z=.int .i64 (m:Int)∧Hid (Below w.heap.size w w')) (fun _ i _=>n - (intOf i).toNat)
 case atStart=>exact⟨0,k,Nat.zero_le _,rfl,rfl,rfl,H0⟩
 case round=>
  clear H0
  obtain⟨j,m,hj,hm,rfl,rfl,hB⟩:=hrel
  by_cases hlt:j < n
  ·have hmb:m+2≤100000000:=by have:=hm.out; omega
   have hk0:=fun W=>markText_any m W (by omega)
   have hk1:=fun W=>markText_any (m+1) W (by omega)
   rw[show ((m+1:Nat):Int)=(m:Int)+1 by omega] at hk1
   rcases HA.out with q | ⟨g,off,rfl,hg,hc⟩
   ·omega
   ·have c0:wr.cell? ⟨g,off+j * 2,none⟩=some (.string (markT m)):=by rw [hm.out]; exact (hB.out.cell (p:=⟨g,off+j * 2,none⟩) hg).trans (hc j hlt).1
    have c1:wr.cell? ⟨g,off+j * 2+1,none⟩=some (.string (markT (m+1))):=by rw [hm.out]; exact (hB.out.cell (p:=⟨g,off+j * 2+1,none⟩) hg).trans (hc j hlt).2
    have hl2:g < wr.heap.size:=Nat.lt_of_lt_of_le hg hB.out.size
    clear hc
    go_wp2_with fail
    refine wp_region_held (S:=fun u=>u.cell? ⟨g,off+j * 2,none⟩=some (.string (markT m))) (by kernel_rfl) ?_
    show wpAnyH _ _ _ _ _ _ _ _ (World.drew _)
    have HS:(World.drew wr).cell? ⟨g,off+j * 2,none⟩=some (.string (markT m)):=c0
    refine wpAnyH_take (i:=0) (v:=.slice (some ⟨g,off,none⟩) n c) rfl (by kernel_rfl) (by kernel_rfl) (by kernel_rfl) (fun _ _ _ h=>h) (Or.inl ⟨by rfl,?_⟩) HS ?_
    ·intro w' hS
     have s0:=hS
     go_simp
    simp only [Act.put,List.getElem_toArray,List.getElem_cons_zero,List.setIfInBounds_toArray,List.set_cons_zero,List.set_cons_succ]
    refine wpAnyH_take (i:=1) (v:=.int .i64 (j:Int)) rfl (by kernel_rfl) (by kernel_rfl) (by kernel_rfl) (fun _ _ _ h=>h) (Or.inl ⟨by rfl,?_⟩) HS ?_
    ·intro w' hS
     have s0:=hS
     go_simp
    simp only [Act.put,List.getElem_toArray,List.getElem_cons_zero,List.getElem_cons_succ,List.setIfInBounds_toArray,List.set_cons_zero,List.set_cons_succ]
    refine wpAnyH_take (i:=2) (v:=.pointer (some ⟨g,off+j * 2,none⟩)) rfl (by kernel_rfl) (by kernel_rfl) (by kernel_rfl) (fun _ _ _ h=>h) (Or.inl ⟨by rfl,?_⟩) HS ?_
    ·intro w' hS
     have s0:=hS
     go_simp
    simp only [Act.put,List.getElem_toArray,List.getElem_cons_zero,List.getElem_cons_succ,List.setIfInBounds_toArray,List.set_cons_zero,List.set_cons_succ]
    refine wpAnyH_take (i:=3) (v:=.pointer (some ⟨g,off+j * 2,none⟩)) rfl (by kernel_rfl) (by kernel_rfl) (by kernel_rfl) (fun _ _ _ h=>h) (Or.inl ⟨by rfl,?_⟩) HS ?_
    ·intro w' hS
     have s0:=hS
     go_simp
    simp only [Act.put,List.getElem_toArray,List.getElem_cons_zero,List.getElem_cons_succ,List.setIfInBounds_toArray,List.set_cons_zero,List.set_cons_succ]
    refine wpAnyH_take (i:=4) (v:=.string (markT m)) rfl (by kernel_rfl) (by kernel_rfl) (by kernel_rfl) (fun _ _ _ h=>h) (Or.inl ⟨by rfl,?_⟩) HS ?_
    ·intro w' hS
     have s0:=hS
     go_simp
    simp only [Act.put,List.getElem_toArray,List.getElem_cons_zero,List.getElem_cons_succ,List.setIfInBounds_toArray,List.set_cons_zero,List.set_cons_succ]
    refine wpAnyH_take (i:=5) (v:=.int .i64 (m:Int)) rfl (by kernel_rfl) (by kernel_rfl) (by kernel_rfl) (fun _ _ _ h=>h) (Or.inl ⟨by rfl,?_⟩) HS ?_
    ·intro w' hS
     have s0:=hS
     go_simp
    simp only [Act.put,List.getElem_toArray,List.getElem_cons_zero,List.getElem_cons_succ,List.setIfInBounds_toArray,List.set_cons_zero,List.set_cons_succ]
    refine wpAnyH_ready (rs:=[6]) (by kernel_rfl) (by simp) ?_
    refine AllReadyH.cons rfl (fun K hK=>?_) AllReadyH.nil
    refine if_wanted (wanted_none rfl) ?_
    simp only [List.getElem_toArray,List.getElem_cons_zero,List.getElem_cons_succ]
    go_simp
    refine (hk0 _).mono ?_
    rintro e w1 ⟨rfl,hB1⟩
    have l0:w1.cell? ⟨g,off+j * 2,none⟩=some (.string (markT m)):=(hB1.cell (p:=⟨g,off+j * 2,none⟩) hl2).trans c0
    have l1:w1.cell? ⟨g,off+j * 2+1,none⟩=some (.string (markT (m+1))):=(hB1.cell (p:=⟨g,off+j * 2+1,none⟩) hl2).trans c1
    have ll:g < w1.heap.size:=Nat.lt_of_lt_of_le hl2 hB1.size
    have HB1:=hid_of (bnext (bdraws hB.out 1) hB1)
    clear hB1
    refine hK.out _ _ l0 (fun HS1=>?_)
    clear hK HS c0 c1 hl2
    refine wpAnyH_take (i:=7) (v:=.bool false) rfl (by kernel_rfl) (by kernel_rfl) (by kernel_rfl) (fun _ _ _ h=>h) (Or.inl ⟨by rfl,?_⟩) HS1 ?_
    ·intro w' hS
     have s0:=hS
     go_simp
    simp only [Act.put,List.getElem_toArray,List.getElem_cons_zero,List.getElem_cons_succ,List.setIfInBounds_toArray,List.set_cons_zero,List.set_cons_succ]
    refine wpAnyH_done (by kernel_rfl) ?_ _
    clear HS1
    go_wp2_with fail
    refine wp_region_held (S:=fun u=>u.cell? ⟨g,off+j * 2+1,none⟩=some (.string (markT (m+1)))) (by kernel_rfl) ?_
    show wpAnyH _ _ _ _ _ _ _ _ (World.drew _)
    have HS:(World.drew w1).cell? ⟨g,off+j * 2+1,none⟩=some (.string (markT (m+1))):=l1
    refine wpAnyH_take (i:=0) (v:=.slice (some ⟨g,off,none⟩) n c) rfl (by kernel_rfl) (by kernel_rfl) (by kernel_rfl) (fun _ _ _ h=>h) (Or.inl ⟨by rfl,?_⟩) HS ?_
    ·intro w' hS
     have s0:=hS
     go_simp
    simp only [Act.put,List.getElem_toArray,List.getElem_cons_zero,List.setIfInBounds_toArray,List.set_cons_zero,List.set_cons_succ]
    refine wpAnyH_take (i:=1) (v:=.int .i64 (j:Int)) rfl (by kernel_rfl) (by kernel_rfl) (by kernel_rfl) (fun _ _ _ h=>h) (Or.inl ⟨by rfl,?_⟩) HS ?_
    ·intro w' hS
     have s0:=hS
     go_simp
    simp only [Act.put,List.getElem_toArray,List.getElem_cons_zero,List.getElem_cons_succ,List.setIfInBounds_toArray,List.set_cons_zero,List.set_cons_succ]
    refine wpAnyH_take (i:=2) (v:=.pointer (some ⟨g,off+j * 2,none⟩)) rfl (by kernel_rfl) (by kernel_rfl) (by kernel_rfl) (fun _ _ _ h=>h) (Or.inl ⟨by rfl,?_⟩) HS ?_
    ·intro w' hS
     have s0:=hS
     go_simp
    simp only [Act.put,List.getElem_toArray,List.getElem_cons_zero,List.getElem_cons_succ,List.setIfInBounds_toArray,List.set_cons_zero,List.set_cons_succ]
    refine wpAnyH_take (i:=3) (v:=.pointer (some ⟨g,off+j * 2+1,none⟩)) rfl (by kernel_rfl) (by kernel_rfl) (by kernel_rfl) (fun _ _ _ h=>h) (Or.inl ⟨by rfl,?_⟩) HS ?_
    ·intro w' hS
     have s0:=hS
     go_simp
    simp only [Act.put,List.getElem_toArray,List.getElem_cons_zero,List.getElem_cons_succ,List.setIfInBounds_toArray,List.set_cons_zero,List.set_cons_succ]
    refine wpAnyH_take (i:=4) (v:=.string (markT (m+1))) rfl (by kernel_rfl) (by kernel_rfl) (by kernel_rfl) (fun _ _ _ h=>h) (Or.inl ⟨by rfl,?_⟩) HS ?_
    ·intro w' hS
     have s0:=hS
     go_simp
    simp only [Act.put,List.getElem_toArray,List.getElem_cons_zero,List.getElem_cons_succ,List.setIfInBounds_toArray,List.set_cons_zero,List.set_cons_succ]
    refine wpAnyH_take (i:=5) (v:=.int .i64 ((m:Int)+1)) rfl (by kernel_rfl) (by kernel_rfl) (by kernel_rfl) (fun _ _ _ h=>h) (Or.inl ⟨by rfl,?_⟩) HS ?_
    ·intro w' hS
     have s0:=hS
     go_simp
    simp only [Act.put,List.getElem_toArray,List.getElem_cons_zero,List.getElem_cons_succ,List.setIfInBounds_toArray,List.set_cons_zero,List.set_cons_succ]
    refine wpAnyH_ready (rs:=[6]) (by kernel_rfl) (by simp) ?_
    refine AllReadyH.cons rfl (fun K hK=>?_) AllReadyH.nil
    refine if_wanted (wanted_none rfl) ?_
    simp only [List.getElem_toArray,List.getElem_cons_zero,List.getElem_cons_succ]
    go_simp
    refine (hk1 _).mono ?_
    rintro e w3 ⟨rfl,hB3⟩
    have HB3:=hid_of (bnext (bdraws HB1.out 1) hB3)
    have n1:w3.cell? ⟨g,off+j * 2+1,none⟩=some (.string (markT (m+1))):=(hB3.cell (p:=⟨g,off+j * 2+1,none⟩) ll).trans l1
    clear hB3
    refine hK.out _ _ n1 (fun HS3=>?_)
    clear hK HS
    refine wpAnyH_take (i:=7) (v:=.bool false) rfl (by kernel_rfl) (by kernel_rfl) (by kernel_rfl) (fun _ _ _ h=>h) (Or.inl ⟨by rfl,?_⟩) HS3 ?_
    ·intro w' hS
     have s0:=hS
     go_simp
    simp only [Act.put,List.getElem_toArray,List.getElem_cons_zero,List.getElem_cons_succ,List.setIfInBounds_toArray,List.set_cons_zero,List.set_cons_succ]
    refine wpAnyH_done (by kernel_rfl) ?_ _
    clear HS3
    go_wp2_with fail
    go_roundw
    case rel=>exact⟨j+1,m+1+1,by omega,by have:=hm.out; show _=_; omega,by go_num,by first | go_num | (congr 1; omega),HB3⟩
    case measure=>simp [intOf]; omega
  ·obtain rfl:j=n:=by omega
   obtain rfl:m=k+2 * j:=hm.out
   go_wp2_with fail
   go_ret
   exact⟨rfl,hB.out⟩
end
section
open Go.RowKit Go.Joins HeadMath ChunkMath
def Wrote (gt gc gs gk:Nat) (w w':World):Prop:=w.heap.size≤w'.heap.size∧(∀ (B:Nat) (w0:World),Below B w0 w→B≤w.heap.size→B≤gt→B≤gc→B≤gs→B≤gk→Below B w0 w')∧∀ g,g < w.heap.size→g≠gt→g≠gc→g≠gs→g≠gk→w'.heap[g]?=w.heap[g]?
theorem Wrote.grown {gt gc gs gk r:Nat} {w w1 w2:World} (h:Wrote gt gc gs gk w w1) (hg:w1.grownBy w2 (some r)) (hr:r=gt∨r=gc∨r=gs∨r=gk):Wrote gt gc gs gk w w2:=by
 obtain⟨h1,h2,h3⟩:=h
 refine⟨Nat.le_trans h1 hg.size,fun B w0 hb hB b1 b2 b3 b4=>(h2 B w0 hb hB b1 b2 b3 b4).grown hg (by omega) (fun q hq=>by cases hq; omega),fun g hl n1 n2 n3 n4=>?_⟩
 rw[hg.block g (by omega) (fun e=>by cases e; omega)]
 exact h3 g hl n1 n2 n3 n4
theorem Wrote.start {gt gc gs gk:Nat} (w:World) (o:Obj):Wrote gt gc gs gk w (w.alloc o):=⟨by simp,fun B w0 hb hB _ _ _ _=>hb.trans ((bstart w o).mono hB),fun g hl _ _ _ _=>(bstart w o).block g hl⟩
def PngMarked (k:Nat) (p:Pic) (gt gc gs gk:Nat) (w:World) (e:Ending) (w':World):Prop:=e=.returned (.int .i64 ((k+3 * p.tn+p.cn+p.sn+2 * p.kn:Nat):Int))∧Wrote gt gc gs gk w w'
set_option maxRecDepth 100000 in
set_option maxHeartbeats 3200000 in
theorem markPng_any (p:Pic) (base gt gc gs gk k:Nat) (w:World) (hO:PngOwn w base p gt gc gs gk) (hZ:PngSz p) (hk:k≤1000):
  Calls Tryz.prog 13 #[pngV p (picA p gt gc gs gk),.int .i64 (k:Int)] w (PngMarked k p gt gc gs gk w):=by
 obtain⟨hw,hh,hd,hc',lace,tn,T,cn,C,rw',rh,rc,rd,sn,S,kn,K⟩:=p
 have HT:Hid (RgbOwn w base gt tn T∧gt < w.heap.size):=⟨hO.t,hO.t.lt⟩
 have HC:Hid (IOwn w base gc cn cn C∧gc < w.heap.size):=⟨hO.c,hO.c.lt⟩
 have HS:Hid (IOwn w base gs sn sn S∧gs < w.heap.size):=⟨hO.s,hO.s.lt⟩
 have HK:Hid (KOwn w base gk kn K∧gk < w.heap.size):=⟨hO.k,hO.k.lt⟩
 have HNE:Hid (gt < gc∧gc < gs∧gs < gk):=hO.ne
 have ht':tn≤1048576:=hZ.t
 have hc2:cn≤1048576:=hZ.c
 have hs':sn≤1048576:=hZ.s
 have hk':kn≤1048576:=hZ.k
 clear hO hZ
 have H0:Hid (Wrote gt gc gs gk w (w.alloc (.cells #[.int .i64 hw,.int .i64 hh,.int .i64 hd,.int .i64 hc',.bool lace,.slice (some ⟨gt,0,none⟩) tn tn,.slice (some ⟨gc,0,none⟩) cn cn,.int .i64 rw',.int .i64 rh,.int .i64 rc,.int .i64 rd,.slice (some ⟨gs,0,none⟩) sn sn,.slice (some ⟨gk,0,none⟩) kn kn] 37))∧(w.alloc (.cells #[.int .i64 hw,.int .i64 hh,.int .i64 hd,.int .i64 hc',.bool lace,.slice (some ⟨gt,0,none⟩) tn tn,.slice (some ⟨gc,0,none⟩) cn cn,.int .i64 rw',.int .i64 rh,.int .i64 rc,.int .i64 rd,.slice (some ⟨gs,0,none⟩) sn sn,.slice (some ⟨gk,0,none⟩) kn kn] 37)).heap[w.heap.size]?=some (.cells #[.int .i64 hw,.int .i64 hh,.int .i64 hd,.int .i64 hc',.bool lace,.slice (some ⟨gt,0,none⟩) tn tn,.slice (some ⟨gc,0,none⟩) cn cn,.int .i64 rw',.int .i64 rh,.int .i64 rc,.int .i64 rd,.slice (some ⟨gs,0,none⟩) sn sn,.slice (some ⟨gk,0,none⟩) kn kn] 37 (0,0))):=⟨Wrote.start w _,heap_alloc_new w _⟩
 show Calls Tryz.prog 13 #[.agg #[.int .i64 hw,.int .i64 hh,.int .i64 hd,.int .i64 hc',.bool lace,.slice (some ⟨gt,0,none⟩) tn tn,.slice (some ⟨gc,0,none⟩) cn cn,.int .i64 rw',.int .i64 rh,.int .i64 rc,.int .i64 rd,.slice (some ⟨gs,0,none⟩) sn sn,.slice (some ⟨gk,0,none⟩) kn kn],.int .i64 (k:Int)] w _
 go_enter Tryz.func13,Tryz.ntmps13
 go_wp2_with fail
 refine (markRgbS_own base gt tn tn T (k:Int) _ (HT.out.1.keep ((bstart w _).block gt HT.out.2)) ht' (by omega) (by omega)).mono ?_
 rintro e w1 ⟨rfl,_,hg⟩
 have H1:Hid (Wrote gt gc gs gk w w1∧w1.heap[w.heap.size]?=some (.cells #[.int .i64 hw,.int .i64 hh,.int .i64 hd,.int .i64 hc',.bool lace,.slice (some ⟨gt,0,none⟩) tn tn,.slice (some ⟨gc,0,none⟩) cn cn,.int .i64 rw',.int .i64 rh,.int .i64 rc,.int .i64 rd,.slice (some ⟨gs,0,none⟩) sn sn,.slice (some ⟨gk,0,none⟩) kn kn] 37 (0,0))∧w1.heap[gc]?=w.heap[gc]?∧w1.heap[gs]?=w.heap[gs]?∧w1.heap[gk]?=w.heap[gk]?):=by
  have q:=HNE.out
  have q1:=HT.out.2
  have q2:=HC.out.2
  have q3:=HS.out.2
  have q4:=HK.out.2
  refine⟨H0.out.1.grown hg (.inl rfl),(hg.block _ (by simp) (fun e=>by cases e; omega)).trans H0.out.2,?_,?_,?_⟩
  ·exact (hg.block _ (by simp; omega) (fun e=>by cases e; omega)).trans ((bstart w _).block _ q2)
  ·exact (hg.block _ (by simp; omega) (fun e=>by cases e; omega)).trans ((bstart w _).block _ q3)
  ·exact (hg.block _ (by simp; omega) (fun e=>by cases e; omega)).trans ((bstart w _).block _ q4)
 clear hg H0
 have a6:=(cell_of_block H1.out.2.1 6).trans rfl
 have l0:=block_lt H1.out.2.1
 go_wp2_with fail
 clear a6 l0
 refine (markIntS_own base gc cn cn C _ _ (HC.out.1.keep H1.out.2.2.1) hc2 (by omega) (by omega)).mono ?_
 rintro e w2 ⟨rfl,_,hg⟩
 have H2:Hid (Wrote gt gc gs gk w w2∧w2.heap[w.heap.size]?=some (.cells #[.int .i64 hw,.int .i64 hh,.int .i64 hd,.int .i64 hc',.bool lace,.slice (some ⟨gt,0,none⟩) tn tn,.slice (some ⟨gc,0,none⟩) cn cn,.int .i64 rw',.int .i64 rh,.int .i64 rc,.int .i64 rd,.slice (some ⟨gs,0,none⟩) sn sn,.slice (some ⟨gk,0,none⟩) kn kn] 37 (0,0))∧w2.heap[gs]?=w.heap[gs]?∧w2.heap[gk]?=w.heap[gk]?):=by
  have q:=HNE.out
  have q2:=HC.out.2
  have q3:=HS.out.2
  have q4:=HK.out.2
  have hz:=H1.out.1.1
  have hl:=block_lt H1.out.2.1
  refine⟨H1.out.1.grown hg (.inr (.inl rfl)),(hg.block _ hl (fun e=>by cases e; omega)).trans H1.out.2.1,?_,?_⟩
  ·exact (hg.block _ (by omega) (fun e=>by cases e; omega)).trans H1.out.2.2.2.1
  ·exact (hg.block _ (by omega) (fun e=>by cases e; omega)).trans H1.out.2.2.2.2
 clear hg H1
 have l0:=block_lt H2.out.2.1
 have a7:=(cell_of_block H2.out.2.1 7).trans rfl
 have a8:=(cell_of_block H2.out.2.1 8).trans rfl
 have a9:=(cell_of_block H2.out.2.1 9).trans rfl
 have a10:=(cell_of_block H2.out.2.1 10).trans rfl
 have a11:=(cell_of_block H2.out.2.1 11).trans rfl
 go_wp2_with fail
 clear l0 a7 a8 a9 a10 a11
 refine (markRaster_own rw' rh rc rd base gs sn sn S _ _ (HS.out.1.keep H2.out.2.2.1) hs' (by omega) (by omega)).mono ?_
 rintro e w3 ⟨rfl,hg⟩
 have H3:Hid (Wrote gt gc gs gk w w3∧w3.heap[w.heap.size]?=some (.cells #[.int .i64 hw,.int .i64 hh,.int .i64 hd,.int .i64 hc',.bool lace,.slice (some ⟨gt,0,none⟩) tn tn,.slice (some ⟨gc,0,none⟩) cn cn,.int .i64 rw',.int .i64 rh,.int .i64 rc,.int .i64 rd,.slice (some ⟨gs,0,none⟩) sn sn,.slice (some ⟨gk,0,none⟩) kn kn] 37 (0,0))∧w3.heap[gk]?=w.heap[gk]?):=by
  have q:=HNE.out
  have q3:=HS.out.2
  have q4:=HK.out.2
  have hz:=H2.out.1.1
  have hl:=block_lt H2.out.2.1
  refine⟨H2.out.1.grown hg (.inr (.inr (.inl rfl))),(hg.block _ hl (fun e=>by cases e; omega)).trans H2.out.2.1,?_⟩
  exact (hg.block _ (by omega) (fun e=>by cases e; omega)).trans H2.out.2.2.2
 clear hg H2
 have a12:=(cell_of_block H3.out.2.1 12).trans rfl
 have l0:=block_lt H3.out.2.1
 have ek:Hid ((k:Int)+3 * (tn:Int)+(cn:Int)+(sn:Int)=((k+3 * tn+cn+sn:Nat):Int)):=by show _=_; omega
 go_wp2_with fail
 clear a12 l0
 rw[ek.out]
 refine (markChunkS_own base gk kn kn K (k+3 * tn+cn+sn) _ (HK.out.1.keep H3.out.2.2) hk' (by omega)).mono ?_
 rintro e w4 ⟨rfl,_,hg⟩
 have H4:=hid_of (H3.out.1.grown hg (.inr (.inr (.inr rfl))))
 clear hg H3
 go_wp2_with fail
 go_ret
 exact⟨rfl,H4.out⟩
end
section
open Go.RowKit Go.Joins OutMath PutMath RastMath HeadMath ChunkMath
def BoxAt (w:World) (B:Nat) (A:Array Value):Prop:=w.heap[B]?=some (.cells A 37 (0,0))
theorem BoxAt.called {w w':World} {B:Nat} {A:Array Value} (h:BoxAt w B A) (hb:Below w.heap.size w w'):BoxAt w' B A:=(hb.block _ (block_lt h)).trans h
def LBox (w W:World) (A:Array Value):Prop:=W.heap[w.heap.size]?=some (.cells A 30 (0,0))∧Below w.heap.size w W
theorem LBox.called {w W W':World} {A:Array Value} (h:LBox w W A) (hb:Below W.heap.size W W'):LBox w W' A:=⟨(hb.block _ (block_lt h.1)).trans h.1,bnext h.2 hb⟩
theorem LBox.drew {w W:World} {A:Array Value} (h:LBox w W A):LBox w W.drew A:=h.called (bdraws (Below.refl _ _) 1)
end
end Go.Proofs.YtkpbfmdnjnohlaaGreat
