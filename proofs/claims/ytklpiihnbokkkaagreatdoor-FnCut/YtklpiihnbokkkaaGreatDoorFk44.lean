/-
  Texts of the proof, put together.
-/
import Derived.Test.YtklpiihnbokkkaaGreatDoorFk43
namespace Go.Proofs.YtklpiihnbokkkaaGreatDoor
open Go.RowKit Go.Joins SearchMath
theorem canMatch_any (s:ByteArray) (c:Int) (w:World) (hs:s.size≤1048576):
  Calls Tryz.prog 78 #[.string s,.int .i64 c] w fun e w'=>e=.returned (.bool (decide (s.size≤2600∧1≤c∧c≤64)))∧w'=w:=by
 by_cases h1:s.size≤2600
 ·have d1:decide ((s.size:Int)≤2600)=true:=decide_eq_true (by omega)
  have d1':decide (s.size≤2600)=true:=decide_eq_true h1
  by_cases h2:1≤c
  ·have d2:decide (1≤c)=true:=decide_eq_true h2
   by_cases h3:c≤64
   ·have d3:decide (c≤64)=true:=decide_eq_true h3
    go_enter Tryz.func78,Tryz.ntmps78
    go_wp2_with fail
    go_ret
    exact⟨ret_b (by simp [h1,h2,h3]),rfl⟩
   ·have d3:decide (c≤64)=false:=decide_eq_false h3
    go_enter Tryz.func78,Tryz.ntmps78
    go_wp2_with fail
    go_ret
    exact⟨ret_b (by simp),rfl⟩
  ·have d2:decide (1≤c)=false:=decide_eq_false h2
   go_enter Tryz.func78,Tryz.ntmps78
   go_wp2_with fail
   go_ret
   exact⟨ret_b (by simp),rfl⟩
 ·have d1:decide ((s.size:Int)≤2600)=false:=decide_eq_false (by omega)
  have d1':decide (s.size≤2600)=false:=decide_eq_false h1
  go_enter Tryz.func78,Tryz.ntmps78
  go_wp2_with fail
  go_ret
  exact⟨ret_b (by simp [h1]),rfl⟩
theorem stepSize_any (x y z:Int) (w:World):
  Calls Tryz.prog 122 #[.agg #[.int .i64 x,.int .i64 y,.int .i64 z]] w fun e w'=>e=.returned (.int .i64 (max 1 y))∧Below w.heap.size w w':=by
 have HG:Hid (Below w.heap.size w (w.alloc (.cells #[.int .i64 x,.int .i64 y,.int .i64 z] 105))):=bstart _ _
 go_enter Tryz.func122,Tryz.ntmps122
 go_wp2_with fail
 all_goals
  go_ret
  exact⟨ret_i (by omega),HG.out⟩
set_option maxHeartbeats 800000 in
theorem byteAt_any (p:Nat) (s:ByteArray) (t:Nat) (w:World) (h0:w.cell? ⟨p,0,none⟩=some (.string s)) (hp:p < w.heap.size) (ht:t < s.size) (_:s.size≤1048576):
  Calls Tryz.prog 86 #[.pointer (some ⟨p,0,none⟩),.int .i64 (t:Int)] w fun e w'=>e=.returned (.agg #[.int .i64 (txt s t:Nat),.int .i64 0,.int .i64 0])∧Below w.heap.size w w':=by
 have i0:(0:Int)≤(t:Int):=by omega
 have i1:(t:Int) < (s.size:Int):=by omega
 have hb:=txt_lt s t
 have hx:=txt_get s t ht
 have HG:Hid (Below w.heap.size w (w.alloc (.cells #[.int .i64 (txt s t:Nat),.int .i64 0,.int .i64 0] 105))):=bstart _ _
 go_enter Tryz.func86,Tryz.ntmps86
 go_wp2_with fail
 exact bodyPost_ret (v:=.agg #[.int .i64 (txt s t:Nat),.int .i64 0,.int .i64 0]) (by simp [results,Tryz.results86,go_sem]) rfl ⟨rfl,HG.out⟩
theorem txt_part (s:ByteArray) (t k:Nat) (h:t+k < s.size):txt (s.extract t s.size) k=txt s (t+k):=by
 have hk:k < (s.extract t s.size).size:=by rw [ByteArray.size_extract]; omega
 rw[← txt_get _ _ hk,← txt_get _ _ h]
 simp[ByteArray.getElem_extract]
theorem three_first (s:ByteArray) (h:3≤s.size):List.take 3 (List.map (fun b=>Value.int .u8 (b.toNat:Int)) s.data.toList)=[.int .u8 (txt s 0:Nat),.int .u8 (txt s 1:Nat),.int .u8 (txt s 2:Nat)]:=by
 have hz:3≤s.data.size:=h
 refine List.ext_getElem (by simp; omega) fun i h1 h2=>?_
 have hi:i < 3:=by simpa using h2
 have e:((s.data[i]'(by omega)).toNat:Int)=(txt s i:Nat):=by
  unfold txt
  rw[Array.getElem?_eq_getElem (by omega)]
  rfl
 rw[List.getElem_take,List.getElem_map,Array.getElem_toList,e]
 obtain rfl | rfl | rfl:i=0∨i=1∨i=2:=by omega
 all_goals rfl
theorem step_copy_three {ops:Array Oper} {o:Oper} {a:Act} {w:World} {K:Act→World→Prop} {Q:Exit→Act→World→Prop} {E:Prop} (hgd:o.guard=none) (d s:Operand) (dT sT elem:TypeId)
  (ho:o.op=.call { callee:=.builtin .copy,args:=#[d,s],argTypes:=#[dT,sT] }) (hu:Tryz.prog.underlying dT=some (.slice elem)) (hsz:(Tryz.prog.info? elem).map (·.size)=some 1)
  (g:Nat) (str:ByteArray) (hd:a.eval d=.slice (some ⟨g,0,none⟩) 3 3) (hs:a.eval s=.string str) (hl:3≤str.size)
  (cur:Array Value) (t:TypeId) (hg:w.heap[g]?=some (.cells cur t (0,0))) (hc:cur.size=3)
  (h:∀ w',w'.heap[g]?=some (.cells #[.int .u8 (txt str 0:Nat),.int .u8 (txt str 1:Nat),.int .u8 (txt str 2:Nat)] t (0,0))→w.grownBy w' (some g)→K (a.put o.dst (.int .i64 3)) w'):
  if Region.wanted o (yielded ops a.tmps)=true then Oper.wp Tryz.prog o a w K Q else E:=by
 have hw:Region.wanted o (yielded ops a.tmps)=true:=by simp [Region.wanted,hgd]
 rw[if_pos hw]
 have hst:=run_storeCells_at Tryz.prog g 0 t [.int .u8 (txt str 0:Nat),.int .u8 (txt str 1:Nat),.int .u8 (txt str 2:Nat)] 0 cur w hg (by simp [hc]) (by simp [Value.oneCell'])
 have hm:Nat.min str.size 3=3:=Nat.min_eq_right hl
 have hf:=three_first str hl
 have hrun:(Builtin.copy_ #[dT,sT] o.type #[.slice (some ⟨g,0,none⟩) 3 3,.string str]).run Tryz.prog w=.ok (.int .i64 3) (w.setRow g #[.int .u8 (txt str 0:Nat),.int .u8 (txt str 1:Nat),.int .u8 (txt str 2:Nat)]):=by
  have e3:(cur.toList.take (0+0) ++ [Value.int .u8 (txt str 0:Nat),Value.int .u8 (txt str 1:Nat),Value.int .u8 (txt str 2:Nat)] ++ cur.toList.drop (0+0+[Value.int .u8 (txt str 0:Nat),Value.int .u8 (txt str 1:Nat),Value.int .u8 (txt str 2:Nat)].length)).toArray=#[Value.int .u8 (txt str 0:Nat),Value.int .u8 (txt str 1:Nat),Value.int .u8 (txt str 2:Nat)]:=by
   rw[List.drop_of_length_le (by simp [hc])]
   simp
  rw[e3] at hst
  cases hq:Tryz.prog.info? elem with
  | none=>simp [hq] at hsz
  | some _=>
   simp[Builtin.copy_,run_underlying hu,Builtin.lenOf,Builtin.firstCells,sizeOf,typeInfo,hq,hm,hf,hst]
   rfl
 unfold Oper.wp
 simp[execOp,ho,resolve,invoke,builtin,hd,hs,hrun,Result.andThen]
 refine h _ (setRow_heap w g _ _ t _ hg) ⟨rfl,rfl,rfl,by simp [World.setRow],fun i hi hne=>?_⟩
 simp[World.setRow,Array.getElem?_modify,show ¬ g=i from fun e=>hne (by rw [e])]
set_option maxHeartbeats 1600000 in
theorem keyAt_any (s:ByteArray) (t:Nat) (w:World) (ht:t+2 < s.size) (hs:s.size≤1048576):
  Calls Tryz.prog 121 #[.string s,.int .i64 (t:Int)] w fun e w'=>e=.returned (kv (txt s t) (txt s (t+1)) (txt s (t+2)))∧Below w.heap.size w w':=by
 have i0:(0:Int)≤(t:Int):=by omega
 have i1:(t:Int)≤(s.size:Int):=by omega
 have hu:=Tryz.underlying22
 have hsz:(Tryz.prog.info? 5).map (·.size)=some 1:=by kernel_rfl
 have p0:=txt_part s t 0 (by omega)
 have p1:=txt_part s t 1 (by omega)
 have p2:=txt_part s t 2 (by omega)
 have hl:3≤(s.extract t s.size).size:=by rw [ByteArray.size_extract]; omega
 rw[Nat.add_zero] at p0
 obtain⟨W,hW⟩:∃ W,W=((w.alloc (.cells #[.int .u8 0,.int .u8 0,.int .u8 0] 179)).alloc (.cells #[.int .u8 0,.int .u8 0,.int .u8 0] 179)).drew:=⟨_,rfl⟩
 have hg:W.heap[w.heap.size+1]?=some (.cells #[.int .u8 0,.int .u8 0,.int .u8 0] 179 (0,0)):=by
  have:=heap_alloc_new (w.alloc (.cells #[.int .u8 0,.int .u8 0,.int .u8 0] 179)) (.cells #[.int .u8 0,.int .u8 0,.int .u8 0] 179)
  rw[World.size_alloc] at this
  rw[hW]
  exact this
 have hr:W.heap[w.heap.size]?=some (.cells #[.int .u8 0,.int .u8 0,.int .u8 0] 179 (0,0)):=by
  have h1:=heap_alloc_new w (.cells #[.int .u8 0,.int .u8 0,.int .u8 0] 179)
  have h2:=(bstart (w.alloc (.cells #[.int .u8 0,.int .u8 0,.int .u8 0] 179)) (.cells #[.int .u8 0,.int .u8 0,.int .u8 0] 179)).block w.heap.size (by simp)
  rw[hW]
  exact h2.trans h1
 have hBW:Below w.heap.size w W:=by
  rw[hW]
  exact (bal (bstart _ _) _).drew
 have hWs:W.heap.size=w.heap.size+2:=by rw [hW]; simp
 have HALL:=hid_of (And.intro hr (And.intro hBW hWs))
 clear hr hBW hWs
 subst hW
 go_enter Tryz.func121,Tryz.ntmps121
 go_wp2_with fail
 go_region_law (refine step_copy_three rfl (.tmp 6) (.tmp 9) 22 9 5 rfl hu hsz (w.heap.size+1) (s.extract t s.size) (by rfl) (by rfl) hl _ _ hg rfl ?_; intro w4 g4 gr4)
 rw[p0,p1,p2] at g4
 have c0:w4.cell? ⟨w.heap.size+1,0,none⟩=some (.int .u8 (txt s t:Nat)):=(cell_of_block g4 0).trans rfl
 have c1:w4.cell? ⟨w.heap.size+1,1,none⟩=some (.int .u8 (txt s (t+1):Nat)):=(cell_of_block g4 1).trans rfl
 have c2:w4.cell? ⟨w.heap.size+1,2,none⟩=some (.int .u8 (txt s (t+2):Nat)):=(cell_of_block g4 2).trans rfl
 have gr:w4.heap[w.heap.size]?=some (.cells #[.int .u8 0,.int .u8 0,.int .u8 0] 179 (0,0)):=(gr4.block w.heap.size (by simp; omega) (by simp)).trans HALL.out.1
 have r0:w4.cell? ⟨w.heap.size,0,none⟩=some (.int .u8 0):=(cell_of_block gr 0).trans rfl
 have r1:w4.cell? ⟨w.heap.size,1,none⟩=some (.int .u8 0):=(cell_of_block gr 1).trans rfl
 have r2:w4.cell? ⟨w.heap.size,2,none⟩=some (.int .u8 0):=(cell_of_block gr 2).trans rfl
 have z0:∀ k,w4.frozen? ⟨w.heap.size,k,none⟩=false:=fun k=>by simp [World.frozen?,gr]
 have lt:w.heap.size < w4.heap.size:=block_lt gr
 have HB:Hid (Below w.heap.size w (((w4.setCell ⟨w.heap.size,0,none⟩ (.int .u8 (txt s t:Nat))).setCell ⟨w.heap.size,1,none⟩ (.int .u8 (txt s (t+1):Nat))).setCell ⟨w.heap.size,2,none⟩ (.int .u8 (txt s (t+2):Nat)))):=by
  have h1:Below w.heap.size w w4:=HALL.out.2.1.grown gr4 HALL.out.2.1.size (fun k e=>by cases e; omega)
  exact Below.setCell (p:=⟨w.heap.size,2,none⟩) (two_below h1 (Nat.le_refl _) _ _) (Nat.le_refl _) _
 clear HALL g4 gr4 gr hg hl p0 p1 p2
 go_wp2_with fail
 exact bodyPost_ret (v:=kv (txt s t) (txt s (t+1)) (txt s (t+2))) (by simp [results,Tryz.results121,go_sem,r0,r1,r2]) rfl ⟨rfl,HB.out⟩
set_option maxHeartbeats 1600000 in
theorem same_any (p:Nat) (s:ByteArray) (k t m:Nat) (w:World) (h0:w.cell? ⟨p,0,none⟩=some (.string s)) (hp:p < w.heap.size) (hk:k≤t) (ht:t+m≤s.size) (hs:s.size≤1048576):
  Calls Tryz.prog 131 #[.pointer (some ⟨p,0,none⟩),.int .i64 (k:Int),.int .i64 (t:Int),.int .i64 (m:Int)] w fun e w'=>e=.returned (.int .i64 (common (txt s) s.size k t m:Nat))∧Below w.heap.size w w':=by
 go_enter Tryz.func131,Tryz.ntmps131
 go_wp2_with fail
 go_loopg [9] (m+1) (fun gk v w'=>∃ j:Nat,j≤m∧m - j≤gk∧v=.int .i64 j∧Hid (Below w.heap.size w w'∧∀ i,i < j→txt s (k+i)=txt s (t+i)))
 case atStart=>exact⟨0,Nat.zero_le _,by omega,rfl,Below.refl _ _,fun i hi=>absurd hi (Nat.not_lt_zero i)⟩
 case round=>
  obtain⟨j,hj,hgk,rfl,hS⟩:=hrel
  have c0:wr.cell? ⟨p,0,none⟩=some (.string s):=(hS.out.1.cell (p:=⟨p,0,none⟩) hp).trans h0
  by_cases hlt:j < m
  ·have dl:decide ((j:Int) < (m:Int))=true:=decide_eq_true (by omega)
   have dl':(j:Int) < (m:Int):=by omega
   have e1:((t:Int)+(j:Int)).toNat=t+j:=by omega
   have e2:((k:Int)+(j:Int)).toNat=k+j:=by omega
   have a1:(0:Int)≤(k:Int)+(j:Int):=by omega
   have a2:(k:Int)+(j:Int) < (s.size:Int):=by omega
   have b1:(0:Int)≤(t:Int)+(j:Int):=by omega
   have b2:(t:Int)+(j:Int) < (s.size:Int):=by omega
   have h1:k+j < s.size:=by omega
   have h2:t+j < s.size:=by omega
   have g1:=txt_get s (k+j) h1
   have g2:=txt_get s (t+j) h2
   by_cases he:txt s (k+j)=txt s (t+j)
   ·have d2:(((s[k+j]'h1).toNat:Int) == ((s[t+j]'h2).toNat:Int))=true:=by
     rw[g1,g2,he]
     simp
    have HN:Hid (∀ i,i < j+1→txt s (k+i)=txt s (t+i)):=fun i hi=>by
     by_cases e:i=j
     ·subst e
      exact he
     ·exact hS.out.2 i (by omega)
    clear he g1 g2
    go_wp2_with fail
    go_quiet (fail)
    go_wp2_with fail
    go_roundg (m - (j+1))
    case measure=>omega
    case rel=>exact⟨j+1,by omega,Nat.le_refl _,by go_num,bdraws hS.out.1 _,HN.out⟩
   ·have d2:(((s[k+j]'h1).toNat:Int) == ((s[t+j]'h2).toNat:Int))=false:=by
     rw[g1,g2]
     simp
     omega
    have HN:Hid (common (txt s) s.size k t m=j):=common_eq (by omega) (fun i hi=>⟨by omega,hS.out.2 i hi⟩) (.inr (fun q=>he q.2))
    clear he g1 g2
    go_wp2_with fail
    go_quiet (fail)
    go_wp2_with fail
    go_ret
    rw[HN.out]
    exact⟨rfl,bdraws hS.out.1 _⟩
  ·obtain rfl:j=m:=by omega
   have dl:decide ((j:Int) < (j:Int))=false:=decide_eq_false (by omega)
   have dl':¬ (j:Int) < (j:Int):=by omega
   have HN:Hid (common (txt s) s.size k t j=j):=common_eq (Nat.le_refl _) (fun i hi=>⟨by omega,hS.out.2 i hi⟩) (.inl rfl)
   go_wp2_with fail
   go_quiet (fail)
   go_wp2_with fail
   go_ret
   rw[HN.out]
   exact⟨rfl,bdraws hS.out.1 _⟩
end Go.Proofs.YtklpiihnbokkkaaGreatDoor
namespace Go.Proofs.YtklpiihnbokkkaaGreatDoor
open Go.RowKit Go.Joins SearchMath
def occI (s:ByteArray) (k:Nat) (x y z:Nat):List Int:=(occ (txt s) x y z k).map fun n:Nat=>(n:Int)
def aheadI (s:ByteArray) (k:Nat):List Int:=(List.range k).map fun i=>((occAt (txt s) i i).length:Int)
def NM (w wr:World) (s:ByteArray) (c:Int) (k:Nat) (G:Nat→Nat→Nat→Value) (a:Option Addr) (n cap:Nat):Prop:=
 wr.heap[w.heap.size+1]?=some (.cells #[.string s,.int .i64 c,.map (some w.heap.size),.slice a n cap] 178 (0,0))∧KM wr w.heap.size G∧Rws wr (w.heap.size+2) (occI s k) (aheadI s n) G (.slice a n cap)∧Below w.heap.size w wr∧w.heap.size+2≤wr.heap.size
theorem NM.called {w wr w':World} {s:ByteArray} {c:Int} {k:Nat} {G:Nat→Nat→Nat→Value} {a:Option Addr} {n cap:Nat} (h:NM w wr s c k G a n cap) (hb:Below wr.heap.size wr w'):NM w w' s c k G a n cap:=
 ⟨(hb.block _ (block_lt h.1)).trans h.1,h.2.1.called hb,h.2.2.1.called hb,h.2.2.2.1.trans (hb.mono h.2.2.2.1.size),Nat.le_trans h.2.2.2.2 hb.size⟩
theorem aheadI_length (s:ByteArray) (k:Nat):(aheadI s k).length=k:=by simp [aheadI]
theorem aheadI_next (s:ByteArray) (k:Nat):aheadI s (k+1)=aheadI s k ++ [((occAt (txt s) k k).length:Int)]:=by simp [aheadI,List.range_succ]
theorem aheadI_get (s:ByteArray) {k j:Nat} (h:j < k):(aheadI s k).getD j 0=((occAt (txt s) j j).length:Int):=by
 rw[List.getD_eq_getElem?_getD,List.getElem?_eq_getElem (by rw [aheadI_length]; exact h)]
 simp[aheadI]
theorem occI_length (s:ByteArray) (k x y z:Nat):(occI s k x y z).length=(occ (txt s) x y z k).length:=by simp [occI]
theorem occI_get (s:ByteArray) {k x y z j:Nat} (h:j < (occ (txt s) x y z k).length):(occI s k x y z).getD j 0=(((occ (txt s) x y z k).getD j 0:Nat):Int):=by
 rw[List.getD_eq_getElem?_getD,List.getElem?_eq_getElem (by rw [occI_length]; exact h),List.getD_eq_getElem?_getD,List.getElem?_eq_getElem h]
 simp[occI]
theorem occI_here (s:ByteArray) (k:Nat):occI s (k+1) (txt s k) (txt s (k+1)) (txt s (k+2))=occI s k (txt s k) (txt s (k+1)) (txt s (k+2)) ++ [(k:Int)]:=by
 have:=occ_here (f:=txt s) k
 unfold occAt at this
 unfold occI
 rw[this,List.map_append]
 rfl
theorem occI_other (s:ByteArray) {k x y z:Nat} (h:¬ (x=txt s k∧y=txt s (k+1)∧z=txt s (k+2))):occI s (k+1) x y z=occI s k x y z:=by
 unfold occI
 rw[occ_step (fun e=>h ⟨e.1.symm,e.2.1.symm,e.2.2.symm⟩)]
theorem mt_of_nm {w wr:World} {s:ByteArray} {c:Nat} {G:Nat→Nat→Nat→Value} {a:Option Addr} {cap n:Nat} (hn:n=s.size - 2) (h:NM w wr s c n G a n cap):Mt wr (w.heap.size+1) s c:=by
 subst hn
 obtain⟨h1,h2,h3,h4,h5⟩:=h
 refine⟨w.heap.size,a,cap,G,⟨(cell_of_block h1 0).trans rfl,(cell_of_block h1 1).trans rfl,(cell_of_block h1 2).trans rfl,(cell_of_block h1 3).trans rfl,block_lt h1⟩,?_,?_,h2,fun i hi=>?_⟩
 ·have:=h3.2.1.room rfl
  rw[aheadI_length] at this
  exact this
 ·rcases Nat.eq_zero_or_pos (s.size - 2) with q | q
  ·exact .inl q
  ·obtain⟨g,cp,e,_,hg,hc⟩:=h3.2.1.cells (by rw [aheadI_length]; exact q)
   simp only [Value.slice.injEq] at e
   obtain⟨rfl,_,rfl⟩:=e
   refine .inr ⟨g,0,rfl,hg,fun j hj=>?_⟩
   rw[Nat.zero_add,hc j (by rw [aheadI_length]; exact hj),aheadI_get s hj]
 ·have hp:=occ_pos (f:=txt s) (i:=i) (K:=s.size - 2) (by omega)
  obtain⟨g,cp,e,hcp,hg,hc⟩:=(h3.1 (txt s i) (txt s (i+1)) (txt s (i+2))).cells (by rw [occI_length]; exact hp)
  rw[occI_length] at e hcp
  refine⟨g,cp,e,hcp,hg,fun j hj=>?_⟩
  have hj':j < (occ (txt s) (txt s i) (txt s (i+1)) (txt s (i+2)) (s.size - 2)).length:=hj
  rw[hc j (by rw [occI_length]; exact hj'),occI_get s hj']
  rfl
theorem grown_setCell (w:World) (b o:Nat) (v:Value):w.grownBy (w.setCell ⟨b,o,none⟩ v) (some b):=
 ⟨rfl,rfl,rfl,by simp [World.setCell],fun i _ hi=>by simp [World.setCell,Array.getElem?_modify,show ¬ b=i from fun e=>hi (by rw [e])]⟩
section
variable {w W4 w5:World} {s:ByteArray} {c:Int} {j:Nat} {G:Nat→Nat→Nat→Value} {a:Option Addr} {cap:Nat}
theorem nm_ahead {o:Obj} {g cap5:Nat} (h:NM w W4 s c j G a j cap) (y1:w5.ownsRow (w.heap.size+2) 3 1 (.slice (some ⟨g,0,none⟩) (j+1) cap5) (j+1) ((aheadI s j).map (Value.int .i64) ++ [.int .i64 ((occAt (txt s) j j).length:Int)])) (y2:(W4.alloc o).grownBy w5 (Value.slice a j cap).ownBlock) (y3:(Value.slice a j cap).ownBlock=some g∨g=W4.heap.size+1):
  NM w (w5.setCell ⟨w.heap.size+1,3,none⟩ (.slice (some ⟨g,0,none⟩) (j+1) cap5)) s c j G (some ⟨g,0,none⟩) (j+1) cap5:=by
 obtain⟨h1,h2,h3,h4,h5⟩:=h
 have ne:∀ k,k < w.heap.size+2→some k≠(Value.slice a j cap).ownBlock:=fun k hk e=>by
  have:=(h3.2.1.lt e.symm).1
  omega
 have hkeep:∀ k,k < w.heap.size+2→w5.heap[k]?=W4.heap[k]?:=fun k hk=>(y2.block k (by simp; omega) (ne k hk)).trans ((bstart W4 o).block k (by omega))
 have hg5:=(hkeep _ (by omega)).trans h1
 have hir:IR w5 (w.heap.size+2) (.slice (some ⟨g,0,none⟩) (j+1) cap5) (aheadI s (j+1)):=by
  unfold IR
  rw[aheadI_length,aheadI_next,List.map_append]
  exact y1
 have hgs:=grown_setCell w5 (w.heap.size+1) 3 (.slice (some ⟨g,0,none⟩) (j+1) cap5)
 have hsz:W4.heap.size≤w5.heap.size:=Nat.le_trans (by simp) y2.size
 refine⟨?_,?_,?_,?_,?_⟩
 ·have:=block_setCell (i:=3) hg5 (.slice (some ⟨g,0,none⟩) (j+1) cap5)
  simpa using this
 ·refine h2.keep ((hgs.block _ ?_ (by simp)).trans (hkeep _ (by omega)))
  have:=block_lt hg5
  omega
 ·refine (h3.ahead y2 hir ?_).grown hgs (fun k e=>by cases e; omega)
  rcases y3 with q | q
  ·exact .inl (by rw [q]; rfl)
  ·exact .inr ⟨g,rfl,by omega⟩
 ·exact ((h4.alloc h4.size o).grown y2 (Nat.le_trans h4.size (by simp)) (fun k e=>by have:=(h3.2.1.lt e).1; omega)).setCell (p:=⟨w.heap.size+1,3,none⟩) (by show w.heap.size≤w.heap.size+1; omega) _
 ·exact Nat.le_trans h5 (Nat.le_trans hsz hgs.size)
theorem nm_put {w7 w8:World} {o:Obj} {g cap7 nv n:Nat} {av:Option Addr} {cv:Nat} (h:NM w W4 s c j G a n cap) (hv:G (txt s j) (txt s (j+1)) (txt s (j+2))=.slice av nv cv) (hnv:nv=(occI s j (txt s j) (txt s (j+1)) (txt s (j+2))).length)
  (z1:w7.ownsRow (w.heap.size+2) 3 1 (.slice (some ⟨g,0,none⟩) (nv+1) cap7) (nv+1) ((occI s j (txt s j) (txt s (j+1)) (txt s (j+2))).map (Value.int .i64) ++ [.int .i64 (j:Int)])) (z2:(W4.alloc o).grownBy w7 (Value.slice av nv cv).ownBlock) (z3:(Value.slice av nv cv).ownBlock=some g∨g=W4.heap.size+1)
  (hkm:KM w8 w.heap.size (putG G (txt s j) (txt s (j+1)) (txt s (j+2)) (.slice (some ⟨g,0,none⟩) (nv+1) cap7))) (hg8:w7.grownBy w8 (some w.heap.size)):NM w w8 s c (j+1) (putG G (txt s j) (txt s (j+1)) (txt s (j+2)) (.slice (some ⟨g,0,none⟩) (nv+1) cap7)) a n cap:=by
 obtain⟨h1,h2,h3,h4,h5⟩:=h
 have hrow:=h3.1 (txt s j) (txt s (j+1)) (txt s (j+2))
 rw[hv] at hrow
 have hkeep:w7.heap[w.heap.size+1]?=W4.heap[w.heap.size+1]?:=(z2.block _ (by simp; omega) (fun e=>by have:=(hrow.lt e.symm).1; omega)).trans ((bstart W4 o).block _ (by omega))
 have hir:IR w7 (w.heap.size+2) (.slice (some ⟨g,0,none⟩) (nv+1) cap7) (occI s (j+1) (txt s j) (txt s (j+1)) (txt s (j+2))):=by
  unfold IR
  rw[occI_here,List.length_append,List.length_singleton,← hnv,List.map_append]
  exact z1
 have hsz:W4.heap.size≤w7.heap.size:=Nat.le_trans (by simp) z2.size
 have hlt7:w.heap.size+1 < w7.heap.size:=by omega
 refine⟨(hg8.block _ hlt7 (by simp)).trans (hkeep.trans h1),hkm,?_,?_,Nat.le_trans h5 (Nat.le_trans hsz hg8.size)⟩
 ·rw[← hv] at z2 z3
  refine (h3.put z2 hir (fun x y z q=>occI_other s q) ?_).grown hg8 (fun k e=>by cases e; omega)
  rcases z3 with q | q
  ·exact .inl (by rw [q]; rfl)
  ·exact .inr ⟨g,rfl,by omega⟩
 ·exact ((h4.alloc h4.size o).grown z2 (Nat.le_trans h4.size (by simp)) (fun k e=>by have:=(hrow.lt e).1; omega)).grown hg8 (by omega) (fun k e=>by cases e; exact Nat.le_refl _)
end
set_option maxRecDepth 100000 in
set_option maxHeartbeats 6400000 in
theorem newMatcher_any (s:ByteArray) (c:Nat) (w:World) (hs:s.size≤2600) (_:c≤64):
  Calls Tryz.prog 79 #[.string s,.int .i64 (c:Int)] w fun e w'=>e=.returned (.pointer (some ⟨w.heap.size+1,0,none⟩))∧Mt w' (w.heap.size+1) s c∧Below w.heap.size w w':=by
 have hmm:=@run_makeMap Tryz.prog
 obtain⟨i0,hi0,hz0,hz1,hz2⟩:=info_parts info_made
 obtain⟨n2,hn2⟩:∃ n2,n2=s.size - 2:=⟨_,rfl⟩
 have H0:Hid (NM w ((w.alloc (.map #[] 0)).alloc (.cells #[.string s,.int .i64 (c:Int),.map (some w.heap.size),.slice none 0 0] 178)) s c 0 (fun _ _ _=>.slice none 0 0) none 0 0):=by
  have hh:=heap_alloc_new (w.alloc (.map #[] 0)) (.cells #[.string s,.int .i64 (c:Int),.map (some w.heap.size),.slice none 0 0] 178)
  rw[World.size_alloc] at hh
  exact⟨hh,(KM.made w).called (bstart _ _),Rws.start _ _,bal (bstart _ _) _,by simp⟩
 rcases Nat.lt_or_ge 2 s.size with h3 | h3
 ·have HN2:=hid_of hn2
  have hn3:n2+2=s.size:=by omega
  have HN3:=hid_of hn3
  have en2:(s.size:Int) - 3+1=(n2:Int):=by omega
  have hn4:n2≤2598:=by omega
  clear hn2 hn3
  go_enter Tryz.func79,Tryz.ntmps79
  go_wp2_with fail
  clear en2
  go_loopg [19] (n2+1) (fun gk v w'=>∃ (j cap:Nat) (a:Option Addr) (G:Nat→Nat→Nat→Value),j≤n2∧n2 - j≤gk∧v=.int .i64 j∧Hid (NM w w' s c j G a j cap))
  case atStart=>exact⟨0,0,none,_,Nat.zero_le _,by omega,rfl,H0⟩
  case round=>
   clear H0 hmm
   obtain⟨j,cap,a,G,hj,hgk,rfl,hS⟩:=hrel
   by_cases hlt:j < n2
   ·have dl:decide ((j:Int) < (n2:Int))=true:=decide_eq_true (by omega)
    have hj2:j+2 < s.size:=by have:=HN3.out; omega
    have hkey:=keyAt_any s j wr hj2 (by omega)
    go_wp2_with fail
    refine hkey.mono ?_
    rintro e w2 ⟨rfl,hB2⟩
    clear hkey
    have HS2:=hid_of (hS.out.called hB2)
    clear hB2
    obtain⟨T0,hT0⟩:∃ T,T=txt s j:=⟨_,rfl⟩
    obtain⟨T1,hT1⟩:∃ T,T=txt s (j+1):=⟨_,rfl⟩
    obtain⟨T2,hT2⟩:∃ T,T=txt s (j+2):=⟨_,rfl⟩
    have hb0:T0 < 256:=by rw [hT0]; exact txt_lt _ _
    have hb1:T1 < 256:=by rw [hT1]; exact txt_lt _ _
    have hb2:T2 < 256:=by rw [hT2]; exact txt_lt _ _
    have HT:Hid (T0=txt s j∧T1=txt s (j+1)∧T2=txt s (j+2)):=⟨hT0,hT1,hT2⟩
    rw[← hT0,← hT1,← hT2]
    clear hT0 hT1 hT2
    obtain⟨W3,hW3⟩:∃ W,W=w2.alloc (.cells #[.int .u8 (T0:Int),.int .u8 (T1:Int),.int .u8 (T2:Int)] 179):=⟨_,rfl⟩
    have HS3:Hid (NM w W3 s c j G a j cap):=by
     show NM w W3 s c j G a j cap
     rw[hW3]
     exact HS2.out.called (bstart _ _)
    have hgk3:W3.heap[w2.heap.size]?=some (.cells #[.int .u8 (T0:Int),.int .u8 (T1:Int),.int .u8 (T2:Int)] 179 (0,0)):=by rw [hW3]; exact heap_alloc_new _ _
    have hzw:w.heap.size+2≤w2.heap.size:=HS2.out.2.2.2.2
    have x0:W3.cell? ⟨w2.heap.size,0,none⟩=some (.int .u8 (T0:Int)):=(cell_of_block hgk3 0).trans rfl
    have x1:W3.cell? ⟨w2.heap.size,1,none⟩=some (.int .u8 (T1:Int)):=(cell_of_block hgk3 1).trans rfl
    have x2:W3.cell? ⟨w2.heap.size,2,none⟩=some (.int .u8 (T2:Int)):=(cell_of_block hgk3 2).trans rfl
    have m2:W3.cell? ⟨w.heap.size+1,2,none⟩=some (.map (some w.heap.size)):=(cell_of_block HS3.out.1 2).trans rfl
    obtain⟨av,cv,hv⟩:=(HS3.out.2.2.1.1 T0 T1 T2).form
    obtain⟨nv,hnv⟩:∃ nv,nv=(occI s j T0 T1 T2).length:=⟨_,rfl⟩
    rw[← hnv] at hv
    have hlk:=HS3.out.2.1.look hb0 hb1 hb2
    rw[hv] at hlk
    have HLK:Hid (∀ w',w'.heap[w.heap.size]?=W3.heap[w.heap.size]?→(Instr.lookup 176 (.map (some w.heap.size)) (kv T0 T1 T2) false).run Tryz.prog w'=.ok (.slice av nv cv) w'):=fun w' hw'=>by
     rw[← hv]
     exact (HS3.out.2.1.keep hw').look hb0 hb1 hb2
    have HV:=hid_of hv
    have HNV:=hid_of hnv
    have HW3:=hid_of hW3
    have HGK3:=hid_of hgk3
    have HLA:Hid (∀ k,(Value.slice a j cap).ownBlock=some k→k < w2.heap.size):=fun k e=>(HS2.out.2.2.1.2.1.lt e).2
    clear hv hnv hW3 hgk3 HS2
    go_wp2_with fail
    rw[← HW3.out]
    go_region_held3 (fun w'=>w'.cell? ⟨w.heap.size+1,2,none⟩=some (.map (some w.heap.size))∧w'.cell? ⟨w2.heap.size,0,none⟩=some (.int .u8 (T0:Int))∧w'.cell? ⟨w2.heap.size,1,none⟩=some (.int .u8 (T1:Int))∧w'.cell? ⟨w2.heap.size,2,none⟩=some (.int .u8 (T2:Int))∧(Instr.lookup 176 (.map (some w.heap.size)) (kv T0 T1 T2) false).run Tryz.prog w'=.ok (.slice av nv cv) w')
     (refine⟨?_,?_,?_,?_,?_⟩ <;> first | assumption | exact HLK.out _ rfl | go_keep | (simp [*]; done)) (fail)
    have HS4:Hid (NM w W3.drew s c j G a j cap∧W3.drew.heap[w2.heap.size]?=some (.cells #[.int .u8 (T0:Int),.int .u8 (T1:Int),.int .u8 (T2:Int)] 179 (0,0))):=⟨HS3.out.called (Below.refl _ _).drew,HGK3.out⟩
    generalize W3.drew=W4 at HS4
    have m3:W4.cell? ⟨w.heap.size+1,3,none⟩=some (.slice a j cap):=(cell_of_block HS4.out.1.1 3).trans rfl
    have hz4:w2.heap.size < W4.heap.size:=block_lt HS4.out.2
    clear HS3 HGK3 HLK HW3 x0 x1 x2 m2 hlk
    have hNV:=HNV.out
    have hnvl:nv≤j:=by
     rw[hNV,occI_length]
     exact occ_length_le j
    clear hNV
    have HAL:Hid (NM w W4 s c j G a j cap):=HS4.out.1
    have hown:W4.ownsRow (w.heap.size+2) 3 1 (.slice a j cap) j ((aheadI s j).map (Value.int .i64)):=by
     have h:=HAL.out.2.2.1.2.1
     unfold IR at h
     rw[aheadI_length] at h
     exact h
    have HOWN:=hid_of hown
    clear hown
    go_wp2_with (at_builtin; refine wpList_append_lies _ rfl _ _ _ rfl (w.heap.size+2) 3 i0 _ 1 8 Tryz.underlying25 hi0 hz0 hz1 hz2 rfl (by omega) (.slice a j cap) j ((aheadI s j).map (Value.int .i64)) rfl (World.ownsRow.alloc HOWN.out _) ⟨W4.heap.size,0,none⟩ 1 1 [.int .i64 (nv:Int)] rfl rfl (World.news_of_block (heap_alloc_new W4 _)) (by simp [Value.oneCell']) (by omega) (by unfold maxLen; omega) (by omega) (by simp; omega) (W4.heap.size+1) (by simp) ?_; intro g5 cap5 w5 y1 y2 y3 y4; have hg5:w5.heap[w.heap.size+1]?=some (.cells #[.string s,.int .i64 c,.map (some w.heap.size),.slice a j cap] 178 (0,0)):=(y2.block _ (by simp; omega) (fun e=>by have:=(HAL.out.2.2.1.2.1.lt e.symm).1; omega)).trans (((bstart W4 _).block _ (by omega)).trans HAL.out.1); have m5:w5.cell? ⟨w.heap.size+1,3,none⟩=some (.slice a j cap):=(cell_of_block hg5 3).trans rfl; have f5:w5.frozen? ⟨w.heap.size+1,3,none⟩=false:=(by simp [World.frozen?,hg5]); have HY:=hid_of (And.intro y1 (And.intro y2 (And.intro y3 (And.intro y4 hg5)))); clear y1 y2 y3 y4 hg5)
    have hocc:(nv:Int)=((occAt (txt s) j j).length:Int):=by
     have h:=HNV.out
     rw[occI_length,HT.out.1,HT.out.2.1,HT.out.2.2] at h
     rw[h]
     rfl
    have HS6:Hid (NM w (w5.setCell ⟨w.heap.size+1,3,none⟩ (.slice (some ⟨g5,0,none⟩) (j+1) cap5)) s c j G (some ⟨g5,0,none⟩) (j+1) cap5∧(w5.setCell ⟨w.heap.size+1,3,none⟩ (.slice (some ⟨g5,0,none⟩) (j+1) cap5)).heap[w2.heap.size]?=some (.cells #[.int .u8 (T0:Int),.int .u8 (T1:Int),.int .u8 (T2:Int)] 179 (0,0))):=by
     obtain⟨y1,y2,y3,y4,y5⟩:=HY.out
     rw[hocc] at y1 y2
     refine⟨nm_ahead HAL.out y1 y2 y3,?_⟩
     refine ((grown_setCell w5 (w.heap.size+1) 3 _).block _ (Nat.lt_of_lt_of_le (by simp; omega) y2.size) (by simp; omega)).trans ((y2.block _ (by simp; omega) (fun e=>?_)).trans (((bstart W4 _).block _ hz4).trans HS4.out.2))
     have:=HLA.out _ e.symm
     omega
    clear hocc HY HOWN HAL HS4 HLA m3 m5 f5 hz4
    generalize w5.setCell ⟨w.heap.size+1,3,none⟩ (.slice (some ⟨g5,0,none⟩) (j+1) cap5)=W6 at HS6
    have x0:W6.cell? ⟨w2.heap.size,0,none⟩=some (.int .u8 (T0:Int)):=(cell_of_block HS6.out.2 0).trans rfl
    have x1:W6.cell? ⟨w2.heap.size,1,none⟩=some (.int .u8 (T1:Int)):=(cell_of_block HS6.out.2 1).trans rfl
    have x2:W6.cell? ⟨w2.heap.size,2,none⟩=some (.int .u8 (T2:Int)):=(cell_of_block HS6.out.2 2).trans rfl
    have m2:W6.cell? ⟨w.heap.size+1,2,none⟩=some (.map (some w.heap.size)):=(cell_of_block HS6.out.1.1 2).trans rfl
    have hz6:w2.heap.size < W6.heap.size:=block_lt HS6.out.2
    have HOWN:Hid (W6.ownsRow (w.heap.size+2) 3 1 (.slice av nv cv) nv ((occI s j T0 T1 T2).map (Value.int .i64))):=by
     have h:=HS6.out.1.2.2.1.1 T0 T1 T2
     unfold IR at h
     rw[HV.out,← HNV.out] at h
     exact h
    have a0:∀ o,(W6.alloc o).cell? ⟨w2.heap.size,0,none⟩=some (.int .u8 (T0:Int)):=fun o=>(grow_cell o hz6 0).trans x0
    have a1:∀ o,(W6.alloc o).cell? ⟨w2.heap.size,1,none⟩=some (.int .u8 (T1:Int)):=fun o=>(grow_cell o hz6 1).trans x1
    have a2:∀ o,(W6.alloc o).cell? ⟨w2.heap.size,2,none⟩=some (.int .u8 (T2:Int)):=fun o=>(grow_cell o hz6 2).trans x2
    have a3:∀ o,(W6.alloc o).cell? ⟨w.heap.size+1,2,none⟩=some (.map (some w.heap.size)):=fun o=>(grow_cell o (by omega) 2).trans m2
    have HLT:Hid (∀ k,(Value.slice av nv cv).ownBlock=some k→w.heap.size+2≤k∧k≠w2.heap.size):=fun k e=>by
     refine⟨(HOWN.out.lt k e).1,fun e2=>?_⟩
     rcases HOWN.out.2 with ⟨q,_⟩ | ⟨g',cap',cur,q,_,hg',_⟩
     ·rw[q] at e
      cases e
     ·rw[q] at e
      cases e
      have e3:g'=w2.heap.size:=e2
      rw[e3,HS6.out.2] at hg'
      simp at hg'
    have HALL:Hid (∀ (w7:World) (g7 cap7:Nat),w7.ownsRow (w.heap.size+2) 3 1 (.slice (some ⟨g7,0,none⟩) (nv+1) cap7) (nv+1) ((occI s j T0 T1 T2).map (Value.int .i64) ++ [.int .i64 (j:Int)])→(W6.alloc (.cells #[.int .i64 (j:Int)] 3)).grownBy w7 (Value.slice av nv cv).ownBlock→((Value.slice av nv cv).ownBlock=some g7∨g7=W6.heap.size+1)→
      (w7.cell? ⟨w.heap.size+1,2,none⟩=some (.map (some w.heap.size))∧w7.cell? ⟨w2.heap.size,0,none⟩=some (.int .u8 (T0:Int))∧w7.cell? ⟨w2.heap.size,1,none⟩=some (.int .u8 (T1:Int))∧w7.cell? ⟨w2.heap.size,2,none⟩=some (.int .u8 (T2:Int)))∧
      ∃ w8,(Instr.mapUpdate 176 (.map (some w.heap.size)) (kv T0 T1 T2) (.slice (some ⟨g7,0,none⟩) (nv+1) cap7)).run Tryz.prog w7=.ok () w8∧(w8.cell? ⟨w.heap.size+1,2,none⟩=some (.map (some w.heap.size))∧w8.cell? ⟨w2.heap.size,0,none⟩=some (.int .u8 (T0:Int))∧w8.cell? ⟨w2.heap.size,1,none⟩=some (.int .u8 (T1:Int))∧w8.cell? ⟨w2.heap.size,2,none⟩=some (.int .u8 (T2:Int)))∧Hid (∃ G',NM w w8 s c (j+1) G' (some ⟨g5,0,none⟩) (j+1) cap5)):=by
     intro w7 g7 cap7 z1 z2 z3
     have hk:∀ k,k < w.heap.size+2→w7.heap[k]?=W6.heap[k]?:=fun k hk=>(z2.block k (by simp; omega) (fun e=>by have:=(HLT.out k e.symm).1; omega)).trans ((bstart W6 _).block k (by omega))
     have hk2:w7.heap[w2.heap.size]?=W6.heap[w2.heap.size]?:=(z2.block _ (by simp; omega) (fun e=>(HLT.out _ e.symm).2 rfl)).trans ((bstart W6 _).block _ hz6)
     obtain⟨w8,hrun,hkm,hg8⟩:=(HS6.out.1.2.1.keep (hk _ (by omega))).store hb0 hb1 hb2 (.slice (some ⟨g7,0,none⟩) (nv+1) cap7)
     have hc7:=hk2.trans HS6.out.2
     have hm7:=(hk (w.heap.size+1) (by omega)).trans HS6.out.1.1
     have hc8:=(hg8.block _ (block_lt hc7) (by simp; omega)).trans hc7
     have hm8:=(hg8.block _ (block_lt hm7) (by simp)).trans hm7
     refine⟨⟨(cell_of_block hm7 2).trans rfl,(cell_of_block hc7 0).trans rfl,(cell_of_block hc7 1).trans rfl,(cell_of_block hc7 2).trans rfl⟩,w8,hrun,⟨(cell_of_block hm8 2).trans rfl,(cell_of_block hc8 0).trans rfl,(cell_of_block hc8 1).trans rfl,(cell_of_block hc8 2).trans rfl⟩,?_⟩
     obtain⟨t0,t1,t2⟩:=HT.out
     have hvv:=HV.out
     have hnn:=HNV.out
     subst t0 t1 t2
     exact⟨_,nm_put HS6.out.1 hvv hnn z1 z2 z3 hkm hg8⟩
    go_wp2_with fail
    go_region_held3 (fun w'=>w'.cell? ⟨w.heap.size+1,2,none⟩=some (.map (some w.heap.size))∧w'.cell? ⟨w2.heap.size,0,none⟩=some (.int .u8 (T0:Int))∧w'.cell? ⟨w2.heap.size,1,none⟩=some (.int .u8 (T1:Int))∧w'.cell? ⟨w2.heap.size,2,none⟩=some (.int .u8 (T2:Int)))
     (refine⟨?_,?_,?_,?_⟩ <;> first | assumption | go_keep | (simp [*]; done))
     ((refine step_append_lies _ (by rfl) (.tmp 47) (.tmp 49) 25 (by rfl) (w.heap.size+2) 3 i0 _ 1 8 Tryz.underlying25 hi0 hz0 hz1 hz2 rfl (by omega) (.slice av nv cv) nv ((occI s j T0 T1 T2).map (Value.int .i64)) (by rfl) (World.ownsRow.alloc HOWN.out _) ⟨W6.heap.size,0,none⟩ 1 1 [.int .i64 (j:Int)] (by rfl) rfl (World.news_of_block (heap_alloc_new W6 _)) (by simp [Value.oneCell']) (by omega) (by unfold maxLen; omega) (by omega) (by show _≤(W6.alloc _).heap.size; simp; omega) (W6.heap.size+1) (by show (W6.alloc _).heap.size=_; simp) ?_; intro g7 cap7 w7 z1 z2 z3 z4; obtain⟨⟨p0,p1,p2,p3⟩,w8,hrun,⟨e0,e1,e2,e3⟩,HN8⟩:=HALL.out w7 g7 cap7 z1 ⟨z2.1,z2.2,z2.3,z2.4,z2.5⟩ z3; clear z1 z2 z3 z4))
    obtain⟨G8,hN8⟩:=HN8.out
    have HN9:=hid_of hN8
    clear hN8 HN8 HALL HLT HOWN HS6
    go_wp2_with fail
    go_roundg (n2 - (j+1))
    case measure=>omega
    case rel=>exact⟨j+1,cap5,some ⟨g5,0,none⟩,G8,by omega,Nat.le_refl _,by go_num,HN9⟩
   ·obtain rfl:j=n2:=by omega
    have dl:decide ((j:Int) < (j:Int))=false:=decide_eq_false (by omega)
    have HZ:Hid (Mt wr (w.heap.size+1) s c∧Below w.heap.size w wr):=⟨mt_of_nm HN2.out hS.out,hS.out.2.2.2.1⟩
    go_wp2_with fail
    go_ret
    exact⟨rfl,HZ.out⟩
 ·have HN2:=hid_of hn2
  have HZ:Hid (Mt ((w.alloc (.map #[] 0)).alloc (.cells #[.string s,.int .i64 (c:Int),.map (some w.heap.size),.slice none 0 0] 178)) (w.heap.size+1) s c∧Below w.heap.size w ((w.alloc (.map #[] 0)).alloc (.cells #[.string s,.int .i64 (c:Int),.map (some w.heap.size),.slice none 0 0] 178))):=⟨mt_of_nm (show 0=s.size - 2 by omega) H0.out,H0.out.2.2.2.1⟩
  clear H0 hn2
  go_enter Tryz.func79,Tryz.ntmps79
  go_wp2_with fail
  generalize (w.alloc (.map #[] 0)).alloc (.cells #[.string s,.int .i64 (c:Int),.map (some w.heap.size),.slice none 0 0] 178)=W at HZ
  go_loopg [19] 1 (fun _ v w'=>v=.int .i64 0∧Hid (w'=W))
  case atStart=>exact⟨rfl,rfl⟩
  case round=>
   obtain⟨rfl,HE⟩:=hrel
   go_wp2_with fail
   go_ret
   have:=HE.out
   subst this
   exact⟨rfl,HZ.out⟩
end Go.Proofs.YtklpiihnbokkkaaGreatDoor
