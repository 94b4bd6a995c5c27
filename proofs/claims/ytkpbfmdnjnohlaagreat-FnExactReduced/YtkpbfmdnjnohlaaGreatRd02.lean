/-
  Texts of the proof, put together.
-/
import Derived.Test.YtkpbfmdnjnohlaaGreatRd01
import Derived.Deep.SlicePairs
import Derived.Deep.LoopGhost
namespace Go.Proofs.YtkpbfmdnjnohlaaGreat
section
open Go.RowKit Go.Joins Go.Sort HeadMath
theorem toRgb_any (x y z:Int) (w:World):Calls Tryz.prog 72 #[.agg #[.int .i64 x,.int .i64 y,.int .i64 z]] w fun e w'=>e=.returned (.agg #[.int .i64 x,.int .i64 y,.int .i64 z])∧Below w.heap.size w w':=by
 go_enter Tryz.func72,Tryz.ntmps72
 go_wp2_with fail
 exact bodyPost_ret (v:=.agg #[.int .i64 x,.int .i64 y,.int .i64 z]) (by simp [results,Tryz.results72,go_sem]) rfl ⟨rfl,bal (bal (bstart _ _) _) _⟩
theorem szRgbS_any (a:Option Addr) (n c:Nat) (z:Int) (w:World) (hn:n≤9223372036854775807) (hz0:0≤z) (hz:z≤10000000):Calls Tryz.prog 23 #[.slice a n c,.int .i64 z] w fun e w'=>e=.returned (.int .i64 (if (n:Int)≤z then z - n else -1))∧w=w':=by
 by_cases h:(n:Int)≤z
 ·rw[if_pos h]
  have d:decide (z - (n:Int) < 0)=false:=decide_eq_false (by omega)
  go_enter Tryz.func23,Tryz.ntmps23
  go_wp2_with fail
  go_ret
  exact⟨rfl,rfl⟩
 ·rw[if_neg h]
  have d:decide (z - (n:Int) < 0)=true:=decide_eq_true (by omega)
  go_enter Tryz.func23,Tryz.ntmps23
  go_wp2_with fail
  go_ret
  exact⟨rfl,rfl⟩
def RgbSt (w w':World) (n:Nat) (F:Nat→Rgb3) (j:Nat):Prop:=Below w.heap.size w w'∧∃ cur,w'.heap[w.heap.size]?=some (.cells cur 74 (0,0))∧cur.size=n * 3∧∀ i,i < j→cur[i * 3]?=some (.int .i64 (F i).1)∧cur[i * 3+1]?=some (.int .i64 (F i).2.1)∧cur[i * 3+2]?=some (.int .i64 (F i).2.2)
theorem RgbSt.called {w w1 w2:World} {n:Nat} {F:Nat→Rgb3} {j:Nat} (h:RgbSt w w1 n F j) (hb:Below w1.heap.size w1 w2):RgbSt w w2 n F j:=by
 obtain⟨h1,cur,h2,h3⟩:=h
 exact⟨bnext h1 hb,cur,(hb.block _ (block_lt h2)).trans h2,h3⟩
theorem rgb_next {w w':World} {n:Nat} {F:Nat→Rgb3} {j:Nat} (h:RgbSt w w' n F j) (hj:j < n):RgbSt w (((w'.setCell ⟨w.heap.size,j * 3,none⟩ (.int .i64 (F j).1)).setCell ⟨w.heap.size,j * 3+1,none⟩ (.int .i64 (F j).2.1)).setCell ⟨w.heap.size,j * 3+2,none⟩ (.int .i64 (F j).2.2)) n F (j+1):=by
 obtain⟨h1,cur,h2,h3,h4⟩:=h
 refine⟨((h1.setCell (p:=⟨w.heap.size,j * 3,none⟩) (Nat.le_refl _) _).setCell (p:=⟨w.heap.size,j * 3+1,none⟩) (Nat.le_refl _) _).setCell (p:=⟨w.heap.size,j * 3+2,none⟩) (Nat.le_refl _) _,((cur.setIfInBounds (j * 3) (.int .i64 (F j).1)).setIfInBounds (j * 3+1) (.int .i64 (F j).2.1)).setIfInBounds (j * 3+2) (.int .i64 (F j).2.2),?_,by simpa using h3,fun i hi=>?_⟩
 ·simp[World.setCell,Array.getElem?_modify,h2]
 ·by_cases e:i=j
  ·subst e
   refine⟨?_,?_,?_⟩
   ·rw[Array.getElem?_setIfInBounds_ne (by omega),Array.getElem?_setIfInBounds_ne (by omega),Array.getElem?_setIfInBounds_self_of_lt (by omega)]
   ·rw[Array.getElem?_setIfInBounds_ne (by omega),Array.getElem?_setIfInBounds_self_of_lt (by simp; omega)]
   ·rw[Array.getElem?_setIfInBounds_self_of_lt (by simp; omega)]
  ·obtain⟨k1,k2,k3⟩:=h4 i (by omega)
   refine⟨?_,?_,?_⟩
   ·rw[Array.getElem?_setIfInBounds_ne (by omega),Array.getElem?_setIfInBounds_ne (by omega),Array.getElem?_setIfInBounds_ne (by omega)]; exact k1
   ·rw[Array.getElem?_setIfInBounds_ne (by omega),Array.getElem?_setIfInBounds_ne (by omega),Array.getElem?_setIfInBounds_ne (by omega)]; exact k2
   ·rw[Array.getElem?_setIfInBounds_ne (by omega),Array.getElem?_setIfInBounds_ne (by omega),Array.getElem?_setIfInBounds_ne (by omega)]; exact k3
theorem rgb_cell {w w':World} {n:Nat} {F:Nat→Rgb3} {j:Nat} (h:RgbSt w w' n F j):w.heap.size < w'.heap.size∧(∀ k,w'.frozen? ⟨w.heap.size,k,none⟩=false)∧(∀ k,k < n * 3→∃ u,w'.cell? ⟨w.heap.size,k,none⟩=some u):=by
 obtain⟨h1,cur,h2,h3,h4⟩:=h
 refine⟨block_lt h2,fun k=>by simp [World.frozen?,h2],fun k hk=>?_⟩
 rw[cell_of_block h2]
 exact⟨cur[k]'(by omega),Array.getElem?_eq_getElem (by omega)⟩
set_option maxHeartbeats 1600000 in
theorem toRgbS_any (a:Option Addr) (n c:Nat) (F:Nat→Rgb3) (w:World) (hC:RgbCame w a n F) (hn:n≤1048576):
  Calls Tryz.prog 32 #[.slice a n c] w fun e w'=>e=.returned (.slice (some ⟨w.heap.size,0,none⟩) n n)∧RgbOwn w' w.heap.size w.heap.size n F∧Below w.heap.size w w':=by
 have HC:=hid_of hC
 have hmk:=make_rgbs w n hn
 have H0:Hid (RgbSt w (w.alloc (.cells (madeCells #[.int .i64 0,.int .i64 0,.int .i64 0] (n * 3)) 74)) n F 0):=⟨bstart _ _,_,heap_alloc_new w _,by rw [size_madeCells],fun i hi=>absurd hi (Nat.not_lt_zero i)⟩
 generalize w.alloc (.cells (madeCells #[.int .i64 0,.int .i64 0,.int .i64 0] (n * 3)) 74)=w0 at hmk H0
 clear hC
 go_enter Tryz.func32,Tryz.ntmps32
 go_wp2_with fail
 go_loopw [4] (fun i w'=>∃ j:Nat,j≤n∧i=.int .i64 j∧Hid (RgbSt w w' n F j)) (fun i _=>n - (intOf i).toNat)
 case atStart=>exact⟨0,Nat.zero_le _,rfl,H0⟩
 case round=>
  clear H0 hmk
  obtain⟨j,hj,rfl,hS⟩:=hrel
  by_cases hlt:j < n
  ·rcases HC.out with h0 | ⟨g,off,rfl,hg,hc⟩
   ·omega
   ·have c0:wr.cell? ⟨g,off+j * 3,none⟩=some (.int .i64 (F j).1):=(hS.out.1.cell (p:=⟨g,off+j * 3,none⟩) hg).trans (hc j hlt).1
    have c1:wr.cell? ⟨g,off+j * 3+1,none⟩=some (.int .i64 (F j).2.1):=(hS.out.1.cell (p:=⟨g,off+j * 3+1,none⟩) hg).trans (hc j hlt).2.1
    have c2:wr.cell? ⟨g,off+j * 3+2,none⟩=some (.int .i64 (F j).2.2):=(hS.out.1.cell (p:=⟨g,off+j * 3+2,none⟩) hg).trans (hc j hlt).2.2
    have hl2:g < wr.heap.size:=Nat.lt_of_lt_of_le hg hS.out.1.size
    clear hc
    obtain⟨x,hx⟩:∃ x,x=(F j).1:=⟨_,rfl⟩
    obtain⟨y,hy⟩:∃ y,y=(F j).2.1:=⟨_,rfl⟩
    obtain⟨z,hz⟩:∃ z,z=(F j).2.2:=⟨_,rfl⟩
    rw[← hx] at c0
    rw[← hy] at c1
    rw[← hz] at c2
    have HXY:=hid_of (And.intro hx (And.intro hy hz))
    clear hx hy hz
    go_wp2_with fail
    refine (toRgb_any x y z wr).mono ?_
    rintro e w1 ⟨rfl,hB⟩
    have HS1:=hid_of (hS.out.called hB)
    clear hB
    obtain⟨p1,p2,p3⟩:=rgb_cell HS1.out
    obtain⟨u0,q0⟩:=p3 (j * 3) (by omega)
    obtain⟨u1,q1⟩:=p3 (j * 3+1) (by omega)
    obtain⟨u2,q2⟩:=p3 (j * 3+2) (by omega)
    have HS2:Hid (RgbSt w (((w1.setCell ⟨w.heap.size,j * 3,none⟩ (.int .i64 x)).setCell ⟨w.heap.size,j * 3+1,none⟩ (.int .i64 y)).setCell ⟨w.heap.size,j * 3+2,none⟩ (.int .i64 z)) n F (j+1)):=by
     have h:=rgb_next HS1.out hlt
     rw[← HXY.out.1,← HXY.out.2.1,← HXY.out.2.2] at h
     exact h
    clear p3
    go_wp2_with fail
    go_roundw
    case rel=>exact⟨j+1,by omega,by go_num,HS2⟩
    case measure=>simp [intOf]; omega
  ·obtain rfl:j=n:=by omega
   have HZ:Hid (RgbOwn wr w.heap.size w.heap.size j F∧Below w.heap.size w wr):=by
    obtain⟨h1,cur,h2,h3,h4⟩:=hS.out
    exact⟨⟨Nat.le_refl _,cur,h2,by omega,h4⟩,h1⟩
   go_wp2_with fail
   go_ret
   exact⟨rfl,HZ.out⟩
end
section
open Go.ChangeShapes Go.WideShapes Go.ChangeAt Go.RowKit Go.Joins Go.Deep HeadMath
set_option maxRecDepth 100000 in
theorem open_colors {H:Type} {enc:TypeId×Value→H} {W:World} {spare:Nat→Bool} {fuel:Nat} {a:Option Addr} {len cap:Nat} {x:DataW H×List MemPlace} (h:DataW.trod enc Tryz.prog W 0 spare true fuel 24 [.slice a len cap]=some x):
  ∃ L:List Rgb3,len=L.length∧RgbCame W a len (fun j=>L.getD j (0,0,0))∧(∀ t∈L,(Lit.int .i64 t.1).wf=true∧(Lit.int .i64 t.2.1).wf=true∧(Lit.int .i64 t.2.2).wf=true)∧len≤maxLen:=by
 have ce:Tryz.prog.cellsOf 92=3:=by kernel_rfl
 have ci:Tryz.prog.cellsOf 3=1:=by kernel_rfl
 rcases open_slice Tryz.underlying24 h with ⟨hcs,_⟩ | ⟨ad,l,c,m,n,D,Pl,hcs,_,hl,hm,hmm,_,hx⟩
 ·simp at hcs
  obtain⟨rfl,rfl,rfl⟩:=hcs
  exact⟨[],rfl,.inl rfl,(fun r hr=>by cases hr),Nat.zero_le _⟩
 ·simp at hcs
  obtain⟨rfl,rfl,rfl⟩:=hcs
  have hlm:len≤m:=by rw [hmm]; split <;> omega
  have each:∀ i,i < len→∃ q:Rgb3,(W.cell? (ad.add (i * 3))=some (.int .i64 q.1)∧W.cell? (ad.add (i * 3+1))=some (.int .i64 q.2.1)∧W.cell? (ad.add (i * 3+2))=some (.int .i64 q.2.2))∧(Lit.int .i64 q.1).wf=true∧(Lit.int .i64 q.2.1).wf=true∧(Lit.int .i64 q.2.2).wf=true:=by
   intro i hi
   obtain⟨cs',h1,h2⟩:=hx i (by omega)
   rw[ce] at h1
   obtain⟨_,hlen,hcell⟩:=World.cells?_some h1
   obtain⟨xs,k,hk,hxy,_,hxl,hf⟩:=DataW.trod_struct Tryz.underlying92 h2
   match xs,hxl,cs',hlen with
   | [y0,y1,y2],_,[v0,v1,v2],_=>
    have g0:=hf 0 _ rfl
    have g1:=hf 1 _ rfl
    have g2:=hf 2 _ rfl
    simp[ci] at g0 g1 g2
    obtain⟨x0,e0,_,f0⟩:=DataW.trod_int Tryz.underlying3 g0
    obtain⟨x1,e1,_,f1⟩:=DataW.trod_int Tryz.underlying3 g1
    obtain⟨x2,e2,_,f2⟩:=DataW.trod_int Tryz.underlying3 g2
    simp at e0 e1 e2
    have k0:=hcell 0 (by omega)
    have k1:=hcell 1 (by omega)
    have k2:=hcell 2 (by omega)
    rw[add_add] at k0 k1 k2
    refine⟨(x0,x1,x2),⟨?_,?_,?_⟩,f0,f1,f2⟩
    ·simpa [e0] using k0
    ·simpa [e1] using k1
    ·simpa [e2] using k2
  obtain⟨q,hq⟩:=choose_lt each
  have hg:∀ j,j < len→((List.range len).map q).getD j (0,0,0)=q j:=by
   intro j hj
   rw[List.getD_eq_getElem?_getD,List.getElem?_map,List.getElem?_range hj]
   rfl
  refine⟨(List.range len).map q,by simp,?_,fun r hr=>?_,by omega⟩
  ·rcases Nat.eq_zero_or_pos len with h0 | h0
   ·exact .inl h0
   ·obtain⟨b,off,spot⟩:=ad
    have h1:=(hq 0 (by omega)).1.1
    have hspot:spot=none:=by simpa [Addr.add] using World.cell?_spot h1
    subst hspot
    have hadd:∀ j,(⟨b,off,none⟩:Addr).add j=⟨b,off+j,none⟩:=fun j=>Addr.add_lit _ _ _
    refine .inr ⟨b,off,rfl,?_,fun j hj=>?_⟩
    ·rw[hadd] at h1
     exact World.block_lt_of_cell? W _ h1
    ·obtain⟨⟨k0,k1,k2⟩,_⟩:=hq j hj
     rw[hadd] at k0 k1 k2
     rw[← Nat.add_assoc] at k1 k2
     show W.cell? _=some (.int .i64 (((List.range len).map q).getD j (0,0,0)).1)∧W.cell? _=some (.int .i64 (((List.range len).map q).getD j (0,0,0)).2.1)∧W.cell? _=some (.int .i64 (((List.range len).map q).getD j (0,0,0)).2.2)
     rw[hg j hj]
     exact⟨k0,k1,k2⟩
  ·obtain⟨i,hi,rfl⟩:=List.mem_map.mp hr
   exact (hq i (List.mem_range.mp hi)).2
end
section
open Go.RowKit Go.Joins
theorem make_chks (w:World) (n:Nat) (hn:n≤1048576):(Instr.makeSlice 35 (.int .i64 n) (.int .i64 n)).run Tryz.prog w=.ok (.slice (some ⟨w.heap.size,0,none⟩) n n) (w.alloc (.cells (madeCells #[.string ByteArray.empty,.string ByteArray.empty] (n * 2)) 93)):=by
 obtain⟨i0,hi0,hz0,hz1,hz2⟩:=info_parts info_chk
 have h:=run_make (P:=Tryz.prog) w 35 93 i0 (.agg #[.string ByteArray.empty,.string ByteArray.empty]) Tryz.underlying35 hi0 hz0 .i64 .i64 n n (by omega) (by omega) (by rw [hz2]; omega) (by omega)
 rw[hz1,Int.toNat_natCast] at h
 exact h
theorem toChunk_any (x y:ByteArray) (w:World):Calls Tryz.prog 73 #[.agg #[.string x,.string y]] w fun e w'=>e=.returned (.agg #[.string x,.string y])∧Below w.heap.size w w':=by
 go_enter Tryz.func73,Tryz.ntmps73
 go_wp2_with fail
 exact bodyPost_ret (v:=.agg #[.string x,.string y]) (by simp [results,Tryz.results73,go_sem]) rfl ⟨rfl,bal (bal (bstart _ _) _) _⟩
def ToStK (w w':World) (n:Nat) (F:Nat→ByteArray×ByteArray) (j:Nat):Prop:=Below w.heap.size w w'∧∃ cur,w'.heap[w.heap.size]?=some (.cells cur 93 (0,0))∧cur.size=n * 2∧∀ i,i < j→cur[i * 2]?=some (.string (F i).1)∧cur[i * 2+1]?=some (.string (F i).2)
theorem ToStK.called {w w1 w2:World} {n:Nat} {F:Nat→ByteArray×ByteArray} {j:Nat} (h:ToStK w w1 n F j) (hb:Below w1.heap.size w1 w2):ToStK w w2 n F j:=by
 obtain⟨h1,cur,h2,h3⟩:=h
 exact⟨bnext h1 hb,cur,(hb.block _ (block_lt h2)).trans h2,h3⟩
theorem to_nextK {w w':World} {n:Nat} {F:Nat→ByteArray×ByteArray} {j:Nat} (h:ToStK w w' n F j) (hj:j < n):ToStK w ((w'.setCell ⟨w.heap.size,j * 2,none⟩ (.string (F j).1)).setCell ⟨w.heap.size,j * 2+1,none⟩ (.string (F j).2)) n F (j+1):=by
 obtain⟨h1,cur,h2,h3,h4⟩:=h
 refine⟨(h1.setCell (p:=⟨w.heap.size,j * 2,none⟩) (Nat.le_refl _) _).setCell (p:=⟨w.heap.size,j * 2+1,none⟩) (Nat.le_refl _) _,(cur.setIfInBounds (j * 2) (.string (F j).1)).setIfInBounds (j * 2+1) (.string (F j).2),?_,by simpa using h3,fun i hi=>?_⟩
 ·simp[World.setCell,Array.getElem?_modify,h2]
 ·by_cases e:i=j
  ·subst e
   refine⟨?_,?_⟩
   ·rw[Array.getElem?_setIfInBounds_ne (by omega),Array.getElem?_setIfInBounds_self_of_lt (by omega)]
   ·rw[Array.getElem?_setIfInBounds_self_of_lt (by simp; omega)]
  ·obtain⟨k1,k2⟩:=h4 i (by omega)
   refine⟨?_,?_⟩
   ·rw[Array.getElem?_setIfInBounds_ne (by omega),Array.getElem?_setIfInBounds_ne (by omega)]; exact k1
   ·rw[Array.getElem?_setIfInBounds_ne (by omega),Array.getElem?_setIfInBounds_ne (by omega)]; exact k2
theorem to_cellK {w w':World} {n:Nat} {F:Nat→ByteArray×ByteArray} {j:Nat} (h:ToStK w w' n F j):w.heap.size < w'.heap.size∧(∀ k,w'.frozen? ⟨w.heap.size,k,none⟩=false)∧(∀ k,k < n * 2→∃ u,w'.cell? ⟨w.heap.size,k,none⟩=some u):=by
 obtain⟨h1,cur,h2,h3,h4⟩:=h
 refine⟨block_lt h2,fun k=>by simp [World.frozen?,h2],fun k hk=>?_⟩
 rw[cell_of_block h2]
 exact⟨cur[k]'(by omega),Array.getElem?_eq_getElem (by omega)⟩
set_option maxHeartbeats 1600000 in
theorem toChunkS_any (a:Option Addr) (n c:Nat) (F:Nat→ByteArray×ByteArray) (w:World) (hC:KCame w a n F) (hn:n≤1048576):
  Calls Tryz.prog 35 #[.slice a n c] w fun e w'=>e=.returned (.slice (some ⟨w.heap.size,0,none⟩) n n)∧KOwn w' w.heap.size w.heap.size n F∧Below w.heap.size w w':=by
 have HC:=hid_of hC
 have hmk:=make_chks w n hn
 have H0:Hid (ToStK w (w.alloc (.cells (madeCells #[.string ByteArray.empty,.string ByteArray.empty] (n * 2)) 93)) n F 0):=⟨bstart _ _,_,heap_alloc_new w _,by rw [size_madeCells],fun i hi=>absurd hi (Nat.not_lt_zero i)⟩
 generalize w.alloc (.cells (madeCells #[.string ByteArray.empty,.string ByteArray.empty] (n * 2)) 93)=w0 at hmk H0
 clear hC
 go_enter Tryz.func35,Tryz.ntmps35
 go_wp2_with fail
 go_loopw [4] (fun i w'=>∃ j:Nat,j≤n∧i=.int .i64 j∧Hid (ToStK w w' n F j)) (fun i _=>n - (intOf i).toNat)
 case atStart=>exact⟨0,Nat.zero_le _,rfl,H0⟩
 case round=>
  clear H0 hmk
  obtain⟨j,hj,rfl,hS⟩:=hrel
  by_cases hlt:j < n
  ·rcases HC.out with h0 | ⟨g,off,rfl,hg,hc⟩
   ·omega
   ·have c0:wr.cell? ⟨g,off+j * 2,none⟩=some (.string (F j).1):=(hS.out.1.cell (p:=⟨g,off+j * 2,none⟩) hg).trans (hc j hlt).1
    have c1:wr.cell? ⟨g,off+j * 2+1,none⟩=some (.string (F j).2):=(hS.out.1.cell (p:=⟨g,off+j * 2+1,none⟩) hg).trans (hc j hlt).2
    have hl2:g < wr.heap.size:=Nat.lt_of_lt_of_le hg hS.out.1.size
    clear hc
    obtain⟨x,hx⟩:∃ x,x=(F j).1:=⟨_,rfl⟩
    obtain⟨y,hy⟩:∃ y,y=(F j).2:=⟨_,rfl⟩
    rw[← hx] at c0
    rw[← hy] at c1
    have HXY:=hid_of (And.intro hx hy)
    clear hx hy
    go_wp2_with fail
    refine (toChunk_any x y wr).mono ?_
    rintro e w1 ⟨rfl,hB⟩
    have HS1:=hid_of (hS.out.called hB)
    clear hB
    obtain⟨p1,p2,p3⟩:=to_cellK HS1.out
    obtain⟨u0,q0⟩:=p3 (j * 2) (by omega)
    obtain⟨u1,q1⟩:=p3 (j * 2+1) (by omega)
    have HS2:Hid (ToStK w ((w1.setCell ⟨w.heap.size,j * 2,none⟩ (.string x)).setCell ⟨w.heap.size,j * 2+1,none⟩ (.string y)) n F (j+1)):=by
     have h:=to_nextK HS1.out hlt
     rw[← HXY.out.1,← HXY.out.2] at h
     exact h
    clear p3
    go_wp2_with fail
    go_roundw
    case rel=>exact⟨j+1,by omega,by go_num,HS2⟩
    case measure=>simp [intOf]; omega
  ·obtain rfl:j=n:=by omega
   have HZ:Hid (KOwn wr w.heap.size w.heap.size j F∧Below w.heap.size w wr):=by
    obtain⟨h1,cur,h2,h3,h4⟩:=hS.out
    exact⟨⟨Nat.le_refl _,cur,h2,by omega,h4⟩,h1⟩
   go_wp2_with fail
   go_ret
   exact⟨rfl,HZ.out⟩
end
section
open Go.RowKit Go.Joins
theorem szChunk_any (x y:ByteArray) (l:Int) (w:World) (hl0:0≤l) (hl:l≤1048576) (hx:x.size≤9223372036854775807) (hy:y.size≤9223372036854775807):
  Calls Tryz.prog 68 #[.agg #[.string x,.string y],.int .i64 l] w fun e w'=>(∃ z:Int,e=.returned (.int .i64 z)∧(z=-1∨0≤z∧z≤l∧x.size≤1048576∧y.size≤1048576))∧Below w.heap.size w w':=by
 by_cases h1:l - (x.size:Int) < 0
 ·have d1:decide (l - (x.size:Int) < 0)=true:=decide_eq_true h1
  go_enter Tryz.func68,Tryz.ntmps68
  go_wp2_with fail
  go_ret
  exact⟨⟨-1,rfl,.inl rfl⟩,bstart _ _⟩
 ·have d1:decide (l - (x.size:Int) < 0)=false:=decide_eq_false h1
  by_cases h2:l - (x.size:Int) - (y.size:Int) < 0
  ·have d2:decide (l - (x.size:Int) - (y.size:Int) < 0)=true:=decide_eq_true h2
   go_enter Tryz.func68,Tryz.ntmps68
   go_wp2_with fail
   go_ret
   exact⟨⟨-1,rfl,.inl rfl⟩,bstart _ _⟩
  ·have d2:decide (l - (x.size:Int) - (y.size:Int) < 0)=false:=decide_eq_false h2
   go_enter Tryz.func68,Tryz.ntmps68
   go_wp2_with fail
   go_ret
   exact⟨⟨_,rfl,.inr ⟨by omega,by omega,by omega,by omega⟩⟩,bstart _ _⟩
def SzI (w w':World) (F:Nat→ByteArray×ByteArray) (j:Nat):Prop:=Below w.heap.size w w'∧∀ i,i < j→(F i).1.size≤1048576∧(F i).2.size≤1048576
def SzPost (w:World) (n:Nat) (F:Nat→ByteArray×ByteArray) (e:Ending) (w':World):Prop:=∃ z:Int,e=.returned (.int .i64 z)∧(z=-1∨0≤z∧z≤1048576∧n≤1048576∧∀ i,i < n→(F i).1.size≤1048576∧(F i).2.size≤1048576)∧Below w.heap.size w w'
set_option maxHeartbeats 1600000 in
theorem szChunkS_at (z0:Int) (hz0:0≤z0) (hz1:z0≤1048576) (a:Option Addr) (n c:Nat) (F:Nat→ByteArray×ByteArray) (w:World) (hC:KCame w a n F) (hn:n≤9223372036854775807) (hm:∀ i,i < n→(F i).1.size≤9223372036854775807∧(F i).2.size≤9223372036854775807):
  Calls Tryz.prog 26 #[.slice a n c,.int .i64 z0] w (SzPost w n F):=by
 unfold SzPost
 by_cases h1:z0 - (n:Int) < 0
 ·have d1:decide (z0 - (n:Int) < 0)=true:=decide_eq_true h1
  clear hm hC
  go_enter Tryz.func26,Tryz.ntmps26
  go_wp2_with fail
  go_ret
  exact⟨-1,rfl,.inl rfl,Below.refl _ _⟩
 ·have d1:decide (z0 - (n:Int) < 0)=false:=decide_eq_false h1
  have HC:=hid_of hC
  have HM:=hid_of hm
  have hn2:n≤1048576:=by omega
  have hz2:0≤z0 - (n:Int)∧z0 - (n:Int)≤1048576:=by omega
  clear hC hm h1 hz0 hz1
  go_enter Tryz.func26,Tryz.ntmps26
  go_wp2_with fail
  go_loopw [1,5] (fun z i w'=>∃ (j:Nat) (l:Int),j≤n∧i=.int .i64 j∧z=.int .i64 l∧0≤l∧l≤1048576∧Hid (SzI w w' F j)) (fun _ i _=>n - (intOf i).toNat)
  case atStart=>exact⟨0,_,Nat.zero_le _,rfl,rfl,hz2.1,hz2.2,Below.refl _ _,fun i hi=>absurd hi (Nat.not_lt_zero i)⟩
  case round=>
   obtain⟨j,l,hj,rfl,rfl,hl0,hl1,hI⟩:=hrel
   by_cases hlt:j < n
   ·rcases HC.out with h0 | ⟨g,off,rfl,hg,hc⟩
    ·omega
    ·have c0:wr.cell? ⟨g,off+j * 2,none⟩=some (.string (F j).1):=(hI.out.1.cell (p:=⟨g,off+j * 2,none⟩) hg).trans (hc j hlt).1
     have c1:wr.cell? ⟨g,off+j * 2+1,none⟩=some (.string (F j).2):=(hI.out.1.cell (p:=⟨g,off+j * 2+1,none⟩) hg).trans (hc j hlt).2
     have hs:=szChunk_any (F j).1 (F j).2 l wr hl0 hl1 (HM.out j hlt).1 (HM.out j hlt).2
     have hl2:g < wr.heap.size:=Nat.lt_of_lt_of_le hg hI.out.1.size
     have HE:Hid (∀ w1,Below wr.heap.size wr w1→(F j).1.size≤1048576∧(F j).2.size≤1048576→SzI w w1 F (j+1)):=fun w1 hb hz=>⟨bnext hI.out.1 hb,fun i hi=>by
      by_cases e:i=j
      ·rw[e]; exact hz
      ·exact hI.out.2 i (by omega)⟩
     have HI1:=hid_of hI.out.1
     generalize (F j).1=x at *
     generalize (F j).2=y at *
     clear hc hI
     go_wp2_with fail
     refine hs.mono ?_
     rintro e w1 ⟨⟨z,rfl,hz⟩,hB⟩
     rcases hz with rfl | ⟨z0,z1,z2,z3⟩
     ·have HB:=hid_of (bnext HI1.out hB)
      clear hB HE
      go_wp2_with fail
      go_ret
      exact⟨-1,rfl,.inl rfl,HB.out⟩
     ·have HN:=hid_of (HE.out w1 hB ⟨z2,z3⟩)
      have dz:decide (z < 0)=false:=decide_eq_false (by omega)
      clear hB HE hs
      go_wp2_with fail
      go_roundw
      case rel=>exact⟨j+1,z,by omega,by go_num,rfl,z0,by omega,HN⟩
      case measure=>simp [intOf]; omega
   ·obtain rfl:j=n:=by omega
    go_wp2_with fail
    go_ret
    exact⟨l,rfl,.inr ⟨hl0,hl1,hn2,hI.out.2⟩,hI.out.1⟩
end
section
open Go.ChangeShapes Go.WideShapes Go.ChangeAt Go.RowKit Go.Joins Go.Deep
def txtOf:Value→ByteArray
 | .string s=>s
 | _=>ByteArray.empty
theorem open_chunks {H:Type} {enc:TypeId×Value→H} {W:World} {spare:Nat→Bool} {fuel:Nat} {a:Option Addr} {len cap:Nat} {x:DataW H×List MemPlace} (h:DataW.trod enc Tryz.prog W 0 spare true fuel 28 [.slice a len cap]=some x):
  ∃ L:List (ByteArray×ByteArray),len=L.length∧KCame W a len (fun j=>L.getD j (ByteArray.empty,ByteArray.empty))∧(∀ r∈L,r.1.size≤maxLen∧r.2.size≤maxLen)∧len≤maxLen:=by
 rcases open_slice_pairs Tryz.underlying28 Tryz.underlying89 (by kernel_rfl) rfl rfl (by kernel_rfl) (by kernel_rfl) h with ⟨hcs,_⟩ | ⟨ad,l,c,m,n,V0,V1,D0,D1,P0,P1,hcs,_,hl,hm,hmm,_,hx⟩
 ·simp at hcs
  obtain⟨rfl,rfl,rfl⟩:=hcs
  exact⟨[],rfl,.inl rfl,(fun r hr=>by cases hr),Nat.zero_le _⟩
 ·simp at hcs
  obtain⟨rfl,rfl,rfl⟩:=hcs
  have hlm:len≤m:=by rw [hmm]; split <;> omega
  have each:∀ i,i < len→V0 i=.string (txtOf (V0 i))∧V1 i=.string (txtOf (V1 i))∧(txtOf (V0 i)).size≤maxLen∧(txtOf (V1 i)).size≤maxLen:=by
   intro i hi
   obtain⟨_,_,g0,g1⟩:=hx i (by omega)
   obtain⟨x0,e0,_,f0⟩:=DataW.trod_string Tryz.underlying9 g0
   obtain⟨x1,e1,_,f1⟩:=DataW.trod_string Tryz.underlying9 g1
   simp at e0 e1
   rw[e0,e1]
   exact⟨rfl,rfl,f0,f1⟩
  have hg:∀ j,j < len→((List.range len).map fun i=>(txtOf (V0 i),txtOf (V1 i))).getD j (ByteArray.empty,ByteArray.empty)=(txtOf (V0 j),txtOf (V1 j)):=by
   intro j hj
   rw[List.getD_eq_getElem?_getD,List.getElem?_map,List.getElem?_range hj]
   rfl
  refine⟨(List.range len).map fun i=>(txtOf (V0 i),txtOf (V1 i)),by simp,?_,fun r hr=>?_,by omega⟩
  ·rcases Nat.eq_zero_or_pos len with h0 | h0
   ·exact .inl h0
   ·obtain⟨b,off,spot⟩:=ad
    have h1:=(hx 0 (by omega)).1
    have hspot:spot=none:=by simpa [Addr.add] using World.cell?_spot h1
    subst hspot
    have hadd:∀ j,(⟨b,off,none⟩:Addr).add j=⟨b,off+j,none⟩:=fun j=>Addr.add_lit _ _ _
    refine .inr ⟨b,off,rfl,?_,fun j hj=>?_⟩
    ·rw[hadd] at h1
     exact World.block_lt_of_cell? W _ h1
    ·obtain⟨k0,k1,_,_⟩:=hx j (by omega)
     obtain⟨e0,e1,_,_⟩:=each j hj
     rw[hadd] at k0 k1
     rw[← Nat.add_assoc] at k1
     show W.cell? _=some (.string (((List.range len).map fun i=>(txtOf (V0 i),txtOf (V1 i))).getD j (ByteArray.empty,ByteArray.empty)).1)∧W.cell? _=some (.string (((List.range len).map fun i=>(txtOf (V0 i),txtOf (V1 i))).getD j (ByteArray.empty,ByteArray.empty)).2)
     rw[hg j hj,k0,k1]
     exact⟨congrArg some e0,congrArg some e1⟩
  ·obtain⟨i,hi,rfl⟩:=List.mem_map.mp hr
   have:=each i (List.mem_range.mp hi)
   exact⟨this.2.2.1,this.2.2.2⟩
end
section
open Go.RowKit Go.Joins
set_option maxHeartbeats 1600000 in
theorem toHead_any (x y d c:Int) (l:Bool) (w:World):
  Calls Tryz.prog 31 #[.agg #[.int .i64 x,.int .i64 y,.int .i64 d,.int .i64 c,.bool l]] w fun e w'=>e=.returned (.agg #[.int .i64 x,.int .i64 y,.int .i64 d,.int .i64 c,.bool l])∧Below w.heap.size w w':=by
 go_enter Tryz.func31,Tryz.ntmps31
 go_wp2_with fail
 refine bodyPost_ret (v:=.agg #[.int .i64 x,.int .i64 y,.int .i64 d,.int .i64 c,.bool l]) ?_ rfl ⟨rfl,?_⟩
 ·simp[results,Tryz.results31,go_sem, *]
 ·first | exact bal (bal (bstart _ _) _) _ | exact bal (bstart _ _) _
theorem eqHead_same (x y d c:Int) (l:Bool) (w:World):
  Calls Tryz.prog 41 #[.agg #[.int .i64 x,.int .i64 y,.int .i64 d,.int .i64 c,.bool l],.agg #[.int .i64 x,.int .i64 y,.int .i64 d,.int .i64 c,.bool l]] w fun e w'=>e=.returned (.bool true)∧Below w.heap.size w w':=by
 have n0:(x != x)=false:=by simp
 have n1:(y != y)=false:=by simp
 have n2:(d != d)=false:=by simp
 have n3:(c != c)=false:=by simp
 have n4:(l != l)=false:=by simp
 go_enter Tryz.func41,Tryz.ntmps41
 go_wp2_with fail
 go_ret
 exact⟨rfl,bal (bstart _ _) _⟩
end
section
open Go.ChangeShapes Go.WideShapes Go.ChangeAt Go.RowKit Go.Joins Go.Deep Go.WideElems
theorem slice_of_trod {H:Type} {enc:TypeId×Value→H} {W:World} {fuel:Nat} {t e:TypeId} {v:Value} {x:DataW H×List MemPlace} (ht:Tryz.prog.underlying t=some (.slice e)) (h:DataW.trod enc Tryz.prog W 0 (fun _=>true) true fuel t [v]=some x):∃ a l c,v=.slice a l c:=by
 rcases open_slice ht h with ⟨hcs,_⟩ | ⟨ad,l,c,m,n,D,Pl,hcs,_⟩
 ·simp at hcs
  exact⟨_,_,_,hcs⟩
 ·simp at hcs
  exact⟨_,_,_,hcs⟩
theorem row_of_trod {H:Type} {enc:TypeId×Value→H} {W:World} {fuel:Nat} {a:Option Addr} {l c:Nat} {x:DataW H×List MemPlace} (h:DataW.trod enc Tryz.prog W 0 (fun _=>true) true fuel 25 [.slice a l c]=some x):∃ zs,IsRow .i64 W a l c zs:=by
 rcases open_ints Tryz.underlying25 Tryz.underlying3 (by kernel_rfl) h with ⟨hcs,_⟩ | ⟨x,l,c,zs,hcs,_,hl,hm,hz,_,hcell,hwz⟩
 ·simp at hcs
  obtain⟨rfl,rfl,rfl⟩:=hcs
  exact⟨[],.inl ⟨rfl,rfl,rfl,rfl⟩⟩
 ·simp at hcs
  obtain⟨rfl,rfl,rfl⟩:=hcs
  exact⟨zs,.inr ⟨_,rfl,hl,hm,by simpa using hz,hcell,hwz⟩⟩
end
section
open Go.ChangeShapes Go.WideShapes Go.ChangeAt Go.RowKit Go.Joins Go.Deep Go.WideElems HeadMath ChunkMath
theorem array13 {α:Type} {cs:Array α} (h:cs.size=13):∃ c0 c1 c2 c3 c4 c5 c6 c7 c8 c9 c10 c11 c12,cs=#[c0,c1,c2,c3,c4,c5,c6,c7,c8,c9,c10,c11,c12]:=by
 obtain⟨l⟩:=cs
 match l,h with
 | [c0,c1,c2,c3,c4,c5,c6,c7,c8,c9,c10,c11,c12],_=>exact⟨c0,c1,c2,c3,c4,c5,c6,c7,c8,c9,c10,c11,c12,rfl⟩
set_option maxRecDepth 100000 in
set_option maxHeartbeats 1600000 in
theorem open_png {H:Type} {enc:TypeId×Value→H} {W:World} {r:Reach} {b0:Nat} {v:Value} {d:DataW H} {p:List MemPlace} (hv:Value.okWide Tryz.prog W r b0 30 v) (h:DataW.Trod enc Tryz.prog W 0 (fun _=>true) true 30 v d p):
  ∃ (P:Pic) (Q:PicA),v=pngV P Q∧PngIn W P Q∧P.tn≤maxLen∧P.cn≤maxLen∧P.sn≤maxLen∧P.kn≤maxLen∧(∀ i,i < P.kn→(P.K i).1.size≤maxLen∧(P.K i).2.size≤maxLen):=by
 have cI:Tryz.prog.cellsOf 3=1:=by kernel_rfl
 have cB:Tryz.prog.cellsOf 4=1:=by kernel_rfl
 have cH:Tryz.prog.cellsOf 23=5:=by kernel_rfl
 have cR:Tryz.prog.cellsOf 27=5:=by kernel_rfl
 have cT:Tryz.prog.cellsOf 24=1:=by kernel_rfl
 have cC:Tryz.prog.cellsOf 25=1:=by kernel_rfl
 have cK:Tryz.prog.cellsOf 28=1:=by kernel_rfl
 obtain⟨cs,rfl,hsz⟩:=okWide_struct Tryz.underlying30 hv
 obtain⟨u0,u1,u2,u3,u4,u5,u6,u7,u8,u9,u10,u11,u12,rfl⟩:=array13 (hsz.trans (by kernel_rfl))
 obtain⟨fuel,hf⟩:=h
 obtain⟨xs,n,_,_,_,hlen,hg⟩:=DataW.trod_struct Tryz.underlying30 hf
 match xs,hlen with
 | [y0,y1,y2,y3,y4],_=>
  have g0:=hg 0 _ rfl
  have g1:=hg 1 _ rfl
  have g2:=hg 2 _ rfl
  have g3:=hg 3 _ rfl
  have g4:=hg 4 _ rfl
  simp[Value.cells,cH,cR,cT,cC,cK] at g0 g1 g2 g3 g4
  clear hg hf hv
  obtain⟨zs,n0,_,_,_,hl0,hh⟩:=DataW.trod_struct Tryz.underlying23 g0
  obtain⟨rs,n3,_,_,_,hl3,hr⟩:=DataW.trod_struct Tryz.underlying27 g3
  match zs,hl0,rs,hl3 with
  | [z0,z1,z2,z3,z4],_,[r0,r1,r2,r3,r4],_=>
   have k0:=hh 0 _ rfl
   have k1:=hh 1 _ rfl
   have k2:=hh 2 _ rfl
   have k3:=hh 3 _ rfl
   have k4:=hh 4 _ rfl
   have m0:=hr 0 _ rfl
   have m1:=hr 1 _ rfl
   have m2:=hr 2 _ rfl
   have m3:=hr 3 _ rfl
   have m4:=hr 4 _ rfl
   simp[cI,cB,cC] at k0 k1 k2 k3 k4 m0 m1 m2 m3 m4
   clear hh hr g0 g3
   obtain⟨x0,e0,_,_⟩:=DataW.trod_int Tryz.underlying3 k0
   obtain⟨x1,e1,_,_⟩:=DataW.trod_int Tryz.underlying3 k1
   obtain⟨x2,e2,_,_⟩:=DataW.trod_int Tryz.underlying3 k2
   obtain⟨x3,e3,_,_⟩:=DataW.trod_int Tryz.underlying3 k3
   obtain⟨lc,e4,_⟩:=DataW.trod_bool Tryz.underlying4 k4
   obtain⟨a0,f0,_,_⟩:=DataW.trod_int Tryz.underlying3 m0
   obtain⟨a1,f1,_,_⟩:=DataW.trod_int Tryz.underlying3 m1
   obtain⟨a2,f2,_,_⟩:=DataW.trod_int Tryz.underlying3 m2
   obtain⟨a3,f3,_,_⟩:=DataW.trod_int Tryz.underlying3 m3
   simp at e0 e1 e2 e3 e4 f0 f1 f2 f3
   obtain⟨ta,tn,tc,rfl⟩:=slice_of_trod Tryz.underlying24 g1
   obtain⟨ca,cn,cc,rfl⟩:=slice_of_trod Tryz.underlying25 g2
   obtain⟨sa,sn,sc,rfl⟩:=slice_of_trod Tryz.underlying25 m4
   obtain⟨ka,kn,kc,rfl⟩:=slice_of_trod Tryz.underlying28 g4
   subst e0 e1 e2 e3 e4 f0 f1 f2 f3
   obtain⟨L,e,hT,_,hTm⟩:=open_colors g1
   obtain⟨M,e',hK,hKz,hKm⟩:=open_chunks g4
   obtain⟨zc,hC⟩:=row_of_trod g2
   obtain⟨zs,hS⟩:=row_of_trod m4
   obtain⟨hC1,hC2,_⟩:=came_of_row hC
   obtain⟨hS1,hS2,_⟩:=came_of_row hS
   refine⟨⟨x0,x1,x2,x3,lc,tn,_,cn,_,a0,a1,a2,a3,sn,_,kn,_⟩,⟨ta,tc,ca,cc,sa,sc,ka,kc⟩,rfl,⟨hT,hC1,hS1,hK,?_⟩,hTm,hC2,hS2,hKm,fun i hi=>?_⟩
   ·rcases hS with ⟨_,rfl,rfl,_⟩ | ⟨_,_,h1,h2,_⟩
    ·exact⟨Nat.le_refl _,Nat.zero_le _⟩
    ·exact⟨h1,h2⟩
   ·have hi':i < kn:=hi
    refine hKz _ ?_
    show M.getD i _∈M
    rw[List.getD_eq_getElem?_getD,List.getElem?_eq_getElem (by omega)]
    exact List.getElem_mem _
def SzPngPost (w:World) (p:Pic) (e:Ending) (w':World):Prop:=∃ z:Int,e=.returned (.int .i64 z)∧(z < 0∨(0≤z∧PngSz p))∧Below w.heap.size w w'
set_option maxRecDepth 100000 in
set_option maxHeartbeats 1600000 in
theorem szPng_any (p:Pic) (q:PicA) (w:World) (hP:PngIn w p q) (ht:p.tn≤maxLen) (hc:p.cn≤maxLen) (hs:p.sn≤maxLen) (hk:p.kn≤maxLen) (hm:∀ i,i < p.kn→(p.K i).1.size≤maxLen∧(p.K i).2.size≤maxLen):
  Calls Tryz.prog 8 #[pngV p q,.int .i64 1048576] w (SzPngPost w p):=by
 obtain⟨hw,hh,hd,hc',lace,tn,T,cn,C,rw',rh,rc,rd,sn,S,kn,K⟩:=p
 obtain⟨ta,tc,ca,cc,sa,sc,ka,kc⟩:=q
 have HK:=hid_of hP.k
 have HM:=hid_of hm
 have ht':tn≤maxLen:=ht
 have hc2:cn≤maxLen:=hc
 have hs':sn≤maxLen:=hs
 have hk':kn≤maxLen:=hk
 have e0:=fun W=>szRgbS_any ta tn tc 1048576 W (by unfold maxLen at ht'; omega) (by omega) (by omega)
 have HB0:Hid (Below w.heap.size w (w.alloc (.cells #[.int .i64 hw,.int .i64 hh,.int .i64 hd,.int .i64 hc',.bool lace,.slice ta tn tc,.slice ca cn cc,.int .i64 rw',.int .i64 rh,.int .i64 rc,.int .i64 rd,.slice sa sn sc,.slice ka kn kc] 30))):=bstart _ _
 clear hP hm ht hc hs hk
 show Calls Tryz.prog 8 #[.agg #[.int .i64 hw,.int .i64 hh,.int .i64 hd,.int .i64 hc',.bool lace,.slice ta tn tc,.slice ca cn cc,.int .i64 rw',.int .i64 rh,.int .i64 rc,.int .i64 rd,.slice sa sn sc,.slice ka kn kc],.int .i64 1048576] w _
 go_enter Tryz.func8,Tryz.ntmps8
 go_wp2_with fail
 refine (e0 _).mono ?_
 rintro e w1 ⟨rfl,rfl⟩
 clear e0
 by_cases h1:(tn:Int)≤1048576
 case neg=>
  rw[if_neg h1]
  clear h1
  go_wp2_with fail
  go_ret
  exact⟨-1,rfl,.inl (by omega),HB0.out⟩
 rw[if_pos h1]
 have d1:decide (1048576 - (tn:Int) < 0)=false:=decide_eq_false (by omega)
 have e1:=fun W=>szIntS_any ca cn cc (1048576 - (tn:Int)) W (by omega) (by omega) hc2
 go_wp2_with fail
 refine (e1 _).mono ?_
 rintro e w1 ⟨rfl,rfl⟩
 clear e1
 by_cases h2:(cn:Int)≤1048576 - (tn:Int)
 case neg=>
  rw[if_neg h2]
  clear h2
  go_wp2_with fail
  go_ret
  exact⟨-1,rfl,.inl (by omega),HB0.out⟩
 rw[if_pos h2]
 have d2:decide (1048576 - (tn:Int) - (cn:Int) < 0)=false:=decide_eq_false (by omega)
 have e2:=fun W=>szRaster_any rw' rh rc rd sa sn sc (1048576 - (tn:Int) - (cn:Int)) W (by omega) (by omega) hs'
 go_wp2_with fail
 refine (e2 _).mono ?_
 rintro e w2 ⟨rfl,hB⟩
 have HB2:=hid_of (bnext HB0.out hB)
 have q0:w2.heap[w.heap.size]?=some (.cells #[.int .i64 hw,.int .i64 hh,.int .i64 hd,.int .i64 hc',.bool lace,.slice ta tn tc,.slice ca cn cc,.int .i64 rw',.int .i64 rh,.int .i64 rc,.int .i64 rd,.slice sa sn sc,.slice ka kn kc] 30 (0,0)):=(hB.block _ (by simp)).trans (heap_alloc_new w _)
 have q12:w2.cell? ⟨w.heap.size,12,none⟩=some (.slice ka kn kc):=(cell_of_block q0 12).trans rfl
 have ql:=block_lt q0
 clear e2 hB q0
 by_cases h3:(sn:Int)≤1048576 - (tn:Int) - (cn:Int)
 case neg=>
  rw[if_neg h3]
  clear h3
  go_wp2_with fail
  go_ret
  exact⟨-1,rfl,.inl (by omega),HB2.out⟩
 rw[if_pos h3]
 have d3:decide (1048576 - (tn:Int) - (cn:Int) - (sn:Int) < 0)=false:=decide_eq_false (by omega)
 go_wp2_with fail
 refine (szChunkS_at (1048576 - (tn:Int) - (cn:Int) - (sn:Int)) (by omega) (by omega) ka kn kc K _ (HK.out.called HB2.out) (by unfold maxLen at hk'; omega) (fun i hi=>by have:=HM.out i hi; unfold maxLen at this; exact⟨by omega,by omega⟩)).mono ?_
 rintro e w3 ⟨z,rfl,hz,hB⟩
 have HB3:=hid_of (bnext HB2.out hB)
 rcases hz with rfl | ⟨z0,z1,z2,z3⟩
 ·clear hB
  go_wp2_with fail
  go_ret
  exact⟨-1,rfl,.inl (by omega),HB3.out⟩
 ·have dz:decide (z < 0)=false:=decide_eq_false (by omega)
  have HZ:=hid_of z3
  clear hB z3
  go_wp2_with fail
  go_ret
  refine⟨z,rfl,.inr ⟨z0,⟨?_,?_,?_,z2,HZ.out⟩⟩,HB3.out⟩
  ·show tn≤1048576
   omega
  ·show cn≤1048576
   omega
  ·show sn≤1048576
   omega
end
section
open Go.RowKit Go.Joins HeadMath ChunkMath
set_option maxRecDepth 100000 in
set_option maxHeartbeats 3200000 in
theorem eqPng_same (p:Pic) (q r:PicA) (w:World) (hP:PngIn w p q) (hQ:PngIn w p r) (hZ:PngSz p):
  Calls Tryz.prog 12 #[pngV p q,pngV p r] w fun e w'=>e=.returned (.bool true)∧Below w.heap.size w w':=by
 obtain⟨hw,hh,hd,hc',lace,tn,T,cn,C,rw',rh,rc,rd,sn,S,kn,K⟩:=p
 obtain⟨ta,tc,ca,cc,sa,sc,ka,kc⟩:=q
 obtain⟨ta2,tc2,ca2,cc2,sa2,sc2,ka2,kc2⟩:=r
 have HT:Hid (RgbCame w ta tn T∧RgbCame w ta2 tn T):=⟨hP.t,hQ.t⟩
 have HC:Hid (Came w ca cn C∧Came w ca2 cn C):=⟨hP.c,hQ.c⟩
 have HS:Hid (Came w sa sn S∧Came w sa2 sn S):=⟨hP.s,hQ.s⟩
 have HK:Hid (KCame w ka kn K∧KCame w ka2 kn K):=⟨hP.k,hQ.k⟩
 have ht':tn≤1048576:=hZ.t
 have hc2:cn≤1048576:=hZ.c
 have hs':sn≤1048576:=hZ.s
 have hk':kn≤1048576:=hZ.k
 clear hP hQ hZ
 have H0:Hid (((w.alloc (.cells #[.int .i64 hw,.int .i64 hh,.int .i64 hd,.int .i64 hc',.bool lace,.slice ta tn tc,.slice ca cn cc,.int .i64 rw',.int .i64 rh,.int .i64 rc,.int .i64 rd,.slice sa sn sc,.slice ka kn kc] 37)).alloc (.cells #[.int .i64 hw,.int .i64 hh,.int .i64 hd,.int .i64 hc',.bool lace,.slice ta2 tn tc2,.slice ca2 cn cc2,.int .i64 rw',.int .i64 rh,.int .i64 rc,.int .i64 rd,.slice sa2 sn sc2,.slice ka2 kn kc2] 37)).heap[w.heap.size]?=some (.cells #[.int .i64 hw,.int .i64 hh,.int .i64 hd,.int .i64 hc',.bool lace,.slice ta tn tc,.slice ca cn cc,.int .i64 rw',.int .i64 rh,.int .i64 rc,.int .i64 rd,.slice sa sn sc,.slice ka kn kc] 37 (0,0))∧((w.alloc (.cells #[.int .i64 hw,.int .i64 hh,.int .i64 hd,.int .i64 hc',.bool lace,.slice ta tn tc,.slice ca cn cc,.int .i64 rw',.int .i64 rh,.int .i64 rc,.int .i64 rd,.slice sa sn sc,.slice ka kn kc] 37)).alloc (.cells #[.int .i64 hw,.int .i64 hh,.int .i64 hd,.int .i64 hc',.bool lace,.slice ta2 tn tc2,.slice ca2 cn cc2,.int .i64 rw',.int .i64 rh,.int .i64 rc,.int .i64 rd,.slice sa2 sn sc2,.slice ka2 kn kc2] 37)).heap[w.heap.size+1]?=some (.cells #[.int .i64 hw,.int .i64 hh,.int .i64 hd,.int .i64 hc',.bool lace,.slice ta2 tn tc2,.slice ca2 cn cc2,.int .i64 rw',.int .i64 rh,.int .i64 rc,.int .i64 rd,.slice sa2 sn sc2,.slice ka2 kn kc2] 37 (0,0))∧Below w.heap.size w ((w.alloc (.cells #[.int .i64 hw,.int .i64 hh,.int .i64 hd,.int .i64 hc',.bool lace,.slice ta tn tc,.slice ca cn cc,.int .i64 rw',.int .i64 rh,.int .i64 rc,.int .i64 rd,.slice sa sn sc,.slice ka kn kc] 37)).alloc (.cells #[.int .i64 hw,.int .i64 hh,.int .i64 hd,.int .i64 hc',.bool lace,.slice ta2 tn tc2,.slice ca2 cn cc2,.int .i64 rw',.int .i64 rh,.int .i64 rc,.int .i64 rd,.slice sa2 sn sc2,.slice ka2 kn kc2] 37))):=by
  refine⟨?_,?_,bal (bstart _ _) _⟩
  ·show ((w.heap.push _).push _)[w.heap.size]?=_
   rw[Array.getElem?_push,if_neg (by simp),Array.getElem?_push,if_pos (by simp)]
  ·show ((w.heap.push _).push _)[w.heap.size+1]?=_
   rw[Array.getElem?_push,if_pos (by simp)]
 show Calls Tryz.prog 12 #[.agg #[.int .i64 hw,.int .i64 hh,.int .i64 hd,.int .i64 hc',.bool lace,.slice ta tn tc,.slice ca cn cc,.int .i64 rw',.int .i64 rh,.int .i64 rc,.int .i64 rd,.slice sa sn sc,.slice ka kn kc],.agg #[.int .i64 hw,.int .i64 hh,.int .i64 hd,.int .i64 hc',.bool lace,.slice ta2 tn tc2,.slice ca2 cn cc2,.int .i64 rw',.int .i64 rh,.int .i64 rc,.int .i64 rd,.slice sa2 sn sc2,.slice ka2 kn kc2]] w _
 go_enter Tryz.func12,Tryz.ntmps12
 go_wp2_with fail
 refine (eqHead_same hw hh hd hc' lace _).mono ?_
 rintro e w1 ⟨rfl,hB⟩
 have H1:Hid (w1.heap[w.heap.size]?=some (.cells #[.int .i64 hw,.int .i64 hh,.int .i64 hd,.int .i64 hc',.bool lace,.slice ta tn tc,.slice ca cn cc,.int .i64 rw',.int .i64 rh,.int .i64 rc,.int .i64 rd,.slice sa sn sc,.slice ka kn kc] 37 (0,0))∧w1.heap[w.heap.size+1]?=some (.cells #[.int .i64 hw,.int .i64 hh,.int .i64 hd,.int .i64 hc',.bool lace,.slice ta2 tn tc2,.slice ca2 cn cc2,.int .i64 rw',.int .i64 rh,.int .i64 rc,.int .i64 rd,.slice sa2 sn sc2,.slice ka2 kn kc2] 37 (0,0))∧Below w.heap.size w w1):=⟨(hB.block _ (block_lt H0.out.1)).trans H0.out.1,(hB.block _ (block_lt H0.out.2.1)).trans H0.out.2.1,bnext H0.out.2.2 hB⟩
 clear hB H0
 have l0:=block_lt H1.out.1
 have l1:=block_lt H1.out.2.1
 have a5:=(cell_of_block H1.out.1 5).trans rfl
 have b5:=(cell_of_block H1.out.2.1 5).trans rfl
 go_wp2_with fail
 clear l0 l1 a5 b5
 refine (eqRgbS_same ta ta2 tn tc tc2 T _ (HT.out.1.called H1.out.2.2) (HT.out.2.called H1.out.2.2) ht').mono ?_
 rintro e w2 ⟨rfl,hB⟩
 have H2:Hid (w2.heap[w.heap.size]?=some (.cells #[.int .i64 hw,.int .i64 hh,.int .i64 hd,.int .i64 hc',.bool lace,.slice ta tn tc,.slice ca cn cc,.int .i64 rw',.int .i64 rh,.int .i64 rc,.int .i64 rd,.slice sa sn sc,.slice ka kn kc] 37 (0,0))∧w2.heap[w.heap.size+1]?=some (.cells #[.int .i64 hw,.int .i64 hh,.int .i64 hd,.int .i64 hc',.bool lace,.slice ta2 tn tc2,.slice ca2 cn cc2,.int .i64 rw',.int .i64 rh,.int .i64 rc,.int .i64 rd,.slice sa2 sn sc2,.slice ka2 kn kc2] 37 (0,0))∧Below w.heap.size w w2):=⟨(hB.block _ (block_lt H1.out.1)).trans H1.out.1,(hB.block _ (block_lt H1.out.2.1)).trans H1.out.2.1,bnext H1.out.2.2 hB⟩
 clear hB H1
 have l0:=block_lt H2.out.1
 have l1:=block_lt H2.out.2.1
 have a6:=(cell_of_block H2.out.1 6).trans rfl
 have b6:=(cell_of_block H2.out.2.1 6).trans rfl
 go_wp2_with fail
 clear l0 l1 a6 b6
 refine (eqIntS_same ca ca2 cn cc cc2 C _ (HC.out.1.called H2.out.2.2) (HC.out.2.called H2.out.2.2) hc2).mono ?_
 rintro e w3 ⟨rfl,hB⟩
 have H3:Hid (w3.heap[w.heap.size]?=some (.cells #[.int .i64 hw,.int .i64 hh,.int .i64 hd,.int .i64 hc',.bool lace,.slice ta tn tc,.slice ca cn cc,.int .i64 rw',.int .i64 rh,.int .i64 rc,.int .i64 rd,.slice sa sn sc,.slice ka kn kc] 37 (0,0))∧w3.heap[w.heap.size+1]?=some (.cells #[.int .i64 hw,.int .i64 hh,.int .i64 hd,.int .i64 hc',.bool lace,.slice ta2 tn tc2,.slice ca2 cn cc2,.int .i64 rw',.int .i64 rh,.int .i64 rc,.int .i64 rd,.slice sa2 sn sc2,.slice ka2 kn kc2] 37 (0,0))∧Below w.heap.size w w3):=⟨(hB.block _ (block_lt H2.out.1)).trans H2.out.1,(hB.block _ (block_lt H2.out.2.1)).trans H2.out.2.1,bnext H2.out.2.2 hB⟩
 clear hB H2
 have l0:=block_lt H3.out.1
 have l1:=block_lt H3.out.2.1
 have a7:=(cell_of_block H3.out.1 7).trans rfl
 have b7:=(cell_of_block H3.out.2.1 7).trans rfl
 have a8:=(cell_of_block H3.out.1 8).trans rfl
 have b8:=(cell_of_block H3.out.2.1 8).trans rfl
 have a9:=(cell_of_block H3.out.1 9).trans rfl
 have b9:=(cell_of_block H3.out.2.1 9).trans rfl
 have a10:=(cell_of_block H3.out.1 10).trans rfl
 have b10:=(cell_of_block H3.out.2.1 10).trans rfl
 have a11:=(cell_of_block H3.out.1 11).trans rfl
 have b11:=(cell_of_block H3.out.2.1 11).trans rfl
 go_wp2_with fail
 clear l0 l1 a7 b7 a8 b8 a9 b9 a10 b10 a11 b11
 refine (eqRaster_same rw' rh rc rd sa sa2 sn sc sc2 S _ (HS.out.1.called H3.out.2.2) (HS.out.2.called H3.out.2.2) hs').mono ?_
 rintro e w4 ⟨rfl,hB⟩
 have H4:Hid (w4.heap[w.heap.size]?=some (.cells #[.int .i64 hw,.int .i64 hh,.int .i64 hd,.int .i64 hc',.bool lace,.slice ta tn tc,.slice ca cn cc,.int .i64 rw',.int .i64 rh,.int .i64 rc,.int .i64 rd,.slice sa sn sc,.slice ka kn kc] 37 (0,0))∧w4.heap[w.heap.size+1]?=some (.cells #[.int .i64 hw,.int .i64 hh,.int .i64 hd,.int .i64 hc',.bool lace,.slice ta2 tn tc2,.slice ca2 cn cc2,.int .i64 rw',.int .i64 rh,.int .i64 rc,.int .i64 rd,.slice sa2 sn sc2,.slice ka2 kn kc2] 37 (0,0))∧Below w.heap.size w w4):=⟨(hB.block _ (block_lt H3.out.1)).trans H3.out.1,(hB.block _ (block_lt H3.out.2.1)).trans H3.out.2.1,bnext H3.out.2.2 hB⟩
 clear hB H3
 have l0:=block_lt H4.out.1
 have l1:=block_lt H4.out.2.1
 have a12:=(cell_of_block H4.out.1 12).trans rfl
 have b12:=(cell_of_block H4.out.2.1 12).trans rfl
 go_wp2_with fail
 clear l0 l1 a12 b12
 refine (eqChunkS_same ka ka2 kn kc kc2 K _ (HK.out.1.called H4.out.2.2) (HK.out.2.called H4.out.2.2) hk').mono ?_
 rintro e w5 ⟨rfl,hB⟩
 have H5:Hid (w5.heap[w.heap.size]?=some (.cells #[.int .i64 hw,.int .i64 hh,.int .i64 hd,.int .i64 hc',.bool lace,.slice ta tn tc,.slice ca cn cc,.int .i64 rw',.int .i64 rh,.int .i64 rc,.int .i64 rd,.slice sa sn sc,.slice ka kn kc] 37 (0,0))∧w5.heap[w.heap.size+1]?=some (.cells #[.int .i64 hw,.int .i64 hh,.int .i64 hd,.int .i64 hc',.bool lace,.slice ta2 tn tc2,.slice ca2 cn cc2,.int .i64 rw',.int .i64 rh,.int .i64 rc,.int .i64 rd,.slice sa2 sn sc2,.slice ka2 kn kc2] 37 (0,0))∧Below w.heap.size w w5):=⟨(hB.block _ (block_lt H4.out.1)).trans H4.out.1,(hB.block _ (block_lt H4.out.2.1)).trans H4.out.2.1,bnext H4.out.2.2 hB⟩
 clear hB H4
 go_wp2_with fail
 go_ret
 exact⟨rfl,H5.out.2.2⟩
end
section
open Go.RowKit Go.Joins
set_option maxHeartbeats 800000 in
theorem markIntS_own (base g n cap:Nat) (f:Nat→Int) (k:Int) (w:World) (hO:IOwn w base g n cap f) (hn:n≤1048576) (hk0:0≤k) (hk1:k≤1073741824):
  Calls Tryz.prog 47 #[.slice (some ⟨g,0,none⟩) n cap,.int .i64 k] w fun e w'=>e=.returned (.int .i64 (k+n))∧IOwn w' base g n cap (fun j=>k+j)∧w.grownBy w' (some g):=by
 have HO:Hid (IOwn w base g n cap f):=hO
 clear hO
 go_enter Tryz.func47,Tryz.ntmps47
 go_wp2_with fail
 go_loopw [1,5] (fun x i w'=>∃ (j:Nat) (h:Nat→Int),j≤n∧i=.int .i64 j∧x=.int .i64 (k+j)∧Hid (∀ i,i < j→h i=k+i)∧Hid (IOwn w' base g n cap h)∧Hid (w.grownBy w' (some g))) (fun _ i _=>n - (intOf i).toNat)
 case atStart=>exact⟨0,_,Nat.zero_le _,rfl,by simp,fun i hi=>absurd hi (Nat.not_lt_zero i),HO,⟨rfl,rfl,rfl,Nat.le_refl _,fun _ _ _=>rfl⟩⟩
 case round=>
  obtain⟨j,h,hj,rfl,rfl,hh,hOj,hBj⟩:=hrel
  by_cases hlt:j < n
  ·have c1:=hOj.out.cell j hlt
   have f1:=hOj.out.free j hlt
   have hl:=hOj.out.lt
   have HO1:Hid (IOwn (wr.setCell ⟨g,j,none⟩ (.int .i64 (k+j))) base g n cap (upd h j (k+j))):=hOj.out.set j hlt _
   have HB1:Hid (w.grownBy (wr.setCell ⟨g,j,none⟩ (.int .i64 (k+j))) (some g)):=⟨hBj.out.os,hBj.out.tape,hBj.out.output,by simpa using hBj.out.size,fun b hb hne=>(Below.heap_setCell wr ⟨g,j,none⟩ _ b (by simpa using hne)).trans (hBj.out.block b hb hne)⟩
   have HH:Hid (∀ i,i < j+1→upd h j (k+j) i=k+i):=by
    intro i hi
    unfold upd
    by_cases e:i=j
    ·rw[if_pos e,e]
    ·rw[if_neg e]; exact hh.out i (by omega)
   go_wp2_with fail
   go_roundw
   case rel=>exact⟨j+1,_,by omega,by go_num,by go_num,HH,HO1,HB1⟩
   case measure=>simp [intOf]; omega
  ·obtain rfl:j=n:=by omega
   go_wp2_with fail
   go_ret
   exact⟨rfl,hOj.out.congr hh.out,hBj.out⟩
theorem markIntS_none (a:Option Addr) (cap:Nat) (k:Int) (w:World):
  Calls Tryz.prog 47 #[.slice a 0 cap,.int .i64 k] w fun e w'=>e=.returned (.int .i64 k)∧w'=w:=by
 go_enter Tryz.func47,Tryz.ntmps47
 go_wp2_with fail
 go_loop [1,5] (fun x i=>x=.int .i64 k∧i=.int .i64 0) (fun _ _=>0)
 case atStart=>exact⟨rfl,rfl⟩
 case round=>
  obtain⟨rfl,rfl⟩:=hrel
  go_wp2_with fail
  go_ret
  exact⟨rfl,rfl⟩
set_option maxHeartbeats 800000 in
theorem heldIntS_same (a:Option Addr) (n cap:Nat) (k:Int) (w:World) (hC:Came w a n (fun j=>k+j)) (hn:n≤1048576) (hk0:0≤k) (hk1:k≤1073741824):
  Calls Tryz.prog 51 #[.slice a n cap,.int .i64 k] w fun e w'=>e=.returned (.int .i64 (k+n))∧Below w.heap.size w w':=by
 have HC:Hid (Came w a n (fun j=>k+j)):=hC
 clear hC
 go_enter Tryz.func51,Tryz.ntmps51
 go_wp2_with fail
 go_loopw [1,5] (fun x i w'=>∃ (j:Nat),j≤n∧i=.int .i64 j∧x=.int .i64 (k+j)∧Hid (Below w.heap.size w w')) (fun _ i _=>n - (intOf i).toNat)
 case atStart=>exact⟨0,Nat.zero_le _,rfl,by simp,Below.refl _ _⟩
 case round=>
  obtain⟨j,hj,rfl,rfl,hBj⟩:=hrel
  by_cases hlt:j < n
  ·rcases HC.out with h0 | ⟨g,off,rfl,hg,hc⟩
   ·omega
   ·have k0:wr.cell? ⟨g,off+j,none⟩=some (.int .i64 (k+j)):=(hBj.out.cell (p:=⟨g,off+j,none⟩) hg).trans (hc j hlt)
    have l0:g < wr.heap.size:=Nat.lt_of_lt_of_le hg hBj.out.size
    clear hc
    go_wp2_with fail
    go_roundw
    case rel=>exact⟨j+1,by omega,by go_num,by go_num,hBj.out⟩
    case measure=>simp [intOf]; omega
  ·obtain rfl:j=n:=by omega
   go_wp2_with fail
   go_ret
   exact⟨rfl,hBj.out⟩
end
section
open Go.RowKit Go.Joins
structure Ras where
 x0:Int
 x1:Int
 x2:Int
 x3:Int
 n:Nat
 f:Nat→Int
def Ras.same (r s:Ras):Prop:=r.x0=s.x0∧r.x1=s.x1∧r.x2=s.x2∧r.x3=s.x3∧r.n=s.n∧∀ i,i < r.n→r.f i=s.f i
theorem Ras.same.refl (r:Ras):r.same r:=⟨rfl,rfl,rfl,rfl,rfl,fun _ _=>rfl⟩
theorem Ras.same.symm {r s:Ras} (h:r.same s):s.same r:=⟨h.1.symm,h.2.1.symm,h.2.2.1.symm,h.2.2.2.1.symm,h.2.2.2.2.1.symm,fun i hi=>(h.2.2.2.2.2 i (by rw [h.2.2.2.2.1]; exact hi)).symm⟩
theorem Ras.same.trans {r s t:Ras} (h:r.same s) (k:s.same t):r.same t:=⟨h.1.trans k.1,h.2.1.trans k.2.1,h.2.2.1.trans k.2.2.1,h.2.2.2.1.trans k.2.2.2.1,h.2.2.2.2.1.trans k.2.2.2.2.1,fun i hi=>(h.2.2.2.2.2 i hi).trans (k.2.2.2.2.2 i (by rw [← h.2.2.2.2.1]; exact hi))⟩
theorem Came.congr14 {w:World} {a:Option Addr} {n:Nat} {f f':Nat→Int} (h:Came w a n f) (e:∀ i,i < n→f i=f' i):Came w a n f':=by
 rcases h with h | ⟨g,off,ha,hg,hc⟩
 ·exact .inl h
 ·exact .inr ⟨g,off,ha,hg,fun j hj=>by rw [← e j hj]; exact hc j hj⟩
theorem Came.same {w:World} {a:Option Addr} {r s:Ras} (h:Came w a r.n r.f) (e:r.same s):Came w a s.n s.f:=by
 rw[← e.2.2.2.2.1]
 exact h.congr14 e.2.2.2.2.2
section
variable {w w':World} {base g m:Nat} {R S:Nat→Ras} {A:Nat→Option Addr} {G C:Nat→Nat}
end
end
section
open Go.RowKit Go.Joins
theorem grown_of_alloc {w w':World} {o:Obj} {row:Option Nat} (h:(w.alloc o).grownBy w' row):w.grownBy w' row:=
 ⟨h.os,h.tape,h.output,Nat.le_trans (by simp) h.size,fun k hk hne=>(h.block k (by simp; omega) hne).trans (Below.heap_alloc w o k hk)⟩
theorem markRaster_own (x0 x1 x2 x3:Int) (base g n cap:Nat) (f:Nat→Int) (k:Int) (w:World) (hO:IOwn w base g n cap f) (hn:n≤1048576) (h0:0≤k) (h1:k≤1073741824):
  Calls Tryz.prog 48 #[.agg #[.int .i64 x0,.int .i64 x1,.int .i64 x2,.int .i64 x3,.slice (some ⟨g,0,none⟩) n cap],.int .i64 k] w fun e w'=>e=.returned (.int .i64 (k+n))∧w.grownBy w' (some g):=by
 have HO:=hid_of hO
 clear hO
 go_enter Tryz.func48,Tryz.ntmps48
 go_wp2_with fail
 refine (markIntS_own base g n cap f k _ (HO.out.alloc _) hn h0 h1).mono ?_
 rintro e w2 ⟨rfl,_,hg⟩
 have HG:=hid_of (grown_of_alloc hg)
 clear hg
 go_wp2_with fail
 go_ret
 exact⟨rfl,HG.out⟩
theorem markRaster_mine (x0 x1 x2 x3:Int) (base g n cap:Nat) (f:Nat→Int) (k:Int) (w:World) (hO:IOwn w base g n cap f) (hn:n≤1048576) (h0:0≤k) (h1:k≤1073741824):
  Calls Tryz.prog 48 #[.agg #[.int .i64 x0,.int .i64 x1,.int .i64 x2,.int .i64 x3,.slice (some ⟨g,0,none⟩) n cap],.int .i64 k] w fun e w'=>e=.returned (.int .i64 (k+n))∧IOwn w' base g n cap (fun j=>k+j)∧w.grownBy w' (some g):=by
 have HO:=hid_of hO
 clear hO
 go_enter Tryz.func48,Tryz.ntmps48
 go_wp2_with fail
 refine (markIntS_own base g n cap f k _ (HO.out.alloc _) hn h0 h1).mono ?_
 rintro e w2 ⟨rfl,hO2,hg⟩
 have HG:=hid_of (And.intro hO2 (grown_of_alloc hg))
 clear hg hO2
 go_wp2_with fail
 go_ret
 exact⟨rfl,HG.out⟩
theorem markRaster_none (x0 x1 x2 x3:Int) (a:Option Addr) (cap:Nat) (k:Int) (w:World):
  Calls Tryz.prog 48 #[.agg #[.int .i64 x0,.int .i64 x1,.int .i64 x2,.int .i64 x3,.slice a 0 cap],.int .i64 k] w fun e w'=>e=.returned (.int .i64 k)∧Below w.heap.size w w':=by
 go_enter Tryz.func48,Tryz.ntmps48
 go_wp2_with fail
 refine (markIntS_none a cap k _).mono ?_
 rintro e w2 ⟨rfl,rfl⟩
 go_wp2_with fail
 go_ret
 exact⟨rfl,bstart _ _⟩
theorem heldRaster_same (x0 x1 x2 x3:Int) (a:Option Addr) (n cap:Nat) (k:Int) (w:World) (hC:Came w a n (fun j=>k+j)) (hn:n≤1048576) (h0:0≤k) (h1:k≤1073741824):
  Calls Tryz.prog 52 #[.agg #[.int .i64 x0,.int .i64 x1,.int .i64 x2,.int .i64 x3,.slice a n cap],.int .i64 k] w fun e w'=>e=.returned (.int .i64 (k+n))∧Below w.heap.size w w':=by
 have HC:=hid_of hC
 have dk:decide (k+(n:Int) < 0)=false:=decide_eq_false (by omega)
 clear hC
 go_enter Tryz.func52,Tryz.ntmps52
 go_wp2_with fail
 have HB:=hid_of (bstart w (.cells #[.int .i64 x0,.int .i64 x1,.int .i64 x2,.int .i64 x3,.slice a n cap] 34))
 generalize w.alloc (.cells #[.int .i64 x0,.int .i64 x1,.int .i64 x2,.int .i64 x3,.slice a n cap] 34)=W1 at HB ⊢
 refine (heldIntS_same a n cap k W1 (HC.out.called HB.out) hn h0 h1).mono ?_
 rintro e w2 ⟨rfl,hB2⟩
 have HB2:=hid_of (bnext HB.out hB2)
 clear hB2
 go_wp2_with fail
 go_ret
 exact⟨rfl,HB2.out⟩
end
section
open Go.RowKit Go.Joins OutMath ChunkMath
def digT (d:Nat):ByteArray:=⟨#[UInt8.ofNat (48+d)]⟩
def digs:Nat→Nat→ByteArray→ByteArray
 | 0,_,o=>o
 | f+1,k,o=>if k=0 then o else digs f (k / 10) (digT (k % 10) ++ o)
def digsOf (k:Nat) (o:ByteArray):ByteArray:=digs k k o
theorem digs_zero (f:Nat) (o:ByteArray):digs f 0 o=o:=by
 cases f with
 | zero=>rfl
 | succ f=>rw [digs,if_pos rfl]
theorem digs_fuel:∀ (f k:Nat) (o:ByteArray),k≤f→digs f k o=digs k k o
 | f,0,o,_=>by rw [digs_zero,digs_zero]
 | 0,k+1,_,h=>by omega
 | f+1,k+1,o,h=>by
  rw[digs,digs,if_neg (by omega),if_neg (by omega),digs_fuel f ((k+1) / 10) _ (by omega),digs_fuel k ((k+1) / 10) _ (by omega)]
theorem digsOf_zero (o:ByteArray):digsOf 0 o=o:=rfl
theorem digsOf_step (k:Nat) (o:ByteArray) (h:0 < k):digsOf k o=digsOf (k / 10) (digT (k % 10) ++ o):=by
 obtain⟨q,rfl⟩:∃ q,k=q+1:=⟨k - 1,by omega⟩
 unfold digsOf
 rw[digs,if_neg (by omega),digs_fuel q _ _ (by omega)]
def markT (k:Nat):ByteArray:=if k=0 then ⟨#[109,48]⟩ else ⟨#[109]⟩ ++ digsOf k ⟨#[]⟩
set_option maxRecDepth 100000 in
set_option maxHeartbeats 800000 in
theorem markText_any (k:Nat) (w:World) (h:k≤100000000):Calls Tryz.prog 81 #[.int .i64 (k:Int)] w fun e w'=>e=.returned (.string (markT k))∧Below w.heap.size w w':=by
 by_cases h0:k=0
 ·subst h0
  have d0:decide ((((0:Nat):Int))≤0)=true:=decide_eq_true (by omega)
  go_enter Tryz.func81,Tryz.ntmps81
  go_wp2_with fail
  go_ret
  exact⟨rfl,Below.refl _ _⟩
 ·have d0:decide ((k:Int)≤0)=false:=decide_eq_false (by omega)
  have HM:Hid (markT k=⟨#[109]⟩ ++ digsOf k ⟨#[]⟩):=by
   show _=_
   unfold markT
   rw[if_neg h0]
  have H0:Hid (Below w.heap.size w w):=Below.refl _ _
  go_enter Tryz.func81,Tryz.ntmps81
  go_wp2_with fail
  go_loopg [0,3] (k+1) (fun gk z o w'=>∃ (q:Nat) (t:ByteArray),z=.int .i64 (q:Int)∧o=.string t∧q≤gk∧q+t.size≤k∧Hid (digsOf q t=digsOf k ⟨#[]⟩)∧Hid (Below w.heap.size w w'))
  case atStart=>exact⟨k,⟨#[]⟩,rfl,rfl,by omega,Nat.le_refl _,rfl,H0⟩
  case round=>
   clear H0
   obtain⟨q,t,rfl,rfl,hgk,hsz,hD,hB⟩:=hrel
   by_cases hq:q=0
   ·subst hq
    have dq:decide ((((0:Nat):Int)) > 0)=false:=decide_eq_false (by omega)
    have HT:Hid (digsOf k ⟨#[]⟩=t):=by
     show _=_
     rw[← hD.out,digsOf_zero]
    go_wp2_with fail
    refine bodyPost_ret (v:=.string (⟨#[109]⟩ ++ t)) ?_ rfl ⟨by rw [HM.out,HT.out],hB.out⟩
    simp[results,Tryz.results81,go_sem]
   ·have dq:decide ((q:Int) > 0)=true:=decide_eq_true (by omega)
    have HN:Hid (digsOf (q / 10) (digT (q % 10) ++ t)=digsOf k ⟨#[]⟩):=by
     show _=_
     rw[← hD.out,← digsOf_step q t (by omega)]
    have hz:(digT (q % 10) ++ t).size=1+t.size:=by rw [bx_size]; rfl
    have hcv:(convert 120 9 (.slice (some ⟨wr.heap.size,0,none⟩) 1 1)).run Tryz.prog (wr.alloc (.cells #[.int .u8 (48+(q:Int) % 10)] 5))=.ok (.string (digT (q % 10))) (wr.alloc (.cells #[.int .u8 (48+(q:Int) % 10)] 5)):=by
     have e:=run_convert_bytes_arg (wr.alloc (.cells #[.int .u8 (48+(q:Int) % 10)] 5)) 120 5 Tryz.underlying120 Tryz.underlying5 wr.heap.size 0 1 1 [48+(q:Int) % 10] rfl (fun i hi=>by
      obtain rfl:i=0:=by simp at hi; omega
      exact (cell_of_block (heap_alloc_new wr _) 0).trans rfl) 9 Tryz.underlying9
     have e2:(48+(q:Int) % 10).toNat=48+q % 10:=by omega
     have e3:strOfNums [48+(q:Int) % 10]=digT (q % 10):=by
      unfold strOfNums digT
      simp[e2]
     rw[e,e3]
    have hle:(digT (q % 10)).size+t.size≤9223372036854775807:=by rw [← bx_size,hz]; omega
    have HB:=hid_of (bal hB.out (.cells #[.int .u8 (48+(q:Int) % 10)] 5))
    clear hB hD
    go_wp2_with fail
    go_roundg (q / 10)
    case measure=>omega
    case rel=>exact⟨q / 10,digT (q % 10) ++ t,by first | rfl | go_num | (congr 1; omega),rfl,Nat.le_refl _,by rw [hz]; omega,HN,HB⟩
def mkd (k:Nat) (j:Nat):Chk:=(markT (k+2 * j),markT (k+2 * j+1))
theorem KOwn.set0 {w:World} {base g n:Nat} {F:Nat→Chk} (h:KOwn w base g n F) (j:Nat) (hj:j < n) (x:ByteArray):KOwn (w.setCell ⟨g,j * 2,none⟩ (.string x)) base g n (updK F j (x,(F j).2)):=by
 obtain⟨h1,cur,h2,h3,h4⟩:=h
 refine⟨h1,cur.setIfInBounds (j * 2) (.string x),?_,by simpa using h3,fun i hi=>?_⟩
 ·simp[World.setCell,Array.getElem?_modify,h2]
 ·obtain⟨k1,k2⟩:=h4 i hi
  unfold updK
  by_cases e:i=j
  ·subst e
   rw[if_pos rfl]
   refine⟨?_,?_⟩
   ·rw[Array.getElem?_setIfInBounds_self_of_lt (by omega)]
   ·rw[Array.getElem?_setIfInBounds_ne (by omega)]; exact k2
  ·rw[if_neg e]
   refine⟨?_,?_⟩
   ·rw[Array.getElem?_setIfInBounds_ne (by omega)]; exact k1
   ·rw[Array.getElem?_setIfInBounds_ne (by omega)]; exact k2
theorem KOwn.set1 {w:World} {base g n:Nat} {F:Nat→Chk} (h:KOwn w base g n F) (j:Nat) (hj:j < n) (y:ByteArray):KOwn (w.setCell ⟨g,j * 2+1,none⟩ (.string y)) base g n (updK F j ((F j).1,y)):=by
 obtain⟨h1,cur,h2,h3,h4⟩:=h
 refine⟨h1,cur.setIfInBounds (j * 2+1) (.string y),?_,by simpa using h3,fun i hi=>?_⟩
 ·simp[World.setCell,Array.getElem?_modify,h2]
 ·obtain⟨k1,k2⟩:=h4 i hi
  unfold updK
  by_cases e:i=j
  ·subst e
   rw[if_pos rfl]
   refine⟨?_,?_⟩
   ·rw[Array.getElem?_setIfInBounds_ne (by omega)]; exact k1
   ·rw[Array.getElem?_setIfInBounds_self_of_lt (by omega)]
  ·rw[if_neg e]
   refine⟨?_,?_⟩
   ·rw[Array.getElem?_setIfInBounds_ne (by omega)]; exact k1
   ·rw[Array.getElem?_setIfInBounds_ne (by omega)]; exact k2
def KM (w w':World) (base g n:Nat) (F:Nat→Chk):Prop:=KOwn w' base g n F∧w.grownBy w' (some g)
theorem KM.called {w w' w2:World} {base g n:Nat} {F:Nat→Chk} (h:KM w w' base g n F) (hb:Below w'.heap.size w' w2):KM w w2 base g n F:=
 ⟨h.1.called hb,hb.os.trans h.2.os,hb.tape.trans h.2.tape,hb.output.trans h.2.output,Nat.le_trans h.2.size hb.size,fun b hl hne=>(hb.block b (Nat.lt_of_lt_of_le hl h.2.size)).trans (h.2.block b hl hne)⟩
theorem KM.set {w w':World} {base g n:Nat} {F G:Nat→Chk} {q:Nat} {v:Value} (h:KM w w' base g n F) (hk:KOwn (w'.setCell ⟨g,q,none⟩ v) base g n G):KM w (w'.setCell ⟨g,q,none⟩ v) base g n G:=by
 refine⟨hk,h.2.os,h.2.tape,h.2.output,by simpa using h.2.size,fun b hl hne=>?_⟩
 have hbg:b≠g:=fun e=>hne (by rw [e])
 rw[Below.heap_setCell _ _ _ _ hbg]
 exact h.2.block b hl hne
theorem KM.congr {w w':World} {base g n:Nat} {F G:Nat→Chk} (h:KM w w' base g n F) (e:∀ j,j < n→F j=G j):KM w w' base g n G:=⟨h.1.congr e,h.2⟩
theorem mk_step {k j m n:Nat} {F:Nat→Chk} {X:ByteArray} (hm:m=k+2 * j):∀ i,i < n→updK (updK (fun i=>if i < j then mkd k i else F i) j (markT m,X)) j ((updK (fun i=>if i < j then mkd k i else F i) j (markT m,X) j).1,markT (m+1)) i=if i < j+1 then mkd k i else F i:=fun i _=>by
 subst hm
 by_cases q:i=j
 ·subst q
  rw[if_pos (Nat.lt_succ_self _)]
  simp[updK,mkd]
 ·have e:updK (updK (fun i=>if i < j then mkd k i else F i) j (markT (k+2 * j),X)) j ((updK (fun i=>if i < j then mkd k i else F i) j (markT (k+2 * j),X) j).1,markT (k+2 * j+1)) i=if i < j then mkd k i else F i:=by
   simp[updK,q]
  rw[e]
  by_cases q2:i < j
  ·rw[if_pos q2,if_pos (by omega)]
  ·rw[if_neg q2,if_neg (by omega)]
set_option maxHeartbeats 800000 in
theorem markChunkS_own (base g n c:Nat) (F:Nat→Chk) (k:Nat) (w:World) (ha:KOwn w base g n F) (hn:n≤1048576) (h1:k≤10000000):
  Calls Tryz.prog 49 #[.slice (some ⟨g,0,none⟩) n c,.int .i64 (k:Int)] w fun e w'=>e=.returned (.int .i64 ((k+2 * n:Nat):Int))∧KOwn w' base g n (mkd k)∧w.grownBy w' (some g):=by
 have H0:Hid (KM w w base g n (fun i=>if i < 0 then mkd k i else F i)):=⟨ha.congr (fun i _=>by rw [if_neg (Nat.not_lt_zero i)]),⟨rfl,rfl,rfl,Nat.le_refl _,fun _ _ _=>rfl⟩⟩
 clear ha
 go_enter Tryz.func49,Tryz.ntmps49
 go_wp2_with fail
 go_loopw [1,5] (fun z i w'=>∃ (j m:Nat),j≤n∧Hid (m=k+2 * j)∧i=.int .i64 (j:Int)∧z=.int .i64 (m:Int)∧Hid (KM w w' base g n (fun i=>if i < j then mkd k i else F i))) (fun _ i _=>n - (intOf i).toNat)
 case atStart=>exact⟨0,k,Nat.zero_le _,rfl,rfl,rfl,H0⟩
 case round=>
  clear H0
  obtain⟨j,m,hj,hm,rfl,rfl,hS⟩:=hrel
  by_cases hlt:j < n
  ·have hmb:m+2≤100000000:=by have:=hm.out; omega
   have hk0:=fun W=>markText_any m W (by omega)
   have hk1:=fun W=>markText_any (m+1) W (by omega)
   rw[show ((m+1:Nat):Int)=(m:Int)+1 by omega] at hk1
   go_wp2_with fail
   refine (hk0 _).mono ?_
   rintro e w1 ⟨rfl,hB1⟩
   have HS1:=hid_of (hS.out.called hB1)
   clear hB1 hS
   rcases HS1.out.1.came with q | ⟨g',off,e,hg,hc⟩
   ·omega
   ·cases e
    have c0:=(hc j hlt).1
    rw[Nat.zero_add] at c0
    have fz:=HS1.out.1.free (j * 2)
    have HS2:=hid_of (HS1.out.set (HS1.out.1.set0 j hlt (markT m)))
    clear hc
    go_wp2_with fail
    generalize w1.setCell ⟨g,j * 2,none⟩ (.string (markT m))=W2 at HS2 ⊢
    refine (hk1 _).mono ?_
    rintro e w3 ⟨rfl,hB3⟩
    have HS3:=hid_of (HS2.out.called hB3)
    clear hB3 HS2 HS1 c0 fz
    rcases HS3.out.1.came with q | ⟨g',off,e,hg3,hc⟩
    ·omega
    ·cases e
     have c1:=(hc j hlt).2
     rw[Nat.zero_add] at c1
     have fz:=HS3.out.1.free (j * 2+1)
     have HS4:Hid (KM w (w3.setCell ⟨g,j * 2+1,none⟩ (.string (markT (m+1)))) base g n (fun i=>if i < j+1 then mkd k i else F i)):=(HS3.out.set (HS3.out.1.set1 j hlt (markT (m+1)))).congr (mk_step hm.out)
     clear hc
     go_wp2_with fail
     go_roundw
     case rel=>exact⟨j+1,m+1+1,by omega,by have:=hm.out; show _=_; omega,by go_num,by first | go_num | (congr 1; omega),HS4⟩
     case measure=>simp [intOf]; omega
  ·obtain rfl:j=n:=by omega
   have HZ:Hid (KOwn wr base g j (mkd k)∧w.grownBy wr (some g)):=hS.out.congr (fun i hi=>by rw [if_pos hi])
   obtain rfl:m=k+2 * j:=hm.out
   go_wp2_with fail
   go_ret
   exact⟨rfl,HZ.out⟩
theorem markChunkS_none (a:Option Addr) (c:Nat) (k:Int) (w:World):Calls Tryz.prog 49 #[.slice a 0 c,.int .i64 k] w fun e w'=>e=.returned (.int .i64 k)∧w'=w:=by
 go_enter Tryz.func49,Tryz.ntmps49
 go_wp2_with fail
 go_loop [1,5] (fun z i=>i=.int .i64 0∧z=.int .i64 k) (fun _ _=>0)
 case atStart=>exact⟨rfl,rfl⟩
 case round=>
  obtain⟨rfl,rfl⟩:=hrel
  go_wp2_with fail
  go_ret
  exact⟨rfl,rfl⟩
set_option maxRecDepth 100000 in
set_option maxHeartbeats 1600000 in
theorem heldChunkS_same (a:Option Addr) (n c:Nat) (k:Nat) (w:World) (ha:KCame w a n (mkd k)) (hn:n≤1048576) (h1:k≤10000000):
  Calls Tryz.prog 53 #[.slice a n c,.int .i64 (k:Int)] w fun e w'=>e=.returned (.int .i64 ((k+2 * n:Nat):Int))∧Below w.heap.size w w':=by
 have HA:=hid_of ha
 have H0:Hid (Below w.heap.size w w):=Below.refl _ _
 clear ha
 go_enter Tryz.func53,Tryz.ntmps53
 go_wp2_with fail
 go_loopw [1,5] (fun z i w'=>∃ (j m:Nat),j≤n∧Hid (m=k+2 * j)∧i=.int .i64 (j:Int)∧z=.int .i64 (m:Int)∧Hid (Below w.heap.size w w')) (fun _ i _=>n - (intOf i).toNat)
 case atStart=>exact⟨0,k,Nat.zero_le _,rfl,rfl,rfl,H0⟩
 case round=>
  clear H0
  obtain⟨j,m,hj,hm,rfl,rfl,hB⟩:=hrel
  by_cases hlt:j < n
  ·have hmb:m+2≤100000000:=by have:=hm.out; omega
   have hk0:=fun W=>markText_any m W (by omega)
   have hk1:=fun W=>markText_any (m+1) W (by omega)
   rw[show ((m+1:Nat):Int)=(m:Int)+1 by omega] at hk1
   rcases HA.out with q | ⟨g,off,rfl,hg,hc⟩
   ·omega
   ·have c0:wr.cell? ⟨g,off+j * 2,none⟩=some (.string (markT m)):=by rw [hm.out]; exact (hB.out.cell (p:=⟨g,off+j * 2,none⟩) hg).trans (hc j hlt).1
    have c1:wr.cell? ⟨g,off+j * 2+1,none⟩=some (.string (markT (m+1))):=by rw [hm.out]; exact (hB.out.cell (p:=⟨g,off+j * 2+1,none⟩) hg).trans (hc j hlt).2
    have hl2:g < wr.heap.size:=Nat.lt_of_lt_of_le hg hB.out.size
    clear hc
    go_wp2_with fail
    refine wp_region_held (S:=fun u=>u.cell? ⟨g,off+j * 2,none⟩=some (.string (markT m))) (by kernel_rfl) ?_
    show wpAnyH _ _ _ _ _ _ _ _ (World.drew _)
    have HS:(World.drew wr).cell? ⟨g,off+j * 2,none⟩=some (.string (markT m)):=c0
    refine zqt 0 (.slice (some ⟨g,off,none⟩) n c) rfl ?_ HS ?_
    ·intro w' hS
     have s0:=hS
     go_simp
    simp only [Act.put,zga,zgb,zsa,zsb,zsc]
    refine zqt 1 (.int .i64 (j:Int)) rfl ?_ HS ?_
    ·intro w' hS
     have s0:=hS
     go_simp
    simp only [Act.put,zga,zgb,zgc,zsa,zsb,zsc]
    refine zqt 2 (.pointer (some ⟨g,off+j * 2,none⟩)) rfl ?_ HS ?_
    ·intro w' hS
     have s0:=hS
     go_simp
    simp only [Act.put,zga,zgb,zgc,zsa,zsb,zsc]
    refine zqt 3 (.pointer (some ⟨g,off+j * 2,none⟩)) rfl ?_ HS ?_
    ·intro w' hS
     have s0:=hS
     go_simp
    simp only [Act.put,zga,zgb,zgc,zsa,zsb,zsc]
    refine zqt 4 (.string (markT m)) rfl ?_ HS ?_
    ·intro w' hS
     have s0:=hS
     go_simp
    simp only [Act.put,zga,zgb,zgc,zsa,zsb,zsc]
    refine zqt 5 (.int .i64 (m:Int)) rfl ?_ HS ?_
    ·intro w' hS
     have s0:=hS
     go_simp
    simp only [Act.put,zga,zgb,zgc,zsa,zsb,zsc]
    refine zqr 6 rfl (fun K hK=>?_)
    refine if_wanted (wanted_none rfl) ?_
    simp only [zga,zgb,zgc]
    go_simp
    refine (hk0 _).mono ?_
    rintro e w1 ⟨rfl,hB1⟩
    have l0:w1.cell? ⟨g,off+j * 2,none⟩=some (.string (markT m)):=(hB1.cell (p:=⟨g,off+j * 2,none⟩) hl2).trans c0
    have l1:w1.cell? ⟨g,off+j * 2+1,none⟩=some (.string (markT (m+1))):=(hB1.cell (p:=⟨g,off+j * 2+1,none⟩) hl2).trans c1
    have ll:g < w1.heap.size:=Nat.lt_of_lt_of_le hl2 hB1.size
    have HB1:=hid_of (bnext (bdraws hB.out 1) hB1)
    clear hB1
    refine hK.out _ _ l0 (fun HS1=>?_)
    clear hK HS c0 c1 hl2
    refine zqt 7 (.bool false) rfl ?_ HS1 ?_
    ·intro w' hS
     have s0:=hS
     go_simp
    simp only [Act.put,zga,zgb,zgc,zsa,zsb,zsc]
    refine wpAnyH_done (by kernel_rfl) ?_ _
    clear HS1
    go_wp2_with fail
    refine wp_region_held (S:=fun u=>u.cell? ⟨g,off+j * 2+1,none⟩=some (.string (markT (m+1)))) (by kernel_rfl) ?_
    show wpAnyH _ _ _ _ _ _ _ _ (World.drew _)
    have HS:(World.drew w1).cell? ⟨g,off+j * 2+1,none⟩=some (.string (markT (m+1))):=l1
    refine zqt 0 (.slice (some ⟨g,off,none⟩) n c) rfl ?_ HS ?_
    ·intro w' hS
     have s0:=hS
     go_simp
    simp only [Act.put,zga,zgb,zsa,zsb,zsc]
    refine zqt 1 (.int .i64 (j:Int)) rfl ?_ HS ?_
    ·intro w' hS
     have s0:=hS
     go_simp
    simp only [Act.put,zga,zgb,zgc,zsa,zsb,zsc]
    refine zqt 2 (.pointer (some ⟨g,off+j * 2,none⟩)) rfl ?_ HS ?_
    ·intro w' hS
     have s0:=hS
     go_simp
    simp only [Act.put,zga,zgb,zgc,zsa,zsb,zsc]
    refine zqt 3 (.pointer (some ⟨g,off+j * 2+1,none⟩)) rfl ?_ HS ?_
    ·intro w' hS
     have s0:=hS
     go_simp
    simp only [Act.put,zga,zgb,zgc,zsa,zsb,zsc]
    refine zqt 4 (.string (markT (m+1))) rfl ?_ HS ?_
    ·intro w' hS
     have s0:=hS
     go_simp
    simp only [Act.put,zga,zgb,zgc,zsa,zsb,zsc]
    refine zqt 5 (.int .i64 ((m:Int)+1)) rfl ?_ HS ?_
    ·intro w' hS
     have s0:=hS
     go_simp
    simp only [Act.put,zga,zgb,zgc,zsa,zsb,zsc]
    refine zqr 6 rfl (fun K hK=>?_)
    refine if_wanted (wanted_none rfl) ?_
    simp only [zga,zgb,zgc]
    go_simp
    refine (hk1 _).mono ?_
    rintro e w3 ⟨rfl,hB3⟩
    have HB3:=hid_of (bnext (bdraws HB1.out 1) hB3)
    have n1:w3.cell? ⟨g,off+j * 2+1,none⟩=some (.string (markT (m+1))):=(hB3.cell (p:=⟨g,off+j * 2+1,none⟩) ll).trans l1
    clear hB3
    refine hK.out _ _ n1 (fun HS3=>?_)
    clear hK HS
    refine zqt 7 (.bool false) rfl ?_ HS3 ?_
    ·intro w' hS
     have s0:=hS
     go_simp
    simp only [Act.put,zga,zgb,zgc,zsa,zsb,zsc]
    refine wpAnyH_done (by kernel_rfl) ?_ _
    clear HS3
    go_wp2_with fail
    go_roundw
    case rel=>exact⟨j+1,m+1+1,by omega,by have:=hm.out; show _=_; omega,by go_num,by first | go_num | (congr 1; omega),HB3⟩
    case measure=>simp [intOf]; omega
  ·obtain rfl:j=n:=by omega
   obtain rfl:m=k+2 * j:=hm.out
   go_wp2_with fail
   go_ret
   exact⟨rfl,hB.out⟩
end
section
open Go.RowKit Go.Joins HeadMath ChunkMath
def Wrote (gt gc gs gk:Nat) (w w':World):Prop:=w.heap.size≤w'.heap.size∧(∀ (B:Nat) (w0:World),Below B w0 w→B≤w.heap.size→B≤gt→B≤gc→B≤gs→B≤gk→Below B w0 w')∧∀ g,g < w.heap.size→g≠gt→g≠gc→g≠gs→g≠gk→w'.heap[g]?=w.heap[g]?
theorem Wrote.grown {gt gc gs gk r:Nat} {w w1 w2:World} (h:Wrote gt gc gs gk w w1) (hg:w1.grownBy w2 (some r)) (hr:r=gt∨r=gc∨r=gs∨r=gk):Wrote gt gc gs gk w w2:=by
 obtain⟨h1,h2,h3⟩:=h
 refine⟨Nat.le_trans h1 hg.size,fun B w0 hb hB b1 b2 b3 b4=>(h2 B w0 hb hB b1 b2 b3 b4).grown hg (by omega) (fun q hq=>by cases hq; omega),fun g hl n1 n2 n3 n4=>?_⟩
 rw[hg.block g (by omega) (fun e=>by cases e; omega)]
 exact h3 g hl n1 n2 n3 n4
theorem Wrote.start {gt gc gs gk:Nat} (w:World) (o:Obj):Wrote gt gc gs gk w (w.alloc o):=⟨by simp,fun B w0 hb hB _ _ _ _=>hb.trans ((bstart w o).mono hB),fun g hl _ _ _ _=>(bstart w o).block g hl⟩
def PngMarked (k:Nat) (p:Pic) (gt gc gs gk:Nat) (w:World) (e:Ending) (w':World):Prop:=e=.returned (.int .i64 ((k+3 * p.tn+p.cn+p.sn+2 * p.kn:Nat):Int))∧Wrote gt gc gs gk w w'
set_option maxRecDepth 100000 in
set_option maxHeartbeats 3200000 in
theorem markPng_any (p:Pic) (base gt gc gs gk k:Nat) (w:World) (hO:PngOwn w base p gt gc gs gk) (hZ:PngSz p) (hk:k≤1000):
  Calls Tryz.prog 13 #[pngV p (picA p gt gc gs gk),.int .i64 (k:Int)] w (PngMarked k p gt gc gs gk w):=by
 obtain⟨hw,hh,hd,hc',lace,tn,T,cn,C,rw',rh,rc,rd,sn,S,kn,K⟩:=p
 have HT:Hid (RgbOwn w base gt tn T∧gt < w.heap.size):=⟨hO.t,hO.t.lt⟩
 have HC:Hid (IOwn w base gc cn cn C∧gc < w.heap.size):=⟨hO.c,hO.c.lt⟩
 have HS:Hid (IOwn w base gs sn sn S∧gs < w.heap.size):=⟨hO.s,hO.s.lt⟩
 have HK:Hid (KOwn w base gk kn K∧gk < w.heap.size):=⟨hO.k,hO.k.lt⟩
 have HNE:Hid (gt < gc∧gc < gs∧gs < gk):=hO.ne
 have ht':tn≤1048576:=hZ.t
 have hc2:cn≤1048576:=hZ.c
 have hs':sn≤1048576:=hZ.s
 have hk':kn≤1048576:=hZ.k
 clear hO hZ
 have H0:Hid (Wrote gt gc gs gk w (w.alloc (.cells #[.int .i64 hw,.int .i64 hh,.int .i64 hd,.int .i64 hc',.bool lace,.slice (some ⟨gt,0,none⟩) tn tn,.slice (some ⟨gc,0,none⟩) cn cn,.int .i64 rw',.int .i64 rh,.int .i64 rc,.int .i64 rd,.slice (some ⟨gs,0,none⟩) sn sn,.slice (some ⟨gk,0,none⟩) kn kn] 37))∧(w.alloc (.cells #[.int .i64 hw,.int .i64 hh,.int .i64 hd,.int .i64 hc',.bool lace,.slice (some ⟨gt,0,none⟩) tn tn,.slice (some ⟨gc,0,none⟩) cn cn,.int .i64 rw',.int .i64 rh,.int .i64 rc,.int .i64 rd,.slice (some ⟨gs,0,none⟩) sn sn,.slice (some ⟨gk,0,none⟩) kn kn] 37)).heap[w.heap.size]?=some (.cells #[.int .i64 hw,.int .i64 hh,.int .i64 hd,.int .i64 hc',.bool lace,.slice (some ⟨gt,0,none⟩) tn tn,.slice (some ⟨gc,0,none⟩) cn cn,.int .i64 rw',.int .i64 rh,.int .i64 rc,.int .i64 rd,.slice (some ⟨gs,0,none⟩) sn sn,.slice (some ⟨gk,0,none⟩) kn kn] 37 (0,0))):=⟨Wrote.start w _,heap_alloc_new w _⟩
 show Calls Tryz.prog 13 #[.agg #[.int .i64 hw,.int .i64 hh,.int .i64 hd,.int .i64 hc',.bool lace,.slice (some ⟨gt,0,none⟩) tn tn,.slice (some ⟨gc,0,none⟩) cn cn,.int .i64 rw',.int .i64 rh,.int .i64 rc,.int .i64 rd,.slice (some ⟨gs,0,none⟩) sn sn,.slice (some ⟨gk,0,none⟩) kn kn],.int .i64 (k:Int)] w _
 go_enter Tryz.func13,Tryz.ntmps13
 go_wp2_with fail
 refine (markRgbS_own base gt tn tn T (k:Int) _ (HT.out.1.keep ((bstart w _).block gt HT.out.2)) ht' (by omega) (by omega)).mono ?_
 rintro e w1 ⟨rfl,_,hg⟩
 have H1:Hid (Wrote gt gc gs gk w w1∧w1.heap[w.heap.size]?=some (.cells #[.int .i64 hw,.int .i64 hh,.int .i64 hd,.int .i64 hc',.bool lace,.slice (some ⟨gt,0,none⟩) tn tn,.slice (some ⟨gc,0,none⟩) cn cn,.int .i64 rw',.int .i64 rh,.int .i64 rc,.int .i64 rd,.slice (some ⟨gs,0,none⟩) sn sn,.slice (some ⟨gk,0,none⟩) kn kn] 37 (0,0))∧w1.heap[gc]?=w.heap[gc]?∧w1.heap[gs]?=w.heap[gs]?∧w1.heap[gk]?=w.heap[gk]?):=by
  have q:=HNE.out
  have q1:=HT.out.2
  have q2:=HC.out.2
  have q3:=HS.out.2
  have q4:=HK.out.2
  refine⟨H0.out.1.grown hg (.inl rfl),(hg.block _ (by simp) (fun e=>by cases e; omega)).trans H0.out.2,?_,?_,?_⟩
  ·exact (hg.block _ (by simp; omega) (fun e=>by cases e; omega)).trans ((bstart w _).block _ q2)
  ·exact (hg.block _ (by simp; omega) (fun e=>by cases e; omega)).trans ((bstart w _).block _ q3)
  ·exact (hg.block _ (by simp; omega) (fun e=>by cases e; omega)).trans ((bstart w _).block _ q4)
 clear hg H0
 have a6:=(cell_of_block H1.out.2.1 6).trans rfl
 have l0:=block_lt H1.out.2.1
 go_wp2_with fail
 clear a6 l0
 refine (markIntS_own base gc cn cn C _ _ (HC.out.1.keep H1.out.2.2.1) hc2 (by omega) (by omega)).mono ?_
 rintro e w2 ⟨rfl,_,hg⟩
 have H2:Hid (Wrote gt gc gs gk w w2∧w2.heap[w.heap.size]?=some (.cells #[.int .i64 hw,.int .i64 hh,.int .i64 hd,.int .i64 hc',.bool lace,.slice (some ⟨gt,0,none⟩) tn tn,.slice (some ⟨gc,0,none⟩) cn cn,.int .i64 rw',.int .i64 rh,.int .i64 rc,.int .i64 rd,.slice (some ⟨gs,0,none⟩) sn sn,.slice (some ⟨gk,0,none⟩) kn kn] 37 (0,0))∧w2.heap[gs]?=w.heap[gs]?∧w2.heap[gk]?=w.heap[gk]?):=by
  have q:=HNE.out
  have q2:=HC.out.2
  have q3:=HS.out.2
  have q4:=HK.out.2
  have hz:=H1.out.1.1
  have hl:=block_lt H1.out.2.1
  refine⟨H1.out.1.grown hg (.inr (.inl rfl)),(hg.block _ hl (fun e=>by cases e; omega)).trans H1.out.2.1,?_,?_⟩
  ·exact (hg.block _ (by omega) (fun e=>by cases e; omega)).trans H1.out.2.2.2.1
  ·exact (hg.block _ (by omega) (fun e=>by cases e; omega)).trans H1.out.2.2.2.2
 clear hg H1
 have l0:=block_lt H2.out.2.1
 obtain⟨a7,a8,a9,a10,a11⟩:=zqg H2.out.2.1
 go_wp2_with fail
 clear l0 a7 a8 a9 a10 a11
 refine (markRaster_own rw' rh rc rd base gs sn sn S _ _ (HS.out.1.keep H2.out.2.2.1) hs' (by omega) (by omega)).mono ?_
 rintro e w3 ⟨rfl,hg⟩
 have H3:Hid (Wrote gt gc gs gk w w3∧w3.heap[w.heap.size]?=some (.cells #[.int .i64 hw,.int .i64 hh,.int .i64 hd,.int .i64 hc',.bool lace,.slice (some ⟨gt,0,none⟩) tn tn,.slice (some ⟨gc,0,none⟩) cn cn,.int .i64 rw',.int .i64 rh,.int .i64 rc,.int .i64 rd,.slice (some ⟨gs,0,none⟩) sn sn,.slice (some ⟨gk,0,none⟩) kn kn] 37 (0,0))∧w3.heap[gk]?=w.heap[gk]?):=by
  have q:=HNE.out
  have q3:=HS.out.2
  have q4:=HK.out.2
  have hz:=H2.out.1.1
  have hl:=block_lt H2.out.2.1
  refine⟨H2.out.1.grown hg (.inr (.inr (.inl rfl))),(hg.block _ hl (fun e=>by cases e; omega)).trans H2.out.2.1,?_⟩
  exact (hg.block _ (by omega) (fun e=>by cases e; omega)).trans H2.out.2.2.2
 clear hg H2
 have a12:=(cell_of_block H3.out.2.1 12).trans rfl
 have l0:=block_lt H3.out.2.1
 have ek:Hid ((k:Int)+3 * (tn:Int)+(cn:Int)+(sn:Int)=((k+3 * tn+cn+sn:Nat):Int)):=by show _=_; omega
 go_wp2_with fail
 clear a12 l0
 rw[ek.out]
 refine (markChunkS_own base gk kn kn K (k+3 * tn+cn+sn) _ (HK.out.1.keep H3.out.2.2) hk' (by omega)).mono ?_
 rintro e w4 ⟨rfl,_,hg⟩
 have H4:=hid_of (H3.out.1.grown hg (.inr (.inr (.inr rfl))))
 clear hg H3
 go_wp2_with fail
 go_ret
 exact⟨rfl,H4.out⟩
end
section
open Go.RowKit Go.Joins OutMath PutMath RastMath HeadMath ChunkMath
def BoxAt (w:World) (B:Nat) (A:Array Value):Prop:=w.heap[B]?=some (.cells A 37 (0,0))
theorem BoxAt.called {w w':World} {B:Nat} {A:Array Value} (h:BoxAt w B A) (hb:Below w.heap.size w w'):BoxAt w' B A:=(hb.block _ (block_lt h)).trans h
def LBox (w W:World) (A:Array Value):Prop:=W.heap[w.heap.size]?=some (.cells A 30 (0,0))∧Below w.heap.size w W
theorem LBox.called {w W W':World} {A:Array Value} (h:LBox w W A) (hb:Below W.heap.size W W'):LBox w W' A:=⟨(hb.block _ (block_lt h.1)).trans h.1,bnext h.2 hb⟩
theorem LBox.drew {w W:World} {A:Array Value} (h:LBox w W A):LBox w W.drew A:=h.called (bdraws (Below.refl _ _) 1)
end
end Go.Proofs.YtkpbfmdnjnohlaaGreat
