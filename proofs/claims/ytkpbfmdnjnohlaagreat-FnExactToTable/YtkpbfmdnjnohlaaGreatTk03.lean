/-
  Texts of the proof, put together.
-/
import Derived.Test.YtkpbfmdnjnohlaaGreatTk02
import Derived.Deep.SlicePairs
namespace Go.Proofs.YtkpbfmdnjnohlaaGreat
section
open Go.RowKit Go.Joins Go.Sort HeadMath
theorem eqRgb_same (x y z:Int) (W:World):Calls Tryz.prog 79 #[.agg #[.int .i64 x,.int .i64 y,.int .i64 z],.agg #[.int .i64 x,.int .i64 y,.int .i64 z]] W fun e w'=>e=.returned (.bool true)∧∃ k os',w'=grow (W.drewN k) os':=by
 go_enter Tryz.func79,Tryz.ntmps79
 go_wp2_with fail
 go_ret
 exact⟨rfl,0,_,by rw [alloc_eq_grow,alloc_eq_grow,grow_grow]; rfl⟩
set_option maxHeartbeats 1600000 in
theorem eqRgbS_same (a b:Option Addr) (n c1 c2:Nat) (F:Nat→Rgb3) (w:World) (ha:RgbCame w a n F) (hb:RgbCame w b n F) (hn:n≤1048576):
  Calls Tryz.prog 42 #[.slice a n c1,.slice b n c2] w fun e w'=>e=.returned (.bool true)∧Below w.heap.size w w':=by
 have mixed:Tryz.prog.follows .mixedOrders=true:=by kernel_rfl
 have HA:=hid_of ha
 have HB:=hid_of hb
 clear ha hb
 go_enter Tryz.func42,Tryz.ntmps42
 go_wp2_with fail
 go_loopw [5] (fun i w'=>∃ (j:Nat),j≤n∧i=.int .i64 j∧Hid (Below w.heap.size w w')) (fun i _=>n - (intOf i).toNat)
 case atStart=>exact⟨0,Nat.zero_le _,rfl,Below.refl _ _⟩
 case round=>
  obtain⟨j,hj,rfl,hBj⟩:=hrel
  by_cases hlt:j < n
  ·rcases HA.out with h0 | ⟨g,off,rfl,hg,hc⟩
   ·omega
   ·rcases HB.out with h0 | ⟨g',off',rfl,hg',hc'⟩
    ·omega
    ·have hbg:∀ n' os,Below w.heap.size w (grow (wr.drewN n') os):=fun n' os=>by
      refine hBj.out.trans ⟨rfl,rfl,rfl,?_,fun k hk=>heap_grow_old (wr.drewN n') os (by show k < wr.heap.size; have:=hBj.out.size; omega)⟩
      rw[size_grow]
      show wr.heap.size≤wr.heap.size+os.size
      omega
     have k0:=fun n' os=>((hbg n' os).cell (p:=⟨g,off+j * 3,none⟩) hg).trans (hc j hlt).1
     have k1:=fun n' os=>((hbg n' os).cell (p:=⟨g,off+j * 3+1,none⟩) hg).trans (hc j hlt).2.1
     have k2:=fun n' os=>((hbg n' os).cell (p:=⟨g,off+j * 3+2,none⟩) hg).trans (hc j hlt).2.2
     have l0:=fun n' os=>((hbg n' os).cell (p:=⟨g',off'+j * 3,none⟩) hg').trans (hc' j hlt).1
     have l1:=fun n' os=>((hbg n' os).cell (p:=⟨g',off'+j * 3+1,none⟩) hg').trans (hc' j hlt).2.1
     have l2:=fun n' os=>((hbg n' os).cell (p:=⟨g',off'+j * 3+2,none⟩) hg').trans (hc' j hlt).2.2
     have HBG:=hid_of hbg
     have hcb:=fun (n':Nat) (os:Array Obj)=>eqRgb_same (F j).1 (F j).2.1 (F j).2.2 (grow (wr.drewN n') os)
     generalize (F j).1=x at k0 l0 hcb
     generalize (F j).2.1=y at k1 l1 hcb
     generalize (F j).2.2=z at k2 l2 hcb
     clear hc hc' hbg
     go_wp2_with fail
     go_quiet_grown (refine Calls.grown_of (hcb _ _))
     have HN:=hid_of (HBG.out nq osq)
     clear k0 k1 k2 l0 l1 l2 hcb HBG
     generalize grow (wr.drewN nq) osq=w2 at HN
     go_wp2_with fail
     go_roundw
     case rel=>exact⟨j+1,by omega,by go_num,HN⟩
     case measure=>simp [intOf]; omega
  ·go_wp2_with fail
   go_ret
   exact⟨rfl,hBj.out⟩
end
section
open Go.RowKit Go.Joins HeadMath
theorem make_rgbs (w:World) (n:Nat) (hn:n≤1048576):(Instr.makeSlice 33 (.int .i64 n) (.int .i64 n)).run Tryz.prog w=.ok (.slice (some ⟨w.heap.size,0,none⟩) n n) (w.alloc (.cells (madeCells #[.int .i64 0,.int .i64 0,.int .i64 0] (n * 3)) 74)):=by
 obtain⟨i0,hi0,hz0,hz1,hz2⟩:=info_parts info_rgb
 have h:=run_make (P:=Tryz.prog) w 33 74 i0 (.agg #[.int .i64 0,.int .i64 0,.int .i64 0]) Tryz.underlying33 hi0 hz0 .i64 .i64 n n (by omega) (by omega) (by rw [hz2]; omega) (by omega)
 rw[hz1,Int.toNat_natCast] at h
 exact h
theorem made_rgb (n j:Nat) (hj:j < n * 3):(madeCells #[Value.int .i64 0,.int .i64 0,.int .i64 0] (n * 3))[j]?=some (.int .i64 0):=by
 unfold madeCells
 rw[Array.getElem?_map,Array.getElem?_range,if_pos hj]
 show some ((#[Value.int .i64 0,.int .i64 0,.int .i64 0])[j % 3]!)=_
 have h:j % 3 < 3:=Nat.mod_lt _ (by omega)
 generalize j % 3=q at h
 match q,h with
 | 0,_=>rfl
 | 1,_=>rfl
 | 2,_=>rfl
theorem RgbOwn.made (w:World) (base n:Nat) (hb:base≤w.heap.size):RgbOwn (w.alloc (.cells (madeCells #[.int .i64 0,.int .i64 0,.int .i64 0] (n * 3)) 74)) base w.heap.size n (fun _=>(0,0,0)):=
 ⟨hb,_,heap_alloc_new w _,by rw [size_madeCells]; exact Nat.le_refl _,fun j hj=>⟨made_rgb n _ (by omega),made_rgb n _ (by omega),made_rgb n _ (by omega)⟩⟩
end
section
open Go.RowKit Go.Joins Go.Sort HeadMath
theorem toRgb_any (x y z:Int) (w:World):Calls Tryz.prog 72 #[.agg #[.int .i64 x,.int .i64 y,.int .i64 z]] w fun e w'=>e=.returned (.agg #[.int .i64 x,.int .i64 y,.int .i64 z])∧Below w.heap.size w w':=by
 go_enter Tryz.func72,Tryz.ntmps72
 go_wp2_with fail
 exact bodyPost_ret (v:=.agg #[.int .i64 x,.int .i64 y,.int .i64 z]) (by simp [results,Tryz.results72,go_sem]) rfl ⟨rfl,bal (bal (bstart _ _) _) _⟩
theorem szRgbS_any (a:Option Addr) (n c:Nat) (z:Int) (w:World) (hn:n≤9223372036854775807) (hz0:0≤z) (hz:z≤10000000):Calls Tryz.prog 23 #[.slice a n c,.int .i64 z] w fun e w'=>e=.returned (.int .i64 (if (n:Int)≤z then z - n else -1))∧w=w':=by
 by_cases h:(n:Int)≤z
 ·rw[if_pos h]
  have d:decide (z - (n:Int) < 0)=false:=decide_eq_false (by omega)
  go_enter Tryz.func23,Tryz.ntmps23
  go_wp2_with fail
  go_ret
  exact⟨rfl,rfl⟩
 ·rw[if_neg h]
  have d:decide (z - (n:Int) < 0)=true:=decide_eq_true (by omega)
  go_enter Tryz.func23,Tryz.ntmps23
  go_wp2_with fail
  go_ret
  exact⟨rfl,rfl⟩
def RgbSt (w w':World) (n:Nat) (F:Nat→Rgb3) (j:Nat):Prop:=Below w.heap.size w w'∧∃ cur,w'.heap[w.heap.size]?=some (.cells cur 74 (0,0))∧cur.size=n * 3∧∀ i,i < j→cur[i * 3]?=some (.int .i64 (F i).1)∧cur[i * 3+1]?=some (.int .i64 (F i).2.1)∧cur[i * 3+2]?=some (.int .i64 (F i).2.2)
theorem RgbSt.called {w w1 w2:World} {n:Nat} {F:Nat→Rgb3} {j:Nat} (h:RgbSt w w1 n F j) (hb:Below w1.heap.size w1 w2):RgbSt w w2 n F j:=by
 obtain⟨h1,cur,h2,h3⟩:=h
 exact⟨bnext h1 hb,cur,(hb.block _ (block_lt h2)).trans h2,h3⟩
theorem rgb_next {w w':World} {n:Nat} {F:Nat→Rgb3} {j:Nat} (h:RgbSt w w' n F j) (hj:j < n):RgbSt w (((w'.setCell ⟨w.heap.size,j * 3,none⟩ (.int .i64 (F j).1)).setCell ⟨w.heap.size,j * 3+1,none⟩ (.int .i64 (F j).2.1)).setCell ⟨w.heap.size,j * 3+2,none⟩ (.int .i64 (F j).2.2)) n F (j+1):=by
 obtain⟨h1,cur,h2,h3,h4⟩:=h
 refine⟨((h1.setCell (p:=⟨w.heap.size,j * 3,none⟩) (Nat.le_refl _) _).setCell (p:=⟨w.heap.size,j * 3+1,none⟩) (Nat.le_refl _) _).setCell (p:=⟨w.heap.size,j * 3+2,none⟩) (Nat.le_refl _) _,((cur.setIfInBounds (j * 3) (.int .i64 (F j).1)).setIfInBounds (j * 3+1) (.int .i64 (F j).2.1)).setIfInBounds (j * 3+2) (.int .i64 (F j).2.2),?_,by simpa using h3,fun i hi=>?_⟩
 ·simp[World.setCell,Array.getElem?_modify,h2]
 ·by_cases e:i=j
  ·subst e
   refine⟨?_,?_,?_⟩
   ·rw[Array.getElem?_setIfInBounds_ne (by omega),Array.getElem?_setIfInBounds_ne (by omega),Array.getElem?_setIfInBounds_self_of_lt (by omega)]
   ·rw[Array.getElem?_setIfInBounds_ne (by omega),Array.getElem?_setIfInBounds_self_of_lt (by simp; omega)]
   ·rw[Array.getElem?_setIfInBounds_self_of_lt (by simp; omega)]
  ·obtain⟨k1,k2,k3⟩:=h4 i (by omega)
   refine⟨?_,?_,?_⟩
   ·rw[Array.getElem?_setIfInBounds_ne (by omega),Array.getElem?_setIfInBounds_ne (by omega),Array.getElem?_setIfInBounds_ne (by omega)]; exact k1
   ·rw[Array.getElem?_setIfInBounds_ne (by omega),Array.getElem?_setIfInBounds_ne (by omega),Array.getElem?_setIfInBounds_ne (by omega)]; exact k2
   ·rw[Array.getElem?_setIfInBounds_ne (by omega),Array.getElem?_setIfInBounds_ne (by omega),Array.getElem?_setIfInBounds_ne (by omega)]; exact k3
theorem rgb_cell {w w':World} {n:Nat} {F:Nat→Rgb3} {j:Nat} (h:RgbSt w w' n F j):w.heap.size < w'.heap.size∧(∀ k,w'.frozen? ⟨w.heap.size,k,none⟩=false)∧(∀ k,k < n * 3→∃ u,w'.cell? ⟨w.heap.size,k,none⟩=some u):=by
 obtain⟨h1,cur,h2,h3,h4⟩:=h
 refine⟨block_lt h2,fun k=>by simp [World.frozen?,h2],fun k hk=>?_⟩
 rw[cell_of_block h2]
 exact⟨cur[k]'(by omega),Array.getElem?_eq_getElem (by omega)⟩
set_option maxHeartbeats 1600000 in
theorem toRgbS_any (a:Option Addr) (n c:Nat) (F:Nat→Rgb3) (w:World) (hC:RgbCame w a n F) (hn:n≤1048576):
  Calls Tryz.prog 32 #[.slice a n c] w fun e w'=>e=.returned (.slice (some ⟨w.heap.size,0,none⟩) n n)∧RgbOwn w' w.heap.size w.heap.size n F∧Below w.heap.size w w':=by
 have HC:=hid_of hC
 have hmk:=make_rgbs w n hn
 have H0:Hid (RgbSt w (w.alloc (.cells (madeCells #[.int .i64 0,.int .i64 0,.int .i64 0] (n * 3)) 74)) n F 0):=⟨bstart _ _,_,heap_alloc_new w _,by rw [size_madeCells],fun i hi=>absurd hi (Nat.not_lt_zero i)⟩
 generalize w.alloc (.cells (madeCells #[.int .i64 0,.int .i64 0,.int .i64 0] (n * 3)) 74)=w0 at hmk H0
 clear hC
 go_enter Tryz.func32,Tryz.ntmps32
 go_wp2_with fail
 go_loopw [4] (fun i w'=>∃ j:Nat,j≤n∧i=.int .i64 j∧Hid (RgbSt w w' n F j)) (fun i _=>n - (intOf i).toNat)
 case atStart=>exact⟨0,Nat.zero_le _,rfl,H0⟩
 case round=>
  clear H0 hmk
  obtain⟨j,hj,rfl,hS⟩:=hrel
  by_cases hlt:j < n
  ·rcases HC.out with h0 | ⟨g,off,rfl,hg,hc⟩
   ·omega
   ·have c0:wr.cell? ⟨g,off+j * 3,none⟩=some (.int .i64 (F j).1):=(hS.out.1.cell (p:=⟨g,off+j * 3,none⟩) hg).trans (hc j hlt).1
    have c1:wr.cell? ⟨g,off+j * 3+1,none⟩=some (.int .i64 (F j).2.1):=(hS.out.1.cell (p:=⟨g,off+j * 3+1,none⟩) hg).trans (hc j hlt).2.1
    have c2:wr.cell? ⟨g,off+j * 3+2,none⟩=some (.int .i64 (F j).2.2):=(hS.out.1.cell (p:=⟨g,off+j * 3+2,none⟩) hg).trans (hc j hlt).2.2
    have hl2:g < wr.heap.size:=Nat.lt_of_lt_of_le hg hS.out.1.size
    clear hc
    obtain⟨x,hx⟩:∃ x,x=(F j).1:=⟨_,rfl⟩
    obtain⟨y,hy⟩:∃ y,y=(F j).2.1:=⟨_,rfl⟩
    obtain⟨z,hz⟩:∃ z,z=(F j).2.2:=⟨_,rfl⟩
    rw[← hx] at c0
    rw[← hy] at c1
    rw[← hz] at c2
    have HXY:=hid_of (And.intro hx (And.intro hy hz))
    clear hx hy hz
    go_wp2_with fail
    refine (toRgb_any x y z wr).mono ?_
    rintro e w1 ⟨rfl,hB⟩
    have HS1:=hid_of (hS.out.called hB)
    clear hB
    obtain⟨p1,p2,p3⟩:=rgb_cell HS1.out
    obtain⟨u0,q0⟩:=p3 (j * 3) (by omega)
    obtain⟨u1,q1⟩:=p3 (j * 3+1) (by omega)
    obtain⟨u2,q2⟩:=p3 (j * 3+2) (by omega)
    have HS2:Hid (RgbSt w (((w1.setCell ⟨w.heap.size,j * 3,none⟩ (.int .i64 x)).setCell ⟨w.heap.size,j * 3+1,none⟩ (.int .i64 y)).setCell ⟨w.heap.size,j * 3+2,none⟩ (.int .i64 z)) n F (j+1)):=by
     have h:=rgb_next HS1.out hlt
     rw[← HXY.out.1,← HXY.out.2.1,← HXY.out.2.2] at h
     exact h
    clear p3
    go_wp2_with fail
    go_roundw
    case rel=>exact⟨j+1,by omega,by go_num,HS2⟩
    case measure=>simp [intOf]; omega
  ·obtain rfl:j=n:=by omega
   have HZ:Hid (RgbOwn wr w.heap.size w.heap.size j F∧Below w.heap.size w wr):=by
    obtain⟨h1,cur,h2,h3,h4⟩:=hS.out
    exact⟨⟨Nat.le_refl _,cur,h2,by omega,h4⟩,h1⟩
   go_wp2_with fail
   go_ret
   exact⟨rfl,HZ.out⟩
end
section
open Go.ChangeShapes Go.WideShapes Go.ChangeAt Go.RowKit Go.Joins Go.Deep HeadMath
set_option maxRecDepth 100000 in
theorem open_colors {H:Type} {enc:TypeId×Value→H} {W:World} {spare:Nat→Bool} {fuel:Nat} {a:Option Addr} {len cap:Nat} {x:DataW H×List MemPlace} (h:DataW.trod enc Tryz.prog W 0 spare true fuel 24 [.slice a len cap]=some x):
  ∃ L:List Rgb3,len=L.length∧RgbCame W a len (fun j=>L.getD j (0,0,0))∧(∀ t∈L,(Lit.int .i64 t.1).wf=true∧(Lit.int .i64 t.2.1).wf=true∧(Lit.int .i64 t.2.2).wf=true)∧len≤maxLen:=by
 have ce:Tryz.prog.cellsOf 92=3:=by kernel_rfl
 have ci:Tryz.prog.cellsOf 3=1:=by kernel_rfl
 rcases open_slice Tryz.underlying24 h with ⟨hcs,_⟩ | ⟨ad,l,c,m,n,D,Pl,hcs,_,hl,hm,hmm,_,hx⟩
 ·simp at hcs
  obtain⟨rfl,rfl,rfl⟩:=hcs
  exact⟨[],rfl,.inl rfl,(fun r hr=>by cases hr),Nat.zero_le _⟩
 ·simp at hcs
  obtain⟨rfl,rfl,rfl⟩:=hcs
  have hlm:len≤m:=by rw [hmm]; split <;> omega
  have each:∀ i,i < len→∃ q:Rgb3,(W.cell? (ad.add (i * 3))=some (.int .i64 q.1)∧W.cell? (ad.add (i * 3+1))=some (.int .i64 q.2.1)∧W.cell? (ad.add (i * 3+2))=some (.int .i64 q.2.2))∧(Lit.int .i64 q.1).wf=true∧(Lit.int .i64 q.2.1).wf=true∧(Lit.int .i64 q.2.2).wf=true:=by
   intro i hi
   obtain⟨cs',h1,h2⟩:=hx i (by omega)
   rw[ce] at h1
   obtain⟨_,hlen,hcell⟩:=World.cells?_some h1
   obtain⟨xs,k,hk,hxy,_,hxl,hf⟩:=DataW.trod_struct Tryz.underlying92 h2
   match xs,hxl,cs',hlen with
   | [y0,y1,y2],_,[v0,v1,v2],_=>
    have g0:=hf 0 _ rfl
    have g1:=hf 1 _ rfl
    have g2:=hf 2 _ rfl
    simp[ci] at g0 g1 g2
    obtain⟨x0,e0,_,f0⟩:=DataW.trod_int Tryz.underlying3 g0
    obtain⟨x1,e1,_,f1⟩:=DataW.trod_int Tryz.underlying3 g1
    obtain⟨x2,e2,_,f2⟩:=DataW.trod_int Tryz.underlying3 g2
    simp at e0 e1 e2
    have k0:=hcell 0 (by omega)
    have k1:=hcell 1 (by omega)
    have k2:=hcell 2 (by omega)
    rw[add_add] at k0 k1 k2
    refine⟨(x0,x1,x2),⟨?_,?_,?_⟩,f0,f1,f2⟩
    ·simpa [e0] using k0
    ·simpa [e1] using k1
    ·simpa [e2] using k2
  obtain⟨q,hq⟩:=choose_lt each
  have hg:∀ j,j < len→((List.range len).map q).getD j (0,0,0)=q j:=by
   intro j hj
   rw[List.getD_eq_getElem?_getD,List.getElem?_map,List.getElem?_range hj]
   rfl
  refine⟨(List.range len).map q,by simp,?_,fun r hr=>?_,by omega⟩
  ·rcases Nat.eq_zero_or_pos len with h0 | h0
   ·exact .inl h0
   ·obtain⟨b,off,spot⟩:=ad
    have h1:=(hq 0 (by omega)).1.1
    have hspot:spot=none:=by simpa [Addr.add] using World.cell?_spot h1
    subst hspot
    have hadd:∀ j,(⟨b,off,none⟩:Addr).add j=⟨b,off+j,none⟩:=fun j=>Addr.add_lit _ _ _
    refine .inr ⟨b,off,rfl,?_,fun j hj=>?_⟩
    ·rw[hadd] at h1
     exact World.block_lt_of_cell? W _ h1
    ·obtain⟨⟨k0,k1,k2⟩,_⟩:=hq j hj
     rw[hadd] at k0 k1 k2
     rw[← Nat.add_assoc] at k1 k2
     show W.cell? _=some (.int .i64 (((List.range len).map q).getD j (0,0,0)).1)∧W.cell? _=some (.int .i64 (((List.range len).map q).getD j (0,0,0)).2.1)∧W.cell? _=some (.int .i64 (((List.range len).map q).getD j (0,0,0)).2.2)
     rw[hg j hj]
     exact⟨k0,k1,k2⟩
  ·obtain⟨i,hi,rfl⟩:=List.mem_map.mp hr
   exact (hq i (List.mem_range.mp hi)).2
end
section
open Go.RowKit Go.Joins
theorem make_chks (w:World) (n:Nat) (hn:n≤1048576):(Instr.makeSlice 35 (.int .i64 n) (.int .i64 n)).run Tryz.prog w=.ok (.slice (some ⟨w.heap.size,0,none⟩) n n) (w.alloc (.cells (madeCells #[.string ByteArray.empty,.string ByteArray.empty] (n * 2)) 93)):=by
 obtain⟨i0,hi0,hz0,hz1,hz2⟩:=info_parts info_chk
 have h:=run_make (P:=Tryz.prog) w 35 93 i0 (.agg #[.string ByteArray.empty,.string ByteArray.empty]) Tryz.underlying35 hi0 hz0 .i64 .i64 n n (by omega) (by omega) (by rw [hz2]; omega) (by omega)
 rw[hz1,Int.toNat_natCast] at h
 exact h
theorem toChunk_any (x y:ByteArray) (w:World):Calls Tryz.prog 73 #[.agg #[.string x,.string y]] w fun e w'=>e=.returned (.agg #[.string x,.string y])∧Below w.heap.size w w':=by
 go_enter Tryz.func73,Tryz.ntmps73
 go_wp2_with fail
 exact bodyPost_ret (v:=.agg #[.string x,.string y]) (by simp [results,Tryz.results73,go_sem]) rfl ⟨rfl,bal (bal (bstart _ _) _) _⟩
def ToStK (w w':World) (n:Nat) (F:Nat→ByteArray×ByteArray) (j:Nat):Prop:=Below w.heap.size w w'∧∃ cur,w'.heap[w.heap.size]?=some (.cells cur 93 (0,0))∧cur.size=n * 2∧∀ i,i < j→cur[i * 2]?=some (.string (F i).1)∧cur[i * 2+1]?=some (.string (F i).2)
theorem ToStK.called {w w1 w2:World} {n:Nat} {F:Nat→ByteArray×ByteArray} {j:Nat} (h:ToStK w w1 n F j) (hb:Below w1.heap.size w1 w2):ToStK w w2 n F j:=by
 obtain⟨h1,cur,h2,h3⟩:=h
 exact⟨bnext h1 hb,cur,(hb.block _ (block_lt h2)).trans h2,h3⟩
theorem to_nextK {w w':World} {n:Nat} {F:Nat→ByteArray×ByteArray} {j:Nat} (h:ToStK w w' n F j) (hj:j < n):ToStK w ((w'.setCell ⟨w.heap.size,j * 2,none⟩ (.string (F j).1)).setCell ⟨w.heap.size,j * 2+1,none⟩ (.string (F j).2)) n F (j+1):=by
 obtain⟨h1,cur,h2,h3,h4⟩:=h
 refine⟨(h1.setCell (p:=⟨w.heap.size,j * 2,none⟩) (Nat.le_refl _) _).setCell (p:=⟨w.heap.size,j * 2+1,none⟩) (Nat.le_refl _) _,(cur.setIfInBounds (j * 2) (.string (F j).1)).setIfInBounds (j * 2+1) (.string (F j).2),?_,by simpa using h3,fun i hi=>?_⟩
 ·simp[World.setCell,Array.getElem?_modify,h2]
 ·by_cases e:i=j
  ·subst e
   refine⟨?_,?_⟩
   ·rw[Array.getElem?_setIfInBounds_ne (by omega),Array.getElem?_setIfInBounds_self_of_lt (by omega)]
   ·rw[Array.getElem?_setIfInBounds_self_of_lt (by simp; omega)]
  ·obtain⟨k1,k2⟩:=h4 i (by omega)
   refine⟨?_,?_⟩
   ·rw[Array.getElem?_setIfInBounds_ne (by omega),Array.getElem?_setIfInBounds_ne (by omega)]; exact k1
   ·rw[Array.getElem?_setIfInBounds_ne (by omega),Array.getElem?_setIfInBounds_ne (by omega)]; exact k2
theorem to_cellK {w w':World} {n:Nat} {F:Nat→ByteArray×ByteArray} {j:Nat} (h:ToStK w w' n F j):w.heap.size < w'.heap.size∧(∀ k,w'.frozen? ⟨w.heap.size,k,none⟩=false)∧(∀ k,k < n * 2→∃ u,w'.cell? ⟨w.heap.size,k,none⟩=some u):=by
 obtain⟨h1,cur,h2,h3,h4⟩:=h
 refine⟨block_lt h2,fun k=>by simp [World.frozen?,h2],fun k hk=>?_⟩
 rw[cell_of_block h2]
 exact⟨cur[k]'(by omega),Array.getElem?_eq_getElem (by omega)⟩
set_option maxHeartbeats 1600000 in
theorem toChunkS_any (a:Option Addr) (n c:Nat) (F:Nat→ByteArray×ByteArray) (w:World) (hC:KCame w a n F) (hn:n≤1048576):
  Calls Tryz.prog 35 #[.slice a n c] w fun e w'=>e=.returned (.slice (some ⟨w.heap.size,0,none⟩) n n)∧KOwn w' w.heap.size w.heap.size n F∧Below w.heap.size w w':=by
 have HC:=hid_of hC
 have hmk:=make_chks w n hn
 have H0:Hid (ToStK w (w.alloc (.cells (madeCells #[.string ByteArray.empty,.string ByteArray.empty] (n * 2)) 93)) n F 0):=⟨bstart _ _,_,heap_alloc_new w _,by rw [size_madeCells],fun i hi=>absurd hi (Nat.not_lt_zero i)⟩
 generalize w.alloc (.cells (madeCells #[.string ByteArray.empty,.string ByteArray.empty] (n * 2)) 93)=w0 at hmk H0
 clear hC
 go_enter Tryz.func35,Tryz.ntmps35
 go_wp2_with fail
 go_loopw [4] (fun i w'=>∃ j:Nat,j≤n∧i=.int .i64 j∧Hid (ToStK w w' n F j)) (fun i _=>n - (intOf i).toNat)
 case atStart=>exact⟨0,Nat.zero_le _,rfl,H0⟩
 case round=>
  clear H0 hmk
  obtain⟨j,hj,rfl,hS⟩:=hrel
  by_cases hlt:j < n
  ·rcases HC.out with h0 | ⟨g,off,rfl,hg,hc⟩
   ·omega
   ·have c0:wr.cell? ⟨g,off+j * 2,none⟩=some (.string (F j).1):=(hS.out.1.cell (p:=⟨g,off+j * 2,none⟩) hg).trans (hc j hlt).1
    have c1:wr.cell? ⟨g,off+j * 2+1,none⟩=some (.string (F j).2):=(hS.out.1.cell (p:=⟨g,off+j * 2+1,none⟩) hg).trans (hc j hlt).2
    have hl2:g < wr.heap.size:=Nat.lt_of_lt_of_le hg hS.out.1.size
    clear hc
    obtain⟨x,hx⟩:∃ x,x=(F j).1:=⟨_,rfl⟩
    obtain⟨y,hy⟩:∃ y,y=(F j).2:=⟨_,rfl⟩
    rw[← hx] at c0
    rw[← hy] at c1
    have HXY:=hid_of (And.intro hx hy)
    clear hx hy
    go_wp2_with fail
    refine (toChunk_any x y wr).mono ?_
    rintro e w1 ⟨rfl,hB⟩
    have HS1:=hid_of (hS.out.called hB)
    clear hB
    obtain⟨p1,p2,p3⟩:=to_cellK HS1.out
    obtain⟨u0,q0⟩:=p3 (j * 2) (by omega)
    obtain⟨u1,q1⟩:=p3 (j * 2+1) (by omega)
    have HS2:Hid (ToStK w ((w1.setCell ⟨w.heap.size,j * 2,none⟩ (.string x)).setCell ⟨w.heap.size,j * 2+1,none⟩ (.string y)) n F (j+1)):=by
     have h:=to_nextK HS1.out hlt
     rw[← HXY.out.1,← HXY.out.2] at h
     exact h
    clear p3
    go_wp2_with fail
    go_roundw
    case rel=>exact⟨j+1,by omega,by go_num,HS2⟩
    case measure=>simp [intOf]; omega
  ·obtain rfl:j=n:=by omega
   have HZ:Hid (KOwn wr w.heap.size w.heap.size j F∧Below w.heap.size w wr):=by
    obtain⟨h1,cur,h2,h3,h4⟩:=hS.out
    exact⟨⟨Nat.le_refl _,cur,h2,by omega,h4⟩,h1⟩
   go_wp2_with fail
   go_ret
   exact⟨rfl,HZ.out⟩
end
section
open Go.RowKit Go.Joins
theorem szChunk_any (x y:ByteArray) (l:Int) (w:World) (hl0:0≤l) (hl:l≤1048576) (hx:x.size≤9223372036854775807) (hy:y.size≤9223372036854775807):
  Calls Tryz.prog 68 #[.agg #[.string x,.string y],.int .i64 l] w fun e w'=>(∃ z:Int,e=.returned (.int .i64 z)∧(z=-1∨0≤z∧z≤l∧x.size≤1048576∧y.size≤1048576))∧Below w.heap.size w w':=by
 by_cases h1:l - (x.size:Int) < 0
 ·have d1:decide (l - (x.size:Int) < 0)=true:=decide_eq_true h1
  go_enter Tryz.func68,Tryz.ntmps68
  go_wp2_with fail
  go_ret
  exact⟨⟨-1,rfl,.inl rfl⟩,bstart _ _⟩
 ·have d1:decide (l - (x.size:Int) < 0)=false:=decide_eq_false h1
  by_cases h2:l - (x.size:Int) - (y.size:Int) < 0
  ·have d2:decide (l - (x.size:Int) - (y.size:Int) < 0)=true:=decide_eq_true h2
   go_enter Tryz.func68,Tryz.ntmps68
   go_wp2_with fail
   go_ret
   exact⟨⟨-1,rfl,.inl rfl⟩,bstart _ _⟩
  ·have d2:decide (l - (x.size:Int) - (y.size:Int) < 0)=false:=decide_eq_false h2
   go_enter Tryz.func68,Tryz.ntmps68
   go_wp2_with fail
   go_ret
   exact⟨⟨_,rfl,.inr ⟨by omega,by omega,by omega,by omega⟩⟩,bstart _ _⟩
def SzI (w w':World) (F:Nat→ByteArray×ByteArray) (j:Nat):Prop:=Below w.heap.size w w'∧∀ i,i < j→(F i).1.size≤1048576∧(F i).2.size≤1048576
def SzPost (w:World) (n:Nat) (F:Nat→ByteArray×ByteArray) (e:Ending) (w':World):Prop:=∃ z:Int,e=.returned (.int .i64 z)∧(z=-1∨0≤z∧z≤1048576∧n≤1048576∧∀ i,i < n→(F i).1.size≤1048576∧(F i).2.size≤1048576)∧Below w.heap.size w w'
set_option maxHeartbeats 1600000 in
theorem szChunkS_at (z0:Int) (hz0:0≤z0) (hz1:z0≤1048576) (a:Option Addr) (n c:Nat) (F:Nat→ByteArray×ByteArray) (w:World) (hC:KCame w a n F) (hn:n≤9223372036854775807) (hm:∀ i,i < n→(F i).1.size≤9223372036854775807∧(F i).2.size≤9223372036854775807):
  Calls Tryz.prog 26 #[.slice a n c,.int .i64 z0] w (SzPost w n F):=by
 unfold SzPost
 by_cases h1:z0 - (n:Int) < 0
 ·have d1:decide (z0 - (n:Int) < 0)=true:=decide_eq_true h1
  clear hm hC
  go_enter Tryz.func26,Tryz.ntmps26
  go_wp2_with fail
  go_ret
  exact⟨-1,rfl,.inl rfl,Below.refl _ _⟩
 ·have d1:decide (z0 - (n:Int) < 0)=false:=decide_eq_false h1
  have HC:=hid_of hC
  have HM:=hid_of hm
  have hn2:n≤1048576:=by omega
  have hz2:0≤z0 - (n:Int)∧z0 - (n:Int)≤1048576:=by omega
  clear hC hm h1 hz0 hz1
  go_enter Tryz.func26,Tryz.ntmps26
  go_wp2_with fail
  go_loopw [1,5] (fun z i w'=>∃ (j:Nat) (l:Int),j≤n∧i=.int .i64 j∧z=.int .i64 l∧0≤l∧l≤1048576∧Hid (SzI w w' F j)) (fun _ i _=>n - (intOf i).toNat)
  case atStart=>exact⟨0,_,Nat.zero_le _,rfl,rfl,hz2.1,hz2.2,Below.refl _ _,fun i hi=>absurd hi (Nat.not_lt_zero i)⟩
  case round=>
   obtain⟨j,l,hj,rfl,rfl,hl0,hl1,hI⟩:=hrel
   by_cases hlt:j < n
   ·rcases HC.out with h0 | ⟨g,off,rfl,hg,hc⟩
    ·omega
    ·have c0:wr.cell? ⟨g,off+j * 2,none⟩=some (.string (F j).1):=(hI.out.1.cell (p:=⟨g,off+j * 2,none⟩) hg).trans (hc j hlt).1
     have c1:wr.cell? ⟨g,off+j * 2+1,none⟩=some (.string (F j).2):=(hI.out.1.cell (p:=⟨g,off+j * 2+1,none⟩) hg).trans (hc j hlt).2
     have hs:=szChunk_any (F j).1 (F j).2 l wr hl0 hl1 (HM.out j hlt).1 (HM.out j hlt).2
     have hl2:g < wr.heap.size:=Nat.lt_of_lt_of_le hg hI.out.1.size
     have HE:Hid (∀ w1,Below wr.heap.size wr w1→(F j).1.size≤1048576∧(F j).2.size≤1048576→SzI w w1 F (j+1)):=fun w1 hb hz=>⟨bnext hI.out.1 hb,fun i hi=>by
      by_cases e:i=j
      ·rw[e]; exact hz
      ·exact hI.out.2 i (by omega)⟩
     have HI1:=hid_of hI.out.1
     generalize (F j).1=x at *
     generalize (F j).2=y at *
     clear hc hI
     go_wp2_with fail
     refine hs.mono ?_
     rintro e w1 ⟨⟨z,rfl,hz⟩,hB⟩
     rcases hz with rfl | ⟨z0,z1,z2,z3⟩
     ·have HB:=hid_of (bnext HI1.out hB)
      clear hB HE
      go_wp2_with fail
      go_ret
      exact⟨-1,rfl,.inl rfl,HB.out⟩
     ·have HN:=hid_of (HE.out w1 hB ⟨z2,z3⟩)
      have dz:decide (z < 0)=false:=decide_eq_false (by omega)
      clear hB HE hs
      go_wp2_with fail
      go_roundw
      case rel=>exact⟨j+1,z,by omega,by go_num,rfl,z0,by omega,HN⟩
      case measure=>simp [intOf]; omega
   ·obtain rfl:j=n:=by omega
    go_wp2_with fail
    go_ret
    exact⟨l,rfl,.inr ⟨hl0,hl1,hn2,hI.out.2⟩,hI.out.1⟩
end
section
open Go.ChangeShapes Go.WideShapes Go.ChangeAt Go.RowKit Go.Joins Go.Deep
def txtOf:Value→ByteArray
 | .string s=>s
 | _=>ByteArray.empty
theorem open_chunks {H:Type} {enc:TypeId×Value→H} {W:World} {spare:Nat→Bool} {fuel:Nat} {a:Option Addr} {len cap:Nat} {x:DataW H×List MemPlace} (h:DataW.trod enc Tryz.prog W 0 spare true fuel 28 [.slice a len cap]=some x):
  ∃ L:List (ByteArray×ByteArray),len=L.length∧KCame W a len (fun j=>L.getD j (ByteArray.empty,ByteArray.empty))∧(∀ r∈L,r.1.size≤maxLen∧r.2.size≤maxLen)∧len≤maxLen:=by
 rcases open_slice_pairs Tryz.underlying28 Tryz.underlying89 (by kernel_rfl) rfl rfl (by kernel_rfl) (by kernel_rfl) h with ⟨hcs,_⟩ | ⟨ad,l,c,m,n,V0,V1,D0,D1,P0,P1,hcs,_,hl,hm,hmm,_,hx⟩
 ·simp at hcs
  obtain⟨rfl,rfl,rfl⟩:=hcs
  exact⟨[],rfl,.inl rfl,(fun r hr=>by cases hr),Nat.zero_le _⟩
 ·simp at hcs
  obtain⟨rfl,rfl,rfl⟩:=hcs
  have hlm:len≤m:=by rw [hmm]; split <;> omega
  have each:∀ i,i < len→V0 i=.string (txtOf (V0 i))∧V1 i=.string (txtOf (V1 i))∧(txtOf (V0 i)).size≤maxLen∧(txtOf (V1 i)).size≤maxLen:=by
   intro i hi
   obtain⟨_,_,g0,g1⟩:=hx i (by omega)
   obtain⟨x0,e0,_,f0⟩:=DataW.trod_string Tryz.underlying9 g0
   obtain⟨x1,e1,_,f1⟩:=DataW.trod_string Tryz.underlying9 g1
   simp at e0 e1
   rw[e0,e1]
   exact⟨rfl,rfl,f0,f1⟩
  have hg:∀ j,j < len→((List.range len).map fun i=>(txtOf (V0 i),txtOf (V1 i))).getD j (ByteArray.empty,ByteArray.empty)=(txtOf (V0 j),txtOf (V1 j)):=by
   intro j hj
   rw[List.getD_eq_getElem?_getD,List.getElem?_map,List.getElem?_range hj]
   rfl
  refine⟨(List.range len).map fun i=>(txtOf (V0 i),txtOf (V1 i)),by simp,?_,fun r hr=>?_,by omega⟩
  ·rcases Nat.eq_zero_or_pos len with h0 | h0
   ·exact .inl h0
   ·obtain⟨b,off,spot⟩:=ad
    have h1:=(hx 0 (by omega)).1
    have hspot:spot=none:=by simpa [Addr.add] using World.cell?_spot h1
    subst hspot
    have hadd:∀ j,(⟨b,off,none⟩:Addr).add j=⟨b,off+j,none⟩:=fun j=>Addr.add_lit _ _ _
    refine .inr ⟨b,off,rfl,?_,fun j hj=>?_⟩
    ·rw[hadd] at h1
     exact World.block_lt_of_cell? W _ h1
    ·obtain⟨k0,k1,_,_⟩:=hx j (by omega)
     obtain⟨e0,e1,_,_⟩:=each j hj
     rw[hadd] at k0 k1
     rw[← Nat.add_assoc] at k1
     show W.cell? _=some (.string (((List.range len).map fun i=>(txtOf (V0 i),txtOf (V1 i))).getD j (ByteArray.empty,ByteArray.empty)).1)∧W.cell? _=some (.string (((List.range len).map fun i=>(txtOf (V0 i),txtOf (V1 i))).getD j (ByteArray.empty,ByteArray.empty)).2)
     rw[hg j hj,k0,k1]
     exact⟨congrArg some e0,congrArg some e1⟩
  ·obtain⟨i,hi,rfl⟩:=List.mem_map.mp hr
   have:=each i (List.mem_range.mp hi)
   exact⟨this.2.2.1,this.2.2.2⟩
end
section
open Go.RowKit Go.Joins
set_option maxHeartbeats 1600000 in
theorem toHead_any (x y d c:Int) (l:Bool) (w:World):
  Calls Tryz.prog 31 #[.agg #[.int .i64 x,.int .i64 y,.int .i64 d,.int .i64 c,.bool l]] w fun e w'=>e=.returned (.agg #[.int .i64 x,.int .i64 y,.int .i64 d,.int .i64 c,.bool l])∧Below w.heap.size w w':=by
 go_enter Tryz.func31,Tryz.ntmps31
 go_wp2_with fail
 refine bodyPost_ret (v:=.agg #[.int .i64 x,.int .i64 y,.int .i64 d,.int .i64 c,.bool l]) ?_ rfl ⟨rfl,?_⟩
 ·simp[results,Tryz.results31,go_sem, *]
 ·first | exact bal (bal (bstart _ _) _) _ | exact bal (bstart _ _) _
theorem eqHead_same (x y d c:Int) (l:Bool) (w:World):
  Calls Tryz.prog 41 #[.agg #[.int .i64 x,.int .i64 y,.int .i64 d,.int .i64 c,.bool l],.agg #[.int .i64 x,.int .i64 y,.int .i64 d,.int .i64 c,.bool l]] w fun e w'=>e=.returned (.bool true)∧Below w.heap.size w w':=by
 have n0:(x != x)=false:=by simp
 have n1:(y != y)=false:=by simp
 have n2:(d != d)=false:=by simp
 have n3:(c != c)=false:=by simp
 have n4:(l != l)=false:=by simp
 go_enter Tryz.func41,Tryz.ntmps41
 go_wp2_with fail
 go_ret
 exact⟨rfl,bal (bstart _ _) _⟩
end
section
open Go.ChangeShapes Go.WideShapes Go.ChangeAt Go.RowKit Go.Joins Go.Deep Go.WideElems
theorem slice_of_trod {H:Type} {enc:TypeId×Value→H} {W:World} {fuel:Nat} {t e:TypeId} {v:Value} {x:DataW H×List MemPlace} (ht:Tryz.prog.underlying t=some (.slice e)) (h:DataW.trod enc Tryz.prog W 0 (fun _=>true) true fuel t [v]=some x):∃ a l c,v=.slice a l c:=by
 rcases open_slice ht h with ⟨hcs,_⟩ | ⟨ad,l,c,m,n,D,Pl,hcs,_⟩
 ·simp at hcs
  exact⟨_,_,_,hcs⟩
 ·simp at hcs
  exact⟨_,_,_,hcs⟩
theorem row_of_trod {H:Type} {enc:TypeId×Value→H} {W:World} {fuel:Nat} {a:Option Addr} {l c:Nat} {x:DataW H×List MemPlace} (h:DataW.trod enc Tryz.prog W 0 (fun _=>true) true fuel 25 [.slice a l c]=some x):∃ zs,IsRow .i64 W a l c zs:=by
 rcases open_ints Tryz.underlying25 Tryz.underlying3 (by kernel_rfl) h with ⟨hcs,_⟩ | ⟨x,l,c,zs,hcs,_,hl,hm,hz,_,hcell,hwz⟩
 ·simp at hcs
  obtain⟨rfl,rfl,rfl⟩:=hcs
  exact⟨[],.inl ⟨rfl,rfl,rfl,rfl⟩⟩
 ·simp at hcs
  obtain⟨rfl,rfl,rfl⟩:=hcs
  exact⟨zs,.inr ⟨_,rfl,hl,hm,by simpa using hz,hcell,hwz⟩⟩
end
end Go.Proofs.YtkpbfmdnjnohlaaGreat
