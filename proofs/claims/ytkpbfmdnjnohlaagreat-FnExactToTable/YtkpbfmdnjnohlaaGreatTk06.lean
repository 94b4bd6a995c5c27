/-
  Texts of the proof, put together.
-/
import Derived.Test.YtkpbfmdnjnohlaaGreatTk03
import Derived.Deep.SlicePairs
namespace Go.Proofs.YtkpbfmdnjnohlaaGreat
section
open Go.RowKit Go.Joins
theorem make_chks (w:World) (n:Nat) (hn:n≤1048576):(Instr.makeSlice 35 (.int .i64 n) (.int .i64 n)).run Tryz.prog w=.ok (.slice (some ⟨w.heap.size,0,none⟩) n n) (w.alloc (.cells (madeCells #[.string ByteArray.empty,.string ByteArray.empty] (n * 2)) 93)):=by
 obtain⟨i0,hi0,hz0,hz1,hz2⟩:=info_parts info_chk
 have h:=run_make (P:=Tryz.prog) w 35 93 i0 (.agg #[.string ByteArray.empty,.string ByteArray.empty]) Tryz.underlying35 hi0 hz0 .i64 .i64 n n (by omega) (by omega) (by rw [hz2]; omega) (by omega)
 rw[hz1,Int.toNat_natCast] at h
 exact h
theorem toChunk_any (x y:ByteArray) (w:World):Calls Tryz.prog 73 #[.agg #[.string x,.string y]] w fun e w'=>e=.returned (.agg #[.string x,.string y])∧Below w.heap.size w w':=by
 go_enter Tryz.func73,Tryz.ntmps73
 go_wp2_with fail
 exact bodyPost_ret (v:=.agg #[.string x,.string y]) (by simp [results,Tryz.results73,go_sem]) rfl ⟨rfl,bal (bal (bstart _ _) _) _⟩
def ToStK (w w':World) (n:Nat) (F:Nat→ByteArray×ByteArray) (j:Nat):Prop:=Below w.heap.size w w'∧∃ cur,w'.heap[w.heap.size]?=some (.cells cur 93 (0,0))∧cur.size=n * 2∧∀ i,i < j→cur[i * 2]?=some (.string (F i).1)∧cur[i * 2+1]?=some (.string (F i).2)
theorem ToStK.called {w w1 w2:World} {n:Nat} {F:Nat→ByteArray×ByteArray} {j:Nat} (h:ToStK w w1 n F j) (hb:Below w1.heap.size w1 w2):ToStK w w2 n F j:=by
 obtain⟨h1,cur,h2,h3⟩:=h
 exact⟨bnext h1 hb,cur,(hb.block _ (block_lt h2)).trans h2,h3⟩
theorem to_nextK {w w':World} {n:Nat} {F:Nat→ByteArray×ByteArray} {j:Nat} (h:ToStK w w' n F j) (hj:j < n):ToStK w ((w'.setCell ⟨w.heap.size,j * 2,none⟩ (.string (F j).1)).setCell ⟨w.heap.size,j * 2+1,none⟩ (.string (F j).2)) n F (j+1):=by
 obtain⟨h1,cur,h2,h3,h4⟩:=h
 refine⟨(h1.setCell (p:=⟨w.heap.size,j * 2,none⟩) (Nat.le_refl _) _).setCell (p:=⟨w.heap.size,j * 2+1,none⟩) (Nat.le_refl _) _,(cur.setIfInBounds (j * 2) (.string (F j).1)).setIfInBounds (j * 2+1) (.string (F j).2),?_,by simpa using h3,fun i hi=>?_⟩
 ·simp[World.setCell,Array.getElem?_modify,h2]
 ·by_cases e:i=j
  ·subst e
   refine⟨?_,?_⟩
   ·rw[Array.getElem?_setIfInBounds_ne (by omega),Array.getElem?_setIfInBounds_self_of_lt (by omega)]
   ·rw[Array.getElem?_setIfInBounds_self_of_lt (by simp; omega)]
  ·obtain⟨k1,k2⟩:=h4 i (by omega)
   refine⟨?_,?_⟩
   ·rw[Array.getElem?_setIfInBounds_ne (by omega),Array.getElem?_setIfInBounds_ne (by omega)]; exact k1
   ·rw[Array.getElem?_setIfInBounds_ne (by omega),Array.getElem?_setIfInBounds_ne (by omega)]; exact k2
theorem to_cellK {w w':World} {n:Nat} {F:Nat→ByteArray×ByteArray} {j:Nat} (h:ToStK w w' n F j):w.heap.size < w'.heap.size∧(∀ k,w'.frozen? ⟨w.heap.size,k,none⟩=false)∧(∀ k,k < n * 2→∃ u,w'.cell? ⟨w.heap.size,k,none⟩=some u):=by
 obtain⟨h1,cur,h2,h3,h4⟩:=h
 refine⟨block_lt h2,fun k=>by simp [World.frozen?,h2],fun k hk=>?_⟩
 rw[cell_of_block h2]
 exact⟨cur[k]'(by omega),Array.getElem?_eq_getElem (by omega)⟩
set_option maxHeartbeats 1600000 in
theorem toChunkS_any (a:Option Addr) (n c:Nat) (F:Nat→ByteArray×ByteArray) (w:World) (hC:KCame w a n F) (hn:n≤1048576):
  Calls Tryz.prog 35 #[.slice a n c] w fun e w'=>e=.returned (.slice (some ⟨w.heap.size,0,none⟩) n n)∧KOwn w' w.heap.size w.heap.size n F∧Below w.heap.size w w':=by
 have HC:=hid_of hC
 have hmk:=make_chks w n hn
 have H0:Hid (ToStK w (w.alloc (.cells (madeCells #[.string ByteArray.empty,.string ByteArray.empty] (n * 2)) 93)) n F 0):=⟨bstart _ _,_,heap_alloc_new w _,by rw [size_madeCells],fun i hi=>absurd hi (Nat.not_lt_zero i)⟩
 generalize w.alloc (.cells (madeCells #[.string ByteArray.empty,.string ByteArray.empty] (n * 2)) 93)=w0 at hmk H0
 clear hC
 go_enter Tryz.func35,Tryz.ntmps35
 go_wp2_with fail
 go_loopw [4] (fun i w'=>∃ j:Nat,j≤n∧i=.int .i64 j∧Hid (ToStK w w' n F j)) (fun i _=>n - (intOf i).toNat)
 case atStart=>exact⟨0,Nat.zero_le _,rfl,H0⟩
 case round=>
  clear H0 hmk
  obtain⟨j,hj,rfl,hS⟩:=hrel
  by_cases hlt:j < n
  ·rcases HC.out with h0 | ⟨g,off,rfl,hg,hc⟩
   ·omega
   ·have c0:wr.cell? ⟨g,off+j * 2,none⟩=some (.string (F j).1):=(hS.out.1.cell (p:=⟨g,off+j * 2,none⟩) hg).trans (hc j hlt).1
    have c1:wr.cell? ⟨g,off+j * 2+1,none⟩=some (.string (F j).2):=(hS.out.1.cell (p:=⟨g,off+j * 2+1,none⟩) hg).trans (hc j hlt).2
    have hl2:g < wr.heap.size:=Nat.lt_of_lt_of_le hg hS.out.1.size
    clear hc
    obtain⟨x,hx⟩:∃ x,x=(F j).1:=⟨_,rfl⟩
    obtain⟨y,hy⟩:∃ y,y=(F j).2:=⟨_,rfl⟩
    rw[← hx] at c0
    rw[← hy] at c1
    have HXY:=hid_of (And.intro hx hy)
    clear hx hy
    go_wp2_with fail
    refine (toChunk_any x y wr).mono ?_
    rintro e w1 ⟨rfl,hB⟩
    have HS1:=hid_of (hS.out.called hB)
    clear hB
    obtain⟨p1,p2,p3⟩:=to_cellK HS1.out
    obtain⟨u0,q0⟩:=p3 (j * 2) (by omega)
    obtain⟨u1,q1⟩:=p3 (j * 2+1) (by omega)
    have HS2:Hid (ToStK w ((w1.setCell ⟨w.heap.size,j * 2,none⟩ (.string x)).setCell ⟨w.heap.size,j * 2+1,none⟩ (.string y)) n F (j+1)):=by
     have h:=to_nextK HS1.out hlt
     rw[← HXY.out.1,← HXY.out.2] at h
     exact h
    clear p3
    go_wp2_with fail
    go_roundw
    case rel=>exact⟨j+1,by omega,by go_num,HS2⟩
    case measure=>simp [intOf]; omega
  ·obtain rfl:j=n:=by omega
   have HZ:Hid (KOwn wr w.heap.size w.heap.size j F∧Below w.heap.size w wr):=by
    obtain⟨h1,cur,h2,h3,h4⟩:=hS.out
    exact⟨⟨Nat.le_refl _,cur,h2,by omega,h4⟩,h1⟩
   go_wp2_with fail
   go_ret
   exact⟨rfl,HZ.out⟩
end
section
open Go.RowKit Go.Joins
theorem szChunk_any (x y:ByteArray) (l:Int) (w:World) (hl0:0≤l) (hl:l≤1048576) (hx:x.size≤9223372036854775807) (hy:y.size≤9223372036854775807):
  Calls Tryz.prog 68 #[.agg #[.string x,.string y],.int .i64 l] w fun e w'=>(∃ z:Int,e=.returned (.int .i64 z)∧(z=-1∨0≤z∧z≤l∧x.size≤1048576∧y.size≤1048576))∧Below w.heap.size w w':=by
 by_cases h1:l - (x.size:Int) < 0
 ·have d1:decide (l - (x.size:Int) < 0)=true:=decide_eq_true h1
  go_enter Tryz.func68,Tryz.ntmps68
  go_wp2_with fail
  go_ret
  exact⟨⟨-1,rfl,.inl rfl⟩,bstart _ _⟩
 ·have d1:decide (l - (x.size:Int) < 0)=false:=decide_eq_false h1
  by_cases h2:l - (x.size:Int) - (y.size:Int) < 0
  ·have d2:decide (l - (x.size:Int) - (y.size:Int) < 0)=true:=decide_eq_true h2
   go_enter Tryz.func68,Tryz.ntmps68
   go_wp2_with fail
   go_ret
   exact⟨⟨-1,rfl,.inl rfl⟩,bstart _ _⟩
  ·have d2:decide (l - (x.size:Int) - (y.size:Int) < 0)=false:=decide_eq_false h2
   go_enter Tryz.func68,Tryz.ntmps68
   go_wp2_with fail
   go_ret
   exact⟨⟨_,rfl,.inr ⟨by omega,by omega,by omega,by omega⟩⟩,bstart _ _⟩
def SzI (w w':World) (F:Nat→ByteArray×ByteArray) (j:Nat):Prop:=Below w.heap.size w w'∧∀ i,i < j→(F i).1.size≤1048576∧(F i).2.size≤1048576
def SzPost (w:World) (n:Nat) (F:Nat→ByteArray×ByteArray) (e:Ending) (w':World):Prop:=∃ z:Int,e=.returned (.int .i64 z)∧(z=-1∨0≤z∧z≤1048576∧n≤1048576∧∀ i,i < n→(F i).1.size≤1048576∧(F i).2.size≤1048576)∧Below w.heap.size w w'
set_option maxHeartbeats 1600000 in
theorem szChunkS_at (z0:Int) (hz0:0≤z0) (hz1:z0≤1048576) (a:Option Addr) (n c:Nat) (F:Nat→ByteArray×ByteArray) (w:World) (hC:KCame w a n F) (hn:n≤9223372036854775807) (hm:∀ i,i < n→(F i).1.size≤9223372036854775807∧(F i).2.size≤9223372036854775807):
  Calls Tryz.prog 26 #[.slice a n c,.int .i64 z0] w (SzPost w n F):=by
 unfold SzPost
 by_cases h1:z0 - (n:Int) < 0
 ·have d1:decide (z0 - (n:Int) < 0)=true:=decide_eq_true h1
  clear hm hC
  go_enter Tryz.func26,Tryz.ntmps26
  go_wp2_with fail
  go_ret
  exact⟨-1,rfl,.inl rfl,Below.refl _ _⟩
 ·have d1:decide (z0 - (n:Int) < 0)=false:=decide_eq_false h1
  have HC:=hid_of hC
  have HM:=hid_of hm
  have hn2:n≤1048576:=by omega
  have hz2:0≤z0 - (n:Int)∧z0 - (n:Int)≤1048576:=by omega
  clear hC hm h1 hz0 hz1
  go_enter Tryz.func26,Tryz.ntmps26
  go_wp2_with fail
  go_loopw [1,5] (fun z i w'=>∃ (j:Nat) (l:Int),j≤n∧i=.int .i64 j∧z=.int .i64 l∧0≤l∧l≤1048576∧Hid (SzI w w' F j)) (fun _ i _=>n - (intOf i).toNat)
  case atStart=>exact⟨0,_,Nat.zero_le _,rfl,rfl,hz2.1,hz2.2,Below.refl _ _,fun i hi=>absurd hi (Nat.not_lt_zero i)⟩
  case round=>
   obtain⟨j,l,hj,rfl,rfl,hl0,hl1,hI⟩:=hrel
   by_cases hlt:j < n
   ·rcases HC.out with h0 | ⟨g,off,rfl,hg,hc⟩
    ·omega
    ·have c0:wr.cell? ⟨g,off+j * 2,none⟩=some (.string (F j).1):=(hI.out.1.cell (p:=⟨g,off+j * 2,none⟩) hg).trans (hc j hlt).1
     have c1:wr.cell? ⟨g,off+j * 2+1,none⟩=some (.string (F j).2):=(hI.out.1.cell (p:=⟨g,off+j * 2+1,none⟩) hg).trans (hc j hlt).2
     have hs:=szChunk_any (F j).1 (F j).2 l wr hl0 hl1 (HM.out j hlt).1 (HM.out j hlt).2
     have hl2:g < wr.heap.size:=Nat.lt_of_lt_of_le hg hI.out.1.size
     have HE:Hid (∀ w1,Below wr.heap.size wr w1→(F j).1.size≤1048576∧(F j).2.size≤1048576→SzI w w1 F (j+1)):=fun w1 hb hz=>⟨bnext hI.out.1 hb,fun i hi=>by
      by_cases e:i=j
      ·rw[e]; exact hz
      ·exact hI.out.2 i (by omega)⟩
     have HI1:=hid_of hI.out.1
     generalize (F j).1=x at *
     generalize (F j).2=y at *
     clear hc hI
     go_wp2_with fail
     refine hs.mono ?_
     rintro e w1 ⟨⟨z,rfl,hz⟩,hB⟩
     rcases hz with rfl | ⟨z0,z1,z2,z3⟩
     ·have HB:=hid_of (bnext HI1.out hB)
      clear hB HE
      go_wp2_with fail
      go_ret
      exact⟨-1,rfl,.inl rfl,HB.out⟩
     ·have HN:=hid_of (HE.out w1 hB ⟨z2,z3⟩)
      have dz:decide (z < 0)=false:=decide_eq_false (by omega)
      clear hB HE hs
      go_wp2_with fail
      go_roundw
      case rel=>exact⟨j+1,z,by omega,by go_num,rfl,z0,by omega,HN⟩
      case measure=>simp [intOf]; omega
   ·obtain rfl:j=n:=by omega
    go_wp2_with fail
    go_ret
    exact⟨l,rfl,.inr ⟨hl0,hl1,hn2,hI.out.2⟩,hI.out.1⟩
end
section
open Go.ChangeShapes Go.WideShapes Go.ChangeAt Go.RowKit Go.Joins Go.Deep
def txtOf:Value→ByteArray
 | .string s=>s
 | _=>ByteArray.empty
theorem open_chunks {H:Type} {enc:TypeId×Value→H} {W:World} {spare:Nat→Bool} {fuel:Nat} {a:Option Addr} {len cap:Nat} {x:DataW H×List MemPlace} (h:DataW.trod enc Tryz.prog W 0 spare true fuel 28 [.slice a len cap]=some x):
  ∃ L:List (ByteArray×ByteArray),len=L.length∧KCame W a len (fun j=>L.getD j (ByteArray.empty,ByteArray.empty))∧(∀ r∈L,r.1.size≤maxLen∧r.2.size≤maxLen)∧len≤maxLen:=by
 rcases open_slice_pairs Tryz.underlying28 Tryz.underlying89 (by kernel_rfl) rfl rfl (by kernel_rfl) (by kernel_rfl) h with ⟨hcs,_⟩ | ⟨ad,l,c,m,n,V0,V1,D0,D1,P0,P1,hcs,_,hl,hm,hmm,_,hx⟩
 ·simp at hcs
  obtain⟨rfl,rfl,rfl⟩:=hcs
  exact⟨[],rfl,.inl rfl,(fun r hr=>by cases hr),Nat.zero_le _⟩
 ·simp at hcs
  obtain⟨rfl,rfl,rfl⟩:=hcs
  have hlm:len≤m:=by rw [hmm]; split <;> omega
  have each:∀ i,i < len→V0 i=.string (txtOf (V0 i))∧V1 i=.string (txtOf (V1 i))∧(txtOf (V0 i)).size≤maxLen∧(txtOf (V1 i)).size≤maxLen:=by
   intro i hi
   obtain⟨_,_,g0,g1⟩:=hx i (by omega)
   obtain⟨x0,e0,_,f0⟩:=DataW.trod_string Tryz.underlying9 g0
   obtain⟨x1,e1,_,f1⟩:=DataW.trod_string Tryz.underlying9 g1
   simp at e0 e1
   rw[e0,e1]
   exact⟨rfl,rfl,f0,f1⟩
  have hg:∀ j,j < len→((List.range len).map fun i=>(txtOf (V0 i),txtOf (V1 i))).getD j (ByteArray.empty,ByteArray.empty)=(txtOf (V0 j),txtOf (V1 j)):=by
   intro j hj
   rw[List.getD_eq_getElem?_getD,List.getElem?_map,List.getElem?_range hj]
   rfl
  refine⟨(List.range len).map fun i=>(txtOf (V0 i),txtOf (V1 i)),by simp,?_,fun r hr=>?_,by omega⟩
  ·rcases Nat.eq_zero_or_pos len with h0 | h0
   ·exact .inl h0
   ·obtain⟨b,off,spot⟩:=ad
    have h1:=(hx 0 (by omega)).1
    have hspot:spot=none:=by simpa [Addr.add] using World.cell?_spot h1
    subst hspot
    have hadd:∀ j,(⟨b,off,none⟩:Addr).add j=⟨b,off+j,none⟩:=fun j=>Addr.add_lit _ _ _
    refine .inr ⟨b,off,rfl,?_,fun j hj=>?_⟩
    ·rw[hadd] at h1
     exact World.block_lt_of_cell? W _ h1
    ·obtain⟨k0,k1,_,_⟩:=hx j (by omega)
     obtain⟨e0,e1,_,_⟩:=each j hj
     rw[hadd] at k0 k1
     rw[← Nat.add_assoc] at k1
     show W.cell? _=some (.string (((List.range len).map fun i=>(txtOf (V0 i),txtOf (V1 i))).getD j (ByteArray.empty,ByteArray.empty)).1)∧W.cell? _=some (.string (((List.range len).map fun i=>(txtOf (V0 i),txtOf (V1 i))).getD j (ByteArray.empty,ByteArray.empty)).2)
     rw[hg j hj,k0,k1]
     exact⟨congrArg some e0,congrArg some e1⟩
  ·obtain⟨i,hi,rfl⟩:=List.mem_map.mp hr
   have:=each i (List.mem_range.mp hi)
   exact⟨this.2.2.1,this.2.2.2⟩
end
section
open Go.RowKit Go.Joins
set_option maxHeartbeats 1600000 in
theorem toHead_any (x y d c:Int) (l:Bool) (w:World):
  Calls Tryz.prog 31 #[.agg #[.int .i64 x,.int .i64 y,.int .i64 d,.int .i64 c,.bool l]] w fun e w'=>e=.returned (.agg #[.int .i64 x,.int .i64 y,.int .i64 d,.int .i64 c,.bool l])∧Below w.heap.size w w':=by
 go_enter Tryz.func31,Tryz.ntmps31
 go_wp2_with fail
 refine bodyPost_ret (v:=.agg #[.int .i64 x,.int .i64 y,.int .i64 d,.int .i64 c,.bool l]) ?_ rfl ⟨rfl,?_⟩
 ·simp[results,Tryz.results31,go_sem, *]
 ·first | exact bal (bal (bstart _ _) _) _ | exact bal (bstart _ _) _
theorem eqHead_same (x y d c:Int) (l:Bool) (w:World):
  Calls Tryz.prog 41 #[.agg #[.int .i64 x,.int .i64 y,.int .i64 d,.int .i64 c,.bool l],.agg #[.int .i64 x,.int .i64 y,.int .i64 d,.int .i64 c,.bool l]] w fun e w'=>e=.returned (.bool true)∧Below w.heap.size w w':=by
 have n0:(x != x)=false:=by simp
 have n1:(y != y)=false:=by simp
 have n2:(d != d)=false:=by simp
 have n3:(c != c)=false:=by simp
 have n4:(l != l)=false:=by simp
 go_enter Tryz.func41,Tryz.ntmps41
 go_wp2_with fail
 go_ret
 exact⟨rfl,bal (bstart _ _) _⟩
end
section
open Go.ChangeShapes Go.WideShapes Go.ChangeAt Go.RowKit Go.Joins Go.Deep Go.WideElems
theorem slice_of_trod {H:Type} {enc:TypeId×Value→H} {W:World} {fuel:Nat} {t e:TypeId} {v:Value} {x:DataW H×List MemPlace} (ht:Tryz.prog.underlying t=some (.slice e)) (h:DataW.trod enc Tryz.prog W 0 (fun _=>true) true fuel t [v]=some x):∃ a l c,v=.slice a l c:=by
 rcases open_slice ht h with ⟨hcs,_⟩ | ⟨ad,l,c,m,n,D,Pl,hcs,_⟩
 ·simp at hcs
  exact⟨_,_,_,hcs⟩
 ·simp at hcs
  exact⟨_,_,_,hcs⟩
theorem row_of_trod {H:Type} {enc:TypeId×Value→H} {W:World} {fuel:Nat} {a:Option Addr} {l c:Nat} {x:DataW H×List MemPlace} (h:DataW.trod enc Tryz.prog W 0 (fun _=>true) true fuel 25 [.slice a l c]=some x):∃ zs,IsRow .i64 W a l c zs:=by
 rcases open_ints Tryz.underlying25 Tryz.underlying3 (by kernel_rfl) h with ⟨hcs,_⟩ | ⟨x,l,c,zs,hcs,_,hl,hm,hz,_,hcell,hwz⟩
 ·simp at hcs
  obtain⟨rfl,rfl,rfl⟩:=hcs
  exact⟨[],.inl ⟨rfl,rfl,rfl,rfl⟩⟩
 ·simp at hcs
  obtain⟨rfl,rfl,rfl⟩:=hcs
  exact⟨zs,.inr ⟨_,rfl,hl,hm,by simpa using hz,hcell,hwz⟩⟩
end
end Go.Proofs.YtkpbfmdnjnohlaaGreat
