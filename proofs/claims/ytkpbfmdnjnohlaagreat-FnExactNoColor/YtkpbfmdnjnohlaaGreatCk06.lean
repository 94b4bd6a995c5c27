/-
  Texts of the proof, put together.
-/
import Derived.Test.YtkpbfmdnjnohlaaGreatCk05
import Derived.Test.YtkpbfmdnjnohlaaGreatCk03
import Derived.Deep.SlicePairs
namespace Go.Proofs.YtkpbfmdnjnohlaaGreat
section
open Go.RowKit Go.Joins
theorem szChunk_any (x y:ByteArray) (l:Int) (w:World) (hl0:0≤l) (hl:l≤1048576) (hx:x.size≤9223372036854775807) (hy:y.size≤9223372036854775807):
  Calls Tryz.prog 68 #[.agg #[.string x,.string y],.int .i64 l] w fun e w'=>(∃ z:Int,e=.returned (.int .i64 z)∧(z=-1∨0≤z∧z≤l∧x.size≤1048576∧y.size≤1048576))∧Below w.heap.size w w':=by
 by_cases h1:l - (x.size:Int) < 0
 ·have d1:decide (l - (x.size:Int) < 0)=true:=decide_eq_true h1
  go_enter Tryz.func68,Tryz.ntmps68
  go_wp2_with fail
  go_ret
  exact⟨⟨-1,rfl,.inl rfl⟩,bstart _ _⟩
 ·have d1:decide (l - (x.size:Int) < 0)=false:=decide_eq_false h1
  by_cases h2:l - (x.size:Int) - (y.size:Int) < 0
  ·have d2:decide (l - (x.size:Int) - (y.size:Int) < 0)=true:=decide_eq_true h2
   go_enter Tryz.func68,Tryz.ntmps68
   go_wp2_with fail
   go_ret
   exact⟨⟨-1,rfl,.inl rfl⟩,bstart _ _⟩
  ·have d2:decide (l - (x.size:Int) - (y.size:Int) < 0)=false:=decide_eq_false h2
   go_enter Tryz.func68,Tryz.ntmps68
   go_wp2_with fail
   go_ret
   exact⟨⟨_,rfl,.inr ⟨by omega,by omega,by omega,by omega⟩⟩,bstart _ _⟩
def SzI (w w':World) (F:Nat→ByteArray×ByteArray) (j:Nat):Prop:=Below w.heap.size w w'∧∀ i,i < j→(F i).1.size≤1048576∧(F i).2.size≤1048576
def SzPost (w:World) (n:Nat) (F:Nat→ByteArray×ByteArray) (e:Ending) (w':World):Prop:=∃ z:Int,e=.returned (.int .i64 z)∧(z=-1∨0≤z∧z≤1048576∧n≤1048576∧∀ i,i < n→(F i).1.size≤1048576∧(F i).2.size≤1048576)∧Below w.heap.size w w'
set_option maxHeartbeats 1600000 in
theorem szChunkS_at (z0:Int) (hz0:0≤z0) (hz1:z0≤1048576) (a:Option Addr) (n c:Nat) (F:Nat→ByteArray×ByteArray) (w:World) (hC:KCame w a n F) (hn:n≤9223372036854775807) (hm:∀ i,i < n→(F i).1.size≤9223372036854775807∧(F i).2.size≤9223372036854775807):
  Calls Tryz.prog 26 #[.slice a n c,.int .i64 z0] w (SzPost w n F):=by
 unfold SzPost
 by_cases h1:z0 - (n:Int) < 0
 ·have d1:decide (z0 - (n:Int) < 0)=true:=decide_eq_true h1
  clear hm hC
  go_enter Tryz.func26,Tryz.ntmps26
  go_wp2_with fail
  go_ret
  exact⟨-1,rfl,.inl rfl,Below.refl _ _⟩
 ·have d1:decide (z0 - (n:Int) < 0)=false:=decide_eq_false h1
  have HC:=hid_of hC
  have HM:=hid_of hm
  have hn2:n≤1048576:=by omega
  have hz2:0≤z0 - (n:Int)∧z0 - (n:Int)≤1048576:=by omega
  clear hC hm h1 hz0 hz1
  go_enter Tryz.func26,Tryz.ntmps26
  go_wp2_with fail
  go_loopw [1,5] (fun z i w'=>∃ (j:Nat) (l:Int),j≤n∧i=.int .i64 j∧z=.int .i64 l∧0≤l∧l≤1048576∧Hid (SzI w w' F j)) (fun _ i _=>n - (intOf i).toNat)
  case atStart=>exact⟨0,_,Nat.zero_le _,rfl,rfl,hz2.1,hz2.2,Below.refl _ _,fun i hi=>absurd hi (Nat.not_lt_zero i)⟩
  case round=>
   obtain⟨j,l,hj,rfl,rfl,hl0,hl1,hI⟩:=hrel
   by_cases hlt:j < n
   ·rcases HC.out with h0 | ⟨g,off,rfl,hg,hc⟩
    ·omega
    ·have c0:wr.cell? ⟨g,off+j * 2,none⟩=some (.string (F j).1):=(hI.out.1.cell (p:=⟨g,off+j * 2,none⟩) hg).trans (hc j hlt).1
     have c1:wr.cell? ⟨g,off+j * 2+1,none⟩=some (.string (F j).2):=(hI.out.1.cell (p:=⟨g,off+j * 2+1,none⟩) hg).trans (hc j hlt).2
     have hs:=szChunk_any (F j).1 (F j).2 l wr hl0 hl1 (HM.out j hlt).1 (HM.out j hlt).2
     have hl2:g < wr.heap.size:=Nat.lt_of_lt_of_le hg hI.out.1.size
     have HE:Hid (∀ w1,Below wr.heap.size wr w1→(F j).1.size≤1048576∧(F j).2.size≤1048576→SzI w w1 F (j+1)):=fun w1 hb hz=>⟨bnext hI.out.1 hb,fun i hi=>by
      by_cases e:i=j
      ·rw[e]; exact hz
      ·exact hI.out.2 i (by omega)⟩
     have HI1:=hid_of hI.out.1
     generalize (F j).1=x at *
     generalize (F j).2=y at *
     clear hc hI
     go_wp2_with fail
     refine hs.mono ?_
     rintro e w1 ⟨⟨z,rfl,hz⟩,hB⟩
     rcases hz with rfl | ⟨z0,z1,z2,z3⟩
     ·have HB:=hid_of (bnext HI1.out hB)
      clear hB HE
      go_wp2_with fail
      go_ret
      exact⟨-1,rfl,.inl rfl,HB.out⟩
     ·have HN:=hid_of (HE.out w1 hB ⟨z2,z3⟩)
      have dz:decide (z < 0)=false:=decide_eq_false (by omega)
      clear hB HE hs
      go_wp2_with fail
      go_roundw
      case rel=>exact⟨j+1,z,by omega,by go_num,rfl,z0,by omega,HN⟩
      case measure=>simp [intOf]; omega
   ·obtain rfl:j=n:=by omega
    go_wp2_with fail
    go_ret
    exact⟨l,rfl,.inr ⟨hl0,hl1,hn2,hI.out.2⟩,hI.out.1⟩
end
section
open Go.ChangeShapes Go.WideShapes Go.ChangeAt Go.RowKit Go.Joins Go.Deep
def txtOf:Value→ByteArray
 | .string s=>s
 | _=>ByteArray.empty
theorem open_chunks {H:Type} {enc:TypeId×Value→H} {W:World} {spare:Nat→Bool} {fuel:Nat} {a:Option Addr} {len cap:Nat} {x:DataW H×List MemPlace} (h:DataW.trod enc Tryz.prog W 0 spare true fuel 28 [.slice a len cap]=some x):
  ∃ L:List (ByteArray×ByteArray),len=L.length∧KCame W a len (fun j=>L.getD j (ByteArray.empty,ByteArray.empty))∧(∀ r∈L,r.1.size≤maxLen∧r.2.size≤maxLen)∧len≤maxLen:=by
 rcases open_slice_pairs Tryz.underlying28 Tryz.underlying89 (by kernel_rfl) rfl rfl (by kernel_rfl) (by kernel_rfl) h with ⟨hcs,_⟩ | ⟨ad,l,c,m,n,V0,V1,D0,D1,P0,P1,hcs,_,hl,hm,hmm,_,hx⟩
 ·simp at hcs
  obtain⟨rfl,rfl,rfl⟩:=hcs
  exact⟨[],rfl,.inl rfl,(fun r hr=>by cases hr),Nat.zero_le _⟩
 ·simp at hcs
  obtain⟨rfl,rfl,rfl⟩:=hcs
  have hlm:len≤m:=by rw [hmm]; split <;> omega
  have each:∀ i,i < len→V0 i=.string (txtOf (V0 i))∧V1 i=.string (txtOf (V1 i))∧(txtOf (V0 i)).size≤maxLen∧(txtOf (V1 i)).size≤maxLen:=by
   intro i hi
   obtain⟨_,_,g0,g1⟩:=hx i (by omega)
   obtain⟨x0,e0,_,f0⟩:=DataW.trod_string Tryz.underlying9 g0
   obtain⟨x1,e1,_,f1⟩:=DataW.trod_string Tryz.underlying9 g1
   simp at e0 e1
   rw[e0,e1]
   exact⟨rfl,rfl,f0,f1⟩
  have hg:∀ j,j < len→((List.range len).map fun i=>(txtOf (V0 i),txtOf (V1 i))).getD j (ByteArray.empty,ByteArray.empty)=(txtOf (V0 j),txtOf (V1 j)):=by
   intro j hj
   rw[List.getD_eq_getElem?_getD,List.getElem?_map,List.getElem?_range hj]
   rfl
  refine⟨(List.range len).map fun i=>(txtOf (V0 i),txtOf (V1 i)),by simp,?_,fun r hr=>?_,by omega⟩
  ·rcases Nat.eq_zero_or_pos len with h0 | h0
   ·exact .inl h0
   ·obtain⟨b,off,spot⟩:=ad
    have h1:=(hx 0 (by omega)).1
    have hspot:spot=none:=by simpa [Addr.add] using World.cell?_spot h1
    subst hspot
    have hadd:∀ j,(⟨b,off,none⟩:Addr).add j=⟨b,off+j,none⟩:=fun j=>Addr.add_lit _ _ _
    refine .inr ⟨b,off,rfl,?_,fun j hj=>?_⟩
    ·rw[hadd] at h1
     exact World.block_lt_of_cell? W _ h1
    ·obtain⟨k0,k1,_,_⟩:=hx j (by omega)
     obtain⟨e0,e1,_,_⟩:=each j hj
     rw[hadd] at k0 k1
     rw[← Nat.add_assoc] at k1
     show W.cell? _=some (.string (((List.range len).map fun i=>(txtOf (V0 i),txtOf (V1 i))).getD j (ByteArray.empty,ByteArray.empty)).1)∧W.cell? _=some (.string (((List.range len).map fun i=>(txtOf (V0 i),txtOf (V1 i))).getD j (ByteArray.empty,ByteArray.empty)).2)
     rw[hg j hj,k0,k1]
     exact⟨congrArg some e0,congrArg some e1⟩
  ·obtain⟨i,hi,rfl⟩:=List.mem_map.mp hr
   have:=each i (List.mem_range.mp hi)
   exact⟨this.2.2.1,this.2.2.2⟩
end
section
open Go.RowKit Go.Joins
set_option maxHeartbeats 1600000 in
theorem toHead_any (x y d c:Int) (l:Bool) (w:World):
  Calls Tryz.prog 31 #[.agg #[.int .i64 x,.int .i64 y,.int .i64 d,.int .i64 c,.bool l]] w fun e w'=>e=.returned (.agg #[.int .i64 x,.int .i64 y,.int .i64 d,.int .i64 c,.bool l])∧Below w.heap.size w w':=by
 go_enter Tryz.func31,Tryz.ntmps31
 go_wp2_with fail
 refine bodyPost_ret (v:=.agg #[.int .i64 x,.int .i64 y,.int .i64 d,.int .i64 c,.bool l]) ?_ rfl ⟨rfl,?_⟩
 ·simp[results,Tryz.results31,go_sem, *]
 ·first | exact bal (bal (bstart _ _) _) _ | exact bal (bstart _ _) _
theorem eqHead_same (x y d c:Int) (l:Bool) (w:World):
  Calls Tryz.prog 41 #[.agg #[.int .i64 x,.int .i64 y,.int .i64 d,.int .i64 c,.bool l],.agg #[.int .i64 x,.int .i64 y,.int .i64 d,.int .i64 c,.bool l]] w fun e w'=>e=.returned (.bool true)∧Below w.heap.size w w':=by
 have n0:(x != x)=false:=by simp
 have n1:(y != y)=false:=by simp
 have n2:(d != d)=false:=by simp
 have n3:(c != c)=false:=by simp
 have n4:(l != l)=false:=by simp
 go_enter Tryz.func41,Tryz.ntmps41
 go_wp2_with fail
 go_ret
 exact⟨rfl,bal (bstart _ _) _⟩
end
section
open Go.ChangeShapes Go.WideShapes Go.ChangeAt Go.RowKit Go.Joins Go.Deep Go.WideElems
theorem slice_of_trod {H:Type} {enc:TypeId×Value→H} {W:World} {fuel:Nat} {t e:TypeId} {v:Value} {x:DataW H×List MemPlace} (ht:Tryz.prog.underlying t=some (.slice e)) (h:DataW.trod enc Tryz.prog W 0 (fun _=>true) true fuel t [v]=some x):∃ a l c,v=.slice a l c:=by
 rcases open_slice ht h with ⟨hcs,_⟩ | ⟨ad,l,c,m,n,D,Pl,hcs,_⟩
 ·simp at hcs
  exact⟨_,_,_,hcs⟩
 ·simp at hcs
  exact⟨_,_,_,hcs⟩
theorem row_of_trod {H:Type} {enc:TypeId×Value→H} {W:World} {fuel:Nat} {a:Option Addr} {l c:Nat} {x:DataW H×List MemPlace} (h:DataW.trod enc Tryz.prog W 0 (fun _=>true) true fuel 25 [.slice a l c]=some x):∃ zs,IsRow .i64 W a l c zs:=by
 rcases open_ints Tryz.underlying25 Tryz.underlying3 (by kernel_rfl) h with ⟨hcs,_⟩ | ⟨x,l,c,zs,hcs,_,hl,hm,hz,_,hcell,hwz⟩
 ·simp at hcs
  obtain⟨rfl,rfl,rfl⟩:=hcs
  exact⟨[],.inl ⟨rfl,rfl,rfl,rfl⟩⟩
 ·simp at hcs
  obtain⟨rfl,rfl,rfl⟩:=hcs
  exact⟨zs,.inr ⟨_,rfl,hl,hm,by simpa using hz,hcell,hwz⟩⟩
end
section
open Go.ChangeShapes Go.WideShapes Go.ChangeAt Go.RowKit Go.Joins Go.Deep Go.WideElems HeadMath ChunkMath
theorem array13 {α:Type} {cs:Array α} (h:cs.size=13):∃ c0 c1 c2 c3 c4 c5 c6 c7 c8 c9 c10 c11 c12,cs=#[c0,c1,c2,c3,c4,c5,c6,c7,c8,c9,c10,c11,c12]:=by
 obtain⟨l⟩:=cs
 match l,h with
 | [c0,c1,c2,c3,c4,c5,c6,c7,c8,c9,c10,c11,c12],_=>exact⟨c0,c1,c2,c3,c4,c5,c6,c7,c8,c9,c10,c11,c12,rfl⟩
set_option maxRecDepth 100000 in
set_option maxHeartbeats 1600000 in
theorem open_png {H:Type} {enc:TypeId×Value→H} {W:World} {r:Reach} {b0:Nat} {v:Value} {d:DataW H} {p:List MemPlace} (hv:Value.okWide Tryz.prog W r b0 30 v) (h:DataW.Trod enc Tryz.prog W 0 (fun _=>true) true 30 v d p):
  ∃ (P:Pic) (Q:PicA),v=pngV P Q∧PngIn W P Q∧P.tn≤maxLen∧P.cn≤maxLen∧P.sn≤maxLen∧P.kn≤maxLen∧(∀ i,i < P.kn→(P.K i).1.size≤maxLen∧(P.K i).2.size≤maxLen):=by
 have cI:Tryz.prog.cellsOf 3=1:=by kernel_rfl
 have cB:Tryz.prog.cellsOf 4=1:=by kernel_rfl
 have cH:Tryz.prog.cellsOf 23=5:=by kernel_rfl
 have cR:Tryz.prog.cellsOf 27=5:=by kernel_rfl
 have cT:Tryz.prog.cellsOf 24=1:=by kernel_rfl
 have cC:Tryz.prog.cellsOf 25=1:=by kernel_rfl
 have cK:Tryz.prog.cellsOf 28=1:=by kernel_rfl
 obtain⟨cs,rfl,hsz⟩:=okWide_struct Tryz.underlying30 hv
 obtain⟨u0,u1,u2,u3,u4,u5,u6,u7,u8,u9,u10,u11,u12,rfl⟩:=array13 (hsz.trans (by kernel_rfl))
 obtain⟨fuel,hf⟩:=h
 obtain⟨xs,n,_,_,_,hlen,hg⟩:=DataW.trod_struct Tryz.underlying30 hf
 match xs,hlen with
 | [y0,y1,y2,y3,y4],_=>
  have g0:=hg 0 _ rfl
  have g1:=hg 1 _ rfl
  have g2:=hg 2 _ rfl
  have g3:=hg 3 _ rfl
  have g4:=hg 4 _ rfl
  simp[Value.cells,cH,cR,cT,cC,cK] at g0 g1 g2 g3 g4
  clear hg hf hv
  obtain⟨zs,n0,_,_,_,hl0,hh⟩:=DataW.trod_struct Tryz.underlying23 g0
  obtain⟨rs,n3,_,_,_,hl3,hr⟩:=DataW.trod_struct Tryz.underlying27 g3
  match zs,hl0,rs,hl3 with
  | [z0,z1,z2,z3,z4],_,[r0,r1,r2,r3,r4],_=>
   have k0:=hh 0 _ rfl
   have k1:=hh 1 _ rfl
   have k2:=hh 2 _ rfl
   have k3:=hh 3 _ rfl
   have k4:=hh 4 _ rfl
   have m0:=hr 0 _ rfl
   have m1:=hr 1 _ rfl
   have m2:=hr 2 _ rfl
   have m3:=hr 3 _ rfl
   have m4:=hr 4 _ rfl
   simp[cI,cB,cC] at k0 k1 k2 k3 k4 m0 m1 m2 m3 m4
   clear hh hr g0 g3
   obtain⟨x0,e0,_,_⟩:=DataW.trod_int Tryz.underlying3 k0
   obtain⟨x1,e1,_,_⟩:=DataW.trod_int Tryz.underlying3 k1
   obtain⟨x2,e2,_,_⟩:=DataW.trod_int Tryz.underlying3 k2
   obtain⟨x3,e3,_,_⟩:=DataW.trod_int Tryz.underlying3 k3
   obtain⟨lc,e4,_⟩:=DataW.trod_bool Tryz.underlying4 k4
   obtain⟨a0,f0,_,_⟩:=DataW.trod_int Tryz.underlying3 m0
   obtain⟨a1,f1,_,_⟩:=DataW.trod_int Tryz.underlying3 m1
   obtain⟨a2,f2,_,_⟩:=DataW.trod_int Tryz.underlying3 m2
   obtain⟨a3,f3,_,_⟩:=DataW.trod_int Tryz.underlying3 m3
   simp at e0 e1 e2 e3 e4 f0 f1 f2 f3
   obtain⟨ta,tn,tc,rfl⟩:=slice_of_trod Tryz.underlying24 g1
   obtain⟨ca,cn,cc,rfl⟩:=slice_of_trod Tryz.underlying25 g2
   obtain⟨sa,sn,sc,rfl⟩:=slice_of_trod Tryz.underlying25 m4
   obtain⟨ka,kn,kc,rfl⟩:=slice_of_trod Tryz.underlying28 g4
   subst e0 e1 e2 e3 e4 f0 f1 f2 f3
   obtain⟨L,e,hT,_,hTm⟩:=open_colors g1
   obtain⟨M,e',hK,hKz,hKm⟩:=open_chunks g4
   obtain⟨zc,hC⟩:=row_of_trod g2
   obtain⟨zs,hS⟩:=row_of_trod m4
   obtain⟨hC1,hC2,_⟩:=came_of_row hC
   obtain⟨hS1,hS2,_⟩:=came_of_row hS
   refine⟨⟨x0,x1,x2,x3,lc,tn,_,cn,_,a0,a1,a2,a3,sn,_,kn,_⟩,⟨ta,tc,ca,cc,sa,sc,ka,kc⟩,rfl,⟨hT,hC1,hS1,hK,?_⟩,hTm,hC2,hS2,hKm,fun i hi=>?_⟩
   ·rcases hS with ⟨_,rfl,rfl,_⟩ | ⟨_,_,h1,h2,_⟩
    ·exact⟨Nat.le_refl _,Nat.zero_le _⟩
    ·exact⟨h1,h2⟩
   ·have hi':i < kn:=hi
    refine hKz _ ?_
    show M.getD i _∈M
    rw[List.getD_eq_getElem?_getD,List.getElem?_eq_getElem (by omega)]
    exact List.getElem_mem _
def SzPngPost (w:World) (p:Pic) (e:Ending) (w':World):Prop:=∃ z:Int,e=.returned (.int .i64 z)∧(z < 0∨(0≤z∧PngSz p))∧Below w.heap.size w w'
set_option maxRecDepth 100000 in
set_option maxHeartbeats 1600000 in
theorem szPng_any (p:Pic) (q:PicA) (w:World) (hP:PngIn w p q) (ht:p.tn≤maxLen) (hc:p.cn≤maxLen) (hs:p.sn≤maxLen) (hk:p.kn≤maxLen) (hm:∀ i,i < p.kn→(p.K i).1.size≤maxLen∧(p.K i).2.size≤maxLen):
  Calls Tryz.prog 8 #[pngV p q,.int .i64 1048576] w (SzPngPost w p):=by
 obtain⟨hw,hh,hd,hc',lace,tn,T,cn,C,rw',rh,rc,rd,sn,S,kn,K⟩:=p
 obtain⟨ta,tc,ca,cc,sa,sc,ka,kc⟩:=q
 have HK:=hid_of hP.k
 have HM:=hid_of hm
 have ht':tn≤maxLen:=ht
 have hc2:cn≤maxLen:=hc
 have hs':sn≤maxLen:=hs
 have hk':kn≤maxLen:=hk
 have e0:=fun W=>szRgbS_any ta tn tc 1048576 W (by unfold maxLen at ht'; omega) (by omega) (by omega)
 have HB0:Hid (Below w.heap.size w (w.alloc (.cells #[.int .i64 hw,.int .i64 hh,.int .i64 hd,.int .i64 hc',.bool lace,.slice ta tn tc,.slice ca cn cc,.int .i64 rw',.int .i64 rh,.int .i64 rc,.int .i64 rd,.slice sa sn sc,.slice ka kn kc] 30))):=bstart _ _
 clear hP hm ht hc hs hk
 show Calls Tryz.prog 8 #[.agg #[.int .i64 hw,.int .i64 hh,.int .i64 hd,.int .i64 hc',.bool lace,.slice ta tn tc,.slice ca cn cc,.int .i64 rw',.int .i64 rh,.int .i64 rc,.int .i64 rd,.slice sa sn sc,.slice ka kn kc],.int .i64 1048576] w _
 go_enter Tryz.func8,Tryz.ntmps8
 go_wp2_with fail
 refine (e0 _).mono ?_
 rintro e w1 ⟨rfl,rfl⟩
 clear e0
 by_cases h1:(tn:Int)≤1048576
 case neg=>
  rw[if_neg h1]
  clear h1
  go_wp2_with fail
  go_ret
  exact⟨-1,rfl,.inl (by omega),HB0.out⟩
 rw[if_pos h1]
 have d1:decide (1048576 - (tn:Int) < 0)=false:=decide_eq_false (by omega)
 have e1:=fun W=>szIntS_any ca cn cc (1048576 - (tn:Int)) W (by omega) (by omega) hc2
 go_wp2_with fail
 refine (e1 _).mono ?_
 rintro e w1 ⟨rfl,rfl⟩
 clear e1
 by_cases h2:(cn:Int)≤1048576 - (tn:Int)
 case neg=>
  rw[if_neg h2]
  clear h2
  go_wp2_with fail
  go_ret
  exact⟨-1,rfl,.inl (by omega),HB0.out⟩
 rw[if_pos h2]
 have d2:decide (1048576 - (tn:Int) - (cn:Int) < 0)=false:=decide_eq_false (by omega)
 have e2:=fun W=>szRaster_any rw' rh rc rd sa sn sc (1048576 - (tn:Int) - (cn:Int)) W (by omega) (by omega) hs'
 go_wp2_with fail
 refine (e2 _).mono ?_
 rintro e w2 ⟨rfl,hB⟩
 have HB2:=hid_of (bnext HB0.out hB)
 have q0:w2.heap[w.heap.size]?=some (.cells #[.int .i64 hw,.int .i64 hh,.int .i64 hd,.int .i64 hc',.bool lace,.slice ta tn tc,.slice ca cn cc,.int .i64 rw',.int .i64 rh,.int .i64 rc,.int .i64 rd,.slice sa sn sc,.slice ka kn kc] 30 (0,0)):=(hB.block _ (by simp)).trans (heap_alloc_new w _)
 have q12:w2.cell? ⟨w.heap.size,12,none⟩=some (.slice ka kn kc):=(cell_of_block q0 12).trans rfl
 have ql:=block_lt q0
 clear e2 hB q0
 by_cases h3:(sn:Int)≤1048576 - (tn:Int) - (cn:Int)
 case neg=>
  rw[if_neg h3]
  clear h3
  go_wp2_with fail
  go_ret
  exact⟨-1,rfl,.inl (by omega),HB2.out⟩
 rw[if_pos h3]
 have d3:decide (1048576 - (tn:Int) - (cn:Int) - (sn:Int) < 0)=false:=decide_eq_false (by omega)
 go_wp2_with fail
 refine (szChunkS_at (1048576 - (tn:Int) - (cn:Int) - (sn:Int)) (by omega) (by omega) ka kn kc K _ (HK.out.called HB2.out) (by unfold maxLen at hk'; omega) (fun i hi=>by have:=HM.out i hi; unfold maxLen at this; exact⟨by omega,by omega⟩)).mono ?_
 rintro e w3 ⟨z,rfl,hz,hB⟩
 have HB3:=hid_of (bnext HB2.out hB)
 rcases hz with rfl | ⟨z0,z1,z2,z3⟩
 ·clear hB
  go_wp2_with fail
  go_ret
  exact⟨-1,rfl,.inl (by omega),HB3.out⟩
 ·have dz:decide (z < 0)=false:=decide_eq_false (by omega)
  have HZ:=hid_of z3
  clear hB z3
  go_wp2_with fail
  go_ret
  refine⟨z,rfl,.inr ⟨z0,⟨?_,?_,?_,z2,HZ.out⟩⟩,HB3.out⟩
  ·show tn≤1048576
   omega
  ·show cn≤1048576
   omega
  ·show sn≤1048576
   omega
end
end Go.Proofs.YtkpbfmdnjnohlaaGreat
