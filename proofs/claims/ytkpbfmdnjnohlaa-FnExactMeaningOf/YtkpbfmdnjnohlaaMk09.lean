/-
  Texts of the proof, put together.
-/
import Derived.Test.YtkpbfmdnjnohlaaMk04
import Derived.Deep.SlicePairs
namespace Go.Proofs.Ytkpbfmdnjnohlaa
section
open Go.RowKit Go.Joins
theorem szChunk_any (x y:ByteArray) (l:Int) (w:World) (hl0:0≤l) (hl:l≤1048576) (hx:x.size≤9223372036854775807) (hy:y.size≤9223372036854775807):
  Calls Try.prog 56 #[.agg #[.string x,.string y],.int .i64 l] w fun e w'=>(∃ z:Int,e=.returned (.int .i64 z)∧(z=-1∨0≤z∧z≤l∧x.size≤1048576∧y.size≤1048576))∧Below w.heap.size w w':=by
 by_cases h1:l - (x.size:Int) < 0
 ·have d1:decide (l - (x.size:Int) < 0)=true:=decide_eq_true h1
  go_enter Try.func56,Try.ntmps56
  go_wp2_with fail
  go_ret
  exact⟨⟨-1,rfl,.inl rfl⟩,bstart _ _⟩
 ·have d1:decide (l - (x.size:Int) < 0)=false:=decide_eq_false h1
  by_cases h2:l - (x.size:Int) - (y.size:Int) < 0
  ·have d2:decide (l - (x.size:Int) - (y.size:Int) < 0)=true:=decide_eq_true h2
   go_enter Try.func56,Try.ntmps56
   go_wp2_with fail
   go_ret
   exact⟨⟨-1,rfl,.inl rfl⟩,bstart _ _⟩
  ·have d2:decide (l - (x.size:Int) - (y.size:Int) < 0)=false:=decide_eq_false h2
   go_enter Try.func56,Try.ntmps56
   go_wp2_with fail
   go_ret
   exact⟨⟨_,rfl,.inr ⟨by omega,by omega,by omega,by omega⟩⟩,bstart _ _⟩
def SzI (w w':World) (F:Nat→ByteArray×ByteArray) (j:Nat):Prop:=Below w.heap.size w w'∧∀ i,i < j→(F i).1.size≤1048576∧(F i).2.size≤1048576
def SzPost (w:World) (n:Nat) (F:Nat→ByteArray×ByteArray) (e:Ending) (w':World):Prop:=∃ z:Int,e=.returned (.int .i64 z)∧(z=-1∨0≤z∧z≤1048576∧n≤1048576∧∀ i,i < n→(F i).1.size≤1048576∧(F i).2.size≤1048576)∧Below w.heap.size w w'
set_option maxHeartbeats 1600000 in
theorem szChunkS_at (z0:Int) (hz0:0≤z0) (hz1:z0≤1048576) (a:Option Addr) (n c:Nat) (F:Nat→ByteArray×ByteArray) (w:World) (hC:KCame w a n F) (hn:n≤9223372036854775807) (hm:∀ i,i < n→(F i).1.size≤9223372036854775807∧(F i).2.size≤9223372036854775807):
  Calls Try.prog 23 #[.slice a n c,.int .i64 z0] w (SzPost w n F):=by
 unfold SzPost
 by_cases h1:z0 - (n:Int) < 0
 ·have d1:decide (z0 - (n:Int) < 0)=true:=decide_eq_true h1
  clear hm hC
  go_enter Try.func23,Try.ntmps23
  go_wp2_with fail
  go_ret
  exact⟨-1,rfl,.inl rfl,Below.refl _ _⟩
 ·have d1:decide (z0 - (n:Int) < 0)=false:=decide_eq_false h1
  have HC:=hid_of hC
  have HM:=hid_of hm
  have hn2:n≤1048576:=by omega
  have hz2:0≤z0 - (n:Int)∧z0 - (n:Int)≤1048576:=by omega
  clear hC hm h1 hz0 hz1
  go_enter Try.func23,Try.ntmps23
  go_wp2_with fail
  go_loopw [1,5] (fun z i w'=>∃ (j:Nat) (l:Int),j≤n∧i=.int .i64 j∧z=.int .i64 l∧0≤l∧l≤1048576∧Hid (SzI w w' F j)) (fun _ i _=>n - (intOf i).toNat)
  case atStart=>exact⟨0,_,Nat.zero_le _,rfl,rfl,hz2.1,hz2.2,Below.refl _ _,fun i hi=>absurd hi (Nat.not_lt_zero i)⟩
  case round=>
   obtain⟨j,l,hj,rfl,rfl,hl0,hl1,hI⟩:=hrel
   by_cases hlt:j < n
   ·rcases HC.out with h0 | ⟨g,off,rfl,hg,hc⟩
    ·omega
    ·have c0:wr.cell? ⟨g,off+j * 2,none⟩=some (.string (F j).1):=(hI.out.1.cell (p:=⟨g,off+j * 2,none⟩) hg).trans (hc j hlt).1
     have c1:wr.cell? ⟨g,off+j * 2+1,none⟩=some (.string (F j).2):=(hI.out.1.cell (p:=⟨g,off+j * 2+1,none⟩) hg).trans (hc j hlt).2
     have hs:=szChunk_any (F j).1 (F j).2 l wr hl0 hl1 (HM.out j hlt).1 (HM.out j hlt).2
     have hl2:g < wr.heap.size:=Nat.lt_of_lt_of_le hg hI.out.1.size
     have HE:Hid (∀ w1,Below wr.heap.size wr w1→(F j).1.size≤1048576∧(F j).2.size≤1048576→SzI w w1 F (j+1)):=fun w1 hb hz=>⟨bnext hI.out.1 hb,fun i hi=>by
      by_cases e:i=j
      ·rw[e]; exact hz
      ·exact hI.out.2 i (by omega)⟩
     have HI1:=hid_of hI.out.1
     generalize (F j).1=x at *
     generalize (F j).2=y at *
     clear hc hI
     go_wp2_with fail
     refine hs.mono ?_
     rintro e w1 ⟨⟨z,rfl,hz⟩,hB⟩
     rcases hz with rfl | ⟨z0,z1,z2,z3⟩
     ·have HB:=hid_of (bnext HI1.out hB)
      clear hB HE
      go_wp2_with fail
      go_ret
      exact⟨-1,rfl,.inl rfl,HB.out⟩
     ·have HN:=hid_of (HE.out w1 hB ⟨z2,z3⟩)
      have dz:decide (z < 0)=false:=decide_eq_false (by omega)
      clear hB HE hs
      go_wp2_with fail
      go_roundw
      case rel=>exact⟨j+1,z,by omega,by go_num,rfl,z0,by omega,HN⟩
      case measure=>simp [intOf]; omega
   ·obtain rfl:j=n:=by omega
    go_wp2_with fail
    go_ret
    exact⟨l,rfl,.inr ⟨hl0,hl1,hn2,hI.out.2⟩,hI.out.1⟩
end
section
open Go.ChangeShapes Go.WideShapes Go.ChangeAt Go.RowKit Go.Joins Go.Deep
def txtOf:Value→ByteArray
 | .string s=>s
 | _=>ByteArray.empty
theorem open_chunks {H:Type} {enc:TypeId×Value→H} {W:World} {spare:Nat→Bool} {fuel:Nat} {a:Option Addr} {len cap:Nat} {x:DataW H×List MemPlace} (h:DataW.trod enc Try.prog W 0 spare true fuel 28 [.slice a len cap]=some x):
  ∃ L:List (ByteArray×ByteArray),len=L.length∧KCame W a len (fun j=>L.getD j (ByteArray.empty,ByteArray.empty))∧(∀ r∈L,r.1.size≤maxLen∧r.2.size≤maxLen)∧len≤maxLen:=by
 rcases open_slice_pairs Try.underlying28 Try.underlying81 (by kernel_rfl) rfl rfl (by kernel_rfl) (by kernel_rfl) h with ⟨hcs,_⟩ | ⟨ad,l,c,m,n,V0,V1,D0,D1,P0,P1,hcs,_,hl,hm,hmm,_,hx⟩
 ·simp at hcs
  obtain⟨rfl,rfl,rfl⟩:=hcs
  exact⟨[],rfl,.inl rfl,(fun r hr=>by cases hr),Nat.zero_le _⟩
 ·simp at hcs
  obtain⟨rfl,rfl,rfl⟩:=hcs
  have hlm:len≤m:=by rw [hmm]; split <;> omega
  have each:∀ i,i < len→V0 i=.string (txtOf (V0 i))∧V1 i=.string (txtOf (V1 i))∧(txtOf (V0 i)).size≤maxLen∧(txtOf (V1 i)).size≤maxLen:=by
   intro i hi
   obtain⟨_,_,g0,g1⟩:=hx i (by omega)
   obtain⟨x0,e0,_,f0⟩:=DataW.trod_string Try.underlying9 g0
   obtain⟨x1,e1,_,f1⟩:=DataW.trod_string Try.underlying9 g1
   simp at e0 e1
   rw[e0,e1]
   exact⟨rfl,rfl,f0,f1⟩
  have hg:∀ j,j < len→((List.range len).map fun i=>(txtOf (V0 i),txtOf (V1 i))).getD j (ByteArray.empty,ByteArray.empty)=(txtOf (V0 j),txtOf (V1 j)):=by
   intro j hj
   rw[List.getD_eq_getElem?_getD,List.getElem?_map,List.getElem?_range hj]
   rfl
  refine⟨(List.range len).map fun i=>(txtOf (V0 i),txtOf (V1 i)),by simp,?_,fun r hr=>?_,by omega⟩
  ·rcases Nat.eq_zero_or_pos len with h0 | h0
   ·exact .inl h0
   ·obtain⟨b,off,spot⟩:=ad
    have h1:=(hx 0 (by omega)).1
    have hspot:spot=none:=by simpa [Addr.add] using World.cell?_spot h1
    subst hspot
    have hadd:∀ j,(⟨b,off,none⟩:Addr).add j=⟨b,off+j,none⟩:=fun j=>Addr.add_lit _ _ _
    refine .inr ⟨b,off,rfl,?_,fun j hj=>?_⟩
    ·rw[hadd] at h1
     exact World.block_lt_of_cell? W _ h1
    ·obtain⟨k0,k1,_,_⟩:=hx j (by omega)
     obtain⟨e0,e1,_,_⟩:=each j hj
     rw[hadd] at k0 k1
     rw[← Nat.add_assoc] at k1
     show W.cell? _=some (.string (((List.range len).map fun i=>(txtOf (V0 i),txtOf (V1 i))).getD j (ByteArray.empty,ByteArray.empty)).1)∧W.cell? _=some (.string (((List.range len).map fun i=>(txtOf (V0 i),txtOf (V1 i))).getD j (ByteArray.empty,ByteArray.empty)).2)
     rw[hg j hj,k0,k1]
     exact⟨congrArg some e0,congrArg some e1⟩
  ·obtain⟨i,hi,rfl⟩:=List.mem_map.mp hr
   have:=each i (List.mem_range.mp hi)
   exact⟨this.2.2.1,this.2.2.2⟩
end
section
open Go.RowKit Go.Joins
set_option maxHeartbeats 1600000 in
theorem toHead_any (x y d c:Int) (l:Bool) (w:World):
  Calls Try.prog 27 #[.agg #[.int .i64 x,.int .i64 y,.int .i64 d,.int .i64 c,.bool l]] w fun e w'=>e=.returned (.agg #[.int .i64 x,.int .i64 y,.int .i64 d,.int .i64 c,.bool l])∧Below w.heap.size w w':=by
 go_enter Try.func27,Try.ntmps27
 go_wp2_with fail
 refine bodyPost_ret (v:=.agg #[.int .i64 x,.int .i64 y,.int .i64 d,.int .i64 c,.bool l]) ?_ rfl ⟨rfl,?_⟩
 ·simp[results,Try.results27,go_sem, *]
 ·first | exact bal (bal (bstart _ _) _) _ | exact bal (bstart _ _) _
theorem eqHead_same (x y d c:Int) (l:Bool) (w:World):
  Calls Try.prog 37 #[.agg #[.int .i64 x,.int .i64 y,.int .i64 d,.int .i64 c,.bool l],.agg #[.int .i64 x,.int .i64 y,.int .i64 d,.int .i64 c,.bool l]] w fun e w'=>e=.returned (.bool true)∧Below w.heap.size w w':=by
 have n0:(x != x)=false:=by simp
 have n1:(y != y)=false:=by simp
 have n2:(d != d)=false:=by simp
 have n3:(c != c)=false:=by simp
 have n4:(l != l)=false:=by simp
 go_enter Try.func37,Try.ntmps37
 go_wp2_with fail
 go_ret
 exact⟨rfl,bal (bstart _ _) _⟩
end
section
open Go.ChangeShapes Go.WideShapes Go.ChangeAt Go.RowKit Go.Joins Go.Deep Go.WideElems
theorem slice_of_trod {H:Type} {enc:TypeId×Value→H} {W:World} {fuel:Nat} {t e:TypeId} {v:Value} {x:DataW H×List MemPlace} (ht:Try.prog.underlying t=some (.slice e)) (h:DataW.trod enc Try.prog W 0 (fun _=>true) true fuel t [v]=some x):∃ a l c,v=.slice a l c:=by
 rcases open_slice ht h with ⟨hcs,_⟩ | ⟨ad,l,c,m,n,D,Pl,hcs,_⟩
 ·simp at hcs
  exact⟨_,_,_,hcs⟩
 ·simp at hcs
  exact⟨_,_,_,hcs⟩
theorem row_of_trod {H:Type} {enc:TypeId×Value→H} {W:World} {fuel:Nat} {a:Option Addr} {l c:Nat} {x:DataW H×List MemPlace} (h:DataW.trod enc Try.prog W 0 (fun _=>true) true fuel 25 [.slice a l c]=some x):∃ zs,IsRow .i64 W a l c zs:=by
 rcases open_ints Try.underlying25 Try.underlying3 (by kernel_rfl) h with ⟨hcs,_⟩ | ⟨x,l,c,zs,hcs,_,hl,hm,hz,_,hcell,hwz⟩
 ·simp at hcs
  obtain⟨rfl,rfl,rfl⟩:=hcs
  exact⟨[],.inl ⟨rfl,rfl,rfl,rfl⟩⟩
 ·simp at hcs
  obtain⟨rfl,rfl,rfl⟩:=hcs
  exact⟨zs,.inr ⟨_,rfl,hl,hm,by simpa using hz,hcell,hwz⟩⟩
end
end Go.Proofs.Ytkpbfmdnjnohlaa
