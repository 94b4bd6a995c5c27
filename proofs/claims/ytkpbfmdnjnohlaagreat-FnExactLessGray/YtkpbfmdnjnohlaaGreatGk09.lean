/-
  Texts of the proof, put together.
-/
import Derived.Test.YtkpbfmdnjnohlaaGreatGk03
import Derived.Deep.SlicePairs
namespace Go.Proofs.YtkpbfmdnjnohlaaGreat
section
open Go.ChangeShapes Go.WideShapes Go.ChangeAt Go.RowKit Go.Joins Go.Deep
def txtOf:Value→ByteArray
 | .string s=>s
 | _=>ByteArray.empty
theorem open_chunks {H:Type} {enc:TypeId×Value→H} {W:World} {spare:Nat→Bool} {fuel:Nat} {a:Option Addr} {len cap:Nat} {x:DataW H×List MemPlace} (h:DataW.trod enc Tryz.prog W 0 spare true fuel 28 [.slice a len cap]=some x):
  ∃ L:List (ByteArray×ByteArray),len=L.length∧KCame W a len (fun j=>L.getD j (ByteArray.empty,ByteArray.empty))∧(∀ r∈L,r.1.size≤maxLen∧r.2.size≤maxLen)∧len≤maxLen:=by
 rcases open_slice_pairs Tryz.underlying28 Tryz.underlying89 (by kernel_rfl) rfl rfl (by kernel_rfl) (by kernel_rfl) h with ⟨hcs,_⟩ | ⟨ad,l,c,m,n,V0,V1,D0,D1,P0,P1,hcs,_,hl,hm,hmm,_,hx⟩
 ·simp at hcs
  obtain⟨rfl,rfl,rfl⟩:=hcs
  exact⟨[],rfl,.inl rfl,(fun r hr=>by cases hr),Nat.zero_le _⟩
 ·simp at hcs
  obtain⟨rfl,rfl,rfl⟩:=hcs
  have hlm:len≤m:=by rw [hmm]; split <;> omega
  have each:∀ i,i < len→V0 i=.string (txtOf (V0 i))∧V1 i=.string (txtOf (V1 i))∧(txtOf (V0 i)).size≤maxLen∧(txtOf (V1 i)).size≤maxLen:=by
   intro i hi
   obtain⟨_,_,g0,g1⟩:=hx i (by omega)
   obtain⟨x0,e0,_,f0⟩:=DataW.trod_string Tryz.underlying9 g0
   obtain⟨x1,e1,_,f1⟩:=DataW.trod_string Tryz.underlying9 g1
   simp at e0 e1
   rw[e0,e1]
   exact⟨rfl,rfl,f0,f1⟩
  have hg:∀ j,j < len→((List.range len).map fun i=>(txtOf (V0 i),txtOf (V1 i))).getD j (ByteArray.empty,ByteArray.empty)=(txtOf (V0 j),txtOf (V1 j)):=by
   intro j hj
   rw[List.getD_eq_getElem?_getD,List.getElem?_map,List.getElem?_range hj]
   rfl
  refine⟨(List.range len).map fun i=>(txtOf (V0 i),txtOf (V1 i)),by simp,?_,fun r hr=>?_,by omega⟩
  ·rcases Nat.eq_zero_or_pos len with h0 | h0
   ·exact .inl h0
   ·obtain⟨b,off,spot⟩:=ad
    have h1:=(hx 0 (by omega)).1
    have hspot:spot=none:=by simpa [Addr.add] using World.cell?_spot h1
    subst hspot
    have hadd:∀ j,(⟨b,off,none⟩:Addr).add j=⟨b,off+j,none⟩:=fun j=>Addr.add_lit _ _ _
    refine .inr ⟨b,off,rfl,?_,fun j hj=>?_⟩
    ·rw[hadd] at h1
     exact World.block_lt_of_cell? W _ h1
    ·obtain⟨k0,k1,_,_⟩:=hx j (by omega)
     obtain⟨e0,e1,_,_⟩:=each j hj
     rw[hadd] at k0 k1
     rw[← Nat.add_assoc] at k1
     show W.cell? _=some (.string (((List.range len).map fun i=>(txtOf (V0 i),txtOf (V1 i))).getD j (ByteArray.empty,ByteArray.empty)).1)∧W.cell? _=some (.string (((List.range len).map fun i=>(txtOf (V0 i),txtOf (V1 i))).getD j (ByteArray.empty,ByteArray.empty)).2)
     rw[hg j hj,k0,k1]
     exact⟨congrArg some e0,congrArg some e1⟩
  ·obtain⟨i,hi,rfl⟩:=List.mem_map.mp hr
   have:=each i (List.mem_range.mp hi)
   exact⟨this.2.2.1,this.2.2.2⟩
end
section
open Go.RowKit Go.Joins
set_option maxHeartbeats 1600000 in
theorem toHead_any (x y d c:Int) (l:Bool) (w:World):
  Calls Tryz.prog 31 #[.agg #[.int .i64 x,.int .i64 y,.int .i64 d,.int .i64 c,.bool l]] w fun e w'=>e=.returned (.agg #[.int .i64 x,.int .i64 y,.int .i64 d,.int .i64 c,.bool l])∧Below w.heap.size w w':=by
 go_enter Tryz.func31,Tryz.ntmps31
 go_wp2_with fail
 refine bodyPost_ret (v:=.agg #[.int .i64 x,.int .i64 y,.int .i64 d,.int .i64 c,.bool l]) ?_ rfl ⟨rfl,?_⟩
 ·simp[results,Tryz.results31,go_sem, *]
 ·first | exact bal (bal (bstart _ _) _) _ | exact bal (bstart _ _) _
theorem eqHead_same (x y d c:Int) (l:Bool) (w:World):
  Calls Tryz.prog 41 #[.agg #[.int .i64 x,.int .i64 y,.int .i64 d,.int .i64 c,.bool l],.agg #[.int .i64 x,.int .i64 y,.int .i64 d,.int .i64 c,.bool l]] w fun e w'=>e=.returned (.bool true)∧Below w.heap.size w w':=by
 have n0:(x != x)=false:=by simp
 have n1:(y != y)=false:=by simp
 have n2:(d != d)=false:=by simp
 have n3:(c != c)=false:=by simp
 have n4:(l != l)=false:=by simp
 go_enter Tryz.func41,Tryz.ntmps41
 go_wp2_with fail
 go_ret
 exact⟨rfl,bal (bstart _ _) _⟩
end
section
open Go.ChangeShapes Go.WideShapes Go.ChangeAt Go.RowKit Go.Joins Go.Deep Go.WideElems
theorem slice_of_trod {H:Type} {enc:TypeId×Value→H} {W:World} {fuel:Nat} {t e:TypeId} {v:Value} {x:DataW H×List MemPlace} (ht:Tryz.prog.underlying t=some (.slice e)) (h:DataW.trod enc Tryz.prog W 0 (fun _=>true) true fuel t [v]=some x):∃ a l c,v=.slice a l c:=by
 rcases open_slice ht h with ⟨hcs,_⟩ | ⟨ad,l,c,m,n,D,Pl,hcs,_⟩
 ·simp at hcs
  exact⟨_,_,_,hcs⟩
 ·simp at hcs
  exact⟨_,_,_,hcs⟩
theorem row_of_trod {H:Type} {enc:TypeId×Value→H} {W:World} {fuel:Nat} {a:Option Addr} {l c:Nat} {x:DataW H×List MemPlace} (h:DataW.trod enc Tryz.prog W 0 (fun _=>true) true fuel 25 [.slice a l c]=some x):∃ zs,IsRow .i64 W a l c zs:=by
 rcases open_ints Tryz.underlying25 Tryz.underlying3 (by kernel_rfl) h with ⟨hcs,_⟩ | ⟨x,l,c,zs,hcs,_,hl,hm,hz,_,hcell,hwz⟩
 ·simp at hcs
  obtain⟨rfl,rfl,rfl⟩:=hcs
  exact⟨[],.inl ⟨rfl,rfl,rfl,rfl⟩⟩
 ·simp at hcs
  obtain⟨rfl,rfl,rfl⟩:=hcs
  exact⟨zs,.inr ⟨_,rfl,hl,hm,by simpa using hz,hcell,hwz⟩⟩
end
end Go.Proofs.YtkpbfmdnjnohlaaGreat
