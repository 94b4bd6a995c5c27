/-
  Texts of the proof, put together.
-/
import Derived.Test.YtcbbcadfolgioaaDoorPe18
import Derived.Test.YtcbbcadfolgioaaDoorPe16
namespace Go.Proofs.YtcbbcadfolgioaaDoor
open Go.RowKit Go.Joins TakeMath FiltMath
set_option maxHeartbeats 1600000 in
theorem beside_any (a:Option Addr) (n cap:Nat) (r u:Nat→Int) (ga m ca unit i:Nat) (w:World) (hu:1≤unit∧unit≤8) (hi:i < m) (hm:m≤200) (hr:∀ i,0≤r i∧r i < 256) (hub:∀ i,0≤u i∧u i < 256) (hA:BAt w ga m u)
  (hrow:unit≤i→∃ g,a=some ⟨g,0,none⟩∧i - unit < n∧g < w.heap.size∧w.cell? ⟨g,i - unit,none⟩=some (.int .u8 (r (i - unit)))):
  Calls Tryd.prog 103 #[.slice a n cap,.slice (some ⟨ga,0,none⟩) m ca,.int .i64 (i:Int),.int .i64 (unit:Int)] w fun e w'=>e=.returned (bsV (aheadB r unit i) (u i) (aheadB u unit i))∧Below w.heap.size w w':=by
 obtain⟨hga,hAc⟩:=hA
 have hB1:=hub i
 have HAC:=hid_of hAc
 have ci:=hAc i hi
 obtain⟨B,hB⟩:∃ B,B=u i:=⟨_,rfl⟩
 rw[← hB] at hB1 ci
 have HBT:Hid (u i=B):=hB.symm
 have w0:IntKind.i64.wrap B=B:=by rw [IntKind.wrap_i64]; omega
 have l1:(i:Int) < (m:Int):=by omega
 have hgn0:¬ ga=w.heap.size:=by omega
 have hgn00:¬ ga=w.heap.size+1:=by omega
 have hgl0:ga < w.heap.size+1:=by omega
 have hgl00:ga < w.heap.size+1+1:=by omega
 have ci1:∀ o1:Obj,(w.alloc o1).cell? ⟨ga,i,none⟩=some (.int .u8 B):=fun o1=>by rw [grow_cell o1 hga]; exact ci
 clear hB hAc
 by_cases hq:unit≤i
 ·obtain⟨g,rfl,hg1,hg2,hg3⟩:=hrow hq
  obtain⟨j,hj⟩:∃ j,j=i - unit:=⟨_,rfl⟩
  rw[← hj] at hg1 hg3
  have hjs:j < m:=by omega
  have cj:=HAC.out j hjs
  have hC1:=hub j
  obtain⟨C,hC⟩:∃ C,C=u j:=⟨_,rfl⟩
  rw[← hC] at cj hC1
  have HA:Hid (aheadB r unit i=r j∧aheadB u unit i=C):=by
   unfold aheadB
   rw[if_pos hq,if_pos hq,← hj]
   exact⟨rfl,hC.symm⟩
  have e1:(i:Int) - (unit:Int)=(j:Int):=by omega
  have w1:IntKind.i64.wrap (j:Int)=(j:Int):=by rw [IntKind.wrap_i64]; omega
  have w2:IntKind.i64.wrap C=C:=by rw [IntKind.wrap_i64]; omega
  have hrj:=hr j
  obtain⟨R,hR⟩:∃ R,R=r j:=⟨_,rfl⟩
  rw[← hR] at hg3 hrj HA
  have w3:IntKind.i64.wrap R=R:=by rw [IntKind.wrap_i64]; omega
  have dq:decide ((unit:Int)≤(i:Int))=true:=decide_eq_true (by omega)
  have x1:(j:Int) < (m:Int):=by omega
  have x2:(j:Int) < (n:Int):=by omega
  have hgn1:¬ g=w.heap.size:=by omega
  have hgn2:¬ g=w.heap.size+1:=by omega
  have hg4:g < w.heap.size+1:=by omega
  have hg5:g < w.heap.size+1+1:=by omega
  have c1:∀ o1 o2:Obj,((w.alloc o1).alloc o2).cell? ⟨g,j,none⟩=some (.int .u8 R):=fun o1 o2=>by rw [grow_cell o2 (grow_lt o1 hg2),grow_cell o1 hg2]; exact hg3
  have c2:∀ o1 o2:Obj,((w.alloc o1).alloc o2).cell? ⟨ga,j,none⟩=some (.int .u8 C):=fun o1 o2=>by rw [grow_cell o2 (grow_lt o1 hga),grow_cell o1 hga]; exact cj
  clear hC hj hR hr hub hrow
  go_enter Tryd.func103,Tryd.ntmps103
  go_wp2_with fail
  go_region
  all_goals
   go_wp2_with fail
   refine bodyPost_ret (v:=bsV R B C) (by simp [results,Tryd.results103,go_sem]) rfl ⟨?_,?_⟩
   ·rw[HBT.out,HA.out.1,HA.out.2]
   ·exact (bal (bstart _ _) _).drew
 ·have HA:Hid (aheadB r unit i=0∧aheadB u unit i=0):=by
   unfold aheadB
   rw[if_neg hq,if_neg hq]
   exact⟨rfl,rfl⟩
  have dq:decide ((unit:Int)≤(i:Int))=false:=decide_eq_false (by omega)
  clear hr hub hrow
  go_enter Tryd.func103,Tryd.ntmps103
  go_wp2_with fail
  refine bodyPost_ret (v:=bsV 0 B 0) (by simp [results,Tryd.results103,go_sem]) rfl ⟨?_,?_⟩
  ·rw[HBT.out,HA.out.1,HA.out.2]
  ·exact bal (bstart _ _) _
end Go.Proofs.YtcbbcadfolgioaaDoor
