/-
  Texts of the proof, put together.
-/
import Derived.Test.YtcbbcadfolgioaaDoorPe11
namespace Go.Proofs.YtcbbcadfolgioaaDoor
open Go.RowKit Go.Joins RastMath ScanMath
theorem specUnit (c:Int) (N D:Nat) (w:World) (hN:chan c=(N:Int)) (hN4:N≤4) (hD:D≤16):
  Calls Tryd.prog 70 #[.int .i64 c,.int .i64 (D:Int)] w fun e w'=>e=.returned (.int .i64 (unitN N D:Int))∧w'=w:=by
 have hc:=fun V=>specChannels c V
 rw[hN] at hc
 obtain⟨P,hP⟩:∃ P,P=N * D:=⟨_,rfl⟩
 have hPb:P≤64:=by rw [hP]; exact Nat.mul_le_mul hN4 hD
 have e1:(N:Int) * (D:Int)=(P:Int):=by rw [hP]; simp
 unfold unitN
 rw[← hP]
 clear hP hN
 by_cases h:P / 8 < 1
 ·rw[if_pos h]
  have d1:(P:Int) / 8 < 1:=by omega
  clear h
  go_enter Tryd.func70,Tryd.ntmps70
  go_wp2_with fail
  refine (hc _).mono ?_
  rintro e w1 ⟨rfl,rfl⟩
  go_wp2_with fail
  go_ret
  exact⟨rfl,rfl⟩
 ·rw[if_neg h]
  have d1:¬ (P:Int) / 8 < 1:=by omega
  clear h
  go_enter Tryd.func70,Tryd.ntmps70
  go_wp2_with fail
  refine (hc _).mono ?_
  rintro e w1 ⟨rfl,rfl⟩
  go_wp2_with fail
  go_ret
  exact⟨by go_num,rfl⟩
theorem info_u15:(Tryd.prog.info? 5).map (fun i=>(i.zero,i.size,i.bytes))=some (some (.int .u8 0),1,1):=by kernel_rfl
theorem made_u15 (n:Nat):(madeCells #[Value.int .u8 0] n).toList=u8s (List.replicate n 0):=by
 unfold madeCells u8s
 rw[List.map_replicate,Array.toList_map,Array.toList_range]
 refine List.ext_getElem (by simp) fun i h1 h2=>?_
 simp[Nat.mod_one]
theorem make_bytes (w:World) (n:Nat) (hn:n≤1048576):(Instr.makeSlice 22 (.int .i64 n) (.int .i64 n)).run Tryd.prog w=.ok (.slice (some ⟨w.heap.size,0,none⟩) n n) (w.alloc (.cells (madeCells #[Value.int .u8 0] n) 5)):=by
 obtain⟨i0,hi0,hz0,hz1,hz2⟩:=info_parts info_u15
 have h:=run_make (P:=Tryd.prog) w 22 5 i0 (.int .u8 0) Tryd.underlying22 hi0 hz0 .i64 .i64 n n (by omega) (by omega) (by rw [hz2]; omega) (by omega)
 rw[hz1,Int.toNat_natCast,Nat.mul_one] at h
 exact h
theorem own_made15 (w:World) (n:Nat) (hn:n≤1048576):Own 5 (w.alloc (.cells (madeCells #[Value.int .u8 0] n) 5)) w.heap.size w.heap.size (.slice (some ⟨w.heap.size,0,none⟩) n n) (u8s (List.replicate n 0)):=by
 have hl:(u8s (List.replicate n 0)).length=n:=by rw [u8s_length]; simp
 refine⟨n,madeCells #[Value.int .u8 0] n,(0,0),by rw [hl],Nat.le_refl _,heap_alloc_new w _,.inl rfl,by omega,by unfold maxLen; omega,by simp [madeCells],?_⟩
 rw[made_u15,hl,List.take_of_length_le (by omega)]
set_option maxHeartbeats 800000 in
theorem specZeros (n:Nat) (w:World) (hn1:n≤20000):
  Calls Tryd.prog 68 #[.int .i64 n,.int .u8 0] w fun e w'=>e=.returned (.string (zeroT n))∧Below w.heap.size w w':=by
 have hm:=make_bytes w n (by omega)
 have H0:Hid (Own 5 (w.alloc (.cells (madeCells #[Value.int .u8 0] n) 5)) w.heap.size w.heap.size (.slice (some ⟨w.heap.size,0,none⟩) n n) (u8s (List.replicate n 0))∧Below w.heap.size w (w.alloc (.cells (madeCells #[Value.int .u8 0] n) 5))):=⟨own_made15 w n (by omega),bstart _ _⟩
 generalize w.alloc (.cells (madeCells #[Value.int .u8 0] n) 5)=W1 at hm H0
 go_enter Tryd.func68,Tryd.ntmps68
 go_wp2_with fail
 clear hm
 go_loopg [6] (n+1) (fun gk i w'=>∃ j:Nat,j≤n∧n - j≤gk∧i=.int .i64 (j:Int)∧Hid (Own 5 w' w.heap.size w.heap.size (.slice (some ⟨w.heap.size,0,none⟩) n n) (u8s (List.replicate n 0))∧Below w.heap.size w w'))
 case atStart=>exact⟨0,Nat.zero_le _,by omega,rfl,H0⟩
 case round=>
  clear H0
  obtain⟨j,hj,hgk,rfl,hJ⟩:=hrel
  by_cases hlt:j < n
  ·have dl:decide ((j:Int) < (n:Int))=true:=decide_eq_true (by omega)
   have hl:j < (u8s (List.replicate n 0)).length:=by rw [u8s_length]; simpa using hlt
   have c1:wr.cell? ⟨w.heap.size,j,none⟩=some (.int .u8 0):=by
    rw[hJ.out.1.cell j hl]
    simp[u8s]
   have f1:=hJ.out.1.free j hl
   have l1:=hJ.out.1.lt
   have HN:Hid (Own 5 (wr.setCell ⟨w.heap.size,j,none⟩ (.int .u8 0)) w.heap.size w.heap.size (.slice (some ⟨w.heap.size,0,none⟩) n n) (u8s (List.replicate n 0))∧Below w.heap.size w (wr.setCell ⟨w.heap.size,j,none⟩ (.int .u8 0))):=by
    refine⟨?_,Below.setCell (p:=⟨w.heap.size,j,none⟩) hJ.out.2 (Nat.le_refl _) _⟩
    have q:=hJ.out.1.set j hl (.int .u8 0)
    have e:(u8s (List.replicate n 0)).set j (.int .u8 0)=u8s (List.replicate n 0):=by
     refine List.ext_getElem (by simp) fun i h1 h2=>?_
     rw[List.getElem_set]
     simp[u8s]
    rw[e] at q
    exact q
   clear hJ hl
   go_wp2_with fail
   go_roundg (n - (j+1))
   case measure=>omega
   case rel=>exact⟨j+1,by omega,Nat.le_refl _,by go_num,HN⟩
  ·have kc:=own_string (P:=Tryd.prog) (List.replicate n 0) 22 9 Tryd.underlying22 Tryd.underlying5 Tryd.underlying9 hJ.out.1
   go_wp2_with fail
   go_ret
   exact⟨rfl,hJ.out.2⟩
theorem bytes_appN {w:World} {S g n cap:Nat} {xs:List Int} {ops:Array Oper} {rest:List Oper} {o:Oper} {a:Act} {Q:Exit→Act→World→Prop} (hgd:o.guard=none) (s x:Operand)
  (ho:o.op=.call { callee:=.builtin .append,args:=#[s,x],argTypes:=#[22,22] }) (hs:a.eval s=.slice (some ⟨g,0,none⟩) n cap) (h:BR w S g n cap xs) (b m c:Nat) (ys:List Int) (hx:a.eval x=.slice (some ⟨b,0,none⟩) m c) (hm:m=ys.length) (hm1:1≤m) (hy:∀ j,j < m→w.cell? ⟨b,j,none⟩=some (.int .u8 (ys.getD j 0)))
  (h63:n+m≤100000) (hS:S≤w.heap.size)
  (hK:∀ g' cap' w',BR w' S g' (n+m) cap' (xs ++ ys)→w.grownBy w' (some g)→wpList Tryd.prog ops Q rest (a.put o.dst (.slice (some ⟨g',0,none⟩) (n+m) cap')) w'):wpList Tryd.prog ops Q (o :: rest) a w:=by
 obtain⟨i0,hi0,hz0,hz1,hz2⟩:=info_parts info_b8
 refine wpList_append_lies w hgd s x _ ho S 5 i0 _ 1 1 Tryd.underlying22 hi0 hz0 hz1 hz2 rfl (by omega) _ n (b8 xs) hs h.1 ⟨b,0,none⟩ m c (b8 ys) hx (by rw [b8_length,hm,Nat.mul_one]) (fun j u hu=>?_) (fun u hu=>?_) (by omega) (by unfold maxLen; omega) (by omega) hS _ rfl ?_
 ·have hj:j < m:=by
   rcases Nat.lt_or_ge j m with q | q
   ·exact q
   ·rw[List.getElem?_eq_none (by rw [b8_length]; omega)] at hu
    cases hu
  have e:u=.int .u8 (ys.getD j 0):=by
   unfold b8 at hu
   rw[List.getElem?_map,List.getElem?_eq_getElem (by omega)] at hu
   rw[List.getD_eq_getElem?_getD,List.getElem?_eq_getElem (by omega)]
   simpa using hu.symm
  rw[e,Addr.add_lit,Nat.zero_add]
  exact hy j hj
 ·obtain⟨y,_,rfl⟩:=List.mem_map.1 hu
  rfl
 ·intro g' cap' w' hown hg _ _
  refine hK g' cap' w' ⟨?_,by rw [List.length_append,h.2,hm]⟩ hg
  have:b8 (xs ++ ys)=b8 xs ++ b8 ys:=by simp [b8]
  rw[this]
  exact hown
end Go.Proofs.YtcbbcadfolgioaaDoor
