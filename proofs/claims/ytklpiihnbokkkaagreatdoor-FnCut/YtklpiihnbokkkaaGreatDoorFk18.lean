/-
  Texts of the proof, put together.
-/
import Derived.Test.YtklpiihnbokkkaaGreatDoorFk17
namespace Go.Proofs.YtklpiihnbokkkaaGreatDoor
section
open Go.RowKit Go.Joins OutMath CodeMath
theorem cs_here (f:Nat→Int) (k:Nat) (h:0 < f k) (s:Nat):upd (cs f k) (f k).toNat (cs f k (f k).toNat+1) s=cs f (k+1) s:=by
 rw[cs_step f k (by omega)]
 unfold upd
 by_cases h1:s=(f k).toNat
 ·rw[if_pos h1,if_pos ⟨h,h1⟩,h1]
 ·rw[if_neg h1,if_neg (by omega)]
  omega
theorem cs_skip (f:Nat→Int) (k:Nat) (h:f k=0) (s:Nat):cs f k s=cs f (k+1) s:=by
 rw[cs_step f k (by omega),if_neg (by omega)]
 omega
def CntSt (w w':World) (f:Nat→Int) (j:Nat):Prop:=Six w' (w.heap.size+1) 252 (cs f j)∧Six w' w.heap.size 252 (fun _=>0)∧Below w.heap.size w w'∧OkLens f j
theorem cnt_start (w:World) (f:Nat→Int):CntSt w ((w.alloc (.cells (six fun _=>0) 252)).alloc (.cells (six fun _=>0) 252)) f 0:=by
 refine⟨?_,?_,bal (bstart _ _) _,fun i hi=>absurd hi (Nat.not_lt_zero i)⟩
 ·refine Six.congr (g:=fun _=>0) ?_ (fun s _=>(cs_start f s).symm)
  have k:=heap_alloc_new (w.alloc (.cells (six fun _=>0) 252)) (.cells (six fun _=>0) 252)
  rw[show (w.alloc (.cells (six fun _=>0) 252)).heap.size=w.heap.size+1 by simp] at k
  exact k
 ·show _=_
  rw[Below.heap_alloc _ _ _ (by simp)]
  exact heap_alloc_new w _
set_option maxHeartbeats 800000 in
theorem count_yes (a:Option Addr) (n cap:Nat) (f:Nat→Int) (w:World) (hC:Came w a n f) (hm:n≤288) (hok:OkLens f n):
  Calls Tryz.prog 183 #[.slice a n cap] w fun e w'=>e=.returned (.tuple #[.agg (six (cs f n)),.bool true])∧Below w.heap.size w w':=by
 have HC:Hid (Came w a n f):=hC
 have HO:Hid (OkLens f n):=hok
 have H0:=hid_of (cnt_start w f)
 clear hC hok
 go_enter Tryz.func183,Tryz.ntmps183
 go_wp2_with fail
 go_loopw [13] (fun i w'=>∃ j:Nat,j≤n∧i=.int .i64 j∧Hid (CntSt w w' f j)) (fun i _=>n - (intOf i).toNat)
 case atStart=>exact⟨0,Nat.zero_le _,rfl,H0⟩
 case round=>
  clear H0
  obtain⟨j,hj,rfl,hS⟩:=hrel
  by_cases hlt:j < n
  ·rcases HC.out with h0 | ⟨g,off,rfl,hg,hc⟩
   ·omega
   ·have c0:wr.cell? ⟨g,off+j,none⟩=some (.int .i64 (f j)):=(hS.out.2.2.1.cell (p:=⟨g,off+j,none⟩) hg).trans (hc j hlt)
    have hl2:g < wr.heap.size:=Nat.lt_of_lt_of_le hg hS.out.2.2.1.size
    clear hc
    obtain⟨i0,i1⟩:=HO.out j hlt
    have hok1:Hid (OkLens f (j+1)):=fun i hi=>HO.out i (by omega)
    by_cases hpos:0 < f j
    ·obtain⟨m,hmj⟩:=Int.eq_ofNat_of_zero_le i0
     have cm:=hS.out.1.c m (by omega)
     have fm:=hS.out.1.f m
     have hlb:=hS.out.1.lt
     have hcb:=cs_bd f j m
     have HS1:Hid (CntSt w (wr.setCell ⟨w.heap.size+1,m,none⟩ (.int .i64 (cs f j m+1))) f (j+1)):=by
      refine⟨(hS.out.1.set m _).congr (fun i _=>?_),?_,Below.setCell (p:=⟨w.heap.size+1,m,none⟩) hS.out.2.2.1 (Nat.le_succ _) _,hok1.out⟩
      ·have:=cs_here f j hpos i
       rw[show (f j).toNat=m by omega] at this
       exact this
      ·show _=_
       rw[Below.heap_setCell _ _ _ _ (show w.heap.size≠w.heap.size+1 by omega)]
       exact hS.out.2.1
     rw[hmj] at c0 hpos
     have d:decide ((0:Int) < (m:Int))=true:=by simpa using hpos
     go_wp2_with fail
     go_roundw
     case rel=>exact⟨j+1,by omega,by go_num,HS1⟩
     case measure=>simp [intOf]; omega
    ·have e0:f j=0:=by omega
     have HS1:Hid (CntSt w wr f (j+1)):=⟨hS.out.1.congr (fun i _=>cs_skip f j e0 i),hS.out.2.1,hS.out.2.2.1,hok1.out⟩
     rw[e0] at c0
     go_wp2_with fail
     go_roundw
     case rel=>exact⟨j+1,by omega,by go_num,HS1⟩
     case measure=>simp [intOf]; omega
  ·obtain rfl:j=n:=by omega
   have cc:=hS.out.1.c
   have fc:=hS.out.1.f
   have lc:=hS.out.1.lt
   have cr:=hS.out.2.1.c
   have fr:=hS.out.2.1.f
   have hB:=hS.out.2.2.1
   go_wp2_with fail
   refine bodyPost_ret (v:=.tuple #[.agg (six (cs f j)),.bool true]) (by simp [results,Tryz.results183,go_sem,cr]) rfl ⟨rfl,?_⟩
   iterate 16 refine Below.setCell ?_ (by simp) _
   exact hB
theorem count_long (a:Option Addr) (n cap:Nat) (w:World) (hn:n≤1048576) (hm:¬ n≤288):
  Calls Tryz.prog 183 #[.slice a n cap] w fun e w'=>e=.returned (.tuple #[.agg (six fun _=>0),.bool false])∧Below w.heap.size w w':=by
 go_enter Tryz.func183,Tryz.ntmps183
 go_wp2_with fail
 exact bodyPost_ret (v:=.tuple #[.agg (six fun _=>0),.bool false]) (by simp [results,Tryz.results183,go_sem]) rfl ⟨rfl,bal (bstart _ _) _⟩
set_option maxHeartbeats 800000 in
theorem count_bad (a:Option Addr) (n cap:Nat) (f:Nat→Int) (w:World) (hC:Came w a n f) (hm:n≤288) (hf:∀ i,i < n→(Lit.int .i64 (f i)).wf=true) (hb:¬ OkLens f n):
  Calls Tryz.prog 183 #[.slice a n cap] w fun e w'=>e=.returned (.tuple #[.agg (six fun _=>0),.bool false])∧Below w.heap.size w w':=by
 have HC:Hid (Came w a n f):=hC
 have HB:Hid (¬ OkLens f n):=hb
 have HF:Hid (∀ i,i < n→(Lit.int .i64 (f i)).wf=true):=hf
 have H0:=hid_of (cnt_start w f)
 clear hC hb hf
 go_enter Tryz.func183,Tryz.ntmps183
 go_wp2_with fail
 go_loopw [13] (fun i w'=>∃ j:Nat,j≤n∧i=.int .i64 j∧Hid (CntSt w w' f j)) (fun i _=>n - (intOf i).toNat)
 case atStart=>exact⟨0,Nat.zero_le _,rfl,H0⟩
 case round=>
  clear H0
  obtain⟨j,hj,rfl,hS⟩:=hrel
  by_cases hlt:j < n
  ·rcases HC.out with h0 | ⟨g,off,rfl,hg,hc⟩
   ·omega
   ·have c0:wr.cell? ⟨g,off+j,none⟩=some (.int .i64 (f j)):=(hS.out.2.2.1.cell (p:=⟨g,off+j,none⟩) hg).trans (hc j hlt)
    have hl2:g < wr.heap.size:=Nat.lt_of_lt_of_le hg hS.out.2.2.1.size
    clear hc
    by_cases hin:0≤f j∧f j≤15
    ·obtain⟨i0,i1⟩:=hin
     have hok1:Hid (OkLens f (j+1)):=fun i hi=>by
      by_cases e:i=j
      ·rw[e]; exact⟨i0,i1⟩
      ·exact hS.out.2.2.2 i (by omega)
     by_cases hpos:0 < f j
     ·obtain⟨m,hmj⟩:=Int.eq_ofNat_of_zero_le i0
      have cm:=hS.out.1.c m (by omega)
      have fm:=hS.out.1.f m
      have hlb:=hS.out.1.lt
      have hcb:=cs_bd f j m
      have HS1:Hid (CntSt w (wr.setCell ⟨w.heap.size+1,m,none⟩ (.int .i64 (cs f j m+1))) f (j+1)):=by
       refine⟨(hS.out.1.set m _).congr (fun i _=>?_),?_,Below.setCell (p:=⟨w.heap.size+1,m,none⟩) hS.out.2.2.1 (Nat.le_succ _) _,hok1.out⟩
       ·have:=cs_here f j hpos i
        rw[show (f j).toNat=m by omega] at this
        exact this
       ·show _=_
        rw[Below.heap_setCell _ _ _ _ (show w.heap.size≠w.heap.size+1 by omega)]
        exact hS.out.2.1
      rw[hmj] at c0 hpos
      have d:decide ((0:Int) < (m:Int))=true:=by simpa using hpos
      go_wp2_with fail
      go_roundw
      case rel=>exact⟨j+1,by omega,by go_num,HS1⟩
      case measure=>simp [intOf]; omega
     ·have e0:f j=0:=by omega
      have HS1:Hid (CntSt w wr f (j+1)):=⟨hS.out.1.congr (fun i _=>cs_skip f j e0 i),hS.out.2.1,hS.out.2.2.1,hok1.out⟩
      rw[e0] at c0
      go_wp2_with fail
      go_roundw
      case rel=>exact⟨j+1,by omega,by go_num,HS1⟩
      case measure=>simp [intOf]; omega
    ·have cr:=hS.out.2.1.c
     have fr:=hS.out.2.1.f
     have lr:=hS.out.2.1.lt
     have hB:=hS.out.2.2.1
     by_cases q0:f j < 0
     ·have d0:decide (f j < 0)=true:=by simpa using q0
      clear hin
      go_wp2_with fail
      refine bodyPost_ret (v:=.tuple #[.agg (six fun _=>0),.bool false]) (by simp [results,Tryz.results183,go_sem,cr]) rfl ⟨rfl,?_⟩
      iterate 16 refine Below.setCell ?_ (by simp) _
      exact hB
     ·have d0:decide (f j < 0)=false:=by simpa using q0
      have q1:15 < f j:=by omega
      have d1:decide (15 < f j)=true:=by simpa using q1
      clear hin
      go_wp2_with fail
      refine bodyPost_ret (v:=.tuple #[.agg (six fun _=>0),.bool false]) (by simp [results,Tryz.results183,go_sem,cr]) rfl ⟨rfl,?_⟩
      iterate 16 refine Below.setCell ?_ (by simp) _
      exact hB
  ·obtain rfl:j=n:=by omega
   exact absurd hS.out.2.2.2 HB.out
theorem count_no (a:Option Addr) (n cap:Nat) (f:Nat→Int) (w:World) (hC:Came w a n f) (hn:n≤1048576) (hf:∀ i,i < n→(Lit.int .i64 (f i)).wf=true) (hb:¬ (n≤288∧OkLens f n)):
  Calls Tryz.prog 183 #[.slice a n cap] w fun e w'=>e=.returned (.tuple #[.agg (six fun _=>0),.bool false])∧Below w.heap.size w w':=by
 by_cases hm:n≤288
 ·exact count_bad a n cap f w hC hm hf (fun h=>hb ⟨hm,h⟩)
 ·exact count_long a n cap w hn hm
end
section
open Go.RowKit Go.Joins OutMath CodeMath
theorem six_index (g:Nat→Int) (k:Nat) (hk:k < 16) (w:World):(Instr.index 252 (.agg (six g)) (.int .i64 (k:Int))).run Tryz.prog w=.ok (.int .i64 (g k)) w:=by
 have h:(0:Int)≤k∧(k:Int) < 16:=by omega
 have e:(fints g 16)[k]?=some (.int .i64 (g k)):=by
  rw[List.getElem?_eq_getElem (by rw [fints_length]; exact hk),fints_get]
 show (Instr.index 252 (.agg (fints g 16).toArray) (.int .i64 (k:Int))).run Tryz.prog w=_
 simp[Instr.index,run_underlying Tryz.underlying252,asIntOf,go_sem,hk,e]
set_option maxHeartbeats 800000 in
theorem fullTo_any (g:Nat→Int) (w:World) (hg:∀ s,0≤g s∧g s≤288):
  Calls Tryz.prog 185 #[.agg (six g)] w fun e w'=>e=.returned (.int .i64 (fullS g 16))∧Below w.heap.size w w':=by
 have HG:Hid (∀ s,0≤g s∧g s≤288):=hg
 clear hg
 go_enter Tryz.func185,Tryz.ntmps185
 go_wp2_with fail
 go_loop [3,7] (fun x i=>∃ j:Nat,j≤16∧i=.int .i64 j∧x=.int .i64 (fullS g j)) (fun _ i=>16 - (intOf i).toNat)
 case atStart=>exact⟨0,Nat.zero_le _,rfl,rfl⟩
 case round=>
  obtain⟨j,hj,rfl,rfl⟩:=hrel
  have hb:=fullS_bd g HG.out j
  by_cases hlt:j < 16
  ·have hix:=fun w=>six_index g j hlt w
   have hp:=shl_part g HG.out j
   have hgj:=HG.out j
   have HR:Hid (fullS g (j+1)=fullS g j+g j * p2 (15 - j)):=rfl
   have e15:((15:Int) - (j:Int)).toNat=15 - j:=by omega
   have HW:Hid (wrap64 (fullS g j+wrap64 (g j * 2 ^ (15 - j)))=fullS g (j+1)):=by
    show wrap64 (fullS g j+wrap64 (g j * p2 (15 - j)))=fullS g j+g j * p2 (15 - j)
    unfold wrap64
    omega
   go_wp2_with fail
   go_round
   case rel=>exact⟨j+1,by omega,by go_num,by rw [HW.out]⟩
   case measure=>simp [intOf]; omega
  ·obtain rfl:j=16:=by omega
   go_wp2_with fail
   go_ret
   exact⟨rfl,bstart _ _⟩
end
section
open Go.RowKit Go.Joins
theorem info_six:(Tryz.prog.info? 3).map (fun i=>(i.zero,i.size,i.bytes))=some (some (.int .i64 0),1,8):=by kernel_rfl
theorem six_part (g:Nat→Int) (k:Nat) (hk:k < 16) (w:World):(part 3 (fints g 16).toArray (k * 1)).run Tryz.prog w=.ok (.int .i64 (g k)) w:=by
 have e:(fints g 16)[k]?=some (.int .i64 (g k)):=by
  rw[List.getElem?_eq_getElem (by rw [fints_length]; exact hk),fints_get]
 simp[go_sem,e]
theorem six_items (g h:Nat→Int) (w:World):∀ is:List Nat,(∀ i∈is,i < 16)→(Op.eqItems 9999 3 1 (fints g 16).toArray (fints h 16).toArray is).run Tryz.prog w=.ok (is.all fun i=>g i == h i) w
 | [],_=>by simp [Op.eqItems]
 | i :: is,hi=>by
  have h1:=hi i (by simp)
  have ih:=six_items g h w is (fun j hj=>hi j (by simp [hj]))
  have e:=run_equalIn_int (P:=Tryz.prog) w 9998 3 .i64 .i64 (g i) (h i) Tryz.underlying3
  simp only [Op.eqItems,Sem.run_bind,six_part _ i h1,Result.andThen_ok,List.all_cons]
  rw[e]
  simp only [Result.andThen_ok]
  cases hb:(g i == h i)
  ·simp
  ·simpa using ih
theorem six_eq (g h:Nat→Int) (b:Bool) (hb:b=true↔∀ s,s < 16→g s=h s) (w:World):(Op.equalIn 10000 252 (.agg (six g)) (.agg (six h))).run Tryz.prog w=.ok b w:=by
 obtain⟨i0,hi0,hz0,hz1,hz2⟩:=info_parts info_six
 have hc:Tryz.prog.cellsOf 3=1:=by kernel_rfl
 have k:=run_equalIn_array (P:=Tryz.prog) w 9999 (fints g 16).toArray (fints h 16).toArray Tryz.underlying252 hi0
 rw[hc,six_items g h w _ (fun i hi=>List.mem_range.mp hi)] at k
 have e:b=((List.range 16).all fun i=>g i == h i):=by
  rw[Bool.eq_iff_iff,hb]
  simp
 rw[e]
 exact k
end
section
open Go.RowKit Go.Joins CodeMath
def KindAnswer : Prop := ∀ (a : Option Addr) (n cap : Nat) (f : Nat → Int) (w : World), Came w a n f → n ≤ 1048576 → (∀ i, i < n → (Lit.int .i64 (f i)).wf = true) →
    Calls Tryz.prog 186 #[.slice a n cap] w fun e w' => ∃ k : Int, e = .returned (.int .i64 k) ∧ Kind f n k ∧ Below w.heap.size w w'
end
section
open Go.RowKit Go.Joins OutMath CodeMath
theorem ret_num {a b:Int} (h:a=b):Ending.returned (.int .i64 a)=.returned (.int .i64 b):=by rw [h]
set_option maxHeartbeats 1600000 in
theorem implKind_yes (a:Option Addr) (n cap:Nat) (f:Nat→Int) (w:World) (hC:Came w a n f) (hm:n≤288) (hok:OkLens f n):
  Calls Tryz.prog 186 #[.slice a n cap] w fun e w'=>e=.returned (.int .i64 (kindOf f n))∧Below w.heap.size w w':=by
 have HC:Hid (Came w a n f):=hC
 have HO:Hid (OkLens f n):=hok
 have hr:=(room_bd f n).2 hok
 have hr0:=(room_bd f n).1
 clear hC hok
 go_enter Tryz.func186,Tryz.ntmps186
 go_wp2_with fail
 refine (count_yes a n cap f _ HC.out hm HO.out).mono ?_
 rintro e w1 ⟨rfl,hb1⟩
 go_wp2_with fail
 refine (fullTo_any (cs f n) _ (fun s=>by have:=cs_bd f n s; omega)).mono ?_
 rintro e w2 ⟨rfl,hb2⟩
 rw[full_room f n HO.out]
 have hS:Six w2 w1.heap.size 252 (cs f n):=by
  show _=_
  rw[hb2.block _ (by simp)]
  exact heap_alloc_new w1 _
 have hB:Below w.heap.size w w2:=bnext (bal hb1 _) hb2
 have k1:=hS.c
 have f1:=hS.f
 have hz:=hS.lt
 clear hb1 hb2 hS
 by_cases q1:cnt f n=0
 ·have E0:∀ u,(Op.equalIn 10000 252 (.agg #[.int .i64 (cs f n 0),.int .i64 (cs f n 1),.int .i64 (cs f n 2),.int .i64 (cs f n 3),.int .i64 (cs f n 4),.int .i64 (cs f n 5),.int .i64 (cs f n 6),.int .i64 (cs f n 7),.int .i64 (cs f n 8),.int .i64 (cs f n 9),.int .i64 (cs f n 10),.int .i64 (cs f n 11),.int .i64 (cs f n 12),.int .i64 (cs f n 13),.int .i64 (cs f n 14),.int .i64 (cs f n 15)]) (.agg #[.int .i64 0,.int .i64 0,.int .i64 0,.int .i64 0,.int .i64 0,.int .i64 0,.int .i64 0,.int .i64 0,.int .i64 0,.int .i64 0,.int .i64 0,.int .i64 0,.int .i64 0,.int .i64 0,.int .i64 0,.int .i64 0])).run Tryz.prog u=.ok true u:=six_eq (cs f n) (fun _=>0) true (by simpa using (cs_none HO.out).1 q1)
  have HK:Hid (kindOf f n=1):=by show kindOf f n=1; unfold kindOf; rw [if_pos q1]
  clear q1
  go_wp2_with fail
  go_ret
  exact⟨ret_num HK.out.symm,hB⟩
 ·have E0:∀ u,(Op.equalIn 10000 252 (.agg #[.int .i64 (cs f n 0),.int .i64 (cs f n 1),.int .i64 (cs f n 2),.int .i64 (cs f n 3),.int .i64 (cs f n 4),.int .i64 (cs f n 5),.int .i64 (cs f n 6),.int .i64 (cs f n 7),.int .i64 (cs f n 8),.int .i64 (cs f n 9),.int .i64 (cs f n 10),.int .i64 (cs f n 11),.int .i64 (cs f n 12),.int .i64 (cs f n 13),.int .i64 (cs f n 14),.int .i64 (cs f n 15)]) (.agg #[.int .i64 0,.int .i64 0,.int .i64 0,.int .i64 0,.int .i64 0,.int .i64 0,.int .i64 0,.int .i64 0,.int .i64 0,.int .i64 0,.int .i64 0,.int .i64 0,.int .i64 0,.int .i64 0,.int .i64 0,.int .i64 0])).run Tryz.prog u=.ok false u:=six_eq (cs f n) (fun _=>0) false (by
   refine⟨fun h=>absurd h (by simp),fun h=>absurd ((cs_none HO.out).2 h) q1⟩)
  by_cases q2:room f n=32768
  ·have d2:(room f n == 32768)=true:=by simpa using q2
   have HK:Hid (kindOf f n=2):=by show kindOf f n=2; unfold kindOf; rw [if_neg q1,if_pos q2]
   clear q1 q2
   go_wp2_with fail
   go_ret
   exact⟨ret_num HK.out.symm,hB⟩
  ·have d2:(room f n == 32768)=false:=by simpa using q2
   by_cases q3:32768 < room f n
   ·have d3:decide (32768 < room f n)=true:=by simpa using q3
    have HK:Hid (kindOf f n=5):=by show kindOf f n=5; unfold kindOf; rw [if_neg q1,if_neg q2,if_pos q3]
    clear q1 q2 q3
    go_wp2_with fail
    go_ret
    exact⟨ret_num HK.out.symm,hB⟩
   ·have d3:decide (32768 < room f n)=false:=by simpa using q3
    by_cases q4:cnt f n=1∧room f n=16384
    ·have E1:∀ u,(Op.equalIn 10000 252 (.agg #[.int .i64 (cs f n 0),.int .i64 (cs f n 1),.int .i64 (cs f n 2),.int .i64 (cs f n 3),.int .i64 (cs f n 4),.int .i64 (cs f n 5),.int .i64 (cs f n 6),.int .i64 (cs f n 7),.int .i64 (cs f n 8),.int .i64 (cs f n 9),.int .i64 (cs f n 10),.int .i64 (cs f n 11),.int .i64 (cs f n 12),.int .i64 (cs f n 13),.int .i64 (cs f n 14),.int .i64 (cs f n 15)]) (.agg #[.int .i64 0,.int .i64 1,.int .i64 0,.int .i64 0,.int .i64 0,.int .i64 0,.int .i64 0,.int .i64 0,.int .i64 0,.int .i64 0,.int .i64 0,.int .i64 0,.int .i64 0,.int .i64 0,.int .i64 0,.int .i64 0])).run Tryz.prog u=.ok true u:=six_eq (cs f n) one1 true (by simpa using (cs_single HO.out).1 q4)
     have HK:Hid (kindOf f n=3):=by show kindOf f n=3; unfold kindOf; rw [if_neg q1,if_neg q2,if_neg q3,if_pos q4]
     clear q1 q2 q3 q4
     go_wp2_with fail
     go_ret
     exact⟨ret_num HK.out.symm,hB⟩
    ·have E1:∀ u,(Op.equalIn 10000 252 (.agg #[.int .i64 (cs f n 0),.int .i64 (cs f n 1),.int .i64 (cs f n 2),.int .i64 (cs f n 3),.int .i64 (cs f n 4),.int .i64 (cs f n 5),.int .i64 (cs f n 6),.int .i64 (cs f n 7),.int .i64 (cs f n 8),.int .i64 (cs f n 9),.int .i64 (cs f n 10),.int .i64 (cs f n 11),.int .i64 (cs f n 12),.int .i64 (cs f n 13),.int .i64 (cs f n 14),.int .i64 (cs f n 15)]) (.agg #[.int .i64 0,.int .i64 1,.int .i64 0,.int .i64 0,.int .i64 0,.int .i64 0,.int .i64 0,.int .i64 0,.int .i64 0,.int .i64 0,.int .i64 0,.int .i64 0,.int .i64 0,.int .i64 0,.int .i64 0,.int .i64 0])).run Tryz.prog u=.ok false u:=six_eq (cs f n) one1 false (by
      refine⟨fun h=>absurd h (by simp),fun h=>absurd ((cs_single HO.out).2 h) q4⟩)
     have HK:Hid (kindOf f n=4):=by show kindOf f n=4; unfold kindOf; rw [if_neg q1,if_neg q2,if_neg q3,if_neg q4]
     clear q1 q2 q3 q4
     go_wp2_with fail
     go_ret
     exact⟨ret_num HK.out.symm,hB⟩
set_option maxHeartbeats 800000 in
theorem implKind_no (a:Option Addr) (n cap:Nat) (f:Nat→Int) (w:World) (hC:Came w a n f) (hn:n≤1048576) (hf:∀ i,i < n→(Lit.int .i64 (f i)).wf=true) (hb:¬ (n≤288∧OkLens f n)):
  Calls Tryz.prog 186 #[.slice a n cap] w fun e w'=>e=.returned (.int .i64 0)∧Below w.heap.size w w':=by
 have HC:Hid (Came w a n f):=hC
 have HB:Hid (¬ (n≤288∧OkLens f n)):=hb
 have HF:Hid (∀ i,i < n→(Lit.int .i64 (f i)).wf=true):=hf
 clear hC hb hf
 go_enter Tryz.func186,Tryz.ntmps186
 go_wp2_with fail
 refine (count_no a n cap f _ HC.out hn HF.out HB.out).mono ?_
 rintro e w1 ⟨rfl,hb1⟩
 go_wp2_with fail
 refine (fullTo_any (fun _=>0) _ (fun s=>by omega)).mono ?_
 rintro e w2 ⟨rfl,hb2⟩
 have hB:Below w.heap.size w w2:=bnext (bal hb1 _) hb2
 clear hb1 hb2
 go_wp2_with fail
 go_ret
 exact⟨rfl,hB⟩
theorem kind_answer:KindAnswer:=by
 intro a n cap f w hC hn hf
 by_cases h:n≤288∧OkLens f n
 ·refine (implKind_yes a n cap f w hC h.1 h.2).mono ?_
  rintro e w1 ⟨rfl,hb⟩
  exact⟨_,rfl,.inr ⟨h.1,h.2,rfl⟩,hb⟩
 ·refine (implKind_no a n cap f w hC hn hf h).mono ?_
  rintro e w1 ⟨rfl,hb⟩
  exact⟨_,rfl,.inl ⟨rfl,h⟩,hb⟩
end
section
open Go.RowKit Go.Joins OutMath CodeMath TakeMath HitMath WayMath StepMath TokMath BookMath InfMath
theorem Step.new {fb rb:Nat} {w w1 w2:World} {vo vt vo' vt':Value} {row:Option Nat} (h:Step fb rb w vo vt w1 vo' vt') (hg:w1.grownBy w2 row) (hr:∀ k,row=some k→w.heap.size≤k):Step fb rb w vo vt w2 vo' vt':=
 ⟨hg.os.trans h.os,hg.tape.trans h.tape,hg.output.trans h.output,Nat.le_trans h.size hg.size,fun k hk=>by
  obtain⟨q1,q2⟩:=h.block k hk
  refine⟨⟨Nat.lt_of_lt_of_le q1.1 hg.size,q1.2⟩,(hg.block k q1.1 (fun e=>?_)).trans q2⟩
  have:=hr k e.symm
  have:=hk.1
  omega⟩
def ThirdPost (B:Nat) (w:World) (fb rb:Nat) (s:ByteArray) (p k:Nat) (O:List Int) (most:Nat) (Ty:List Int) (vo vt:Value) (e:Ending) (w':World):Prop:=
 (p+3 * k≤8 * s.size∧kindOf (thirdF s p k) 19=2∧∃ g,w.heap.size≤g∧e=.returned (.tuple #[.slice (some ⟨g,0,none⟩) 19 19,.nilIface])∧IOwn w' g g 19 19 (thirdF s p k)∧PS B w' fb rb s (p+3 * k) O most Ty vo vt∧Step fb rb w vo vt w' vo vt)∨
 (∃ c,(if p+3 * k≤8 * s.size then (if kindOf (thirdF s p k) 19≠2 then some 5 else none) else some 2)=some c∧e=.returned (.tuple #[.slice none 0 0,errV c])∧Below B w w')
def TrRing (B:Nat) (w:World) (fb rb:Nat) (s:ByteArray) (p:Nat) (O:List Int) (most:Nat) (Ty:List Int) (vo vt:Value) (g i:Nat) (F:Nat→Int) (w':World):Prop:=
 PS B w' fb rb s (p+3 * i) O most Ty vo vt∧Step fb rb w vo vt w' vo vt∧IOwn w' g g 19 19 F∧(∀ j,j < 19→F j=thirdF s p i j)∧(g≠fb∧g≠rb∧vo.ownBlock≠some g∧vt.ownBlock≠some g∧w.heap.size≤g)∧p+3 * i≤8 * s.size∧OrderG w'
section
variable (B:Nat) (w:World) (fb rb:Nat) (s:ByteArray) (p:Nat) (O:List Int) (most:Nat) (Ty:List Int) (vo vt:Value)
theorem third_lens (s:ByteArray) (p k:Nat):OkLens (thirdF s p k) 19:=by
 intro i _
 unfold thirdF
 by_cases h:orderL.idxOf i < k
 ·rw[if_pos h]
  have:=num_bd s (p+3 * orderL.idxOf i) 3
  rw[show p2 3=8 by decide +kernel] at this
  omega
 ·rw[if_neg h]
  omega
set_option maxRecDepth 100000 in
set_option maxHeartbeats 3200000 in
theorem takeThird_any (h:PS B w fb rb s p O most Ty vo vt) (hs:s.size≤12000) (hp:p≤8 * s.size) (hG:OrderG w) (hGB:1 < B) (k:Nat) (hk:k≤19):
  Calls Tryz.prog 143 #[.pointer (some ⟨fb,0,none⟩),.int .i64 (k:Int)] w (ThirdPost B w fb rb s p k O most Ty vo vt):=by
 have HPS:=hid_of h
 have hmk:=make_ints w 19 (by omega)
 rw[show ((19:Nat):Int)=19 from rfl] at hmk
 have H0:Hid (TrRing B w fb rb s p O most Ty vo vt w.heap.size 0 (fun _=>0) (w.alloc (.cells (madeCells #[Value.int .i64 0] 19) 3))):=by
  have hb:=bstart w (.cells (madeCells #[Value.int .i64 0] 19) 3)
  refine⟨h.called hb,Step.called hb,IOwn.made (base:=w.heap.size) w 19 (by unfold maxLen; omega) (Nat.le_refl _),fun j _=>by rw [third_start],⟨?_,?_,fun e=>?_,fun e=>?_,Nat.le_refl _⟩,hp,hG.below (hb.mono h.2.2.2.2.2.2.2.2.2.2) hGB⟩
  ·have:=h.ltf
   omega
  ·have:=h.ltr
   omega
  ·have:=(World.ownsRow.lt h.2.2.1 _ e).2
   omega
  ·have:=(World.ownsRow.lt h.2.2.2.1 _ e).2
   omega
 clear h hG
 generalize w.alloc (.cells (madeCells #[Value.int .i64 0] 19) 3)=W1 at hmk H0
 go_enter Tryz.func143,Tryz.ntmps143
 go_wp2_with fail
 generalize hg3:w.heap.size=g3 at H0
 clear hmk
 go_loopg [12] (k+1) (fun gk v w'=>∃ (i:Nat) (F:Nat→Int),i≤k∧v=.int .i64 (i:Int)∧k - i≤gk∧Hid (TrRing B w fb rb s p O most Ty vo vt g3 i F w'))
 case atStart=>exact⟨0,_,Nat.zero_le _,rfl,by omega,H0⟩
 case round=>
  clear H0
  obtain⟨i,F,hi,rfl,hgk,hR⟩:=hrel
  by_cases hik:i < k
  ·have dj:decide ((i:Int) < (k:Int))=true:=decide_eq_true (by omega)
   have dj2:decide (i < k)=true:=decide_eq_true hik
   by_cases h3:p+3 * i+3≤8 * s.size
   ·have htk:=take_yes B wr fb rb s (p+3 * i) O most Ty vo vt hR.out.1 hs 3 (by omega) h3
    obtain⟨oi,hoi⟩:∃ oi,oi=orderL.getD i 0:=⟨_,rfl⟩
    have ho19:oi < 19:=by rw [hoi]; exact order_small i (by omega)
    have hx:num s (p+3 * i) 3=num s (p+3 * i) 3:=rfl
    have HNX:Hid (∀ w',PS B w' fb rb s (p+3 * i+3) O most Ty vo vt→wr.grownBy w' (some rb)→(OrderG w'∧IOwn w' g3 g3 19 19 F)∧TrRing B w fb rb s p O most Ty vo vt g3 (i+1) (upd F oi (num s (p+3 * i) 3)) (w'.setCell ⟨g3,oi,none⟩ (.int .i64 (num s (p+3 * i) 3)))):=fun w' q1 q2=>by
     obtain⟨t1,t2,t3,t4,⟨t5,t6,t7,t8,t9⟩,t10,t11⟩:=hR.out
     have st:=step_read (fb:=fb) (vo:=vo) (vt:=vt) q2
     have og:=t11.below (t1.below st) hGB
     have io:=t3.grown q2 (fun e=>t6 (by cases e; rfl))
     have hgs:=grown_cell w' g3 oi (.int .i64 (num s (p+3 * i) 3))
     have ps2:=q1.other hgs (fun k e=>by cases e; exact⟨t5,t6,t7,t8⟩)
     refine⟨⟨og,io⟩,⟨?_,(t2.trans st).new hgs (fun k e=>by cases e; exact t9),io.set oi ho19 _,fun j hj=>?_,⟨t5,t6,t7,t8,t9⟩,by omega,?_⟩⟩
     ·rw[show p+3 * (i+1)=p+3 * i+3 by omega]
      exact ps2
     ·rw[← third_next s p i (by omega) j hj,← hoi]
      unfold upd
      rw[t4 j hj]
     ·refine og.below (B:=B) ⟨rfl,rfl,rfl,hgs.size,fun k hk=>hgs.block k ?_ ?_⟩ hGB
      ·have:=q1.2.2.2.2.2.2.2.2.2.2
       omega
      ·intro e
       cases e
       have:=HPS.out.2.2.2.2.2.2.2.2.2.2
       omega
    have HOI:=hid_of hoi
    generalize num s (p+3 * i) 3=x at *
    clear hR hoi hx
    go_wp2_with fail
    refine htk.mono ?_
    clear htk
    rintro e w1 ⟨rfl,q1,q2⟩
    obtain⟨⟨og,io⟩,hN⟩:=HNX.out w1 q1 q2
    have oc:=og.2 i (by omega)
    rw[← HOI.out] at oc
    have ol:=og.1
    have tc:=io.cell oi ho19
    have tf:=io.free oi ho19
    have tl:=io.lt
    have HN:=hid_of hN
    have j1:(0:Int)≤(i:Int):=by omega
    have j2:(i:Int) < 19:=by omega
    have j3:(0:Int)≤(oi:Int):=by omega
    have j4:(oi:Int) < 19:=by omega
    clear q1 q2 hN HNX og io HOI
    go_wp2_with fail
    go_roundg (k - (i+1))
    case measure=>omega
    case rel=>exact⟨i+1,_,by omega,by go_num,Nat.le_refl _,HN⟩
   ·have htk:=take_no B wr fb rb s (p+3 * i) O most Ty vo vt hR.out.1 hs hR.out.2.2.2.2.2.1 3 (by omega) h3
    go_wp2_with fail
    refine htk.mono ?_
    clear htk
    rintro e w1 ⟨rfl,q1,q2⟩
    have HP:Hid (ThirdPost B w fb rb s p k O most Ty vo vt (.returned (.tuple #[.slice none 0 0,errV 2])) w1):=.inr ⟨2,by rw [if_neg (by omega)],rfl,HPS.out.below (hR.out.2.1.trans (step_read q2))⟩
    clear hR q1 q2
    go_wp2_with fail
    go_ret2
    exact HP.out
  ·obtain rfl:i=k:=by omega
   have dj:decide ((i:Int) < (i:Int))=false:=decide_eq_false (by omega)
   obtain⟨t1,t2,t3,t4,t5,t10,t11⟩:=hR.out
   have io:IOwn wr g3 g3 19 19 (thirdF s p i):=t3.congr t4
   have hkd:=implKind_yes (some ⟨g3,0,none⟩) 19 19 (thirdF s p i) wr io.sl.came (by omega) (third_lens s p i)
   have HIO:=hid_of io
   have HT1:=hid_of t1
   have HT2:=hid_of t2
   clear hR t1 t2 t3 t4 t11 io
   by_cases hk2:kindOf (thirdF s p i) 19=2
   ·rw[hk2] at hkd
    go_wp2_with fail
    refine hkd.mono ?_
    clear hkd
    rintro e w1 ⟨rfl,q1⟩
    have HP:Hid (ThirdPost B w fb rb s p i O most Ty vo vt (.returned (.tuple #[.slice (some ⟨g3,0,none⟩) 19 19,.nilIface])) w1):=.inl ⟨t10,hk2,g3,t5.2.2.2.2,rfl,HIO.out.called q1,HT1.out.called q1,HT2.out.trans (Step.called q1)⟩
    clear q1 HIO HT1 HT2
    go_wp2_with fail
    go_ret2
    exact HP.out
   ·have dk:(kindOf (thirdF s p i) 19 != 2)=true:=by simp [hk2]
    go_wp2_with fail
    refine hkd.mono ?_
    clear hkd
    rintro e w1 ⟨rfl,q1⟩
    have HP:Hid (ThirdPost B w fb rb s p i O most Ty vo vt (.returned (.tuple #[.slice none 0 0,errV 5])) w1):=.inr ⟨5,by rw [if_pos t10,if_pos hk2],rfl,HPS.out.below (HT2.out.trans (Step.called q1))⟩
    clear q1 HIO HT1 HT2 hk2
    generalize kindOf (thirdF s p i) 19=kd at *
    go_wp2_with fail
    go_ret2
    exact HP.out
end
end
end Go.Proofs.YtklpiihnbokkkaaGreatDoor
