/-
  Texts of the proof, put together.
-/
import Derived.Test.YtklpiihnbokkkaaGreatDoorZk14
namespace Go.Proofs.YtklpiihnbokkkaaGreatDoor
open Go.RowKit Go.Joins OutMath CodeMath
theorem nextAt_here (f:Nat→Int) (n i m:Nat) (hm:1≤m) (e:f i=(m:Int)) (s:Nat):upd (nextAt f n i) m (nextAt f n i m+1) s=nextAt f n (i+1) s:=by
 unfold upd nextAt
 by_cases h:s=m
 ·subst h
  rw[if_pos rfl,if_neg (by omega),if_neg (by omega)]
  show _=_+(cntS f s i+(if f i=s then 1 else 0))
  rw[if_pos e]
  omega
 ·rw[if_neg h]
  by_cases h0:s=0
  ·rw[if_pos h0,if_pos h0]
  ·rw[if_neg h0,if_neg h0]
   show _=_+(cntS f s i+(if f i=s then 1 else 0))
   rw[if_neg (by omega)]
   omega
theorem nextAt_skip (f:Nat→Int) (n i:Nat) (e:f i=0) (s:Nat):nextAt f n i s=nextAt f n (i+1) s:=by
 unfold nextAt
 by_cases h0:s=0
 ·rw[if_pos h0,if_pos h0]
 ·rw[if_neg h0,if_neg h0]
  show _=_+(cntS f s i+(if f i=s then 1 else 0))
  rw[if_neg (by omega)]
  omega
theorem wrote_here (f:Nat→Int) (n i:Nat) (j:Nat):upd (wrote f n i) i (codeOf f n i) j=wrote f n (i+1) j:=by
 unfold upd wrote
 by_cases h:j=i
 ·rw[if_pos h,if_pos (by omega),h]
 ·rw[if_neg h]
  by_cases h2:j < i
  ·rw[if_pos h2,if_pos (by omega)]
  ·rw[if_neg h2,if_neg (by omega)]
theorem wrote_skip (f:Nat→Int) (n i:Nat) (e:f i=0) (j:Nat):wrote f n i j=wrote f n (i+1) j:=by
 rw[← wrote_here f n i j]
 unfold upd
 by_cases h:j=i
 ·rw[if_pos h]
  unfold wrote codeOf
  rw[if_neg (by omega),if_pos (by omega)]
 ·rw[if_neg h]
def CodSt (w w':World) (f:Nat→Int) (n bn gc i:Nat):Prop:=
 Six w' bn 251 (nextAt f n i)∧IOwn w' w.heap.size gc n n (wrote f n i)∧bn≠gc∧w.heap.size≤bn∧Below w.heap.size w w'
set_option maxHeartbeats 1600000 in
theorem implCodes_good (a:Option Addr) (n cap:Nat) (f:Nat→Int) (w:World) (hC:Came w a n f) (hG:Coded f n):
  Calls Tryz.prog 167 #[.slice a n cap] w fun e w'=>∃ g:Nat,e=.returned (.tuple #[.slice (some ⟨g,0,none⟩) n n,.bool true])∧IOwn w' w.heap.size g n n (codeOf f n)∧Below w.heap.size w w':=by
 have HC:Hid (Came w a n f):=hC
 have HG:Hid (Coded f n):=hG
 have hm:=hG.1
 have hrm:=hG.2.2
 have hr0:=(room_bd f n).1
 clear hC hG
 go_enter Tryz.func167,Tryz.ntmps167
 go_wp2_with fail
 refine (count_yes a n cap f _ HC.out hm HG.out.2.1).mono ?_
 rintro e w1 ⟨rfl,hb1⟩
 go_wp2_with fail
 refine (fullTo_any (cs f n) _ (fun s=>by have:=cs_bd f n s; omega)).mono ?_
 rintro e w2 ⟨rfl,hb2⟩
 rw[full_room f n HG.out.2.1]
 have hS:Six w2 w1.heap.size 252 (cs f n):=by
  show _=_
  rw[hb2.block _ (by simp)]
  exact heap_alloc_new w1 _
 have hB:Below w.heap.size w w2:=bnext (bal hb1 _) hb2
 have k1:=hS.c
 have hz:=hS.lt
 clear hb1 hb2 hS
 have dr:decide (32768 < room f n)=false:=by simp; omega
 go_wp2_with fail
 refine (first_any (cs f n) _ (fun s=>by have:=cs_bd f n s; omega)).mono ?_
 rintro e w3 ⟨rfl,hb3⟩
 have hB3:Below w.heap.size w w3:=bnext hB hb3
 have hs3:=hB3.size
 have hmk:=make_ints (w3.alloc (.cells (six (first (cs f n))) 251)) n (by omega)
 rw[show (w3.alloc (.cells (six (first (cs f n))) 251)).heap.size=w3.heap.size+1 by simp] at hmk
 have H0:Hid (CodSt w ((w3.alloc (.cells (six (first (cs f n))) 251)).alloc (.cells (madeCells #[Value.int .i64 0] n) 3)) f n w3.heap.size (w3.heap.size+1) 0):=by
  refine⟨?_,?_,by omega,hs3,bal (bal hB3 _) _⟩
  ·refine Six.congr (g:=first (cs f n)) ?_ (fun s _=>nextAt_start f n s)
   show _=_
   rw[Below.heap_alloc _ _ _ (by simp)]
   exact heap_alloc_new w3 _
  ·have k:=IOwn.made (base:=w.heap.size) (w3.alloc (.cells (six (first (cs f n))) 251)) n (by unfold maxLen; omega) (by simp; omega)
   rw[show (w3.alloc (.cells (six (first (cs f n))) 251)).heap.size=w3.heap.size+1 by simp] at k
   exact k.congr (fun i _=>by unfold wrote; rw [if_neg (by omega)])
 clear k1 hz hB hb3
 generalize hw5:(w3.alloc (.cells (six (first (cs f n))) 251)).alloc (.cells (madeCells #[Value.int .i64 0] n) 3)=w5 at hmk H0
 clear hw5
 go_wp2_with fail
 go_loopw [29] (fun i w'=>∃ j:Nat,j≤n∧i=.int .i64 j∧Hid (CodSt w w' f n w3.heap.size (w3.heap.size+1) j)) (fun i _=>n - (intOf i).toNat)
 case atStart=>exact⟨0,Nat.zero_le _,rfl,H0⟩
 case round=>
  clear H0 hmk
  obtain⟨j,hj,rfl,hS⟩:=hrel
  by_cases hlt:j < n
  ·rcases HC.out with h0 | ⟨g,off,rfl,hg,hc⟩
   ·omega
   ·have c0:wr.cell? ⟨g,off+j,none⟩=some (.int .i64 (f j)):=(hS.out.2.2.2.2.cell (p:=⟨g,off+j,none⟩) hg).trans (hc j hlt)
    have hl2:g < wr.heap.size:=Nat.lt_of_lt_of_le hg hS.out.2.2.2.2.size
    clear hc
    obtain⟨i0,i1⟩:=HG.out.2.1 j hlt
    by_cases hpos:0 < f j
    ·obtain⟨m,hmj⟩:=Int.eq_ofNat_of_zero_le i0
     have hnb:=nextAt_bd f n hm j hj m (by omega)
     have HCD:Hid (nextAt f n j m=codeOf f n j):=nextAt_code f n j m (by omega) hmj
     have c1:=hS.out.1.c m (by omega)
     have f1:=hS.out.1.f m
     have l1:=hS.out.1.lt
     have c2:=hS.out.2.1.cell j hlt
     have f2:=hS.out.2.1.free j hlt
     have l2:=hS.out.2.1.lt
     have HS1:Hid (CodSt w ((wr.setCell ⟨w3.heap.size+1,j,none⟩ (.int .i64 (nextAt f n j m))).setCell ⟨w3.heap.size,m,none⟩ (.int .i64 (nextAt f n j m+1))) f n w3.heap.size (w3.heap.size+1) (j+1)):=by
      have s1:Six (wr.setCell ⟨w3.heap.size+1,j,none⟩ (.int .i64 (nextAt f n j m))) w3.heap.size 251 (nextAt f n j):=by
       show _=_
       rw[Below.heap_setCell _ _ _ _ (show w3.heap.size≠w3.heap.size+1 by omega)]
       exact hS.out.1
      have s2:=(hS.out.2.1.set j hlt (nextAt f n j m)).congr (f':=wrote f n (j+1)) (fun i _=>by rw [HCD.out]; exact wrote_here f n j i)
      refine⟨(s1.set m _).congr (fun i _=>nextAt_here f n j m (by omega) hmj i),s2.keep (Below.heap_setCell _ _ _ _ (show w3.heap.size+1≠w3.heap.size by omega)),by omega,hs3,?_⟩
      exact Below.setCell (p:=⟨w3.heap.size,m,none⟩) (Below.setCell (p:=⟨w3.heap.size+1,j,none⟩) hS.out.2.2.2.2 (by simp; omega) _) (by simpa using hs3) _
     have hmp:(0:Int) < (m:Int):=by omega
     have hm15:(m:Int)≤15:=by omega
     rw[hmj] at c0
     clear hmj hpos i0 i1
     have d:decide ((0:Int) < (m:Int))=true:=by simpa using hmp
     go_wp2_with fail
     go_roundw
     case rel=>exact⟨j+1,by omega,by go_num,HS1⟩
     case measure=>simp [intOf]; omega
    ·have e0:f j=0:=by omega
     have HS1:Hid (CodSt w wr f n w3.heap.size (w3.heap.size+1) (j+1)):=⟨hS.out.1.congr (fun i _=>nextAt_skip f n j e0 i),hS.out.2.1.congr (fun i _=>wrote_skip f n j e0 i),hS.out.2.2⟩
     rw[e0] at c0
     go_wp2_with fail
     go_roundw
     case rel=>exact⟨j+1,by omega,by go_num,HS1⟩
     case measure=>simp [intOf]; omega
  ·obtain rfl:j=n:=by omega
   go_wp2_with fail
   go_ret2
   exact⟨w3.heap.size+1,rfl,hS.out.2.1.congr (fun i hi=>by unfold wrote; rw [if_pos hi]),hS.out.2.2.2.2⟩
set_option maxHeartbeats 800000 in
theorem implCodes_bad (a:Option Addr) (n cap:Nat) (f:Nat→Int) (w:World) (hC:Came w a n f) (hn:n≤1048576) (hf:∀ i,i < n→(Lit.int .i64 (f i)).wf=true) (hb:¬ Coded f n):
  Calls Tryz.prog 167 #[.slice a n cap] w fun e w'=>e=.returned (.tuple #[.slice none 0 0,.bool false])∧Below w.heap.size w w':=by
 have HC:Hid (Came w a n f):=hC
 have HB:Hid (¬ Coded f n):=hb
 have HF:Hid (∀ i,i < n→(Lit.int .i64 (f i)).wf=true):=hf
 clear hC hb hf
 by_cases hk:n≤288∧OkLens f n
 ·obtain⟨hm,hok⟩:=hk
  have HO:Hid (OkLens f n):=hok
  have hr:=(room_bd f n).2 hok
  have hq:32768 < room f n:=by
   by_cases h:32768 < room f n
   ·exact h
   ·exact absurd ⟨hm,hok,by omega⟩ HB.out
  clear hok
  go_enter Tryz.func167,Tryz.ntmps167
  go_wp2_with fail
  refine (count_yes a n cap f _ HC.out hm HO.out).mono ?_
  rintro e w1 ⟨rfl,hb1⟩
  go_wp2_with fail
  refine (fullTo_any (cs f n) _ (fun s=>by have:=cs_bd f n s; omega)).mono ?_
  rintro e w2 ⟨rfl,hb2⟩
  rw[full_room f n HO.out]
  have hB:Below w.heap.size w w2:=bnext (bal hb1 _) hb2
  clear hb1 hb2
  have dr:decide (32768 < room f n)=true:=by simpa using hq
  go_wp2_with fail
  go_ret2
  exact⟨rfl,hB⟩
 ·have HK:Hid (¬ (n≤288∧OkLens f n)):=hk
  clear hk
  go_enter Tryz.func167,Tryz.ntmps167
  go_wp2_with fail
  refine (count_no a n cap f _ HC.out hn HF.out HK.out).mono ?_
  rintro e w1 ⟨rfl,hb1⟩
  have hB:Below w.heap.size w (w1.alloc (.cells (six fun _=>0) 252)):=bal hb1 _
  go_wp2_with fail
  go_ret2
  exact⟨rfl,hB⟩
theorem codes_answer:CodesAnswer:=by
 intro a n cap f w hC hn hf
 refine⟨fun hG=>?_,fun hG=>?_⟩
 ·refine (implCodes_good a n cap f w hC hG).mono ?_
  rintro e w1 ⟨g,rfl,hO,hb⟩
  exact⟨_,_,rfl,hO.sl,hb⟩
 ·refine (implCodes_bad a n cap f w hC hn hf hG).mono ?_
  rintro e w1 ⟨rfl,hb⟩
  exact⟨_,_,rfl,hb⟩
end Go.Proofs.YtklpiihnbokkkaaGreatDoor
