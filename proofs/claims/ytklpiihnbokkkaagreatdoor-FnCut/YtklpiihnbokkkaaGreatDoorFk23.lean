/-
  Texts of the proof, put together.
-/
import Derived.Test.YtklpiihnbokkkaaGreatDoorFk22
namespace Go.Proofs.YtklpiihnbokkkaaGreatDoor
section
open Go.RowKit Go.Joins OutMath CodeMath TakeMath HitMath WayMath BookMath InfMath
def updV (V:Nat→Value) (t:Nat) (v:Value):Nat→Value:=fun j=>if j=t then v else V j
def BkI (w0 w:World) (bk:Nat) (V:Nat→Value) (f:Nat→Int) (n i:Nat):Prop:=
 (w0.heap.size≤bk∧bk < w.heap.size∧∀ q,w.frozen? ⟨bk,q,none⟩=false)∧
 (∀ t,t < 16→w.cell? ⟨bk,t,none⟩=some (V t)∧NumRow w w0.heap.size (V t) (symsTo f t i)∧(V t).ownBlock≠some bk)∧
 (∀ t t',t < 16→t' < 16→t≠t'→(V t).ownBlock=none∨(V t).ownBlock≠(V t').ownBlock)∧
 (∀ t,t < 16→w.cell? ⟨bk,16+t,none⟩=some (.int .i64 (first (cs f n) t)))∧w.cell? ⟨bk,32,none⟩=some (.int .i64 (nx f n 15))∧Below w0.heap.size w0 w
section
variable {w0 w w7:World} {bk:Nat} {V:Nat→Value} {f:Nat→Int} {n i:Nat}
theorem BkI.draw (h:BkI w0 w bk V f n i) (m:Nat):BkI w0 (w.drewN m) bk V f n i:=⟨h.1,h.2.1,h.2.2.1,h.2.2.2.1,h.2.2.2.2.1,⟨h.2.2.2.2.2.os,h.2.2.2.2.2.tape,h.2.2.2.2.2.output,h.2.2.2.2.2.size,h.2.2.2.2.2.block⟩⟩
theorem BkI.skip (h:BkI w0 w bk V f n i) (hf:f i=0):BkI w0 w bk V f n (i+1):=by
 obtain⟨h1,h2,h3⟩:=h
 refine⟨h1,fun t ht=>?_,h3⟩
 obtain⟨q1,q2,q3⟩:=h2 t ht
 rw[symsTo_skip (by omega)]
 exact⟨q1,q2,q3⟩
theorem BkI.put {t g cap:Nat} {o:Obj} (h:BkI w0 w bk V f n i) (ht:t < 16) (hf:f i=(t:Int)) (hp:0 < f i)
  (y1:w7.ownsRow w0.heap.size 3 1 (.slice (some ⟨g,0,none⟩) ((symsTo f t i).length+1) cap) ((symsTo f t i).length+1) (ivals (symsTo f t i) ++ [.int .i64 (i:Int)])) (y2:(w.alloc o).grownBy w7 (V t).ownBlock) (y3:(V t).ownBlock=some g∨g=w.heap.size+1):
  (w7.cell? ⟨bk,t,none⟩=some (V t)∧w7.frozen? ⟨bk,t,none⟩=false∧bk < w7.heap.size)∧BkI w0 (w7.setCell ⟨bk,t,none⟩ (.slice (some ⟨g,0,none⟩) ((symsTo f t i).length+1) cap)) bk (updV V t (.slice (some ⟨g,0,none⟩) ((symsTo f t i).length+1) cap)) f n (i+1):=by
 obtain⟨⟨h1,h2,h3⟩,h4,h5,h6,h7,h8⟩:=h
 have hsz:w.heap.size+1=(w.alloc o).heap.size:=(World.size_alloc _ _).symm
 obtain⟨c1,c2,c3⟩:=h4 t ht
 have hblk:w7.heap[bk]?=w.heap[bk]?:=(y2.block bk (by omega) (fun e=>c3 e.symm)).trans ((bstart w o).block bk h2)
 have hcell:∀ q,w7.cell? ⟨bk,q,none⟩=w.cell? ⟨bk,q,none⟩:=fun q=>World.cell?_of_block (a:=⟨bk,q,none⟩) hblk
 have hfz:∀ q,w7.frozen? ⟨bk,q,none⟩=false:=fun q=>(World.frozen?_of_block (a:=⟨bk,q,none⟩) hblk).trans (h3 q)
 have hlt7:bk < w7.heap.size:=by have:=y2.size; omega
 have hgl:=World.ownsRow.lt y1 g rfl
 have hgb:g≠bk:=by
  rcases y3 with q | q
  ·intro e
   exact c3 (by rw [q,e])
  ·omega
 have hgs:=grown_cell w7 bk t (.slice (some ⟨g,0,none⟩) ((symsTo f t i).length+1) cap)
 have hoth:∀ q,q≠t→(w7.setCell ⟨bk,t,none⟩ (.slice (some ⟨g,0,none⟩) ((symsTo f t i).length+1) cap)).cell? ⟨bk,q,none⟩=w.cell? ⟨bk,q,none⟩:=fun q hq=>by
  rw[World.cell?_setCell_other _ _ _ _ (by intro e; cases e; exact hq rfl)]
  exact hcell q
 have hnew:∀ t',t' < 16→t'≠t→(V t').ownBlock≠some g:=fun t' h' hne e=>by
  rcases y3 with q | q
  ·rcases h5 t' t h' ht hne with q1 | q1
   ·rw[q1] at e
    cases e
   ·exact q1 (by rw [e,q])
  ·have:=(World.ownsRow.lt (h4 t' h').2.1 g e).2
   omega
 refine⟨⟨(hcell t).trans c1,hfz t,hlt7⟩,⟨h1,by have:=hgs.size; omega,fun q=>?_⟩,fun t' h'=>?_,fun t1 t2 k1 k2 hne=>?_,fun t' h'=>?_,?_,?_⟩
 ·have:=hfz q
  simpa using this
 ·by_cases e:t'=t
  ·subst e
   unfold updV
   rw[if_pos rfl]
   refine⟨?_,?_,by simpa [Value.ownBlock] using hgb⟩
   ·exact World.cell?_setCell_same _ _ _ (by rw [hcell,c1])
   ·have e1:NumRow w7 w0.heap.size (.slice (some ⟨g,0,none⟩) ((symsTo f t' i).length+1) cap) (symsTo f t' (i+1)):=by
     rw[symsTo_here hp hf]
     unfold NumRow
     rw[List.length_append,ivals_app]
     exact y1
    exact World.ownsRow.kept e1 hgs (.inr (by simpa [Value.ownBlock] using hgb))
  ·unfold updV
   rw[if_neg e,hoth t' e,symsTo_skip (fun q=>e (by omega))]
   obtain⟨q1,q2,q3⟩:=h4 t' h'
   refine⟨q1,World.ownsRow.kept (World.ownsRow.kept (World.ownsRow.alloc q2 o) y2 (h5 t' t h' ht e)) hgs (.inr q3),q3⟩
 ·unfold updV
  by_cases e1:t1=t
  ·rw[if_pos e1,if_neg (by omega)]
   refine .inr (fun e=>hnew t2 k2 (by omega) e.symm)
  ·rw[if_neg e1]
   by_cases e2:t2=t
   ·rw[if_pos e2]
    exact .inr (hnew t1 k1 e1)
   ·rw[if_neg e2]
    exact h5 t1 t2 k1 k2 hne
 ·rw[hoth (16+t') (by omega)]
  exact h6 t' h'
 ·rw[hoth 32 (by omega)]
  exact h7
 ·exact ((h8.alloc h8.size o).grown y2 (Nat.le_trans h8.size (by omega)) (fun k e=>(World.ownsRow.lt c2 k e).1)).setCell (p:=⟨bk,t,none⟩) h1 _
theorem BkI.book (h:BkI w0 w bk V f n n):Book w w0.heap.size w.heap.size bk V f n:=
 ⟨h.1.1,h.1.2.1,Nat.le_refl _,fun t ht=>⟨(h.2.1 t ht).1,(h.2.1 t ht).2.1,fun k e=>(World.ownsRow.lt (h.2.1 t ht).2.1 k e).2⟩,h.2.2.2.1,h.2.2.2.2.1⟩
end
set_option maxRecDepth 100000 in
theorem bki_start (w wB:World) (f:Nat→Int) (n:Nat) (h:Below w.heap.size w wB):BkI w (wB.alloc (.cells #[.slice none 0 0,.slice none 0 0,.slice none 0 0,.slice none 0 0,.slice none 0 0,.slice none 0 0,.slice none 0 0,.slice none 0 0,.slice none 0 0,.slice none 0 0,.slice none 0 0,.slice none 0 0,.slice none 0 0,.slice none 0 0,.slice none 0 0,.slice none 0 0,.int .i64 (first (cs f n) 0),.int .i64 (first (cs f n) 1),.int .i64 (first (cs f n) 2),.int .i64 (first (cs f n) 3),.int .i64 (first (cs f n) 4),.int .i64 (first (cs f n) 5),.int .i64 (first (cs f n) 6),.int .i64 (first (cs f n) 7),.int .i64 (first (cs f n) 8),.int .i64 (first (cs f n) 9),.int .i64 (first (cs f n) 10),.int .i64 (first (cs f n) 11),.int .i64 (first (cs f n) 12),.int .i64 (first (cs f n) 13),.int .i64 (first (cs f n) 14),.int .i64 (first (cs f n) 15),.int .i64 (nx f n 15)] 258)) wB.heap.size (fun _=>.slice none 0 0) f n 0:=by
 have hb:=heap_alloc_new wB (.cells #[.slice none 0 0,.slice none 0 0,.slice none 0 0,.slice none 0 0,.slice none 0 0,.slice none 0 0,.slice none 0 0,.slice none 0 0,.slice none 0 0,.slice none 0 0,.slice none 0 0,.slice none 0 0,.slice none 0 0,.slice none 0 0,.slice none 0 0,.slice none 0 0,.int .i64 (first (cs f n) 0),.int .i64 (first (cs f n) 1),.int .i64 (first (cs f n) 2),.int .i64 (first (cs f n) 3),.int .i64 (first (cs f n) 4),.int .i64 (first (cs f n) 5),.int .i64 (first (cs f n) 6),.int .i64 (first (cs f n) 7),.int .i64 (first (cs f n) 8),.int .i64 (first (cs f n) 9),.int .i64 (first (cs f n) 10),.int .i64 (first (cs f n) 11),.int .i64 (first (cs f n) 12),.int .i64 (first (cs f n) 13),.int .i64 (first (cs f n) 14),.int .i64 (first (cs f n) 15),.int .i64 (nx f n 15)] 258)
 refine⟨⟨h.size,by simp,unfrozen_of_block hb⟩,fun t ht=>⟨?_,NumRow.nil _ _,by simp [Value.ownBlock]⟩,fun _ _ _ _ _=>.inl rfl,fun t ht=>?_,(cell_of_block hb 32).trans rfl,bal h _⟩
 ·rw[cell_of_block hb t]
  clear hb
  rcases (show t=0∨t=1∨t=2∨t=3∨t=4∨t=5∨t=6∨t=7∨t=8∨t=9∨t=10∨t=11∨t=12∨t=13∨t=14∨t=15 by omega) with rfl | rfl | rfl | rfl | rfl | rfl | rfl | rfl | rfl | rfl | rfl | rfl | rfl | rfl | rfl | rfl <;> rfl
 ·rw[cell_of_block hb (16+t)]
  clear hb
  rcases (show t=0∨t=1∨t=2∨t=3∨t=4∨t=5∨t=6∨t=7∨t=8∨t=9∨t=10∨t=11∨t=12∨t=13∨t=14∨t=15 by omega) with rfl | rfl | rfl | rfl | rfl | rfl | rfl | rfl | rfl | rfl | rfl | rfl | rfl | rfl | rfl | rfl <;> rfl
set_option maxRecDepth 100000 in
set_option maxHeartbeats 6400000 in
theorem newBook_any (a:Option Addr) (n cap:Nat) (f:Nat→Int) (w:World) (hC:Came w a n f) (hm:n≤288) (hok:OkLens f n):
  Calls Tryz.prog 142 #[.slice a n cap] w fun e w'=>∃ bk V,e=.returned (.pointer (some ⟨bk,0,none⟩))∧Book w' w.heap.size w'.heap.size bk V f n∧Below w.heap.size w w':=by
 have hct:=count_yes a n cap f w hC hm hok
 have hcs:∀ s,0≤cs f n s∧cs f n s≤288:=fun s=>⟨(cs_bd f n s).1,Int.le_trans (cs_bd f n s).2 (by omega)⟩
 have hfi:=fun w=>first_any (cs f n) w hcs
 have hfu:=fun w=>fullTo_any (cs f n) w hcs
 rw[full_room f n hok,room_nx f n hok] at hfu
 have HC:=hid_of hC
 have HOK:=hid_of hok
 clear hC hok hcs
 go_enter Tryz.func142,Tryz.ntmps142
 go_wp2_with fail
 refine hct.mono ?_
 rintro e w1 ⟨rfl,hB1⟩
 have HB1:Hid (Below w.heap.size w (w1.alloc (.cells (six (cs f n)) 252))):=bal hB1 _
 have hS1:Six (w1.alloc (.cells (six (cs f n)) 252)) w1.heap.size 252 (cs f n):=heap_alloc_new w1 _
 clear hct hB1
 go_wp2_with fail
 generalize w1.alloc (.cells (six (cs f n)) 252)=W1 at *
 have k0:=hS1.c
 have z0:=hS1.lt
 have HS1:=hid_of hS1
 clear hS1
 go_region_with (first
  | (go_at_call 184; refine (hfi _).mono ?_; rintro e wA ⟨rfl,hBA⟩; have hSA:Six wA w1.heap.size 252 (cs f n):=(hBA.block _ z0).trans HS1.out; have kA:=hSA.c; have zA:=hSA.lt; have HBA:Hid (Below w.heap.size w wA):=bnext HB1.out.drew hBA; clear hBA)
  | (go_at_call 185; refine (hfu _).mono ?_; rintro e wB ⟨rfl,hBB⟩; have HBB:Hid (Below w.heap.size w wB):=bnext HBA.out hBB; clear hBB))
 all_goals
  have HI0:=hid_of (bki_start w wB f n HBB.out)
  clear HBB HBA k0 kA hfi hfu z0 zA HS1 HB1
  obtain⟨bk,hbk⟩:∃ bk,bk=wB.heap.size:=⟨_,rfl⟩
  go_wp2_with fail
  generalize wB.alloc _=W0 at HI0
  rw[← hbk] at HI0
  generalize wB.heap.size=bk0 at *
  subst hbk
  obtain⟨i0,hi0,hz0,hz1,hz2⟩:=info_parts info_int
  go_loopg [21] (n+1) (fun gk v w'=>∃ (i:Nat) (V:Nat→Value),i≤n∧v=.int .i64 (i:Int)∧n - i≤gk∧Hid (BkI w w' bk V f n i))
  case atStart=>exact⟨0,_,Nat.zero_le _,rfl,by omega,HI0⟩
  case round=>
   clear HI0
   obtain⟨i,V,hin,rfl,hgk,hI⟩:=hrel
   by_cases hlt:i < n
   ·have dl:decide ((i:Int) < (n:Int))=true:=decide_eq_true (by omega)
    have dl2:decide (i < n)=true:=decide_eq_true hlt
    have hfi:=HOK.out i hlt
    have hcell:∃ g off,a=some ⟨g,off,none⟩∧g < wr.heap.size∧wr.cell? ⟨g,off+i,none⟩=some (.int .i64 (f i)):=by
     rcases HC.out.called hI.out.2.2.2.2.2 with q | ⟨g,off,q4,q5,q6⟩
     ·omega
     ·exact⟨g,off,q4,q5,q6 i hlt⟩
    obtain⟨g,off,rfl,hgl,hc⟩:=hcell
    have x0:(0:Int)≤(i:Int):=by omega
    have x1:(i:Int) < (n:Int):=by omega
    by_cases h0:f i=0
    ·have HN:=hid_of (hI.out.skip h0)
     rw[h0] at hc
     clear hI h0 hfi
     go_wp2_with fail
     go_roundg (n - (i+1))
     case measure=>omega
     case rel=>exact⟨i+1,V,by omega,by go_num,Nat.le_refl _,HN⟩
    ·obtain⟨t,ht⟩:∃ t:Nat,f i=(t:Int):=⟨(f i).toNat,by omega⟩
     have ht1:1≤t:=by omega
     have ht2:t < 16:=by omega
     obtain⟨c1,c2,c3⟩:=hI.out.2.1 t ht2
     obtain⟨av,cv,hv,_⟩:=c2.form
     rw[hv] at c1
     have fz:=hI.out.1.2.2 t
     have hbl:=hI.out.1.2.1
     have hle:=symsTo_le f t i
     have hsz:=hI.out.2.2.2.2.2.size
     have hown:wr.ownsRow w.heap.size 3 1 (.slice av (symsTo f t i).length cv) (symsTo f t i).length (ivals (symsTo f t i)):=by
      rw[← hv]
      exact c2
     have HALL:Hid (∀ (w7:World) (g7 cap7:Nat),w7.ownsRow w.heap.size 3 1 (.slice (some ⟨g7,0,none⟩) ((symsTo f t i).length+1) cap7) ((symsTo f t i).length+1) (ivals (symsTo f t i) ++ [.int .i64 (i:Int)])→(wr.alloc (.cells #[.int .i64 (i:Int)] 3)).grownBy w7 (Value.slice av (symsTo f t i).length cv).ownBlock→((Value.slice av (symsTo f t i).length cv).ownBlock=some g7∨g7=wr.heap.size+1)→
       (w7.cell? ⟨bk,t,none⟩=some (.slice av (symsTo f t i).length cv)∧w7.frozen? ⟨bk,t,none⟩=false∧bk < w7.heap.size)∧Hid (∃ V',BkI w (w7.setCell ⟨bk,t,none⟩ (.slice (some ⟨g7,0,none⟩) ((symsTo f t i).length+1) cap7)) bk V' f n (i+1))):=by
      intro w7 g7 cap7 z1 z2 z3
      rw[← hv] at z2 z3
      obtain⟨q1,q2⟩:=hI.out.put ht2 ht (by omega) z1 z2 z3
      rw[← hv]
      exact⟨q1,_,q2⟩
     have HOWN:=hid_of hown
     rw[ht] at hc
     clear hI h0 hfi hown c2 c3 hv ht
     generalize (symsTo f t i).length=len at *
     generalize symsTo f t i=L at *
     have t0:(0:Int)≤(t:Int):=by omega
     have t1:(t:Int) < 16:=by omega
     have t2:decide ((0:Int) < (t:Int))=true:=decide_eq_true (by omega)
     have t3:decide (0 < t)=true:=decide_eq_true (by omega)
     go_wp2_with fail
     go_region_law (refine step_append_lies _ (by rfl) (.tmp 35) (.tmp 37) 25 (by rfl) w.heap.size 3 i0 _ 1 8 Tryz.underlying25 hi0 hz0 hz1 hz2 rfl (by omega) (.slice av len cv) len (ivals L) (by rfl) (World.ownsRow.alloc HOWN.out _) ⟨wr.heap.size,0,none⟩ 1 1 [.int .i64 (i:Int)] (by rfl) rfl (World.news_of_block (heap_alloc_new wr _)) (by simp [Value.oneCell']) (by omega) (by unfold maxLen; omega) (by omega) (by show _≤(wr.alloc _).heap.size; simp; omega) (wr.heap.size+1) (by show (wr.alloc _).heap.size=_; simp) ?_; intro g7 cap7 w7 z1 z2 z3 z4; obtain⟨⟨p0,p1,p2⟩,HN8⟩:=HALL.out w7 g7 cap7 z1 ⟨z2.1,z2.2,z2.3,z2.4,z2.5⟩ z3; clear z1 z2 z3 z4)
     all_goals
      obtain⟨V',hV'⟩:=HN8.out
      have HN9:=hid_of hV'
      clear hV' HN8 HALL HOWN c1 fz
      go_wp2_with fail
      go_roundg (n - (i+1))
      case measure=>omega
      case rel=>exact⟨i+1,V',by omega,by go_num,Nat.le_refl _,HN9⟩
   ·obtain rfl:i=n:=by omega
    have dl:decide ((i:Int) < (i:Int))=false:=decide_eq_false (by omega)
    have HE:Hid (Book wr w.heap.size wr.heap.size bk V f i∧Below w.heap.size w wr):=⟨hI.out.book,hI.out.2.2.2.2.2⟩
    clear hI
    go_wp2_with fail
    go_ret
    exact⟨bk,V,rfl,HE.out⟩
end
section
open Go.RowKit Go.Joins
set_option maxHeartbeats 400000 in
theorem has_yes (a:Option Addr) (n cap:Nat) (f:Nat→Int) (x:Nat) (w:World) (hC:Came w a n f) (hx:x < n) (hp:0 < f x):
  Calls Tryz.prog 188 #[.slice a n cap,.int .i64 (x:Int)] w fun e w'=>e=.returned (.bool true)∧w'=w:=by
 rcases hC with h0 | ⟨g,off,rfl,hg,hc⟩
 ·omega
 ·have c0:=hc x hx
  clear hc
  have d0:decide ((x:Int) < (n:Int))=true:=by simpa using hx
  have d1:decide (0 < f x)=true:=by simpa using hp
  go_enter Tryz.func188,Tryz.ntmps188
  go_wp2_with fail
  go_ret
  exact⟨rfl,rfl⟩
set_option maxHeartbeats 400000 in
theorem has_no (a:Option Addr) (n cap:Nat) (f:Nat→Int) (x:Int) (w:World) (hC:Came w a n f) (h:¬ (0≤x∧x < n∧0 < f x.toNat)):
  Calls Tryz.prog 188 #[.slice a n cap,.int .i64 x] w fun e w'=>e=.returned (.bool false)∧w'=w:=by
 by_cases h0:0≤x
 ·by_cases h1:x < n
  ·obtain⟨y,rfl⟩:=Int.eq_ofNat_of_zero_le h0
   rcases hC with q0 | ⟨g,off,rfl,hg,hc⟩
   ·omega
   ·have c0:=hc y (by omega)
    have hq:¬ 0 < f y:=fun q=>h ⟨h0,h1,by simpa using q⟩
    clear hc h
    have d0:decide ((y:Int) < (n:Int))=true:=by simpa using h1
    have d1:decide (0 < f y)=false:=by simpa using hq
    go_enter Tryz.func188,Tryz.ntmps188
    go_wp2_with fail
    go_ret
    exact⟨rfl,rfl⟩
  ·clear h
   have dd:decide (0≤x)=true:=by simpa using h0
   have d0:decide (x < (n:Int))=false:=by simpa using h1
   clear hC
   go_enter Tryz.func188,Tryz.ntmps188
   go_wp2_with fail
   go_ret
   exact⟨rfl,rfl⟩
 ·clear h
  have dd:decide (0≤x)=false:=by simpa using h0
  clear hC
  go_enter Tryz.func188,Tryz.ntmps188
  go_wp2_with fail
  go_ret
  exact⟨rfl,rfl⟩
end
section
open Go.RowKit Go.Joins OutMath CodeMath TakeMath HitMath WayMath StepMath TokMath BookMath InfMath RunsMath
theorem firstOk_yes (a:Option Addr) (n cap:Nat) (f:Nat→Int) (w:World) (hC:Came w a n f) (hm:n≤288) (hok:OkLens f n) (hn:257≤n) (h1:kindOf f n=2∨kindOf f n=3) (h2:f 256≠0):
  Calls Tryz.prog 145 #[.slice a n cap] w fun e w'=>e=.returned (.bool true)∧Below w.heap.size w w':=by
 have hk:=implKind_yes a n cap f w hC hm hok
 have hh:=fun (w1:World) (q:Below w.heap.size w w1)=>has_yes a n cap f 256 w1 (hC.called q) (by omega) (by have:=hok 256 (by omega); omega)
 rw[show ((256:Nat):Int)=256 from rfl] at hh
 clear hC hok
 rcases h1 with h1 | h1
 all_goals
  rw[h1] at hk
  go_enter Tryz.func145,Tryz.ntmps145
  go_wp2_with fail
  refine hk.mono ?_
  clear hk
  rintro e w1 ⟨rfl,hB⟩
  have hh1:=hh w1 hB
  have HB:=hid_of hB
  clear hh hB
  go_wp2_with fail
  refine hh1.mono ?_
  rintro e w2 ⟨rfl,rfl⟩
  go_wp2_with fail
  go_ret
  exact⟨rfl,HB.out⟩
theorem firstOk_no (a:Option Addr) (n cap:Nat) (f:Nat→Int) (w:World) (hC:Came w a n f) (hm:n≤288) (hok:OkLens f n) (_hn:257≤n) (h:¬ ((kindOf f n=2∨kindOf f n=3)∧f 256≠0)):
  Calls Tryz.prog 145 #[.slice a n cap] w fun e w'=>e=.returned (.bool false)∧Below w.heap.size w w':=by
 have hk:=implKind_yes a n cap f w hC hm hok
 by_cases h1:kindOf f n=2∨kindOf f n=3
 ·have hf:f 256=0:=Classical.byContradiction fun q=>h ⟨h1,q⟩
  have hh:=fun (w1:World) (q:Below w.heap.size w w1)=>has_no a n cap f 256 w1 (hC.called q) (by rintro⟨_,_,q⟩; rw [show (256:Int).toNat=256 from rfl,hf] at q; omega)
  clear hC hok h
  rcases h1 with h1 | h1
  all_goals
   rw[h1] at hk
   go_enter Tryz.func145,Tryz.ntmps145
   go_wp2_with fail
   refine hk.mono ?_
   clear hk
   rintro e w1 ⟨rfl,hB⟩
   have hh1:=hh w1 hB
   have HB:=hid_of hB
   clear hh hB
   go_wp2_with fail
   refine hh1.mono ?_
   rintro e w2 ⟨rfl,rfl⟩
   go_wp2_with fail
   go_ret
   exact⟨rfl,HB.out⟩
 ·have d1:(kindOf f n == 2)=false:=by rw [beq_eq_false_iff_ne]; exact fun e=>h1 (.inl e)
  have d2:(kindOf f n == 3)=false:=by rw [beq_eq_false_iff_ne]; exact fun e=>h1 (.inr e)
  clear hC hok h h1
  generalize kindOf f n=k at *
  go_enter Tryz.func145,Tryz.ntmps145
  go_wp2_with fail
  refine hk.mono ?_
  clear hk
  rintro e w1 ⟨rfl,hB⟩
  have HB:=hid_of hB
  clear hB
  go_wp2_with fail
  go_ret
  exact⟨rfl,HB.out⟩
theorem secondOk_yes (a:Option Addr) (n cap:Nat) (f:Nat→Int) (w:World) (hC:Came w a n f) (hm:n≤288) (hok:OkLens f n) (h1:kindOf f n=1∨kindOf f n=2∨kindOf f n=3):
  Calls Tryz.prog 146 #[.slice a n cap] w fun e w'=>e=.returned (.bool true)∧Below w.heap.size w w':=by
 have hk:=implKind_yes a n cap f w hC hm hok
 clear hC hok
 rcases h1 with h1 | h1 | h1
 all_goals
  rw[h1] at hk
  go_enter Tryz.func146,Tryz.ntmps146
  go_wp2_with fail
  refine hk.mono ?_
  clear hk
  rintro e w1 ⟨rfl,hB⟩
  have HB:=hid_of hB
  clear hB
  go_wp2_with fail
  go_ret
  exact⟨rfl,HB.out⟩
theorem secondOk_no (a:Option Addr) (n cap:Nat) (f:Nat→Int) (w:World) (hC:Came w a n f) (hm:n≤288) (hok:OkLens f n) (h1:¬ (kindOf f n=1∨kindOf f n=2∨kindOf f n=3)):
  Calls Tryz.prog 146 #[.slice a n cap] w fun e w'=>e=.returned (.bool false)∧Below w.heap.size w w':=by
 have hk:=implKind_yes a n cap f w hC hm hok
 have d0:(kindOf f n == 1)=false:=by rw [beq_eq_false_iff_ne]; exact fun e=>h1 (.inl e)
 have d1:(kindOf f n == 2)=false:=by rw [beq_eq_false_iff_ne]; exact fun e=>h1 (.inr (.inl e))
 have d2:(kindOf f n == 3)=false:=by rw [beq_eq_false_iff_ne]; exact fun e=>h1 (.inr (.inr e))
 clear hC hok h1
 generalize kindOf f n=k at *
 go_enter Tryz.func146,Tryz.ntmps146
 go_wp2_with fail
 refine hk.mono ?_
 clear hk
 rintro e w1 ⟨rfl,hB⟩
 have HB:=hid_of hB
 clear hB
 go_wp2_with fail
 go_ret
 exact⟨rfl,HB.out⟩
theorem held_new {B:Nat} {w w':World} {fb rb:Nat} {s:ByteArray} {p:Nat} {O:List Int} {most:Nat} {Ty:List Int} {vo vt:Value} (h:PS B w fb rb s p O most Ty vo vt):Held w' fb rb vo vt w.heap.size w'.heap.size:=fun k k1 k2=>by
 have l1:=h.ltf
 have l2:=h.ltr
 refine⟨k2,by omega,by omega,fun e=>?_,fun e=>?_⟩
 ·have:=(World.ownsRow.lt h.2.2.1 k e).2
  omega
 ·have:=(World.ownsRow.lt h.2.2.2.1 k e).2
  omega
theorem coded_room {f:Nat→Int} {n:Nat} (h:Coded f n):nx f n 15≤32768:=by
 rw[← room_nx f n h.2.1]
 exact h.2.2
section
variable (B:Nat) (w:World) (fb rb:Nat) (s:ByteArray) (p:Nat) (O:List Int) (most:Nat) (Ty:List Int) (vo vt:Value)
theorem two_books (a1:Option Addr) (n1 c1:Nat) (f1:Nat→Int) (w1:World) (hC1:Came w1 a1 n1 f1) (h1:Coded f1 n1) (a2:Option Addr) (n2 c2:Nat) (f2:Nat→Int) (hC2:Came w1 a2 n2 f2) (h2:Coded f2 n2) (hps:PS B w1 fb rb s p O most Ty vo vt) (hs:s.size≤12000) (hp:p≤8 * s.size) (hm:most≤12000) (hO:O.length≤most):
  Calls Tryz.prog 142 #[.slice a1 n1 c1] w1 fun e w2=>∃ b1,e=.returned (.pointer (some ⟨b1,0,none⟩))∧Calls Tryz.prog 142 #[.slice a2 n2 c2] w2 fun e w3=>∃ b2,e=.returned (.pointer (some ⟨b2,0,none⟩))∧Calls Tryz.prog 141 #[.pointer (some ⟨fb,0,none⟩),.pointer (some ⟨b1,0,none⟩),.pointer (some ⟨b2,0,none⟩)] w3 (BlkPost B w1 fb rb s most Ty vo vt (symbolsF s most f1 n1 f2 n2 (8 * s.size+1) p O)):=by
 refine (newBook_any a1 n1 c1 f1 w1 hC1 h1.1 h1.2.1).mono ?_
 rintro e w2 ⟨b1,V1,rfl,hB1,hb1⟩
 refine⟨b1,rfl,(newBook_any a2 n2 c2 f2 w2 (hC2.called hb1) h2.1 h2.2.1).mono ?_⟩
 rintro e w3 ⟨b2,V2,rfl,hB2,hb2⟩
 have p2:=hps.called hb1
 have p3:=p2.called hb2
 have hl1:Held w3 fb rb vo vt w1.heap.size w2.heap.size:=(held_new (w':=w2) hps).step (Step.called hb2)
 have hl2:Held w3 fb rb vo vt w2.heap.size w3.heap.size:=held_new p2
 refine⟨b2,rfl,(takePieces_any B w3 fb rb s p O most Ty vo vt w1.heap.size w2.heap.size b1 V1 f1 n1 w2.heap.size w3.heap.size b2 V2 f2 n2 p3 hs hp hm hO (hB1.kept (fun k _ k2=>hb2.block k k2) hb2.size) hl1 h1.1 h1.2.1 (coded_room h1) hB2 hl2 h2.1 h2.2.1 (coded_room h2)).mono ?_⟩
 have st:Step fb rb w1 vo vt w3 vo vt:=(Step.called hb1).trans (Step.called hb2)
 rintro e w4 (⟨O',p',vo',q1,q2,q3,q4,q5,q6⟩ | ⟨c,q1,q2,q3⟩)
 ·exact .inl ⟨O',p',vo',q1,q2,q3,q4,q5,st.trans q6⟩
 ·exact .inr ⟨c,q1,q2,(hps.below st).trans q3⟩
theorem block_woven (s:ByteArray) (most p:Nat) (O:List Int):blockP s most 2 p O=match tablesP s p with
  | .error x=>.error x
  | .ok (L,n,p2)=>symbolsF s most (fun i=>L.getD i 0) n (fun i=>(L.drop n).getD i 0) (L.length - n) (8 * s.size+1) p2 O:=by
 unfold blockP
 rw[if_neg (by decide),if_neg (by decide),if_pos rfl]
 rfl
set_option maxRecDepth 100000 in
set_option maxHeartbeats 3200000 in
theorem takeWoven_any (h:PS B w fb rb s p O most Ty vo vt) (hs:s.size≤12000) (hp:p≤8 * s.size) (hm:most≤12000) (hO:O.length≤most) (hG:OrderG w) (hGB:1 < B):
  Calls Tryz.prog 95 #[.pointer (some ⟨fb,0,none⟩)] w (BlkPost B w fb rb s most Ty vo vt (blockP s most 2 p O)):=by
 obtain⟨res,hres⟩:∃ res,res=blockP s most 2 p O:=⟨_,rfl⟩
 rw[← hres]
 rw[block_woven] at hres
 have HRES:=hid_of hres
 have HPS:=hid_of h
 have HG:=hid_of hG
 clear hres h hG
 by_cases h14:p+14≤8 * s.size
 ·have htk:=take_yes B w fb rb s p O most Ty vo vt HPS.out hs 14 (by omega) h14
  obtain⟨e1,e2,e3⟩:=three_of s p
  have q0:=num_bd s p 14
  have q1:=num_bd s p 5
  have q2:=num_bd s (p+5) 5
  have q3:=num_bd s (p+10) 4
  rw[show p2 14=16384 by decide +kernel] at q0
  rw[show p2 5=32 by decide +kernel] at q1 q2
  rw[show p2 4=16 by decide +kernel] at q3
  obtain⟨nn,hnn⟩:=Int.eq_ofNat_of_zero_le (show 0≤num s p 5+257 by omega)
  obtain⟨mm,hmm⟩:=Int.eq_ofNat_of_zero_le (show 0≤num s (p+5) 5+1 by omega)
  obtain⟨kk,hkk⟩:=Int.eq_ofNat_of_zero_le (show 0≤num s (p+10) 4+4 by omega)
  have HTA:Hid (tablesP s p=if 286 < nn∨30 < mm then .error 5 else if p+14+3 * kk≤8 * s.size then (if kindOf (thirdF s (p+14) kk) 19≠2 then .error 5 else match allP s (thirdF s (p+14) kk) (nn+mm) (8 * s.size+1) (p+14+3 * kk) [] with
    | .error x=>.error x
    | .ok (L,p2)=>if TabRight nn L then .ok (L,nn,p2) else .error 5) else .error 2):=by
   show tablesP s p=_
   unfold tablesP
   rw[if_pos h14,hnn,hmm,hkk,Int.toNat_natCast,Int.toNat_natCast,Int.toNat_natCast]
   have hiff:(29 < num s p 5∨29 < num s (p+5) 5)↔(286 < nn∨30 < mm):=by omega
   by_cases q:286 < nn∨30 < mm
   ·rw[if_pos (hiff.2 q),if_pos q]
   ·rw[if_neg (fun k=>q (hiff.1 k)),if_neg q]
    rfl
  have ea:=and31 (num s p 14) q0.1 (by omega)
  have eb:=and31 (num s p 14 / 32) (by omega) (by omega)
  rw[e1] at ea
  rw[e2] at eb
  have hk19:kk≤19:=by omega
  have hn0:257≤nn∧nn≤288:=by omega
  have hm0:1≤mm∧mm≤32:=by omega
  have v1:(257:Int)+num s p 5=(nn:Int):=by omega
  have v2:(1:Int)+num s (p+5) 5=(mm:Int):=by omega
  have v3:(4:Int)+num s (p+10) 4=(kk:Int):=by omega
  clear hnn hmm hkk q1 q2 q3 e1 e2
  generalize num s p 14=x at *
  generalize num s p 5=a at *
  generalize num s (p+5) 5=b at *
  generalize num s (p+10) 4=c at *
  go_enter Tryz.func95,Tryz.ntmps95
  go_wp2_with fail
  refine htk.mono ?_
  clear htk
  rintro e w1 ⟨rfl,hS1,hg1⟩
  have HS1:=hid_of hS1
  have HT1:Hid (Step fb rb w vo vt w1 vo vt):=step_read hg1
  clear hS1 hg1
  by_cases hov:286 < nn∨30 < mm
  ·have HE:Hid (res=.error 5):=by
    show res=_
    rw[HRES.out,HTA.out,if_pos hov]
   have HP:Hid (BlkPost B w fb rb s most Ty vo vt res (.returned (errV 5)) w1):=.inr ⟨5,HE.out,rfl,HPS.out.below HT1.out⟩
   have hcc:(decide ((286:Int) < (nn:Int))=true∧decide (286 < nn)=true)∨(decide ((286:Int) < (nn:Int))=false∧decide (286 < nn)=false∧decide ((30:Int) < (mm:Int))=true∧decide (30 < mm)=true):=by
    by_cases q:286 < nn
    ·exact .inl ⟨decide_eq_true (by omega),decide_eq_true q⟩
    ·exact .inr ⟨decide_eq_false (by omega),decide_eq_false q,decide_eq_true (by omega),decide_eq_true (by omega)⟩
   clear HS1 HT1 HE HTA HPS HG HRES hov
   rcases hcc with ⟨d1,d2⟩ | ⟨d1,d2,d3,d4⟩
   all_goals
    go_wp2_with fail
    go_ret
    exact HP.out
  ·have d1:decide ((286:Int) < (nn:Int))=false:=decide_eq_false (by omega)
   have d2:decide (286 < nn)=false:=decide_eq_false (by omega)
   have d3:decide ((30:Int) < (mm:Int))=false:=decide_eq_false (by omega)
   have d4:decide (30 < mm)=false:=decide_eq_false (by omega)
   have HTB:=hid_of (HTA.out.trans (if_neg hov))
   clear HTA
   have hG1:=HG.out.below (HPS.out.below HT1.out) hGB
   have htd:=takeThird_any B w1 fb rb s (p+14) O most Ty vo vt HS1.out hs h14 hG1 hGB kk hk19
   clear hG1
   go_wp2_with fail
   refine htd.mono ?_
   clear htd
   rintro e w2 (⟨h3,hk2,g3,hg3,rfl,hio,hps2,hst2⟩ | ⟨cc,hcc,rfl,hbl⟩)
   ·have HTC:=hid_of (HTB.out.trans ((if_pos h3).trans (if_neg (fun q=>q hk2))))
    clear HTB
    have HF3:=hid_of (third_lens s (p+14) kk)
    have hc3:Coded (thirdF s (p+14) kk) 19:=⟨by omega,third_lens s (p+14) kk,room_of_kind (.inr (.inl hk2))⟩
    have hnb:=newBook_any (some ⟨g3,0,none⟩) 19 19 (thirdF s (p+14) kk) w2 hio.sl.came (by omega) hc3.2.1
    have HC3:=hid_of hc3
    have HS2:=hid_of hps2
    have HT2:=hid_of (HT1.out.trans hst2)
    clear hio hps2 hst2 hc3 hk2 hg3 HT1 HS1
    go_wp2_with fail
    refine hnb.mono ?_
    clear hnb
    rintro e w3 ⟨bk,V,rfl,hBk,hb3⟩
    have htl:=takeLengths_any B w3 fb rb s (p+14+3 * kk) O most Ty vo vt w2.heap.size w3.heap.size bk V (thirdF s (p+14) kk) (HS2.out.called hb3) hs h3 hBk (held_new HS2.out) HC3.out.2.1 (coded_room HC3.out) (nn+mm) (by omega)
    rw[show ((nn+mm:Nat):Int)=(nn:Int)+(mm:Int) by omega] at htl
    have HT3:Hid (Step fb rb w vo vt w3 vo vt):=HT2.out.trans (Step.called hb3)
    clear hBk hb3 HS2 HT2 HC3 HF3
    generalize thirdF s (p+14) kk=f3 at *
    go_wp2_with fail
    refine htl.mono ?_
    clear htl
    rintro e w4 (⟨L,p4,aL,cL,hal,hp4,rfl,hrow,hps4,hst4⟩ | ⟨cc,hal,rfl,hbl⟩)
    ·have hall:allF s f3 (nn+mm) (8 * s.size+1) (p+14+3 * kk) []=.ok (L,p4):=by
      rcases allP_same (s:=s) (f3:=f3) (N:=nn+mm) (8 * s.size+1) (p+14+3 * kk) [] with ⟨r,y1,y2⟩ | ⟨c1,c2,y1,y2⟩
      ·rw[hal] at y1
       cases y1
       exact y2
      ·rw[hal] at y1
       cases y1
     have hlen:L.length=nn+mm:=(all_go _ _ [] (Nat.zero_le _) h3 hall).2.2
     have hLok:=all_ok _ _ [] (fun v hv=>by cases hv) hall
     have hok1:OkLens (fun i=>L.getD i 0) nn:=ok_of_list hLok nn
     have hok2:OkLens (fun i=>(L.drop nn).getD i 0) mm:=ok_of_list (fun v hv=>hLok v (List.mem_of_mem_drop hv)) mm
     obtain⟨gL,cap,hav,hKg,hgl⟩:=World.ownsRow.form (show w4.ownsRow w3.heap.size 3 1 (.slice aL L.length cL) L.length (ivals L) from hrow) (by omega)
     cases hav
     obtain⟨a0,c0,hv0,_,hcap,hcame,_⟩:=hrow.form
     cases hv0
     have hcell:∀ j,j < L.length→w4.cell? ⟨gL,j,none⟩=some (.int .i64 (L.getD j 0)):=by
      intro j hj
      rcases hcame with y | ⟨g1,o1,y1,y2,y3⟩
      ·omega
      ·cases y1
       have:=y3 j hj
       rw[Nat.zero_add] at this
       exact this
     have hc1:Came w4 (some ⟨gL,0,none⟩) nn (fun i=>L.getD i 0):=.inr ⟨gL,0,rfl,hgl,fun j hj=>by rw [Nat.zero_add]; exact hcell j (by omega)⟩
     have hc2:Came w4 (some ⟨gL,nn,none⟩) mm (fun i=>(L.drop nn).getD i 0):=.inr ⟨gL,nn,rfl,hgl,fun j hj=>by
      rw[hcell (nn+j) (by omega)]
      show _=some (Value.int .i64 ((L.drop nn).getD j 0))
      rw[List.getD_eq_getElem?_getD,List.getD_eq_getElem?_getD,List.getElem?_drop]⟩
     have hdiff:L.length - nn=mm:=by omega
     have HRS:Hid (res=if TabRight nn L then symbolsF s most (fun i=>L.getD i 0) nn (fun i=>(L.drop nn).getD i 0) mm (8 * s.size+1) p4 O else .error 5):=by
      show res=_
      rw[HRES.out,HTC.out,hal]
      dsimp only
      by_cases hT:TabRight nn L
      ·rw[if_pos hT,if_pos hT]
       dsimp only
       rw[hdiff]
      ·rw[if_neg hT,if_neg hT]
     have HTR:Hid (TabRight nn L↔(((kindOf (fun i=>L.getD i 0) nn=2∨kindOf (fun i=>L.getD i 0) nn=3)∧L.getD 256 0≠0)∧(kindOf (fun i=>(L.drop nn).getD i 0) mm=1∨kindOf (fun i=>(L.drop nn).getD i 0) mm=2∨kindOf (fun i=>(L.drop nn).getD i 0) mm=3))):=by
      show TabRight nn L↔_
      unfold TabRight
      rw[hdiff,and_assoc]
     have HST4:=hid_of (HT3.out.trans hst4)
     have HDR:Hid (∀ k,Below w4.heap.size w4 (w4.drewN k)):=fun k=>⟨rfl,rfl,rfl,Nat.le_refl _,fun _ _=>rfl⟩
     have HC12:=hid_of (And.intro hc1 hc2)
     have HOK12:=hid_of (And.intro hok1 hok2)
     have HPS4:=hid_of hps4
     have x1:(0:Int)≤(nn:Int):=by omega
     have x2:(nn:Int)≤(L.length:Int):=by omega
     have x3:(nn:Int)≤(cL:Int):=by omega
     have x4:(L.length:Int)≤(cL:Int):=by omega
     have HLEN:=hid_of hlen
     clear hall hal hLok hrow hcame hcell hc1 hc2 hok1 hok2 hps4 hst4 HT3 HTC HRES hlen
     have HERR:Hid (∀ w',¬ TabRight nn L→Below w4.heap.size w4 w'→BlkPost B w fb rb s most Ty vo vt res (.returned (errV 5)) w'):=fun w' hT hb=>.inr ⟨5,HRS.out.trans (if_neg hT),rfl,(HPS.out.below HST4.out).trans (hb.mono HPS4.out.2.2.2.2.2.2.2.2.2.2)⟩
     by_cases hf1:(kindOf (fun i=>L.getD i 0) nn=2∨kindOf (fun i=>L.getD i 0) nn=3)∧L.getD 256 0≠0
     ·have hfo:=fun k=>firstOk_yes (some ⟨gL,0,none⟩) nn cL (fun i=>L.getD i 0) (w4.drewN k) (HC12.out.1.called (HDR.out k)) (by omega) HOK12.out.1 (by omega) hf1.1 hf1.2
      by_cases hf2:kindOf (fun i=>(L.drop nn).getD i 0) mm=1∨kindOf (fun i=>(L.drop nn).getD i 0) mm=2∨kindOf (fun i=>(L.drop nn).getD i 0) mm=3
      ·have hT:=HTR.out.2 ⟨hf1,hf2⟩
       have hso:=fun (w5:World) (hb:Below w4.heap.size w4 w5)=>secondOk_yes (some ⟨gL,nn,none⟩) mm (cL - nn) (fun i=>(L.drop nn).getD i 0) w5 (HC12.out.2.called hb) (by omega) HOK12.out.2 hf2
       have hcd1:Coded (fun i=>L.getD i 0) nn:=⟨by omega,HOK12.out.1,room_of_kind (.inr hf1.1)⟩
       have hcd2:Coded (fun i=>(L.drop nn).getD i 0) mm:=⟨by omega,HOK12.out.2,room_of_kind hf2⟩
       have htb:=fun (w6:World) (hb:Below w4.heap.size w4 w6)=>two_books B fb rb s p4 O most Ty vo vt (some ⟨gL,0,none⟩) nn cL (fun i=>L.getD i 0) w6 (HC12.out.1.called hb) hcd1 (some ⟨gL,nn,none⟩) mm (cL - nn) (fun i=>(L.drop nn).getD i 0) (HC12.out.2.called hb) hcd2 (HPS4.out.called hb) hs hp4 hm hO
       have HE:=hid_of (HRS.out.trans (if_pos hT))
       rw[← HE.out] at htb
       have HFIN:Hid (∀ w6,Below w4.heap.size w4 w6→∀ e w',BlkPost B w6 fb rb s most Ty vo vt res e w'→BlkPost B w fb rb s most Ty vo vt res e w'):=fun w6 hb e w' hP=>by
        have st:=HST4.out.trans (Step.called hb)
        rcases hP with ⟨O',p',vo',y1,y2,y3,y4,y5,y6⟩ | ⟨c,y1,y2,y3⟩
        ·exact .inl ⟨O',p',vo',y1,y2,y3,y4,y5,st.trans y6⟩
        ·exact .inr ⟨c,y1,y2,(HPS.out.below st).trans y3⟩
       clear HTR HC12 HOK12 HPS4 hcd1 hcd2 hT HRS hf1 hf2 HE HERR
       go_wp2_with fail
       go_quiet (fail)
       go_wp2_with fail
       refine (hfo _).mono ?_
       clear hfo
       rintro e w5 ⟨rfl,hb5⟩
       have hb5':Below w4.heap.size w4 w5:=bnext (HDR.out _) hb5
       have hso1:=hso w5 hb5'
       have HB5:=hid_of hb5'
       clear hso hb5 hb5' HDR
       go_wp2_with fail
       refine hso1.mono ?_
       clear hso1
       rintro e w6 ⟨rfl,hb6⟩
       have hb6':Below w4.heap.size w4 w6:=bnext HB5.out hb6
       have htb1:=htb w6 hb6'
       have HF:=hid_of (HFIN.out w6 hb6')
       clear htb hb6 hb6' HB5 HFIN
       go_wp2_with fail
       refine htb1.mono ?_
       clear htb1
       rintro e w7 ⟨b1,rfl,htb2⟩
       go_wp2_with fail
       refine htb2.mono ?_
       clear htb2
       rintro e w8 ⟨b2,rfl,htb3⟩
       go_wp2_with fail
       refine htb3.mono ?_
       clear htb3
       intro e w9 hP
       have HP:=hid_of (HF.out e w9 hP)
       have hform:(e=.returned .nilIface)∨∃ c,e=.returned (errV c):=by
        rcases hP with ⟨_,_,_,_,_,_,y4,_⟩ | ⟨c,_,y2,_⟩
        ·exact .inl y4
        ·exact .inr ⟨c,y2⟩
       clear hP HF
       rcases hform with rfl | ⟨c,rfl⟩
       all_goals
        go_wp2_with fail
        go_ret
        exact HP.out
      ·have hso:=fun (w5:World) (hb:Below w4.heap.size w4 w5)=>secondOk_no (some ⟨gL,nn,none⟩) mm (cL - nn) (fun i=>(L.drop nn).getD i 0) w5 (HC12.out.2.called hb) (by omega) HOK12.out.2 hf2
       have hT:¬ TabRight nn L:=fun q=>hf2 (HTR.out.1 q).2
       have HER:=hid_of (HERR.out · hT)
       clear HTR HC12 HOK12 HPS4 hT HRS hf1 hf2 HERR
       go_wp2_with fail
       go_quiet (fail)
       go_wp2_with fail
       refine (hfo _).mono ?_
       clear hfo
       rintro e w5 ⟨rfl,hb5⟩
       have hb5':Below w4.heap.size w4 w5:=bnext (HDR.out _) hb5
       have hso1:=hso w5 hb5'
       have HB5:=hid_of hb5'
       clear hso hb5 hb5' HDR
       go_wp2_with fail
       refine hso1.mono ?_
       clear hso1
       rintro e w6 ⟨rfl,hb6⟩
       have HP:=hid_of (HER.out w6 (bnext HB5.out hb6))
       clear hb6 HB5 HER
       go_wp2_with fail
       go_ret
       exact HP.out
     ·have hfo:=fun k=>firstOk_no (some ⟨gL,0,none⟩) nn cL (fun i=>L.getD i 0) (w4.drewN k) (HC12.out.1.called (HDR.out k)) (by omega) HOK12.out.1 (by omega) hf1
      have hT:¬ TabRight nn L:=fun q=>hf1 (HTR.out.1 q).1
      have HER:=hid_of (HERR.out · hT)
      clear HTR HC12 HOK12 HPS4 hT HRS hf1 HERR
      go_wp2_with fail
      go_quiet (fail)
      go_wp2_with fail
      refine (hfo _).mono ?_
      clear hfo
      rintro e w5 ⟨rfl,hb5⟩
      have HP:=hid_of (HER.out w5 (bnext (HDR.out _) hb5))
      clear hb5 HDR HER
      go_wp2_with fail
      go_ret
      exact HP.out
    ·have HE:Hid (res=.error cc):=by
      show res=_
      rw[HRES.out,HTC.out,hal]
     have HP:Hid (BlkPost B w fb rb s most Ty vo vt res (.returned (errV cc)) w4):=.inr ⟨cc,HE.out,rfl,(HPS.out.below HT3.out).trans hbl⟩
     clear HE HPS HG HRES HT3 hbl hal HTC
     go_wp2_with fail
     go_ret
     exact HP.out
   ·have HE:Hid (res=.error cc):=by
     show res=_
     rw[HRES.out,HTB.out]
     split at hcc
     ·rename_i q
      rw[if_pos q]
      split at hcc
      ·rename_i q2
       cases hcc
       rw[if_pos q2]
      ·cases hcc
     ·rename_i q
      cases hcc
      rw[if_neg q]
    have HP:Hid (BlkPost B w fb rb s most Ty vo vt res (.returned (errV cc)) w2):=.inr ⟨cc,HE.out,rfl,(HPS.out.below HT1.out).trans hbl⟩
    clear HE HPS HG HRES HT1 HS1 hbl hcc HTB
    go_wp2_with fail
    go_ret
    exact HP.out
 ·have htk:=take_no B w fb rb s p O most Ty vo vt HPS.out hs hp 14 (by omega) h14
  have HE:Hid (res=.error 2):=by
   show res=_
   rw[HRES.out]
   unfold tablesP
   rw[if_neg h14]
  go_enter Tryz.func95,Tryz.ntmps95
  go_wp2_with fail
  refine htk.mono ?_
  clear htk
  rintro e w1 ⟨rfl,hS1,hg1⟩
  have HP:Hid (BlkPost B w fb rb s most Ty vo vt res (.returned (errV 2)) w1):=.inr ⟨2,HE.out,rfl,HPS.out.below (step_read hg1)⟩
  clear hS1 hg1 HPS HG HRES
  go_wp2_with fail
  go_ret
  exact HP.out
end
end
end Go.Proofs.YtklpiihnbokkkaaGreatDoor
