/-
  Texts of the proof, put together.
-/
import Derived.Test.YtklpiihnbokkkaaGreatDoorFk36
namespace Go.Proofs.YtklpiihnbokkkaaGreatDoor
open Go.RowKit Go.Joins Go.Sort SortMath
theorem sym_any (w0:World) (g n cap:Nat) (hn:n≤288):∀ d a m b,b - a=d→a < m→m < b→b≤n→SymGoes w0 g n cap a m b:=by
 intro d
 induction d using Nat.strongRecOn with
 | _ d ih=>
  intro a m b hd ham hmb hb f w za zm zb ea em eb hS hst hu1 hu2
  subst ea em eb
  by_cases h1:m=a+1
  ·subst h1
   have:=sym_left w0 g n cap a b f w hS hmb hb hn hst hu2
   rw[show ((a+1:Nat):Int)=(a:Int)+1 by omega]
   exact this
  ·by_cases h2:b=m+1
   ·subst h2
    have:=sym_right w0 g n cap a m f w hS (by omega) hb hn hst hu1
    rw[show ((m+1:Nat):Int)=(m:Int)+1 by omega]
    exact this
   ·have IH:∀ a' m' b',b' - a' < b - a→a' < m'→m' < b'→b'≤n→SymGoes w0 g n cap a' m' b':=fun a' m' b' p1 p2 p3 p4=>ih (b' - a') (by omega) a' m' b' rfl p2 p3 p4
    by_cases h3:(a+b) / 2 < m
    ·exact sym_first w0 g n cap a m b _ f w IH hS rfl h3 (by omega) (by omega) hb hn hst hu1 hu2
    ·exact sym_second w0 g n cap a m b _ f w IH hS rfl (by omega) (by omega) (by omega) hb hn hst hu1 hu2
def StI (w0:World) (g n:Nat) (f:Nat→Int) (a:Nat) (w:World):Prop:=∃ (cur:Nat→Int) (t:Nat),a=t * 20∧CW w0 g n cur w∧Bl cur 20 0 a∧Stb cur 0 n∧Of f cur 0 n
def StO (w0:World) (g n:Nat) (f:Nat→Int) (bs:Nat) (w:World):Prop:=∃ cur:Nat→Int,CW w0 g n cur w∧Bl cur bs 0 n∧Stb cur 0 n∧Of f cur 0 n
def StM (w0:World) (g n:Nat) (f:Nat→Int) (bs a:Nat) (w:World):Prop:=∃ (cur:Nat→Int) (t:Nat),a=t * (2 * bs)∧CW w0 g n cur w∧Bl cur (2 * bs) 0 a∧Bl cur bs a n∧Stb cur 0 n∧Of f cur 0 n
theorem stI_next {w0 w1:World} {g n:Nat} {f cur cur':Nat→Int} {t b:Nat} (hC:CW w0 g n cur' w1) (hB:Bl cur 20 0 (t * 20)) (hst:Stb cur 0 n) (hof:Of f cur 0 n) (hb:b≤n) (hu:Up cur' (t * 20) b) (ho:Of cur cur' (t * 20) b):CW w0 g n cur' w1∧Bl cur' 20 0 b∧Stb cur' 0 n∧Of f cur' 0 n:=
 ⟨hC,bl_next hB hu ho,hst.sorted hb hu ho,hof.trans (ho.wide (Nat.zero_le _) hb)⟩
set_option maxHeartbeats 8000000 in
theorem stable_any (w0:World) (g n cap:Nat) (f:Nat→Int) (w:World) (hS:CW w0 g n f w) (hn:n≤288) (hst:Stb f 0 n):
  Calls Tryz.prog 220 #[.slice (some ⟨g,0,none⟩) n cap,.int .i64 n,.func (.func 210) #[] #[]] w fun e w'=>e=.returned (.tuple #[])∧∃ f',CW w0 g n f' w'∧Up f' 0 n∧Of f f' 0 n:=by
 have H0:Hid (StI w0 g n f 0 w):=⟨f,0,rfl,hS,bl_none f 20,hst,Of.refl _ _ _⟩
 clear hS hst
 go_enter Tryz.func220,Tryz.ntmps220
 go_wp2_with fail
 go_loopg [7,8] (n+1) (fun gk za zb w'=>∃ a b:Nat,za=.int .i64 a∧zb=.int .i64 b∧b=a+20∧a≤n∧n - a≤gk∧Hid (StI w0 g n f a w'))
 case atStart=>exact⟨0,20,rfl,rfl,rfl,by omega,by omega,H0⟩
 case round=>
  clear H0
  obtain⟨a,b,rfl,rfl,hb,ha,hk,hI⟩:=hrel
  obtain⟨cur,t,hat,hC,hB,hT,hO⟩:=hI.out
  have HH:=hid_of (And.intro hat (And.intro hC (And.intro hB (And.intro hT hO))))
  clear hat hC hB hT hO hI
  by_cases hlt:b≤n
  ·have HB:=hid_of hb
   have hb2:a≤b:=by omega
   have hb3:n - b < n - a:=by omega
   clear hb
   go_wp2_with fail
   refine (insertion_any w0 g n cap a b cur _ HH.out.2.1 hb2 hlt hn (HH.out.2.2.2.1.part (Nat.zero_le _) hlt)).mono ?_
   rintro e w1 ⟨rfl,k,y1,y2,y3⟩
   have HN:Hid (StI w0 g n f b w1):=by
    have e1:=HH.out.1
    subst e1
    exact⟨k,t+1,by have:=HB.out; omega,stI_next y1 HH.out.2.2.1 HH.out.2.2.2.1 HH.out.2.2.2.2 hlt y2 y3⟩
   clear y1 y2 y3
   go_wp2_with fail
   go_roundg (n - b)
   case measure=>omega
   case rel=>exact⟨b,b+20,rfl,by first | rfl | go_num | (congr 1; omega),rfl,hlt,Nat.le_refl _,HN⟩
  ·go_wp2_with fail
   refine (insertion_any w0 g n cap a n cur _ HH.out.2.1 ha (Nat.le_refl _) hn (HH.out.2.2.2.1.part (Nat.zero_le _) (Nat.le_refl _))).mono ?_
   rintro e w1 ⟨rfl,k,y1,y2,y3⟩
   have HN:Hid (StO w0 g n f 20 w1):=by
    have e1:=HH.out.1
    subst e1
    exact⟨k,stI_next y1 HH.out.2.2.1 HH.out.2.2.2.1 HH.out.2.2.2.2 (Nat.le_refl _) y2 y3⟩
   clear y1 y2 y3 HH hk ha hb hlt
   go_wp2_with fail
   go_loopg [6] (n+1) (fun gk zs w'=>∃ bs:Nat,zs=.int .i64 bs∧20≤bs∧bs≤1000∧n - bs≤gk∧Hid (StO w0 g n f bs w'))
   case atStart=>exact⟨20,rfl,Nat.le_refl _,by omega,by omega,HN⟩
   case round=>
    clear HN
    obtain⟨bs,rfl,hs1,hs2,hk,hI⟩:=hrel
    by_cases hlt:bs < n
    ·have HM:Hid (StM w0 g n f bs 0 wr):=by
      obtain⟨cur,y1,y2,y3,y4⟩:=hI.out
      exact⟨cur,0,by omega,y1,(bl_start y2).1,(bl_start y2).2,y3,y4⟩
     clear hI
     go_wp2_with fail
     go_loopg [7,8] (n+1) (fun gk za zb w'=>∃ a b:Nat,za=.int .i64 a∧zb=.int .i64 b∧b=a+2 * bs∧a≤n∧n - a≤gk∧Hid (StM w0 g n f bs a w'))
     case atStart=>exact⟨0,2 * bs,rfl,by first | rfl | go_num | (congr 1; omega),by omega,by omega,by omega,HM⟩
     case round=>
      clear HM
      obtain⟨a,b,rfl,rfl,hb,ha,hk2,hI⟩:=hrel
      obtain⟨cur,t,hat,hC,hB,hB2,hT,hO⟩:=hI.out
      have HH:=hid_of (And.intro hat (And.intro hC (And.intro hB (And.intro hB2 (And.intro hT hO)))))
      clear hat hC hB hB2 hT hO hI
      by_cases hle:b≤n
      ·have HL:Hid (Up cur a (a+bs)∧Up cur (a+bs) b):=by
        have e1:=HH.out.1
        subst e1
        exact bl_half HH.out.2.2.2.1 hle (by omega) (by omega)
       have HB:=hid_of hb
       have hb2:a+bs < b:=by omega
       have hb3:n - b < n - a:=by omega
       clear hb
       go_wp2_with fail
       refine (sym_any w0 g n cap hn _ a (a+bs) b rfl (by omega) hb2 hle cur _ _ _ _ (by first | rfl | omega) (by first | rfl | omega) (by first | rfl | omega) HH.out.2.1 (HH.out.2.2.2.2.1.part (Nat.zero_le _) hle) HL.out.1 HL.out.2).mono ?_
       rintro e w1 ⟨rfl,k,y1,y2,y3⟩
       have HN:Hid (StM w0 g n f bs b w1):=by
        have e1:=HH.out.1
        have e2:=HB.out
        subst e1
        subst e2
        exact⟨k,t+1,(Nat.succ_mul t (2 * bs)).symm,y1,bl_next HH.out.2.2.1 y2 y3,bl_later (by omega) HH.out.2.2.2.1 y3,HH.out.2.2.2.2.1.sorted hle y2 y3,HH.out.2.2.2.2.2.trans (y3.wide (Nat.zero_le _) hle)⟩
       clear y1 y2 y3
       go_wp2_with fail
       go_roundg (n - b)
       case measure=>omega
       case rel=>exact⟨b,b+2 * bs,rfl,by first | rfl | go_num | (congr 1; omega),rfl,hle,Nat.le_refl _,HN⟩
      ·by_cases hm:a+bs < n
       ·have HL:Hid (Up cur a (a+bs)∧Up cur (a+bs) n):=by
         have e1:=HH.out.1
         subst e1
         exact bl_half HH.out.2.2.2.1 (Nat.le_refl _) (by omega) (by omega)
        have dm:decide ((a:Int)+(bs:Int) < (n:Int))=true:=decide_eq_true (by omega)
        go_wp2_with fail
        refine (sym_any w0 g n cap hn _ a (a+bs) n rfl (by omega) hm (Nat.le_refl _) cur _ _ _ _ (by first | rfl | omega) (by first | rfl | omega) (by first | rfl | omega) HH.out.2.1 (HH.out.2.2.2.2.1.part (Nat.zero_le _) (Nat.le_refl _)) HL.out.1 HL.out.2).mono ?_
        rintro e w1 ⟨rfl,k,y1,y2,y3⟩
        have HN:Hid (StO w0 g n f (2 * bs) w1):=by
         have e1:=HH.out.1
         subst e1
         exact⟨k,y1,bl_next HH.out.2.2.1 y2 y3,HH.out.2.2.2.2.1.sorted (Nat.le_refl _) y2 y3,HH.out.2.2.2.2.2.trans (y3.wide (Nat.zero_le _) (Nat.le_refl _))⟩
        clear y1 y2 y3
        go_wp2_with fail
        go_roundg (n - 2 * bs)
        case measure=>omega
        case rel=>exact⟨2 * bs,by first | rfl | go_num | (congr 1; omega),by omega,by omega,Nat.le_refl _,HN⟩
       ·have dm:decide ((a:Int)+(bs:Int) < (n:Int))=false:=decide_eq_false (by omega)
        have dm2:¬ (a:Int)+(bs:Int) < (n:Int):=by omega
        have HN:Hid (StO w0 g n f (2 * bs) wr):=by
         have e1:=HH.out.1
         subst e1
         exact⟨cur,HH.out.2.1,bl_rest (by omega) HH.out.2.2.1 HH.out.2.2.2.1,HH.out.2.2.2.2.1,HH.out.2.2.2.2.2⟩
        go_wp2_with fail
        go_roundg (n - 2 * bs)
        case measure=>omega
        case rel=>exact⟨2 * bs,by first | rfl | go_num | (congr 1; omega),by omega,by omega,Nat.le_refl _,HN⟩
    ·have HZ:Hid (∃ f',CW w0 g n f' wr∧Up f' 0 n∧Of f f' 0 n):=by
      obtain⟨cur,y1,y2,y3,y4⟩:=hI.out
      exact⟨cur,y1,bl_whole y2 (by omega),y4⟩
     clear hI
     go_wp2_with fail
     go_end0
     exact⟨rfl,HZ.out⟩
set_option maxHeartbeats 800000 in
theorem sort_any (w0:World) (g n cap:Nat) (f:Nat→Int) (w:World) (hS:CW w0 g n f w) (hn:n≤288) (hst:Stb f 0 n):
  Calls Tryz.prog 209 #[.slice (some ⟨g,0,none⟩) n cap,.func (.func 210) #[] #[]] w fun e w'=>e=.returned (.tuple #[])∧∃ f',CW w0 g n f' w'∧Up f' 0 n∧Of f f' 0 n:=by
 have hcon:=stable_any w0 g n cap f w hS hn hst
 clear hS hst
 go_enter Tryz.func209,Tryz.ntmps209
 go_wp2_with fail
 refine hcon.mono ?_
 rintro e w1 ⟨rfl,h⟩
 have HZ:=hid_of h
 clear h
 go_wp2_with fail
 go_end0
 exact⟨rfl,HZ.out⟩
end Go.Proofs.YtklpiihnbokkkaaGreatDoor

namespace Go.Proofs.YtklpiihnbokkkaaGreatDoor
open Go.RowKit Go.Joins Go.Sort PackageMath SortMath
def TL (w:World) (a:Option Addr) (L:List Coin):Prop:=L=[]∨∃ g off cur fz,a=some ⟨g,off,none⟩∧w.heap[g]?=some (.cells cur 274 fz)
def Elt (w:World) (u:Value) (L:List Coin):Prop:=∃ a c,u=.slice a L.length c∧Lst w w.heap.size a c L∧TL w a L∧c≤maxLen
theorem Elt.keep {w w':World} {u:Value} {L:List Coin} (h:Elt w u L) (hs:w.heap.size≤w'.heap.size) (hk:∀ (g:Nat) cur fz,w.heap[g]?=some (Obj.cells cur 274 fz)→w'.heap[g]?=w.heap[g]?):Elt w' u L:=by
 obtain⟨a,c,hu,h1,h2,h3⟩:=h
 refine⟨a,c,hu,⟨h1.1,h1.2.1,?_⟩,?_,h3⟩
 ·rcases h1.2.2 with e | ⟨g,off,ha,q1,q2,q3⟩
  ·exact .inl e
  ·rcases h2 with e | ⟨g',off',cur,fz,ha',hg⟩
   ·exact .inl e
   ·rw[ha] at ha'
    cases ha'
    have hkk:=hk g cur fz hg
    exact .inr ⟨g,off,ha,by omega,by omega,fun j u hu=>(World.cell?_of_block (w:=w) hkk).trans (q3 j u hu)⟩
 ·rcases h2 with e | ⟨g',off',cur,fz,ha',hg⟩
  ·exact .inl e
  ·exact .inr ⟨g',off',cur,fz,ha',(hk g' cur fz hg).trans hg⟩
theorem Elt.called {w w':World} {u:Value} {L:List Coin} (h:Elt w u L) (hb:Below w.heap.size w w'):Elt w' u L:=h.keep hb.size (fun g _ _ hg=>hb.block g (block_lt hg))
theorem elt_of_own {w:World} {S n:Nat} {v:Value} {L:List Coin} (h:w.ownsRow S 274 2 v n (ccells L)) (hn:n=L.length):Elt w v L:=by
 obtain⟨a,c,hv,h1,h2⟩:=lst_of_own h hn
 refine⟨a,c,hv,h1,?_,h2⟩
 subst hv
 rcases h.2 with ⟨_,h0⟩ | ⟨g,cap,cur,e,hb,hg,_⟩
 ·exact .inl (List.eq_nil_of_length_eq_zero (by omega))
 ·cases e
  exact .inr ⟨g,0,cur,(0,0),rfl,hg⟩
def RawSt (w w':World) (f:Nat→Int) (j:Nat) (v:Value):Prop:=w'.ownsRow w.heap.size 274 2 v (rawL f j).length (ccells (rawL f j))∧Below w.heap.size w w'∧∀ i,i < j→0≤f i∧f i≤12000
theorem raw_skip {f:Nat→Int} {j:Nat} (h:f j=0):rawL f (j+1)=rawL f j:=by
 show (if f j=0 then rawL f j else rawL f j ++ [(f j,[j])])=rawL f j
 rw[if_pos h]
theorem raw_more {f:Nat→Int} {j:Nat} (h:f j≠0):rawL f (j+1)=rawL f j ++ [(f j,[j])]:=by
 show (if f j=0 then rawL f j else rawL f j ++ [(f j,[j])])=_
 rw[if_neg h]
theorem raw_short (f:Nat→Int):∀ j,(rawL f j).length≤j
 | 0=>Nat.le_refl _
 | j+1=>by
  have:=raw_short f j
  by_cases h:f j=0
  ·rw[raw_skip h]; omega
  ·rw[raw_more h,List.length_append]; simp; omega
theorem upto_next {f:Nat→Int} {j:Nat} (h:∀ i,i < j→0≤f i∧f i≤12000) (hj:0≤f j∧f j≤12000):∀ i,i < j+1→0≤f i∧f i≤12000:=fun i hi=>by
 by_cases e:i=j
 ·rw[e]; exact hj
 ·exact h i (by omega)
theorem cw_start {w:World} {S g m cap n:Nat} {f:Nat→Int} (hn:n≤1024) (h:w.ownsRow S 274 2 (.slice (some ⟨g,0,none⟩) m cap) (rawL f n).length (ccells (rawL f n))) (hm:m=(rawL f n).length):CW w g m (keyAt (rawL f n)) w:=by
 subst hm
 rcases h.2 with ⟨e,_⟩ | ⟨g',cap',cur,e,hb,hg,hc,hx,hs,ht⟩
 ·cases e
 ·cases e
  refine⟨rfl,rfl,rfl,Nat.le_refl _,fun _ _ _=>rfl,block_lt hg,cur,cur,274,hg,hg,rfl,by omega,fun i hi=>?_⟩
  have k:=raw_key (c:=f) hn hi
  rw[k.1,k.2,← cell_of_block hg,← cell_of_block hg,h.cellAt (i * 2) (by omega),h.cellAt (i * 2+1) (by omega)]
  exact⟨ccells_get0 _ i hi,ccells_get1 _ i hi⟩
theorem cw_done {w w':World} {S g m cap n:Nat} {f k:Nat→Int} (hn:n≤1024) (hf:∀ i,i < n→0≤f i) (h:w.ownsRow S 274 2 (.slice (some ⟨g,0,none⟩) m cap) (rawL f n).length (ccells (rawL f n))) (hm:m=(rawL f n).length) (hC:CW w g m k w') (hu:Up k 0 m) (ho:Of (keyAt (rawL f n)) k 0 m):
  w'.ownsRow S 274 2 (.slice (some ⟨g,0,none⟩) m cap) m (ccells (firstL f n)):=by
 have hl:(firstL f n).length=posN f n:=first_length f n
 have hr:=raw_length f n
 have hmp:m=posN f n:=by omega
 rcases h.2 with ⟨e,_⟩ | ⟨g',cap',cur,e,hb,hg,hc,hx,hs,ht⟩
 ·cases e
 ·cases e
  obtain⟨c0,c,T,q1,q2,q3,q4,q5⟩:=hC.row
  rw[hg] at q1
  cases q1
  refine⟨by rw [ccells_length,hl,hmp],.inr ⟨g,cap,c,rfl,hb,q2,by omega,hx,by rw [q3,hs],?_⟩⟩
  have hcl:c.toList.length=c.size:=Array.length_toList
  refine row_of_cells _ _ (by rw [List.length_take,hl]; omega) (fun i hi=>?_)
  have k1:=q5 i (by omega)
  have k2:=first_key (c:=f) hn hi
  have k3:=raw_sorted hn hf (by rw [← hmp]; exact hu) (by rw [← hmp]; exact ho) i (by omega)
  rw[k3,k2.1,k2.2] at k1
  rw[List.getElem?_take,List.getElem?_take,if_pos (by omega),if_pos (by omega),Array.getElem?_toList,Array.getElem?_toList]
  exact k1
theorem cw_below {w0 w w':World} {g n:Nat} {k:Nat→Int} (hb:Below w0.heap.size w0 w) (hg:w0.heap.size≤g) (h:CW w g n k w'):Below w0.heap.size w0 w':=
 hb.trans ⟨h.os,h.tape,h.output,h.size,fun i hi=>h.other i (by have:=hb.size; omega) (by omega)⟩
theorem insertion_none (a:Option Addr) (c:Nat) (u:Value) (w:World):Calls Tryz.prog 225 #[.slice a 0 c,.int .i64 0,.int .i64 0,u] w fun e w'=>e=.returned (.tuple #[])∧w'=w:=by
 go_enter Tryz.func225,Tryz.ntmps225
 go_wp2_with fail
 go_loopg [8] 1 (fun _ z w'=>z=.int .i64 1∧w'=w)
 case atStart=>exact⟨rfl,rfl⟩
 case round=>
  obtain⟨rfl,rfl⟩:=hrel
  go_wp2_with fail
  go_end0
  exact⟨rfl,rfl⟩
theorem stable_none (a:Option Addr) (c:Nat) (u:Value) (w:World):Calls Tryz.prog 220 #[.slice a 0 c,.int .i64 0,u] w fun e w'=>e=.returned (.tuple #[])∧w'=w:=by
 go_enter Tryz.func220,Tryz.ntmps220
 go_wp2_with fail
 go_loopg [7,8] 1 (fun _ z y w'=>z=.int .i64 0∧y=.int .i64 20∧w'=w)
 case atStart=>exact⟨rfl,rfl,rfl⟩
 case round=>
  obtain⟨rfl,rfl,rfl⟩:=hrel
  go_wp2_with fail
  refine (insertion_none a c u _).mono ?_
  rintro e w1 ⟨rfl,rfl⟩
  go_wp2_with fail
  go_loopg [6] 1 (fun _ z w'=>z=.int .i64 20∧w'=w1)
  case atStart=>exact⟨rfl,rfl⟩
  case round=>
   obtain⟨rfl,rfl⟩:=hrel
   go_wp2_with fail
   go_end0
   exact⟨rfl,rfl⟩
theorem sort_none (a:Option Addr) (c:Nat) (u:Value) (w:World):Calls Tryz.prog 209 #[.slice a 0 c,u] w fun e w'=>e=.returned (.tuple #[])∧w'=w:=by
 go_enter Tryz.func209,Tryz.ntmps209
 go_wp2_with fail
 refine (stable_none a c u _).mono ?_
 rintro e w1 ⟨rfl,rfl⟩
 go_wp2_with fail
 go_end0
 exact⟨rfl,rfl⟩
end Go.Proofs.YtklpiihnbokkkaaGreatDoor
namespace Go.Proofs.YtklpiihnbokkkaaGreatDoor
open Go.RowKit Go.Joins Go.Sort PackageMath SortMath
set_option maxHeartbeats 1600000 in
theorem symbols_good (a:Option Addr) (n cap:Nat) (f:Nat→Int) (w:World) (hC:Came w a n f) (hn:n≤288) (hf:∀ i,i < n→0≤f i∧f i≤12000):
  Calls Tryz.prog 195 #[.slice a n cap] w fun e w'=>∃ v,e=.returned (.tuple #[v,.bool true])∧Elt w' v (firstL f n)∧Below w.heap.size w w':=by
 have HC:Hid (Came w a n f):=hC
 have HF:Hid (∀ i,i < n→0≤f i∧f i≤12000):=hf
 clear hC hf
 have H0:Hid (RawSt w w f 0 (.slice none 0 0)):=⟨World.ownsRow_nil _ _ _ _,Below.refl _ _,fun i hi=>absurd hi (Nat.not_lt_zero i)⟩
 have dn:decide ((288:Int) < (n:Int))=false:=decide_eq_false (by omega)
 go_enter Tryz.func195,Tryz.ntmps195
 go_wp2_with fail
 go_loopg [4,12] (n+1) (fun gk v z w'=>∃ j:Nat,j≤n∧z=.int .i64 j∧n - j≤gk∧Hid (RawSt w w' f j v))
 case atStart=>exact⟨0,Nat.zero_le _,rfl,by omega,H0⟩
 case round=>
  clear H0
  obtain⟨j,hj,rfl,hk,hS⟩:=hrel
  by_cases hlt:j < n
  ·rcases HC.out with q | ⟨g,off,rfl,hg,hc⟩
   ·omega
   ·have c0:wr.cell? ⟨g,off+j,none⟩=some (.int .i64 (f j)):=(hS.out.2.1.cell (p:=⟨g,off+j,none⟩) hg).trans (hc j hlt)
    have hl2:g < wr.heap.size:=Nat.lt_of_lt_of_le hg hS.out.2.1.size
    have hfj:=HF.out j hlt
    have HV:=hid_of (upto_next hS.out.2.2 hfj)
    clear hc
    have d0:decide (f j < 0)=false:=decide_eq_false (by omega)
    have d1:decide (12000 < f j)=false:=decide_eq_false (by omega)
    by_cases hz:f j=0
    ·have d2:decide (0 < f j)=false:=decide_eq_false (by omega)
     have HS1:Hid (RawSt w wr f (j+1) u4):=⟨by rw [raw_skip hz]; exact hS.out.1,hS.out.2.1,HV.out⟩
     clear hz
     go_wp2_with fail
     go_roundg (n - (j+1))
     case measure=>omega
     case rel=>exact⟨j+1,by omega,by go_num,Nat.le_refl _,HS1⟩
    ·have d2:decide (0 < f j)=true:=decide_eq_true (by omega)
     have HZ:=hid_of hz
     have hrs:=raw_short f j
     have HRS:=hid_of hrs
     have hs:=hS.out.2.1.size
     clear hz hrs
     go_wp2_with (at_builtin; refine coins_append (S:=w.heap.size) (xs:=rawL f j) (ys:=[(f j,[j])]) rfl _ _ rfl rfl (World.ownsRow.alloc hS.out.1 _) (some ⟨wr.heap.size,0,none⟩) 1 1 rfl rfl (fun ad e=>by cases e; exact World.news_of_block (cs:=#[.int .i64 (f j),.int .i64 (j:Int)]) (t:=274) (fr:=(0,0)) (heap_alloc_new wr _)) (fun h=>by cases h) (by have:=HRS.out; simp only [List.length_cons,List.length_nil]; omega) (by simp; omega) ?_)
     intro v1 w1 y1 y2
     have HS1:Hid (RawSt w w1 f (j+1) v1):=by
      refine⟨?_,(bal hS.out.2.1 _).grown y2 (by simp; omega) (fun k hk=>(hS.out.1.lt k hk).1),HV.out⟩
      rw[raw_more HZ.out]
      simpa using y1
     clear y1 y2
     go_wp2_with fail
     go_roundg (n - (j+1))
     case measure=>omega
     case rel=>exact⟨j+1,by omega,by go_num,Nat.le_refl _,HS1⟩
  ·obtain rfl:j=n:=by omega
   have hrs:=raw_short f j
   by_cases hm:(rawL f j).length=0
   ·obtain⟨a',c',hv,_⟩:=lst_of_own hS.out.1 rfl
    rw[hm] at hv
    have HE:Hid (Elt wr u4 (firstL f j)∧Below w.heap.size w wr):=by
     have e1:rawL f j=[]:=List.eq_nil_of_length_eq_zero hm
     have e2:firstL f j=[]:=List.eq_nil_of_length_eq_zero (by rw [first_length]; have:=raw_length f j; unfold posN at this; omega)
     have k:=elt_of_own hS.out.1 rfl
     rw[e1] at k
     rw[e2]
     exact⟨k,hS.out.2.1⟩
    subst hv
    clear hm hrs
    go_wp2_with fail
    refine (sort_none a' c' _ _).mono ?_
    rintro e w1 ⟨rfl,rfl⟩
    go_wp2_with fail
    go_ret2
    exact⟨_,rfl,HE.out⟩
   ·obtain⟨g,c,hv,hg⟩:=hS.out.1.form (by omega)
    obtain⟨m,hm2⟩:∃ m,m=(rawL f j).length:=⟨_,rfl⟩
    rw[← hm2] at hv
    subst hv
    have HM:=hid_of hm2
    have hm288:m≤288:=by omega
    have HG:=hid_of hg
    have HC1:=hid_of (cw_start (n:=j) (by omega) hS.out.1 hm2)
    have HST:Hid (Stb (keyAt (rawL f j)) 0 m):=by
     have:=raw_Stb (c:=f) (n:=j) (by omega)
     rw[← hm2] at this
     exact this
    clear hm hrs hm2 hg
    go_wp2_with fail
    refine (sort_any wr g m c _ _ HC1.out hm288 HST.out).mono ?_
    rintro e w1 ⟨rfl,k,y1,y2,y3⟩
    have HE:Hid (Elt w1 (.slice (some ⟨g,0,none⟩) m c) (firstL f j)∧Below w.heap.size w w1):=by
     have k1:=cw_done (n:=j) (by omega) (fun i hi=>(HF.out i hi).1) hS.out.1 HM.out y1 y2 y3
     have k2:m=(firstL f j).length:=by rw [first_length,HM.out]; exact raw_length f j
     exact⟨elt_of_own k1 k2,cw_below hS.out.2.1 (hS.out.1.lt g rfl).1 y1⟩
    clear y1 y2 y3
    go_wp2_with fail
    go_ret2
    exact⟨_,rfl,HE.out⟩
set_option maxHeartbeats 1600000 in
theorem symbols_bad (a:Option Addr) (n cap:Nat) (f:Nat→Int) (w:World) (hC:Came w a n f) (hn:n≤1048576) (hb:¬ (n≤288∧∀ i,i < n→0≤f i∧f i≤12000)):
  Calls Tryz.prog 195 #[.slice a n cap] w fun e w'=>e=.returned (.tuple #[.slice none 0 0,.bool false])∧Below w.heap.size w w':=by
 by_cases hm:n≤288
 ·have HC:Hid (Came w a n f):=hC
  have HB:Hid (¬ ∀ i,i < n→0≤f i∧f i≤12000):=fun h=>hb ⟨hm,h⟩
  clear hC hb
  have H0:Hid (RawSt w w f 0 (.slice none 0 0)):=⟨World.ownsRow_nil _ _ _ _,Below.refl _ _,fun i hi=>absurd hi (Nat.not_lt_zero i)⟩
  have dn:decide ((288:Int) < (n:Int))=false:=decide_eq_false (by omega)
  go_enter Tryz.func195,Tryz.ntmps195
  go_wp2_with fail
  go_loopg [4,12] (n+1) (fun gk v z w'=>∃ j:Nat,j≤n∧z=.int .i64 j∧n - j≤gk∧Hid (RawSt w w' f j v))
  case atStart=>exact⟨0,Nat.zero_le _,rfl,by omega,H0⟩
  case round=>
   clear H0
   obtain⟨j,hj,rfl,hk,hS⟩:=hrel
   by_cases hlt:j < n
   ·rcases HC.out with q | ⟨g,off,rfl,hg,hc⟩
    ·omega
    ·have c0:wr.cell? ⟨g,off+j,none⟩=some (.int .i64 (f j)):=(hS.out.2.1.cell (p:=⟨g,off+j,none⟩) hg).trans (hc j hlt)
     have hl2:g < wr.heap.size:=Nat.lt_of_lt_of_le hg hS.out.2.1.size
     have HBE:=hid_of hS.out.2.1
     clear hc
     by_cases q0:f j < 0
     ·have d0:decide (f j < 0)=true:=decide_eq_true q0
      go_wp2_with fail
      exact bodyPost_ret (v:=.tuple #[.slice none 0 0,.bool false]) (by simp [results,Tryz.results195,go_sem]) rfl ⟨rfl,HBE.out⟩
     ·have d0:decide (f j < 0)=false:=decide_eq_false q0
      by_cases q1:12000 < f j
      ·have d1:decide (12000 < f j)=true:=decide_eq_true q1
       go_wp2_with fail
       exact bodyPost_ret (v:=.tuple #[.slice none 0 0,.bool false]) (by simp [results,Tryz.results195,go_sem]) rfl ⟨rfl,HBE.out⟩
      ·have d1:decide (12000 < f j)=false:=decide_eq_false q1
       have hfj:0≤f j∧f j≤12000:=by omega
       have HV:=hid_of (upto_next hS.out.2.2 hfj)
       by_cases hz:f j=0
       ·have d2:decide (0 < f j)=false:=decide_eq_false (by omega)
        have HS1:Hid (RawSt w wr f (j+1) u4):=⟨by rw [raw_skip hz]; exact hS.out.1,hS.out.2.1,HV.out⟩
        clear hz
        go_wp2_with fail
        go_roundg (n - (j+1))
        case measure=>omega
        case rel=>exact⟨j+1,by omega,by go_num,Nat.le_refl _,HS1⟩
       ·have d2:decide (0 < f j)=true:=decide_eq_true (by omega)
        have HZ:=hid_of hz
        have hrs:=raw_short f j
        have HRS:=hid_of hrs
        have hs:=hS.out.2.1.size
        clear hz hrs
        go_wp2_with (at_builtin; refine coins_append (S:=w.heap.size) (xs:=rawL f j) (ys:=[(f j,[j])]) rfl _ _ rfl rfl (World.ownsRow.alloc hS.out.1 _) (some ⟨wr.heap.size,0,none⟩) 1 1 rfl rfl (fun ad e=>by cases e; exact World.news_of_block (cs:=#[.int .i64 (f j),.int .i64 (j:Int)]) (t:=274) (fr:=(0,0)) (heap_alloc_new wr _)) (fun h=>by cases h) (by have:=HRS.out; simp only [List.length_cons,List.length_nil]; omega) (by simp; omega) ?_)
        intro v1 w1 y1 y2
        have HS1:Hid (RawSt w w1 f (j+1) v1):=by
         refine⟨?_,(bal hS.out.2.1 _).grown y2 (by simp; omega) (fun k hk=>(hS.out.1.lt k hk).1),HV.out⟩
         rw[raw_more HZ.out]
         simpa using y1
        clear y1 y2
        go_wp2_with fail
        go_roundg (n - (j+1))
        case measure=>omega
        case rel=>exact⟨j+1,by omega,by go_num,Nat.le_refl _,HS1⟩
   ·obtain rfl:j=n:=by omega
    exact absurd hS.out.2.2 HB.out
 ·have dn:decide ((288:Int) < (n:Int))=true:=decide_eq_true (by omega)
  clear hb hC
  go_enter Tryz.func195,Tryz.ntmps195
  go_wp2_with fail
  exact bodyPost_ret (v:=.tuple #[.slice none 0 0,.bool false]) (by simp [results,Tryz.results195,go_sem]) rfl ⟨rfl,Below.refl _ _⟩
end Go.Proofs.YtklpiihnbokkkaaGreatDoor
