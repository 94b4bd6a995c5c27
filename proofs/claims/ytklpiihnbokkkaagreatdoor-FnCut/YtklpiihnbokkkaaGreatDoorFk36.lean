/-
  Texts of the proof, put together.
-/
import Derived.Test.YtklpiihnbokkkaaGreatDoorFk35
namespace Go.Proofs.YtklpiihnbokkkaaGreatDoor
open Go.RowKit Go.Joins Go.Sort SortMath
set_option maxHeartbeats 16000000 in
set_option maxRecDepth 100000 in
theorem sym_first (w0:World) (g n cap a m b mid:Nat) (f:Nat→Int) (w:World) (IH:∀ a' m' b',b' - a' < b - a→a' < m'→m' < b'→b'≤n→SymGoes w0 g n cap a' m' b') (hS:CW w0 g n f w) (hmid:mid=(a+b) / 2) (hmm:mid < m) (ham:a+2≤m) (hmb:m+2≤b) (hb:b≤n) (hn:n≤288) (hst:Stb f a b) (hu1:Up f a m) (hu2:Up f m b):
  Calls Tryz.prog 226 #[.slice (some ⟨g,0,none⟩) n cap,.int .i64 a,.int .i64 m,.int .i64 b,.func (.func 210) #[] #[]] w fun e w'=>e=.returned (.tuple #[])∧∃ f',CW w0 g n f' w'∧Up f' a b∧Of f f' a b:=by
 have mixed:Tryz.prog.follows .mixedOrders=true:=by kernel_rfl
 have H0:=hid_of hS
 have HIH:=hid_of IH
 have HST:=hid_of hst
 have HU1:=hid_of hu1
 have HU2:=hid_of hu2
 clear hS hst hu1 hu2 IH
 have hq1:a < mid:=by omega
 have hq2:mid < b:=by omega
 have em:((a:Int)+(b:Int)) / 2=(mid:Int):=by omega
 have em1:((m:Int) - (a:Int) == 1)=false:=by simp; omega
 have em2:((b:Int) - (m:Int) == 1)=false:=by simp; omega
 have em3:decide ((mid:Int) < (m:Int))=true:=decide_eq_true (by omega)
 obtain⟨lo,hlo⟩:∃ lo,lo=mid+m - b:=⟨_,rfl⟩
 have elo:(mid:Int)+(m:Int) - (b:Int)=(lo:Int):=by omega
 have g1:a≤lo:=by omega
 have g2:mid+m≤lo+b:=by omega
 have g5:lo≤mid:=by omega
 have g6:lo+b=mid+m:=by omega
 clear hlo
 clear hmid
 go_enter Tryz.func226,Tryz.ntmps226
 go_wp2_with fail
 go_loopg [20,21] (n+1) (fun gk zs zr w'=>∃ s r:Nat,zs=.int .i64 s∧zr=.int .i64 r∧lo≤s∧s≤r∧r≤mid∧r - s≤gk∧Hid (SeekM f (mid+m) lo mid s r)∧Hid (CW w0 g n f w'))
 case atStart=>exact⟨lo,mid,rfl,rfl,Nat.le_refl _,by omega,Nat.le_refl _,by omega,⟨.inl rfl,.inl rfl⟩,H0⟩
 case round=>
  clear H0
  obtain⟨s,r,rfl,rfl,h1,h2,h3,h4,hK,HC⟩:=hrel
  by_cases hlt:s < r
  ·obtain⟨c,hc⟩:∃ c,c=(s+r) / 2:=⟨_,rfl⟩
   have hc1:s≤c∧c < r:=by omega
   have ec:((s:Int)+(r:Int)) / 2=(c:Int):=by omega
   clear hc
   obtain⟨d,hd⟩:∃ d,d=mid+m - 1 - c:=⟨_,rfl⟩
   have ed:(mid:Int)+(m:Int) - 1 - (c:Int)=(d:Int):=by omega
   have hd1:m≤d∧d < b:=by omega
   have c0:=fun n' os=>(HC.out.grown n' os).cell0 d (by omega)
   have c1:=fun n' os=>(HC.out.grown n' os).cell1 d (by omega)
   have c2:=fun n' os=>(HC.out.grown n' os).cell0 c (by omega)
   have c3:=fun n' os=>(HC.out.grown n' os).cell1 c (by omega)
   have hcb:=fun n' os=>byWeight_in (f d / 1024) (f c / 1024) (f d % 1024) (f c % 1024) wr n' os
   have k2:(c:Int) < (n:Int):=by omega
   have k3:(d:Int) < (n:Int):=by omega
   have k4:IntKind.i64.wrap (d:Int)=(d:Int):=by rw [IntKind.wrap_i64]; omega
   have HD:=hid_of hd
   clear hd
   by_cases hv:f d / 1024 < f c / 1024
   ·have HK1:Hid (SeekM f (mid+m) lo mid s c):=seekM_down hK.out (by rw [← HD.out]; exact hv)
    have hr2:=cmp_less hv
    have hr:=decide_eq_true hr2
    generalize cmpI (f d / 1024) (f c / 1024)=q at hcb hr hr2
    clear hv
    generalize f d / 1024=x0 at c0 hcb
    generalize f d % 1024=x1 at c1 hcb
    generalize f c / 1024=y0 at c2 hcb
    generalize f c % 1024=y1 at c3 hcb
    go_wp2_with fail
    go_quiet_grown (refine Calls.grown_of (hcb _ _))
    have HN:=hid_of (HC.out.grown nq osq)
    clear c0 c1 c2 c3 hcb ec ed
    generalize grow (wr.drewN nq) osq=w2 at HN
    go_wp2_with fail
    go_roundg (c - s)
    case measure=>omega
    case rel=>exact⟨s,c,rfl,rfl,h1,by omega,by omega,Nat.le_refl _,HK1,HN⟩
   ·have HK1:Hid (SeekM f (mid+m) lo mid (c+1) r):=seekM_up hK.out HST.out (show a≤c by omega) (show c < m by omega) (by have:=HD.out; omega) (by have:=HD.out; omega) (by rw [← HD.out]; exact hv)
    have hr2:=cmp_not hv
    have hr:=decide_eq_false hr2
    generalize cmpI (f d / 1024) (f c / 1024)=q at hcb hr hr2
    clear hv
    generalize f d / 1024=x0 at c0 hcb
    generalize f d % 1024=x1 at c1 hcb
    generalize f c / 1024=y0 at c2 hcb
    generalize f c % 1024=y1 at c3 hcb
    go_wp2_with fail
    go_quiet_grown (refine Calls.grown_of (hcb _ _))
    have HN:=hid_of (HC.out.grown nq osq)
    clear c0 c1 c2 c3 hcb ec ed
    generalize grow (wr.drewN nq) osq=w2 at HN
    go_wp2_with fail
    go_roundg (r - (c+1))
    case measure=>omega
    case rel=>exact⟨c+1,r,by first | rfl | go_num | (congr 1; omega),rfl,by omega,by omega,h3,Nat.le_refl _,HK1,HN⟩
  ·obtain rfl:s=r:=by omega
   obtain⟨e,he⟩:∃ e,e=mid+m - s:=⟨_,rfl⟩
   have ee:(mid:Int)+(m:Int) - (s:Int)=(e:Int):=by omega
   have hes:e+s=mid+m:=by omega
   have heb:e≤b:=by omega
   have hP:=sym_parts (show a < m by omega) (show m < b by omega) (show mid≤b by omega) HST.out HU1.out HU2.out (show a≤s by omega) (show s≤m by omega) (show s≤mid by omega) hes heb (by
    rcases hK.out.1 with k | k
    ·right; left; omega
    ·right; right; rw [he]; exact k) (by
    rcases hK.out.2 with k | k
    ·right; left; exact k
    ·right; right; rw [show e - 1=mid+m - 1 - s by omega]; exact k)
   have HP:=hid_of hP
   clear hP he hK
   by_cases aA:s < m
   ·have aD:decide ((s:Int) < (m:Int))=true:=decide_eq_true (by omega)
    by_cases aB:m < e
    ·have aE:decide ((m:Int) < (e:Int))=true:=decide_eq_true (by omega)
     go_wp2_with fail
     refine (rotate_z w0 g n cap s m e _ _ _ f _ _ HC.out (by first | rfl | omega) (by first | rfl | omega) (by first | rfl | omega) aA aB (by omega) hn).mono ?_
     rintro e1 w1 ⟨rfl,hG⟩
     have HG:=hid_of hG
     clear hG
     by_cases bA:a < s
     ·have bD:decide ((a:Int) < (s:Int))=true:=decide_eq_true (by omega)
      by_cases bB:s < mid
      ·have bE:decide ((s:Int) < (mid:Int))=true:=decide_eq_true (by omega)
       go_wp2_with fail
       refine (HIH.out a s mid (by omega) (by omega) (by omega) (by omega) (rot f s m e) _ _ _ _ (by first | rfl | omega) (by first | rfl | omega) (by first | rfl | omega) HG.out HP.out.2.2.2.2.1 HP.out.1 HP.out.2.1).mono ?_
       rintro e2 w2 ⟨rfl,k1,y1,y2,y3⟩
       have HK:Hid (CW w0 g n k1 w2∧Up k1 a mid∧Of (rot f s m e) k1 a mid):=⟨y1,y2,y3⟩
       clear y1 y2 y3
       have HR:Hid (Stb k1 mid b∧Up k1 mid e∧Up k1 e b):=⟨fun x y p1 p2 p3=>by rw [HK.out.2.2.2 x (by omega),HK.out.2.2.2 y (by omega)]; exact HP.out.2.2.2.2.2.1 x y p1 p2 p3,HP.out.2.2.1.congr (fun i p1 p2=>HK.out.2.2.2 i (by omega)),HP.out.2.2.2.1.congr (fun i p1 p2=>HK.out.2.2.2 i (by omega))⟩
       by_cases cA:mid < e
       ·have cD:decide ((mid:Int) < (e:Int))=true:=decide_eq_true (by omega)
        by_cases cB:e < b
        ·have cE:decide ((e:Int) < (b:Int))=true:=decide_eq_true (by omega)
         go_wp2_with fail
         refine (HIH.out mid e b (by omega) (by omega) (by omega) (by omega) k1 _ _ _ _ (by first | rfl | omega) (by first | rfl | omega) (by first | rfl | omega) HK.out.1 HR.out.1 HR.out.2.1 HR.out.2.2).mono ?_
         rintro e3 w3 ⟨rfl,k2,y1,y2,y3⟩
         have HZ:Hid (∃ f',CW w0 g n f' w3∧Up f' a b∧Of f f' a b):=⟨k2,y1,sym_done (by omega) (by omega) HP.out.2.2.2.2.2.2.1 HP.out.2.2.2.2.2.2.2 HK.out.2.2 HK.out.2.1 y3 y2⟩
         clear y1 y2 y3
         go_wp2_with fail
         go_end0
         exact⟨rfl,HZ.out⟩
        ·have cE:decide ((e:Int) < (b:Int))=false:=decide_eq_false (by omega)
         have HZ:Hid (∃ f',CW w0 g n f' w2∧Up f' a b∧Of f f' a b):=⟨k1,HK.out.1,sym_done (by omega) (by omega) HP.out.2.2.2.2.2.2.1 HP.out.2.2.2.2.2.2.2 HK.out.2.2 HK.out.2.1 (Of.refl _ _ _) (up_two HR.out.2.1 HR.out.2.2 (by omega))⟩
         go_wp2_with fail
         go_end0
         exact⟨rfl,HZ.out⟩
       ·have cD:decide ((mid:Int) < (e:Int))=false:=decide_eq_false (by omega)
        have HZ:Hid (∃ f',CW w0 g n f' w2∧Up f' a b∧Of f f' a b):=⟨k1,HK.out.1,sym_done (by omega) (by omega) HP.out.2.2.2.2.2.2.1 HP.out.2.2.2.2.2.2.2 HK.out.2.2 HK.out.2.1 (Of.refl _ _ _) (up_two HR.out.2.1 HR.out.2.2 (by omega))⟩
        go_wp2_with fail
        go_end0
        exact⟨rfl,HZ.out⟩
      ·have bE:decide ((s:Int) < (mid:Int))=false:=decide_eq_false (by omega)
       obtain⟨k1,HK⟩:∃ k1,Hid (CW w0 g n k1 w1∧Up k1 a mid∧Of (rot f s m e) k1 a mid):=⟨rot f s m e,HG.out,up_two HP.out.1 HP.out.2.1 (by omega),Of.refl _ _ _⟩
       have HR:Hid (Stb k1 mid b∧Up k1 mid e∧Up k1 e b):=⟨fun x y p1 p2 p3=>by rw [HK.out.2.2.2 x (by omega),HK.out.2.2.2 y (by omega)]; exact HP.out.2.2.2.2.2.1 x y p1 p2 p3,HP.out.2.2.1.congr (fun i p1 p2=>HK.out.2.2.2 i (by omega)),HP.out.2.2.2.1.congr (fun i p1 p2=>HK.out.2.2.2 i (by omega))⟩
       by_cases cA:mid < e
       ·have cD:decide ((mid:Int) < (e:Int))=true:=decide_eq_true (by omega)
        by_cases cB:e < b
        ·have cE:decide ((e:Int) < (b:Int))=true:=decide_eq_true (by omega)
         go_wp2_with fail
         refine (HIH.out mid e b (by omega) (by omega) (by omega) (by omega) k1 _ _ _ _ (by first | rfl | omega) (by first | rfl | omega) (by first | rfl | omega) HK.out.1 HR.out.1 HR.out.2.1 HR.out.2.2).mono ?_
         rintro e3 w3 ⟨rfl,k2,y1,y2,y3⟩
         have HZ:Hid (∃ f',CW w0 g n f' w3∧Up f' a b∧Of f f' a b):=⟨k2,y1,sym_done (by omega) (by omega) HP.out.2.2.2.2.2.2.1 HP.out.2.2.2.2.2.2.2 HK.out.2.2 HK.out.2.1 y3 y2⟩
         clear y1 y2 y3
         go_wp2_with fail
         go_end0
         exact⟨rfl,HZ.out⟩
        ·have cE:decide ((e:Int) < (b:Int))=false:=decide_eq_false (by omega)
         have HZ:Hid (∃ f',CW w0 g n f' w1∧Up f' a b∧Of f f' a b):=⟨k1,HK.out.1,sym_done (by omega) (by omega) HP.out.2.2.2.2.2.2.1 HP.out.2.2.2.2.2.2.2 HK.out.2.2 HK.out.2.1 (Of.refl _ _ _) (up_two HR.out.2.1 HR.out.2.2 (by omega))⟩
         go_wp2_with fail
         go_end0
         exact⟨rfl,HZ.out⟩
       ·have cD:decide ((mid:Int) < (e:Int))=false:=decide_eq_false (by omega)
        have HZ:Hid (∃ f',CW w0 g n f' w1∧Up f' a b∧Of f f' a b):=⟨k1,HK.out.1,sym_done (by omega) (by omega) HP.out.2.2.2.2.2.2.1 HP.out.2.2.2.2.2.2.2 HK.out.2.2 HK.out.2.1 (Of.refl _ _ _) (up_two HR.out.2.1 HR.out.2.2 (by omega))⟩
        go_wp2_with fail
        go_end0
        exact⟨rfl,HZ.out⟩
     ·have bD:decide ((a:Int) < (s:Int))=false:=decide_eq_false (by omega)
      obtain⟨k1,HK⟩:∃ k1,Hid (CW w0 g n k1 w1∧Up k1 a mid∧Of (rot f s m e) k1 a mid):=⟨rot f s m e,HG.out,up_two HP.out.1 HP.out.2.1 (by omega),Of.refl _ _ _⟩
      have HR:Hid (Stb k1 mid b∧Up k1 mid e∧Up k1 e b):=⟨fun x y p1 p2 p3=>by rw [HK.out.2.2.2 x (by omega),HK.out.2.2.2 y (by omega)]; exact HP.out.2.2.2.2.2.1 x y p1 p2 p3,HP.out.2.2.1.congr (fun i p1 p2=>HK.out.2.2.2 i (by omega)),HP.out.2.2.2.1.congr (fun i p1 p2=>HK.out.2.2.2 i (by omega))⟩
      by_cases cA:mid < e
      ·have cD:decide ((mid:Int) < (e:Int))=true:=decide_eq_true (by omega)
       by_cases cB:e < b
       ·have cE:decide ((e:Int) < (b:Int))=true:=decide_eq_true (by omega)
        go_wp2_with fail
        refine (HIH.out mid e b (by omega) (by omega) (by omega) (by omega) k1 _ _ _ _ (by first | rfl | omega) (by first | rfl | omega) (by first | rfl | omega) HK.out.1 HR.out.1 HR.out.2.1 HR.out.2.2).mono ?_
        rintro e3 w3 ⟨rfl,k2,y1,y2,y3⟩
        have HZ:Hid (∃ f',CW w0 g n f' w3∧Up f' a b∧Of f f' a b):=⟨k2,y1,sym_done (by omega) (by omega) HP.out.2.2.2.2.2.2.1 HP.out.2.2.2.2.2.2.2 HK.out.2.2 HK.out.2.1 y3 y2⟩
        clear y1 y2 y3
        go_wp2_with fail
        go_end0
        exact⟨rfl,HZ.out⟩
       ·have cE:decide ((e:Int) < (b:Int))=false:=decide_eq_false (by omega)
        have HZ:Hid (∃ f',CW w0 g n f' w1∧Up f' a b∧Of f f' a b):=⟨k1,HK.out.1,sym_done (by omega) (by omega) HP.out.2.2.2.2.2.2.1 HP.out.2.2.2.2.2.2.2 HK.out.2.2 HK.out.2.1 (Of.refl _ _ _) (up_two HR.out.2.1 HR.out.2.2 (by omega))⟩
        go_wp2_with fail
        go_end0
        exact⟨rfl,HZ.out⟩
      ·have cD:decide ((mid:Int) < (e:Int))=false:=decide_eq_false (by omega)
       have HZ:Hid (∃ f',CW w0 g n f' w1∧Up f' a b∧Of f f' a b):=⟨k1,HK.out.1,sym_done (by omega) (by omega) HP.out.2.2.2.2.2.2.1 HP.out.2.2.2.2.2.2.2 HK.out.2.2 HK.out.2.1 (Of.refl _ _ _) (up_two HR.out.2.1 HR.out.2.2 (by omega))⟩
       go_wp2_with fail
       go_end0
       exact⟨rfl,HZ.out⟩
    ·have aE:decide ((m:Int) < (e:Int))=false:=decide_eq_false (by omega)
     have HG:Hid (CW w0 g n (rot f s m e) wr):=HC.out.congr (fun x=>(rot_same f s m e x (by omega) (by omega) (by omega)).symm)
     by_cases bA:a < s
     ·have bD:decide ((a:Int) < (s:Int))=true:=decide_eq_true (by omega)
      by_cases bB:s < mid
      ·have bE:decide ((s:Int) < (mid:Int))=true:=decide_eq_true (by omega)
       go_wp2_with fail
       refine (HIH.out a s mid (by omega) (by omega) (by omega) (by omega) (rot f s m e) _ _ _ _ (by first | rfl | omega) (by first | rfl | omega) (by first | rfl | omega) HG.out HP.out.2.2.2.2.1 HP.out.1 HP.out.2.1).mono ?_
       rintro e2 w2 ⟨rfl,k1,y1,y2,y3⟩
       have HK:Hid (CW w0 g n k1 w2∧Up k1 a mid∧Of (rot f s m e) k1 a mid):=⟨y1,y2,y3⟩
       clear y1 y2 y3
       have HR:Hid (Stb k1 mid b∧Up k1 mid e∧Up k1 e b):=⟨fun x y p1 p2 p3=>by rw [HK.out.2.2.2 x (by omega),HK.out.2.2.2 y (by omega)]; exact HP.out.2.2.2.2.2.1 x y p1 p2 p3,HP.out.2.2.1.congr (fun i p1 p2=>HK.out.2.2.2 i (by omega)),HP.out.2.2.2.1.congr (fun i p1 p2=>HK.out.2.2.2 i (by omega))⟩
       by_cases cA:mid < e
       ·have cD:decide ((mid:Int) < (e:Int))=true:=decide_eq_true (by omega)
        by_cases cB:e < b
        ·have cE:decide ((e:Int) < (b:Int))=true:=decide_eq_true (by omega)
         go_wp2_with fail
         refine (HIH.out mid e b (by omega) (by omega) (by omega) (by omega) k1 _ _ _ _ (by first | rfl | omega) (by first | rfl | omega) (by first | rfl | omega) HK.out.1 HR.out.1 HR.out.2.1 HR.out.2.2).mono ?_
         rintro e3 w3 ⟨rfl,k2,y1,y2,y3⟩
         have HZ:Hid (∃ f',CW w0 g n f' w3∧Up f' a b∧Of f f' a b):=⟨k2,y1,sym_done (by omega) (by omega) HP.out.2.2.2.2.2.2.1 HP.out.2.2.2.2.2.2.2 HK.out.2.2 HK.out.2.1 y3 y2⟩
         clear y1 y2 y3
         go_wp2_with fail
         go_end0
         exact⟨rfl,HZ.out⟩
        ·have cE:decide ((e:Int) < (b:Int))=false:=decide_eq_false (by omega)
         have HZ:Hid (∃ f',CW w0 g n f' w2∧Up f' a b∧Of f f' a b):=⟨k1,HK.out.1,sym_done (by omega) (by omega) HP.out.2.2.2.2.2.2.1 HP.out.2.2.2.2.2.2.2 HK.out.2.2 HK.out.2.1 (Of.refl _ _ _) (up_two HR.out.2.1 HR.out.2.2 (by omega))⟩
         go_wp2_with fail
         go_end0
         exact⟨rfl,HZ.out⟩
       ·have cD:decide ((mid:Int) < (e:Int))=false:=decide_eq_false (by omega)
        have HZ:Hid (∃ f',CW w0 g n f' w2∧Up f' a b∧Of f f' a b):=⟨k1,HK.out.1,sym_done (by omega) (by omega) HP.out.2.2.2.2.2.2.1 HP.out.2.2.2.2.2.2.2 HK.out.2.2 HK.out.2.1 (Of.refl _ _ _) (up_two HR.out.2.1 HR.out.2.2 (by omega))⟩
        go_wp2_with fail
        go_end0
        exact⟨rfl,HZ.out⟩
      ·have bE:decide ((s:Int) < (mid:Int))=false:=decide_eq_false (by omega)
       obtain⟨k1,HK⟩:∃ k1,Hid (CW w0 g n k1 wr∧Up k1 a mid∧Of (rot f s m e) k1 a mid):=⟨rot f s m e,HG.out,up_two HP.out.1 HP.out.2.1 (by omega),Of.refl _ _ _⟩
       have HR:Hid (Stb k1 mid b∧Up k1 mid e∧Up k1 e b):=⟨fun x y p1 p2 p3=>by rw [HK.out.2.2.2 x (by omega),HK.out.2.2.2 y (by omega)]; exact HP.out.2.2.2.2.2.1 x y p1 p2 p3,HP.out.2.2.1.congr (fun i p1 p2=>HK.out.2.2.2 i (by omega)),HP.out.2.2.2.1.congr (fun i p1 p2=>HK.out.2.2.2 i (by omega))⟩
       by_cases cA:mid < e
       ·have cD:decide ((mid:Int) < (e:Int))=true:=decide_eq_true (by omega)
        by_cases cB:e < b
        ·have cE:decide ((e:Int) < (b:Int))=true:=decide_eq_true (by omega)
         go_wp2_with fail
         refine (HIH.out mid e b (by omega) (by omega) (by omega) (by omega) k1 _ _ _ _ (by first | rfl | omega) (by first | rfl | omega) (by first | rfl | omega) HK.out.1 HR.out.1 HR.out.2.1 HR.out.2.2).mono ?_
         rintro e3 w3 ⟨rfl,k2,y1,y2,y3⟩
         have HZ:Hid (∃ f',CW w0 g n f' w3∧Up f' a b∧Of f f' a b):=⟨k2,y1,sym_done (by omega) (by omega) HP.out.2.2.2.2.2.2.1 HP.out.2.2.2.2.2.2.2 HK.out.2.2 HK.out.2.1 y3 y2⟩
         clear y1 y2 y3
         go_wp2_with fail
         go_end0
         exact⟨rfl,HZ.out⟩
        ·have cE:decide ((e:Int) < (b:Int))=false:=decide_eq_false (by omega)
         have HZ:Hid (∃ f',CW w0 g n f' wr∧Up f' a b∧Of f f' a b):=⟨k1,HK.out.1,sym_done (by omega) (by omega) HP.out.2.2.2.2.2.2.1 HP.out.2.2.2.2.2.2.2 HK.out.2.2 HK.out.2.1 (Of.refl _ _ _) (up_two HR.out.2.1 HR.out.2.2 (by omega))⟩
         go_wp2_with fail
         go_end0
         exact⟨rfl,HZ.out⟩
       ·have cD:decide ((mid:Int) < (e:Int))=false:=decide_eq_false (by omega)
        have HZ:Hid (∃ f',CW w0 g n f' wr∧Up f' a b∧Of f f' a b):=⟨k1,HK.out.1,sym_done (by omega) (by omega) HP.out.2.2.2.2.2.2.1 HP.out.2.2.2.2.2.2.2 HK.out.2.2 HK.out.2.1 (Of.refl _ _ _) (up_two HR.out.2.1 HR.out.2.2 (by omega))⟩
        go_wp2_with fail
        go_end0
        exact⟨rfl,HZ.out⟩
     ·have bD:decide ((a:Int) < (s:Int))=false:=decide_eq_false (by omega)
      obtain⟨k1,HK⟩:∃ k1,Hid (CW w0 g n k1 wr∧Up k1 a mid∧Of (rot f s m e) k1 a mid):=⟨rot f s m e,HG.out,up_two HP.out.1 HP.out.2.1 (by omega),Of.refl _ _ _⟩
      have HR:Hid (Stb k1 mid b∧Up k1 mid e∧Up k1 e b):=⟨fun x y p1 p2 p3=>by rw [HK.out.2.2.2 x (by omega),HK.out.2.2.2 y (by omega)]; exact HP.out.2.2.2.2.2.1 x y p1 p2 p3,HP.out.2.2.1.congr (fun i p1 p2=>HK.out.2.2.2 i (by omega)),HP.out.2.2.2.1.congr (fun i p1 p2=>HK.out.2.2.2 i (by omega))⟩
      by_cases cA:mid < e
      ·have cD:decide ((mid:Int) < (e:Int))=true:=decide_eq_true (by omega)
       by_cases cB:e < b
       ·have cE:decide ((e:Int) < (b:Int))=true:=decide_eq_true (by omega)
        go_wp2_with fail
        refine (HIH.out mid e b (by omega) (by omega) (by omega) (by omega) k1 _ _ _ _ (by first | rfl | omega) (by first | rfl | omega) (by first | rfl | omega) HK.out.1 HR.out.1 HR.out.2.1 HR.out.2.2).mono ?_
        rintro e3 w3 ⟨rfl,k2,y1,y2,y3⟩
        have HZ:Hid (∃ f',CW w0 g n f' w3∧Up f' a b∧Of f f' a b):=⟨k2,y1,sym_done (by omega) (by omega) HP.out.2.2.2.2.2.2.1 HP.out.2.2.2.2.2.2.2 HK.out.2.2 HK.out.2.1 y3 y2⟩
        clear y1 y2 y3
        go_wp2_with fail
        go_end0
        exact⟨rfl,HZ.out⟩
       ·have cE:decide ((e:Int) < (b:Int))=false:=decide_eq_false (by omega)
        have HZ:Hid (∃ f',CW w0 g n f' wr∧Up f' a b∧Of f f' a b):=⟨k1,HK.out.1,sym_done (by omega) (by omega) HP.out.2.2.2.2.2.2.1 HP.out.2.2.2.2.2.2.2 HK.out.2.2 HK.out.2.1 (Of.refl _ _ _) (up_two HR.out.2.1 HR.out.2.2 (by omega))⟩
        go_wp2_with fail
        go_end0
        exact⟨rfl,HZ.out⟩
      ·have cD:decide ((mid:Int) < (e:Int))=false:=decide_eq_false (by omega)
       have HZ:Hid (∃ f',CW w0 g n f' wr∧Up f' a b∧Of f f' a b):=⟨k1,HK.out.1,sym_done (by omega) (by omega) HP.out.2.2.2.2.2.2.1 HP.out.2.2.2.2.2.2.2 HK.out.2.2 HK.out.2.1 (Of.refl _ _ _) (up_two HR.out.2.1 HR.out.2.2 (by omega))⟩
       go_wp2_with fail
       go_end0
       exact⟨rfl,HZ.out⟩
   ·have aD:decide ((s:Int) < (m:Int))=false:=decide_eq_false (by omega)
    have HG:Hid (CW w0 g n (rot f s m e) wr):=HC.out.congr (fun x=>(rot_same f s m e x (by omega) (by omega) (by omega)).symm)
    by_cases bA:a < s
    ·have bD:decide ((a:Int) < (s:Int))=true:=decide_eq_true (by omega)
     by_cases bB:s < mid
     ·have bE:decide ((s:Int) < (mid:Int))=true:=decide_eq_true (by omega)
      go_wp2_with fail
      refine (HIH.out a s mid (by omega) (by omega) (by omega) (by omega) (rot f s m e) _ _ _ _ (by first | rfl | omega) (by first | rfl | omega) (by first | rfl | omega) HG.out HP.out.2.2.2.2.1 HP.out.1 HP.out.2.1).mono ?_
      rintro e2 w2 ⟨rfl,k1,y1,y2,y3⟩
      have HK:Hid (CW w0 g n k1 w2∧Up k1 a mid∧Of (rot f s m e) k1 a mid):=⟨y1,y2,y3⟩
      clear y1 y2 y3
      have HR:Hid (Stb k1 mid b∧Up k1 mid e∧Up k1 e b):=⟨fun x y p1 p2 p3=>by rw [HK.out.2.2.2 x (by omega),HK.out.2.2.2 y (by omega)]; exact HP.out.2.2.2.2.2.1 x y p1 p2 p3,HP.out.2.2.1.congr (fun i p1 p2=>HK.out.2.2.2 i (by omega)),HP.out.2.2.2.1.congr (fun i p1 p2=>HK.out.2.2.2 i (by omega))⟩
      by_cases cA:mid < e
      ·have cD:decide ((mid:Int) < (e:Int))=true:=decide_eq_true (by omega)
       by_cases cB:e < b
       ·have cE:decide ((e:Int) < (b:Int))=true:=decide_eq_true (by omega)
        go_wp2_with fail
        refine (HIH.out mid e b (by omega) (by omega) (by omega) (by omega) k1 _ _ _ _ (by first | rfl | omega) (by first | rfl | omega) (by first | rfl | omega) HK.out.1 HR.out.1 HR.out.2.1 HR.out.2.2).mono ?_
        rintro e3 w3 ⟨rfl,k2,y1,y2,y3⟩
        have HZ:Hid (∃ f',CW w0 g n f' w3∧Up f' a b∧Of f f' a b):=⟨k2,y1,sym_done (by omega) (by omega) HP.out.2.2.2.2.2.2.1 HP.out.2.2.2.2.2.2.2 HK.out.2.2 HK.out.2.1 y3 y2⟩
        clear y1 y2 y3
        go_wp2_with fail
        go_end0
        exact⟨rfl,HZ.out⟩
       ·have cE:decide ((e:Int) < (b:Int))=false:=decide_eq_false (by omega)
        have HZ:Hid (∃ f',CW w0 g n f' w2∧Up f' a b∧Of f f' a b):=⟨k1,HK.out.1,sym_done (by omega) (by omega) HP.out.2.2.2.2.2.2.1 HP.out.2.2.2.2.2.2.2 HK.out.2.2 HK.out.2.1 (Of.refl _ _ _) (up_two HR.out.2.1 HR.out.2.2 (by omega))⟩
        go_wp2_with fail
        go_end0
        exact⟨rfl,HZ.out⟩
      ·have cD:decide ((mid:Int) < (e:Int))=false:=decide_eq_false (by omega)
       have HZ:Hid (∃ f',CW w0 g n f' w2∧Up f' a b∧Of f f' a b):=⟨k1,HK.out.1,sym_done (by omega) (by omega) HP.out.2.2.2.2.2.2.1 HP.out.2.2.2.2.2.2.2 HK.out.2.2 HK.out.2.1 (Of.refl _ _ _) (up_two HR.out.2.1 HR.out.2.2 (by omega))⟩
       go_wp2_with fail
       go_end0
       exact⟨rfl,HZ.out⟩
     ·have bE:decide ((s:Int) < (mid:Int))=false:=decide_eq_false (by omega)
      obtain⟨k1,HK⟩:∃ k1,Hid (CW w0 g n k1 wr∧Up k1 a mid∧Of (rot f s m e) k1 a mid):=⟨rot f s m e,HG.out,up_two HP.out.1 HP.out.2.1 (by omega),Of.refl _ _ _⟩
      have HR:Hid (Stb k1 mid b∧Up k1 mid e∧Up k1 e b):=⟨fun x y p1 p2 p3=>by rw [HK.out.2.2.2 x (by omega),HK.out.2.2.2 y (by omega)]; exact HP.out.2.2.2.2.2.1 x y p1 p2 p3,HP.out.2.2.1.congr (fun i p1 p2=>HK.out.2.2.2 i (by omega)),HP.out.2.2.2.1.congr (fun i p1 p2=>HK.out.2.2.2 i (by omega))⟩
      by_cases cA:mid < e
      ·have cD:decide ((mid:Int) < (e:Int))=true:=decide_eq_true (by omega)
       by_cases cB:e < b
       ·have cE:decide ((e:Int) < (b:Int))=true:=decide_eq_true (by omega)
        go_wp2_with fail
        refine (HIH.out mid e b (by omega) (by omega) (by omega) (by omega) k1 _ _ _ _ (by first | rfl | omega) (by first | rfl | omega) (by first | rfl | omega) HK.out.1 HR.out.1 HR.out.2.1 HR.out.2.2).mono ?_
        rintro e3 w3 ⟨rfl,k2,y1,y2,y3⟩
        have HZ:Hid (∃ f',CW w0 g n f' w3∧Up f' a b∧Of f f' a b):=⟨k2,y1,sym_done (by omega) (by omega) HP.out.2.2.2.2.2.2.1 HP.out.2.2.2.2.2.2.2 HK.out.2.2 HK.out.2.1 y3 y2⟩
        clear y1 y2 y3
        go_wp2_with fail
        go_end0
        exact⟨rfl,HZ.out⟩
       ·have cE:decide ((e:Int) < (b:Int))=false:=decide_eq_false (by omega)
        have HZ:Hid (∃ f',CW w0 g n f' wr∧Up f' a b∧Of f f' a b):=⟨k1,HK.out.1,sym_done (by omega) (by omega) HP.out.2.2.2.2.2.2.1 HP.out.2.2.2.2.2.2.2 HK.out.2.2 HK.out.2.1 (Of.refl _ _ _) (up_two HR.out.2.1 HR.out.2.2 (by omega))⟩
        go_wp2_with fail
        go_end0
        exact⟨rfl,HZ.out⟩
      ·have cD:decide ((mid:Int) < (e:Int))=false:=decide_eq_false (by omega)
       have HZ:Hid (∃ f',CW w0 g n f' wr∧Up f' a b∧Of f f' a b):=⟨k1,HK.out.1,sym_done (by omega) (by omega) HP.out.2.2.2.2.2.2.1 HP.out.2.2.2.2.2.2.2 HK.out.2.2 HK.out.2.1 (Of.refl _ _ _) (up_two HR.out.2.1 HR.out.2.2 (by omega))⟩
       go_wp2_with fail
       go_end0
       exact⟨rfl,HZ.out⟩
    ·have bD:decide ((a:Int) < (s:Int))=false:=decide_eq_false (by omega)
     obtain⟨k1,HK⟩:∃ k1,Hid (CW w0 g n k1 wr∧Up k1 a mid∧Of (rot f s m e) k1 a mid):=⟨rot f s m e,HG.out,up_two HP.out.1 HP.out.2.1 (by omega),Of.refl _ _ _⟩
     have HR:Hid (Stb k1 mid b∧Up k1 mid e∧Up k1 e b):=⟨fun x y p1 p2 p3=>by rw [HK.out.2.2.2 x (by omega),HK.out.2.2.2 y (by omega)]; exact HP.out.2.2.2.2.2.1 x y p1 p2 p3,HP.out.2.2.1.congr (fun i p1 p2=>HK.out.2.2.2 i (by omega)),HP.out.2.2.2.1.congr (fun i p1 p2=>HK.out.2.2.2 i (by omega))⟩
     by_cases cA:mid < e
     ·have cD:decide ((mid:Int) < (e:Int))=true:=decide_eq_true (by omega)
      by_cases cB:e < b
      ·have cE:decide ((e:Int) < (b:Int))=true:=decide_eq_true (by omega)
       go_wp2_with fail
       refine (HIH.out mid e b (by omega) (by omega) (by omega) (by omega) k1 _ _ _ _ (by first | rfl | omega) (by first | rfl | omega) (by first | rfl | omega) HK.out.1 HR.out.1 HR.out.2.1 HR.out.2.2).mono ?_
       rintro e3 w3 ⟨rfl,k2,y1,y2,y3⟩
       have HZ:Hid (∃ f',CW w0 g n f' w3∧Up f' a b∧Of f f' a b):=⟨k2,y1,sym_done (by omega) (by omega) HP.out.2.2.2.2.2.2.1 HP.out.2.2.2.2.2.2.2 HK.out.2.2 HK.out.2.1 y3 y2⟩
       clear y1 y2 y3
       go_wp2_with fail
       go_end0
       exact⟨rfl,HZ.out⟩
      ·have cE:decide ((e:Int) < (b:Int))=false:=decide_eq_false (by omega)
       have HZ:Hid (∃ f',CW w0 g n f' wr∧Up f' a b∧Of f f' a b):=⟨k1,HK.out.1,sym_done (by omega) (by omega) HP.out.2.2.2.2.2.2.1 HP.out.2.2.2.2.2.2.2 HK.out.2.2 HK.out.2.1 (Of.refl _ _ _) (up_two HR.out.2.1 HR.out.2.2 (by omega))⟩
       go_wp2_with fail
       go_end0
       exact⟨rfl,HZ.out⟩
     ·have cD:decide ((mid:Int) < (e:Int))=false:=decide_eq_false (by omega)
      have HZ:Hid (∃ f',CW w0 g n f' wr∧Up f' a b∧Of f f' a b):=⟨k1,HK.out.1,sym_done (by omega) (by omega) HP.out.2.2.2.2.2.2.1 HP.out.2.2.2.2.2.2.2 HK.out.2.2 HK.out.2.1 (Of.refl _ _ _) (up_two HR.out.2.1 HR.out.2.2 (by omega))⟩
      go_wp2_with fail
      go_end0
      exact⟨rfl,HZ.out⟩
end Go.Proofs.YtklpiihnbokkkaaGreatDoor
namespace Go.Proofs.YtklpiihnbokkkaaGreatDoor
open Go.RowKit Go.Joins Go.Sort SortMath
set_option maxHeartbeats 16000000 in
set_option maxRecDepth 100000 in
theorem sym_second (w0:World) (g n cap a m b mid:Nat) (f:Nat→Int) (w:World) (IH:∀ a' m' b',b' - a' < b - a→a' < m'→m' < b'→b'≤n→SymGoes w0 g n cap a' m' b') (hS:CW w0 g n f w) (hmid:mid=(a+b) / 2) (hmm:m≤mid) (ham:a+2≤m) (hmb:m+2≤b) (hb:b≤n) (hn:n≤288) (hst:Stb f a b) (hu1:Up f a m) (hu2:Up f m b):
  Calls Tryz.prog 226 #[.slice (some ⟨g,0,none⟩) n cap,.int .i64 a,.int .i64 m,.int .i64 b,.func (.func 210) #[] #[]] w fun e w'=>e=.returned (.tuple #[])∧∃ f',CW w0 g n f' w'∧Up f' a b∧Of f f' a b:=by
 have mixed:Tryz.prog.follows .mixedOrders=true:=by kernel_rfl
 have H0:=hid_of hS
 have HIH:=hid_of IH
 have HST:=hid_of hst
 have HU1:=hid_of hu1
 have HU2:=hid_of hu2
 clear hS hst hu1 hu2 IH
 have hq1:a < mid:=by omega
 have hq2:mid < b:=by omega
 have em:((a:Int)+(b:Int)) / 2=(mid:Int):=by omega
 have em1:((m:Int) - (a:Int) == 1)=false:=by simp; omega
 have em2:((b:Int) - (m:Int) == 1)=false:=by simp; omega
 have em3:decide ((mid:Int) < (m:Int))=false:=decide_eq_false (by omega)
 have em4:decide (mid < m)=false:=decide_eq_false (by omega)
 clear hmid
 go_enter Tryz.func226,Tryz.ntmps226
 go_wp2_with fail
 go_loopg [20,21] (n+1) (fun gk zs zr w'=>∃ s r:Nat,zs=.int .i64 s∧zr=.int .i64 r∧a≤s∧s≤r∧r≤m∧r - s≤gk∧Hid (SeekM f (mid+m) a m s r)∧Hid (CW w0 g n f w'))
 case atStart=>exact⟨a,m,rfl,rfl,Nat.le_refl _,by omega,Nat.le_refl _,by omega,⟨.inl rfl,.inl rfl⟩,H0⟩
 case round=>
  clear H0
  obtain⟨s,r,rfl,rfl,h1,h2,h3,h4,hK,HC⟩:=hrel
  by_cases hlt:s < r
  ·obtain⟨c,hc⟩:∃ c,c=(s+r) / 2:=⟨_,rfl⟩
   have hc1:s≤c∧c < r:=by omega
   have ec:((s:Int)+(r:Int)) / 2=(c:Int):=by omega
   clear hc
   obtain⟨d,hd⟩:∃ d,d=mid+m - 1 - c:=⟨_,rfl⟩
   have ed:(mid:Int)+(m:Int) - 1 - (c:Int)=(d:Int):=by omega
   have hd1:m≤d∧d < b:=by omega
   have c0:=fun n' os=>(HC.out.grown n' os).cell0 d (by omega)
   have c1:=fun n' os=>(HC.out.grown n' os).cell1 d (by omega)
   have c2:=fun n' os=>(HC.out.grown n' os).cell0 c (by omega)
   have c3:=fun n' os=>(HC.out.grown n' os).cell1 c (by omega)
   have hcb:=fun n' os=>byWeight_in (f d / 1024) (f c / 1024) (f d % 1024) (f c % 1024) wr n' os
   have k2:(c:Int) < (n:Int):=by omega
   have k3:(d:Int) < (n:Int):=by omega
   have k4:IntKind.i64.wrap (d:Int)=(d:Int):=by rw [IntKind.wrap_i64]; omega
   have HD:=hid_of hd
   clear hd
   by_cases hv:f d / 1024 < f c / 1024
   ·have HK1:Hid (SeekM f (mid+m) a m s c):=seekM_down hK.out (by rw [← HD.out]; exact hv)
    have hr2:=cmp_less hv
    have hr:=decide_eq_true hr2
    generalize cmpI (f d / 1024) (f c / 1024)=q at hcb hr hr2
    clear hv
    generalize f d / 1024=x0 at c0 hcb
    generalize f d % 1024=x1 at c1 hcb
    generalize f c / 1024=y0 at c2 hcb
    generalize f c % 1024=y1 at c3 hcb
    go_wp2_with fail
    go_quiet_grown (refine Calls.grown_of (hcb _ _))
    have HN:=hid_of (HC.out.grown nq osq)
    clear c0 c1 c2 c3 hcb ec ed
    generalize grow (wr.drewN nq) osq=w2 at HN
    go_wp2_with fail
    go_roundg (c - s)
    case measure=>omega
    case rel=>exact⟨s,c,rfl,rfl,h1,by omega,by omega,Nat.le_refl _,HK1,HN⟩
   ·have HK1:Hid (SeekM f (mid+m) a m (c+1) r):=seekM_up hK.out HST.out (show a≤c by omega) (show c < m by omega) (by have:=HD.out; omega) (by have:=HD.out; omega) (by rw [← HD.out]; exact hv)
    have hr2:=cmp_not hv
    have hr:=decide_eq_false hr2
    generalize cmpI (f d / 1024) (f c / 1024)=q at hcb hr hr2
    clear hv
    generalize f d / 1024=x0 at c0 hcb
    generalize f d % 1024=x1 at c1 hcb
    generalize f c / 1024=y0 at c2 hcb
    generalize f c % 1024=y1 at c3 hcb
    go_wp2_with fail
    go_quiet_grown (refine Calls.grown_of (hcb _ _))
    have HN:=hid_of (HC.out.grown nq osq)
    clear c0 c1 c2 c3 hcb ec ed
    generalize grow (wr.drewN nq) osq=w2 at HN
    go_wp2_with fail
    go_roundg (r - (c+1))
    case measure=>omega
    case rel=>exact⟨c+1,r,by first | rfl | go_num | (congr 1; omega),rfl,by omega,by omega,h3,Nat.le_refl _,HK1,HN⟩
  ·obtain rfl:s=r:=by omega
   obtain⟨e,he⟩:∃ e,e=mid+m - s:=⟨_,rfl⟩
   have ee:(mid:Int)+(m:Int) - (s:Int)=(e:Int):=by omega
   have hes:e+s=mid+m:=by omega
   have heb:e≤b:=by omega
   have hP:=sym_parts (show a < m by omega) (show m < b by omega) (show mid≤b by omega) HST.out HU1.out HU2.out (show a≤s by omega) (show s≤m by omega) (show s≤mid by omega) hes heb (by
    rcases hK.out.1 with k | k
    ·left; exact k
    ·right; right; rw [he]; exact k) (by
    rcases hK.out.2 with k | k
    ·left; exact k
    ·right; right; rw [show e - 1=mid+m - 1 - s by omega]; exact k)
   have HP:=hid_of hP
   clear hP he hK
   by_cases aA:s < m
   ·have aD:decide ((s:Int) < (m:Int))=true:=decide_eq_true (by omega)
    by_cases aB:m < e
    ·have aE:decide ((m:Int) < (e:Int))=true:=decide_eq_true (by omega)
     go_wp2_with fail
     refine (rotate_z w0 g n cap s m e _ _ _ f _ _ HC.out (by first | rfl | omega) (by first | rfl | omega) (by first | rfl | omega) aA aB (by omega) hn).mono ?_
     rintro e1 w1 ⟨rfl,hG⟩
     have HG:=hid_of hG
     clear hG
     by_cases bA:a < s
     ·have bD:decide ((a:Int) < (s:Int))=true:=decide_eq_true (by omega)
      by_cases bB:s < mid
      ·have bE:decide ((s:Int) < (mid:Int))=true:=decide_eq_true (by omega)
       go_wp2_with fail
       refine (HIH.out a s mid (by omega) (by omega) (by omega) (by omega) (rot f s m e) _ _ _ _ (by first | rfl | omega) (by first | rfl | omega) (by first | rfl | omega) HG.out HP.out.2.2.2.2.1 HP.out.1 HP.out.2.1).mono ?_
       rintro e2 w2 ⟨rfl,k1,y1,y2,y3⟩
       have HK:Hid (CW w0 g n k1 w2∧Up k1 a mid∧Of (rot f s m e) k1 a mid):=⟨y1,y2,y3⟩
       clear y1 y2 y3
       have HR:Hid (Stb k1 mid b∧Up k1 mid e∧Up k1 e b):=⟨fun x y p1 p2 p3=>by rw [HK.out.2.2.2 x (by omega),HK.out.2.2.2 y (by omega)]; exact HP.out.2.2.2.2.2.1 x y p1 p2 p3,HP.out.2.2.1.congr (fun i p1 p2=>HK.out.2.2.2 i (by omega)),HP.out.2.2.2.1.congr (fun i p1 p2=>HK.out.2.2.2 i (by omega))⟩
       by_cases cA:mid < e
       ·have cD:decide ((mid:Int) < (e:Int))=true:=decide_eq_true (by omega)
        by_cases cB:e < b
        ·have cE:decide ((e:Int) < (b:Int))=true:=decide_eq_true (by omega)
         go_wp2_with fail
         refine (HIH.out mid e b (by omega) (by omega) (by omega) (by omega) k1 _ _ _ _ (by first | rfl | omega) (by first | rfl | omega) (by first | rfl | omega) HK.out.1 HR.out.1 HR.out.2.1 HR.out.2.2).mono ?_
         rintro e3 w3 ⟨rfl,k2,y1,y2,y3⟩
         have HZ:Hid (∃ f',CW w0 g n f' w3∧Up f' a b∧Of f f' a b):=⟨k2,y1,sym_done (by omega) (by omega) HP.out.2.2.2.2.2.2.1 HP.out.2.2.2.2.2.2.2 HK.out.2.2 HK.out.2.1 y3 y2⟩
         clear y1 y2 y3
         go_wp2_with fail
         go_end0
         exact⟨rfl,HZ.out⟩
        ·have cE:decide ((e:Int) < (b:Int))=false:=decide_eq_false (by omega)
         have HZ:Hid (∃ f',CW w0 g n f' w2∧Up f' a b∧Of f f' a b):=⟨k1,HK.out.1,sym_done (by omega) (by omega) HP.out.2.2.2.2.2.2.1 HP.out.2.2.2.2.2.2.2 HK.out.2.2 HK.out.2.1 (Of.refl _ _ _) (up_two HR.out.2.1 HR.out.2.2 (by omega))⟩
         go_wp2_with fail
         go_end0
         exact⟨rfl,HZ.out⟩
       ·have cD:decide ((mid:Int) < (e:Int))=false:=decide_eq_false (by omega)
        have HZ:Hid (∃ f',CW w0 g n f' w2∧Up f' a b∧Of f f' a b):=⟨k1,HK.out.1,sym_done (by omega) (by omega) HP.out.2.2.2.2.2.2.1 HP.out.2.2.2.2.2.2.2 HK.out.2.2 HK.out.2.1 (Of.refl _ _ _) (up_two HR.out.2.1 HR.out.2.2 (by omega))⟩
        go_wp2_with fail
        go_end0
        exact⟨rfl,HZ.out⟩
      ·have bE:decide ((s:Int) < (mid:Int))=false:=decide_eq_false (by omega)
       obtain⟨k1,HK⟩:∃ k1,Hid (CW w0 g n k1 w1∧Up k1 a mid∧Of (rot f s m e) k1 a mid):=⟨rot f s m e,HG.out,up_two HP.out.1 HP.out.2.1 (by omega),Of.refl _ _ _⟩
       have HR:Hid (Stb k1 mid b∧Up k1 mid e∧Up k1 e b):=⟨fun x y p1 p2 p3=>by rw [HK.out.2.2.2 x (by omega),HK.out.2.2.2 y (by omega)]; exact HP.out.2.2.2.2.2.1 x y p1 p2 p3,HP.out.2.2.1.congr (fun i p1 p2=>HK.out.2.2.2 i (by omega)),HP.out.2.2.2.1.congr (fun i p1 p2=>HK.out.2.2.2 i (by omega))⟩
       by_cases cA:mid < e
       ·have cD:decide ((mid:Int) < (e:Int))=true:=decide_eq_true (by omega)
        by_cases cB:e < b
        ·have cE:decide ((e:Int) < (b:Int))=true:=decide_eq_true (by omega)
         go_wp2_with fail
         refine (HIH.out mid e b (by omega) (by omega) (by omega) (by omega) k1 _ _ _ _ (by first | rfl | omega) (by first | rfl | omega) (by first | rfl | omega) HK.out.1 HR.out.1 HR.out.2.1 HR.out.2.2).mono ?_
         rintro e3 w3 ⟨rfl,k2,y1,y2,y3⟩
         have HZ:Hid (∃ f',CW w0 g n f' w3∧Up f' a b∧Of f f' a b):=⟨k2,y1,sym_done (by omega) (by omega) HP.out.2.2.2.2.2.2.1 HP.out.2.2.2.2.2.2.2 HK.out.2.2 HK.out.2.1 y3 y2⟩
         clear y1 y2 y3
         go_wp2_with fail
         go_end0
         exact⟨rfl,HZ.out⟩
        ·have cE:decide ((e:Int) < (b:Int))=false:=decide_eq_false (by omega)
         have HZ:Hid (∃ f',CW w0 g n f' w1∧Up f' a b∧Of f f' a b):=⟨k1,HK.out.1,sym_done (by omega) (by omega) HP.out.2.2.2.2.2.2.1 HP.out.2.2.2.2.2.2.2 HK.out.2.2 HK.out.2.1 (Of.refl _ _ _) (up_two HR.out.2.1 HR.out.2.2 (by omega))⟩
         go_wp2_with fail
         go_end0
         exact⟨rfl,HZ.out⟩
       ·have cD:decide ((mid:Int) < (e:Int))=false:=decide_eq_false (by omega)
        have HZ:Hid (∃ f',CW w0 g n f' w1∧Up f' a b∧Of f f' a b):=⟨k1,HK.out.1,sym_done (by omega) (by omega) HP.out.2.2.2.2.2.2.1 HP.out.2.2.2.2.2.2.2 HK.out.2.2 HK.out.2.1 (Of.refl _ _ _) (up_two HR.out.2.1 HR.out.2.2 (by omega))⟩
        go_wp2_with fail
        go_end0
        exact⟨rfl,HZ.out⟩
     ·have bD:decide ((a:Int) < (s:Int))=false:=decide_eq_false (by omega)
      obtain⟨k1,HK⟩:∃ k1,Hid (CW w0 g n k1 w1∧Up k1 a mid∧Of (rot f s m e) k1 a mid):=⟨rot f s m e,HG.out,up_two HP.out.1 HP.out.2.1 (by omega),Of.refl _ _ _⟩
      have HR:Hid (Stb k1 mid b∧Up k1 mid e∧Up k1 e b):=⟨fun x y p1 p2 p3=>by rw [HK.out.2.2.2 x (by omega),HK.out.2.2.2 y (by omega)]; exact HP.out.2.2.2.2.2.1 x y p1 p2 p3,HP.out.2.2.1.congr (fun i p1 p2=>HK.out.2.2.2 i (by omega)),HP.out.2.2.2.1.congr (fun i p1 p2=>HK.out.2.2.2 i (by omega))⟩
      by_cases cA:mid < e
      ·have cD:decide ((mid:Int) < (e:Int))=true:=decide_eq_true (by omega)
       by_cases cB:e < b
       ·have cE:decide ((e:Int) < (b:Int))=true:=decide_eq_true (by omega)
        go_wp2_with fail
        refine (HIH.out mid e b (by omega) (by omega) (by omega) (by omega) k1 _ _ _ _ (by first | rfl | omega) (by first | rfl | omega) (by first | rfl | omega) HK.out.1 HR.out.1 HR.out.2.1 HR.out.2.2).mono ?_
        rintro e3 w3 ⟨rfl,k2,y1,y2,y3⟩
        have HZ:Hid (∃ f',CW w0 g n f' w3∧Up f' a b∧Of f f' a b):=⟨k2,y1,sym_done (by omega) (by omega) HP.out.2.2.2.2.2.2.1 HP.out.2.2.2.2.2.2.2 HK.out.2.2 HK.out.2.1 y3 y2⟩
        clear y1 y2 y3
        go_wp2_with fail
        go_end0
        exact⟨rfl,HZ.out⟩
       ·have cE:decide ((e:Int) < (b:Int))=false:=decide_eq_false (by omega)
        have HZ:Hid (∃ f',CW w0 g n f' w1∧Up f' a b∧Of f f' a b):=⟨k1,HK.out.1,sym_done (by omega) (by omega) HP.out.2.2.2.2.2.2.1 HP.out.2.2.2.2.2.2.2 HK.out.2.2 HK.out.2.1 (Of.refl _ _ _) (up_two HR.out.2.1 HR.out.2.2 (by omega))⟩
        go_wp2_with fail
        go_end0
        exact⟨rfl,HZ.out⟩
      ·have cD:decide ((mid:Int) < (e:Int))=false:=decide_eq_false (by omega)
       have HZ:Hid (∃ f',CW w0 g n f' w1∧Up f' a b∧Of f f' a b):=⟨k1,HK.out.1,sym_done (by omega) (by omega) HP.out.2.2.2.2.2.2.1 HP.out.2.2.2.2.2.2.2 HK.out.2.2 HK.out.2.1 (Of.refl _ _ _) (up_two HR.out.2.1 HR.out.2.2 (by omega))⟩
       go_wp2_with fail
       go_end0
       exact⟨rfl,HZ.out⟩
    ·have aE:decide ((m:Int) < (e:Int))=false:=decide_eq_false (by omega)
     have HG:Hid (CW w0 g n (rot f s m e) wr):=HC.out.congr (fun x=>(rot_same f s m e x (by omega) (by omega) (by omega)).symm)
     by_cases bA:a < s
     ·have bD:decide ((a:Int) < (s:Int))=true:=decide_eq_true (by omega)
      by_cases bB:s < mid
      ·have bE:decide ((s:Int) < (mid:Int))=true:=decide_eq_true (by omega)
       go_wp2_with fail
       refine (HIH.out a s mid (by omega) (by omega) (by omega) (by omega) (rot f s m e) _ _ _ _ (by first | rfl | omega) (by first | rfl | omega) (by first | rfl | omega) HG.out HP.out.2.2.2.2.1 HP.out.1 HP.out.2.1).mono ?_
       rintro e2 w2 ⟨rfl,k1,y1,y2,y3⟩
       have HK:Hid (CW w0 g n k1 w2∧Up k1 a mid∧Of (rot f s m e) k1 a mid):=⟨y1,y2,y3⟩
       clear y1 y2 y3
       have HR:Hid (Stb k1 mid b∧Up k1 mid e∧Up k1 e b):=⟨fun x y p1 p2 p3=>by rw [HK.out.2.2.2 x (by omega),HK.out.2.2.2 y (by omega)]; exact HP.out.2.2.2.2.2.1 x y p1 p2 p3,HP.out.2.2.1.congr (fun i p1 p2=>HK.out.2.2.2 i (by omega)),HP.out.2.2.2.1.congr (fun i p1 p2=>HK.out.2.2.2 i (by omega))⟩
       by_cases cA:mid < e
       ·have cD:decide ((mid:Int) < (e:Int))=true:=decide_eq_true (by omega)
        by_cases cB:e < b
        ·have cE:decide ((e:Int) < (b:Int))=true:=decide_eq_true (by omega)
         go_wp2_with fail
         refine (HIH.out mid e b (by omega) (by omega) (by omega) (by omega) k1 _ _ _ _ (by first | rfl | omega) (by first | rfl | omega) (by first | rfl | omega) HK.out.1 HR.out.1 HR.out.2.1 HR.out.2.2).mono ?_
         rintro e3 w3 ⟨rfl,k2,y1,y2,y3⟩
         have HZ:Hid (∃ f',CW w0 g n f' w3∧Up f' a b∧Of f f' a b):=⟨k2,y1,sym_done (by omega) (by omega) HP.out.2.2.2.2.2.2.1 HP.out.2.2.2.2.2.2.2 HK.out.2.2 HK.out.2.1 y3 y2⟩
         clear y1 y2 y3
         go_wp2_with fail
         go_end0
         exact⟨rfl,HZ.out⟩
        ·have cE:decide ((e:Int) < (b:Int))=false:=decide_eq_false (by omega)
         have HZ:Hid (∃ f',CW w0 g n f' w2∧Up f' a b∧Of f f' a b):=⟨k1,HK.out.1,sym_done (by omega) (by omega) HP.out.2.2.2.2.2.2.1 HP.out.2.2.2.2.2.2.2 HK.out.2.2 HK.out.2.1 (Of.refl _ _ _) (up_two HR.out.2.1 HR.out.2.2 (by omega))⟩
         go_wp2_with fail
         go_end0
         exact⟨rfl,HZ.out⟩
       ·have cD:decide ((mid:Int) < (e:Int))=false:=decide_eq_false (by omega)
        have HZ:Hid (∃ f',CW w0 g n f' w2∧Up f' a b∧Of f f' a b):=⟨k1,HK.out.1,sym_done (by omega) (by omega) HP.out.2.2.2.2.2.2.1 HP.out.2.2.2.2.2.2.2 HK.out.2.2 HK.out.2.1 (Of.refl _ _ _) (up_two HR.out.2.1 HR.out.2.2 (by omega))⟩
        go_wp2_with fail
        go_end0
        exact⟨rfl,HZ.out⟩
      ·have bE:decide ((s:Int) < (mid:Int))=false:=decide_eq_false (by omega)
       obtain⟨k1,HK⟩:∃ k1,Hid (CW w0 g n k1 wr∧Up k1 a mid∧Of (rot f s m e) k1 a mid):=⟨rot f s m e,HG.out,up_two HP.out.1 HP.out.2.1 (by omega),Of.refl _ _ _⟩
       have HR:Hid (Stb k1 mid b∧Up k1 mid e∧Up k1 e b):=⟨fun x y p1 p2 p3=>by rw [HK.out.2.2.2 x (by omega),HK.out.2.2.2 y (by omega)]; exact HP.out.2.2.2.2.2.1 x y p1 p2 p3,HP.out.2.2.1.congr (fun i p1 p2=>HK.out.2.2.2 i (by omega)),HP.out.2.2.2.1.congr (fun i p1 p2=>HK.out.2.2.2 i (by omega))⟩
       by_cases cA:mid < e
       ·have cD:decide ((mid:Int) < (e:Int))=true:=decide_eq_true (by omega)
        by_cases cB:e < b
        ·have cE:decide ((e:Int) < (b:Int))=true:=decide_eq_true (by omega)
         go_wp2_with fail
         refine (HIH.out mid e b (by omega) (by omega) (by omega) (by omega) k1 _ _ _ _ (by first | rfl | omega) (by first | rfl | omega) (by first | rfl | omega) HK.out.1 HR.out.1 HR.out.2.1 HR.out.2.2).mono ?_
         rintro e3 w3 ⟨rfl,k2,y1,y2,y3⟩
         have HZ:Hid (∃ f',CW w0 g n f' w3∧Up f' a b∧Of f f' a b):=⟨k2,y1,sym_done (by omega) (by omega) HP.out.2.2.2.2.2.2.1 HP.out.2.2.2.2.2.2.2 HK.out.2.2 HK.out.2.1 y3 y2⟩
         clear y1 y2 y3
         go_wp2_with fail
         go_end0
         exact⟨rfl,HZ.out⟩
        ·have cE:decide ((e:Int) < (b:Int))=false:=decide_eq_false (by omega)
         have HZ:Hid (∃ f',CW w0 g n f' wr∧Up f' a b∧Of f f' a b):=⟨k1,HK.out.1,sym_done (by omega) (by omega) HP.out.2.2.2.2.2.2.1 HP.out.2.2.2.2.2.2.2 HK.out.2.2 HK.out.2.1 (Of.refl _ _ _) (up_two HR.out.2.1 HR.out.2.2 (by omega))⟩
         go_wp2_with fail
         go_end0
         exact⟨rfl,HZ.out⟩
       ·have cD:decide ((mid:Int) < (e:Int))=false:=decide_eq_false (by omega)
        have HZ:Hid (∃ f',CW w0 g n f' wr∧Up f' a b∧Of f f' a b):=⟨k1,HK.out.1,sym_done (by omega) (by omega) HP.out.2.2.2.2.2.2.1 HP.out.2.2.2.2.2.2.2 HK.out.2.2 HK.out.2.1 (Of.refl _ _ _) (up_two HR.out.2.1 HR.out.2.2 (by omega))⟩
        go_wp2_with fail
        go_end0
        exact⟨rfl,HZ.out⟩
     ·have bD:decide ((a:Int) < (s:Int))=false:=decide_eq_false (by omega)
      obtain⟨k1,HK⟩:∃ k1,Hid (CW w0 g n k1 wr∧Up k1 a mid∧Of (rot f s m e) k1 a mid):=⟨rot f s m e,HG.out,up_two HP.out.1 HP.out.2.1 (by omega),Of.refl _ _ _⟩
      have HR:Hid (Stb k1 mid b∧Up k1 mid e∧Up k1 e b):=⟨fun x y p1 p2 p3=>by rw [HK.out.2.2.2 x (by omega),HK.out.2.2.2 y (by omega)]; exact HP.out.2.2.2.2.2.1 x y p1 p2 p3,HP.out.2.2.1.congr (fun i p1 p2=>HK.out.2.2.2 i (by omega)),HP.out.2.2.2.1.congr (fun i p1 p2=>HK.out.2.2.2 i (by omega))⟩
      by_cases cA:mid < e
      ·have cD:decide ((mid:Int) < (e:Int))=true:=decide_eq_true (by omega)
       by_cases cB:e < b
       ·have cE:decide ((e:Int) < (b:Int))=true:=decide_eq_true (by omega)
        go_wp2_with fail
        refine (HIH.out mid e b (by omega) (by omega) (by omega) (by omega) k1 _ _ _ _ (by first | rfl | omega) (by first | rfl | omega) (by first | rfl | omega) HK.out.1 HR.out.1 HR.out.2.1 HR.out.2.2).mono ?_
        rintro e3 w3 ⟨rfl,k2,y1,y2,y3⟩
        have HZ:Hid (∃ f',CW w0 g n f' w3∧Up f' a b∧Of f f' a b):=⟨k2,y1,sym_done (by omega) (by omega) HP.out.2.2.2.2.2.2.1 HP.out.2.2.2.2.2.2.2 HK.out.2.2 HK.out.2.1 y3 y2⟩
        clear y1 y2 y3
        go_wp2_with fail
        go_end0
        exact⟨rfl,HZ.out⟩
       ·have cE:decide ((e:Int) < (b:Int))=false:=decide_eq_false (by omega)
        have HZ:Hid (∃ f',CW w0 g n f' wr∧Up f' a b∧Of f f' a b):=⟨k1,HK.out.1,sym_done (by omega) (by omega) HP.out.2.2.2.2.2.2.1 HP.out.2.2.2.2.2.2.2 HK.out.2.2 HK.out.2.1 (Of.refl _ _ _) (up_two HR.out.2.1 HR.out.2.2 (by omega))⟩
        go_wp2_with fail
        go_end0
        exact⟨rfl,HZ.out⟩
      ·have cD:decide ((mid:Int) < (e:Int))=false:=decide_eq_false (by omega)
       have HZ:Hid (∃ f',CW w0 g n f' wr∧Up f' a b∧Of f f' a b):=⟨k1,HK.out.1,sym_done (by omega) (by omega) HP.out.2.2.2.2.2.2.1 HP.out.2.2.2.2.2.2.2 HK.out.2.2 HK.out.2.1 (Of.refl _ _ _) (up_two HR.out.2.1 HR.out.2.2 (by omega))⟩
       go_wp2_with fail
       go_end0
       exact⟨rfl,HZ.out⟩
   ·have aD:decide ((s:Int) < (m:Int))=false:=decide_eq_false (by omega)
    have HG:Hid (CW w0 g n (rot f s m e) wr):=HC.out.congr (fun x=>(rot_same f s m e x (by omega) (by omega) (by omega)).symm)
    by_cases bA:a < s
    ·have bD:decide ((a:Int) < (s:Int))=true:=decide_eq_true (by omega)
     by_cases bB:s < mid
     ·have bE:decide ((s:Int) < (mid:Int))=true:=decide_eq_true (by omega)
      go_wp2_with fail
      refine (HIH.out a s mid (by omega) (by omega) (by omega) (by omega) (rot f s m e) _ _ _ _ (by first | rfl | omega) (by first | rfl | omega) (by first | rfl | omega) HG.out HP.out.2.2.2.2.1 HP.out.1 HP.out.2.1).mono ?_
      rintro e2 w2 ⟨rfl,k1,y1,y2,y3⟩
      have HK:Hid (CW w0 g n k1 w2∧Up k1 a mid∧Of (rot f s m e) k1 a mid):=⟨y1,y2,y3⟩
      clear y1 y2 y3
      have HR:Hid (Stb k1 mid b∧Up k1 mid e∧Up k1 e b):=⟨fun x y p1 p2 p3=>by rw [HK.out.2.2.2 x (by omega),HK.out.2.2.2 y (by omega)]; exact HP.out.2.2.2.2.2.1 x y p1 p2 p3,HP.out.2.2.1.congr (fun i p1 p2=>HK.out.2.2.2 i (by omega)),HP.out.2.2.2.1.congr (fun i p1 p2=>HK.out.2.2.2 i (by omega))⟩
      by_cases cA:mid < e
      ·have cD:decide ((mid:Int) < (e:Int))=true:=decide_eq_true (by omega)
       by_cases cB:e < b
       ·have cE:decide ((e:Int) < (b:Int))=true:=decide_eq_true (by omega)
        go_wp2_with fail
        refine (HIH.out mid e b (by omega) (by omega) (by omega) (by omega) k1 _ _ _ _ (by first | rfl | omega) (by first | rfl | omega) (by first | rfl | omega) HK.out.1 HR.out.1 HR.out.2.1 HR.out.2.2).mono ?_
        rintro e3 w3 ⟨rfl,k2,y1,y2,y3⟩
        have HZ:Hid (∃ f',CW w0 g n f' w3∧Up f' a b∧Of f f' a b):=⟨k2,y1,sym_done (by omega) (by omega) HP.out.2.2.2.2.2.2.1 HP.out.2.2.2.2.2.2.2 HK.out.2.2 HK.out.2.1 y3 y2⟩
        clear y1 y2 y3
        go_wp2_with fail
        go_end0
        exact⟨rfl,HZ.out⟩
       ·have cE:decide ((e:Int) < (b:Int))=false:=decide_eq_false (by omega)
        have HZ:Hid (∃ f',CW w0 g n f' w2∧Up f' a b∧Of f f' a b):=⟨k1,HK.out.1,sym_done (by omega) (by omega) HP.out.2.2.2.2.2.2.1 HP.out.2.2.2.2.2.2.2 HK.out.2.2 HK.out.2.1 (Of.refl _ _ _) (up_two HR.out.2.1 HR.out.2.2 (by omega))⟩
        go_wp2_with fail
        go_end0
        exact⟨rfl,HZ.out⟩
      ·have cD:decide ((mid:Int) < (e:Int))=false:=decide_eq_false (by omega)
       have HZ:Hid (∃ f',CW w0 g n f' w2∧Up f' a b∧Of f f' a b):=⟨k1,HK.out.1,sym_done (by omega) (by omega) HP.out.2.2.2.2.2.2.1 HP.out.2.2.2.2.2.2.2 HK.out.2.2 HK.out.2.1 (Of.refl _ _ _) (up_two HR.out.2.1 HR.out.2.2 (by omega))⟩
       go_wp2_with fail
       go_end0
       exact⟨rfl,HZ.out⟩
     ·have bE:decide ((s:Int) < (mid:Int))=false:=decide_eq_false (by omega)
      obtain⟨k1,HK⟩:∃ k1,Hid (CW w0 g n k1 wr∧Up k1 a mid∧Of (rot f s m e) k1 a mid):=⟨rot f s m e,HG.out,up_two HP.out.1 HP.out.2.1 (by omega),Of.refl _ _ _⟩
      have HR:Hid (Stb k1 mid b∧Up k1 mid e∧Up k1 e b):=⟨fun x y p1 p2 p3=>by rw [HK.out.2.2.2 x (by omega),HK.out.2.2.2 y (by omega)]; exact HP.out.2.2.2.2.2.1 x y p1 p2 p3,HP.out.2.2.1.congr (fun i p1 p2=>HK.out.2.2.2 i (by omega)),HP.out.2.2.2.1.congr (fun i p1 p2=>HK.out.2.2.2 i (by omega))⟩
      by_cases cA:mid < e
      ·have cD:decide ((mid:Int) < (e:Int))=true:=decide_eq_true (by omega)
       by_cases cB:e < b
       ·have cE:decide ((e:Int) < (b:Int))=true:=decide_eq_true (by omega)
        go_wp2_with fail
        refine (HIH.out mid e b (by omega) (by omega) (by omega) (by omega) k1 _ _ _ _ (by first | rfl | omega) (by first | rfl | omega) (by first | rfl | omega) HK.out.1 HR.out.1 HR.out.2.1 HR.out.2.2).mono ?_
        rintro e3 w3 ⟨rfl,k2,y1,y2,y3⟩
        have HZ:Hid (∃ f',CW w0 g n f' w3∧Up f' a b∧Of f f' a b):=⟨k2,y1,sym_done (by omega) (by omega) HP.out.2.2.2.2.2.2.1 HP.out.2.2.2.2.2.2.2 HK.out.2.2 HK.out.2.1 y3 y2⟩
        clear y1 y2 y3
        go_wp2_with fail
        go_end0
        exact⟨rfl,HZ.out⟩
       ·have cE:decide ((e:Int) < (b:Int))=false:=decide_eq_false (by omega)
        have HZ:Hid (∃ f',CW w0 g n f' wr∧Up f' a b∧Of f f' a b):=⟨k1,HK.out.1,sym_done (by omega) (by omega) HP.out.2.2.2.2.2.2.1 HP.out.2.2.2.2.2.2.2 HK.out.2.2 HK.out.2.1 (Of.refl _ _ _) (up_two HR.out.2.1 HR.out.2.2 (by omega))⟩
        go_wp2_with fail
        go_end0
        exact⟨rfl,HZ.out⟩
      ·have cD:decide ((mid:Int) < (e:Int))=false:=decide_eq_false (by omega)
       have HZ:Hid (∃ f',CW w0 g n f' wr∧Up f' a b∧Of f f' a b):=⟨k1,HK.out.1,sym_done (by omega) (by omega) HP.out.2.2.2.2.2.2.1 HP.out.2.2.2.2.2.2.2 HK.out.2.2 HK.out.2.1 (Of.refl _ _ _) (up_two HR.out.2.1 HR.out.2.2 (by omega))⟩
       go_wp2_with fail
       go_end0
       exact⟨rfl,HZ.out⟩
    ·have bD:decide ((a:Int) < (s:Int))=false:=decide_eq_false (by omega)
     obtain⟨k1,HK⟩:∃ k1,Hid (CW w0 g n k1 wr∧Up k1 a mid∧Of (rot f s m e) k1 a mid):=⟨rot f s m e,HG.out,up_two HP.out.1 HP.out.2.1 (by omega),Of.refl _ _ _⟩
     have HR:Hid (Stb k1 mid b∧Up k1 mid e∧Up k1 e b):=⟨fun x y p1 p2 p3=>by rw [HK.out.2.2.2 x (by omega),HK.out.2.2.2 y (by omega)]; exact HP.out.2.2.2.2.2.1 x y p1 p2 p3,HP.out.2.2.1.congr (fun i p1 p2=>HK.out.2.2.2 i (by omega)),HP.out.2.2.2.1.congr (fun i p1 p2=>HK.out.2.2.2 i (by omega))⟩
     by_cases cA:mid < e
     ·have cD:decide ((mid:Int) < (e:Int))=true:=decide_eq_true (by omega)
      by_cases cB:e < b
      ·have cE:decide ((e:Int) < (b:Int))=true:=decide_eq_true (by omega)
       go_wp2_with fail
       refine (HIH.out mid e b (by omega) (by omega) (by omega) (by omega) k1 _ _ _ _ (by first | rfl | omega) (by first | rfl | omega) (by first | rfl | omega) HK.out.1 HR.out.1 HR.out.2.1 HR.out.2.2).mono ?_
       rintro e3 w3 ⟨rfl,k2,y1,y2,y3⟩
       have HZ:Hid (∃ f',CW w0 g n f' w3∧Up f' a b∧Of f f' a b):=⟨k2,y1,sym_done (by omega) (by omega) HP.out.2.2.2.2.2.2.1 HP.out.2.2.2.2.2.2.2 HK.out.2.2 HK.out.2.1 y3 y2⟩
       clear y1 y2 y3
       go_wp2_with fail
       go_end0
       exact⟨rfl,HZ.out⟩
      ·have cE:decide ((e:Int) < (b:Int))=false:=decide_eq_false (by omega)
       have HZ:Hid (∃ f',CW w0 g n f' wr∧Up f' a b∧Of f f' a b):=⟨k1,HK.out.1,sym_done (by omega) (by omega) HP.out.2.2.2.2.2.2.1 HP.out.2.2.2.2.2.2.2 HK.out.2.2 HK.out.2.1 (Of.refl _ _ _) (up_two HR.out.2.1 HR.out.2.2 (by omega))⟩
       go_wp2_with fail
       go_end0
       exact⟨rfl,HZ.out⟩
     ·have cD:decide ((mid:Int) < (e:Int))=false:=decide_eq_false (by omega)
      have HZ:Hid (∃ f',CW w0 g n f' wr∧Up f' a b∧Of f f' a b):=⟨k1,HK.out.1,sym_done (by omega) (by omega) HP.out.2.2.2.2.2.2.1 HP.out.2.2.2.2.2.2.2 HK.out.2.2 HK.out.2.1 (Of.refl _ _ _) (up_two HR.out.2.1 HR.out.2.2 (by omega))⟩
      go_wp2_with fail
      go_end0
      exact⟨rfl,HZ.out⟩
end Go.Proofs.YtklpiihnbokkkaaGreatDoor
