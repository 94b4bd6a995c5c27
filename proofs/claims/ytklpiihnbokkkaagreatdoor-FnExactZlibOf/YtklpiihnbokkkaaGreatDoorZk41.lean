/-
  Texts of the proof, put together.
-/
import Derived.Test.YtklpiihnbokkkaaGreatDoorZk38
namespace Go.Proofs.YtklpiihnbokkkaaGreatDoor
open Go.RowKit Go.Joins OutMath PutMath BlockMath PartMath
def plc (n:Nat) (hi:Bool) (j:Nat):Nat:=if hi=true then n - 1 - j else j
theorem puts_piece (ys:List Int) (q:Nat) (x:Int) (n:Nat) (hi:Bool):puts ys q (fun j=>bitOf x (plc n hi j)) n=putB ys q (bitsP (x,n,hi)):=by
 unfold putB
 rw[bitsP_length]
 exact puts_congr n fun i h=>(pieceBits_getD x n hi h).symm
def AlSt (w w':World) (g L cap:Nat) (ys:List Int):Prop:=Own 5 w' w.heap.size g (.slice (some ⟨g,0,none⟩) L cap) (u8s ys)∧Below w.heap.size w w'
theorem AlSt.len {w w':World} {g L cap:Nat} {ys:List Int} (h:AlSt w w' g L cap ys):L=ys.length:=by
 obtain⟨cp,hv⟩:=h.1.form
 simp[u8s] at hv
 exact hv.1
theorem al_grow {w wr w1:World} {g g1 m cp k:Nat} {zs:List Int} {v1:Value} {y:Int} {o:Obj} (hS:AlSt w wr g m cp zs) (hI:Inv zs k) (hE:k / 8=m) (hPR:u8s zs ++ [.int .u8 0]=u8s (pre zs k)) (hY:y=(pre zs k).getD m 0) (hO1:Own 5 w1 w.heap.size g1 v1 (u8s zs ++ [.int .u8 0])) (hgr:(wr.alloc o).grownBy w1 (some g)):
  ∃ cap1,v1=.slice (some ⟨g1,0,none⟩) (m+1) cap1∧Hid (Own 5 w1 w.heap.size g1 (.slice (some ⟨g1,0,none⟩) (m+1) cap1) (u8s (pre zs k)))∧Hid (Below w.heap.size w w1)∧w.heap.size≤g1∧w1.cell? ⟨g1,m,none⟩=some (.int .u8 y)∧w1.frozen? ⟨g1,m,none⟩=false:=by
 rw[hPR] at hO1
 have hbl:=hS.1.base_le
 have hB1:Below w.heap.size w w1:=(hS.2.alloc hS.2.size _).grown hgr (by have:=hS.2.size; simp; omega) (fun k hk=>by cases hk; exact hbl)
 obtain⟨cap1,hv1⟩:=hO1.form
 have hpl1:(u8s (pre zs k)).length=m+1:=by rw [u8s_length,pre_len hI,hE]
 rw[hpl1] at hv1
 subst hv1
 have hcy:=own_u8 hO1 m (by have:=pre_len hI; rw [hE] at this; omega)
 rw[← hY] at hcy
 exact⟨cap1,rfl,hO1,hB1,hO1.base_le,hcy.1,hcy.2⟩
theorem al_below {w wr:World} {g m:Nat} (h:Below w.heap.size w wr) (hg:w.heap.size≤g) (n:Nat) (v:Value):Below w.heap.size w ((wr.drewN n).setCell ⟨g,m,none⟩ v):=
 Below.setCell (p:=⟨g,m,none⟩) (bdraws h n) hg v
set_option maxRecDepth 100000 in
set_option maxHeartbeats 6400000 in
theorem l09All_some (b:Nat) (s:ByteArray) (k:Nat) (a:Option Addr) (cap:Nat) (L:List Part) (w:World) (h:OB w b s k false) (hout:outB s k=true) (hC:PCame w a L) (hR:∀ p∈L,Right p) (hL:L.length≤1000000):
  Calls Tryz.prog 69 #[.pointer (some ⟨b,0,none⟩),.slice a L.length cap] w fun e w'=>e=.returned (.tuple #[])∧OS w' b (bitsOut (s,k) (partBits L))∧w.grownBy w' (some b):=by
 obtain⟨c0,c1,c2⟩:=h.cells
 have hbl:=h.lt
 obtain⟨q1,q2,q3,q4⟩:=fits_of_outB s k hout
 have hcv:=fun w'=>run_bytes_of_string (P:=Tryz.prog) w' 9 22 5 s Tryz.underlying9 Tryz.underlying22 Tryz.underlying5
 have HC:=hid_of hC
 have HR:=hid_of hR
 have HOB:=hid_of h
 have HOUT:=hid_of hout
 have HI:Hid (Inv (numsOf s) k):=bytes_inv s k hout
 have hO0:=own_of_bytes (base:=w.heap.size) w 5 s (by unfold maxLen; omega) (Nat.le_refl _)
 have H0:Hid (AlSt w (w.drew.alloc (.cells (bytesRow s (grownCap w s.size 0 5)) 5 ((bytesRow s (grownCap w s.size 0 5)).size,(bytesRow s (grownCap w s.size 0 5)).size+1))) w.heap.size s.size (grownCap w s.size 0 5) (numsOf s)):=by
  refine⟨?_,((Below.refl _ _).drew).alloc (Nat.le_refl _) _⟩
  have e:u8s (numsOf s)=s.data.toList.map fun b=>.int .u8 b.toNat:=by simp [u8s,numsOf]
  rw[e]
  exact hO0
 clear hC hR h hout hO0 q4
 go_enter Tryz.func69,Tryz.ntmps69
 go_wp2_with fail
 go_loopg [4,5,6] (L.length+1) (fun gk v cn i w'=>∃ (j g n cp:Nat),j≤L.length∧L.length - j≤gk∧i=.int .i64 j∧cn=.int .i64 ((k+(partBits (L.take j)).length:Nat):Int)∧v=.slice (some ⟨g,0,none⟩) n cp∧k+(partBits (L.take j)).length≤96000∧Hid (AlSt w w' g n cp (putB (numsOf s) k (partBits (L.take j)))))
 case atStart=>exact⟨0,w.heap.size,s.size,grownCap w s.size 0 5,Nat.zero_le _,by omega,rfl,rfl,rfl,by show k+0≤96000; omega,H0⟩
 case round=>
  clear H0 hcv
  obtain⟨j,g,n,cp,hj,hgk,rfl,rfl,rfl,hle,hS⟩:=hrel
  by_cases hlt:j < L.length
  ·have dl:decide ((j:Int) < (L.length:Int))=true:=decide_eq_true (by omega)
   rcases HC.out.called hS.out.2 with q | ⟨pg,off,rfl,hpg,hc⟩
   ·omega
   have hp:Right (L.getD j (0,0,false)):=HR.out _ (by rw [List.getD_eq_getElem?_getD,List.getElem?_eq_getElem hlt]; exact List.getElem_mem hlt)
   have htk:=partBits_take hlt
   have htl:=partBits_take_le L (j+1)
   have hpl:pg < w.heap.size:=by
    rcases HC.out with q | ⟨pg',off',e,h1,_⟩
    ·omega
    ·cases e; exact h1
   have HCC:Hid (∀ W,Below w.heap.size w W→W.cell? ⟨pg,off+j * 3,none⟩=some (.int .i64 (L.getD j (0,0,false)).1)∧W.cell? ⟨pg,off+j * 3+1,none⟩=some (.int .i64 ((L.getD j (0,0,false)).2.1:Int))∧W.cell? ⟨pg,off+j * 3+2,none⟩=some (.bool (L.getD j (0,0,false)).2.2)):=by
    intro W hW
    rcases HC.out.called hW with q | ⟨pg',off',e,_,h1⟩
    ·omega
    ·cases e; exact h1 j hlt
   obtain⟨⟨x,nb,hi⟩,hr⟩:∃ r,r=L.getD j (0,0,false):=⟨_,rfl⟩
   rw[← hr] at hp htk HCC
   rw[htk,List.length_append,bitsP_length] at htl
   simp only [] at htl
   obtain⟨hx0,hx1,hn⟩:=hp
   simp only [] at hx0 hx1 hn
   obtain⟨q,hq⟩:∃ q,q=k+(partBits (L.take j)).length:=⟨_,rfl⟩
   obtain⟨ys,hys⟩:∃ ys,ys=putB (numsOf s) k (partBits (L.take j)):=⟨_,rfl⟩
   have hIn:Inv ys q:=by rw [hys,hq]; exact putB_inv HI.out (partBits_01 _)
   rw[← hq] at hle ⊢
   rw[← hys] at hS
   have HTK:=hid_of htk
   have HQ:=hid_of hq
   have HY:=hid_of hys
   have HIN:=hid_of hIn
   have HTL:Hid (k+((partBits (L.take j)).length+nb)≤k+(partBits L).length):=by show _≤_; omega
   clear hc hr htk htl hq hys hIn
   go_wp2_with fail
   go_loopg [4,5,7] (nb+1) (fun gk2 v cn i w'=>∃ (t g n cp:Nat),t≤nb∧nb - t≤gk2∧i=.int .i64 t∧cn=.int .i64 ((q+t:Nat):Int)∧v=.slice (some ⟨g,0,none⟩) n cp∧Hid (AlSt w w' g n cp (puts ys q (fun j=>bitOf x (plc nb hi j)) t)))
   case atStart=>exact⟨0,g,n,cp,Nat.zero_le _,by omega,rfl,rfl,rfl,hS⟩
   case round=>
    clear hS
    obtain⟨t,g,n,cp,ht,hgt,rfl,rfl,rfl,hS⟩:=hrel
    obtain⟨f0,f1,f2⟩:=HCC.out _ hS.out.2
    by_cases htlt:t < nb
    ·have dl2:decide ((t:Int) < (nb:Int))=true:=decide_eq_true (by omega)
     have hI2:=inv_puts (f:=fun j=>bitOf x (plc nb hi j)) HIN.out (fun k=>bitOf_01 _ _) t
     obtain⟨zs,hzs⟩:∃ zs,zs=puts ys q (fun j=>bitOf x (plc nb hi j)) t:=⟨_,rfl⟩
     rw[← hzs] at hI2 hS
     obtain⟨p,hp⟩:∃ p,p=plc nb hi t:=⟨_,rfl⟩
     have hp24:p≤24:=by rw [hp]; unfold plc; split <;> omega
     have HN:Hid (puts ys q (fun j=>bitOf x (plc nb hi j)) (t+1)=bstep zs (q+t) (bitOf x p)):=by rw [hzs,hp]; rfl
     have hlen:n=zs.length:=hS.out.len
     have HI2:=hid_of hI2
     have hL8:n=(q+t+7) / 8:=by rw [hlen]; exact hI2.1
     have HP:=hid_of hp
     clear hzs hI2 hlen hp
     have hbw:=bitOf_walk x p hx0 hx1
     have hbw':=bitOf_walk' x p hx0
     have htm:((q:Int)+(t:Int)).tmod 8=((q:Int)+(t:Int)) % 8:=Int.tmod_eq_emod_of_nonneg (by omega)
     have hpp:=p2_pos p
     obtain⟨m,hm1,hm2⟩:∃ m,8 * m≤q+t∧q+t < 8 * m+8:=⟨(q+t) / 8,by omega,by omega⟩
     have HE:Hid ((q+t) / 8=m):=by show _=_; omega
     have hp8:=PutMath.p2_8 (r:=(q+t) % 8) (by omega)
     have hq8:=p2_pos ((q+t) % 8)
     have h01:=bitOf_01 x p
     have hmm:=mul01 _ _ h01.1 h01.2 hq8
     have e1:IntKind.i64.wrap ((m:Int)+1 - 1)=m:=by rw [IntKind.wrap_i64]; omega
     have e2:IntKind.i64.wrap (m:Int)=m:=by rw [IntKind.wrap_i64]; omega
     have b1:(0:Int)≤m:=by omega
     have b2:(m:Int) < (m:Int)+1:=by omega
     have hgb:=hS.out.1.base_le
     have hyb:=pre_last HI2.out
     rw[HE.out] at hyb
     obtain⟨y,hy⟩:∃ y,y=(pre zs (q+t)).getD m 0:=⟨_,rfl⟩
     rw[← hy] at hyb
     have HY2:=hid_of hy
     clear hy
     by_cases h8:(q+t) % 8=0
     ·have d8:(((q:Int)+(t:Int)) % 8 == 0)=true:=by simp; omega
      obtain rfl:n=m:=by omega
      have HPR:Hid (u8s zs ++ [.int .u8 0]=u8s (pre zs (q+t))):=by unfold pre; rw [if_pos h8]; exact u8s_snoc zs 0
      have hl63:(u8s zs).length+1≤maxLen∧((u8s zs).length+1) * 1≤140737488355328:=by rw [u8s_length,HI2.out.1]; unfold maxLen; omega
      have HS:=hS
      clear hL8 h8 hS f0 f1 f2
      obtain⟨f0,f1,f2⟩:=HCC.out _ HS.out.2
      obtain⟨i0,hi0,hz0,hz1,hz2⟩:=info_parts info_u8
      cases hi with
      | false=>
       obtain rfl:p=t:=HP.out
       go_wp2_with (at_builtin; refine wpList_append1 rfl _ _ 22 rfl i0 (.int .u8 0) 1 Tryz.underlying22 hi0 hz0 hz1 hz2 rfl rfl (HS.out.1.alloc _) ⟨wr.heap.size,0,none⟩ 1 (.int .u8 0) rfl ?c1 rfl rfl hl63.1 hl63.2 ?_)
       case c1=>simp
       ·intro g1 v1 w1 hO1 hg1 hgr
        obtain⟨cap1,hv1,HO2,HB,hgb1,hcy1,hcy2⟩:=al_grow HS.out HI2.out HE.out HPR.out HY2.out hO1 hgr
        subst hv1
        obtain⟨f0,f1,f2⟩:=HCC.out _ HB.out
        clear hO1 hg1 hgr hl63 hi0 hz0 hz1 hz2 HS
        go_wp2_with fail
        go_quiet ((go_at_call 106; exact Calls.quiet_of_same (pow_any _ _ (by omega))))
        all_goals
         go_wp2_with fail
         go_region_with (go_at_call 106; refine (pow_int _ _ ?_ ?_).mono ?_; omega; omega; rintro e w' ⟨rfl,rfl⟩)
         all_goals
          go_wp2_with fail
          go_roundg (nb - (p+1))
          case measure=>omega
          case rel=>exact⟨p+1,g1,n+1,cap1,by omega,Nat.le_refl _,by go_num,by go_num,rfl,by rw [HN.out]; exact own_bstep (HO2.out.drewN _) HI2.out HE.out HY2.out,al_below HB.out hgb1 _ _⟩
      | true=>
       obtain rfl:p=nb - 1 - t:=HP.out
       have ep:(nb:Int) - 1 - (t:Int)=((nb - 1 - t:Nat):Int):=by omega
       go_wp2_with (at_builtin; refine wpList_append1 rfl _ _ 22 rfl i0 (.int .u8 0) 1 Tryz.underlying22 hi0 hz0 hz1 hz2 rfl rfl (HS.out.1.alloc _) ⟨wr.heap.size,0,none⟩ 1 (.int .u8 0) rfl ?c1 rfl rfl hl63.1 hl63.2 ?_)
       case c1=>simp
       ·intro g1 v1 w1 hO1 hg1 hgr
        obtain⟨cap1,hv1,HO2,HB,hgb1,hcy1,hcy2⟩:=al_grow HS.out HI2.out HE.out HPR.out HY2.out hO1 hgr
        subst hv1
        obtain⟨f0,f1,f2⟩:=HCC.out _ HB.out
        clear hO1 hg1 hgr hl63 hi0 hz0 hz1 hz2 HS
        go_wp2_with fail
        go_quiet ((go_at_call 106; exact Calls.quiet_of_same (pow_any _ _ (by omega))))
        all_goals
         go_wp2_with fail
         go_region_with (go_at_call 106; refine (pow_int _ _ ?_ ?_).mono ?_; omega; omega; rintro e w' ⟨rfl,rfl⟩)
         all_goals
          go_wp2_with fail
          go_roundg (nb - (t+1))
          case measure=>omega
          case rel=>exact⟨t+1,g1,n+1,cap1,by omega,Nat.le_refl _,by go_num,by go_num,rfl,by rw [HN.out]; exact own_bstep (HO2.out.drewN _) HI2.out HE.out HY2.out,al_below HB.out hgb1 _ _⟩
     ·have d8:(((q:Int)+(t:Int)) % 8 == 0)=false:=by simp; omega
      obtain rfl:n=m+1:=by omega
      have hpr:pre zs (q+t)=zs:=by unfold pre; rw [if_neg h8]
      have hcy:=own_u8 hS.out.1 m (by have:=pre_len HI2.out; rw [HE.out,hpr] at this; omega)
      have hO2:=hS.out.1
      rw[← hpr] at hO2
      have HO2:=hid_of hO2
      have hyy:=HY2.out
      rw[hpr] at hyy
      rw[← hyy] at hcy
      obtain⟨hcy1,hcy2⟩:=hcy
      have HB:=hid_of hS.out.2
      clear hL8 hpr hO2 hyy hS
      cases hi with
      | false=>
       obtain rfl:p=t:=HP.out
       go_wp2_with fail
       go_quiet ((go_at_call 106; exact Calls.quiet_of_same (pow_any _ _ (by omega))))
       all_goals
        go_wp2_with fail
        go_region_with (go_at_call 106; refine (pow_int _ _ ?_ ?_).mono ?_; omega; omega; rintro e w' ⟨rfl,rfl⟩)
        all_goals
         go_wp2_with fail
         go_roundg (nb - (p+1))
         case measure=>omega
         case rel=>exact⟨p+1,g,m+1,cp,by omega,Nat.le_refl _,by go_num,by go_num,rfl,by rw [HN.out]; exact own_bstep (HO2.out.drewN _) HI2.out HE.out HY2.out,al_below HB.out hgb _ _⟩
      | true=>
       obtain rfl:p=nb - 1 - t:=HP.out
       have ep:(nb:Int) - 1 - (t:Int)=((nb - 1 - t:Nat):Int):=by omega
       go_wp2_with fail
       go_quiet ((go_at_call 106; exact Calls.quiet_of_same (pow_any _ _ (by omega))))
       all_goals
        go_wp2_with fail
        go_region_with (go_at_call 106; refine (pow_int _ _ ?_ ?_).mono ?_; omega; omega; rintro e w' ⟨rfl,rfl⟩)
        all_goals
         go_wp2_with fail
         go_roundg (nb - (t+1))
         case measure=>omega
         case rel=>exact⟨t+1,g,m+1,cp,by omega,Nat.le_refl _,by go_num,by go_num,rfl,by rw [HN.out]; exact own_bstep (HO2.out.drewN _) HI2.out HE.out HY2.out,al_below HB.out hgb _ _⟩
    ·obtain rfl:nb=t:=by omega
     have dl2:decide ((nb:Int) < (nb:Int))=false:=decide_eq_false (by omega)
     rw[puts_piece] at hS
     have hlen:=hS.out.len
     have hIn2:Inv (putB ys q (bitsP (x,nb,hi))) (q+nb):=by
      have:=putB_inv HIN.out (pieceBits_01 x nb hi)
      rw[pieceBits_length] at this
      exact this
     have hL8:n=(q+nb+7) / 8:=by rw [hlen]; exact hIn2.1
     have HNX:Hid (putB (numsOf s) k (partBits (L.take (j+1)))=putB ys q (bitsP (x,nb,hi))∧k+(partBits (L.take (j+1))).length=q+nb):=by
      constructor
      ·rw[HTK.out,putB_append,← HY.out,← HQ.out]
      ·rw[HTK.out,List.length_append,bitsP_length,HQ.out]; simp only []; omega
     clear hlen hIn2
     by_cases hroom:q+nb≤96000
     ·have dr:decide ((12000:Int) < (n:Int))=false:=decide_eq_false (by omega)
      have dr':decide (12000 < n)=false:=decide_eq_false (by omega)
      go_wp2_with fail
      go_roundg (L.length - (j+1))
      case measure=>omega
      case rel=>exact⟨j+1,g,n,cp,by omega,Nat.le_refl _,by go_num,by rw [HNX.out.2],rfl,by rw [HNX.out.2]; exact hroom,by rw [HNX.out.1]; exact hS⟩
     ·have dr:decide ((12000:Int) < (n:Int))=true:=decide_eq_true (by omega)
      have dr':decide (12000 < n)=true:=decide_eq_true (by omega)
      have hob:OB wr b s k false:=(hS.out.2.block _ hbl).trans HOB.out
      obtain⟨z0,z1,z2⟩:=hob.cells
      have zf:=hob.free
      have zl:=hob.lt
      have HB:=hid_of hS.out.2
      have HOB2:=hid_of hob
      have HNO:Hid (bitsOut (s,k) (partBits L)=none):=bitsOut_none (fun h=>hroom (by have h1:=h.2; have h2:=HTL.out; have h3:=HQ.out; omega))
      clear hob hS c0 c1 c2
      go_wp2_with fail
      refine bodyPost_ret (v:=.tuple #[]) (by simp [results,Tryz.results69,go_sem]) rfl ⟨rfl,?_,?_⟩
      ·rw[HNO.out]
       exact⟨s,k,HOB2.out.turn true,fun o ho=>by cases ho⟩
      ·exact (bgrown_called HB.out _).trans (bgrown_cell _ b 2 _)
  ·obtain rfl:L.length=j:=by omega
   have dl:decide ((L.length:Int) < (L.length:Int))=false:=decide_eq_false (by omega)
   rw[List.take_length] at hS hle ⊢
   have HA:=hid_of (bitsOut_some HOUT.out hle)
   have HA2:=hid_of (bitsOut_right HA.out (partBits_01 L)).1
   obtain⟨q,hq⟩:∃ q,q=k+(partBits L).length:=⟨_,rfl⟩
   obtain⟨ys,hys⟩:∃ ys,ys=putB (numsOf s) k (partBits L):=⟨_,rfl⟩
   rw[← hq,← hys] at HA HA2
   rw[← hq]
   rw[← hys] at hS
   have kc:=own_string (P:=Tryz.prog) ys 22 9 Tryz.underlying22 Tryz.underlying5 Tryz.underlying9 hS.out.1
   have hob:OB wr b s k false:=(hS.out.2.block _ hbl).trans HOB.out
   obtain⟨z0,z1,z2⟩:=hob.cells
   have zf:=hob.free
   have zl:=hob.lt
   have HB:=hid_of hS.out.2
   have HOB2:=hid_of hob
   clear hob hS c0 c1 c2 hq hys hle
   go_wp2_with fail
   go_end0
   refine⟨rfl,?_,?_⟩
   ·rw[HA.out]
    exact⟨_,_,HOB2.out.out _ _,fun o ho=>by cases ho; exact⟨rfl,rfl,HA2.out⟩⟩
   ·exact ((bgrown_called HB.out _).trans (bgrown_cell _ b 0 _)).trans (bgrown_cell _ b 1 _)
set_option maxHeartbeats 800000 in
theorem l09All_any (b:Nat) (st:Option (ByteArray×Nat)) (a:Option Addr) (cap:Nat) (L:List Part) (w:World) (h:OS w b st) (hC:PCame w a L) (hR:∀ p∈L,Right p) (hL:L.length≤1000000):
  Calls Tryz.prog 69 #[.pointer (some ⟨b,0,none⟩),.slice a L.length cap] w fun e w'=>e=.returned (.tuple #[])∧OS w' b (st.bind fun o=>bitsOut o (partBits L))∧w.grownBy w' (some b):=by
 obtain⟨s,c,hO,hs⟩:=h
 cases st with
 | none=>
  obtain⟨c0,c1,c2⟩:=hO.cells
  have hl:=hO.lt
  have HO:=hid_of hO
  simp only [Option.isNone_none] at c2 HO
  have HE:Hid (OS w b ((none:Option (ByteArray×Nat)).bind fun o=>bitsOut o (partBits L))):=⟨s,c,HO.out,fun o h=>by cases h⟩
  clear hO hs c0 c1 hC hR
  go_enter Tryz.func69,Tryz.ntmps69
  go_wp2_with fail
  refine bodyPost_ret (v:=.tuple #[]) (by simp [results,Tryz.results69,go_sem]) rfl ?_
  exact⟨rfl,HE.out,bgrown_called (Below.refl _ _) _⟩
 | some o=>
  obtain⟨t,k⟩:=o
  obtain⟨rfl,rfl,hout⟩:=hs _ rfl
  exact l09All_some b s k a cap L w hO hout hC hR hL
end Go.Proofs.YtklpiihnbokkkaaGreatDoor
