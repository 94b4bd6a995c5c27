/-
  Texts of the proof, put together.
-/
import Derived.Test.YtklpiihnbokkkaaGreatDoorZk47
namespace Go.Proofs.YtklpiihnbokkkaaGreatDoor
open Go.RowKit Go.Joins TokMath SearchMath CheapMath
theorem best_le {f:Nat→Nat} {N t c:Nat}:(bestM f N t c).1≤258∧(bestM f N t c).2≤t:=by
 rcases best_fact (f:=f) (N:=N) t c with h | h
 ·rw[h]
  exact⟨Nat.zero_le _,Nat.zero_le _⟩
 ·exact⟨h.1.1.2,h.1.2.1.2⟩
set_option maxHeartbeats 1600000 in
theorem specBest (s:ByteArray) (t c:Int) (w:World) (hs:s.size≤1048576):
  Calls Tryz.prog 66 #[.string s,.int .i64 t,.int .i64 c] w fun e w'=>e=.returned (.tuple #[.int .i64 ((bestOf s t c).1:Nat),.int .i64 ((bestOf s t c).2:Nat)])∧Below w.heap.size w w':=by
 by_cases h1:s.size≤2600
 ·by_cases h2:0≤t∧t < (s.size:Int)
  ·by_cases h3:1≤c∧c≤64
   ·obtain⟨t',rfl⟩:=Int.eq_ofNat_of_zero_le h2.1
    obtain⟨c',rfl⟩:=Int.eq_ofNat_of_zero_le (show 0≤c by omega)
    unfold bestOf
    rw[if_pos ⟨h1,h2,h3⟩,Int.toNat_natCast,Int.toNat_natCast]
    exact specBest_in s t' c' w (by omega) h1 (by omega) (by omega)
   ·have e0:bestOf s t c=(0,0):=by
     unfold bestOf
     rw[if_neg (fun q=>h3 q.2.2)]
    rw[e0]
    have d0:decide ((2600:Int) < (s.size:Int))=false:=decide_eq_false (by omega)
    have d0':decide (2600 < s.size)=false:=decide_eq_false (by omega)
    go_enter Tryz.func66,Tryz.ntmps66
    go_wp2_with fail
    refine (in_yes _ _ _ _ (by omega) (by omega)).mono ?_
    rintro e w1 ⟨rfl,rfl⟩
    go_wp2_with fail
    refine (in_no _ _ _ _ h3).mono ?_
    rintro e w2 ⟨rfl,rfl⟩
    go_wp2_with fail
    go_ret2
    exact⟨rfl,Below.refl _ _⟩
  ·have e0:bestOf s t c=(0,0):=by
    unfold bestOf
    rw[if_neg (fun q=>h2 q.2.1)]
   rw[e0]
   have d0:decide ((2600:Int) < (s.size:Int))=false:=decide_eq_false (by omega)
   have d0':decide (2600 < s.size)=false:=decide_eq_false (by omega)
   go_enter Tryz.func66,Tryz.ntmps66
   go_wp2_with fail
   refine (in_no _ _ _ _ (by omega)).mono ?_
   rintro e w1 ⟨rfl,rfl⟩
   go_wp2_with fail
   go_ret2
   exact⟨rfl,Below.refl _ _⟩
 ·have e0:bestOf s t c=(0,0):=by
   unfold bestOf
   rw[if_neg (fun q=>h1 q.1)]
  rw[e0]
  have d0:decide ((2600:Int) < (s.size:Int))=true:=decide_eq_true (by omega)
  have d0':decide (2600 < s.size)=true:=decide_eq_true (by omega)
  go_enter Tryz.func66,Tryz.ntmps66
  go_wp2_with fail
  go_ret2
  exact⟨rfl,Below.refl _ _⟩
theorem wayOk_yes (s:ByteArray) (c:Int) (w:World) (h:WayRight s c):Calls Tryz.prog 65 #[.string s,.int .i64 c] w fun e w'=>e=.returned (.bool true)∧w'=w:=by
 have h1:=h.1
 have d0:decide ((s.size:Int)≤2600)=true:=decide_eq_true (by omega)
 have d0':decide (s.size≤2600)=true:=decide_eq_true h1
 go_enter Tryz.func65,Tryz.ntmps65
 go_wp2_with fail
 refine (in_yes _ _ _ _ h.2.1 h.2.2).mono ?_
 rintro e w2 ⟨rfl,rfl⟩
 go_wp2_with fail
 go_ret
 exact⟨rfl,rfl⟩
theorem wayOk_no (s:ByteArray) (c:Int) (w:World) (hs:s.size≤1048576) (h:¬ WayRight s c):Calls Tryz.prog 65 #[.string s,.int .i64 c] w fun e w'=>e=.returned (.bool false)∧w'=w:=by
 by_cases h1:s.size≤2600
 ·have d0:decide ((s.size:Int)≤2600)=true:=decide_eq_true (by omega)
  have d0':decide (s.size≤2600)=true:=decide_eq_true h1
  go_enter Tryz.func65,Tryz.ntmps65
  go_wp2_with fail
  refine (in_no _ _ _ _ (fun q=>h ⟨h1,q⟩)).mono ?_
  rintro e w2 ⟨rfl,rfl⟩
  go_wp2_with fail
  go_ret
  exact⟨rfl,rfl⟩
 ·have d0:decide ((s.size:Int)≤2600)=false:=decide_eq_false (by omega)
  have d0':decide (s.size≤2600)=false:=decide_eq_false h1
  go_enter Tryz.func65,Tryz.ntmps65
  go_wp2_with fail
  go_ret
  exact⟨rfl,rfl⟩
set_option maxHeartbeats 3200000 in
theorem specGreedy:WayAnswer 39 greedyL:=by
 intro s c w hs _
 refine⟨fun hR=>?_,fun hR=>?_⟩
 ·obtain⟨hs2,hc1,hc2⟩:=hR
  obtain⟨ch,rfl⟩:=Int.eq_ofNat_of_zero_le (show 0≤c by omega)
  have hok:=wayOk_yes s (ch:Int) (w.alloc (.cells #[] 105)) ⟨hs2,hc1,hc2⟩
  have HST:Hid (∀ i,i < s.size→1≤sizeT (greedyC (txt s) s.size ch i)):=fun i hi=>(fine_size (greedy_fine _ _ _ i) hi).1
  have H0:Hid (TokL w (w.alloc (.cells #[] 105)) w.heap.size w.heap.size 0 0 []∧[] ++ wayL (greedyC (txt s) s.size ch) s.size 0=greedyL s (ch:Int)):=⟨TokL.start w,rfl⟩
  go_enter Tryz.func39,Tryz.ntmps39
  go_wp2_with fail
  refine hok.mono ?_
  rintro e w1 ⟨rfl,rfl⟩
  clear hok
  go_wp2_with fail
  go_loopg [6,7] (s.size+1) (fun gk v y w'=>∃ (i g n cp:Nat) (L:List Tok),v=.slice (some ⟨g,0,none⟩) n cp∧i≤s.size∧n≤i∧y=.int .i64 i∧s.size - i≤gk∧Hid (TokL w w' w.heap.size g n cp L∧L ++ wayL (greedyC (txt s) s.size ch) s.size i=greedyL s (ch:Int)))
  case atStart=>exact⟨0,w.heap.size,0,0,[],rfl,Nat.zero_le _,Nat.le_refl _,rfl,by omega,H0⟩
  case round=>
   clear H0
   obtain⟨i,g,n,cp,L,rfl,hi,hni,rfl,hgk,hS⟩:=hrel
   by_cases hlt:i < s.size
   ·have dl:decide ((i:Int) < (s.size:Int))=true:=decide_eq_true (by omega)
    have hbm:=specBest_in s i ch wr hlt hs2 (by omega) (by omega)
    obtain⟨P,hP⟩:∃ P,P=bestM (txt s) s.size i ch:=⟨_,rfl⟩
    have hPl:P.1≤258∧P.2≤i:=by rw [hP]; exact best_le
    have HSt:=hid_of (way_step HST.out hlt)
    have HIN:=hid_of (fine_size (greedy_fine (txt s) s.size ch i) hlt).2
    have HG:Hid (greedyC (txt s) s.size ch i=if P.1=0 then ((txt s i:Int),0,0) else (0,(P.1:Int),(P.2:Int))):=by
     rw[hP]
     rfl
    rw[← hP] at hbm
    clear hP
    obtain⟨n1,d1⟩:=P
    have hn1:n1≤258:=hPl.1
    have hd1:d1≤i:=hPl.2
    clear hPl
    go_wp2_with fail
    refine hbm.mono ?_
    rintro e w2 ⟨rfl,hB2⟩
    clear hbm
    have HS2:Hid (TokL w w2 w.heap.size g n cp L):=hS.out.1.called hB2
    clear hB2
    have hbl:=HS2.out.block.1
    have hll:=HS2.out.lt
    have HLN:=hid_of HS2.out.1
    by_cases hz:n1=0
    ·subst hz
     have HGC:Hid (greedyC (txt s) s.size ch i=((txt s i:Int),0,0)):=by
      show greedyC (txt s) s.size ch i=((txt s i:Int),0,0)
      rw[HG.out]
      rw[if_pos rfl]
     have hx:=txt_get s i hlt
     obtain⟨x,hxe⟩:∃ x:Int,x=((s[i]'hlt).toNat:Int):=⟨_,rfl⟩
     have HX:Hid (x=(txt s i:Int)):=by
      show x=(txt s i:Int)
      rw[hxe,hx]
     have hxr:0≤x∧x≤255:=by
      have:=txt_lt s i
      rw[HX.out]
      omega
     have hxe2:((s[i]'hlt).toNat:Int)=x:=hxe.symm
     clear hx hxe
     go_wp2_with (at_builtin; refine toks_append (S:=w.heap.size) (xs:=L) (ys:=[(x,0,0)]) rfl _ _ rfl rfl (World.ownsRow.alloc HS2.out.2.1 _) ⟨w2.heap.size,0,none⟩ 1 1 rfl rfl (news_tk w2 x 0 0 _ rfl) (by have:=HLN.out; simp only [List.length_cons,List.length_nil]; omega) (by simp; omega) ?_)
     intro v1 w5 y1 y2
     obtain⟨g1,cap1,rfl,hD⟩:=HS2.out.app (t:=(x,0,0)) (by simpa using y1) y2
     have HN:Hid (TokL w w5 w.heap.size g1 (n+1) cap1 (L ++ [(x,0,0)])∧L ++ [(x,0,0)] ++ wayL (greedyC (txt s) s.size ch) s.size (i+1)=greedyL s (ch:Int)):=by
      refine⟨hD,?_⟩
      rw[← hS.out.2,HSt.out,HGC.out,HX.out,List.append_assoc]
      rfl
     clear y1 y2 hD HS2
     go_wp2_with fail
     go_roundg (s.size - (i+1))
     case measure=>omega
     case rel=>exact⟨i+1,g1,n+1,cap1,_,rfl,by omega,by omega,by go_num,Nat.le_refl _,HN⟩
    ·have dz:((n1:Int) == 0)=false:=by simp; omega
     have dz':(n1 == 0)=false:=by simp; omega
     have HGC:Hid (greedyC (txt s) s.size ch i=(0,(n1:Int),(d1:Int))):=by
      show greedyC (txt s) s.size ch i=(0,(n1:Int),(d1:Int))
      rw[HG.out]
      rw[if_neg hz]
     have HSZ:Hid (i+sizeT (greedyC (txt s) s.size ch i)=i+n1):=by
      show i+sizeT (greedyC (txt s) s.size ch i)=i+n1
      rw[HGC.out,size_rep _ _ hz]
     have hin:i+n1≤s.size:=by
      have:=HIN.out
      rw[HSZ.out] at this
      exact this
     go_wp2_with (at_builtin; refine toks_append (S:=w.heap.size) (xs:=L) (ys:=[(0,(n1:Int),(d1:Int))]) rfl _ _ rfl rfl (World.ownsRow.alloc HS2.out.2.1 _) ⟨w2.heap.size,0,none⟩ 1 1 rfl rfl (news_tk w2 0 (n1:Int) (d1:Int) _ rfl) (by have:=HLN.out; simp only [List.length_cons,List.length_nil]; omega) (by simp; omega) ?_)
     intro v1 w5 y1 y2
     obtain⟨g1,cap1,rfl,hD⟩:=HS2.out.app (t:=(0,(n1:Int),(d1:Int))) (by simpa using y1) y2
     have HN:Hid (TokL w w5 w.heap.size g1 (n+1) cap1 (L ++ [(0,(n1:Int),(d1:Int))])∧L ++ [(0,(n1:Int),(d1:Int))] ++ wayL (greedyC (txt s) s.size ch) s.size (i+n1)=greedyL s (ch:Int)):=by
      refine⟨hD,?_⟩
      rw[← hS.out.2,HSt.out,HSZ.out,HGC.out,List.append_assoc]
      rfl
     clear y1 y2 hD HS2
     go_wp2_with fail
     go_roundg (s.size - (i+n1))
     case measure=>omega
     case rel=>exact⟨i+n1,g1,n+1,cap1,_,rfl,hin,by omega,by go_num,Nat.le_refl _,HN⟩
   ·obtain rfl:i=s.size:=by omega
    have dl:decide ((s.size:Int) < (s.size:Int))=false:=decide_eq_false (by omega)
    have HZ:Hid (TokL w wr w.heap.size g n cp (greedyL s (ch:Int))):=by
     have h:=hS.out.2
     rw[way_end (Nat.le_refl _),List.append_nil] at h
     rw[← h]
     exact hS.out.1
    go_wp2_with fail
    go_ret2
    obtain⟨a',c',hv,hcl,hT⟩:=tsl_of_own HZ.out.2.1 rfl
    cases hv
    exact⟨_,_,by rw [← HZ.out.1]; rfl,hT,hcl,HZ.out.2.2⟩
 ·have hok:=wayOk_no s c (w.alloc (.cells #[] 105)) hs hR
  have HB:=hid_of (bstart w (.cells #[] 105))
  have hlz:w.heap.size < (w.alloc (.cells #[] 105)).heap.size:=by simp
  have HLZ:=hid_of hlz
  clear hlz
  go_enter Tryz.func39,Tryz.ntmps39
  go_wp2_with fail
  refine hok.mono ?_
  rintro e w1 ⟨rfl,rfl⟩
  clear hok
  go_wp2_with fail
  go_ret2
  exact⟨_,_,rfl,fun g off e=>by cases e; exact HLZ.out,HB.out⟩
set_option maxHeartbeats 3200000 in
theorem specLazy:WayAnswer 41 lazyL:=by
 intro s c w hs _
 refine⟨fun hR=>?_,fun hR=>?_⟩
 ·obtain⟨hs2,hc1,hc2⟩:=hR
  obtain⟨ch,rfl⟩:=Int.eq_ofNat_of_zero_le (show 0≤c by omega)
  have hok:=wayOk_yes s (ch:Int) (w.alloc (.cells #[] 105)) ⟨hs2,hc1,hc2⟩
  have HST:Hid (∀ i,i < s.size→1≤sizeT (lazyC (txt s) s.size ch i)):=fun i hi=>(fine_size (lazy_fine _ _ _ i) hi).1
  have H0:Hid (TokL w (w.alloc (.cells #[] 105)) w.heap.size w.heap.size 0 0 []∧[] ++ wayL (lazyC (txt s) s.size ch) s.size 0=lazyL s (ch:Int)):=⟨TokL.start w,rfl⟩
  go_enter Tryz.func41,Tryz.ntmps41
  go_wp2_with fail
  refine hok.mono ?_
  rintro e w1 ⟨rfl,rfl⟩
  clear hok
  go_wp2_with fail
  go_loopg [6,7] (s.size+1) (fun gk v y w'=>∃ (i g n cp:Nat) (L:List Tok),v=.slice (some ⟨g,0,none⟩) n cp∧i≤s.size∧n≤i∧y=.int .i64 i∧s.size - i≤gk∧Hid (TokL w w' w.heap.size g n cp L∧L ++ wayL (lazyC (txt s) s.size ch) s.size i=lazyL s (ch:Int)))
  case atStart=>exact⟨0,w.heap.size,0,0,[],rfl,Nat.zero_le _,Nat.le_refl _,rfl,by omega,H0⟩
  case round=>
   clear H0
   obtain⟨i,g,n,cp,L,rfl,hi,hni,rfl,hgk,hS⟩:=hrel
   by_cases hlt:i < s.size
   ·have dl:decide ((i:Int) < (s.size:Int))=true:=decide_eq_true (by omega)
    have hbm:=specBest_in s i ch wr hlt hs2 (by omega) (by omega)
    obtain⟨P,hP⟩:∃ P,P=bestM (txt s) s.size i ch:=⟨_,rfl⟩
    have hPl:P.1≤258∧P.2≤i:=by rw [hP]; exact best_le
    have HSt:=hid_of (way_step HST.out hlt)
    have HIN:=hid_of (fine_size (lazy_fine (txt s) s.size ch i) hlt).2
    obtain⟨m1,hm1⟩:∃ m1,m1=(bestM (txt s) s.size (i+1) ch).1:=⟨_,rfl⟩
    have HG:Hid (lazyC (txt s) s.size ch i=if P.1=0∨P.1 < m1 then ((txt s i:Int),0,0) else (0,(P.1:Int),(P.2:Int))):=by
     rw[hP,hm1]
     rfl
    have hm8:m1≤258:=by rw [hm1]; exact best_le.1
    obtain⟨e1,hnx⟩:∃ e1:Nat,∀ w,Calls Tryz.prog 66 #[.string s,.int .i64 ((i:Int)+1),.int .i64 (ch:Int)] w fun e w'=>e=.returned (.tuple #[.int .i64 (m1:Nat),.int .i64 (e1:Nat)])∧Below w.heap.size w w':=by
     have h:=fun w=>specBest s ((i:Int)+1) (ch:Int) w hs
     have hb:(bestOf s ((i:Int)+1) (ch:Int)).1=m1:=by
      unfold bestOf
      by_cases hl:i+1 < s.size
      ·rw[if_pos ⟨hs2,⟨by omega,by omega⟩,hc1,hc2⟩,show ((i:Int)+1).toNat=i+1 by omega,Int.toNat_natCast,hm1]
      ·rw[if_neg (fun q=>by have:=q.2.1.2; omega),hm1,best_none (by omega)]
     rw[hb] at h
     exact⟨_,h⟩
    clear hm1
    rw[← hP] at hbm
    clear hP
    obtain⟨n1,d1⟩:=P
    have hn1:n1≤258:=hPl.1
    have hd1:d1≤i:=hPl.2
    clear hPl
    go_wp2_with fail
    refine hbm.mono ?_
    rintro e w2 ⟨rfl,hB2⟩
    clear hbm
    have HS2':Hid (TokL w w2 w.heap.size g n cp L):=hS.out.1.called hB2
    clear hB2
    go_wp2_with fail
    refine (hnx _).mono ?_
    rintro e w3 ⟨rfl,hB3⟩
    clear hnx
    have HS2:Hid (TokL w w3 w.heap.size g n cp L):=HS2'.out.called hB3
    clear hB3 HS2'
    have hbl:=HS2.out.block.1
    have hll:=HS2.out.lt
    have HLN:=hid_of HS2.out.1
    by_cases hzz:n1=0∨n1 < m1
    ·by_cases hz:n1=0
     ·subst hz
      have HGC:Hid (lazyC (txt s) s.size ch i=((txt s i:Int),0,0)):=by
       show lazyC (txt s) s.size ch i=((txt s i:Int),0,0)
       rw[HG.out]
       rw[if_pos (.inl rfl)]
      have hx:=txt_get s i hlt
      obtain⟨x,hxe⟩:∃ x:Int,x=((s[i]'hlt).toNat:Int):=⟨_,rfl⟩
      have HX:Hid (x=(txt s i:Int)):=by
       show x=(txt s i:Int)
       rw[hxe,hx]
      have hxr:0≤x∧x≤255:=by
       have:=txt_lt s i
       rw[HX.out]
       omega
      have hxe2:((s[i]'hlt).toNat:Int)=x:=hxe.symm
      clear hx hxe
      go_wp2_with (at_builtin; refine toks_append (S:=w.heap.size) (xs:=L) (ys:=[(x,0,0)]) rfl _ _ rfl rfl (World.ownsRow.alloc HS2.out.2.1 _) ⟨w3.heap.size,0,none⟩ 1 1 rfl rfl (news_tk w3 x 0 0 _ rfl) (by have:=HLN.out; simp only [List.length_cons,List.length_nil]; omega) (by simp; omega) ?_)
      intro v1 w5 y1 y2
      obtain⟨g1,cap1,rfl,hD⟩:=HS2.out.app (t:=(x,0,0)) (by simpa using y1) y2
      have HN:Hid (TokL w w5 w.heap.size g1 (n+1) cap1 (L ++ [(x,0,0)])∧L ++ [(x,0,0)] ++ wayL (lazyC (txt s) s.size ch) s.size (i+1)=lazyL s (ch:Int)):=by
       refine⟨hD,?_⟩
       rw[← hS.out.2,HSt.out,HGC.out,HX.out,List.append_assoc]
       rfl
      clear y1 y2 hD HS2
      go_wp2_with fail
      go_roundg (s.size - (i+1))
      case measure=>omega
      case rel=>exact⟨i+1,g1,n+1,cap1,_,rfl,by omega,by omega,by go_num,Nat.le_refl _,HN⟩
     ·have dz:((n1:Int) == 0)=false:=by simp; omega
      have dz':(n1 == 0)=false:=by simp; omega
      have hlm:n1 < m1:=by omega
      have dm:decide ((n1:Int) < (m1:Int))=true:=decide_eq_true (by omega)
      have dm':decide (n1 < m1)=true:=decide_eq_true hlm
      have HGC:Hid (lazyC (txt s) s.size ch i=((txt s i:Int),0,0)):=by
       show lazyC (txt s) s.size ch i=((txt s i:Int),0,0)
       rw[HG.out]
       rw[if_pos (.inr hlm)]
      have hx:=txt_get s i hlt
      obtain⟨x,hxe⟩:∃ x:Int,x=((s[i]'hlt).toNat:Int):=⟨_,rfl⟩
      have HX:Hid (x=(txt s i:Int)):=by
       show x=(txt s i:Int)
       rw[hxe,hx]
      have hxr:0≤x∧x≤255:=by
       have:=txt_lt s i
       rw[HX.out]
       omega
      have hxe2:((s[i]'hlt).toNat:Int)=x:=hxe.symm
      clear hx hxe
      go_wp2_with (at_builtin; refine toks_append (S:=w.heap.size) (xs:=L) (ys:=[(x,0,0)]) rfl _ _ rfl rfl (World.ownsRow.alloc HS2.out.2.1 _) ⟨w3.heap.size,0,none⟩ 1 1 rfl rfl (news_tk w3 x 0 0 _ rfl) (by have:=HLN.out; simp only [List.length_cons,List.length_nil]; omega) (by simp; omega) ?_)
      intro v1 w5 y1 y2
      obtain⟨g1,cap1,rfl,hD⟩:=HS2.out.app (t:=(x,0,0)) (by simpa using y1) y2
      have HN:Hid (TokL w w5 w.heap.size g1 (n+1) cap1 (L ++ [(x,0,0)])∧L ++ [(x,0,0)] ++ wayL (lazyC (txt s) s.size ch) s.size (i+1)=lazyL s (ch:Int)):=by
       refine⟨hD,?_⟩
       rw[← hS.out.2,HSt.out,HGC.out,HX.out,List.append_assoc]
       rfl
      clear y1 y2 hD HS2
      go_wp2_with fail
      go_roundg (s.size - (i+1))
      case measure=>omega
      case rel=>exact⟨i+1,g1,n+1,cap1,_,rfl,by omega,by omega,by go_num,Nat.le_refl _,HN⟩
    ·have hz:n1≠0:=fun e=>hzz (.inl e)
     have hlm:¬ n1 < m1:=fun e=>hzz (.inr e)
     have dz:((n1:Int) == 0)=false:=by simp; omega
     have dz':(n1 == 0)=false:=by simp; omega
     have dm:decide ((n1:Int) < (m1:Int))=false:=decide_eq_false (by omega)
     have dm':decide (n1 < m1)=false:=decide_eq_false hlm
     have HGC:Hid (lazyC (txt s) s.size ch i=(0,(n1:Int),(d1:Int))):=by
      show lazyC (txt s) s.size ch i=(0,(n1:Int),(d1:Int))
      rw[HG.out]
      rw[if_neg hzz]
     have HSZ:Hid (i+sizeT (lazyC (txt s) s.size ch i)=i+n1):=by
      show i+sizeT (lazyC (txt s) s.size ch i)=i+n1
      rw[HGC.out,size_rep _ _ hz]
     have hin:i+n1≤s.size:=by
      have:=HIN.out
      rw[HSZ.out] at this
      exact this
     go_wp2_with (at_builtin; refine toks_append (S:=w.heap.size) (xs:=L) (ys:=[(0,(n1:Int),(d1:Int))]) rfl _ _ rfl rfl (World.ownsRow.alloc HS2.out.2.1 _) ⟨w3.heap.size,0,none⟩ 1 1 rfl rfl (news_tk w3 0 (n1:Int) (d1:Int) _ rfl) (by have:=HLN.out; simp only [List.length_cons,List.length_nil]; omega) (by simp; omega) ?_)
     intro v1 w5 y1 y2
     obtain⟨g1,cap1,rfl,hD⟩:=HS2.out.app (t:=(0,(n1:Int),(d1:Int))) (by simpa using y1) y2
     have HN:Hid (TokL w w5 w.heap.size g1 (n+1) cap1 (L ++ [(0,(n1:Int),(d1:Int))])∧L ++ [(0,(n1:Int),(d1:Int))] ++ wayL (lazyC (txt s) s.size ch) s.size (i+n1)=lazyL s (ch:Int)):=by
      refine⟨hD,?_⟩
      rw[← hS.out.2,HSt.out,HSZ.out,HGC.out,List.append_assoc]
      rfl
     clear y1 y2 hD HS2
     go_wp2_with fail
     go_roundg (s.size - (i+n1))
     case measure=>omega
     case rel=>exact⟨i+n1,g1,n+1,cap1,_,rfl,hin,by omega,by go_num,Nat.le_refl _,HN⟩
   ·obtain rfl:i=s.size:=by omega
    have dl:decide ((s.size:Int) < (s.size:Int))=false:=decide_eq_false (by omega)
    have HZ:Hid (TokL w wr w.heap.size g n cp (lazyL s (ch:Int))):=by
     have h:=hS.out.2
     rw[way_end (Nat.le_refl _),List.append_nil] at h
     rw[← h]
     exact hS.out.1
    go_wp2_with fail
    go_ret2
    obtain⟨a',c',hv,hcl,hT⟩:=tsl_of_own HZ.out.2.1 rfl
    cases hv
    exact⟨_,_,by rw [← HZ.out.1]; rfl,hT,hcl,HZ.out.2.2⟩
 ·have hok:=wayOk_no s c (w.alloc (.cells #[] 105)) hs hR
  have HB:=hid_of (bstart w (.cells #[] 105))
  have hlz:w.heap.size < (w.alloc (.cells #[] 105)).heap.size:=by simp
  have HLZ:=hid_of hlz
  clear hlz
  go_enter Tryz.func41,Tryz.ntmps41
  go_wp2_with fail
  refine hok.mono ?_
  rintro e w1 ⟨rfl,rfl⟩
  clear hok
  go_wp2_with fail
  go_ret2
  exact⟨_,_,rfl,fun g off e=>by cases e; exact HLZ.out,HB.out⟩
end Go.Proofs.YtklpiihnbokkkaaGreatDoor
