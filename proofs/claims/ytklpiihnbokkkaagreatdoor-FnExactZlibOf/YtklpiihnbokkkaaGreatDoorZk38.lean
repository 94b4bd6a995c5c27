/-
  Texts of the proof, put together.
-/
import Derived.Test.YtklpiihnbokkkaaGreatDoorZk37
namespace Go.Proofs.YtklpiihnbokkkaaGreatDoor
section
open Go.RowKit Go.Joins OutMath PutMath
attribute [local go_sem ↓] Go.wp_at_zero Go.wp_at_succ
set_option maxHeartbeats 1600000 in
theorem l01Put_any (s:ByteArray) (c:Nat) (x:Int) (n:Nat) (pl:Nat→Nat) (gp cp:Nat) (xs:List Int) (w:World)
  (hs:s.size≤12000) (hxs:xs=s.data.toList.map fun b=>(b.toNat:Int)) (hi:Inv xs c) (hc:c+n≤96000) (hx0:0≤x) (hx1:x≤16777216) (hn:n≤24) (hgp:gp < w.heap.size)
  (hpl:∀ j,j < n→w.cell? ⟨gp,j,none⟩=some (.int .i64 (pl j))∧pl j≤24):
  Calls Tryz.prog 151 #[.agg #[.string s,.int .i64 c],.int .i64 x,.slice (some ⟨gp,0,none⟩) n cp] w fun e w'=>e=.returned (.agg #[.string (strOfNums (puts xs c (fun j=>bitOf x (pl j)) n)),.int .i64 ((c+n:Nat):Int)])∧Below w.heap.size w w':=by
 have hcv:=fun w'=>run_bytes_of_string (P:=Tryz.prog) w' 9 22 5 s Tryz.underlying9 Tryz.underlying22 Tryz.underlying5
 have HP:Hid (∀ j,j < n→w.cell? ⟨gp,j,none⟩=some (.int .i64 (pl j))∧pl j≤24):=hpl
 have HX:Hid (xs=s.data.toList.map fun b=>(b.toNat:Int)):=hxs
 clear hpl hxs
 go_enter Tryz.func151,Tryz.ntmps151
 go_wp2_with fail
 obtain⟨W,hW⟩:∃ W,W=(w.alloc (.cells #[.string s,.int .i64 c] 43)).alloc (.cells #[.string ⟨#[]⟩,.int .i64 0] 43):=⟨_,rfl⟩
 have hWs:W.heap.size=w.heap.size+1+1:=by rw [hW]; simp
 have hBW:Below w.heap.size w W:=by rw [hW]; exact bal (bstart _ _) _
 have hcW:W.cell? ⟨w.heap.size+1,0,none⟩=some (.string ⟨#[]⟩)∧W.cell? ⟨w.heap.size+1,1,none⟩=some (.int .i64 0)∧∀ j,W.frozen? ⟨w.heap.size+1,j,none⟩=false:=by rw [hW]; simp
 have hO0:=own_of_bytes (base:=w.heap.size+1+1) W 5 s (by unfold maxLen; omega) (by omega)
 rw[hWs] at hO0
 rw[← hW]
 have HO0:Hid (Own 5 (W.drew.alloc (.cells (bytesRow s (grownCap W s.size 0 5)) 5 ((bytesRow s (grownCap W s.size 0 5)).size,(bytesRow s (grownCap W s.size 0 5)).size+1))) (w.heap.size+1+1) (w.heap.size+1+1) (.slice (some ⟨w.heap.size+1+1,0,none⟩) s.size (grownCap W s.size 0 5)) (s.data.toList.map fun b=>.int .u8 b.toNat)):=hO0
 clear hO0 hW hcv
 go_loopw [7,8,9] (fun v k i w'=>∃ j g cap L:Nat,j≤n∧i=.int .i64 j∧k=.int .i64 ((c:Int)+j)∧v=.slice (some ⟨g,0,none⟩) L cap∧Hid (Own 5 w' (w.heap.size+1+1) g (.slice (some ⟨g,0,none⟩) L cap) (u8s (puts xs c (fun j=>bitOf x (pl j)) j)))∧Below (w.heap.size+1+1) W w') (fun _ _ i _=>n - (intOf i).toNat)
 case atStart=>
  refine⟨0,w.heap.size+1+1,grownCap W s.size 0 5,s.size,Nat.zero_le _,rfl,by simp,rfl,?_,?_⟩
  ·have e:u8s (puts xs c (fun j=>bitOf x (pl j)) 0)=s.data.toList.map fun b=>.int .u8 b.toNat:=by
    show u8s xs=_
    rw[HX.out]
    simp[u8s]
   rw[e]
   exact HO0.out
  ·exact ((Below.refl _ _).alloc (by omega) _).drew
 case round=>
  obtain⟨j,g,cap,L,hj,rfl,rfl,rfl,hO,hB⟩:=hrel
  have hI:=inv_puts (f:=fun j=>bitOf x (pl j)) hi (fun k=>bitOf_01 _ _) j
  obtain⟨ys,hys⟩:∃ ys,ys=puts xs c (fun j=>bitOf x (pl j)) j:=⟨_,rfl⟩
  rw[← hys] at hI hO
  have HN:Hid (puts xs c (fun j=>bitOf x (pl j)) (j+1)=bstep ys (c+j) (bitOf x (pl j))):=by rw [hys]; rfl
  have HYS:Hid (puts xs c (fun j=>bitOf x (pl j)) j=ys):=hys.symm
  clear hys
  have hlen:L=ys.length:=by
   obtain⟨cp',hv⟩:=hO.out.form
   simp[u8s] at hv
   exact hv.1
  have HI:Hid (Inv ys (c+j)):=hI
  have hL8:L=(c+j+7) / 8:=by rw [hlen]; exact hI.1
  clear hI hlen
  by_cases hlt:j < n
  ·obtain⟨hcp0,hp24⟩:=HP.out j hlt
   have hcp:wr.cell? ⟨gp,j,none⟩=some (.int .i64 (pl j)):=(hB.cell (p:=⟨gp,j,none⟩) (by simp; omega)).trans ((hBW.cell (p:=⟨gp,j,none⟩) hgp).trans hcp0)
   clear hcp0
   have hbw:=bitOf_walk x (pl j) hx0 hx1
   have hbw':=bitOf_walk' x (pl j) hx0
   have ht:((c:Int)+(j:Int)).tmod 8=((c:Int)+(j:Int)) % 8:=Int.tmod_eq_emod_of_nonneg (by omega)
   have hpp:=p2_pos (pl j)
   obtain⟨m,hm1,hm2⟩:∃ m,8 * m≤c+j∧c+j < 8 * m+8:=⟨(c+j) / 8,by omega,by omega⟩
   have em:(c+j) / 8=m:=by omega
   have HE:Hid ((c+j) / 8=m):=em
   clear em
   have hp8:=PutMath.p2_8 (r:=(c+j) % 8) (by omega)
   have hq8:=p2_pos ((c+j) % 8)
   have h01:=bitOf_01 x (pl j)
   have hmm:=mul01 _ _ h01.1 h01.2 hq8
   have e1:IntKind.i64.wrap ((m:Int)+1 - 1)=m:=by rw [IntKind.wrap_i64]; omega
   have e2:IntKind.i64.wrap (m:Int)=m:=by rw [IntKind.wrap_i64]; omega
   have b1:(0:Int)≤m:=by omega
   have b2:(m:Int) < (m:Int)+1:=by omega
   have hbl:=hO.out.base_le
   have hyb:=pre_last HI.out
   rw[HE.out] at hyb
   obtain⟨y,hy⟩:∃ y,y=(pre ys (c+j)).getD m 0:=⟨_,rfl⟩
   rw[← hy] at hyb
   have HY:Hid (y=(pre ys (c+j)).getD m 0):=hy
   clear hy
   by_cases h8:(c+j) % 8=0
   ·have d8:(((c:Int)+(j:Int)) % 8 == 0)=true:=by simp; omega
    obtain rfl:L=m:=by omega
    have HPR:Hid (u8s ys ++ [.int .u8 0]=u8s (pre ys (c+j))):=by unfold pre; rw [if_pos h8]; exact u8s_snoc ys 0
    have hl63:(u8s ys).length+1≤maxLen∧((u8s ys).length+1) * 1≤140737488355328:=by rw [u8s_length,HI.out.1]; unfold maxLen; omega
    have hul:(u8s ys).length=L:=by rw [u8s_length,HI.out.1]; omega
    have HUL:Hid ((u8s ys).length=L):=hul
    clear hL8 hul h8
    obtain⟨i0,hi0,hz0,hz1,hz2⟩:=info_parts info_u8
    go_wp2_with (at_builtin; refine wpList_append1 rfl _ _ 22 rfl i0 (.int .u8 0) 1 Tryz.underlying22 hi0 hz0 hz1 hz2 rfl rfl (hO.out.alloc _) ⟨wr.heap.size,0,none⟩ 1 (.int .u8 0) rfl ?c1 rfl rfl hl63.1 hl63.2 ?_)
    case c1=>simp
    ·intro g1 v1 w1 hO1 hg1 hgr
     have hO2:Own 5 w1 (w.heap.size+1+1) g1 v1 (u8s (pre ys (c+j))):=by rw [← HPR.out]; exact hO1
     have hB1:Below (w.heap.size+1+1) W w1:=(hB.alloc (by have:=hB.size; omega) _).grown hgr (by have:=hB.size; simp; omega) (fun k hk=>by cases hk; exact hbl)
     obtain⟨cap1,hv1⟩:=hO2.form
     have hpl1:(u8s (pre ys (c+j))).length=L+1:=by rw [u8s_length,pre_len HI.out,HE.out]
     rw[hpl1] at hv1
     rw[hv1]
     rw[hv1] at hO2
     have hcy:=own_u8 hO2 L (by have:=pre_len HI.out; rw [HE.out] at this; omega)
     rw[← HY.out] at hcy
     obtain⟨hcy1,hcy2⟩:=hcy
     have HO2:Hid (Own 5 w1 (w.heap.size+1+1) g1 (.slice (some ⟨g1,0,none⟩) (L+1) cap1) (u8s (pre ys (c+j)))):=hO2
     have hcp1:w1.cell? ⟨gp,j,none⟩=some (.int .i64 (pl j)):=(hB1.cell (p:=⟨gp,j,none⟩) (by simp; omega)).trans ((hBW.cell (p:=⟨gp,j,none⟩) hgp).trans (HP.out j hlt).1)
     have hbl1:=hO1.base_le
     clear hO1 hg1 hgr hpl1 hv1 hO2 hO hB hcp hl63 hi0 hz0 hz1 hz2
     go_wp2_with fail
     refine (pow_any (pl j) _ (by omega)).mono ?_
     rintro e w2 ⟨rfl,rfl⟩
     go_wp2_with fail
     go_region_with (go_at_call 106; refine (pow_int _ _ ?_ ?_).mono ?_; omega; omega; rintro e w' ⟨rfl,rfl⟩)
     all_goals
      go_wp2_with fail
      go_roundw
      case rel=>exact⟨j+1,g1,cap1,L+1,by omega,by go_num,by go_num,rfl,by rw [HN.out]; exact own_bstep HO2.out HI.out HE.out HY.out,(hB1.setCell hbl1 _).drew⟩
      case measure=>simp [intOf]; omega
   ·have d8:(((c:Int)+(j:Int)) % 8 == 0)=false:=by simp; omega
    obtain rfl:L=m+1:=by omega
    have hpr:pre ys (c+j)=ys:=by unfold pre; rw [if_neg h8]
    have hcy:=own_u8 hO.out m (by have:=pre_len HI.out; rw [HE.out,hpr] at this; omega)
    have hO2:=hO.out
    rw[← hpr] at hO2
    have HO2:Hid (Own 5 wr (w.heap.size+1+1) g (.slice (some ⟨g,0,none⟩) (m+1) cap) (u8s (pre ys (c+j)))):=hO2
    have hyy:=HY.out
    rw[hpr] at hyy
    rw[← hyy] at hcy
    obtain⟨hcy1,hcy2⟩:=hcy
    clear hL8 hpr hO2 hyy
    go_wp2_with fail
    refine (pow_any (pl j) _ (by omega)).mono ?_
    rintro e w1 ⟨rfl,rfl⟩
    go_wp2_with fail
    go_region_with (go_at_call 106; refine (pow_int _ _ ?_ ?_).mono ?_; omega; omega; rintro e w' ⟨rfl,rfl⟩)
    all_goals
     go_wp2_with fail
     go_roundw
     case rel=>exact⟨j+1,g,cap,m+1,by omega,by go_num,by go_num,rfl,by rw [HN.out]; exact own_bstep HO2.out HI.out HE.out HY.out,(hB.setCell hbl _).drew⟩
     case measure=>simp [intOf]; omega
  ·obtain rfl:j=n:=by omega
   have kc:=own_string (P:=Tryz.prog) ys 22 9 Tryz.underlying22 Tryz.underlying5 Tryz.underlying9 hO.out
   have r0:wr.cell? ⟨w.heap.size+1,0,none⟩=some (.string ⟨#[]⟩):=(hB.cell (p:=⟨w.heap.size+1,0,none⟩) (by simp)).trans hcW.1
   have r1:wr.cell? ⟨w.heap.size+1,1,none⟩=some (.int .i64 0):=(hB.cell (p:=⟨w.heap.size+1,1,none⟩) (by simp)).trans hcW.2.1
   have rf:∀ i,wr.frozen? ⟨w.heap.size+1,i,none⟩=false:=fun i=>(hB.frozen (p:=⟨w.heap.size+1,i,none⟩) (by simp)).trans (hcW.2.2 i)
   have hBB:Below w.heap.size w wr:=hBW.trans (hB.mono (by omega))
   clear hL8
   go_wp2_with fail
   refine bodyPost_ret (v:=.agg #[.string (strOfNums (puts xs c (fun j=>bitOf x (pl j)) j)),.int .i64 ((c+j:Nat):Int)]) ?_ rfl ⟨rfl,?_⟩
   ·rw[HYS.out]
    simp[results,Tryz.results151,go_sem,r0,r1]
   ·refine Below.setCell (Below.setCell hBB ?_ _) ?_ _
    ·simp
    ·simp
end
section
open Go.RowKit Go.Joins OutMath PutMath
def places (pl:Nat→Nat):Nat→List Value
 | 0=>[]
 | k+1=>places pl k ++ [.int .i64 (pl k)]
theorem places_length (pl:Nat→Nat):∀ k,(places pl k).length=k
 | 0=>rfl
 | k+1=>by simp [places,places_length pl k]
theorem places_get (pl:Nat→Nat):∀ k j (h:j < (places pl k).length),(places pl k)[j]=.int .i64 (pl j)
 | 0,j,h=>by simp [places] at h
 | k+1,j,h=>by
  have hl:=places_length pl k
  by_cases hj:j < k
  ·simp only [places]
   rw[List.getElem_append_left (by omega)]
   exact places_get pl k j (by omega)
  ·simp only [places] at h ⊢
   obtain rfl:j=k:=by simp [hl] at h; omega
   rw[List.getElem_append_right (by omega)]
   simp
def sliceLen:Value→Nat
 | .slice _ n _=>n
 | _=>0
end
section
open Go.RowKit Go.Joins OutMath PutMath
set_option maxHeartbeats 800000 in
theorem specPutBits_yes (s:ByteArray) (c:Nat) (x:Int) (n:Nat) (w:World) (h:May s c x n):
  Calls Tryz.prog 103 #[.agg #[.string s,.int .i64 c],.int .i64 x,.int .i64 n] w fun e w'=>e=.returned (.tuple #[.agg #[.string (putOut s c x (fun j=>j) n),.int .i64 ((c+n:Nat):Int)],.bool true])∧Below w.heap.size w w':=by
 obtain⟨h1,h2,h3,h4,h5,h6⟩:=id h
 obtain⟨q1,q2,q3,q4⟩:=fits_of_outB s c h1
 have HI:Hid (Inv (s.data.toList.map fun b=>(b.toNat:Int)) c):=bytes_inv s c h1
 have hp:p2 n≤16777216:=by
  have h1:=p2_le (show n≤24 by omega)
  have h2:p2 24=16777216:=by decide +kernel
  omega
 have hx:x≤16777216:=by rw [Int.toNat_natCast] at h5; omega
 have HM:Hid (May s c x n):=h
 clear q4 h1 h5 h
 go_enter Tryz.func103,Tryz.ntmps103
 go_wp2_with fail
 refine (l01May_yes s c x n _ (by unfold maxLen; omega) (by omega) (by omega) HM.out).mono ?_
 rintro e w1 ⟨rfl,hb1⟩
 obtain⟨W,hW⟩:∃ W,W=(w.alloc (.cells #[.string s,.int .i64 c] 43)).alloc (.cells #[.string ⟨#[]⟩,.int .i64 0] 43):=⟨_,rfl⟩
 rw[← hW] at hb1
 have hWs:W.heap.size=w.heap.size+1+1:=by rw [hW]; simp
 have hBW:Below w.heap.size w W:=by rw [hW]; exact bal (bstart _ _) _
 have hcW:W.cell? ⟨w.heap.size,0,none⟩=some (.string s)∧W.cell? ⟨w.heap.size,1,none⟩=some (.int .i64 c)∧W.cell? ⟨w.heap.size+1,0,none⟩=some (.string ⟨#[]⟩)∧W.cell? ⟨w.heap.size+1,1,none⟩=some (.int .i64 0)∧∀ j,W.frozen? ⟨w.heap.size+1,j,none⟩=false:=by rw [hW]; simp
 clear hW
 rw[hWs] at hb1
 have hz1:=hb1.size
 go_wp2_with fail
 have hE:Own 3 (w1.alloc (.cells #[] 3)) (w.heap.size+1+1) w1.heap.size (.slice (some ⟨w1.heap.size,0,none⟩) 0 0) []:=⟨0,#[],(0,0),rfl,by omega,heap_alloc_new w1 _,.inl rfl,Nat.le_refl _,Nat.zero_le _,rfl,rfl⟩
 go_loopw [8,9] (fun v i w'=>∃ j g cap:Nat,j≤n∧i=.int .i64 (j:Int)∧v=.slice (some ⟨g,0,none⟩) j cap∧Hid (Own 3 w' (w.heap.size+1+1) g (.slice (some ⟨g,0,none⟩) j cap) (places (fun j=>j) j))∧Below (w.heap.size+1+1) W w') (fun v _ _=>n - (sliceLen v))
 case atStart=>exact⟨0,w1.heap.size,0,Nat.zero_le _,by simp,rfl,hE,hb1.alloc (by omega) _⟩
 case round=>
  obtain⟨j,g,cap,hj,rfl,rfl,hO,hB⟩:=hrel
  have hbl:=hO.out.base_le
  have hBs:=hB.size
  by_cases hlt:j < n
  ·obtain⟨i0,hi0,hz0,hz1,hz2⟩:=info_parts info_int
   have hpl:=places_length (fun j=>j) j
   have hl63:(places (fun j=>j) j).length+1≤maxLen∧((places (fun j=>j) j).length+1) * 8≤140737488355328:=by rw [hpl]; unfold maxLen; omega
   have HN:Hid (places (fun j=>j) j ++ [.int .i64 (j:Int)]=places (fun j=>j) (j+1)):=by
    have e:((j:Int):Int)=(((fun j=>j) j:Nat):Int):=by simp
    rw[e]
    rfl
   clear hpl
   go_wp2_with (at_builtin; refine wpList_append1 rfl _ _ 25 rfl i0 (.int .i64 0) 8 Tryz.underlying25 hi0 hz0 hz1 hz2 rfl rfl (hO.out.alloc _) ⟨wr.heap.size,0,none⟩ 1 (.int .i64 (j:Int)) rfl ?c1 rfl rfl hl63.1 hl63.2 ?_)
   case c1=>simp
   ·intro g1 v1 w2 hO1 hg1 hgr
    rw[HN.out] at hO1
    have hB1:Below (w.heap.size+1+1) W w2:=(hB.alloc (by omega) _).grown hgr (by simp; omega) (fun k hk=>by cases hk; exact hbl)
    obtain⟨cap1,hv1⟩:=hO1.form
    rw[places_length] at hv1
    rw[hv1]
    rw[hv1] at hO1
    have HO1:Hid (Own 3 w2 (w.heap.size+1+1) g1 (.slice (some ⟨g1,0,none⟩) (j+1) cap1) (places (fun j=>j) (j+1))):=hO1
    clear hO1 hg1 hgr hv1 hi0 hz0 hz1 hz2 hl63
    go_wp2_with fail
    go_roundw
    case rel=>exact⟨j+1,g1,cap1,by omega,by go_num,rfl,HO1,hB1⟩
    case measure=>simp [sliceLen]; omega
  ·obtain rfl:n=j:=by omega
   have k0:wr.cell? ⟨w.heap.size,0,none⟩=some (.string s):=(hB.cell (p:=⟨w.heap.size,0,none⟩) (by simp; omega)).trans hcW.1
   have k1:wr.cell? ⟨w.heap.size,1,none⟩=some (.int .i64 c):=(hB.cell (p:=⟨w.heap.size,1,none⟩) (by simp; omega)).trans hcW.2.1
   go_wp2_with fail
   refine (l01Put_any s c x n (fun j=>j) g cap (s.data.toList.map fun b=>(b.toNat:Int)) wr q1 rfl HI.out (by omega) h4 hx (by omega) hO.out.lt (fun i hi=>⟨?_,by omega⟩)).mono ?_
   ·rw[hO.out.cell i (by rw [places_length]; exact hi),places_get]
   rintro e w2 ⟨rfl,hb2⟩
   have hB2:Below (w.heap.size+1+1) W w2:=hB.trans (hb2.mono (by omega))
   have r0:w2.cell? ⟨w.heap.size+1,0,none⟩=some (.string ⟨#[]⟩):=(hB2.cell (p:=⟨w.heap.size+1,0,none⟩) (by simp)).trans hcW.2.2.1
   have r1:w2.cell? ⟨w.heap.size+1,1,none⟩=some (.int .i64 0):=(hB2.cell (p:=⟨w.heap.size+1,1,none⟩) (by simp)).trans hcW.2.2.2.1
   have rf:∀ i,w2.frozen? ⟨w.heap.size+1,i,none⟩=false:=fun i=>(hB2.frozen (p:=⟨w.heap.size+1,i,none⟩) (by simp)).trans (hcW.2.2.2.2 i)
   have hBB:Below w.heap.size w w2:=hBW.trans (hB2.mono (by omega))
   go_wp2_with fail
   refine bodyPost_ret (v:=.tuple #[.agg #[.string (putOut s c x (fun j=>j) n),.int .i64 ((c+n:Nat):Int)],.bool true]) ?_ rfl ⟨rfl,?_⟩
   ·simp[results,Tryz.results103,go_sem,r0,r1,putOut]
   ·refine Below.setCell (Below.setCell hBB ?_ _) ?_ _
    ·simp
    ·simp
set_option maxHeartbeats 400000 in
theorem specPutBits_no (s:ByteArray) (c x n:Int) (w:World) (hs:s.size≤maxLen) (hc1:-9223372036854775808≤c) (hc2:c≤9223372036854775807) (h:¬ May s c x n):
  Calls Tryz.prog 103 #[.agg #[.string s,.int .i64 c],.int .i64 x,.int .i64 n] w fun e w'=>e=.returned (.tuple #[.agg #[.string ⟨#[]⟩,.int .i64 0],.bool false])∧Below w.heap.size w w':=by
 have H:Hid (¬ May s c x n):=h
 clear h
 go_enter Tryz.func103,Tryz.ntmps103
 go_wp2_with fail
 refine (l01May_no s c x n _ hs hc1 hc2 H.out).mono ?_
 rintro e w1 ⟨rfl,hb1⟩
 obtain⟨k1,f1⟩:=bcell hb1
 have hz:w.heap.size+1 < w1.heap.size:=by have:=hb1.size; simp at this; omega
 have hB:Below w.heap.size w w1:=bnext (bal (bstart _ _) _) hb1
 go_wp2_with fail
 refine bodyPost_ret (v:=.tuple #[.agg #[.string ⟨#[]⟩,.int .i64 0],.bool false]) (by simp [results,Tryz.results103,go_sem,k1]) rfl ⟨rfl,?_⟩
 refine Below.setCell (Below.setCell hB ?_ _) ?_ _
 ·simp
 ·simp
end
section
open Go.RowKit Go.Joins OutMath PutMath
set_option maxRecDepth 100000 in
set_option maxHeartbeats 800000 in
theorem specPutCode_yes (s:ByteArray) (c:Nat) (x:Int) (n:Nat) (w:World) (h:May s c x n):
  Calls Tryz.prog 102 #[.agg #[.string s,.int .i64 c],.int .i64 x,.int .i64 n] w fun e w'=>e=.returned (.tuple #[.agg #[.string (putOut s c x (fun j=>n - 1 - j) n),.int .i64 ((c+n:Nat):Int)],.bool true])∧Below w.heap.size w w':=by
 obtain⟨h1,h2,h3,h4,h5,h6⟩:=id h
 obtain⟨q1,q2,q3,q4⟩:=fits_of_outB s c h1
 have HI:Hid (Inv (s.data.toList.map fun b=>(b.toNat:Int)) c):=bytes_inv s c h1
 have hp:p2 n≤16777216:=by
  have h1:=p2_le (show n≤24 by omega)
  have h2:p2 24=16777216:=by decide +kernel
  omega
 have hx:x≤16777216:=by rw [Int.toNat_natCast] at h5; omega
 have HM:Hid (May s c x n):=h
 clear q4 h1 h5 h
 go_enter Tryz.func102,Tryz.ntmps102
 go_wp2_with fail
 refine (l01May_yes s c x n _ (by unfold maxLen; omega) (by omega) (by omega) HM.out).mono ?_
 rintro e w1 ⟨rfl,hb1⟩
 obtain⟨W,hW⟩:∃ W,W=(w.alloc (.cells #[.string s,.int .i64 c] 43)).alloc (.cells #[.string ⟨#[]⟩,.int .i64 0] 43):=⟨_,rfl⟩
 rw[← hW] at hb1
 have hWs:W.heap.size=w.heap.size+1+1:=by rw [hW]; simp
 have hBW:Below w.heap.size w W:=by rw [hW]; exact bal (bstart _ _) _
 have hcW:W.cell? ⟨w.heap.size,0,none⟩=some (.string s)∧W.cell? ⟨w.heap.size,1,none⟩=some (.int .i64 c)∧W.cell? ⟨w.heap.size+1,0,none⟩=some (.string ⟨#[]⟩)∧W.cell? ⟨w.heap.size+1,1,none⟩=some (.int .i64 0)∧∀ j,W.frozen? ⟨w.heap.size+1,j,none⟩=false:=by rw [hW]; simp
 clear hW
 rw[hWs] at hb1
 have hz1:=hb1.size
 go_wp2_with fail
 have hE:Own 3 (w1.alloc (.cells #[] 3)) (w.heap.size+1+1) w1.heap.size (.slice (some ⟨w1.heap.size,0,none⟩) 0 0) []:=⟨0,#[],(0,0),rfl,by omega,heap_alloc_new w1 _,.inl rfl,Nat.le_refl _,Nat.zero_le _,rfl,rfl⟩
 go_loopw [8,9] (fun v i w'=>∃ j g cap:Nat,j≤n∧i=.int .i64 ((n:Int) - 1 - j)∧v=.slice (some ⟨g,0,none⟩) j cap∧Hid (Own 3 w' (w.heap.size+1+1) g (.slice (some ⟨g,0,none⟩) j cap) (places (fun j=>n - 1 - j) j))∧Below (w.heap.size+1+1) W w') (fun v _ _=>n - (sliceLen v))
 case atStart=>exact⟨0,w1.heap.size,0,Nat.zero_le _,by simp,rfl,hE,hb1.alloc (by omega) _⟩
 case round=>
  obtain⟨j,g,cap,hj,rfl,rfl,hO,hB⟩:=hrel
  have hbl:=hO.out.base_le
  have hBs:=hB.size
  by_cases hlt:j < n
  ·obtain⟨i0,hi0,hz0,hz1,hz2⟩:=info_parts info_int
   have hpl:=places_length (fun j=>n - 1 - j) j
   have hl63:(places (fun j=>n - 1 - j) j).length+1≤maxLen∧((places (fun j=>n - 1 - j) j).length+1) * 8≤140737488355328:=by rw [hpl]; unfold maxLen; omega
   have HN:Hid (places (fun j=>n - 1 - j) j ++ [.int .i64 ((n:Int) - 1 - j)]=places (fun j=>n - 1 - j) (j+1)):=by
    have e:(((n:Int) - 1 - j):Int)=(((fun j=>n - 1 - j) j:Nat):Int):=by simp; omega
    rw[e]
    rfl
   clear hpl
   go_wp2_with (at_builtin; refine wpList_append1 rfl _ _ 25 rfl i0 (.int .i64 0) 8 Tryz.underlying25 hi0 hz0 hz1 hz2 rfl rfl (hO.out.alloc _) ⟨wr.heap.size,0,none⟩ 1 (.int .i64 ((n:Int) - 1 - j)) rfl ?c1 rfl rfl hl63.1 hl63.2 ?_)
   case c1=>simp
   ·intro g1 v1 w2 hO1 hg1 hgr
    rw[HN.out] at hO1
    have hB1:Below (w.heap.size+1+1) W w2:=(hB.alloc (by omega) _).grown hgr (by simp; omega) (fun k hk=>by cases hk; exact hbl)
    obtain⟨cap1,hv1⟩:=hO1.form
    rw[places_length] at hv1
    rw[hv1]
    rw[hv1] at hO1
    have HO1:Hid (Own 3 w2 (w.heap.size+1+1) g1 (.slice (some ⟨g1,0,none⟩) (j+1) cap1) (places (fun j=>n - 1 - j) (j+1))):=hO1
    clear hO1 hg1 hgr hv1 hi0 hz0 hz1 hz2 hl63
    go_wp2_with fail
    go_roundw
    case rel=>exact⟨j+1,g1,cap1,by omega,by go_num,rfl,HO1,hB1⟩
    case measure=>simp [sliceLen]; omega
  ·obtain rfl:n=j:=by omega
   have k0:wr.cell? ⟨w.heap.size,0,none⟩=some (.string s):=(hB.cell (p:=⟨w.heap.size,0,none⟩) (by simp; omega)).trans hcW.1
   have k1:wr.cell? ⟨w.heap.size,1,none⟩=some (.int .i64 c):=(hB.cell (p:=⟨w.heap.size,1,none⟩) (by simp; omega)).trans hcW.2.1
   go_wp2_with fail
   refine (l01Put_any s c x n (fun j=>n - 1 - j) g cap (s.data.toList.map fun b=>(b.toNat:Int)) wr q1 rfl HI.out (by omega) h4 hx (by omega) hO.out.lt (fun i hi=>⟨?_,by simp; omega⟩)).mono ?_
   ·rw[hO.out.cell i (by rw [places_length]; exact hi),places_get]
   rintro e w2 ⟨rfl,hb2⟩
   have hB2:Below (w.heap.size+1+1) W w2:=hB.trans (hb2.mono (by omega))
   have r0:w2.cell? ⟨w.heap.size+1,0,none⟩=some (.string ⟨#[]⟩):=(hB2.cell (p:=⟨w.heap.size+1,0,none⟩) (by simp)).trans hcW.2.2.1
   have r1:w2.cell? ⟨w.heap.size+1,1,none⟩=some (.int .i64 0):=(hB2.cell (p:=⟨w.heap.size+1,1,none⟩) (by simp)).trans hcW.2.2.2.1
   have rf:∀ i,w2.frozen? ⟨w.heap.size+1,i,none⟩=false:=fun i=>(hB2.frozen (p:=⟨w.heap.size+1,i,none⟩) (by simp)).trans (hcW.2.2.2.2 i)
   have hBB:Below w.heap.size w w2:=hBW.trans (hB2.mono (by omega))
   go_wp2_with fail
   refine bodyPost_ret (v:=.tuple #[.agg #[.string (putOut s c x (fun j=>n - 1 - j) n),.int .i64 ((c+n:Nat):Int)],.bool true]) ?_ rfl ⟨rfl,?_⟩
   ·simp[results,Tryz.results102,go_sem,r0,r1,putOut]
   ·refine Below.setCell (Below.setCell hBB ?_ _) ?_ _
    ·simp
    ·simp
set_option maxRecDepth 100000 in
set_option maxHeartbeats 400000 in
theorem specPutCode_no (s:ByteArray) (c x n:Int) (w:World) (hs:s.size≤maxLen) (hc1:-9223372036854775808≤c) (hc2:c≤9223372036854775807) (h:¬ May s c x n):
  Calls Tryz.prog 102 #[.agg #[.string s,.int .i64 c],.int .i64 x,.int .i64 n] w fun e w'=>e=.returned (.tuple #[.agg #[.string ⟨#[]⟩,.int .i64 0],.bool false])∧Below w.heap.size w w':=by
 have H:Hid (¬ May s c x n):=h
 clear h
 go_enter Tryz.func102,Tryz.ntmps102
 go_wp2_with fail
 refine (l01May_no s c x n _ hs hc1 hc2 H.out).mono ?_
 rintro e w1 ⟨rfl,hb1⟩
 obtain⟨k1,f1⟩:=bcell hb1
 have hz:w.heap.size+1 < w1.heap.size:=by have:=hb1.size; simp at this; omega
 have hB:Below w.heap.size w w1:=bnext (bal (bstart _ _) _) hb1
 go_wp2_with fail
 refine bodyPost_ret (v:=.tuple #[.agg #[.string ⟨#[]⟩,.int .i64 0],.bool false]) (by simp [results,Tryz.results102,go_sem,k1]) rfl ⟨rfl,?_⟩
 refine Below.setCell (Below.setCell hB ?_ _) ?_ _
 ·simp
 ·simp
end
section
open Go.RowKit Go.Joins OutMath BlockMath
def OB (w:World) (b:Nat) (s:ByteArray) (c:Int) (bad:Bool):Prop:=w.heap[b]?=some (.cells #[.string s,.int .i64 c,.bool bad] 97 (0,0))
section
variable {w w':World} {b:Nat} {s:ByteArray} {c:Int} {bad:Bool}
theorem OB.lt (h:OB w b s c bad):b < w.heap.size:=block_lt h
theorem OB.cells (h:OB w b s c bad):w.cell? ⟨b,0,none⟩=some (.string s)∧w.cell? ⟨b,1,none⟩=some (.int .i64 c)∧w.cell? ⟨b,2,none⟩=some (.bool bad):=
 ⟨(cell_of_block h 0).trans rfl,(cell_of_block h 1).trans rfl,(cell_of_block h 2).trans rfl⟩
theorem OB.free (h:OB w b s c bad) (q:Nat):w.frozen? ⟨b,q,none⟩=false:=by
 unfold OB at h
 simp[World.frozen?,h]
theorem OB.called (h:OB w b s c bad) (hb:Below w.heap.size w w'):OB w' b s c bad:=(hb.block b h.lt).trans h
theorem OB.turn (h:OB w b s c bad) (x:Bool):OB (w.setCell ⟨b,2,none⟩ (.bool x)) b s c x:=by
 have:=block_setCell (i:=2) h (.bool x)
 unfold OB
 simpa using this
theorem OB.out (h:OB w b s c bad) (t:ByteArray) (k:Int):OB ((w.setCell ⟨b,0,none⟩ (.string t)).setCell ⟨b,1,none⟩ (.int .i64 k)) b t k bad:=by
 have h0:=block_setCell (i:=0) h (.string t)
 have h1:=block_setCell (i:=1) h0 (.int .i64 k)
 unfold OB
 simpa using h1
theorem OB.other (h:OB w b s c bad) {g:Nat} (hg:b≠g) (i:Nat) (v:Value):OB (w.setCell ⟨g,i,none⟩ v) b s c bad:=by
 unfold OB at h ⊢
 rw[← h]
 simp[World.setCell,Array.getElem?_modify,Ne.symm hg]
theorem bgrown_called (hb:Below w.heap.size w w') (row:Option Nat):w.grownBy w' row:=⟨hb.os,hb.tape,hb.output,hb.size,fun k hk _=>hb.block k hk⟩
theorem bgrown_cell (w:World) (b o:Nat) (v:Value):w.grownBy (w.setCell ⟨b,o,none⟩ v) (some b):=
 ⟨rfl,rfl,rfl,by simp [World.setCell],fun i _ hi=>by simp [World.setCell,Array.getElem?_modify,show ¬ b=i from fun e=>hi (by rw [e])]⟩
theorem bgrown_new {w w':World} {row:Option Nat} (h:w.grownBy w' row) {g:Nat} (hg:w.heap.size≤g) (o:Nat) (v:Value):w.grownBy (w'.setCell ⟨g,o,none⟩ v) row:=
 ⟨h.os,h.tape,h.output,by simpa [World.setCell] using h.size,fun i hi hr=>by rw [← h.block i hi hr]; simp [World.setCell,Array.getElem?_modify,show ¬ g=i by omega]⟩
end
def OS (w:World) (b:Nat) (st:Option (ByteArray×Nat)):Prop:=∃ s c,OB w b s c st.isNone∧∀ o,st=some o→s=o.1∧c=(o.2:Int)∧outB o.1 o.2=true
theorem OS.called {w w':World} {b:Nat} {st:Option (ByteArray×Nat)} (h:OS w b st) (hb:Below w.heap.size w w'):OS w' b st:=by
 obtain⟨s,c,h1,h2⟩:=h
 exact⟨s,c,h1.called hb,h2⟩
theorem OS.put {w w1:World} {b:Nat} {s T:ByteArray} {k n:Nat} {B:Option (ByteArray×Nat)} (h:OB w1 b s (k:Int) false∧w.grownBy w1 (some b)) (hl:b < w.heap.size) (e:B=some (T,k+n)) (ho:outB T ((k+n:Nat):Int)=true):
  OS (((((w1.setCell ⟨w.heap.size,0,none⟩ (.string T)).setCell ⟨w.heap.size,1,none⟩ (.int .i64 ((k:Int)+(n:Int)))).setCell ⟨b,2,none⟩ (.bool false)).setCell ⟨b,0,none⟩ (.string T)).setCell ⟨b,1,none⟩ (.int .i64 ((k:Int)+(n:Int)))) b B
  ∧ w.grownBy (((((w1.setCell ⟨w.heap.size,0,none⟩ (.string T)).setCell ⟨w.heap.size,1,none⟩ (.int .i64 ((k:Int)+(n:Int)))).setCell ⟨b,2,none⟩ (.bool false)).setCell ⟨b,0,none⟩ (.string T)).setCell ⟨b,1,none⟩ (.int .i64 ((k:Int)+(n:Int)))) (some b):=by
 obtain⟨h1,h2⟩:=h
 have hne:b≠w.heap.size:=by omega
 subst e
 refine⟨⟨T,(k:Int)+(n:Int),((((h1.other hne 0 _).other hne 1 _).turn false).out T _),fun o ho'=>?_⟩,?_⟩
 ·cases ho'
  exact⟨rfl,by omega,ho⟩
 ·exact ((((bgrown_new (bgrown_new h2 (Nat.le_refl _) 0 _) (Nat.le_refl _) 1 _).trans (bgrown_cell _ b 2 _)).trans (bgrown_cell _ b 0 _))).trans (bgrown_cell _ b 1 _)
theorem OS.fail {w w1:World} {b:Nat} {s:ByteArray} {c:Int} {B:Option (ByteArray×Nat)} (h:OB w1 b s c false∧w.grownBy w1 (some b)) (hl:b < w.heap.size) (e:B=none):
  OS (((w1.setCell ⟨w.heap.size,0,none⟩ (.string ⟨#[]⟩)).setCell ⟨w.heap.size,1,none⟩ (.int .i64 0)).setCell ⟨b,2,none⟩ (.bool true)) b B
  ∧ w.grownBy (((w1.setCell ⟨w.heap.size,0,none⟩ (.string ⟨#[]⟩)).setCell ⟨w.heap.size,1,none⟩ (.int .i64 0)).setCell ⟨b,2,none⟩ (.bool true)) (some b):=by
 obtain⟨h1,h2⟩:=h
 have hne:b≠w.heap.size:=by omega
 subst e
 refine⟨⟨s,c,((h1.other hne 0 _).other hne 1 _).turn true,fun o ho'=>by cases ho'⟩,?_⟩
 exact (bgrown_new (bgrown_new h2 (Nat.le_refl _) 0 _) (Nat.le_refl _) 1 _).trans (bgrown_cell _ b 2 _)
set_option maxRecDepth 100000 in
set_option maxHeartbeats 3200000 in
theorem l09Put_any (b:Nat) (st:Option (ByteArray×Nat)) (x:Int) (n:Nat) (high:Bool) (w:World) (h:OS w b st) (h0:0≤x) (h1:x < p2 n) (hn:n≤24):
  Calls Tryz.prog 64 #[.pointer (some ⟨b,0,none⟩),.int .i64 x,.int .i64 (n:Int),.bool high] w fun e w'=>e=.returned (.tuple #[])∧OS w' b (st.bind fun o=>bitsOut o (pieceBits x n high))∧w.grownBy w' (some b):=by
 obtain⟨s,c,hO,hs⟩:=h
 obtain⟨c0,c1,c2⟩:=hO.cells
 have hl:=hO.lt
 have HO:=hid_of hO
 cases st with
 | none=>
  simp only [Option.isNone_none] at c2 HO
  have HE:Hid (OS w b ((none:Option (ByteArray×Nat)).bind fun o=>bitsOut o (pieceBits x n high))):=⟨s,c,HO.out,fun o h=>by cases h⟩
  clear hO hs c0 c1
  go_enter Tryz.func64,Tryz.ntmps64
  go_wp2_with fail
  refine bodyPost_ret (v:=.tuple #[]) (by simp [results,Tryz.results64,go_sem]) rfl ?_
  exact⟨rfl,HE.out,bgrown_called (Below.refl _ _) _⟩
 | some o=>
  obtain⟨t,k⟩:=o
  obtain⟨rfl,rfl,hout⟩:=hs _ rfl
  simp only [Option.isNone_some] at c2 HO
  show Calls _ _ _ _ fun e w'=>e=.returned (.tuple #[])∧OS w' b (bitsOut (s,k) (pieceBits x n high))∧w.grownBy w' (some b)
  clear hO hs
  have hk:=fits_of_outB s (k:Int) hout
  by_cases hr:k+n≤96000
  ·have hM:May s (k:Int) x (n:Int):=⟨hout,by omega,by omega,h0,by rw [Int.toNat_natCast]; exact h1,by omega⟩
   have HP:Hid (bitsOut (s,k) (pieceBits x n high)=some (strOfNums (putB (numsOf s) k (pieceBits x n high)),k+n)):=by
    have:=bitsOut_some (bs:=pieceBits x n high) hout (by rw [pieceBits_length]; exact hr)
    rw[pieceBits_length] at this
    exact this
   have HQ:Hid (outB (strOfNums (putB (numsOf s) k (pieceBits x n high))) ((k+n:Nat):Int)=true):=(bitsOut_right HP.out (pieceBits_01 x n high)).1
   cases high with
   | false=>
    have hcl:=fun w=>specPutBits_yes s k x n w hM
    rw[putOut_low] at hcl
    obtain⟨T,hT⟩:∃ T,T=strOfNums (putB (numsOf s) k (pieceBits x n false)):=⟨_,rfl⟩
    rw[← hT] at hcl HP HQ
    clear hT hM h0 h1 hk
    go_enter Tryz.func64,Tryz.ntmps64
    go_wp2_with fail
    refine (hcl _).mono ?_
    rintro e w1 ⟨rfl,hB1⟩
    clear hcl
    have h1:OB w1 b s (k:Int) false:=(HO.out.called (bstart w (.cells #[.string ⟨#[]⟩,.int .i64 0] 43))).called hB1
    have hx:w1.heap[w.heap.size]?=some (.cells #[.string ⟨#[]⟩,.int .i64 0] 43 (0,0)):=(hB1.block _ (by simp)).trans (heap_alloc_new w _)
    obtain⟨d0,d1,d2⟩:=h1.cells
    have df:=h1.free
    have hl1:=h1.lt
    have x0:w1.cell? ⟨w.heap.size,0,none⟩=some (.string ⟨#[]⟩):=(cell_of_block hx 0).trans rfl
    have x1:w1.cell? ⟨w.heap.size,1,none⟩=some (.int .i64 0):=(cell_of_block hx 1).trans rfl
    have xf:∀ q,w1.frozen? ⟨w.heap.size,q,none⟩=false:=fun q=>by simp [World.frozen?,hx]
    have xl:w.heap.size < w1.heap.size:=block_lt hx
    have hne:b≠w.heap.size:=by omega
    have hne':w.heap.size≠b:=by omega
    have HB1:Hid (OB w1 b s (k:Int) false∧w.grownBy w1 (some b)):=⟨h1,bgrown_called (bnext (bstart w (.cells #[.string ⟨#[]⟩,.int .i64 0] 43)) hB1) _⟩
    clear hB1 h1 hx c0 c1 c2
    go_wp2_with fail
    go_end0
    exact⟨rfl,OS.put HB1.out hl HP.out HQ.out⟩
   | true=>
    have hcl:=fun w=>specPutCode_yes s k x n w hM
    rw[putOut_high] at hcl
    obtain⟨T,hT⟩:∃ T,T=strOfNums (putB (numsOf s) k (pieceBits x n true)):=⟨_,rfl⟩
    rw[← hT] at hcl HP HQ
    clear hT hM h0 h1 hk
    go_enter Tryz.func64,Tryz.ntmps64
    go_wp2_with fail
    refine (hcl _).mono ?_
    rintro e w1 ⟨rfl,hB1⟩
    clear hcl
    have h1:OB w1 b s (k:Int) false:=(HO.out.called (bstart w (.cells #[.string ⟨#[]⟩,.int .i64 0] 43))).called hB1
    have hx:w1.heap[w.heap.size]?=some (.cells #[.string ⟨#[]⟩,.int .i64 0] 43 (0,0)):=(hB1.block _ (by simp)).trans (heap_alloc_new w _)
    obtain⟨d0,d1,d2⟩:=h1.cells
    have df:=h1.free
    have hl1:=h1.lt
    have x0:w1.cell? ⟨w.heap.size,0,none⟩=some (.string ⟨#[]⟩):=(cell_of_block hx 0).trans rfl
    have x1:w1.cell? ⟨w.heap.size,1,none⟩=some (.int .i64 0):=(cell_of_block hx 1).trans rfl
    have xf:∀ q,w1.frozen? ⟨w.heap.size,q,none⟩=false:=fun q=>by simp [World.frozen?,hx]
    have xl:w.heap.size < w1.heap.size:=block_lt hx
    have hne:b≠w.heap.size:=by omega
    have hne':w.heap.size≠b:=by omega
    have HB1:Hid (OB w1 b s (k:Int) false∧w.grownBy w1 (some b)):=⟨h1,bgrown_called (bnext (bstart w (.cells #[.string ⟨#[]⟩,.int .i64 0] 43)) hB1) _⟩
    clear hB1 h1 hx c0 c1 c2
    go_wp2_with fail
    go_end0
    exact⟨rfl,OS.put HB1.out hl HP.out HQ.out⟩
  ·have hM:¬ May s (k:Int) x (n:Int):=fun h=>hr (by have:=h.2.2.2.2.2; omega)
   have HP:Hid (bitsOut (s,k) (pieceBits x n high)=none):=bitsOut_none (fun h=>hr (by have:=h.2; rwa [pieceBits_length] at this))
   cases high with
   | false=>
    have hcl:=fun w=>specPutBits_no s k x n w (by unfold maxLen; have:=hk.1; omega) (by omega) (by have:=hk.1; have:=hk.2.2.1; omega) hM
    clear hM h0 h1 hk
    go_enter Tryz.func64,Tryz.ntmps64
    go_wp2_with fail
    refine (hcl _).mono ?_
    rintro e w1 ⟨rfl,hB1⟩
    clear hcl
    have h1:OB w1 b s (k:Int) false:=(HO.out.called (bstart w (.cells #[.string ⟨#[]⟩,.int .i64 0] 43))).called hB1
    have hx:w1.heap[w.heap.size]?=some (.cells #[.string ⟨#[]⟩,.int .i64 0] 43 (0,0)):=(hB1.block _ (by simp)).trans (heap_alloc_new w _)
    obtain⟨d0,d1,d2⟩:=h1.cells
    have df:=h1.free
    have hl1:=h1.lt
    have x0:w1.cell? ⟨w.heap.size,0,none⟩=some (.string ⟨#[]⟩):=(cell_of_block hx 0).trans rfl
    have x1:w1.cell? ⟨w.heap.size,1,none⟩=some (.int .i64 0):=(cell_of_block hx 1).trans rfl
    have xf:∀ q,w1.frozen? ⟨w.heap.size,q,none⟩=false:=fun q=>by simp [World.frozen?,hx]
    have xl:w.heap.size < w1.heap.size:=block_lt hx
    have hne:b≠w.heap.size:=by omega
    have hne':w.heap.size≠b:=by omega
    have HB1:Hid (OB w1 b s (k:Int) false∧w.grownBy w1 (some b)):=⟨h1,bgrown_called (bnext (bstart w (.cells #[.string ⟨#[]⟩,.int .i64 0] 43)) hB1) _⟩
    clear hB1 h1 hx c0 c1 c2
    go_wp2_with fail
    go_end0
    exact⟨rfl,OS.fail HB1.out hl HP.out⟩
   | true=>
    have hcl:=fun w=>specPutCode_no s k x n w (by unfold maxLen; have:=hk.1; omega) (by omega) (by have:=hk.1; have:=hk.2.2.1; omega) hM
    clear hM h0 h1 hk
    go_enter Tryz.func64,Tryz.ntmps64
    go_wp2_with fail
    refine (hcl _).mono ?_
    rintro e w1 ⟨rfl,hB1⟩
    clear hcl
    have h1:OB w1 b s (k:Int) false:=(HO.out.called (bstart w (.cells #[.string ⟨#[]⟩,.int .i64 0] 43))).called hB1
    have hx:w1.heap[w.heap.size]?=some (.cells #[.string ⟨#[]⟩,.int .i64 0] 43 (0,0)):=(hB1.block _ (by simp)).trans (heap_alloc_new w _)
    obtain⟨d0,d1,d2⟩:=h1.cells
    have df:=h1.free
    have hl1:=h1.lt
    have x0:w1.cell? ⟨w.heap.size,0,none⟩=some (.string ⟨#[]⟩):=(cell_of_block hx 0).trans rfl
    have x1:w1.cell? ⟨w.heap.size,1,none⟩=some (.int .i64 0):=(cell_of_block hx 1).trans rfl
    have xf:∀ q,w1.frozen? ⟨w.heap.size,q,none⟩=false:=fun q=>by simp [World.frozen?,hx]
    have xl:w.heap.size < w1.heap.size:=block_lt hx
    have hne:b≠w.heap.size:=by omega
    have hne':w.heap.size≠b:=by omega
    have HB1:Hid (OB w1 b s (k:Int) false∧w.grownBy w1 (some b)):=⟨h1,bgrown_called (bnext (bstart w (.cells #[.string ⟨#[]⟩,.int .i64 0] 43)) hB1) _⟩
    clear hB1 h1 hx c0 c1 c2
    go_wp2_with fail
    go_end0
    exact⟨rfl,OS.fail HB1.out hl HP.out⟩
end
end Go.Proofs.YtklpiihnbokkkaaGreatDoor
