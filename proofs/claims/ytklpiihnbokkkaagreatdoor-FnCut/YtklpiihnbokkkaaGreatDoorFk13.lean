/-
  Texts of the proof, put together.
-/
import Derived.Test.YtklpiihnbokkkaaGreatDoorFk12
import Derived.Deep.RegionHeld3
namespace Go.Proofs.YtklpiihnbokkkaaGreatDoor
section
open Go.RowKit Go.Joins BigTextMath StandMath DeflMath
theorem xor_nat (a b:Nat) (ha:a < 256) (hb:b < 256):bits .xor .u8 (a:Int) (b:Int)=((a ^^^ b:Nat):Int):=by
 have h1:(BitVec.ofInt 8 (a:Int)).toNat=a:=by
  rw[BitVec.ofInt_natCast,BitVec.toNat_ofNat]; exact Nat.mod_eq_of_lt (by omega)
 have h2:(BitVec.ofInt 8 (b:Int)).toNat=b:=by
  rw[BitVec.ofInt_natCast,BitVec.toNat_ofNat]; exact Nat.mod_eq_of_lt (by omega)
 have hx:a ^^^ b < 2 ^ 8:=Nat.xor_lt_two_pow (by omega) (by omega)
 show IntKind.u8.wrap ((BitVec.ofInt 8 (a:Int) ^^^ BitVec.ofInt 8 (b:Int)).toNat:Int)=_
 rw[BitVec.toNat_xor,h1,h2]
 show ((a ^^^ b:Nat):Int) % 256=_
 omega
theorem xor_turn (b:Int) (m:Nat) (h0:0≤b) (h1:b < 256) (hm:m≤7):0≤bits .xor .u8 b (2 ^ m)∧bits .xor .u8 b (2 ^ m) < 256∧bits .xor .u8 b (2 ^ m)≠b:=by
 obtain⟨n,rfl⟩:=Int.eq_ofNat_of_zero_le h0
 have hp:2 ^ m < 256:=by
  have:=Nat.pow_le_pow_right (n:=2) (by omega) hm
  omega
 have hq:1≤2 ^ m:=Nat.one_le_two_pow
 have e:=xor_nat n (2 ^ m) (by omega) hp
 rw[show (((2 ^ m:Nat):Int))=(2:Int) ^ m by simp] at e
 rw[e]
 have hx:n ^^^ 2 ^ m < 2 ^ 8:=Nat.xor_lt_two_pow (by omega) (by omega)
 refine⟨by omega,by omega,fun h=>?_⟩
 have h':n ^^^ 2 ^ m=n:=by omega
 have h2:n ^^^ (n ^^^ 2 ^ m)=n ^^^ n:=by rw [h']
 rw[← Nat.xor_assoc,Nat.xor_self,Nat.zero_xor] at h2
 omega
theorem BOwn.set {w:World} {base g n cap:Nat} {O:List Int} (h:BOwn w base g n cap O) (j:Nat) (hj:j < n) (x:Int):BOwn (w.setCell ⟨g,j,none⟩ (.int .u8 x)) base g n cap (O.set j x):=by
 refine⟨by rw [List.length_set]; exact h.1,?_⟩
 have k:=Own.set h.2 j (by rw [u8l_length]; have:=h.1; omega) (.int .u8 x)
 have e:(u8l O).set j (.int .u8 x)=u8l (O.set j x):=by simp [u8l,List.map_set]
 rw[e] at k
 exact k
theorem BOwn.free {w:World} {base g n cap:Nat} {O:List Int} (h:BOwn w base g n cap O) (j:Nat) (hj:j < n):w.frozen? ⟨g,j,none⟩=false:=Own.free h.2 j (by rw [u8l_length]; have:=h.1; omega)
def ZSt (w w':World) (gp cp:Nat) (zs:List Int):Prop:=OrderG w'∧Own 3 w' w.heap.size gp (.slice (some ⟨gp,0,none⟩) 12 cp) (i64s zs)∧Below w.heap.size w w'
theorem ZSt.called {w w' w2:World} {gp cp:Nat} {zs:List Int} (h:ZSt w w' gp cp zs) (hb:Below w'.heap.size w' w2):ZSt w w2 gp cp zs:=⟨h.1.below hb h.1.1,h.2.1.below hb h.2.1.lt,bnext h.2.2 hb⟩
set_option maxRecDepth 100000 in
set_option maxHeartbeats 6400000 in
theorem FnZlib_at (hZ:ZlibAnswer) (hI:InflOk) (a:Option Addr) (len cap:Nat) (w:World) (hK:CodeAt w w.heap.size a len) (hl:(len:Int)≤1048576) (hG:OrderG w):
  Calls Tryz.prog 4 #[.slice a len cap] w fun e w'=>e=.returned (.bool true)∧Below w.heap.size w w':=by
 have HK:=hid_of hK
 have HG:=hid_of hG
 have HZ:=hid_of hZ
 have HI:=hid_of hI
 clear hK hG hZ hI
 go_enter Tryz.func4,Tryz.ntmps4
 go_wp2_with fail
 refine (big_no a len cap _ hl).mono ?_
 rintro e w0 ⟨rfl,rfl⟩
 go_wp2_with fail
 refine (draw_data a len cap w0.heap.size w0 HK.out (by omega) (Nat.le_refl _)).mono ?_
 rintro e w1 ⟨t,rfl,hts,hB1⟩
 have HB1:=hid_of hB1
 clear hB1
 go_wp2_with fail
 refine (draw_places a len cap w0.heap.size w1 (HK.out.below HB1.out) (by omega) HB1.out.size).mono ?_
 rintro e w2 ⟨gp,cp,zs,rfl,hzl,hzb,hO2,hB2⟩
 have H0:Hid (ZSt w0 w2 gp cp zs):=⟨HG.out.below (HB1.out.trans hB2) HG.out.1,hO2,HB1.out.trans hB2⟩
 have HZB:=hid_of hzb
 have HZL:=hid_of hzl
 clear hO2 hB2 HB1 hzb hzl
 go_wp2_with fail
 go_loopw [5] (fun i w'=>∃ j:Nat,j≤4∧i=.int .i64 j∧Hid (ZSt w0 w' gp cp zs)) (fun i _=>4 - (intOf i).toNat)
 case atStart=>exact⟨0,by omega,rfl,H0⟩
 case round=>
  clear H0
  obtain⟨lv,hj,rfl,hS⟩:=hrel
  by_cases hlt:lv < 4
  ·have dl:decide ((lv:Int)≤3)=true:=decide_eq_true (by omega)
   have hwf:(Lit.int .i64 (lv:Int)).wf=true:=by
    have:lv=0∨lv=1∨lv=2∨lv=3:=by omega
    rcases this with rfl | rfl | rfl | rfl <;> decide
   have hzo:=fun W hG=>HZ.out t (lv:Int) W (by omega) hwf hG
   have e1:zlibAns t (lv:Int)=.tuple #[.string (zX t lv (zsum t)),.bool true]:=by
    unfold zlibAns
    rw[if_pos ⟨by omega,by omega,by omega⟩,Int.toNat_natCast]
    rfl
   rw[e1] at hzo
   clear e1
   go_wp2_with fail
   refine (hzo wr hS.out.1).mono ?_
   rintro e w3 ⟨rfl,hB3⟩
   have HS3:=hid_of (hS.out.called hB3)
   clear hB3 hzo hS hwf
   have hs1:(zX t lv (zsum t)).size=6+(deflT t lv).size:=by rw [zX_size,zsum_size]; omega
   obtain⟨p0,Ty0,r1,r2,r3,_⟩:=defl_reads t lv (by omega)
   have hd1:1≤(deflT t lv).size∧(deflT t lv).size≤11000:=by omega
   clear r1 r2 r3
   have hra:=fun W hG=>zRead_on HI.out t (zsum t) lv W (by omega) (by omega) (by rw [zsum_size]; omega) (by rw [zsum_size]; omega) hG
   rw[rd_right] at hra
   have hrb:=fun W hG=>zRead_on HI.out t (zsum t ++ ⟨#[120]⟩) lv W (by omega) (by omega) (by rw [size_app,zsum_size]; omega) (by rw [size_app,zsum_size]; show 4+1≤100; omega) hG
   rw[rd_more t _ (by show 1≤1; omega),← zX_more] at hrb
   have e3:((zsum t).extract 0 3).size=3:=by rw [ByteArray.size_extract,zsum_size]; rfl
   have hrc:=fun W hG=>zRead_on HI.out t ((zsum t).extract 0 3) lv W (by omega) (by omega) (by rw [e3]; omega) (by rw [e3]; omega) hG
   rw[rd_less t _ (by rw [e3]; omega)] at hrc
   have e4:=zX_less t lv (zsum t) (5+(deflT t lv).size) (by omega)
   rw[show 5+(deflT t lv).size - (2+(deflT t lv).size)=3 by omega] at e4
   rw[← e4] at hrc
   clear e3 e4
   obtain⟨D,hD⟩:∃ D,D=(deflT t lv).size:=⟨_,rfl⟩
   rw[← hD] at hs1 hd1 hrc
   have HD:=hid_of hD
   obtain⟨Z,hZ⟩:∃ Z,Z=zX t lv (zsum t):=⟨_,rfl⟩
   rw[← hZ] at hs1 hra hrb hrc ⊢
   have HZ2:=hid_of hZ
   clear hD hZ
   have n6:(Z.size:Int)=6+(D:Int):=by omega
   go_wp2_with fail
   refine (hra w3 HS3.out.1).mono ?_
   rintro e w4 ⟨rfl,hB4⟩
   have HS4:=hid_of (HS3.out.called hB4)
   clear hB4 HS3
   have d7:decide ((Z.size:Int) < 7)=false:=decide_eq_false (by omega)
   go_wp2_with fail
   refine (hrb w4 HS4.out.1).mono ?_
   rintro e w5 ⟨rfl,hB5⟩
   have HS5:=hid_of (HS4.out.called hB5)
   clear hB5 HS4
   have i1:(6+(D:Int) - 1).toNat=5+D:=by omega
   have n3:¬ 5+D=Z.size:=by omega
   go_wp2_with fail
   refine (hrc w5 HS5.out.1).mono ?_
   rintro e w6 ⟨rfl,hB6⟩
   have HS6:=hid_of (HS5.out.called hB6)
   clear hB6 HS5 hra hrb hrc
   obtain⟨W7,cz,hcv,hO7,hB7⟩:=bown_of_text w6 Z (by omega)
   have HS7:=hid_of (HS6.out.called hB7)
   have HO7:=hid_of hO7
   have HB7:=hid_of hB7
   have hgg:=HS6.out.2.1.lt
   obtain⟨gb,hgb⟩:∃ gb,gb=w6.heap.size:=⟨_,rfl⟩
   rw[← hgb] at hcv HO7 HB7 hgg
   have HGB:=hid_of hgb
   clear hO7 hB7 hgb
   rw[hs1] at hcv HO7
   have hp0:=HZB.out (zs.getD 0 0) (by rw [List.getD_eq_getElem?_getD,List.getElem?_eq_getElem (by rw [HZL.out]; omega)]; exact List.getElem_mem _)
   have hp1:=HZB.out (zs.getD 1 0) (by rw [List.getD_eq_getElem?_getD,List.getElem?_eq_getElem (by rw [HZL.out]; omega)]; exact List.getElem_mem _)
   have cp0:W7.cell? ⟨gp,0,none⟩=some (.int .i64 (zs.getD 0 0)):=by rw [HS7.out.2.1.cell 0 (by rw [i64s_length,HZL.out]; omega),i64s_get]
   have cp1:W7.cell? ⟨gp,1,none⟩=some (.int .i64 (zs.getD 1 0)):=by rw [HS7.out.2.1.cell 1 (by rw [i64s_length,HZL.out]; omega),i64s_get]
   have lgp:=HS7.out.2.1.lt
   generalize zs.getD 0 0=P0 at hp0 cp0
   generalize zs.getD 1 0=P1 at hp1 cp1
   obtain⟨jj,hjj⟩:∃ jj:Nat,(jj:Int)=P0 % 4:=⟨(P0 % 4).toNat,by omega⟩
   obtain⟨mm,hmm⟩:∃ mm:Nat,(mm:Int)=P1 % 8:=⟨(P1 % 8).toNat,by omega⟩
   have t0:P0.tmod 4=(jj:Int):=by rw [Int.tmod_eq_emod_of_nonneg hp0.1]; exact hjj.symm
   have t1:P1.tmod 8=(mm:Int):=by rw [Int.tmod_eq_emod_of_nonneg hp1.1]; exact hmm.symm
   have hj3:jj≤3:=by omega
   have hm7:mm≤7:=by omega
   obtain⟨x,hx⟩:∃ x,x=5+D - jj:=⟨_,rfl⟩
   have hx1:x < 6+D:=by omega
   have x1:(6+(D:Int) - 1 - (jj:Int))=(x:Int):=by omega
   have x2:(5+(D:Int) - (jj:Int))=(x:Int):=by omega
   have xl:(x:Int) < 6+(D:Int):=by omega
   have cb:=HO7.out.cell x hx1
   have fb:=HO7.out.free x hx1
   have lb:=HO7.out.lt
   have HX:=hid_of hx
   have HBY:Hid ((bytesOf Z).getD x 0=(low (AdlerMath.adler 1 t) 4).getD (3 - jj) 0):=by
    show _=_
    rw[HZ2.out,HX.out,show 5+D - jj=2+(deflT t lv).size+(3 - jj) by rw [← HD.out]; omega]
    exact zX_byte t lv (3 - jj) _ (low_bytes _ 4)
   have hbr:0≤(bytesOf Z).getD x 0∧(bytesOf Z).getD x 0 < 256:=by
    rw[HBY.out]
    refine low_bytes (AdlerMath.adler 1 t) 4 _ ?_
    rw[List.getD_eq_getElem?_getD,List.getElem?_eq_getElem (by rw [low_length]; omega)]
    exact List.getElem_mem _
   have hxt:=xor_turn ((bytesOf Z).getD x 0) mm hbr.1 hbr.2 hm7
   obtain⟨Y,hY⟩:∃ Y,Y=(bytesOf Z).getD x 0:=⟨_,rfl⟩
   rw[← hY] at cb hbr hxt HBY
   have HYT:=hid_of hxt
   have pw:(1:Int)≤2 ^ mm∧(2:Int) ^ mm≤128:=by
    have h1:=OutMath.p2_pos mm
    have h2:=OutMath.p2_le hm7
    rw[show OutMath.p2 7=128 by decide +kernel] at h2
    exact⟨h1,h2⟩
   obtain⟨Q,hQ⟩:∃ Q:Int,Q=2 ^ mm:=⟨_,rfl⟩
   rw[← hQ] at pw HYT
   have rQ:=hQ.symm
   have u1:Q % 256=Q:=by omega
   have u2':IntKind.u8.wrap Q=Q:=by show Q % 256=Q; omega
   have mn:min mm 64=mm:=by omega
   have wx:IntKind.i64.wrap (x:Int)=(x:Int):=by rw [IntKind.wrap_i64]; omega
   have w5':IntKind.i64.wrap (5+(D:Int))=5+(D:Int):=by rw [IntKind.wrap_i64]; omega
   have w6':IntKind.i64.wrap (6+(D:Int) - 1)=6+(D:Int) - 1:=by rw [IntKind.wrap_i64]; omega
   have wj:IntKind.i64.wrap (jj:Int)=(jj:Int):=by rw [IntKind.wrap_i64]; omega
   have wm:IntKind.i64.wrap (mm:Int)=(mm:Int):=by rw [IntKind.wrap_i64]; omega
   clear hjj hmm hx hY hQ hxt hs1
   go_wp2_with fail
   refine wp_region_held (S:=fun u=>u.cell? ⟨gp,0,none⟩=some (.int .i64 P0)∧u.cell? ⟨gp,1,none⟩=some (.int .i64 P1)) (by kernel_rfl) ?_
   show wpAnyH _ _ _ _ _ _ _ _ W7.drew
   have HS:W7.drew.cell? ⟨gp,0,none⟩=some (.int .i64 P0)∧W7.drew.cell? ⟨gp,1,none⟩=some (.int .i64 P1):=⟨cp0,cp1⟩
   refine wpAnyH_take (i:=0) (v:=.slice (some ⟨gb,0,none⟩) (6+D) cz) rfl (by kernel_rfl) (by kernel_rfl) (by kernel_rfl) (fun _ _ _ h=>h) (Or.inl ⟨by rfl,?_⟩) HS ?_
   ·intro w' hS
    obtain⟨s0,s1⟩:=hS
    go_simp
   simp only [Act.put,List.getElem_toArray,List.getElem_cons_zero,List.setIfInBounds_toArray,List.set_cons_zero,List.set_cons_succ]
   refine wpAnyH_take (i:=1) (v:=.int .i64 (6+(D:Int))) rfl (by kernel_rfl) (by kernel_rfl) (by kernel_rfl) (fun _ _ _ h=>h) (Or.inl ⟨by rfl,?_⟩) HS ?_
   ·intro w' hS
    obtain⟨s0,s1⟩:=hS
    go_simp
   simp only [Act.put,List.getElem_toArray,List.getElem_cons_zero,List.getElem_cons_succ,List.setIfInBounds_toArray,List.set_cons_zero,List.set_cons_succ]
   refine wpAnyH_take (i:=2) (v:=.int .i64 (6+(D:Int) - 1)) rfl (by kernel_rfl) (by kernel_rfl) (by kernel_rfl) (fun _ _ _ h=>h) (Or.inl ⟨by rfl,?_⟩) HS ?_
   ·intro w' hS
    obtain⟨s0,s1⟩:=hS
    go_simp
   simp only [Act.put,List.getElem_toArray,List.getElem_cons_zero,List.getElem_cons_succ,List.setIfInBounds_toArray,List.set_cons_zero,List.set_cons_succ]
   refine wpAnyH_take (i:=3) (v:=.slice (some ⟨gp,0,none⟩) 12 cp) rfl (by kernel_rfl) (by kernel_rfl) (by kernel_rfl) (fun _ _ _ h=>h) (Or.inl ⟨by rfl,?_⟩) HS ?_
   ·intro w' hS
    obtain⟨s0,s1⟩:=hS
    go_simp
   simp only [Act.put,List.getElem_toArray,List.getElem_cons_zero,List.getElem_cons_succ,List.setIfInBounds_toArray,List.set_cons_zero,List.set_cons_succ]
   refine wpAnyH_take (i:=4) (v:=.pointer (some ⟨gp,0,none⟩)) rfl (by kernel_rfl) (by kernel_rfl) (by kernel_rfl) (fun _ _ _ h=>h) (Or.inl ⟨by rfl,?_⟩) HS ?_
   ·intro w' hS
    obtain⟨s0,s1⟩:=hS
    go_simp
   simp only [Act.put,List.getElem_toArray,List.getElem_cons_zero,List.getElem_cons_succ,List.setIfInBounds_toArray,List.set_cons_zero,List.set_cons_succ]
   refine wpAnyH_take (i:=5) (v:=.int .i64 P0) rfl (by kernel_rfl) (by kernel_rfl) (by kernel_rfl) (fun _ _ _ h=>h) (Or.inl ⟨by rfl,?_⟩) HS ?_
   ·intro w' hS
    obtain⟨s0,s1⟩:=hS
    go_simp
   simp only [Act.put,List.getElem_toArray,List.getElem_cons_zero,List.getElem_cons_succ,List.setIfInBounds_toArray,List.set_cons_zero,List.set_cons_succ]
   refine wpAnyH_take (i:=6) (v:=.int .i64 (jj:Int)) rfl (by kernel_rfl) (by kernel_rfl) (by kernel_rfl) (fun _ _ _ h=>h) (Or.inl ⟨by rfl,?_⟩) HS ?_
   ·intro w' hS
    obtain⟨s0,s1⟩:=hS
    go_simp
   simp only [Act.put,List.getElem_toArray,List.getElem_cons_zero,List.getElem_cons_succ,List.setIfInBounds_toArray,List.set_cons_zero,List.set_cons_succ]
   refine wpAnyH_take (i:=7) (v:=.int .i64 (x:Int)) rfl (by kernel_rfl) (by kernel_rfl) (by kernel_rfl) (fun _ _ _ h=>h) (Or.inl ⟨by rfl,?_⟩) HS ?_
   ·intro w' hS
    obtain⟨s0,s1⟩:=hS
    go_simp
   simp only [Act.put,List.getElem_toArray,List.getElem_cons_zero,List.getElem_cons_succ,List.setIfInBounds_toArray,List.set_cons_zero,List.set_cons_succ]
   refine wpAnyH_take (i:=8) (v:=.slice (some ⟨gb,0,none⟩) (6+D) cz) rfl (by kernel_rfl) (by kernel_rfl) (by kernel_rfl) (fun _ _ _ h=>h) (Or.inl ⟨by rfl,?_⟩) HS ?_
   ·intro w' hS
    obtain⟨s0,s1⟩:=hS
    go_simp
   simp only [Act.put,List.getElem_toArray,List.getElem_cons_zero,List.getElem_cons_succ,List.setIfInBounds_toArray,List.set_cons_zero,List.set_cons_succ]
   refine wpAnyH_take (i:=9) (v:=.int .i64 (6+(D:Int))) rfl (by kernel_rfl) (by kernel_rfl) (by kernel_rfl) (fun _ _ _ h=>h) (Or.inl ⟨by rfl,?_⟩) HS ?_
   ·intro w' hS
    obtain⟨s0,s1⟩:=hS
    go_simp
   simp only [Act.put,List.getElem_toArray,List.getElem_cons_zero,List.getElem_cons_succ,List.setIfInBounds_toArray,List.set_cons_zero,List.set_cons_succ]
   refine wpAnyH_take (i:=10) (v:=.int .i64 (6+(D:Int) - 1)) rfl (by kernel_rfl) (by kernel_rfl) (by kernel_rfl) (fun _ _ _ h=>h) (Or.inl ⟨by rfl,?_⟩) HS ?_
   ·intro w' hS
    obtain⟨s0,s1⟩:=hS
    go_simp
   simp only [Act.put,List.getElem_toArray,List.getElem_cons_zero,List.getElem_cons_succ,List.setIfInBounds_toArray,List.set_cons_zero,List.set_cons_succ]
   refine wpAnyH_take (i:=11) (v:=.slice (some ⟨gp,0,none⟩) 12 cp) rfl (by kernel_rfl) (by kernel_rfl) (by kernel_rfl) (fun _ _ _ h=>h) (Or.inl ⟨by rfl,?_⟩) HS ?_
   ·intro w' hS
    obtain⟨s0,s1⟩:=hS
    go_simp
   simp only [Act.put,List.getElem_toArray,List.getElem_cons_zero,List.getElem_cons_succ,List.setIfInBounds_toArray,List.set_cons_zero,List.set_cons_succ]
   refine wpAnyH_take (i:=12) (v:=.pointer (some ⟨gp,0,none⟩)) rfl (by kernel_rfl) (by kernel_rfl) (by kernel_rfl) (fun _ _ _ h=>h) (Or.inl ⟨by rfl,?_⟩) HS ?_
   ·intro w' hS
    obtain⟨s0,s1⟩:=hS
    go_simp
   simp only [Act.put,List.getElem_toArray,List.getElem_cons_zero,List.getElem_cons_succ,List.setIfInBounds_toArray,List.set_cons_zero,List.set_cons_succ]
   refine wpAnyH_take (i:=13) (v:=.int .i64 P0) rfl (by kernel_rfl) (by kernel_rfl) (by kernel_rfl) (fun _ _ _ h=>h) (Or.inl ⟨by rfl,?_⟩) HS ?_
   ·intro w' hS
    obtain⟨s0,s1⟩:=hS
    go_simp
   simp only [Act.put,List.getElem_toArray,List.getElem_cons_zero,List.getElem_cons_succ,List.setIfInBounds_toArray,List.set_cons_zero,List.set_cons_succ]
   refine wpAnyH_take (i:=14) (v:=.int .i64 (jj:Int)) rfl (by kernel_rfl) (by kernel_rfl) (by kernel_rfl) (fun _ _ _ h=>h) (Or.inl ⟨by rfl,?_⟩) HS ?_
   ·intro w' hS
    obtain⟨s0,s1⟩:=hS
    go_simp
   simp only [Act.put,List.getElem_toArray,List.getElem_cons_zero,List.getElem_cons_succ,List.setIfInBounds_toArray,List.set_cons_zero,List.set_cons_succ]
   refine wpAnyH_take (i:=15) (v:=.int .i64 (x:Int)) rfl (by kernel_rfl) (by kernel_rfl) (by kernel_rfl) (fun _ _ _ h=>h) (Or.inl ⟨by rfl,?_⟩) HS ?_
   ·intro w' hS
    obtain⟨s0,s1⟩:=hS
    go_simp
   simp only [Act.put,List.getElem_toArray,List.getElem_cons_zero,List.getElem_cons_succ,List.setIfInBounds_toArray,List.set_cons_zero,List.set_cons_succ]
   refine wpAnyH_take (i:=16) (v:=.pointer (some ⟨gb,x,none⟩)) rfl (by kernel_rfl) (by kernel_rfl) (by kernel_rfl) (fun _ _ _ h=>h) (Or.inl ⟨by rfl,?_⟩) HS ?_
   ·intro w' hS
    obtain⟨s0,s1⟩:=hS
    go_simp
   simp only [Act.put,List.getElem_toArray,List.getElem_cons_zero,List.getElem_cons_succ,List.setIfInBounds_toArray,List.set_cons_zero,List.set_cons_succ]
   refine wpAnyH_take (i:=18) (v:=.slice (some ⟨gp,0,none⟩) 12 cp) rfl (by kernel_rfl) (by kernel_rfl) (by kernel_rfl) (fun _ _ _ h=>h) (Or.inl ⟨by rfl,?_⟩) HS ?_
   ·intro w' hS
    obtain⟨s0,s1⟩:=hS
    go_simp
   simp only [Act.put,List.getElem_toArray,List.getElem_cons_zero,List.getElem_cons_succ,List.setIfInBounds_toArray,List.set_cons_zero,List.set_cons_succ]
   refine wpAnyH_take (i:=19) (v:=.pointer (some ⟨gp,1,none⟩)) rfl (by kernel_rfl) (by kernel_rfl) (by kernel_rfl) (fun _ _ _ h=>h) (Or.inl ⟨by rfl,?_⟩) HS ?_
   ·intro w' hS
    obtain⟨s0,s1⟩:=hS
    go_simp
   simp only [Act.put,List.getElem_toArray,List.getElem_cons_zero,List.getElem_cons_succ,List.setIfInBounds_toArray,List.set_cons_zero,List.set_cons_succ]
   refine wpAnyH_take (i:=20) (v:=.int .i64 P1) rfl (by kernel_rfl) (by kernel_rfl) (by kernel_rfl) (fun _ _ _ h=>h) (Or.inl ⟨by rfl,?_⟩) HS ?_
   ·intro w' hS
    obtain⟨s0,s1⟩:=hS
    go_simp
   simp only [Act.put,List.getElem_toArray,List.getElem_cons_zero,List.getElem_cons_succ,List.setIfInBounds_toArray,List.set_cons_zero,List.set_cons_succ]
   refine wpAnyH_take (i:=21) (v:=.int .i64 (mm:Int)) rfl (by kernel_rfl) (by kernel_rfl) (by kernel_rfl) (fun _ _ _ h=>h) (Or.inl ⟨by rfl,?_⟩) HS ?_
   ·intro w' hS
    obtain⟨s0,s1⟩:=hS
    go_simp
   simp only [Act.put,List.getElem_toArray,List.getElem_cons_zero,List.getElem_cons_succ,List.setIfInBounds_toArray,List.set_cons_zero,List.set_cons_succ]
   refine wpAnyH_take (i:=22) (v:=.int .u8 Q) rfl (by kernel_rfl) (by kernel_rfl) (by kernel_rfl) (fun _ _ _ h=>h) (Or.inl ⟨by rfl,?_⟩) HS ?_
   ·intro w' hS
    obtain⟨s0,s1⟩:=hS
    go_simp
   simp only [Act.put,List.getElem_toArray,List.getElem_cons_zero,List.getElem_cons_succ,List.setIfInBounds_toArray,List.set_cons_zero,List.set_cons_succ]
   refine wpAnyH_ready (rs:=[17]) (by kernel_rfl) (by simp) ?_
   refine AllReadyH.cons rfl (fun K hK=>?_) AllReadyH.nil
   refine if_wanted (wanted_none rfl) ?_
   simp only [List.getElem_toArray,List.getElem_cons_zero,List.getElem_cons_succ]
   go_simp
   refine hK.out _ _ HS (fun HS2=>?_)
   clear hK K
   refine wpAnyH_take (i:=23) (v:=.int .u8 (bits .xor .u8 Y Q)) rfl (by kernel_rfl) (by kernel_rfl) (by kernel_rfl) (fun _ _ _ h=>h) (Or.inl ⟨by rfl,?_⟩) HS2 ?_
   ·intro w' hS
    obtain⟨s0,s1⟩:=hS
    go_simp
   simp only [Act.put,List.getElem_toArray,List.getElem_cons_zero,List.getElem_cons_succ,List.setIfInBounds_toArray,List.set_cons_zero,List.set_cons_succ]
   refine wpAnyH_take (i:=24) (v:=.pointer (some ⟨gb,x,none⟩)) rfl (by kernel_rfl) (by kernel_rfl) (by kernel_rfl) (fun _ _ _ h=>h) (Or.inl ⟨by rfl,?_⟩) HS2 ?_
   ·intro w' hS
    obtain⟨s0,s1⟩:=hS
    go_simp
   simp only [Act.put,List.getElem_toArray,List.getElem_cons_zero,List.getElem_cons_succ,List.setIfInBounds_toArray,List.set_cons_zero,List.set_cons_succ]
   refine wpAnyH_ready (rs:=[25]) (by kernel_rfl) (by simp) ?_
   refine AllReadyH.cons rfl (fun K hK=>?_) AllReadyH.nil
   refine if_wanted (wanted_none rfl) ?_
   simp only [List.getElem_toArray,List.getElem_cons_zero,List.getElem_cons_succ]
   go_simp
   have g0:(W7.setCell ⟨gb,x,none⟩ (.int .u8 (bits .xor .u8 Y Q))).cell? ⟨gp,0,none⟩=some (.int .i64 P0):=(World.cell?_setCell_other _ _ _ _ (by first | (simp; done) | (simp; omega))).trans cp0
   have g1:(W7.setCell ⟨gb,x,none⟩ (.int .u8 (bits .xor .u8 Y Q))).cell? ⟨gp,1,none⟩=some (.int .i64 P1):=(World.cell?_setCell_other _ _ _ _ (by first | (simp; done) | (simp; omega))).trans cp1
   refine hK.out _ _ (by first | exact⟨g0,g1⟩ | exact⟨g0,g1⟩) (fun _=>?_)
   clear hK K g0 g1
   refine wpAnyH_done (by kernel_rfl) ?_ _
   have HO8:=hid_of (HO7.out.set x hx1 (bits .xor .u8 Y Q))
   have HB8:Hid (Below w6.heap.size w6 (W7.setCell ⟨gb,x,none⟩ (.int .u8 (bits .xor .u8 Y Q)))):=by
    rw[← HGB.out]
    exact Below.setCell (p:=⟨gb,x,none⟩) HB7.out (Nat.le_refl _) _
   have HS8:=hid_of (HS6.out.called HB8.out)
   have HTX:Hid (strOfNums ((bytesOf Z).set x (bits .xor .u8 Y Q))=zX t lv (strOfNums ((low (AdlerMath.adler 1 t) 4).set (3 - jj) (bits .xor .u8 Y Q)))):=by
    show _=_
    rw[HZ2.out,HX.out,show 5+D - jj=2+(deflT t lv).size+(3 - jj) by rw [← HD.out]; omega]
    exact zX_set t lv (3 - jj) _ _ (low_bytes _ 4)
   have e5:(strOfNums ((low (AdlerMath.adler 1 t) 4).set (3 - jj) (bits .xor .u8 Y Q))).size=4:=by rw [strOfNums_size,List.length_set,low_length]
   have hrd:=fun W hG=>zRead_on HI.out t (strOfNums ((low (AdlerMath.adler 1 t) 4).set (3 - jj) (bits .xor .u8 Y Q))) lv W (by omega) (by omega) (by rw [e5]; omega) (by rw [e5]; omega) hG
   rw[rd_turned t (3 - jj) _ (by omega) HYT.out.1 HYT.out.2.1 (by rw [← HBY.out]; exact HYT.out.2.2),← HTX.out] at hrd
   clear e5 HTX HYT HBY cb fb lb cp0 cp1 HO7 HB7 HB8 HS7 HS6
   generalize W7.setCell ⟨gb,x,none⟩ (.int .u8 (bits .xor .u8 Y Q))=W8 at HO8 HS8 ⊢
   have hcv8:=bown_text (w:=W8.drew) (k:=0) (c:=cz) (HO8.out.keep rfl) (Nat.zero_le _)
   rw[List.drop_zero,Nat.sub_zero] at hcv8
   have HS9:Hid (ZSt w0 W8.drew gp cp zs):=HS8.out.called (Below.refl _ _).drew
   clear HS8 HO8
   generalize W8.drew=W9 at hcv8 HS9 ⊢
   generalize strOfNums ((bytesOf Z).set x (bits .xor .u8 Y Q))=Z8 at hcv8 hrd
   go_wp2_with fail
   refine (hrd W9 HS9.out.1).mono ?_
   rintro e w10 ⟨rfl,hB10⟩
   have HS10:=hid_of (HS9.out.called hB10)
   clear hB10 HS9 hrd
   go_wp2_with fail
   go_roundw
   case rel=>exact⟨lv+1,by omega,by go_num,HS10⟩
   case measure=>simp [intOf]; omega
  ·obtain rfl:lv=4:=by omega
   have dl:decide (((4:Nat):Int)≤3)=false:=by decide
   have HBE:=hid_of hS.out.2.2
   clear hS
   go_wp2_with fail
   go_ret
   exact⟨rfl,HBE.out⟩
theorem zlib_law (hZ:ZlibAnswer) (hI:InflOk) (a:Option Addr) (len cap:Nat) (zs:List Int) (w:World) (hr:IsRow .u8 w a len cap zs) (hG:OrderG w):
  Calls Tryz.prog 4 #[.slice a len cap] w fun e w'=>e=.returned (.bool true)∧Below w.heap.size w w':=by
 obtain⟨hC,hl,hc⟩:=codeAt_of_row hr
 unfold maxLen at hc
 by_cases h:(len:Int)≤1048576
 ·exact FnZlib_at hZ hI a len cap w hC h hG
 ·have d:(1048576:Int) < len:=by omega
  clear hr hC hZ hI
  go_enter Tryz.func4,Tryz.ntmps4
  go_wp2_with fail
  refine (big_yes a len cap _ d (by omega)).mono ?_
  rintro e w1 ⟨rfl,rfl⟩
  go_wp2_with fail
  go_ret
  exact⟨rfl,Below.refl _ _⟩
end
section
open Go.RowKit Go.Joins
theorem info_run:(Tryz.prog.info? 165).map (fun i=>(i.zero,i.size,i.bytes))=some (some (.agg #[.int .i64 0,.int .i64 0]),2,16):=by kernel_rfl
def dcells:List (Int×Int)→List Value
 | []=>[]
 | c :: l=>.int .i64 c.1 :: .int .i64 c.2 :: dcells l
theorem dcells_length:∀ l:List (Int×Int),(dcells l).length=l.length * 2
 | []=>rfl
 | c :: l=>by
  show (dcells l).length+1+1=(l.length+1) * 2
  rw[dcells_length l]
  omega
theorem dcells_app:∀ xs ys:List (Int×Int),dcells (xs ++ ys)=dcells xs ++ dcells ys
 | [],ys=>rfl
 | c :: l,ys=>by
  show Value.int .i64 c.1 :: .int .i64 c.2 :: dcells (l ++ ys)=Value.int .i64 c.1 :: .int .i64 c.2 :: (dcells l ++ dcells ys)
  rw[dcells_app l ys]
theorem dcells_get0:∀ (l:List (Int×Int)) (i:Nat),i < l.length→(dcells l)[i * 2]?=some (.int .i64 (l.getD i (0,0)).1)
 | [],i,h=>by simp at h
 | c :: l,0,_=>rfl
 | c :: l,i+1,h=>by
  rw[show (i+1) * 2=i * 2+1+1 by omega]
  show (dcells l)[i * 2]?=some (.int .i64 (l.getD i (0,0)).1)
  exact dcells_get0 l i (by simpa using h)
theorem dcells_get1:∀ (l:List (Int×Int)) (i:Nat),i < l.length→(dcells l)[i * 2+1]?=some (.int .i64 ((l.getD i (0,0)).2))
 | [],i,h=>by simp at h
 | c :: l,0,_=>rfl
 | c :: l,i+1,h=>by
  rw[show (i+1) * 2+1=i * 2+1+1+1 by omega]
  show (dcells l)[i * 2+1]?=some (.int .i64 ((l.getD i (0,0)).2))
  exact dcells_get1 l i (by simpa using h)
theorem dcells_one:∀ (l:List (Int×Int)),∀ u∈dcells l,u.oneCell'=true
 | [],u,h=>by cases h
 | c :: l,u,h=>by
  rcases List.mem_cons.mp h with rfl | h
  ·rfl
  ·rcases List.mem_cons.mp h with rfl | h
   ·rfl
   ·exact dcells_one l u h
def RunsLie (w:World) (B:Nat) (a:Option Addr) (L:List (Int×Int)):Prop:=
 L=[]∨∃ g off,a=some ⟨g,off,none⟩∧g < B∧g < w.heap.size∧∀ j u,(dcells L)[j]?=some u→w.cell? ⟨g,off+j,none⟩=some u
def Dst (w:World) (B:Nat) (a:Option Addr) (c:Nat) (L:List (Int×Int)):Prop:=L.length≤c∧(a=none→c=0)∧RunsLie w B a L
section
variable {w w':World} {B:Nat} {a:Option Addr} {c:Nat} {L:List (Int×Int)} {x:Int×Int}
theorem RunsLie.kept (h:RunsLie w B a L) (hb:Below B w w'):RunsLie w' B a L:=by
 rcases h with h | ⟨g,off,ha,h1,h2,h3⟩
 ·exact .inl h
 ·exact .inr ⟨g,off,ha,h1,Nat.lt_of_lt_of_le h2 hb.size,fun j u hu=>(hb.cell (p:=⟨g,off+j,none⟩) h1).trans (h3 j u hu)⟩
theorem Dst.kept (h:Dst w B a c L) (hb:Below B w w'):Dst w' B a c L:=⟨h.1,h.2.1,h.2.2.kept hb⟩
theorem RunsLie.mono {B':Nat} (h:RunsLie w B a L) (hB:B≤B'):RunsLie w B' a L:=by
 rcases h with h | ⟨g,off,ha,h1,h2,h3⟩
 ·exact .inl h
 ·exact .inr ⟨g,off,ha,by omega,h2,h3⟩
theorem Dst.mono {B':Nat} (h:Dst w B a c L) (hB:B≤B'):Dst w B' a c L:=⟨h.1,h.2.1,h.2.2.mono hB⟩
theorem Dst.cons (h:Dst w B a c (x :: L)):∃ g off d,a=some ⟨g,off,none⟩∧c=d+1∧L.length≤d∧g < B∧g < w.heap.size∧w.cell? ⟨g,off,none⟩=some (.int .i64 x.1)∧w.cell? ⟨g,off+1,none⟩=some (.int .i64 x.2)∧Dst w B (some ⟨g,off+2,none⟩) d L:=by
 obtain⟨h1,h2,h3⟩:=h
 rw[List.length_cons] at h1
 rcases h3 with h3 | ⟨g,off,ha,q1,q2,q3⟩
 ·cases h3
 ·refine⟨g,off,c - 1,ha,by omega,by omega,q1,q2,q3 0 _ rfl,q3 1 _ rfl,by omega,(fun e=>by cases e),.inr ⟨g,off+2,rfl,q1,q2,fun j u hu=>?_⟩⟩
  have:=q3 (j+2) u hu
  rw[show off+2+j=off+(j+2) by omega]
  exact this
theorem Dst.cell (h:Dst w B a c L) (hp:0 < L.length):∃ g off,a=some ⟨g,off,none⟩∧g < B∧g < w.heap.size∧∀ i,i < L.length→w.cell? ⟨g,off+i * 2,none⟩=some (.int .i64 (L.getD i (0,0)).1)∧w.cell? ⟨g,off+(i * 2+1),none⟩=some (.int .i64 ((L.getD i (0,0)).2)):=by
 rcases h.2.2 with h3 | ⟨g,off,ha,q1,q2,q3⟩
 ·rw[h3] at hp; simp at hp
 ·exact⟨g,off,ha,q1,q2,fun i hi=>⟨q3 _ _ (dcells_get0 L i hi),q3 _ _ (dcells_get1 L i hi)⟩⟩
theorem Dst.news (h:Dst w B a c L):∀ ad,a=some ad→∀ j u,(dcells L)[j]?=some u→w.cell? (ad.add j)=some u:=by
 intro ad e j u hu
 rcases h.2.2 with h3 | ⟨g,off,ha,q1,q2,q3⟩
 ·rw[h3] at hu; cases hu
 ·rw[ha] at e
  cases e
  rw[Addr.add_lit]
  exact q3 j u hu
theorem dst_of_own {S n:Nat} {v:Value} (h:w.ownsRow S 165 2 v n (dcells L)) (hn:n=L.length):∃ a c,v=.slice a L.length c∧Dst w w.heap.size a c L∧c≤maxLen:=by
 subst hn
 rcases h.2 with ⟨rfl,h0⟩ | ⟨g,cap,cur,rfl,hb,hg,hc,hm,hs,ht⟩
 ·exact⟨none,0,by rw [h0],⟨by omega,fun _=>rfl,.inl (List.eq_nil_of_length_eq_zero h0)⟩,Nat.zero_le _⟩
 ·refine⟨_,cap,rfl,⟨hc,(fun e=>by cases e),.inr ⟨g,0,rfl,block_lt hg,block_lt hg,fun j u hu=>?_⟩⟩,hm⟩
  have hj:j < L.length * 2:=by
   rcases Nat.lt_or_ge j (L.length * 2) with k | k
   ·exact k
   ·rw[List.getElem?_eq_none (by rw [dcells_length]; exact k)] at hu; cases hu
  rw[Nat.zero_add,h.cellAt j hj]
  exact hu
end
theorem runs_append {w:World} {S:Nat} {v:Value} {xs ys:List (Int×Int)} {ops:Array Oper} {rest:List Oper} {o:Oper} {a:Act} {Q:Exit→Act→World→Prop} (hgd:o.guard=none) (s x:Operand)
  (ho:o.op=.call { callee:=.builtin .append,args:=#[s,x],argTypes:=#[161,161] }) (hs:a.eval s=v) (h:w.ownsRow S 165 2 v xs.length (dcells xs)) (ao:Option Addr) (m c:Nat) (hx:a.eval x=.slice ao m c) (hm:ys.length=m)
  (hc:∀ ad,ao=some ad→∀ j u,(dcells ys)[j]?=some u→w.cell? (ad.add j)=some u) (hn:ao=none→m=0∧c=0)
  (h63:xs.length+ys.length≤100000) (hS:S≤w.heap.size)
  (hK:∀ v' w',w'.ownsRow S 165 2 v' (xs ++ ys).length (dcells (xs ++ ys))→w.grownBy w' v.ownBlock→wpList Tryz.prog ops Q rest (a.put o.dst v') w'):wpList Tryz.prog ops Q (o :: rest) a w:=by
 obtain⟨i0,hi0,hz0,hz1,hz2⟩:=info_parts info_run
 cases ao with
 | none=>
  obtain⟨rfl,rfl⟩:=hn rfl
  obtain rfl:ys=[]:=List.eq_nil_of_length_eq_zero hm
  refine wpList_append_own_none hgd s x _ ho S 165 i0 2 Tryz.underlying161 hi0 v _ _ hs h hx (hK v w (by simpa using h) ⟨rfl,rfl,rfl,Nat.le_refl _,fun _ _ _=>rfl⟩)
 | some ad=>
  refine wpList_append_own_at w hgd s x _ ho S 165 i0 _ 2 16 Tryz.underlying161 hi0 hz0 hz1 hz2 rfl (by omega) v _ _ hs h ad m c (dcells ys) hx (by rw [dcells_length,hm]) (hc ad rfl) (dcells_one ys) (by unfold maxLen; omega) (by omega) hS ?_
  intro v' w' hown hg _ _
  refine hK v' w' ?_ hg
  rw[List.length_append,dcells_app,hm]
  exact hown
end
section
open Go.RowKit Go.Joins RunsMath
theorem info_int:(Tryz.prog.info? 3).map (fun i=>(i.zero,i.size,i.bytes))=some (some (.int .i64 0),1,8):=by kernel_rfl
def ivals (l:List Int):List Value:=l.map fun x=>Value.int .i64 x
theorem ivals_length (l:List Int):(ivals l).length=l.length:=by simp [ivals]
theorem ivals_app (xs ys:List Int):ivals (xs ++ ys)=ivals xs ++ ivals ys:=by simp [ivals]
theorem ivals_get (l:List Int) (i:Nat) (h:i < l.length):(ivals l)[i]?=some (.int .i64 (l.getD i 0)):=by
 unfold ivals
 rw[List.getElem?_map,List.getElem?_eq_getElem h,List.getD_eq_getElem?_getD,List.getElem?_eq_getElem h]
 rfl
theorem ivals_one (l:List Int):∀ u∈ivals l,u.oneCell'=true:=by
 intro u hu
 obtain⟨x,_,rfl⟩:=List.mem_map.mp hu
 rfl
def NumRow (w:World) (S:Nat) (v:Value) (l:List Int):Prop:=w.ownsRow S 3 1 v l.length (ivals l)
theorem NumRow.empty (w:World) (S:Nat) (h:S≤w.heap.size):NumRow (w.alloc (.cells #[] 3)) S (.slice (some ⟨w.heap.size,0,none⟩) 0 0) []:=
 ⟨rfl,.inr ⟨w.heap.size,0,#[],rfl,h,heap_alloc_new w _,Nat.le_refl _,Nat.zero_le _,rfl,rfl⟩⟩
theorem NumRow.form {w:World} {S:Nat} {v:Value} {l:List Int} (h:NumRow w S v l):∃ a c,v=.slice a l.length c∧(a=none→c=0)∧l.length≤c∧Came w a l.length (fun i=>l.getD i 0)∧∀ ad,a=some ad→∀ j u,(ivals l)[j]?=some u→w.cell? (ad.add j)=some u:=by
 rcases h.2 with ⟨rfl,h0⟩ | ⟨g,cap,cur,rfl,hb,hg,hc,hm,hs,ht⟩
 ·exact⟨none,0,by rw [h0],fun _=>rfl,by omega,.inl h0,fun ad e=>by cases e⟩
 ·refine⟨_,cap,rfl,(fun e=>by cases e),hc,.inr ⟨g,0,rfl,block_lt hg,fun j hj=>?_⟩,fun ad e j u hu=>?_⟩
  ·rw[Nat.zero_add,h.cellAt j (by omega)]
   exact ivals_get l j hj
  ·cases e
   have hj:j < l.length:=by
    rcases Nat.lt_or_ge j l.length with k | k
    ·exact k
    ·rw[List.getElem?_eq_none (by rw [ivals_length]; exact k)] at hu; cases hu
   rw[Addr.add_lit,Nat.zero_add,h.cellAt j (by omega)]
   exact hu
theorem NumRow.called {w w':World} {S:Nat} {v:Value} {l:List Int} (h:NumRow w S v l) (hb:Below w.heap.size w w'):NumRow w' S v l:=by
 refine⟨h.1,?_⟩
 rcases h.2 with h | ⟨g,cap,cur,rfl,h1,h2,h3⟩
 ·exact .inl h
 ·exact .inr ⟨g,cap,cur,rfl,h1,(hb.block g (block_lt h2)).trans h2,h3⟩
theorem nums_append {w:World} {S:Nat} {v:Value} {xs ys:List Int} {ops:Array Oper} {rest:List Oper} {o:Oper} {a:Act} {Q:Exit→Act→World→Prop} (hgd:o.guard=none) (s x:Operand)
  (ho:o.op=.call { callee:=.builtin .append,args:=#[s,x],argTypes:=#[25,25] }) (hs:a.eval s=v) (h:NumRow w S v xs) (ao:Option Addr) (m c:Nat) (hx:a.eval x=.slice ao m c) (hm:ys.length=m)
  (hc:∀ ad,ao=some ad→∀ j u,(ivals ys)[j]?=some u→w.cell? (ad.add j)=some u) (hn:ao=none→m=0∧c=0)
  (h63:xs.length+ys.length≤100000) (hS:S≤w.heap.size)
  (hK:∀ v' w',NumRow w' S v' (xs ++ ys)→w.grownBy w' v.ownBlock→wpList Tryz.prog ops Q rest (a.put o.dst v') w'):wpList Tryz.prog ops Q (o :: rest) a w:=by
 obtain⟨i0,hi0,hz0,hz1,hz2⟩:=info_parts info_int
 cases ao with
 | none=>
  obtain⟨rfl,rfl⟩:=hn rfl
  obtain rfl:ys=[]:=List.eq_nil_of_length_eq_zero hm
  refine wpList_append_own_none hgd s x _ ho S 3 i0 1 Tryz.underlying25 hi0 v _ _ hs h hx (hK v w (by rw [List.append_nil]; exact h) ⟨rfl,rfl,rfl,Nat.le_refl _,fun _ _ _=>rfl⟩)
 | some ad=>
  refine wpList_append_own_at w hgd s x _ ho S 3 i0 _ 1 8 Tryz.underlying25 hi0 hz0 hz1 hz2 rfl (by omega) v _ _ hs h ad m c (ivals ys) hx (by rw [ivals_length,hm,Nat.mul_one]) (hc ad rfl) (ivals_one ys) (by unfold maxLen; omega) (by omega) hS ?_
  intro v' w' hown hg _ _
  refine hK v' w' ?_ hg
  show w'.ownsRow S 3 1 v' (xs ++ ys).length (ivals (xs ++ ys))
  rw[List.length_append,ivals_app,hm]
  exact hown
end
section
open Go.RowKit Go.Joins
theorem nums_append1 {w:World} {S:Nat} {v:Value} {xs:List Int} {ops:Array Oper} {rest:List Oper} {o:Oper} {a:Act} {Q:Exit→Act→World→Prop} (hgd:o.guard=none) (s x:Operand)
  (ho:o.op=.call { callee:=.builtin .append,args:=#[s,x],argTypes:=#[25,25] }) (hs:a.eval s=v) (h:NumRow w S v xs) (g c:Nat) (y:Int) (hx:a.eval x=.slice (some ⟨g,0,none⟩) 1 c) (hy:w.cell? ⟨g,0,none⟩=some (.int .i64 y))
  (h63:xs.length≤100000) (hS:S≤w.heap.size)
  (hK:∀ v' w',NumRow w' S v' (xs ++ [y])→w.grownBy w' v.ownBlock→(v'.ownBlock=v.ownBlock∨v'.ownBlock=some w.heap.size)→wpList Tryz.prog ops Q rest (a.put o.dst v') w'):wpList Tryz.prog ops Q (o :: rest) a w:=by
 obtain⟨i0,hi0,hz0,hz1,hz2⟩:=info_parts info_int
 refine wpList_append_own_at w hgd s x _ ho S 3 i0 _ 1 8 Tryz.underlying25 hi0 hz0 hz1 hz2 rfl (by omega) v _ _ hs h ⟨g,0,none⟩ 1 c (ivals [y]) hx rfl (fun j u hu=>?_) (ivals_one _) (by unfold maxLen; omega) (by omega) hS ?_
 ·cases j with
  | zero=>
   simp[ivals] at hu
   rw[← hu]
   exact hy
  | succ j=>simp [ivals] at hu
 ·intro v' w' hown hg _ hk
  refine hK v' w' ?_ hg hk
  show w'.ownsRow S 3 1 v' (xs ++ [y]).length (ivals (xs ++ [y]))
  rw[List.length_append,ivals_app]
  exact hown
end
section
open Go.RowKit Go.Joins TakeMath
theorem index_byte (s:ByteArray) (i:Nat) (h:i < s.size) (w:World):(Instr.index 9 (.string s) (.int .i64 i)).run Tryz.prog w=.ok (.int .u8 (byteAt s i)) w:=by
 rw[run_index_string w 9 s .i64 _ Tryz.underlying9,dif_pos ⟨by omega,by omega⟩]
 have e:((i:Int)).toNat=i:=by omega
 simp only [e]
 rw[byteAt_get]
theorem index_byteI (s:ByteArray) (x:Int) (i:Nat) (hx:x=i) (h:i < s.size) (w:World):(Instr.index 9 (.string s) (.int .i64 x)).run Tryz.prog w=.ok (.int .u8 (byteAt s i)) w:=by
 subst hx
 exact index_byte s i h w
end
section
open Go.RowKit Go.Joins OutMath CodeMath TakeMath HitMath WayMath InfMath
abbrev rc (s:ByteArray) (p:Nat) (vo:Value) (most:Nat) (c:Nat) (vt:Value):Array Value:=#[.string s,.int .i64 (p:Int),vo,.int .i64 (most:Int),.int .i64 (c:Int),vt]
section
variable {w w':World} {b:Nat} {s:ByteArray} {p:Nat} {vo:Value} {most c:Nat} {vt:Value}
theorem grown_called (hb:Below w.heap.size w w') (row:Option Nat):w.grownBy w' row:=⟨hb.os,hb.tape,hb.output,hb.size,fun k hk _=>hb.block k hk⟩
theorem grown_cell (w:World) (b o:Nat) (v:Value):w.grownBy (w.setCell ⟨b,o,none⟩ v) (some b):=
 ⟨rfl,rfl,rfl,by simp [World.setCell],fun i _ hi=>by simp [World.setCell,Array.getElem?_modify,show ¬ b=i from fun e=>hi (by rw [e])]⟩
end
noncomputable def symR (f:Nat→Int) (n:Nat) (s:ByteArray) (p c:Nat):Nat×Nat×Nat:=if c≠0 then (0,p,c) else if (symW f n s p).2.2=0 then ((symW f n s p).1,p+(symW f n s p).2.1,0) else if (symW f n s p).2.2=2 then (0,p,2) else (0,p,6)
end
end Go.Proofs.YtklpiihnbokkkaaGreatDoor
