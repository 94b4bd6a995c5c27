/-
  Texts of the proof, put together.
-/
import Derived.Test.YtcbbcadfolgioaaDoorPf05
namespace Go.Proofs.YtcbbcadfolgioaaDoor
section
open Go.RowKit Go.Joins OutMath PutMath TakeMath BitsMath RastMath
set_option maxRecDepth 100000 in
set_option maxHeartbeats 3200000 in
theorem specUnpack_good (s:ByteArray) (n d:Nat) (w:World) (hd:Five (d:Int)) (hn:n≤96) (hs:(s.size:Int)=((n:Int) * (d:Int)+7) / 8):
  Calls Tryd.prog 71 #[.string s,.int .i64 (n:Int),.int .i64 (d:Int)] w fun e w'=>∃ v,e=.returned (.tuple #[v,.bool true])∧NumRow w' w.heap.size v (smps s d n)∧Below w.heap.size w w':=by
 have h5:=five_range hd
 have hk:=specDepth5 (d:Int)
 rw[decide_eq_true hd] at hk
 have hnd:n * d≤96 * 16:=Nat.mul_le_mul hn (by omega)
 obtain⟨q,hq⟩:∃ q,q=n * d:=⟨_,rfl⟩
 have hqi:(n:Int) * (d:Int)=(q:Int):=by rw [hq]; simp
 rw[hqi] at hs
 rw[← hq] at hnd
 have e1:((s.size:Int) == ((q:Int)+7) / 8)=true:=by simpa using hs
 have e2:((q:Int)+7).tdiv 8=(s.size:Int):=by
  rw[Int.tdiv_eq_ediv_of_nonneg (by omega),hs]
 have hsz:s.size≤193:=by omega
 have e3:wrap64 (s.size:Int)=(s.size:Int):=by
  unfold wrap64
  omega
 have HS:=hid_of hs
 have HQ:=hid_of hq
 have H0:Hid (NumRow (w.alloc (.cells #[] 3)) w.heap.size (.slice (some ⟨w.heap.size,0,none⟩) 0 0) (smps s d 0)∧Below w.heap.size w (w.alloc (.cells #[] 3))):=⟨NumRow.empty w w.heap.size (Nat.le_refl _),bstart _ _⟩
 clear hs hq
 go_enter Tryd.func71,Tryd.ntmps71
 go_wp2_with fail
 refine (hk _).mono ?_
 rintro e w1 ⟨rfl,rfl⟩
 go_wp2_with fail
 refine (in_yes (n:Int) 0 96 _ (by omega) (by omega)).mono ?_
 rintro e w1 ⟨rfl,rfl⟩
 go_wp2_with fail
 go_loopg [8,9] (n+1) (fun gk v i w'=>∃ j:Nat,j≤n∧n - j≤gk∧i=.int .i64 (j:Int)∧Hid (NumRow w' w.heap.size v (smps s d j)∧Below w.heap.size w w'))
 case atStart=>exact⟨0,Nat.zero_le _,by omega,rfl,H0⟩
 case round=>
  clear H0
  obtain⟨j,hj,hgk,rfl,hS⟩:=hrel
  by_cases hlt:j < n
  ·have dl:decide ((j:Int) < (n:Int))=true:=decide_eq_true (by omega)
   have hjd:j * d+d≤q:=by
    have:=Nat.mul_le_mul_right d (show j+1≤n by omega)
    rw[Nat.add_mul,Nat.one_mul] at this
    rw[HQ.out]
    exact this
   obtain⟨r,hr⟩:∃ r,r=j * d:=⟨_,rfl⟩
   have hri:(j:Int) * (d:Int)=(r:Int):=by rw [hr]; simp
   rw[← hr] at hjd
   have HR:=hid_of hr
   clear hr
   go_wp2_with fail
   go_loopg [10,11] (d+1) (fun gj x i w'=>∃ (k:Nat) (z:Int),k≤d∧d - k≤gj∧i=.int .i64 (k:Int)∧x=.int .i64 z∧(0≤z∧z < 65536)∧Hid (z=hb (fun k=>bitOf (byteAt s ((j * d+k) / 8):Int) (7 - (j * d+k) % 8)) k∧NumRow w' w.heap.size u8 (smps s d j)∧Below w.heap.size w w'))
   case atStart=>exact⟨0,0,Nat.zero_le _,by omega,rfl,rfl,by omega,rfl,hS.out⟩
   case round=>
    obtain⟨k,z,hk0,hgj,rfl,rfl,hz,hS2⟩:=hrel
    by_cases hkd:k < d
    ·have dk:decide ((k:Int) < (d:Int))=true:=decide_eq_true (by omega)
     obtain⟨m,hm⟩:∃ m,m=r+k:=⟨_,rfl⟩
     have hmi:(r:Int)+(k:Int)=(m:Int):=by omega
     have hm8:m / 8 < s.size:=by
      have:=HS.out
      omega
     have t1:(m:Int).tdiv 8=((m / 8:Nat):Int):=by
      rw[Int.tdiv_eq_ediv_of_nonneg (by omega)]
      omega
     have t2:(m:Int).tmod 8=((m % 8:Nat):Int):=by
      rw[Int.tmod_eq_emod_of_nonneg (by omega)]
      omega
     obtain⟨x,hx⟩:∃ x,x=m / 8:=⟨_,rfl⟩
     obtain⟨y,hy⟩:∃ y,y=7 - m % 8:=⟨_,rfl⟩
     have hyi:(7:Int) - ((m % 8:Nat):Int)=(y:Int):=by omega
     have hy7:y≤7:=by omega
     rw[← hx] at hm8 t1
     have hp:=fun W=>pow_any y W (by omega)
     have hxi:(x:Int) < (s.size:Int):=by omega
     have HBY:Hid ((s[x]'hm8).toNat=byteAt s x):=byteAt_get s x hm8
     have hb8:(s[x]'hm8).toNat < 256:=UInt8.toNat_lt _
     have hpp:=p2_pos y
     have hp7:p2 y≤128:=by
      have:=p2_le hy7
      rw[show p2 7=128 by decide +kernel] at this
      exact this
     have HX:=hid_of hx
     have HY:=hid_of hy
     have HM:=hid_of hm
     clear hx hy hm
     go_wp2_with fail
     have w0:IntKind.i64.wrap (2 * z)=2 * z:=by rw [IntKind.wrap_i64]; omega
     have w1:IntKind.i64.wrap ((x:Int))=(x:Int):=by rw [IntKind.wrap_i64]; omega
     have w2:IntKind.i64.wrap (((m % 8:Nat):Int))=((m % 8:Nat):Int):=by rw [IntKind.wrap_i64]; omega
     have w3:IntKind.i64.wrap ((y:Int))=(y:Int):=by rw [IntKind.wrap_i64]; omega
     obtain⟨B,hB⟩:∃ B:Int,B=((s[x]'hm8).toNat:Int):=⟨_,rfl⟩
     have hB0:0≤B∧B < 256:=by omega
     have w4:IntKind.i64.wrap (B)=B:=by rw [IntKind.wrap_i64]; omega
     have w8:IntKind.i64.wrap (7 - (m:Int) % 8)=(y:Int):=by rw [IntKind.wrap_i64]; omega
     obtain⟨P,hP⟩:∃ P,P=p2 y:=⟨_,rfl⟩
     rw[← hP] at hp hpp hp7
     have p0:(P == 0)=false:=by simp; omega
     have p1:¬ P=0:=by omega
     obtain⟨C,hC⟩:∃ C,C=B / P:=⟨_,rfl⟩
     have hC0:0≤C∧C < 256:=by
      rw[hC]
      exact⟨Int.ediv_nonneg hB0.1 (by omega),Int.lt_of_le_of_lt (Int.ediv_le_self _ hB0.1) hB0.2⟩
     have t5:B.tdiv P=C:=by rw [Int.tdiv_eq_ediv_of_nonneg hB0.1,hC]
     have w5:IntKind.i64.wrap (C)=C:=by rw [IntKind.wrap_i64]; omega
     obtain⟨D,hD⟩:∃ D,D=C % 2:=⟨_,rfl⟩
     have hD0:0≤D∧D≤1:=by omega
     have t6:C.tmod 2=D:=by rw [Int.tmod_eq_emod_of_nonneg hC0.1,hD]
     have w6:IntKind.i64.wrap (D)=D:=by rw [IntKind.wrap_i64]; omega
     have w7:IntKind.i64.wrap (2 * z+D)=2 * z+D:=by rw [IntKind.wrap_i64]; omega
     have HNX:Hid (2 * z+D=hb (fun k=>bitOf (byteAt s ((j * d+k) / 8):Int) (7 - (j * d+k) % 8)) (k+1)):=by
      show 2 * z+D=2 * hb _ k+bitOf _ _
      rw[← hS2.out.1,← HR.out,← HM.out,← HX.out,← HY.out,← HBY.out,← hB,hD,hC,hP]
      rfl
     have HNR:=hid_of hS2.out.2
     have HBI:Hid (2 * z+D < 65536):=by
      have h1:=hb_range (g:=fun k=>bitOf (byteAt s ((j * d+k) / 8):Int) (7 - (j * d+k) % 8)) (fun _=>bitOf_range _ _) (k+1)
      have h2:=p2_le (show k+1≤16 by omega)
      rw[show p2 16=65536 by decide +kernel] at h2
      rw[← HNX.out] at h1
      show _ < _
      omega
     have hBr:=hB.symm
     clear hD hC hP hS2 hB
     refine wp_region_held (S:=fun _=>True) (by kernel_rfl) ?_
     show wpAnyH _ _ _ _ _ _ _ _ wr.drew
     refine wpAnyH_take (i:=0) (v:=.int .i64 z) rfl (by kernel_rfl) (by kernel_rfl) (by kernel_rfl) (fun _ _ _ h=>h) (Or.inl ⟨by rfl,?_⟩) trivial ?_
     ·intro w' _
      go_simp
     simp only [Act.put,List.getElem_toArray,List.getElem_cons_zero,List.setIfInBounds_toArray,List.set_cons_zero,List.set_cons_succ]
     refine wpAnyH_take (i:=1) (v:=.int .i64 (2 * z)) rfl (by kernel_rfl) (by kernel_rfl) (by kernel_rfl) (fun _ _ _ h=>h) (Or.inl ⟨by rfl,?_⟩) trivial ?_
     ·intro w' _
      go_simp
     simp only [Act.put,List.getElem_toArray,List.getElem_cons_zero,List.getElem_cons_succ,List.setIfInBounds_toArray,List.set_cons_zero,List.set_cons_succ]
     refine wpAnyH_take (i:=2) (v:=.string s) rfl (by kernel_rfl) (by kernel_rfl) (by kernel_rfl) (fun _ _ _ h=>h) (Or.inl ⟨by rfl,?_⟩) trivial ?_
     ·intro w' _
      go_simp
     simp only [Act.put,List.getElem_toArray,List.getElem_cons_zero,List.getElem_cons_succ,List.setIfInBounds_toArray,List.set_cons_zero,List.set_cons_succ]
     refine wpAnyH_take (i:=3) (v:=.int .i64 (m:Int)) rfl (by kernel_rfl) (by kernel_rfl) (by kernel_rfl) (fun _ _ _ h=>h) (Or.inl ⟨by rfl,?_⟩) trivial ?_
     ·intro w' _
      go_simp
     simp only [Act.put,List.getElem_toArray,List.getElem_cons_zero,List.getElem_cons_succ,List.setIfInBounds_toArray,List.set_cons_zero,List.set_cons_succ]
     refine wpAnyH_take (i:=4) (v:=.int .i64 (x:Int)) rfl (by kernel_rfl) (by kernel_rfl) (by kernel_rfl) (fun _ _ _ h=>h) (Or.inl ⟨by rfl,?_⟩) trivial ?_
     ·intro w' _
      go_simp
     simp only [Act.put,List.getElem_toArray,List.getElem_cons_zero,List.getElem_cons_succ,List.setIfInBounds_toArray,List.set_cons_zero,List.set_cons_succ]
     refine wpAnyH_take (i:=5) (v:=.int .u8 ((s[x]'hm8).toNat:Int)) rfl (by kernel_rfl) (by kernel_rfl) (by kernel_rfl) (fun _ _ _ h=>h) (Or.inl ⟨by rfl,?_⟩) trivial ?_
     ·intro w' _
      go_simp
     simp only [Act.put,List.getElem_toArray,List.getElem_cons_zero,List.getElem_cons_succ,List.setIfInBounds_toArray,List.set_cons_zero,List.set_cons_succ]
     refine wpAnyH_take (i:=6) (v:=.int .i64 B) rfl (by kernel_rfl) (by kernel_rfl) (by kernel_rfl) (fun _ _ _ h=>h) (Or.inl ⟨by rfl,?_⟩) trivial ?_
     ·intro w' _
      go_simp
     simp only [Act.put,List.getElem_toArray,List.getElem_cons_zero,List.getElem_cons_succ,List.setIfInBounds_toArray,List.set_cons_zero,List.set_cons_succ]
     refine wpAnyH_take (i:=7) (v:=.int .i64 (m:Int)) rfl (by kernel_rfl) (by kernel_rfl) (by kernel_rfl) (fun _ _ _ h=>h) (Or.inl ⟨by rfl,?_⟩) trivial ?_
     ·intro w' _
      go_simp
     simp only [Act.put,List.getElem_toArray,List.getElem_cons_zero,List.getElem_cons_succ,List.setIfInBounds_toArray,List.set_cons_zero,List.set_cons_succ]
     refine wpAnyH_take (i:=8) (v:=.int .i64 ((m % 8:Nat):Int)) rfl (by kernel_rfl) (by kernel_rfl) (by kernel_rfl) (fun _ _ _ h=>h) (Or.inl ⟨by rfl,?_⟩) trivial ?_
     ·intro w' _
      go_simp
     simp only [Act.put,List.getElem_toArray,List.getElem_cons_zero,List.getElem_cons_succ,List.setIfInBounds_toArray,List.set_cons_zero,List.set_cons_succ]
     refine wpAnyH_take (i:=9) (v:=.int .i64 (y:Int)) rfl (by kernel_rfl) (by kernel_rfl) (by kernel_rfl) (fun _ _ _ h=>h) (Or.inl ⟨by rfl,?_⟩) trivial ?_
     ·intro w' _
      go_simp
     simp only [Act.put,List.getElem_toArray,List.getElem_cons_zero,List.getElem_cons_succ,List.setIfInBounds_toArray,List.set_cons_zero,List.set_cons_succ]
     refine wpAnyH_ready (rs:=[10]) (by kernel_rfl) (by simp) ?_
     refine AllReadyH.cons rfl (fun K hK=>?_) AllReadyH.nil
     refine if_wanted (wanted_none rfl) ?_
     simp only [List.getElem_toArray,List.getElem_cons_zero,List.getElem_cons_succ]
     go_simp
     refine (hp _).mono ?_
     rintro e w4 ⟨rfl,rfl⟩
     refine hK.out _ _ trivial (fun _=>?_)
     clear hK K
     refine wpAnyH_take (i:=11) (v:=.int .i64 C) rfl (by kernel_rfl) (by kernel_rfl) (by kernel_rfl) (fun _ _ _ h=>h) (Or.inl ⟨by rfl,?_⟩) trivial ?_
     ·intro w' _
      go_simp
     simp only [Act.put,List.getElem_toArray,List.getElem_cons_zero,List.getElem_cons_succ,List.setIfInBounds_toArray,List.set_cons_zero,List.set_cons_succ]
     refine wpAnyH_take (i:=12) (v:=.int .i64 D) rfl (by kernel_rfl) (by kernel_rfl) (by kernel_rfl) (fun _ _ _ h=>h) (Or.inl ⟨by rfl,?_⟩) trivial ?_
     ·intro w' _
      go_simp
     simp only [Act.put,List.getElem_toArray,List.getElem_cons_zero,List.getElem_cons_succ,List.setIfInBounds_toArray,List.set_cons_zero,List.set_cons_succ]
     refine wpAnyH_take (i:=13) (v:=.int .i64 (2 * z+D)) rfl (by kernel_rfl) (by kernel_rfl) (by kernel_rfl) (fun _ _ _ h=>h) (Or.inl ⟨by rfl,?_⟩) trivial ?_
     ·intro w' _
      go_simp
     simp only [Act.put,List.getElem_toArray,List.getElem_cons_zero,List.getElem_cons_succ,List.setIfInBounds_toArray,List.set_cons_zero,List.set_cons_succ]
     refine wpAnyH_take (i:=14) (v:=.int .i64 (2 * z+D)) rfl (by kernel_rfl) (by kernel_rfl) (by kernel_rfl) (fun _ _ _ h=>h) (Or.inl ⟨by rfl,?_⟩) trivial ?_
     ·intro w' _
      go_simp
     simp only [Act.put,List.getElem_toArray,List.getElem_cons_zero,List.getElem_cons_succ,List.setIfInBounds_toArray,List.set_cons_zero,List.set_cons_succ]
     refine wpAnyH_done (by kernel_rfl) ?_ _
     go_wp2_with fail
     go_roundg (d - (k+1))
     case measure=>omega
     case rel=>exact⟨k+1,2 * z+D,by omega,Nat.le_refl _,by go_num,rfl,⟨by omega,HBI.out⟩,HNX.out,HNR.out.1.called (Below.refl _ _).drew,HNR.out.2.drew⟩
    ·obtain rfl:k=d:=by omega
     have dk:decide ((k:Int) < (k:Int))=false:=decide_eq_false (by omega)
     have hs2:=hS2.out.2.2.size
     have HE:Hid (z=smp s k j):=hS2.out.1
     have HNR:=hid_of hS2.out.2.1
     have HBL:=hid_of hS2.out.2.2
     clear hS2
     go_wp2_with (at_builtin; refine nums_append1 (S:=w.heap.size) (xs:=smps s k j) rfl _ _ rfl rfl (HNR.out.called (bstart _ _)) wr.heap.size 1 z rfl ((cell_of_block (heap_alloc_new wr (.cells #[.int .i64 z] 3)) 0).trans rfl) (by rw [smps_length]; omega) (by simp; omega) ?_)
     intro v1 w1 y1 y2 _
     have HS1:Hid (NumRow w1 w.heap.size v1 (smps s k (j+1))∧Below w.heap.size w w1):=by
      refine⟨?_,(bal HBL.out _).grown y2 (by simp; omega) (fun q hq=>(HNR.out.lt q hq).1)⟩
      rw[smps_next,← HE.out]
      exact y1
     clear y1 y2
     go_wp2_with fail
     go_roundg (n - (j+1))
     case measure=>omega
     case rel=>exact⟨j+1,by omega,Nat.le_refl _,by go_num,HS1⟩
  ·obtain rfl:j=n:=by omega
   have dl:decide ((j:Int) < (j:Int))=false:=decide_eq_false (by omega)
   go_wp2_with fail
   refine bodyPost_ret (v:=.tuple #[u8,.bool true]) ?_ rfl ⟨u8,rfl,hS.out.1,hS.out.2⟩
   simp[results,Tryd.results71,go_sem]
end
section
open Go.RowKit Go.Joins TakeMath FiltMath
theorem beq_no13 {a b:Int} (h:¬ a=b):(a == b)=false:=by simpa using h
theorem specSiz (x:Int) (w:World) (h:-100000≤x∧x≤100000):Calls Tryd.prog 114 #[.int .i64 x] w fun e w'=>e=.returned (.int .i64 (siz x))∧w'=w:=by
 unfold siz
 by_cases h0:x < 0
 ·rw[if_pos h0]
  go_enter Tryd.func114,Tryd.ntmps114
  go_wp2_with fail
  go_ret
  exact⟨rfl,rfl⟩
 ·rw[if_neg h0]
  go_enter Tryd.func114,Tryd.ntmps114
  go_wp2_with fail
  go_ret
  exact⟨rfl,rfl⟩
set_option maxHeartbeats 1600000 in
theorem specPaeth_in (a b c:Int) (w:World) (ha:PR a) (hb:PR b) (hc:PR c):Calls Tryd.prog 106 #[.int .i64 a,.int .i64 b,.int .i64 c] w fun e w'=>e=.returned (.int .i64 (paeth a b c))∧w'=w:=by
 unfold PR at ha hb hc
 unfold paeth
 have s1:=fun W=>specSiz (a+b - c - a) W (by omega)
 have s2:=fun W=>specSiz (a+b - c - b) W (by omega)
 have s3:=fun W=>specSiz (a+b - c - c) W (by omega)
 have r1:0≤siz (a+b - c - a)∧siz (a+b - c - a)≤100000:=by unfold siz; split <;> omega
 have r2:0≤siz (a+b - c - b)∧siz (a+b - c - b)≤100000:=by unfold siz; split <;> omega
 have r3:0≤siz (a+b - c - c)∧siz (a+b - c - c)≤100000:=by unfold siz; split <;> omega
 generalize siz (a+b - c - a)=x at *
 generalize siz (a+b - c - b)=y at *
 generalize siz (a+b - c - c)=z at *
 by_cases h1:x≤y
 ·have d1:decide (x≤y)=true:=decide_eq_true h1
  by_cases h2:x≤z
  ·have d2:decide (x≤z)=true:=decide_eq_true h2
   rw[if_pos ⟨h1,h2⟩]
   go_enter Tryd.func106,Tryd.ntmps106
   go_wp2_with fail
   refine (in_yes a _ _ _ ha.1 ha.2).mono ?_
   rintro e w1 ⟨rfl,rfl⟩
   go_wp2_with fail
   refine (in_yes b _ _ _ hb.1 hb.2).mono ?_
   rintro e w1 ⟨rfl,rfl⟩
   go_wp2_with fail
   refine (in_yes c _ _ _ hc.1 hc.2).mono ?_
   rintro e w1 ⟨rfl,rfl⟩
   go_wp2_with fail
   refine (s1 _).mono ?_
   rintro e w1 ⟨rfl,rfl⟩
   go_wp2_with fail
   refine (s2 _).mono ?_
   rintro e w1 ⟨rfl,rfl⟩
   go_wp2_with fail
   refine (s1 _).mono ?_
   rintro e w1 ⟨rfl,rfl⟩
   go_wp2_with fail
   refine (s3 _).mono ?_
   rintro e w1 ⟨rfl,rfl⟩
   go_wp2_with fail
   go_ret
   exact⟨rfl,rfl⟩
  ·have d2:decide (x≤z)=false:=decide_eq_false h2
   rw[if_neg (fun h=>h2 h.2)]
   by_cases h3:y≤z
   ·have d3:decide (y≤z)=true:=decide_eq_true h3
    rw[if_pos h3]
    go_enter Tryd.func106,Tryd.ntmps106
    go_wp2_with fail
    refine (in_yes a _ _ _ ha.1 ha.2).mono ?_
    rintro e w1 ⟨rfl,rfl⟩
    go_wp2_with fail
    refine (in_yes b _ _ _ hb.1 hb.2).mono ?_
    rintro e w1 ⟨rfl,rfl⟩
    go_wp2_with fail
    refine (in_yes c _ _ _ hc.1 hc.2).mono ?_
    rintro e w1 ⟨rfl,rfl⟩
    go_wp2_with fail
    refine (s1 _).mono ?_
    rintro e w1 ⟨rfl,rfl⟩
    go_wp2_with fail
    refine (s2 _).mono ?_
    rintro e w1 ⟨rfl,rfl⟩
    go_wp2_with fail
    refine (s1 _).mono ?_
    rintro e w1 ⟨rfl,rfl⟩
    go_wp2_with fail
    refine (s3 _).mono ?_
    rintro e w1 ⟨rfl,rfl⟩
    go_wp2_with fail
    refine (s2 _).mono ?_
    rintro e w1 ⟨rfl,rfl⟩
    go_wp2_with fail
    refine (s3 _).mono ?_
    rintro e w1 ⟨rfl,rfl⟩
    go_wp2_with fail
    go_ret
    exact⟨rfl,rfl⟩
   ·have d3:decide (y≤z)=false:=decide_eq_false h3
    rw[if_neg h3]
    go_enter Tryd.func106,Tryd.ntmps106
    go_wp2_with fail
    refine (in_yes a _ _ _ ha.1 ha.2).mono ?_
    rintro e w1 ⟨rfl,rfl⟩
    go_wp2_with fail
    refine (in_yes b _ _ _ hb.1 hb.2).mono ?_
    rintro e w1 ⟨rfl,rfl⟩
    go_wp2_with fail
    refine (in_yes c _ _ _ hc.1 hc.2).mono ?_
    rintro e w1 ⟨rfl,rfl⟩
    go_wp2_with fail
    refine (s1 _).mono ?_
    rintro e w1 ⟨rfl,rfl⟩
    go_wp2_with fail
    refine (s2 _).mono ?_
    rintro e w1 ⟨rfl,rfl⟩
    go_wp2_with fail
    refine (s1 _).mono ?_
    rintro e w1 ⟨rfl,rfl⟩
    go_wp2_with fail
    refine (s3 _).mono ?_
    rintro e w1 ⟨rfl,rfl⟩
    go_wp2_with fail
    refine (s2 _).mono ?_
    rintro e w1 ⟨rfl,rfl⟩
    go_wp2_with fail
    refine (s3 _).mono ?_
    rintro e w1 ⟨rfl,rfl⟩
    go_wp2_with fail
    go_ret
    exact⟨rfl,rfl⟩
 ·have d1:decide (x≤y)=false:=decide_eq_false h1
  rw[if_neg (fun h=>h1 h.1)]
  by_cases h3:y≤z
  ·have d3:decide (y≤z)=true:=decide_eq_true h3
   rw[if_pos h3]
   go_enter Tryd.func106,Tryd.ntmps106
   go_wp2_with fail
   refine (in_yes a _ _ _ ha.1 ha.2).mono ?_
   rintro e w1 ⟨rfl,rfl⟩
   go_wp2_with fail
   refine (in_yes b _ _ _ hb.1 hb.2).mono ?_
   rintro e w1 ⟨rfl,rfl⟩
   go_wp2_with fail
   refine (in_yes c _ _ _ hc.1 hc.2).mono ?_
   rintro e w1 ⟨rfl,rfl⟩
   go_wp2_with fail
   refine (s1 _).mono ?_
   rintro e w1 ⟨rfl,rfl⟩
   go_wp2_with fail
   refine (s2 _).mono ?_
   rintro e w1 ⟨rfl,rfl⟩
   go_wp2_with fail
   refine (s2 _).mono ?_
   rintro e w1 ⟨rfl,rfl⟩
   go_wp2_with fail
   refine (s3 _).mono ?_
   rintro e w1 ⟨rfl,rfl⟩
   go_wp2_with fail
   go_ret
   exact⟨rfl,rfl⟩
  ·have d3:decide (y≤z)=false:=decide_eq_false h3
   rw[if_neg h3]
   go_enter Tryd.func106,Tryd.ntmps106
   go_wp2_with fail
   refine (in_yes a _ _ _ ha.1 ha.2).mono ?_
   rintro e w1 ⟨rfl,rfl⟩
   go_wp2_with fail
   refine (in_yes b _ _ _ hb.1 hb.2).mono ?_
   rintro e w1 ⟨rfl,rfl⟩
   go_wp2_with fail
   refine (in_yes c _ _ _ hc.1 hc.2).mono ?_
   rintro e w1 ⟨rfl,rfl⟩
   go_wp2_with fail
   refine (s1 _).mono ?_
   rintro e w1 ⟨rfl,rfl⟩
   go_wp2_with fail
   refine (s2 _).mono ?_
   rintro e w1 ⟨rfl,rfl⟩
   go_wp2_with fail
   refine (s2 _).mono ?_
   rintro e w1 ⟨rfl,rfl⟩
   go_wp2_with fail
   refine (s3 _).mono ?_
   rintro e w1 ⟨rfl,rfl⟩
   go_wp2_with fail
   go_ret
   exact⟨rfl,rfl⟩
theorem specFOk_yes (k:Int) (row above:ByteArray) (unit:Int) (w:World) (h:FiltR k row above unit):Calls Tryd.prog 95 #[.int .i64 k,.string row,.string above,.int .i64 unit] w fun e w'=>e=.returned (.bool true)∧w'=w:=by
 obtain⟨hk,hu,hs,hn⟩:=h
 have e1:((row.size:Int) == (above.size:Int))=true:=beq_iff_eq.2 (by omega)
 have e2:decide ((above.size:Int)≤200)=true:=decide_eq_true (by omega)
 go_enter Tryd.func95,Tryd.ntmps95
 go_wp2_with fail
 refine (in_yes k _ _ _ hk.1 hk.2).mono ?_
 rintro e w1 ⟨rfl,rfl⟩
 go_wp2_with fail
 refine (in_yes unit _ _ _ hu.1 hu.2).mono ?_
 rintro e w1 ⟨rfl,rfl⟩
 go_wp2_with fail
 go_ret
 exact⟨rfl,rfl⟩
theorem specFOk_no (k:Int) (row above:ByteArray) (unit:Int) (w:World) (h:¬ FiltR k row above unit) (h1:row.size≤1048576):Calls Tryd.prog 95 #[.int .i64 k,.string row,.string above,.int .i64 unit] w fun e w'=>e=.returned (.bool false)∧w'=w:=by
 by_cases hk:0≤k∧k≤4
 ·by_cases hu:1≤unit∧unit≤8
  ·by_cases hs:row.size=above.size
   ·have e1:((row.size:Int) == (above.size:Int))=true:=beq_iff_eq.2 (by omega)
    have e2:decide ((above.size:Int)≤200)=false:=decide_eq_false (fun q=>h ⟨hk,hu,hs,by omega⟩)
    clear h
    go_enter Tryd.func95,Tryd.ntmps95
    go_wp2_with fail
    refine (in_yes k _ _ _ hk.1 hk.2).mono ?_
    rintro e w1 ⟨rfl,rfl⟩
    go_wp2_with fail
    refine (in_yes unit _ _ _ hu.1 hu.2).mono ?_
    rintro e w1 ⟨rfl,rfl⟩
    go_wp2_with fail
    go_ret
    exact⟨rfl,rfl⟩
   ·have e1:((row.size:Int) == (above.size:Int))=false:=beq_no13 (by omega)
    clear h
    go_enter Tryd.func95,Tryd.ntmps95
    go_wp2_with fail
    refine (in_yes k _ _ _ hk.1 hk.2).mono ?_
    rintro e w1 ⟨rfl,rfl⟩
    go_wp2_with fail
    refine (in_yes unit _ _ _ hu.1 hu.2).mono ?_
    rintro e w1 ⟨rfl,rfl⟩
    go_wp2_with fail
    go_ret
    exact⟨rfl,rfl⟩
  ·clear h
   go_enter Tryd.func95,Tryd.ntmps95
   go_wp2_with fail
   refine (in_yes k _ _ _ hk.1 hk.2).mono ?_
   rintro e w1 ⟨rfl,rfl⟩
   go_wp2_with fail
   refine (in_no unit _ _ _ hu).mono ?_
   rintro e w1 ⟨rfl,rfl⟩
   go_wp2_with fail
   go_ret
   exact⟨rfl,rfl⟩
 ·clear h
  go_enter Tryd.func95,Tryd.ntmps95
  go_wp2_with fail
  refine (in_no k _ _ _ hk).mono ?_
  rintro e w1 ⟨rfl,rfl⟩
  go_wp2_with fail
  go_ret
  exact⟨rfl,rfl⟩
end
end Go.Proofs.YtcbbcadfolgioaaDoor
