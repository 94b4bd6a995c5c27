/-
  Texts of the proof, put together.
-/
import Derived.Test.YtklpiihnbokkkaaGreatDoorFk17
namespace Go.Proofs.YtklpiihnbokkkaaGreatDoor
section
open Go.RowKit Go.Joins OutMath CodeMath TakeMath HitMath WayMath StepMath TokMath BookMath InfMath
theorem i64_xor_nat (a b:Nat) (ha:a < 9223372036854775808) (hb:b < 9223372036854775808):bits .xor .i64 (a:Int) (b:Int)=((a ^^^ b:Nat):Int):=by
 have h1:(BitVec.ofInt 64 (a:Int)).toNat=a:=by
  rw[BitVec.ofInt_natCast,BitVec.toNat_ofNat]; exact Nat.mod_eq_of_lt (by omega)
 have h2:(BitVec.ofInt 64 (b:Int)).toNat=b:=by
  rw[BitVec.ofInt_natCast,BitVec.toNat_ofNat]; exact Nat.mod_eq_of_lt (by omega)
 have hx:a ^^^ b < 2 ^ 63:=Nat.xor_lt_two_pow (by omega) (by omega)
 show IntKind.i64.wrap ((BitVec.ofInt 64 (a:Int) ^^^ BitVec.ofInt 64 (b:Int)).toNat:Int)=_
 rw[BitVec.toNat_xor,h1,h2,IntKind.wrap_i64]
 omega
theorem xor_all (x:Nat) (h:x < 65536):x ^^^ 65535=65535 - x:=by
 apply Nat.eq_of_testBit_eq
 intro i
 have e:65535 - x=2 ^ 16 - (x+1):=by omega
 rw[Nat.testBit_xor,e,Nat.testBit_two_pow_sub_succ (by omega),show (65535:Nat)=2 ^ 16 - 1 from rfl,Nat.testBit_two_pow_sub_one]
 by_cases hi:i < 16
 ·simp[hi]
 ·have:x.testBit i=false:=Nat.testBit_lt_two_pow (Nat.lt_of_lt_of_le (show x < 2 ^ 16 by omega) (Nat.pow_le_pow_right (by omega) (by omega)))
  simp[hi,this]
theorem xor_turned (x y:Nat) (hx:x < 65536) (_hy:y < 65536):x ^^^ y=65535↔x+y=65535:=by
 constructor
 ·intro h
  have e:y=x ^^^ 65535:=by rw [← h,← Nat.xor_assoc,Nat.xor_self,Nat.zero_xor]
  rw[xor_all x hx] at e
  omega
 ·intro h
  have e:y=x ^^^ 65535:=by
   rw[xor_all x hx]
   omega
  rw[e,← Nat.xor_assoc,Nat.xor_self,Nat.zero_xor]
section
variable (B:Nat) (w:World) (fb rb:Nat) (s:ByteArray) (p:Nat) (O:List Int) (most:Nat) (Ty:List Int) (vo vt:Value)
def StRing (B:Nat) (w:World) (fb rb:Nat) (s:ByteArray) (q:Nat) (O:List Int) (most:Nat) (Ty:List Int) (vo vt:Value) (j:Nat) (vo':Value) (w':World):Prop:=
 PS B w' fb rb s (q+8 * j) (O ++ bytesAt s q j) most Ty vo' vt∧Step fb rb w vo vt w' vo' vt∧q+8 * j≤8 * s.size
set_option maxRecDepth 100000 in
set_option maxHeartbeats 3200000 in
theorem takeStored_any (h:PS B w fb rb s p O most Ty vo vt) (hs:s.size≤12000) (hp:p≤8 * s.size) (hm:most≤12000) (hO:O.length≤most):
  Calls Tryz.prog 93 #[.pointer (some ⟨fb,0,none⟩)] w (BlkPost B w fb rb s most Ty vo vt (storedE s most p O)):=by
 have c0:=h.1.cells.1
 have hlf:=h.ltf
 have hpb:=passToByte_own s p rb w h.2.1 (by omega)
 obtain⟨q,hq⟩:∃ q,q=wholeAt p:=⟨_,rfl⟩
 have hq8:q≤8 * s.size:=by rw [hq]; unfold wholeAt; omega
 have HE:Hid (storedE s most p O=if q+32≤8 * s.size then (if num s q 16+num s (q+16) 16≠65535 then .error 4 else if (most:Int) - O.length < num s q 16 then .error 8 else if q+32+8 * (num s q 16).toNat≤8 * s.size then .ok (O ++ bytesAt s (q+32) (num s q 16).toNat,q+32+8 * (num s q 16).toNat) else .error 2) else .error 2):=by
  rw[hq]
  rfl
 have e8:8 * ((p+7) / 8)=q:=by rw [hq]; rfl
 rw[e8] at hpb
 have HPS:=hid_of h
 clear h hq e8
 generalize storedE s most p O=res at *
 go_enter Tryz.func93,Tryz.ntmps93
 go_wp2_with fail
 refine hpb.mono ?_
 clear hpb
 rintro e w1 ⟨rfl,hR1,hg1⟩
 have HS1:=hid_of (HPS.out.read hR1 hg1)
 have HT1:Hid (Step fb rb w vo vt w1 vo vt):=step_read hg1
 clear hR1 hg1 c0
 by_cases h16:q+16≤8 * s.size
 ·have ht1:=take_yes B w1 fb rb s q O most Ty vo vt HS1.out hs 16 (by omega) h16
  have q1:=num_bd s q 16
  have q2:=num_bd s (q+16) 16
  rw[show p2 16=65536 by decide +kernel] at q1 q2
  go_wp2_with fail
  refine ht1.mono ?_
  clear ht1
  rintro e w2 ⟨rfl,hS2,hg2⟩
  have HS2:=hid_of hS2
  have HT2:=hid_of (HT1.out.trans (step_read hg2))
  clear hS2 hg2 HS1 HT1
  by_cases h32:q+32≤8 * s.size
  ·have ht2:=take_yes B w2 fb rb s (q+16) O most Ty vo vt HS2.out hs 16 (by omega) (by omega)
   rw[show q+16+16=q+32 by omega] at ht2
   have HE2:=hid_of (HE.out.trans (if_pos h32))
   clear HE
   obtain⟨x,hx⟩:=Int.eq_ofNat_of_zero_le q1.1
   obtain⟨y,hy⟩:=Int.eq_ofNat_of_zero_le q2.1
   rw[hx] at HE2 q1 ⊢
   rw[hy] at HE2 q2 ht2
   have hx6:x < 65536:=by omega
   have hy6:y < 65536:=by omega
   clear q1 q2 hx hy
   go_wp2_with fail
   refine ht2.mono ?_
   clear ht2
   rintro e w3 ⟨rfl,hS3,hg3⟩
   have HS3:=hid_of hS3
   have HT3:=hid_of (HT2.out.trans (step_read hg3))
   have c1:=hS3.1.cells.2.1
   have c2:=hS3.1.cells.2.2.1
   have hlf3:=hS3.ltf
   obtain⟨ao,co,hvo⟩:=hS3.2.2.1.form
   have HVO:=hid_of hvo
   rw[hvo] at c1
   clear hS3 hg3 HS2 HT2 hvo
   have hxo:=i64_xor_nat x y (by omega) (by omega)
   by_cases hxy:x+y=65535
   ·have dx:((x ^^^ y:Nat):Int)=65535:=by rw [(xor_turned x y hx6 hy6).2 hxy]; rfl
    rw[dx] at hxo
    have HE3:=hid_of (HE2.out.trans (if_neg (fun q=>q (by omega))))
    clear HE2 dx
    by_cases hmo:O.length+x≤most
    ·have dm:decide ((most:Int) < (O.length:Int)+(x:Int))=false:=decide_eq_false (by omega)
     have HE4:=hid_of (HE3.out.trans (if_neg (by omega)))
     clear HE3
     rw[Int.toNat_natCast] at HE4
     have H0:Hid (StRing B w fb rb s (q+32) O most Ty vo vt 0 vo w3):=⟨by have:=HS3.out; simpa [bytesAt] using this,HT3.out,by omega⟩
     have H0d:Hid (∀ k,StRing B w fb rb s (q+32) O most Ty vo vt 0 vo (w3.drewN k)):=fun k=>by
      have hb:Below w3.heap.size w3 (w3.drewN k):=⟨rfl,rfl,rfl,Nat.le_refl _,fun _ _=>rfl⟩
      exact⟨H0.out.1.called hb,H0.out.2.1.trans (Step.called hb),H0.out.2.2⟩
     clear HS3 HT3 H0
     go_wp2_with fail
     go_quiet (fail)
     go_wp2_with fail
     go_loopg [53] (x+1) (fun gk v w'=>∃ (j:Nat) (vo':Value),j≤x∧v=.int .i64 (j:Int)∧x - j≤gk∧Hid (StRing B w fb rb s (q+32) O most Ty vo vt j vo' w'))
     case atStart=>exact⟨0,vo,Nat.zero_le _,rfl,by omega,H0d.out _⟩
     case round=>
      clear H0d c1 c2
      obtain⟨j,vo1,hj,rfl,hgk,hR⟩:=hrel
      by_cases hjx:j < x
      ·have dj:decide ((j:Int) < (x:Int))=true:=decide_eq_true (by omega)
       have dj2:decide (j < x)=true:=decide_eq_true hjx
       by_cases h8:q+32+8 * j+8≤8 * s.size
       ·have ht3:=take_yes B wr fb rb s (q+32+8 * j) _ most Ty vo1 vt hR.out.1 hs 8 (by omega) h8
        have q8:=num_bd s (q+32+8 * j) 8
        rw[show p2 8=256 by decide +kernel] at q8
        have hwz:=wrap_u8 q8.1 q8.2
        have HNX:Hid (O ++ bytesAt s (q+32) (j+1)=O ++ bytesAt s (q+32) j ++ [num s (q+32+8 * j) 8]):=by
         show O ++ bytesAt s (q+32) (j+1)=_
         rw[bytesAt_next,List.append_assoc]
        have hlen:(O ++ bytesAt s (q+32) j).length≤12000:=by
         rw[List.length_append,bytesAt_length]
         omega
        generalize num s (q+32+8 * j) 8=z at *
        go_wp2_with fail
        refine ht3.mono ?_
        clear ht3
        rintro e w4 ⟨rfl,hS4,hg4⟩
        have HT4:=hid_of (hR.out.2.1.trans (step_read hg4))
        have HS4:=hid_of hS4
        have m1:=hS4.1.cells.2.1
        have ml:=hS4.ltf
        obtain⟨a4,c4,hv4⟩:=hS4.2.2.1.form
        subst hv4
        have HOR:=hid_of hS4.2.2.1
        have hBl:=hS4.2.2.2.2.2.2.2.2.2.2
        clear hS4 hg4 hR
        generalize O ++ bytesAt s (q+32) j=OO at *
        go_wp2_with (at_builtin; refine bytes_append1 (S:=B) (xs:=OO) rfl _ _ rfl rfl (World.ownsRow.alloc HOR.out _) w4.heap.size 1 z rfl (by simp) (by omega) (by simp; omega) ?_)
        intro v5 w5 y1 y2 y3
        have hgr:w4.grownBy w5 (Value.slice a4 OO.length c4).ownBlock:=(grown_called (bstart w4 _) _).trans y2
        have hmv:v5.ownBlock=(Value.slice a4 OO.length c4).ownBlock∨∀ k,v5.ownBlock=some k→w4.heap.size≤k:=by
         rcases y3 with q | q
         ·exact .inl q
         ·refine .inr (fun k e=>?_)
          rw[q] at e
          have:=Option.some.inj e
          omega
        obtain⟨k1,k2,k3⟩:=HS4.out.made y1 hgr hmv
        have n1:=k1.cells.2.1
        have nf:=k1.free 1
        have nl:=k1.lt
        obtain⟨a5,c5,hv5⟩:=OR.form y1
        subst hv5
        have HN:Hid (StRing B w fb rb s (q+32) O most Ty vo vt (j+1) (.slice a5 (OO ++ [z]).length c5) (w5.setCell ⟨fb,1,none⟩ (.slice a5 (OO ++ [z]).length c5))):=by
         refine⟨?_,HT4.out.trans k3,by omega⟩
         rw[HNX.out,show q+32+8 * (j+1)=q+32+8 * j+8 by omega]
         exact k2
        clear HS4 HOR y1 y2 y3 hgr hmv k1 k2 k3 HT4 HNX m1
        rw[List.length_append,List.length_singleton] at *
        go_wp2_with fail
        go_roundg (x - (j+1))
        case measure=>omega
        case rel=>exact⟨j+1,_,by omega,by go_num,Nat.le_refl _,HN⟩
       ·have ht3:=take_no B wr fb rb s (q+32+8 * j) _ most Ty vo1 vt hR.out.1 hs hR.out.2.2 8 (by omega) h8
        have HE5:Hid (res=.error 2):=HE4.out.trans (if_neg (by omega))
        go_wp2_with fail
        refine ht3.mono ?_
        clear ht3
        rintro e w4 ⟨rfl,hS4,hg4⟩
        have HP:Hid (BlkPost B w fb rb s most Ty vo vt res (.returned (errV 2)) w4):=.inr ⟨2,HE5.out,rfl,HPS.out.below (hR.out.2.1.trans (step_read hg4))⟩
        clear hS4 hg4 hR
        go_wp2_with fail
        go_ret
        exact HP.out
      ·obtain rfl:j=x:=by omega
       have dj:decide ((j:Int) < (j:Int))=false:=decide_eq_false (by omega)
       have HP:Hid (BlkPost B w fb rb s most Ty vo vt res (.returned .nilIface) wr):=.inl ⟨_,q+32+8 * j,vo1,HE4.out.trans (if_pos hR.out.2.2),hR.out.2.2,by rw [List.length_append,bytesAt_length]; omega,rfl,hR.out.1,hR.out.2.1⟩
       clear hR
       go_wp2_with fail
       go_ret
       exact HP.out
    ·have dm:decide ((most:Int) < (O.length:Int)+(x:Int))=true:=decide_eq_true (by omega)
     have HE4:Hid (res=.error 8):=HE3.out.trans (if_pos (by omega))
     have HP:Hid (∀ k,BlkPost B w fb rb s most Ty vo vt res (.returned (errV 8)) (w3.drewN k)):=fun k=>.inr ⟨8,HE4.out,rfl,(HPS.out.below HT3.out).trans ⟨rfl,rfl,rfl,Nat.le_refl _,fun _ _=>rfl⟩⟩
     clear HS3 HT3 HE3
     go_wp2_with fail
     go_quiet (fail)
     go_wp2_with fail
     go_ret
     exact HP.out _
   ·have dx:(((x ^^^ y:Nat):Int) != 65535)=true:=by
     have hne:x ^^^ y≠65535:=fun e=>hxy ((xor_turned x y hx6 hy6).1 e)
     rw[bne_iff_ne]
     omega
    have HE3:Hid (res=.error 4):=HE2.out.trans (if_pos (by omega))
    have HP:Hid (BlkPost B w fb rb s most Ty vo vt res (.returned (errV 4)) w3):=.inr ⟨4,HE3.out,rfl,HPS.out.below HT3.out⟩
    clear HS3 HT3 HE2
    generalize x ^^^ y=xy at *
    go_wp2_with fail
    go_ret
    exact HP.out
  ·have ht2:=take_no B w2 fb rb s (q+16) O most Ty vo vt HS2.out hs h16 16 (by omega) (by omega)
   have HE2:Hid (res=.error 2):=HE.out.trans (if_neg h32)
   clear HE
   generalize num s q 16=x at *
   go_wp2_with fail
   refine ht2.mono ?_
   clear ht2
   rintro e w3 ⟨rfl,hS3,hg3⟩
   have HP:Hid (BlkPost B w fb rb s most Ty vo vt res (.returned (errV 2)) w3):=.inr ⟨2,HE2.out,rfl,HPS.out.below (HT2.out.trans (step_read hg3))⟩
   clear hS3 hg3 HS2 HT2
   go_wp2_with fail
   go_ret
   exact HP.out
 ·have ht1:=take_no B w1 fb rb s q O most Ty vo vt HS1.out hs hq8 16 (by omega) h16
  have HE2:Hid (res=.error 2):=HE.out.trans (if_neg (by omega))
  clear HE
  go_wp2_with fail
  refine ht1.mono ?_
  clear ht1
  rintro e w2 ⟨rfl,hS2,hg2⟩
  have HP:Hid (BlkPost B w fb rb s most Ty vo vt res (.returned (errV 2)) w2):=.inr ⟨2,HE2.out,rfl,HPS.out.below (HT1.out.trans (step_read hg2))⟩
  clear hS2 hg2 HS1 HT1
  go_wp2_with fail
  go_ret
  exact HP.out
end
end
section
open Go.RowKit Go.Joins InfMath
def firstJ (f:Nat→Int) (j:Nat):List Int:=(List.range j).map f
theorem firstJ_length (f:Nat→Int) (j:Nat):(firstJ f j).length=j:=by simp [firstJ]
theorem firstJ_getD (f:Nat→Int) {j i:Nat} (h:i < j):(firstJ f j).getD i 0=f i:=by simp [firstJ,List.getD_eq_getElem?_getD,List.getElem?_map,List.getElem?_range h]
end
end Go.Proofs.YtklpiihnbokkkaaGreatDoor
