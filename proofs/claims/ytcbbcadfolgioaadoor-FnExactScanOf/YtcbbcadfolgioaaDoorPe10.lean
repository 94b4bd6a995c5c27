/-
  Texts of the proof, put together.
-/
import Derived.Test.YtcbbcadfolgioaaDoorPe05
namespace Go.Proofs.YtcbbcadfolgioaaDoor
section
open Go.RowKit Go.Joins TakeMath FiltMath
theorem beq_no13 {a b:Int} (h:¬ a=b):(a == b)=false:=by simpa using h
theorem specSiz (x:Int) (w:World) (h:-100000≤x∧x≤100000):Calls Tryd.prog 114 #[.int .i64 x] w fun e w'=>e=.returned (.int .i64 (siz x))∧w'=w:=by
 unfold siz
 by_cases h0:x < 0
 ·rw[if_pos h0]
  go_enter Tryd.func114,Tryd.ntmps114
  go_wp2_with fail
  go_ret
  exact⟨rfl,rfl⟩
 ·rw[if_neg h0]
  go_enter Tryd.func114,Tryd.ntmps114
  go_wp2_with fail
  go_ret
  exact⟨rfl,rfl⟩
set_option maxHeartbeats 1600000 in
theorem specPaeth_in (a b c:Int) (w:World) (ha:PR a) (hb:PR b) (hc:PR c):Calls Tryd.prog 106 #[.int .i64 a,.int .i64 b,.int .i64 c] w fun e w'=>e=.returned (.int .i64 (paeth a b c))∧w'=w:=by
 unfold PR at ha hb hc
 unfold paeth
 have s1:=fun W=>specSiz (a+b - c - a) W (by omega)
 have s2:=fun W=>specSiz (a+b - c - b) W (by omega)
 have s3:=fun W=>specSiz (a+b - c - c) W (by omega)
 have r1:0≤siz (a+b - c - a)∧siz (a+b - c - a)≤100000:=by unfold siz; split <;> omega
 have r2:0≤siz (a+b - c - b)∧siz (a+b - c - b)≤100000:=by unfold siz; split <;> omega
 have r3:0≤siz (a+b - c - c)∧siz (a+b - c - c)≤100000:=by unfold siz; split <;> omega
 generalize siz (a+b - c - a)=x at *
 generalize siz (a+b - c - b)=y at *
 generalize siz (a+b - c - c)=z at *
 by_cases h1:x≤y
 ·have d1:decide (x≤y)=true:=decide_eq_true h1
  by_cases h2:x≤z
  ·have d2:decide (x≤z)=true:=decide_eq_true h2
   rw[if_pos ⟨h1,h2⟩]
   go_enter Tryd.func106,Tryd.ntmps106
   go_wp2_with fail
   refine (in_yes a _ _ _ ha.1 ha.2).mono ?_
   rintro e w1 ⟨rfl,rfl⟩
   go_wp2_with fail
   refine (in_yes b _ _ _ hb.1 hb.2).mono ?_
   rintro e w1 ⟨rfl,rfl⟩
   go_wp2_with fail
   refine (in_yes c _ _ _ hc.1 hc.2).mono ?_
   rintro e w1 ⟨rfl,rfl⟩
   go_wp2_with fail
   refine (s1 _).mono ?_
   rintro e w1 ⟨rfl,rfl⟩
   go_wp2_with fail
   refine (s2 _).mono ?_
   rintro e w1 ⟨rfl,rfl⟩
   go_wp2_with fail
   refine (s1 _).mono ?_
   rintro e w1 ⟨rfl,rfl⟩
   go_wp2_with fail
   refine (s3 _).mono ?_
   rintro e w1 ⟨rfl,rfl⟩
   go_wp2_with fail
   go_ret
   exact⟨rfl,rfl⟩
  ·have d2:decide (x≤z)=false:=decide_eq_false h2
   rw[if_neg (fun h=>h2 h.2)]
   by_cases h3:y≤z
   ·have d3:decide (y≤z)=true:=decide_eq_true h3
    rw[if_pos h3]
    go_enter Tryd.func106,Tryd.ntmps106
    go_wp2_with fail
    refine (in_yes a _ _ _ ha.1 ha.2).mono ?_
    rintro e w1 ⟨rfl,rfl⟩
    go_wp2_with fail
    refine (in_yes b _ _ _ hb.1 hb.2).mono ?_
    rintro e w1 ⟨rfl,rfl⟩
    go_wp2_with fail
    refine (in_yes c _ _ _ hc.1 hc.2).mono ?_
    rintro e w1 ⟨rfl,rfl⟩
    go_wp2_with fail
    refine (s1 _).mono ?_
    rintro e w1 ⟨rfl,rfl⟩
    go_wp2_with fail
    refine (s2 _).mono ?_
    rintro e w1 ⟨rfl,rfl⟩
    go_wp2_with fail
    refine (s1 _).mono ?_
    rintro e w1 ⟨rfl,rfl⟩
    go_wp2_with fail
    refine (s3 _).mono ?_
    rintro e w1 ⟨rfl,rfl⟩
    go_wp2_with fail
    refine (s2 _).mono ?_
    rintro e w1 ⟨rfl,rfl⟩
    go_wp2_with fail
    refine (s3 _).mono ?_
    rintro e w1 ⟨rfl,rfl⟩
    go_wp2_with fail
    go_ret
    exact⟨rfl,rfl⟩
   ·have d3:decide (y≤z)=false:=decide_eq_false h3
    rw[if_neg h3]
    go_enter Tryd.func106,Tryd.ntmps106
    go_wp2_with fail
    refine (in_yes a _ _ _ ha.1 ha.2).mono ?_
    rintro e w1 ⟨rfl,rfl⟩
    go_wp2_with fail
    refine (in_yes b _ _ _ hb.1 hb.2).mono ?_
    rintro e w1 ⟨rfl,rfl⟩
    go_wp2_with fail
    refine (in_yes c _ _ _ hc.1 hc.2).mono ?_
    rintro e w1 ⟨rfl,rfl⟩
    go_wp2_with fail
    refine (s1 _).mono ?_
    rintro e w1 ⟨rfl,rfl⟩
    go_wp2_with fail
    refine (s2 _).mono ?_
    rintro e w1 ⟨rfl,rfl⟩
    go_wp2_with fail
    refine (s1 _).mono ?_
    rintro e w1 ⟨rfl,rfl⟩
    go_wp2_with fail
    refine (s3 _).mono ?_
    rintro e w1 ⟨rfl,rfl⟩
    go_wp2_with fail
    refine (s2 _).mono ?_
    rintro e w1 ⟨rfl,rfl⟩
    go_wp2_with fail
    refine (s3 _).mono ?_
    rintro e w1 ⟨rfl,rfl⟩
    go_wp2_with fail
    go_ret
    exact⟨rfl,rfl⟩
 ·have d1:decide (x≤y)=false:=decide_eq_false h1
  rw[if_neg (fun h=>h1 h.1)]
  by_cases h3:y≤z
  ·have d3:decide (y≤z)=true:=decide_eq_true h3
   rw[if_pos h3]
   go_enter Tryd.func106,Tryd.ntmps106
   go_wp2_with fail
   refine (in_yes a _ _ _ ha.1 ha.2).mono ?_
   rintro e w1 ⟨rfl,rfl⟩
   go_wp2_with fail
   refine (in_yes b _ _ _ hb.1 hb.2).mono ?_
   rintro e w1 ⟨rfl,rfl⟩
   go_wp2_with fail
   refine (in_yes c _ _ _ hc.1 hc.2).mono ?_
   rintro e w1 ⟨rfl,rfl⟩
   go_wp2_with fail
   refine (s1 _).mono ?_
   rintro e w1 ⟨rfl,rfl⟩
   go_wp2_with fail
   refine (s2 _).mono ?_
   rintro e w1 ⟨rfl,rfl⟩
   go_wp2_with fail
   refine (s2 _).mono ?_
   rintro e w1 ⟨rfl,rfl⟩
   go_wp2_with fail
   refine (s3 _).mono ?_
   rintro e w1 ⟨rfl,rfl⟩
   go_wp2_with fail
   go_ret
   exact⟨rfl,rfl⟩
  ·have d3:decide (y≤z)=false:=decide_eq_false h3
   rw[if_neg h3]
   go_enter Tryd.func106,Tryd.ntmps106
   go_wp2_with fail
   refine (in_yes a _ _ _ ha.1 ha.2).mono ?_
   rintro e w1 ⟨rfl,rfl⟩
   go_wp2_with fail
   refine (in_yes b _ _ _ hb.1 hb.2).mono ?_
   rintro e w1 ⟨rfl,rfl⟩
   go_wp2_with fail
   refine (in_yes c _ _ _ hc.1 hc.2).mono ?_
   rintro e w1 ⟨rfl,rfl⟩
   go_wp2_with fail
   refine (s1 _).mono ?_
   rintro e w1 ⟨rfl,rfl⟩
   go_wp2_with fail
   refine (s2 _).mono ?_
   rintro e w1 ⟨rfl,rfl⟩
   go_wp2_with fail
   refine (s2 _).mono ?_
   rintro e w1 ⟨rfl,rfl⟩
   go_wp2_with fail
   refine (s3 _).mono ?_
   rintro e w1 ⟨rfl,rfl⟩
   go_wp2_with fail
   go_ret
   exact⟨rfl,rfl⟩
theorem specFOk_yes (k:Int) (row above:ByteArray) (unit:Int) (w:World) (h:FiltR k row above unit):Calls Tryd.prog 95 #[.int .i64 k,.string row,.string above,.int .i64 unit] w fun e w'=>e=.returned (.bool true)∧w'=w:=by
 obtain⟨hk,hu,hs,hn⟩:=h
 have e1:((row.size:Int) == (above.size:Int))=true:=beq_iff_eq.2 (by omega)
 have e2:decide ((above.size:Int)≤200)=true:=decide_eq_true (by omega)
 go_enter Tryd.func95,Tryd.ntmps95
 go_wp2_with fail
 refine (in_yes k _ _ _ hk.1 hk.2).mono ?_
 rintro e w1 ⟨rfl,rfl⟩
 go_wp2_with fail
 refine (in_yes unit _ _ _ hu.1 hu.2).mono ?_
 rintro e w1 ⟨rfl,rfl⟩
 go_wp2_with fail
 go_ret
 exact⟨rfl,rfl⟩
theorem specFOk_no (k:Int) (row above:ByteArray) (unit:Int) (w:World) (h:¬ FiltR k row above unit) (h1:row.size≤1048576):Calls Tryd.prog 95 #[.int .i64 k,.string row,.string above,.int .i64 unit] w fun e w'=>e=.returned (.bool false)∧w'=w:=by
 by_cases hk:0≤k∧k≤4
 ·by_cases hu:1≤unit∧unit≤8
  ·by_cases hs:row.size=above.size
   ·have e1:((row.size:Int) == (above.size:Int))=true:=beq_iff_eq.2 (by omega)
    have e2:decide ((above.size:Int)≤200)=false:=decide_eq_false (fun q=>h ⟨hk,hu,hs,by omega⟩)
    clear h
    go_enter Tryd.func95,Tryd.ntmps95
    go_wp2_with fail
    refine (in_yes k _ _ _ hk.1 hk.2).mono ?_
    rintro e w1 ⟨rfl,rfl⟩
    go_wp2_with fail
    refine (in_yes unit _ _ _ hu.1 hu.2).mono ?_
    rintro e w1 ⟨rfl,rfl⟩
    go_wp2_with fail
    go_ret
    exact⟨rfl,rfl⟩
   ·have e1:((row.size:Int) == (above.size:Int))=false:=beq_no13 (by omega)
    clear h
    go_enter Tryd.func95,Tryd.ntmps95
    go_wp2_with fail
    refine (in_yes k _ _ _ hk.1 hk.2).mono ?_
    rintro e w1 ⟨rfl,rfl⟩
    go_wp2_with fail
    refine (in_yes unit _ _ _ hu.1 hu.2).mono ?_
    rintro e w1 ⟨rfl,rfl⟩
    go_wp2_with fail
    go_ret
    exact⟨rfl,rfl⟩
  ·clear h
   go_enter Tryd.func95,Tryd.ntmps95
   go_wp2_with fail
   refine (in_yes k _ _ _ hk.1 hk.2).mono ?_
   rintro e w1 ⟨rfl,rfl⟩
   go_wp2_with fail
   refine (in_no unit _ _ _ hu).mono ?_
   rintro e w1 ⟨rfl,rfl⟩
   go_wp2_with fail
   go_ret
   exact⟨rfl,rfl⟩
 ·clear h
  go_enter Tryd.func95,Tryd.ntmps95
  go_wp2_with fail
  refine (in_no k _ _ _ hk).mono ?_
  rintro e w1 ⟨rfl,rfl⟩
  go_wp2_with fail
  go_ret
  exact⟨rfl,rfl⟩
set_option maxHeartbeats 800000 in
theorem specWeight (s:ByteArray) (w:World) (hs:s.size≤1048576):Calls Tryd.prog 105 #[.string s] w fun e w'=>e=.returned (.int .i64 (weight s))∧w'=w:=by
 unfold weight
 by_cases hn:s.size≤200
 ·rw[if_pos hn]
  have dn:decide ((200:Int) < (s.size:Int))=false:=decide_eq_false (by omega)
  go_enter Tryd.func105,Tryd.ntmps105
  go_wp2_with fail
  go_loop [3,4] (fun x i=>∃ j:Nat,j≤s.size∧i=.int .i64 (j:Int)∧x=.int .i64 (wsum (bts s) j)) (fun _ i=>s.size - (intOf i).toNat)
  case atStart=>exact⟨0,Nat.zero_le _,rfl,rfl⟩
  case round=>
   obtain⟨j,hj,rfl,rfl⟩:=hrel
   have hw:=wsum_range (bts_byte s) j
   by_cases hlt:j < s.size
   ·have dl:decide ((j:Int) < (s.size:Int))=true:=decide_eq_true (by omega)
    have HB:Hid ((s[j]'hlt).toNat=byteAt s j):=byteAt_get s j hlt
    have hb2:(s[j]'hlt).toNat < 256:=UInt8.toNat_lt _
    have HN:Hid (wsum (bts s) (j+1)=wsum (bts s) j+wgt (bts s j)):=rfl
    by_cases h7:127 < (s[j]'hlt).toNat
    ·have d7:decide ((127:Int) < ((s[j]'hlt).toNat:Int))=true:=decide_eq_true (by omega)
     have HW:Hid (wgt (bts s j)=256 - ((s[j]'hlt).toNat:Int)):=by
      show wgt (byteAt s j:Int)=_
      rw[← HB.out]
      unfold wgt
      rw[if_pos (by omega)]
     go_wp2_with fail
     go_round
     case rel=>exact⟨j+1,by omega,by go_num,by rw [HN.out,HW.out]⟩
     case measure=>simp [intOf]; omega
    ·have d7:decide ((127:Int) < ((s[j]'hlt).toNat:Int))=false:=decide_eq_false (by omega)
     have HW:Hid (wgt (bts s j)=((s[j]'hlt).toNat:Int)):=by
      show wgt (byteAt s j:Int)=_
      rw[← HB.out]
      unfold wgt
      rw[if_neg (by omega)]
     go_wp2_with fail
     go_round
     case rel=>exact⟨j+1,by omega,by go_num,by rw [HN.out,HW.out]⟩
     case measure=>simp [intOf]; omega
   ·have dl:decide ((j:Int) < (s.size:Int))=false:=decide_eq_false (by omega)
    go_wp2_with fail
    go_ret
    obtain rfl:j=s.size:=by omega
    exact⟨rfl,rfl⟩
 ·rw[if_neg hn]
  have dn:decide ((200:Int) < (s.size:Int))=true:=decide_eq_true (by omega)
  go_enter Tryd.func105,Tryd.ntmps105
  go_wp2_with fail
  go_ret
  exact⟨rfl,rfl⟩
end
section
open Go.RowKit Go.Joins TakeMath FiltMath
theorem specPaeth_byte {a b c:Int} (W:World) (ha:0≤a∧a < 256) (hb:0≤b∧b < 256) (hc:0≤c∧c < 256):Calls Tryd.prog 106 #[.int .i64 a,.int .i64 b,.int .i64 c] W fun e w'=>e=.returned (.int .i64 (paeth a b c))∧w'=W:=
 specPaeth_in a b c W ⟨by omega,by omega⟩ ⟨by omega,by omega⟩ ⟨by omega,by omega⟩
set_option maxHeartbeats 3200000 in
theorem specSays (k:Int) (a:Option Addr) (n cap:Nat) (r:Nat→Int) (above:ByteArray) (unit i:Nat) (w:World) (hu:1≤unit∧unit≤8) (hi:i < above.size) (hs:above.size≤200) (hr:∀ i,0≤r i∧r i < 256)
  (hrow:unit≤i→∃ g,a=some ⟨g,0,none⟩∧i - unit < n∧g < w.heap.size∧w.cell? ⟨g,i - unit,none⟩=some (.int .u8 (r (i - unit)))):
  Calls Tryd.prog 96 #[.int .i64 k,.slice a n cap,.string above,.int .i64 (unit:Int),.int .i64 (i:Int)] w fun e w'=>e=.returned (.int .i64 (says k r (bts above) unit i))∧w'=w:=by
 have HB:Hid ((above[i]'hi).toNat=byteAt above i):=byteAt_get above i hi
 have hb2:(above[i]'hi).toNat < 256:=UInt8.toNat_lt _
 have il:(i:Int) < (above.size:Int):=by omega
 by_cases hq:unit≤i
 ·have dq:decide ((unit:Int)≤(i:Int))=true:=decide_eq_true (by omega)
  have dn:decide (unit≤i)=true:=decide_eq_true hq
  obtain⟨g,rfl,hn,hg,hc⟩:=hrow hq
  obtain⟨m,hm⟩:∃ m,m=i - unit:=⟨_,rfl⟩
  have hmi:(i:Int) - (unit:Int)=(m:Int):=by omega
  have hml:m < above.size:=by omega
  have HM:Hid ((above[m]'hml).toNat=byteAt above m):=byteAt_get above m hml
  have hm2:(above[m]'hml).toNat < 256:=UInt8.toNat_lt _
  have HS:Hid (says k r (bts above) unit i=told k (r m) ((above[i]'hi).toNat:Int) ((above[m]'hml).toNat:Int)):=by
   show told k (aheadB r unit i) (bts above i) (aheadB (bts above) unit i)=_
   unfold aheadB
   rw[if_pos hq,if_pos hq,← hm]
   unfold bts
   rw[HB.out,HM.out]
  rw[HS.out]
  rw[← hm] at hn hc
  have hrm:=hr m
  generalize r m=A at hc hrm ⊢
  have hp:=fun W=>specPaeth_byte (a:=A) (b:=((above[i]'hi).toNat:Int)) (c:=((above[m]'hml).toNat:Int)) W hrm (by omega) (by omega)
  clear HS HB HM hrow hq hm
  unfold told
  by_cases k1:k=1
  ·subst k1
   rw[if_pos rfl]
   go_enter Tryd.func96,Tryd.ntmps96
   go_wp2_with fail
   go_ret
   exact⟨rfl,rfl⟩
  by_cases k2:k=2
  ·subst k2
   rw[if_neg (by decide)]
   rw[if_pos rfl]
   go_enter Tryd.func96,Tryd.ntmps96
   go_wp2_with fail
   go_ret
   exact⟨rfl,rfl⟩
  by_cases k3:k=3
  ·subst k3
   rw[if_neg (by decide)]
   rw[if_neg (by decide)]
   rw[if_pos rfl]
   go_enter Tryd.func96,Tryd.ntmps96
   go_wp2_with fail
   go_ret
   exact⟨rfl,rfl⟩
  by_cases k4:k=4
  ·subst k4
   rw[if_neg (by decide)]
   rw[if_neg (by decide)]
   rw[if_neg (by decide)]
   rw[if_pos rfl]
   go_enter Tryd.func96,Tryd.ntmps96
   go_wp2_with fail
   refine (hp _).mono ?_
   rintro e w1 ⟨rfl,rfl⟩
   go_wp2_with fail
   go_ret
   exact⟨rfl,rfl⟩
  rw[if_neg k1,if_neg k2,if_neg k3,if_neg k4]
  have b1:=beq_no13 k1
  have b2:=beq_no13 k2
  have b3:=beq_no13 k3
  have b4:=beq_no13 k4
  go_enter Tryd.func96,Tryd.ntmps96
  go_wp2_with fail
  go_ret
  exact⟨rfl,rfl⟩
 ·have dq:decide ((unit:Int)≤(i:Int))=false:=decide_eq_false (by omega)
  have dn:decide (unit≤i)=false:=decide_eq_false hq
  have HS:Hid (says k r (bts above) unit i=told k 0 ((above[i]'hi).toNat:Int) 0):=by
   show told k (aheadB r unit i) (bts above i) (aheadB (bts above) unit i)=_
   unfold aheadB
   rw[if_neg hq,if_neg hq]
   unfold bts
   rw[HB.out]
  rw[HS.out]
  have hp:=fun W=>specPaeth_byte (a:=0) (b:=((above[i]'hi).toNat:Int)) (c:=0) W (by omega) (by omega) (by omega)
  clear HS HB hrow hq
  unfold told
  by_cases k1:k=1
  ·subst k1
   rw[if_pos rfl]
   go_enter Tryd.func96,Tryd.ntmps96
   go_wp2_with fail
   go_ret
   exact⟨rfl,rfl⟩
  by_cases k2:k=2
  ·subst k2
   rw[if_neg (by decide)]
   rw[if_pos rfl]
   go_enter Tryd.func96,Tryd.ntmps96
   go_wp2_with fail
   go_ret
   exact⟨rfl,rfl⟩
  by_cases k3:k=3
  ·subst k3
   rw[if_neg (by decide)]
   rw[if_neg (by decide)]
   rw[if_pos rfl]
   rw[Int.zero_add]
   go_enter Tryd.func96,Tryd.ntmps96
   go_wp2_with fail
   go_ret
   exact⟨rfl,rfl⟩
  by_cases k4:k=4
  ·subst k4
   rw[if_neg (by decide)]
   rw[if_neg (by decide)]
   rw[if_neg (by decide)]
   rw[if_pos rfl]
   go_enter Tryd.func96,Tryd.ntmps96
   go_wp2_with fail
   refine (hp _).mono ?_
   rintro e w1 ⟨rfl,rfl⟩
   go_wp2_with fail
   go_ret
   exact⟨rfl,rfl⟩
  rw[if_neg k1,if_neg k2,if_neg k3,if_neg k4]
  have b1:=beq_no13 k1
  have b2:=beq_no13 k2
  have b3:=beq_no13 k3
  have b4:=beq_no13 k4
  go_enter Tryd.func96,Tryd.ntmps96
  go_wp2_with fail
  go_ret
  exact⟨rfl,rfl⟩
end
end Go.Proofs.YtcbbcadfolgioaaDoor
