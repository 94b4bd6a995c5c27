/-
  Texts of the proof, put together.
-/
import Derived.Test.YtcbbcadfolgioaaDoorPf08
import Derived.Test.YtcbbcadfolgioaaDoorPf16
namespace Go.Proofs.YtcbbcadfolgioaaDoor
section
open Go.RowKit Go.Joins OutMath PutMath TakeMath RastMath FiltMath
theorem shift_any (j d r sh:Nat) (w:World) (hr:(j:Int) * (d:Int)=(r:Int)) (hrb:r≤20000000) (hs:r % 8+d≤8) (hsh:sh=8 - d - r % 8):
  Calls Tryd.prog 100 #[.int .i64 (j:Int),.int .i64 (d:Int)] w fun e w'=>e=.returned (.int .i64 (sh:Int))∧w'=w:=by
 have t2:(r:Int).tmod 8=(r:Int) % 8:=Int.tmod_eq_emod_of_nonneg (by omega)
 have HE:Hid ((8:Int) - (d:Int) - (r:Int) % 8=(sh:Int)):=by show _=_; omega
 have b1:(d:Int)≤8:=by omega
 clear hsh hs
 go_enter Tryd.func100,Tryd.ntmps100
 go_wp2_with fail
 go_ret
 exact⟨by rw [← HE.out]; rfl,rfl⟩
def UnpI (w w':World) (base g N cap off:Nat) (h0:Nat→Int) (s:ByteArray) (d n j:Nat):Prop:=∃ h:Nat→Int,IOwn w' base g N cap h∧(∀ i,i < j→h (off+i)=smp s d i)∧(∀ i,i < off∨off+n≤i→h i=h0 i)∧But g w w'
theorem unpI_next {w wr:World} {base g N cap off:Nat} {h0:Nat→Int} {s:ByteArray} {d n j:Nat} {x:Int} (hS:UnpI w wr base g N cap off h0 s d n j) (hj:j < n) (hN:off+n≤N) (hx:x=smp s d j):UnpI w (wr.setCell ⟨g,off+j,none⟩ (.int .i64 x)).drew base g N cap off h0 s d n (j+1):=by
 obtain⟨h,hO,hh,ho,hB⟩:=hS
 refine⟨upd h (off+j) x,(hO.set (off+j) (by omega) x).drew,fun i hi=>?_,fun i hi=>?_,(hB.set (off+j) _).drew⟩
 ·unfold upd
  by_cases e:i=j
  ·rw[if_pos (by omega),e,hx]
  ·rw[if_neg (by omega)]; exact hh i (by omega)
 ·unfold upd
  rw[if_neg (by omega)]
  exact ho i hi
def UnpackIntoPost (s:ByteArray) (n d base g N cap off:Nat) (h0:Nat→Int) (w:World) (e:Ending) (w':World):Prop:=e=.returned (.tuple #[])∧UnpI w w' base g N cap off h0 s d n n
set_option maxHeartbeats 1600000 in
theorem unpackInto_any (s:ByteArray) (n d base G N capN off cap gb cb:Nat) (h0:Nat→Int) (w:World) (hd:Five (d:Int)) (hn:n≤96) (hs:(s.size:Int)=((n:Int) * (d:Int)+7) / 8) (hO:IOwn w base G N capN h0) (hN:off+n≤N) (hA:BAt w gb s.size (bts s)) (hne:gb≠G):
  Calls Tryd.prog 89 #[.slice (some ⟨G,off,none⟩) n cap,.slice (some ⟨gb,0,none⟩) s.size cb,.int .i64 (d:Int)] w (UnpackIntoPost s n d base G N capN off h0 w):=by
 have h5:=five_range hd
 have hnd:n * d≤96 * 16:=Nat.mul_le_mul hn (by omega)
 obtain⟨q,hq⟩:∃ q,q=n * d:=⟨_,rfl⟩
 have hqi:(n:Int) * (d:Int)=(q:Int):=by rw [hq]; simp
 rw[hqi] at hs
 rw[← hq] at hnd
 have HS:=hid_of hs
 have HQ:=hid_of hq
 have HD:=hid_of hd
 have HA:=hid_of hA
 have H0:Hid (UnpI w w base G N capN off h0 s d n 0):=⟨h0,hO,fun i hi=>absurd hi (Nat.not_lt_zero i),fun _ _=>rfl,But.refl _ _⟩
 clear hs hq hd hA hO
 go_enter Tryd.func89,Tryd.ntmps89
 go_wp2_with fail
 go_loopw [9] (fun i w'=>∃ j:Nat,j≤n∧i=.int .i64 j∧Hid (UnpI w w' base G N capN off h0 s d n j)) (fun i _=>n - (intOf i).toNat)
 case atStart=>exact⟨0,Nat.zero_le _,rfl,H0⟩
 case round=>
  clear H0
  obtain⟨j,hj,rfl,hS⟩:=hrel
  by_cases hlt:j < n
  ·obtain⟨h,hO,hh,ho,hBB⟩:=hS.out
   have c1:=hO.cell (off+j) (by omega)
   have f1:=hO.free (off+j) (by omega)
   have l1:=hO.lt
   have hAr:=HA.out.but hBB hne
   have l2:gb < wr.heap.size:=hAr.1
   have HCB:Hid (∀ i,i < s.size→wr.cell? ⟨gb,i,none⟩=some (.int .u8 (bts s i))):=hAr.2
   clear hh hBB hO ho hAr
   have hjd:j * d+d≤q:=by
    have:=Nat.mul_le_mul_right d (show j+1≤n by omega)
    rw[Nat.add_mul,Nat.one_mul] at this
    rw[HQ.out]
    exact this
   by_cases h16:d=16
   ·subst h16
    obtain⟨x,hx⟩:∃ x,x=2 * j:=⟨_,rfl⟩
    have hxs:x+1 < s.size:=by
     have:=HS.out
     omega
    have hx0:x < s.size:=by omega
    have e1:(2:Int) * (j:Int)=(x:Int):=by omega
    obtain⟨B0,hB0⟩:∃ B:Nat,B=byteAt s x:=⟨_,rfl⟩
    obtain⟨B1,hB1⟩:∃ B:Nat,B=byteAt s (x+1):=⟨_,rfl⟩
    have hl0:B0 < 256:=by rw [hB0,← byteAt_get s x hx0]; exact UInt8.toNat_lt _
    have hl1:B1 < 256:=by rw [hB1,← byteAt_get s (x+1) hxs]; exact UInt8.toNat_lt _
    have HV:Hid (bits .or .i64 ((B0:Int) * 256) (B1:Int)=smp s 16 j):=by
     show _=_
     rw[or_two _ _ (by omega) (by omega) (by omega) (by omega),smp_two,← hx,hB0,hB1]
    have b0:wr.cell? ⟨gb,x,none⟩=some (.int .u8 (B0:Int)):=by rw [HCB.out x hx0,hB0]; rfl
    have b1:wr.cell? ⟨gb,x+1,none⟩=some (.int .u8 (B1:Int)):=by rw [HCB.out (x+1) hxs,hB1]; rfl
    have HN:=fun z hz=>hid_of (unpI_next (x:=z) hS.out hlt hN hz)
    have w1:IntKind.i64.wrap ((x:Int))=(x:Int):=by rw [IntKind.wrap_i64]; omega
    have w2:IntKind.i64.wrap ((x:Int)+1)=(x:Int)+1:=by rw [IntKind.wrap_i64]; omega
    have w4:IntKind.i64.wrap ((B0:Int))=(B0:Int):=by rw [IntKind.wrap_i64]; omega
    have w5:IntKind.i64.wrap ((B1:Int))=(B1:Int):=by rw [IntKind.wrap_i64]; omega
    have w6:IntKind.i64.wrap ((B0:Int) * 256)=(B0:Int) * 256:=by rw [IntKind.wrap_i64]; omega
    have xi0:(x:Int) < (s.size:Int):=by omega
    have xi1:(x:Int)+1 < (s.size:Int):=by omega
    have HX:=hid_of hx
    clear hx hB0 hB1
    go_wp2_with fail
    go_region
    go_wp2_with fail
    go_roundw
    case rel=>exact⟨j+1,by omega,by go_num,HN _ HV.out⟩
    case measure=>simp [intOf]; omega
   ·have hpl:=five_place HD.out h16 j
    have hd8:d≤8:=by omega
    obtain⟨r,hr⟩:∃ r,r=j * d:=⟨_,rfl⟩
    have hri:(j:Int) * (d:Int)=(r:Int):=by rw [hr]; simp
    rw[← hr] at hjd hpl
    obtain⟨sh,hsh⟩:∃ sh,sh=8 - d - r % 8:=⟨_,rfl⟩
    have hsf:=fun W=>shift_any j d r sh W hri (by omega) hpl hsh
    obtain⟨x,hx⟩:∃ x,x=r / 8:=⟨_,rfl⟩
    have hx0:x < s.size:=by
     have:=HS.out
     omega
    obtain⟨B,hB⟩:∃ B:Nat,B=byteAt s x:=⟨_,rfl⟩
    have hl0:B < 256:=by rw [hB,← byteAt_get s x hx0]; exact UInt8.toNat_lt _
    have b0:wr.cell? ⟨gb,x,none⟩=some (.int .u8 (B:Int)):=by rw [HCB.out x hx0,hB]; rfl
    obtain⟨C,hC⟩:∃ C:Int,C=(B:Int) / 2 ^ sh:=⟨_,rfl⟩
    have hCb:0≤C∧C≤B:=by rw [hC]; exact div_bd B (p2 sh) (p2_pos sh)
    obtain⟨M,hM⟩:∃ M:Int,M=2 ^ d:=⟨_,rfl⟩
    have hMb:1≤M∧M≤65536:=by
     have h1:=p2_pos d
     have h2:=p2_le (show d≤16 by omega)
     rw[show p2 16=65536 by decide +kernel] at h2
     rw[hM]
     exact⟨h1,h2⟩
    have HV:Hid (bits .and .i64 C (M - 1)=smp s d j):=by
     show _=_
     rw[smp_small s d j (by rw [← hr]; exact hpl),← hr,← hx,← hsh,← hB,hM]
     rw[show (2:Int) ^ d=p2 d from rfl,and_mask C d hCb.1 (by omega) (by omega),hC]
     rfl
    have HN:=fun z hz=>hid_of (unpI_next (x:=z) hS.out hlt hN hz)
    have t1:(r:Int).tdiv 8=(x:Int):=by
     rw[Int.tdiv_eq_ediv_of_nonneg (by omega)]
     omega
    have w1:IntKind.i64.wrap ((x:Int))=(x:Int):=by rw [IntKind.wrap_i64]; omega
    have w2:IntKind.i64.wrap ((r:Int))=(r:Int):=by rw [IntKind.wrap_i64]; omega
    have w4:IntKind.i64.wrap ((B:Int))=(B:Int):=by rw [IntKind.wrap_i64]; omega
    have w5:IntKind.i64.wrap C=C:=by rw [IntKind.wrap_i64]; omega
    have w6:IntKind.i64.wrap M=M:=by rw [IntKind.wrap_i64]; omega
    have w7:IntKind.i64.wrap (M - 1)=M - 1:=by rw [IntKind.wrap_i64]; omega
    have xi0:(x:Int) < (s.size:Int):=by omega
    have r1:=hC.symm
    have r2:=hM.symm
    have m64:min sh 64=sh:=by omega
    have d16:((d:Int) == 16)=false:=beq_no1 (by omega)
    have HR:=hid_of hr
    have HSH:=hid_of hsh
    clear hx hB hC hM hr hsh hpl
    go_wp2_with fail
    go_region_with (go_at_call 100; refine (hsf _).mono ?_; rintro e w' ⟨rfl,rfl⟩)
    all_goals
     go_wp2_with fail
     go_roundw
     case rel=>exact⟨j+1,by omega,by go_num,HN _ HV.out⟩
     case measure=>simp [intOf]; omega
  ·obtain rfl:j=n:=by omega
   go_wp2_with fail
   go_end0
   exact⟨rfl,hS.out⟩
end
section
open Go.RowKit Go.Joins OutMath PutMath TakeMath RastMath
def SamPost (f:Nat→Int) (n d:Nat) (w:World) (e:Ending) (w':World):Prop:=∃ b,e=.returned (.bool b)∧(b=true↔Fit12 f n d)∧w'=w
set_option maxHeartbeats 800000 in
theorem samples_any (a:Option Addr) (n cap d:Nat) (f:Nat→Int) (w:World) (hC:Came w a n f) (hn:n≤1048576) (hd:d≤16):
  Calls Tryd.prog 77 #[.slice a n cap,.int .i64 (d:Int)] w (SamPost f n d w):=by
 have HC:=hid_of hC
 obtain⟨M,hM⟩:∃ M:Int,M=2 ^ d:=⟨_,rfl⟩
 have hMb:1≤M∧M≤65536:=by
  have h1:=p2_pos d
  have h2:=p2_le hd
  rw[show p2 16=65536 by decide +kernel] at h2
  rw[hM]
  exact⟨h1,h2⟩
 have HM:Hid (M=p2 d):=hM
 have r2:=hM.symm
 have w6:IntKind.i64.wrap M=M:=by rw [IntKind.wrap_i64]; omega
 have m64:min d 64=d:=by omega
 clear hC hM
 go_enter Tryd.func77,Tryd.ntmps77
 go_wp2_with fail
 go_loop [9] (fun i=>∃ j:Nat,j≤n∧i=.int .i64 j∧Hid (Fit12 f j d)) (fun i=>n - (intOf i).toNat)
 case atStart=>exact⟨0,Nat.zero_le _,rfl,fun i hi=>absurd hi (Nat.not_lt_zero i)⟩
 case round=>
  obtain⟨j,hj,rfl,hok⟩:=hrel
  by_cases hlt:j < n
  ·rcases HC.out with h0 | ⟨g,off,rfl,hg,hc⟩
   ·omega
   ·have c0:=hc j hlt
    clear hc
    by_cases hin:0≤f j∧f j < M
    ·have HK:Hid (Fit12 f (j+1) d):=hok.out.next hin.1 (by rw [← HM.out]; exact hin.2)
     have d0:decide (f j < 0)=false:=decide_eq_false (by omega)
     have d1:(f j / M != 0)=false:=by
      rw[Int.ediv_eq_zero_of_lt hin.1 hin.2]
      rfl
     clear hin
     go_wp2_with fail
     go_round
     case rel=>exact⟨j+1,by omega,by go_num,HK⟩
     case measure=>simp [intOf]; omega
    ·have HN:Hid (¬ Fit12 f n d):=fun h=>hin (by have:=h j hlt; rw [← HM.out] at this; exact this)
     by_cases h0:f j < 0
     ·have d0:decide (f j < 0)=true:=decide_eq_true h0
      clear hin
      go_wp2_with fail
      go_ret
      exact⟨false,rfl,by simp [HN.out],rfl⟩
     ·have d0:decide (f j < 0)=false:=decide_eq_false h0
      have d1:(f j / M != 0)=true:=by
       have:1≤f j / M:=(Int.le_ediv_iff_mul_le (by omega)).mpr (by omega)
       simp only [bne_iff_ne,ne_eq]
       omega
      clear hin
      go_wp2_with fail
      go_ret
      exact⟨false,rfl,by simp [HN.out],rfl⟩
  ·obtain rfl:j=n:=by omega
   go_wp2_with fail
   go_ret
   exact⟨true,rfl,by simp [hok.out],rfl⟩
end
end Go.Proofs.YtcbbcadfolgioaaDoor
