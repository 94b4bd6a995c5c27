/-
  Texts of the proof, put together.
-/
import Derived.Test.YtcbbcadfolgioaaDoorPd09
namespace Go.Proofs.YtcbbcadfolgioaaDoor
open Go.RowKit Go.Joins OutMath PutMath TakeMath RastMath
def PckI (w w':World) (base g cap:Nat) (f:Nat→Int) (d NB j:Nat):Prop:=∃ h:Nat→Int,BFn w' base g NB cap h∧(∀ i,i < NB→h i=packB f j d i)∧But g w w'
theorem pckI_one {w wr:World} {base g cap:Nat} {f:Nat→Int} {d NB j m:Nat} {v:Int} (hS:PckI w wr base g cap f d NB j) (hm:m < NB) (hv:v=packB f (j+1) d m) (ho:∀ i,¬ i=m→packB f (j+1) d i=packB f j d i):PckI w (wr.setCell ⟨g,m,none⟩ (.int .u8 v)).drew base g cap f d NB (j+1):=by
 obtain⟨h,hO,hh,hB⟩:=hS
 refine⟨upd h m v,(hO.set m hm v).drew,fun i hi=>?_,(hB.set m _).drew⟩
 unfold upd
 by_cases e:i=m
 ·rw[if_pos e,e,hv]
 ·rw[if_neg e,ho i e]; exact hh i hi
theorem pckI_two {w wr:World} {base g cap:Nat} {f:Nat→Int} {NB j m:Nat} {v u:Int} (hS:PckI w wr base g cap f 16 NB j) (hm:m+1 < NB) (hj:m=2 * j) (h0:0≤f j) (h1:f j < 65536) (hv:v=f j / 256) (hu:u=f j % 256):PckI w ((wr.setCell ⟨g,m,none⟩ (.int .u8 v)).setCell ⟨g,m+1,none⟩ (.int .u8 u)) base g cap f 16 NB (j+1):=by
 obtain⟨h,hO,hh,hB⟩:=hS
 obtain⟨p0,p1,p2⟩:=packB_two f j h0 h1
 have hO1:=hO.set m (by omega) v
 refine⟨upd (upd h m v) (m+1) u,hO1.set (m+1) hm u,fun i hi=>?_,(hB.set m _).set (m+1) _⟩
 unfold upd
 by_cases e:i=m+1
 ·rw[if_pos e,e,hu,hj,p1]
 ·rw[if_neg e]
  by_cases e2:i=m
  ·rw[if_pos e2,e2,hv,hj,p0]
  ·rw[if_neg e2,p2 i (by omega) (by omega)]; exact hh i hi
def PackIntoPost (f:Nat→Int) (n d NB base G cb:Nat) (w:World) (e:Ending) (w':World):Prop:=e=.returned (.tuple #[])∧(∃ h,BFn w' base G NB cb h∧∀ i,i < NB→h i=packB f n d i)∧But G w w'
set_option maxRecDepth 100000 in
set_option maxHeartbeats 3200000 in
theorem packInto_any (a:Option Addr) (n cap d base G NB cb:Nat) (f h0:Nat→Int) (w:World) (hC:Came w a n f) (hd:Five (d:Int)) (hn:n≤1048576) (hF:Fit12 f n d) (hNB:NB=(n * d+7) / 8) (hO:BFn w base G NB cb h0) (hne:∀ q o,a=some ⟨q,o,none⟩→n=0∨q≠G):
  Calls Tryd.prog 84 #[.slice (some ⟨G,0,none⟩) NB cb,.slice a n cap,.int .i64 (d:Int)] w (PackIntoPost f n d NB base G cb w):=by
 have h5:=five_range hd
 have hnd:n * d≤1048576 * 16:=Nat.mul_le_mul hn (by omega)
 obtain⟨q,hq⟩:∃ q,q=n * d:=⟨_,rfl⟩
 rw[← hq] at hnd hNB
 have hq1:q≤8 * NB∧8 * NB≤q+7:=by omega
 have HC:=hid_of hC
 have HQ:=hid_of hq
 have HNB:=hid_of hNB
 have HD:=hid_of hd
 have HF:=hid_of hF
 have HNE:=hid_of hne
 obtain⟨w1,hcl,hO1,hB1⟩:=clear_fn hO
 have H0:Hid (PckI w w1 base G cb f d NB 0):=⟨_,hO1,fun i _=>(packB_none f d i).symm,hB1⟩
 clear hC hq hNB hd hF hne hO hO1 hB1
 go_enter Tryd.func84,Tryd.ntmps84
 go_wp2_with fail
 go_loopw [11] (fun i w'=>∃ j:Nat,j≤n∧i=.int .i64 j∧Hid (PckI w w' base G cb f d NB j)) (fun i _=>n - (intOf i).toNat)
 case atStart=>exact⟨0,Nat.zero_le _,rfl,H0⟩
 case round=>
  clear H0 hcl
  obtain⟨j,hj,rfl,hS⟩:=hrel
  by_cases hlt:j < n
  ·obtain⟨h,hO,hh,hBB⟩:=hS.out
   have hjd:j * d+d≤q:=by
    have:=Nat.mul_le_mul_right d (show j+1≤n by omega)
    rw[Nat.add_mul,Nat.one_mul] at this
    rw[HQ.out]
    exact this
   rcases HC.out with h0 | ⟨g,off,rfl,hg,hc⟩
   ·omega
   have hgG:¬ g=G:=by
    rcases HNE.out g off rfl with h1 | h1
    ·omega
    ·exact h1
   have c0:wr.cell? ⟨g,off+j,none⟩=some (.int .i64 (f j)):=(hBB.cell hg hgG _).trans (hc j hlt)
   have l0:g < wr.heap.size:=Nat.lt_of_lt_of_le hg hBB.size
   have hfj:=HF.out j hlt
   have l1:=Own.lt hO
   by_cases h16:d=16
   ·subst h16
    rw[show p2 16=65536 by decide +kernel] at hfj
    obtain⟨x,hx⟩:∃ x,x=2 * j:=⟨_,rfl⟩
    have e1:(2:Int) * (j:Int)=(x:Int):=by omega
    have hxs:x+1 < NB:=by omega
    have xi0:(x:Int) < (NB:Int):=by omega
    have xi1:(x:Int)+1 < (NB:Int):=by omega
    have k0:=hO.cell x (by omega)
    have k1:=hO.cell (x+1) hxs
    have f0:=hO.free x (by omega)
    have f1:=hO.free (x+1) hxs
    have HN:=hid_of (pckI_two (v:=f j / 256) (u:=f j % 256) hS.out hxs hx hfj.1 hfj.2 rfl rfl)
    obtain⟨F,hF⟩:∃ F,F=f j:=⟨_,rfl⟩
    rw[← hF] at c0 hfj HN
    have u1:F / 256 % 256=F / 256:=by omega
    clear hh hBB hO hc hx hF
    go_wp2_with fail
    go_roundw
    case rel=>exact⟨j+1,by omega,by go_num,HN⟩
    case measure=>simp [intOf]; omega
   ·have hpl:=five_place HD.out h16 j
    obtain⟨⟨Q,hy,q0,q1,hnx⟩,hoth⟩:=packB_small f j d hpl hfj.1 hfj.2
    obtain⟨r,hr⟩:∃ r,r=j * d:=⟨_,rfl⟩
    have hri:(j:Int) * (d:Int)=(r:Int):=by rw [hr]; simp
    rw[← hr] at hjd hpl hy q1 hnx hoth
    obtain⟨sh,hsh⟩:∃ sh,sh=8 - d - r % 8:=⟨_,rfl⟩
    have hsf:=fun W=>shift_any j d r sh W hri (by omega) hpl hsh
    obtain⟨x,hx⟩:∃ x,x=r / 8:=⟨_,rfl⟩
    rw[← hsh] at hy hnx
    rw[← hx] at hy hnx hoth
    have hxl:x < NB:=by omega
    have xi0:(x:Int) < (NB:Int):=by omega
    have k0:=hO.cell x hxl
    have f0:=hO.free x hxl
    rw[hh x hxl] at k0
    obtain⟨Y,hY⟩:∃ Y,Y=packB f j d x:=⟨_,rfl⟩
    obtain⟨F,hF⟩:∃ F,F=f j:=⟨_,rfl⟩
    rw[← hF] at c0 hfj
    obtain⟨Z,hZ⟩:∃ Z:Int,Z=F * 2 ^ sh:=⟨_,rfl⟩
    have hZ2:Z=F * p2 sh:=hZ
    have hZb:0≤Z∧Z < 256:=by
     have h1:=p2_pos sh
     have h2:F * p2 sh≤(p2 d - 1) * p2 sh:=Int.mul_le_mul_of_nonneg_right (by omega) (by omega)
     have h3:p2 d * p2 sh≤256:=by
      rw[← p2_add]
      have:=p2_le (show d+sh≤8 by omega)
      rw[show p2 8=256 by decide +kernel] at this
      exact this
     have h4:(p2 d - 1) * p2 sh=p2 d * p2 sh - p2 sh:=by rw [Int.sub_mul,Int.one_mul]
     have h5:0≤F * p2 sh:=Int.mul_nonneg hfj.1 (by omega)
     omega
    have HV:Hid (bits .or .u8 Y Z=packB f (j+1) d x):=by
     show _=_
     rw[hnx,hY,hy,hZ2,← hF]
     exact or_small Q F (r % 8) d sh (by omega) q0 q1 hfj.1 hfj.2
    rw[← hY] at k0
    have hYb:=packB_range f j d x
    rw[← hY] at hYb
    have HN:=fun v hv=>hid_of (pckI_one (v:=v) hS.out hxl hv hoth)
    have t1:(r:Int).tdiv 8=(x:Int):=by
     rw[Int.tdiv_eq_ediv_of_nonneg (by omega)]
     omega
    have w1:IntKind.i64.wrap ((x:Int))=(x:Int):=by rw [IntKind.wrap_i64]; omega
    have w2:IntKind.i64.wrap ((r:Int))=(r:Int):=by rw [IntKind.wrap_i64]; omega
    have w4:IntKind.i64.wrap Z=Z:=by rw [IntKind.wrap_i64]; omega
    have w5:IntKind.u8.wrap Z=Z:=by show Z % 256=Z; omega
    have w6:Z % 256=Z:=by omega
    have m64:min sh 64=sh:=by omega
    have r0:=hZ.symm
    have d16:((d:Int) == 16)=false:=beq_no1 (by omega)
    have HPL:=hid_of hpl
    clear hx hZ hZ2 hY hF hr hsh hpl hy q0 q1 hnx hoth hh hO hBB hc
    go_wp2_with fail
    go_region_with (go_at_call 100; refine (hsf _).mono ?_; rintro e w' ⟨rfl,rfl⟩)
    all_goals
     go_wp2_with fail
     go_roundw
     case rel=>exact⟨j+1,by omega,by go_num,HN _ HV.out⟩
     case measure=>simp [intOf]; omega
  ·obtain rfl:j=n:=by omega
   obtain⟨h,hO,hh,hBB⟩:=hS.out
   have HE:Hid ((∃ h,BFn wr base G NB cb h∧∀ i,i < NB→h i=packB f j d i)∧But G w wr):=⟨⟨h,hO,hh⟩,hBB⟩
   clear hh hBB hO hS
   go_wp2_with fail
   go_end0
   exact⟨rfl,HE.out⟩
end Go.Proofs.YtcbbcadfolgioaaDoor
