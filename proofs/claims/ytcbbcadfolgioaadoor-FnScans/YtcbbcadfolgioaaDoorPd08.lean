/-
  Texts of the proof, put together.
-/
import Derived.Test.YtcbbcadfolgioaaDoorPd07
namespace Go.Proofs.YtcbbcadfolgioaaDoor
section
open Go.RowKit Go.Joins RastMath ScanMath
theorem scan_facts {r:Ras} (hok:RasOk r) {way:Int} (hway:0≤way∧way≤5) (lace:Bool):SizeOk (scanV r lace way) r.x0 r.x1 r.x2 r.x3 lace∧KindsOk (scanV r lace way) r.x0 r.x1 r.x2 r.x3 lace∧(readV (scanV r lace way) r.x0 r.x1 r.x2 r.x3 lace).same r∧scanB r.x0 r.x1 r.x2 r.x3 lace=((scanV r lace way).size:Int)∧(scanV r lace way).size≤33768∧¬ SizeOk (scanV r lace way ++ ⟨#[120]⟩) r.x0 r.x1 r.x2 r.x3 lace:=by
 obtain⟨W,H,N,e0,e1,e2,hW,hH,hN,hn,_⟩:=ras_parts hok
 obtain⟨h0,h1,hd,_,hfit⟩:=hok
 have h5:=five_range (depth_five hd)
 obtain⟨D,hD⟩:=Int.eq_ofNat_of_zero_le (show 0≤r.x3 by omega)
 have hD16:D≤16:=by omega
 have esc:scanV r lace way=scanT lace way W H N D r.f:=by
  unfold scanV
  rw[e0,e1,e2,hD]
  rfl
 have hsz:(scanV r lace way).size=scanN lace W H N D:=by rw [esc]; exact scanT_size hway hW.2 hN.2 hD16
 have hB:scanB r.x0 r.x1 r.x2 r.x3 lace=(scanN lace W H N D:Int):=by
  rw[e0,e1]
  exact scanB_in hW hH hd e2 hD
 have hS:SizeOk (scanV r lace way) r.x0 r.x1 r.x2 r.x3 lace:=⟨⟨h0,h1,hd⟩,by rw [hB,hsz]⟩
 refine⟨hS,?_,?_,by rw [hB,hsz],by rw [hsz]; exact Nat.le_trans (offP_small hW.2 hH.2 hN.2 hD16 _) (Nat.mul_le_mul_right _ (cntL_le lace)),fun h=>?_⟩
 ·unfold KindsOk
  rw[e0,e1,e2,hD,esc]
  exact scan_kinds hway hW.2 hN.2 hD16
 ·have hf:Fit12 r.f (W * H * N) D:=by
   have q:=hfit
   rw[hD,hn] at q
   exact q
  have q:=scan_back (lace:=lace) (c:=r.x2) (d:=r.x3) hway hW hH e2 hd (by rw [hD]; rfl) hf
  unfold readV
  rw[e0,e1,e2,esc]
  rw[show r.x3.toNat=D by rw [hD]; rfl]
  refine q.trans ⟨e0.symm,e1.symm,rfl,rfl,hn.symm,fun _ _=>rfl⟩
 ·have q:=h.2
  rw[hB,ByteArray.size_append,hsz] at q
  have:(ByteArray.mk #[120]).size=1:=rfl
  omega
theorem wf_way (n:Nat) (h:n≤5):(Lit.int .i64 (n:Int)).wf=true:=by
 simp[Lit.wf,IntKind.min,IntKind.max,IntKind.signed,IntKind.bits]
 omega
theorem wf_near (x:Int) (h0:0≤x) (h1:x≤100):(Lit.int .i64 x).wf=true:=by
 simp[Lit.wf,IntKind.min,IntKind.max,IntKind.signed,IntKind.bits]
 omega
set_option maxHeartbeats 1600000 in
theorem sameRaster_all (x0 x1 x2 x3:Int) (a b:Option Addr) (n c1 c2:Nat) (f:Nat→Int) (w:World) (ha:Came w a n f) (hb:Came w b n f) (hn:n≤1048576):
  Calls Tryd.prog 14 #[.agg #[.int .i64 x0,.int .i64 x1,.int .i64 x2,.int .i64 x3,.slice a n c1],.agg #[.int .i64 x0,.int .i64 x1,.int .i64 x2,.int .i64 x3,.slice b n c2]] w fun e w'=>e=.returned (.bool true)∧Below w.heap.size w w':=by
 have HA:=hid_of ha
 have HB:=hid_of hb
 clear ha hb
 have n0:(x0 == x0)=true:=by simp
 have n1:(x1 == x1)=true:=by simp
 have n2:(x2 == x2)=true:=by simp
 have n3:(x3 == x3)=true:=by simp
 go_enter Tryd.func14,Tryd.ntmps14
 go_wp2_with fail
 have HB0:Hid (Below w.heap.size w ((w.alloc (.cells #[.int .i64 x0,.int .i64 x1,.int .i64 x2,.int .i64 x3,.slice a n c1] 26)).alloc (.cells #[.int .i64 x0,.int .i64 x1,.int .i64 x2,.int .i64 x3,.slice b n c2] 26))):=bal (bstart _ _) _
 refine (sameInts_same a b n c1 c2 f _ (HA.out.called HB0.out) (HB.out.called HB0.out) hn).mono ?_
 rintro e w1 ⟨rfl,hB1⟩
 have HB1:=hid_of (bnext HB0.out hB1)
 clear hB1
 go_wp2_with fail
 go_ret
 exact⟨rfl,HB1.out⟩
set_option maxRecDepth 100000 in
set_option maxHeartbeats 6400000 in
theorem FnScans_at (hO:ScanOfAnswer) (hY:ScanBytesAnswer) (hR:ScanReadAnswer) (a:Option Addr) (len cap:Nat) (w:World) (hK:CodeAt w w.heap.size a len) (hl:(len:Int)≤1048576) (hG:GridG w):
  Calls Tryd.prog 4 #[.slice a len cap] w fun e w'=>e=.returned (.bool true)∧Below w.heap.size w w':=by
 have HK:=hid_of hK
 have HG:=hid_of hG
 have HO:=hid_of hO
 have HY:=hid_of hY
 have HR:=hid_of hR
 clear hK hG hO hY hR
 go_enter Tryd.func4,Tryd.ntmps4
 go_wp2_with fail
 refine (big_no a len cap _ hl).mono ?_
 rintro e w0 ⟨rfl,rfl⟩
 go_wp2_with fail
 refine (draw_raster a len cap w0.heap.size w0 HK.out (by omega) (Nat.le_refl _)).mono ?_
 rintro e w1 ⟨r,ar,cr,rfl,hok,hrn,hSr,hcr1,hcr2,hB1⟩
 have HC1:=hid_of hSr.came
 have HB1:=hid_of hB1
 have HCR:=hid_of (And.intro hcr1 hcr2)
 have HFA:Hid (∀ (way:Nat),way≤5→∀ lace:Bool,SizeOk (scanV r lace (way:Int)) r.x0 r.x1 r.x2 r.x3 lace∧KindsOk (scanV r lace (way:Int)) r.x0 r.x1 r.x2 r.x3 lace∧(readV (scanV r lace (way:Int)) r.x0 r.x1 r.x2 r.x3 lace).same r∧scanB r.x0 r.x1 r.x2 r.x3 lace=((scanV r lace (way:Int)).size:Int)∧(scanV r lace (way:Int)).size≤33768∧¬ SizeOk (scanV r lace (way:Int) ++ ⟨#[120]⟩) r.x0 r.x1 r.x2 r.x3 lace):=fun way h lace=>scan_facts hok ⟨by omega,by omega⟩ lace
 have HOK:=hid_of hok
 have f0:(Lit.int .i64 r.x0).wf=true:=by have q:=hok.1; exact wf_near _ (by have:=q.1; omega) (by have:=q.2; omega)
 have f1:(Lit.int .i64 r.x1).wf=true:=by have q:=hok.2.1; exact wf_near _ (by have:=q.1; omega) (by have:=q.2; omega)
 have f2:(Lit.int .i64 r.x2).wf=true:=wf_near _ (by have q:=hok.2.2.1; unfold DepthR at q; omega) (by have q:=hok.2.2.1; unfold DepthR at q; omega)
 have f3:(Lit.int .i64 r.x3).wf=true:=wf_near _ (by have q:=five_range (depth_five hok.2.2.1); omega) (by have q:=five_range (depth_five hok.2.2.1); omega)
 have HFF:=hid_of (And.intro f0 (And.intro f1 (And.intro f2 f3)))
 have HRN:Hid (r.n≤1048576):=Nat.le_trans hrn (by omega)
 have HX:Hid ((w1.alloc (.cells #[.int .i64 r.x0,.int .i64 r.x1,.int .i64 r.x2,.int .i64 r.x3,.slice ar r.n cr] 26)).heap[w1.heap.size]?=some (.cells #[.int .i64 r.x0,.int .i64 r.x1,.int .i64 r.x2,.int .i64 r.x3,.slice ar r.n cr] 26 (0,0))):=heap_alloc_new w1 _
 have HBX:=hid_of (bal HB1.out (.cells #[.int .i64 r.x0,.int .i64 r.x1,.int .i64 r.x2,.int .i64 r.x3,.slice ar r.n cr] 26))
 have HCX:=hid_of (HC1.out.called (bstart w1 (.cells #[.int .i64 r.x0,.int .i64 r.x1,.int .i64 r.x2,.int .i64 r.x3,.slice ar r.n cr] 26)))
 clear hok hrn hSr hcr1 hcr2 hB1 HC1 HB1 f0 f1 f2 f3
 go_wp2_with fail
 generalize w1.alloc (.cells #[.int .i64 r.x0,.int .i64 r.x1,.int .i64 r.x2,.int .i64 r.x3,.slice ar r.n cr] 26)=W1 at HX HBX HCX ⊢
 generalize w1.heap.size=X at HX ⊢
 go_loopg [4] 8 (fun gk v w'=>∃ p:Nat,p≤6∧6 - p≤gk∧v=.int .i64 (p:Int)∧Hid (Below W1.heap.size W1 w'))
 case atStart=>exact⟨0,Nat.zero_le _,by omega,rfl,Below.refl _ _⟩
 case round=>
  obtain⟨p,hp,hgk,rfl,hI⟩:=hrel
  by_cases hlt:p < 6
  ·have dl:decide ((p:Int)≤5)=true:=decide_eq_true (by omega)
   go_wp2_with fail
   go_loopg [5] 3 (fun gk v w'=>∃ q:Nat,q≤2∧2 - q≤gk∧v=.int .i64 (q:Int)∧Hid (Below W1.heap.size W1 w'))
   case atStart=>exact⟨0,Nat.zero_le _,by omega,rfl,hI⟩
   case round=>
    clear hI
    obtain⟨q,hq,hgk2,rfl,hI⟩:=hrel
    by_cases hlq:q < 2
    ·have dlq:decide ((q:Int) < 2)=true:=decide_eq_true (by omega)
     obtain⟨LB,hLB⟩:∃ LB,((q:Int) == 1)=LB:=⟨_,rfl⟩
     obtain⟨g1,g2,g3,g4,g5,g6⟩:=HFA.out p (by omega) LB
     obtain⟨f0,f1,f2,f3⟩:=HFF.out
     have hsc:=fun V hV hC=>(HO.out r ar cr LB (p:Int) V hC HRN.out HCR.out.1 HCR.out.2 (wf_way p (by omega)) hV).1 ⟨HOK.out,by omega,by omega⟩
     have hby:=fun V hV=>HY.out r.x0 r.x1 r.x2 r.x3 LB V f0 f1 f2 f3 hV
     rw[g4] at hby
     have hq0:=fun V hV=>(HR.out (scanV r LB (p:Int)) r.x0 r.x1 r.x2 r.x3 LB V (by omega) f0 f1 f2 f3 hV).1 g1 g2
     generalize readV (scanV r LB (p:Int)) r.x0 r.x1 r.x2 r.x3 LB=RV at hq0 g3
     have hrd:∀ V,GridG V→Calls Tryd.prog 16 #[.string (scanV r LB (p:Int)),.int .i64 r.x0,.int .i64 r.x1,.int .i64 r.x2,.int .i64 r.x3,.bool LB] V fun e w'=>∃ a' c',e=.returned (.tuple #[.agg #[.int .i64 r.x0,.int .i64 r.x1,.int .i64 r.x2,.int .i64 r.x3,.slice a' r.n c'],.int .i64 0])∧Came w' a' r.n r.f∧Below V.heap.size V w':=fun V hV=>by
      refine (hq0 V hV).mono ?_
      rintro e w' ⟨a',c',rfl,hS,hB⟩
      refine⟨a',c',?_,Came.same (r:=RV) (s:=r) hS.came g3,hB⟩
      obtain⟨s0,s1,s2,s3,s4,_⟩:=g3
      show Ending.returned (.tuple #[.agg #[.int .i64 RV.x0,.int .i64 RV.x1,.int .i64 RV.x2,.int .i64 RV.x3,.slice a' RV.n c'],.int .i64 0])=_
      rw[s0,s1,s2,s3,s4]
     clear hq0
     have hsx:(scanV r LB (p:Int) ++ ⟨#[120]⟩).size≤1048576:=by
      rw[ByteArray.size_append]
      have:(ByteArray.mk #[120]).size=1:=rfl
      omega
     obtain⟨TX,hTX⟩:∃ TX,TX=scanV r LB (p:Int) ++ ⟨#[120]⟩:=⟨_,rfl⟩
     rw[← hTX] at hsx g6
     have hrw:=fun V hV=>(HR.out TX r.x0 r.x1 r.x2 r.x3 LB V hsx f0 f1 f2 f3 hV).2.2 g6
     have hcc:(scanV r LB (p:Int)).size+1≤9223372036854775807:=by omega
     have HTX:=hid_of hTX
     clear hTX hsx
     clear g1 g2 g3 g4 g6 f0 f1 f2 f3 RV
     have hrn:=HRN.out
     have HCq:=hid_of (HCX.out.called hI.out)
     have HXq:=hid_of ((hI.out.block _ (block_lt HX.out)).trans HX.out)
     have hGq:=HG.out.called (bnext HBX.out hI.out)
     have hsc2:=hsc wr hGq HCq.out
     clear hsc hGq
     generalize scanV r LB (p:Int)=TT at *
     obtain⟨x0,x1,x2,x3,n,f⟩:=r
     have k0:wr.cell? ⟨X,0,none⟩=some (.int .i64 x0):=(cell_of_block HXq.out 0).trans rfl
     have k1:wr.cell? ⟨X,1,none⟩=some (.int .i64 x1):=(cell_of_block HXq.out 1).trans rfl
     have k2:wr.cell? ⟨X,2,none⟩=some (.int .i64 x2):=(cell_of_block HXq.out 2).trans rfl
     have k3:wr.cell? ⟨X,3,none⟩=some (.int .i64 x3):=(cell_of_block HXq.out 3).trans rfl
     have k4:wr.cell? ⟨X,4,none⟩=some (.slice ar n cr):=(cell_of_block HXq.out 4).trans rfl
     have lx:=block_lt HXq.out
     go_wp2_with fail
     refine hsc2.mono ?_
     rintro e w2 ⟨rfl,hB2⟩
     have HX2:=hid_of ((hB2.block _ (block_lt HXq.out)).trans HXq.out)
     have HC2:=hid_of (HCq.out.called hB2)
     have HI2:=hid_of (bnext hI.out hB2)
     clear hB2 hI HXq HCq hsc2 k0 k1 k2 k3 k4 lx
     have k0:w2.cell? ⟨X,0,none⟩=some (.int .i64 x0):=(cell_of_block HX2.out 0).trans rfl
     have k1:w2.cell? ⟨X,1,none⟩=some (.int .i64 x1):=(cell_of_block HX2.out 1).trans rfl
     have k2:w2.cell? ⟨X,2,none⟩=some (.int .i64 x2):=(cell_of_block HX2.out 2).trans rfl
     have k3:w2.cell? ⟨X,3,none⟩=some (.int .i64 x3):=(cell_of_block HX2.out 3).trans rfl
     have lx:=block_lt HX2.out
     go_wp2_with fail
     refine (hrd w2 (HG.out.called (bnext HBX.out HI2.out))).mono ?_
     rintro e w3 ⟨a3,c3,rfl,hC3,hB3⟩
     have HBa:=hid_of (bstart w3 (.cells #[.int .i64 x0,.int .i64 x1,.int .i64 x2,.int .i64 x3,.slice a3 n c3] 26))
     have HX3:=hid_of ((Below.heap_alloc w3 (.cells #[.int .i64 x0,.int .i64 x1,.int .i64 x2,.int .i64 x3,.slice a3 n c3] 26) _ (Nat.lt_of_lt_of_le (block_lt HX2.out) hB3.size)).trans ((hB3.block _ (block_lt HX2.out)).trans HX2.out))
     have HY3:Hid ((w3.alloc (.cells #[.int .i64 x0,.int .i64 x1,.int .i64 x2,.int .i64 x3,.slice a3 n c3] 26)).heap[w3.heap.size]?=some (.cells #[.int .i64 x0,.int .i64 x1,.int .i64 x2,.int .i64 x3,.slice a3 n c3] 26 (0,0))):=heap_alloc_new w3 _
     have HC3:=hid_of ((HC2.out.called hB3).called HBa.out)
     have HQ3:=hid_of (hC3.called HBa.out)
     have HI3:=hid_of (bnext (bnext HI2.out hB3) HBa.out)
     clear hB3 hC3 HX2 HC2 HI2 HBa k0 k1 k2 k3 lx
     have k0:(w3.alloc (.cells #[.int .i64 x0,.int .i64 x1,.int .i64 x2,.int .i64 x3,.slice a3 n c3] 26)).cell? ⟨X,0,none⟩=some (.int .i64 x0):=(cell_of_block HX3.out 0).trans rfl
     have k1:(w3.alloc (.cells #[.int .i64 x0,.int .i64 x1,.int .i64 x2,.int .i64 x3,.slice a3 n c3] 26)).cell? ⟨X,1,none⟩=some (.int .i64 x1):=(cell_of_block HX3.out 1).trans rfl
     have k2:(w3.alloc (.cells #[.int .i64 x0,.int .i64 x1,.int .i64 x2,.int .i64 x3,.slice a3 n c3] 26)).cell? ⟨X,2,none⟩=some (.int .i64 x2):=(cell_of_block HX3.out 2).trans rfl
     have k3:(w3.alloc (.cells #[.int .i64 x0,.int .i64 x1,.int .i64 x2,.int .i64 x3,.slice a3 n c3] 26)).cell? ⟨X,3,none⟩=some (.int .i64 x3):=(cell_of_block HX3.out 3).trans rfl
     have k4:(w3.alloc (.cells #[.int .i64 x0,.int .i64 x1,.int .i64 x2,.int .i64 x3,.slice a3 n c3] 26)).cell? ⟨X,4,none⟩=some (.slice ar n cr):=(cell_of_block HX3.out 4).trans rfl
     have lx:=block_lt HX3.out
     have j0:(w3.alloc (.cells #[.int .i64 x0,.int .i64 x1,.int .i64 x2,.int .i64 x3,.slice a3 n c3] 26)).cell? ⟨w3.heap.size,0,none⟩=some (.int .i64 x0):=(cell_of_block HY3.out 0).trans rfl
     have j1:(w3.alloc (.cells #[.int .i64 x0,.int .i64 x1,.int .i64 x2,.int .i64 x3,.slice a3 n c3] 26)).cell? ⟨w3.heap.size,1,none⟩=some (.int .i64 x1):=(cell_of_block HY3.out 1).trans rfl
     have j2:(w3.alloc (.cells #[.int .i64 x0,.int .i64 x1,.int .i64 x2,.int .i64 x3,.slice a3 n c3] 26)).cell? ⟨w3.heap.size,2,none⟩=some (.int .i64 x2):=(cell_of_block HY3.out 2).trans rfl
     have j3:(w3.alloc (.cells #[.int .i64 x0,.int .i64 x1,.int .i64 x2,.int .i64 x3,.slice a3 n c3] 26)).cell? ⟨w3.heap.size,3,none⟩=some (.int .i64 x3):=(cell_of_block HY3.out 3).trans rfl
     have j4:(w3.alloc (.cells #[.int .i64 x0,.int .i64 x1,.int .i64 x2,.int .i64 x3,.slice a3 n c3] 26)).cell? ⟨w3.heap.size,4,none⟩=some (.slice a3 n c3):=(cell_of_block HY3.out 4).trans rfl
     have ly:=block_lt HY3.out
     go_wp2_with fail
     refine (sameRaster_all x0 x1 x2 x3 a3 ar n c3 cr f _ HQ3.out HC3.out hrn).mono ?_
     rintro e w4 ⟨rfl,hB4⟩
     have HX4:=hid_of ((hB4.block _ (block_lt HX3.out)).trans HX3.out)
     have HI4:=hid_of (bnext HI3.out hB4)
     clear hB4 HX3 HY3 HC3 HQ3 HI3 k0 k1 k2 k3 k4 lx j0 j1 j2 j3 j4 ly
     have k0:w4.cell? ⟨X,0,none⟩=some (.int .i64 x0):=(cell_of_block HX4.out 0).trans rfl
     have k1:w4.cell? ⟨X,1,none⟩=some (.int .i64 x1):=(cell_of_block HX4.out 1).trans rfl
     have k2:w4.cell? ⟨X,2,none⟩=some (.int .i64 x2):=(cell_of_block HX4.out 2).trans rfl
     have k3:w4.cell? ⟨X,3,none⟩=some (.int .i64 x3):=(cell_of_block HX4.out 3).trans rfl
     have lx:=block_lt HX4.out
     have bsz:((TT.size:Int) != (TT.size:Int))=false:=by simp
     go_wp2_with fail
     refine (hby w4 (HG.out.called (bnext HBX.out HI4.out))).mono ?_
     rintro e w5 ⟨rfl,hB5⟩
     have HX5:=hid_of ((hB5.block _ (block_lt HX4.out)).trans HX4.out)
     have HI5:=hid_of (bnext HI4.out hB5)
     clear hB5 HX4 HI4 k0 k1 k2 k3 lx
     have k0:w5.cell? ⟨X,0,none⟩=some (.int .i64 x0):=(cell_of_block HX5.out 0).trans rfl
     have k1:w5.cell? ⟨X,1,none⟩=some (.int .i64 x1):=(cell_of_block HX5.out 1).trans rfl
     have k2:w5.cell? ⟨X,2,none⟩=some (.int .i64 x2):=(cell_of_block HX5.out 2).trans rfl
     have k3:w5.cell? ⟨X,3,none⟩=some (.int .i64 x3):=(cell_of_block HX5.out 3).trans rfl
     have lx:=block_lt HX5.out
     have hc2:TT.size+(ByteArray.mk #[120]).size≤9223372036854775807:=hcc
     go_wp2_with fail
     rw[← HTX.out]
     refine (hrw w5 (HG.out.called (bnext HBX.out HI5.out))).mono ?_
     rintro e w6 ⟨a6,c6,rfl,hB6⟩
     have HI6:=hid_of (bal (bnext HI5.out hB6) (.cells #[.int .i64 0,.int .i64 0,.int .i64 0,.int .i64 0,.slice a6 0 c6] 26))
     clear hB6 HX5 HI5 k0 k1 k2 k3 lx
     go_wp2_with fail
     go_roundg (2 - (q+1))
     case measure=>omega
     case rel=>exact⟨q+1,by omega,Nat.le_refl _,by go_num,HI6⟩
    ·obtain rfl:q=2:=by omega
     go_wp2_with fail
     go_roundg (6 - (p+1))
     case measure=>omega
     case rel=>exact⟨p+1,by omega,Nat.le_refl _,by go_num,hI⟩
  ·obtain rfl:p=6:=by omega
   go_wp2_with fail
   go_ret
   exact⟨rfl,bnext HBX.out hI.out⟩
theorem FnScans_over (hO:ScanOfAnswer) (hY:ScanBytesAnswer) (hR:ScanReadAnswer) (a:Option Addr) (len cap:Nat) (zs:List Int) (w:World) (hr:IsRow .u8 w a len cap zs) (hG:GridG w):
  Calls Tryd.prog 4 #[.slice a len cap] w fun e w'=>e=.returned (.bool true)∧Below w.heap.size w w':=by
 obtain⟨hC,hl,hc⟩:=codeAt_of_row hr
 unfold maxLen at hc
 by_cases h:(len:Int)≤1048576
 ·exact FnScans_at hO hY hR a len cap w hC h hG
 ·have d:(1048576:Int) < len:=by omega
  clear hr hC hO hY hR hG
  go_enter Tryd.func4,Tryd.ntmps4
  go_wp2_with fail
  refine (big_yes a len cap _ d (by omega)).mono ?_
  rintro e w1 ⟨rfl,rfl⟩
  go_wp2_with fail
  go_ret
  exact⟨rfl,Below.refl _ _⟩
end
section
open Go.RowKit Go.Joins RastMath
theorem beq_of1 {a b:Int} (h:a=b):(a == b)=true:=by simpa using h
theorem beq_no1 {a b:Int} (h:¬ a=b):(a == b)=false:=by simpa using h
def IdxPost (f:Nat→Int) (n:Nat) (x:Int) (w:World) (e:Ending) (w':World):Prop:=∃ z:Int,e=.returned (.int .i64 z)∧(0≤z↔∃ i,i < n∧f i=x)∧w'=w
set_option maxHeartbeats 800000 in
theorem index_any (a:Option Addr) (n cap:Nat) (f:Nat→Int) (x:Int) (w:World) (hC:Came w a n f) (hn:n≤1048576):
  Calls Tryd.prog 113 #[.slice a n cap,.int .i64 x] w (IdxPost f n x w):=by
 have HC:=hid_of hC
 clear hC
 go_enter Tryd.func113,Tryd.ntmps113
 go_wp2_with fail
 go_loop [8] (fun i=>∃ j:Nat,j≤n∧i=.int .i64 j∧Hid (∀ i,i < j→¬ f i=x)) (fun i=>n - (intOf i).toNat)
 case atStart=>exact⟨0,Nat.zero_le _,rfl,fun i hi=>absurd hi (Nat.not_lt_zero i)⟩
 case round=>
  obtain⟨j,hj,rfl,hok⟩:=hrel
  by_cases hlt:j < n
  ·rcases HC.out with h0 | ⟨g,off,rfl,hg,hc⟩
   ·omega
   ·have c0:=hc j hlt
    clear hc
    by_cases hin:f j=x
    ·have HK:Hid (∃ i,i < n∧f i=x):=⟨j,hlt,hin⟩
     have d0:(x == f j)=true:=beq_of1 hin.symm
     clear hin
     go_wp2_with fail
     go_ret
     exact⟨(j:Int),rfl,⟨fun _=>HK.out,fun _=>by omega⟩,rfl⟩
    ·have HN:Hid (∀ i,i < j+1→¬ f i=x):=fun i hi=>by
      by_cases e:i=j
      ·rw[e]; exact hin
      ·exact hok.out i (by omega)
     have d0:(x == f j)=false:=beq_no1 fun h=>hin h.symm
     clear hin
     go_wp2_with fail
     go_round
     case rel=>exact⟨j+1,by omega,by go_num,HN⟩
     case measure=>simp [intOf]; omega
  ·obtain rfl:j=n:=by omega
   go_wp2_with fail
   go_ret
   exact⟨-1,rfl,⟨fun h=>absurd h (by omega),fun ⟨i,hi,h⟩=>absurd h (hok.out i hi)⟩,rfl⟩
def ContPost (f:Nat→Int) (n:Nat) (x:Int) (w:World) (e:Ending) (w':World):Prop:=e=.returned (.bool (decide (∃ i,i < n∧f i=x)))∧w'=w
theorem contains_any (a:Option Addr) (n cap:Nat) (f:Nat→Int) (x:Int) (w:World) (hC:Came w a n f) (hn:n≤1048576):
  Calls Tryd.prog 104 #[.slice a n cap,.int .i64 x] w (ContPost f n x w):=by
 have h:=index_any a n cap f x w hC hn
 clear hC
 go_enter Tryd.func104,Tryd.ntmps104
 go_wp2_with fail
 refine h.mono ?_
 rintro e w1 ⟨z,rfl,hz,rfl⟩
 have hd:decide (0≤z)=decide (∃ i,i < n∧f i=x):=decide_eq_decide.mpr hz
 have HD:=hid_of hd
 clear hz hd h
 go_wp2_with fail
 go_ret
 refine⟨?_,rfl⟩
 rw[HD.out]
 rfl
def fiveL (i:Nat):Int:=[1,2,4,8,16].getD i 0
theorem five_has (d:Int):(∃ i,i < 5∧fiveL i=d)↔Five d:=by
 unfold Five fiveL
 constructor
 ·rintro⟨i,hi,rfl⟩
  match i,hi with
  | 0,_=>simp
  | 1,_=>simp
  | 2,_=>simp
  | 3,_=>simp
  | 4,_=>simp
  | k+5,hk=>omega
 ·rintro (rfl | rfl | rfl | rfl | rfl)
  ·exact⟨0,by omega,rfl⟩
  ·exact⟨1,by omega,rfl⟩
  ·exact⟨2,by omega,rfl⟩
  ·exact⟨3,by omega,rfl⟩
  ·exact⟨4,by omega,rfl⟩
theorem isDepth_any (d:Int) (w:World):Calls Tryd.prog 90 #[.int .i64 d] w fun e w'=>e=.returned (.bool (decide (Five d)))∧Below w.heap.size w w':=by
 have h:Hid (∀ W:World,W=w.alloc (.cells #[.int .i64 1,.int .i64 2,.int .i64 4,.int .i64 8,.int .i64 16] 3)→Calls Tryd.prog 104 #[.slice (some ⟨w.heap.size,0,none⟩) 5 5,.int .i64 d] W fun e w'=>e=.returned (.bool (decide (Five d)))∧w'=W):=by
  rintro W rfl
  have hc:Came (w.alloc (.cells #[.int .i64 1,.int .i64 2,.int .i64 4,.int .i64 8,.int .i64 16] 3)) (some ⟨w.heap.size,0,none⟩) 5 fiveL:=by
   refine .inr ⟨w.heap.size,0,rfl,by simp,fun j hj=>?_⟩
   rw[Nat.zero_add,cell_of_block (heap_alloc_new w _) j]
   match j,hj with
   | 0,_=>rfl
   | 1,_=>rfl
   | 2,_=>rfl
   | 3,_=>rfl
   | 4,_=>rfl
   | k+5,hk=>omega
  refine (contains_any (some ⟨w.heap.size,0,none⟩) 5 5 fiveL d _ hc (by omega)).mono ?_
  rintro e w' ⟨rfl,rfl⟩
  refine⟨?_,rfl⟩
  rw[decide_eq_decide.mpr (five_has d)]
 have hB:=hid_of (bstart w (.cells #[.int .i64 1,.int .i64 2,.int .i64 4,.int .i64 8,.int .i64 16] 3))
 generalize decide (Five d)=b at h ⊢
 go_enter Tryd.func90,Tryd.ntmps90
 go_wp2_with fail
 refine (h.out _ rfl).mono ?_
 rintro e w1 ⟨rfl,rfl⟩
 go_wp2_with fail
 go_ret
 exact⟨rfl,hB.out⟩
theorem isSide_any (n:Int) (w:World):Calls Tryd.prog 38 #[.int .i64 n] w fun e w'=>e=.returned (.bool (decide (SideR n)))∧w'=w:=by
 by_cases h1:1≤n
 ·have d1:decide (1≤n)=true:=decide_eq_true h1
  have hh:decide (SideR n)=decide (n≤24):=decide_eq_decide.mpr ⟨fun h=>h.2,fun h=>⟨h1,h⟩⟩
  rw[hh]
  clear h1 hh
  generalize hb:decide (n≤24)=b
  go_enter Tryd.func38,Tryd.ntmps38
  go_wp2_with fail
  go_ret
  exact⟨rfl,rfl⟩
 ·have d1:decide (1≤n)=false:=decide_eq_false h1
  rw[decide_eq_false (fun h:SideR n=>h1 h.1)]
  clear h1
  go_enter Tryd.func38,Tryd.ntmps38
  go_wp2_with fail
  go_ret
  exact⟨rfl,rfl⟩
theorem rowFor_any (c:Int) (w:World) (h1:0≤c) (h2:c≤100000000):
  Calls Tryd.prog 99 #[.int .i64 c] w fun e w'=>e=.returned (.int .i64 ((c+7) / 8))∧w'=w:=by
 go_enter Tryd.func99,Tryd.ntmps99
 go_wp2_with fail
 go_ret
 exact⟨rfl,rfl⟩
theorem implChannels (c:Int) (w:World):Calls Tryd.prog 80 #[.int .i64 c] w fun e w'=>e=.returned (.int .i64 (chan c))∧w'=w:=by
 unfold chan
 by_cases h0:c=0
 ·subst h0
  go_enter Tryd.func80,Tryd.ntmps80
  go_wp2_with fail
  go_ret
  exact⟨rfl,rfl⟩
 by_cases h3:c=3
 ·subst h3
  go_enter Tryd.func80,Tryd.ntmps80
  go_wp2_with fail
  go_ret
  exact⟨rfl,rfl⟩
 by_cases h2:c=2
 ·subst h2
  go_enter Tryd.func80,Tryd.ntmps80
  go_wp2_with fail
  go_ret
  exact⟨rfl,rfl⟩
 by_cases h4:c=4
 ·subst h4
  go_enter Tryd.func80,Tryd.ntmps80
  go_wp2_with fail
  go_ret
  exact⟨rfl,rfl⟩
 by_cases h6:c=6
 ·subst h6
  go_enter Tryd.func80,Tryd.ntmps80
  go_wp2_with fail
  go_ret
  exact⟨rfl,rfl⟩
 rw[if_neg (by omega),if_neg h2,if_neg h4,if_neg h6]
 have b0:=beq_no1 h0
 have b3:=beq_no1 h3
 have b2:=beq_no1 h2
 have b4:=beq_no1 h4
 have b6:=beq_no1 h6
 go_enter Tryd.func80,Tryd.ntmps80
 go_wp2_with fail
 go_ret
 exact⟨rfl,rfl⟩
theorem implDepth (c d:Int) (w:World):Calls Tryd.prog 48 #[.int .i64 c,.int .i64 d] w fun e w'=>e=.returned (.bool (decide (DepthR c d)))∧Below w.heap.size w w':=by
 by_cases h0:c=0
 ·subst h0
  have h:=isDepth_any d
  rw[show decide (Five d)=decide (DepthR 0 d) from decide_eq_decide.mpr ⟨fun h=>.inl ⟨rfl,h⟩,depth_five⟩] at h
  generalize decide (DepthR 0 d)=b at h ⊢
  go_enter Tryd.func48,Tryd.ntmps48
  go_wp2_with fail
  refine (h _).mono ?_
  rintro e w1 ⟨rfl,hB⟩
  have HB:=hid_of hB
  clear hB
  go_wp2_with fail
  go_ret
  exact⟨rfl,HB.out⟩
 by_cases h3:c=3
 ·subst h3
  by_cases h5:Five d
  ·have h:=isDepth_any d
   rw[decide_eq_true h5] at h
   have hh:decide (DepthR 3 d)=(d != 16):=by
    by_cases e:d=16
    ·subst e; decide
    ·rw[decide_eq_true (show DepthR 3 d from .inr (.inl ⟨rfl,h5,e⟩))]
     simp[e]
   rw[hh]
   clear h5 hh
   generalize hb:(d != 16)=b
   go_enter Tryd.func48,Tryd.ntmps48
   go_wp2_with fail
   refine (h _).mono ?_
   rintro e w1 ⟨rfl,hB⟩
   have HB:=hid_of hB
   clear hB
   go_wp2_with fail
   go_ret
   exact⟨rfl,HB.out⟩
  ·have h:=isDepth_any d
   rw[decide_eq_false h5] at h
   rw[decide_eq_false (fun h:DepthR 3 d=>h5 (depth_five h))]
   clear h5
   go_enter Tryd.func48,Tryd.ntmps48
   go_wp2_with fail
   refine (h _).mono ?_
   rintro e w1 ⟨rfl,hB⟩
   have HB:=hid_of hB
   clear hB
   go_wp2_with fail
   go_ret
   exact⟨rfl,HB.out⟩
 have hd:d=8∨d=16∨(¬ d=8∧¬ d=16):=by omega
 have hc:c=2∨c=4∨c=6∨(¬ c=2∧¬ c=4∧¬ c=6):=by omega
 rcases hc with rfl | rfl | rfl | ⟨h2,h4,h6⟩
 all_goals
  rcases hd with rfl | rfl | ⟨h8,h16⟩
 all_goals
  first
   | (rw [decide_eq_true (show DepthR _ _ by unfold DepthR Five; omega)])
   | (rw [decide_eq_false (show ¬ DepthR _ _ by unfold DepthR Five; omega)])
  try (have e0:=beq_no1 h0; have e3:=beq_no1 h3; have e2:=beq_no1 h2; have e4:=beq_no1 h4; have e6:=beq_no1 h6; clear h0 h3 h2 h4 h6)
  try (have g8:=beq_no1 h8; have g16:=beq_no1 h16; clear h8 h16)
  go_enter Tryd.func48,Tryd.ntmps48
  go_wp2_with fail
  go_ret
  exact⟨rfl,Below.refl _ _⟩
end
end Go.Proofs.YtcbbcadfolgioaaDoor
