/-
  Texts of the proof, put together.
-/
import Derived.Test.YtcbbcadfolgioaaDoorPe09
import Derived.Test.YtcbbcadfolgioaaDoorPe12
namespace Go.Proofs.YtcbbcadfolgioaaDoor
open Go.RowKit Go.Joins OutMath TakeMath RastMath FiltMath ScanMath
theorem ras_five {w:World} {b:Nat} {v0 v1 v2 v3 v4:Value} (h:w.heap[b]?=some (.cells #[v0,v1,v2,v3,v4] 26 (0,0))):w.cell? ⟨b,0,none⟩=some v0∧w.cell? ⟨b,1,none⟩=some v1∧w.cell? ⟨b,2,none⟩=some v2∧w.cell? ⟨b,3,none⟩=some v3∧w.cell? ⟨b,4,none⟩=some v4∧b < w.heap.size:=
 ⟨(cell_of_block h 0).trans rfl,(cell_of_block h 1).trans rfl,(cell_of_block h 2).trans rfl,(cell_of_block h 3).trans rfl,(cell_of_block h 4).trans rfl,block_lt h⟩
theorem bytes_nums (s:ByteArray):bytesOf s=nums s:=by
 unfold nums bytesOf
 refine List.ext_getElem? fun i=>?_
 rw[List.getElem?_map,List.getElem?_map,Array.getElem?_toList]
 by_cases h:i < s.size
 ·rw[List.getElem?_range h,Array.getElem?_eq_getElem (show i < s.data.size from h)]
  show some _=some (bts s i)
  unfold bts byteAt
  rw[Array.getElem?_eq_getElem (show i < s.data.size from h)]
  rfl
 ·rw[Array.getElem?_eq_none (show s.data.size≤i by have:s.data.size=s.size:=rfl; omega),List.getElem?_eq_none (by simp; omega)]
  rfl
def RwI (w w':World) (bx:Array Value) (g k cap:Nat) (xs:List Int):Prop:=w'.heap[w.heap.size]?=some (.cells bx 26 (0,0))∧BR w' (w.heap.size+1) g k cap xs∧Below w.heap.size w w'
section
variable {w w' w2:World} {bx:Array Value} {g k cap:Nat} {xs:List Int}
theorem RwI.called (h:RwI w w' bx g k cap xs) (hb:Below w'.heap.size w' w2):RwI w w2 bx g k cap xs:=⟨(hb.block _ (block_lt h.1)).trans h.1,h.2.1.keep hb,bnext h.2.2 hb⟩
theorem BR.base_le {S:Nat} (h:BR w S g k cap xs):S≤g:=by
 rcases h.1.2 with ⟨q,_⟩ | ⟨g',c',cur,q,h1,_⟩
 ·cases q
 ·cases q
  exact h1
theorem RwI.app {g' k' cap':Nat} {ys:List Int} {o:Obj} (h:RwI w w' bx g k cap xs) (hR:BR w2 (w.heap.size+1) g' k' cap' ys) (hg:(w'.alloc o).grownBy w2 (some g)):RwI w w2 bx g' k' cap' ys:=by
 have h1:=h.2.1.base_le
 have hl:=block_lt h.1
 have h4:=bal h.2.2 o
 refine⟨?_,hR,⟨hg.os.trans h4.os,hg.tape.trans h4.tape,hg.output.trans h4.output,Nat.le_trans h4.size hg.size,fun b hb=>(hg.block b (Nat.lt_of_lt_of_le hb h4.size) (fun e=>by have:=Option.some.inj e; omega)).trans (h4.block b hb)⟩⟩
 rw[hg.block _ (by simp; omega) (fun e=>by have:=Option.some.inj e; omega),Below.heap_alloc w' _ _ hl]
 exact h.1
theorem RwI.app0 {g' k' cap':Nat} {ys:List Int} (h:RwI w w' bx g k cap xs) (hR:BR w2 (w.heap.size+1) g' k' cap' ys) (hg:w'.grownBy w2 (some g)):RwI w w2 bx g' k' cap' ys:=by
 have h1:=h.2.1.base_le
 have hl:=block_lt h.1
 have h4:=h.2.2
 refine⟨?_,hR,⟨hg.os.trans h4.os,hg.tape.trans h4.tape,hg.output.trans h4.output,Nat.le_trans h4.size hg.size,fun b hb=>(hg.block b (Nat.lt_of_lt_of_le hb h4.size) (fun e=>by have:=Option.some.inj e; omega)).trans (h4.block b hb)⟩⟩
 rw[hg.block _ hl (fun e=>by have:=Option.some.inj e; omega)]
 exact h.1
end
set_option maxRecDepth 100000 in
set_option maxHeartbeats 6400000 in
theorem specRows (W H N D:Nat) (c way:Int) (a:Option Addr) (cap:Nat) (f:Nat→Int) (w:World) (hW:W≤24) (hH:H≤24) (hWH:1≤H→1≤W) (hN:chan c=(N:Int)) (hN1:1≤N∧N≤4) (hD:Five (D:Int)) (hway:0≤way∧way≤5) (hC:Came w a (W * H * N) f) (hcap:W * H * N≤cap) (_hcm:cap≤maxLen) (hF:Fit12 f (W * H * N) D):
  Calls Tryd.prog 64 #[.agg #[.int .i64 (W:Int),.int .i64 (H:Int),.int .i64 c,.int .i64 (D:Int),.slice a (W * H * N) cap],.int .i64 way] w fun e w'=>e=.returned (.string (strOfNums (linesL way f (W * N) D (unitN N D) H)))∧Below w.heap.size w w':=by
 have h5:=five_range hD
 have hD16:1≤D∧D≤16:=by omega
 have hch:=fun Z=>specChannels c Z
 rw[hN] at hch
 have hun:=fun Z=>specUnit c N D Z hN hN1.2 hD16.2
 have hu:=unitN_range hN1.2 hD16.2
 obtain⟨s,hs⟩:∃ s,s=W * N:=⟨_,rfl⟩
 have hsb:s≤96:=by rw [hs]; exact Nat.mul_le_mul hW hN1.2
 have m1:(W:Int) * (N:Int)=(s:Int):=by rw [hs]; simp
 obtain⟨sd,hsd⟩:∃ sd,sd=s * D:=⟨_,rfl⟩
 have hsdb:sd≤1536:=by rw [hsd]; exact Nat.mul_le_mul hsb hD16.2
 have m2:(s:Int) * (D:Int)=(sd:Int):=by rw [hsd]; simp
 have hrb:rb s D=(sd+7) / 8:=by unfold rb; rw [hsd]
 have hb200:rb s D≤200:=by rw [hrb]; omega
 have hzr:=fun Z=>specZeros (rb s D) Z (by omega)
 have m3:((sd:Int)+7) / 8=(rb s D:Int):=by rw [hrb]; omega
 obtain⟨T,hT⟩:∃ T,T=W * H * N:=⟨_,rfl⟩
 have HTS:Hid (T=H * s):=by
  show T=H * s
  rw[hT,hs,Nat.mul_comm W H,Nat.mul_assoc]
 have hTb:T≤2304:=by rw [HTS.out]; exact Nat.mul_le_mul hH hsb
 rw[← hT] at hC hcap hF ⊢
 rw[← hs]
 have HPK:Hid (∀ j,j < H→∀ (a':Option Addr) (c':Nat) (Z:World),Came Z a' s (fun i=>f (j * s+i))→Calls Tryd.prog 92 #[.slice a' s c',.int .i64 (D:Int)] Z fun e w'=>e=.returned (.tuple #[.string (rowT f s D j),.bool true])∧Below Z.heap.size Z w'):=fun j hj a' c' Z hZ=>by
  refine (specPack_in a' s c' D (fun i=>f (j * s+i)) Z hZ hD hsb).mono ?_
  rintro e w' ⟨q1,_,q2⟩
  refine⟨q1 (fun i hi=>hF (j * s+i) ?_),q2⟩
  have:(j+1) * s≤H * s:=Nat.mul_le_mul_right _ (by omega)
  rw[Nat.add_mul,Nat.one_mul] at this
  rw[HTS.out]
  omega
 have HBF:Hid (∀ j Z,Calls Tryd.prog 93 #[.string (rowT f s D j),.string (aboveT f s D j),.int .i64 (unitN N D:Int)] Z fun e w'=>∃ b,e=.returned (.tuple #[.int .i64 (bestV (rowT f s D j) (aboveT f s D j) (unitN N D:Int)),.bool b])∧Below Z.heap.size Z w'):=fun j Z=>(specBestF _ _ _ Z (by rw [rowT_size]; omega)).mono fun _ _ ⟨q1,q2⟩=>⟨_,q1,q2⟩
 have HFL:Hid (∀ (k:Int) j Z,Calls Tryd.prog 94 #[.int .i64 k,.string (rowT f s D j),.string (aboveT f s D j),.int .i64 (unitN N D:Int)] Z fun e w'=>∃ b,e=.returned (.tuple #[.string (filtV k (rowT f s D j) (aboveT f s D j) (unitN N D:Int)),.bool b])∧Below Z.heap.size Z w'):=fun k j Z=>(specFilter k _ _ _ Z (by rw [rowT_size]; omega)).mono fun _ _ ⟨q1,q2⟩=>⟨_,q1,q2⟩
 generalize unitN N D=u at *
 have HLI:Hid (∀ j,linesL way f s D u (j+1)=linesL way f s D u j ++ [kindV way (rowT f s D j) (aboveT f s D j) u] ++ nums (filtV (kindV way (rowT f s D j) (aboveT f s D j) u) (rowT f s D j) (aboveT f s D j) (u:Int))):=fun j=>by
  show linesL way f s D u (j+1)=_
  rw[linesL_succ,List.append_assoc]
  rfl
 have HLL:Hid (∀ j,(linesL way f s D u j).length=j * (rb s D+1)):=fun j=>linesL_length hway hu hb200 j
 have HFS:Hid (∀ j,(filtV (kindV way (rowT f s D j) (aboveT f s D j) u) (rowT f s D j) (aboveT f s D j) (u:Int)).size=rb s D):=fun j=>by
  show ByteArray.size _=rb s D
  unfold filtV
  rw[if_pos (row_right hway hu hb200 j),filtT_size,rowT_size]
 have HKR:Hid (∀ j,0≤kindV way (rowT f s D j) (aboveT f s D j) u∧kindV way (rowT f s D j) (aboveT f s D j) u≤4):=fun j=>kindV_range hway _ _ _
 have HKW:Hid (∀ j,(way=5→kindV way (rowT f s D j) (aboveT f s D j) u=bestV (rowT f s D j) (aboveT f s D j) (u:Int))∧(¬ way=5→kindV way (rowT f s D j) (aboveT f s D j) u=way)):=fun j=>⟨fun e=>if_pos e,fun e=>if_neg e⟩
 have HAB:Hid (aboveT f s D 0=zeroT (rb s D)∧∀ j,aboveT f s D (j+1)=rowT f s D j):=⟨rfl,fun _=>rfl⟩
 have HS1:Hid (1≤H→1≤s∧1≤sd):=fun h=>by
  have h1:=hWH h
  have h2:1≤s:=by rw [hs]; exact Nat.mul_pos h1 hN1.1
  exact⟨h2,by rw [hsd]; exact Nat.mul_pos h2 hD16.1⟩
 obtain⟨V,hV⟩:∃ V:Value,V=.slice a T cap:=⟨_,rfl⟩
 have HVV:=hid_of hV
 have HCM:=hid_of hC
 have H0:Hid (RwI w ((w.alloc (.cells #[.int .i64 (W:Int),.int .i64 (H:Int),.int .i64 c,.int .i64 (D:Int),V] 26)).alloc (.cells #[] 5)) #[.int .i64 (W:Int),.int .i64 (H:Int),.int .i64 c,.int .i64 (D:Int),V] (w.heap.size+1) 0 0 []):=by
  have q:=BR.empty (w.alloc (.cells #[.int .i64 (W:Int),.int .i64 (H:Int),.int .i64 c,.int .i64 (D:Int),V] 26)) (w.heap.size+1) (by simp)
  rw[show (w.alloc (.cells #[.int .i64 (W:Int),.int .i64 (H:Int),.int .i64 c,.int .i64 (D:Int),V] 26)).heap.size=w.heap.size+1 by simp] at q
  exact⟨(Below.heap_alloc (w.alloc _) _ _ (by simp)).trans (heap_alloc_new w _),q,bal (bstart _ _) _⟩
 rw[← hV]
 unfold maxLen at _hcm
 generalize rb s D=b at *
 generalize hAB:aboveT f s D=AB at *
 generalize hRW:rowT f s D=RW at *
 clear hT hs hsd hrb hC hF hN hAB hRW hV hD h5
 go_enter Tryd.func64,Tryd.ntmps64
 go_wp2_with fail
 generalize (w.alloc (.cells #[.int .i64 (W:Int),.int .i64 (H:Int),.int .i64 c,.int .i64 (D:Int),V] 26)).alloc (.cells #[] 5)=W1 at H0 ⊢
 obtain⟨k0,k1,k2,k3,k4,lx⟩:=ras_five H0.out.1
 go_quiet ((go_at_call 58; exact Calls.quiet_of_same (hch _)))
 go_wp2_with fail
 refine (hzr _).mono ?_
 rintro e w3 ⟨rfl,hB3⟩
 have H3:=hid_of ((H0.out.called (bdraws (Below.refl _ _) _)).called hB3)
 clear hB3 H0 k0 k1 k2 k3 k4 lx hzr hch
 go_wp2_with fail
 go_loopg [5,7,8] (H+1) (fun gk o ab i w'=>∃ (j g cap':Nat),j≤H∧H - j≤gk∧o=.slice (some ⟨g,0,none⟩) (j * (b+1)) cap'∧ab=.string (AB j)∧i=.int .i64 (j:Int)∧Hid (RwI w w' #[.int .i64 (W:Int),.int .i64 (H:Int),.int .i64 c,.int .i64 (D:Int),V] g (j * (b+1)) cap' (linesL way f s D u j)))
 case atStart=>exact⟨0,_,_,Nat.zero_le _,by omega,by rw [Nat.zero_mul],by rw [HAB.out.1],rfl,by rw [Nat.zero_mul]; exact H3⟩
 case round=>
  clear H3
  obtain⟨j,g,cap',hj,hgk,rfl,rfl,rfl,hI⟩:=hrel
  by_cases hlj:j < H
  ·have dlj:decide ((j:Int) < (H:Int))=true:=decide_eq_true (by omega)
   obtain⟨hs1,hsd1⟩:=HS1.out (by omega)
   obtain⟨ga,off,ha,hga,hcell⟩:∃ ga off,a=some ⟨ga,off,none⟩∧ga < w.heap.size∧∀ i,i < T→w.cell? ⟨ga,off+i,none⟩=some (.int .i64 (f i)):=by
    rcases HCM.out with q | q
    ·have h1:1≤H * s:=Nat.mul_pos (by omega) hs1
     have h2:=HTS.out
     omega
    ·exact q
   subst ha
   obtain rfl:=HVV.out
   obtain⟨l,hl⟩:∃ l,l=j * s:=⟨_,rfl⟩
   have e1:(j:Int) * (s:Int)=(l:Int):=by rw [hl]; simp
   have hlT:l+s≤T:=by
    have:(j+1) * s≤H * s:=Nat.mul_le_mul_right _ (by omega)
    rw[Nat.add_mul,Nat.one_mul] at this
    have h2:=HTS.out
    omega
   have ne:¬ l+s=l:=by omega
   have HCS:Hid (Came wr (some ⟨ga,off+l,none⟩) s (fun i=>f (j * s+i))):=.inr ⟨ga,off+l,rfl,Nat.lt_of_lt_of_le hga hI.out.2.2.size,fun i hi=>by
    rw[← hl,Nat.add_assoc]
    exact (hI.out.2.2.cell (p:=⟨ga,off+(l+i),none⟩) hga).trans (hcell (l+i) (by omega))⟩
   have HLN:=hid_of (HLI.out j)
   have hLJ:=HLL.out j
   have hLJ1:=HLL.out (j+1)
   have hFS:=HFS.out j
   obtain⟨hk0,hk4⟩:=HKR.out j
   obtain⟨hkw1,hkw2⟩:=HKW.out j
   have hpk:=HPK.out j hlj
   have hbf:=HBF.out j
   have hfil:=HFL.out (kindV way (RW j) (AB j) u) j
   generalize linesL way f s D u j=LJ at *
   generalize bestV (RW j) (AB j) (u:Int)=BV at hkw1 hbf
   generalize kindV way (RW j) (AB j) u=KV at *
   generalize filtV KV (RW j) (AB j) (u:Int)=FT at *
   have hJB:j * (b+1)≤24 * 201:=Nat.mul_le_mul (by omega) (by omega)
   have HLEN:Hid ((j+1) * (b+1)=j * (b+1)+1+FT.size):=by
    show (j+1) * (b+1)=j * (b+1)+1+FT.size
    rw[hFS,Nat.add_mul,Nat.one_mul]
    omega
   generalize j * (b+1)=JB at *
   have hkn:JB≤100000:=by omega
   have wk8:IntKind.u8.wrap KV=KV:=by rw [IntKind.wrap_u8]; omega
   have v1:IntKind.i64.wrap (l:Int)=(l:Int):=by rw [IntKind.wrap_i64]; omega
   have v2:IntKind.i64.wrap ((l:Int)+(s:Int))=(l:Int)+(s:Int):=by rw [IntKind.wrap_i64]; omega
   have z1:((l:Int)+(s:Int)).toNat=l+s:=by omega
   have z2:(l:Int)≤(l:Int)+(s:Int):=by omega
   have z3:(l:Int)+(s:Int)≤(cap:Int):=by omega
   have z4:l+s - l=s:=by omega
   have z5:(0:Int)≤(l:Int)+(s:Int):=by omega
   have z7:¬ (cap=l):=by omega
   have HFSZ:=hid_of hFS
   clear hl hcell hLJ hLJ1 hFS
   obtain⟨k0,k1,k2,k3,k4,lx⟩:=ras_five hI.out.1
   go_wp2_with fail
   refine wp_region_held (S:=fun u=>u.cell? ⟨w.heap.size,0,none⟩=some (.int .i64 (W:Int))∧u.cell? ⟨w.heap.size,1,none⟩=some (.int .i64 (H:Int))∧u.cell? ⟨w.heap.size,2,none⟩=some (.int .i64 c)∧u.cell? ⟨w.heap.size,3,none⟩=some (.int .i64 (D:Int))∧u.cell? ⟨w.heap.size,4,none⟩=some (.slice (some ⟨ga,off,none⟩) T cap)) (by kernel_rfl) ?_
   show wpAnyH _ _ _ _ _ _ _ _ wr.drew
   have HS:wr.drew.cell? ⟨w.heap.size,0,none⟩=some (.int .i64 (W:Int))∧wr.drew.cell? ⟨w.heap.size,1,none⟩=some (.int .i64 (H:Int))∧wr.drew.cell? ⟨w.heap.size,2,none⟩=some (.int .i64 c)∧wr.drew.cell? ⟨w.heap.size,3,none⟩=some (.int .i64 (D:Int))∧wr.drew.cell? ⟨w.heap.size,4,none⟩=some (.slice (some ⟨ga,off,none⟩) T cap):=⟨k0,k1,k2,k3,k4⟩
   refine wpAnyH_take (i:=0) (v:=.pointer (some ⟨w.heap.size,4,none⟩)) rfl (by kernel_rfl) (by kernel_rfl) (by kernel_rfl) (fun _ _ _ h=>h) (Or.inl ⟨by rfl,?_⟩) HS ?_
   ·intro w' hS
    obtain⟨s0,s1,s2,s3,s4⟩:=hS
    go_simp
   simp only [Act.put,List.getElem_toArray,List.getElem_cons_zero,List.setIfInBounds_toArray,List.set_cons_zero,List.set_cons_succ]
   refine wpAnyH_take (i:=1) (v:=.slice (some ⟨ga,off,none⟩) T cap) rfl (by kernel_rfl) (by kernel_rfl) (by kernel_rfl) (fun _ _ _ h=>h) (Or.inl ⟨by rfl,?_⟩) HS ?_
   ·intro w' hS
    obtain⟨s0,s1,s2,s3,s4⟩:=hS
    go_simp
   simp only [Act.put,List.getElem_toArray,List.getElem_cons_zero,List.getElem_cons_succ,List.setIfInBounds_toArray,List.set_cons_zero,List.set_cons_succ]
   refine wpAnyH_take (i:=2) (v:=.int .i64 (j:Int)) rfl (by kernel_rfl) (by kernel_rfl) (by kernel_rfl) (fun _ _ _ h=>h) (Or.inl ⟨by rfl,?_⟩) HS ?_
   ·intro w' hS
    obtain⟨s0,s1,s2,s3,s4⟩:=hS
    go_simp
   simp only [Act.put,List.getElem_toArray,List.getElem_cons_zero,List.getElem_cons_succ,List.setIfInBounds_toArray,List.set_cons_zero,List.set_cons_succ]
   refine wpAnyH_take (i:=3) (v:=.int .i64 (s:Int)) rfl (by kernel_rfl) (by kernel_rfl) (by kernel_rfl) (fun _ _ _ h=>h) (Or.inl ⟨by rfl,?_⟩) HS ?_
   ·intro w' hS
    obtain⟨s0,s1,s2,s3,s4⟩:=hS
    go_simp
   simp only [Act.put,List.getElem_toArray,List.getElem_cons_zero,List.getElem_cons_succ,List.setIfInBounds_toArray,List.set_cons_zero,List.set_cons_succ]
   refine wpAnyH_take (i:=4) (v:=.int .i64 (l:Int)) rfl (by kernel_rfl) (by kernel_rfl) (by kernel_rfl) (fun _ _ _ h=>h) (Or.inl ⟨by rfl,?_⟩) HS ?_
   ·intro w' hS
    obtain⟨s0,s1,s2,s3,s4⟩:=hS
    go_simp
   simp only [Act.put,List.getElem_toArray,List.getElem_cons_zero,List.getElem_cons_succ,List.setIfInBounds_toArray,List.set_cons_zero,List.set_cons_succ]
   refine wpAnyH_take (i:=5) (v:=.int .i64 (j:Int)) rfl (by kernel_rfl) (by kernel_rfl) (by kernel_rfl) (fun _ _ _ h=>h) (Or.inl ⟨by rfl,?_⟩) HS ?_
   ·intro w' hS
    obtain⟨s0,s1,s2,s3,s4⟩:=hS
    go_simp
   simp only [Act.put,List.getElem_toArray,List.getElem_cons_zero,List.getElem_cons_succ,List.setIfInBounds_toArray,List.set_cons_zero,List.set_cons_succ]
   refine wpAnyH_take (i:=6) (v:=.int .i64 (s:Int)) rfl (by kernel_rfl) (by kernel_rfl) (by kernel_rfl) (fun _ _ _ h=>h) (Or.inl ⟨by rfl,?_⟩) HS ?_
   ·intro w' hS
    obtain⟨s0,s1,s2,s3,s4⟩:=hS
    go_simp
   simp only [Act.put,List.getElem_toArray,List.getElem_cons_zero,List.getElem_cons_succ,List.setIfInBounds_toArray,List.set_cons_zero,List.set_cons_succ]
   refine wpAnyH_take (i:=7) (v:=.int .i64 (l:Int)) rfl (by kernel_rfl) (by kernel_rfl) (by kernel_rfl) (fun _ _ _ h=>h) (Or.inl ⟨by rfl,?_⟩) HS ?_
   ·intro w' hS
    obtain⟨s0,s1,s2,s3,s4⟩:=hS
    go_simp
   simp only [Act.put,List.getElem_toArray,List.getElem_cons_zero,List.getElem_cons_succ,List.setIfInBounds_toArray,List.set_cons_zero,List.set_cons_succ]
   refine wpAnyH_take (i:=8) (v:=.int .i64 (s:Int)) rfl (by kernel_rfl) (by kernel_rfl) (by kernel_rfl) (fun _ _ _ h=>h) (Or.inl ⟨by rfl,?_⟩) HS ?_
   ·intro w' hS
    obtain⟨s0,s1,s2,s3,s4⟩:=hS
    go_simp
   simp only [Act.put,List.getElem_toArray,List.getElem_cons_zero,List.getElem_cons_succ,List.setIfInBounds_toArray,List.set_cons_zero,List.set_cons_succ]
   refine wpAnyH_take (i:=9) (v:=.int .i64 ((l:Int)+(s:Int))) rfl (by kernel_rfl) (by kernel_rfl) (by kernel_rfl) (fun _ _ _ h=>h) (Or.inl ⟨by rfl,?_⟩) HS ?_
   ·intro w' hS
    obtain⟨s0,s1,s2,s3,s4⟩:=hS
    go_simp
   simp only [Act.put,List.getElem_toArray,List.getElem_cons_zero,List.getElem_cons_succ,List.setIfInBounds_toArray,List.set_cons_zero,List.set_cons_succ]
   refine wpAnyH_take (i:=10) (v:=.slice (some ⟨ga,off+l,none⟩) s (cap - l)) rfl (by kernel_rfl) (by kernel_rfl) (by kernel_rfl) (fun _ _ _ h=>h) (Or.inl ⟨by rfl,?_⟩) HS ?_
   ·intro w' hS
    obtain⟨s0,s1,s2,s3,s4⟩:=hS
    go_simp
   simp only [Act.put,List.getElem_toArray,List.getElem_cons_zero,List.getElem_cons_succ,List.setIfInBounds_toArray,List.set_cons_zero,List.set_cons_succ]
   refine wpAnyH_take (i:=11) (v:=.pointer (some ⟨w.heap.size,3,none⟩)) rfl (by kernel_rfl) (by kernel_rfl) (by kernel_rfl) (fun _ _ _ h=>h) (Or.inl ⟨by rfl,?_⟩) HS ?_
   ·intro w' hS
    obtain⟨s0,s1,s2,s3,s4⟩:=hS
    go_simp
   simp only [Act.put,List.getElem_toArray,List.getElem_cons_zero,List.getElem_cons_succ,List.setIfInBounds_toArray,List.set_cons_zero,List.set_cons_succ]
   refine wpAnyH_take (i:=12) (v:=.int .i64 (D:Int)) rfl (by kernel_rfl) (by kernel_rfl) (by kernel_rfl) (fun _ _ _ h=>h) (Or.inl ⟨by rfl,?_⟩) HS ?_
   ·intro w' hS
    obtain⟨s0,s1,s2,s3,s4⟩:=hS
    go_simp
   simp only [Act.put,List.getElem_toArray,List.getElem_cons_zero,List.getElem_cons_succ,List.setIfInBounds_toArray,List.set_cons_zero,List.set_cons_succ]
   refine wpAnyH_ready (rs:=[13]) (by kernel_rfl) (by simp) ?_
   refine AllReadyH.cons rfl (fun K hK=>?_) AllReadyH.nil
   refine if_wanted (wanted_none rfl) ?_
   simp only [List.getElem_toArray,List.getElem_cons_zero,List.getElem_cons_succ]
   go_simp
   refine (hpk _ _ _ (by exact HCS.out)).mono ?_
   rintro e w4 ⟨rfl,hB4⟩
   have HI4:Hid (RwI w w4 #[.int .i64 (W:Int),.int .i64 (H:Int),.int .i64 c,.int .i64 (D:Int),.slice (some ⟨ga,off,none⟩) T cap] g JB cap' LJ):=RwI.called hI.out ⟨hB4.1,hB4.2,hB4.3,hB4.4,hB4.5⟩
   clear hB4
   obtain⟨j0,j1,j2,j3,j4,_⟩:=ras_five HI4.out.1
   refine hK.out _ _ ⟨j0,j1,j2,j3,j4⟩ (fun HS4=>?_)
   clear hK
   refine wpAnyH_take (i:=14) (v:=.tuple #[.string (RW j),.bool true]) rfl (by kernel_rfl) (by kernel_rfl) (by kernel_rfl) (fun _ _ _ h=>h) (Or.inl ⟨by rfl,?_⟩) HS4 ?_
   ·intro w' hS
    obtain⟨s0,s1,s2,s3,s4⟩:=hS
    go_simp
   simp only [Act.put,List.getElem_toArray,List.getElem_cons_zero,List.getElem_cons_succ,List.setIfInBounds_toArray,List.set_cons_zero,List.set_cons_succ]
   refine wpAnyH_take (i:=15) (v:=.string (RW j)) rfl (by kernel_rfl) (by kernel_rfl) (by kernel_rfl) (fun _ _ _ h=>h) (Or.inl ⟨by rfl,?_⟩) HS4 ?_
   ·intro w' hS
    obtain⟨s0,s1,s2,s3,s4⟩:=hS
    go_simp
   simp only [Act.put,List.getElem_toArray,List.getElem_cons_zero,List.getElem_cons_succ,List.setIfInBounds_toArray,List.set_cons_zero,List.set_cons_succ]
   refine wpAnyH_take (i:=16) (v:=.bool true) rfl (by kernel_rfl) (by kernel_rfl) (by kernel_rfl) (fun _ _ _ h=>h) (Or.inl ⟨by rfl,?_⟩) HS4 ?_
   ·intro w' hS
    obtain⟨s0,s1,s2,s3,s4⟩:=hS
    go_simp
   simp only [Act.put,List.getElem_toArray,List.getElem_cons_zero,List.getElem_cons_succ,List.setIfInBounds_toArray,List.set_cons_zero,List.set_cons_succ]
   refine wpAnyH_take (i:=17) (v:=.string (RW j)) rfl (by kernel_rfl) (by kernel_rfl) (by kernel_rfl) (fun _ _ _ h=>h) (Or.inl ⟨by rfl,?_⟩) HS4 ?_
   ·intro w' hS
    obtain⟨s0,s1,s2,s3,s4⟩:=hS
    go_simp
   simp only [Act.put,List.getElem_toArray,List.getElem_cons_zero,List.getElem_cons_succ,List.setIfInBounds_toArray,List.set_cons_zero,List.set_cons_succ]
   refine wpAnyH_take (i:=18) (v:=.bool true) rfl (by kernel_rfl) (by kernel_rfl) (by kernel_rfl) (fun _ _ _ h=>h) (Or.inl ⟨by rfl,?_⟩) HS4 ?_
   ·intro w' hS
    obtain⟨s0,s1,s2,s3,s4⟩:=hS
    go_simp
   simp only [Act.put,List.getElem_toArray,List.getElem_cons_zero,List.getElem_cons_succ,List.setIfInBounds_toArray,List.set_cons_zero,List.set_cons_succ]
   refine wpAnyH_done (by kernel_rfl) ?_ _
   clear j0 j1 j2 j3 j4 HS HS4
   clear k0 k1 k2 k3 k4 lx HCS hpk hI
   by_cases hw5:way=5
   ·have hkv:=hkw1 hw5
    have b5:(way == 5)=true:=by simpa using hw5
    obtain⟨k0,k1,k2,k3,k4,lx⟩:=ras_five HI4.out.1
    subst hkv
    clear hw5 hkw1 hkw2
    go_wp2_with fail
    refine (hun _).mono ?_
    rintro e w6 ⟨rfl,rfl⟩
    go_wp2_with fail
    refine (hbf _).mono ?_
    rintro e w5 ⟨bc,rfl,hB5⟩
    have HI5:=hid_of (HI4.out.called hB5)
    clear hB5 HI4 k0 k1 k2 k3 k4 lx hbf
    obtain⟨k0,k1,k2,k3,k4,lx⟩:=ras_five HI5.out.1
    go_wp2_with fail
    refine (hun _).mono ?_
    rintro e w6 ⟨rfl,rfl⟩
    go_wp2_with fail
    refine (hfil _).mono ?_
    rintro e w7 ⟨bb,rfl,hB7⟩
    have HI7:=hid_of (HI5.out.called hB7)
    clear hB7 HI5 k0 k1 k2 k3 k4 lx
    have hww:w.heap.size+1≤w7.heap.size:=block_lt HI7.out.1
    go_wp2_with (at_builtin; refine bytes_app1 (S:=w.heap.size+1) (xs:=LJ) rfl _ _ rfl rfl (HI7.out.2.1.keep (bstart w7 _)) w7.heap.size 1 KV rfl ((cell_of_block (heap_alloc_new w7 (.cells #[.int .u8 KV] 5)) 0).trans rfl) hkn (by simp; omega) ?_)
    intro g8 cap8 w8 hR8 hg8
    have HI8:=hid_of (HI7.out.app hR8 hg8)
    clear hR8 hg8 HI7
    obtain⟨W9,cap9,hcv,hO9,hB9⟩:=bown_of_text w8 FT (by have:=HFSZ.out; omega)
    have HO9:=hid_of hO9
    have HI9:=hid_of (HI8.out.called hB9)
    have hww8:w.heap.size+1≤w8.heap.size:=block_lt HI8.out.1
    have HB9:=hid_of hB9.size
    clear hO9 hB9 HI8
    have q1:1≤FT.size:=by have:=HFSZ.out; omega
    have q2:JB+1+FT.size≤100000:=by have:=HFSZ.out; omega
    have q3:w.heap.size+1≤W9.heap.size:=by have:=HB9.out; omega
    have q4:∀ i,i < FT.size→W9.cell? ⟨w8.heap.size,i,none⟩=some (.int .u8 ((nums FT).getD i 0)):=fun i hi=>by rw [← bytes_nums]; exact HO9.out.cell i hi
    have HQ4:=hid_of q4
    clear q4
    go_wp2_with (at_builtin; refine bytes_appN (S:=w.heap.size+1) (xs:=LJ ++ [KV]) rfl _ _ rfl rfl HI9.out.2.1 w8.heap.size FT.size cap9 (nums FT) rfl (nums_length FT).symm q1 HQ4.out q2 q3 ?_)
    intro g10 cap10 w10 hR10 hg10
    have HI10:=hid_of (HI9.out.app0 hR10 hg10)
    clear hR10 hg10 HI9 HO9 hcv
    go_wp2_with fail
    go_roundg (H - (j+1))
    case measure=>omega
    case rel=>
     refine⟨j+1,g10,cap10,by omega,Nat.le_refl _,by rw [HLEN.out],by rw [HAB.out.2 j],by go_num,?_⟩
     rw[HLEN.out,HLN.out,List.append_assoc]
     exact HI10
   ·have hkv:=hkw2 hw5
    have b5:(way == 5)=false:=by simpa using hw5
    have HI5:=HI4
    clear HI4 hkw1 hkw2
    subst hkv
    clear hw5
    obtain⟨k0,k1,k2,k3,k4,lx⟩:=ras_five HI5.out.1
    go_wp2_with fail
    refine (hun _).mono ?_
    rintro e w6 ⟨rfl,rfl⟩
    go_wp2_with fail
    refine (hfil _).mono ?_
    rintro e w7 ⟨bb,rfl,hB7⟩
    have HI7:=hid_of (HI5.out.called hB7)
    clear hB7 HI5 k0 k1 k2 k3 k4 lx
    have hww:w.heap.size+1≤w7.heap.size:=block_lt HI7.out.1
    go_wp2_with (at_builtin; refine bytes_app1 (S:=w.heap.size+1) (xs:=LJ) rfl _ _ rfl rfl (HI7.out.2.1.keep (bstart w7 _)) w7.heap.size 1 KV rfl ((cell_of_block (heap_alloc_new w7 (.cells #[.int .u8 KV] 5)) 0).trans rfl) hkn (by simp; omega) ?_)
    intro g8 cap8 w8 hR8 hg8
    have HI8:=hid_of (HI7.out.app hR8 hg8)
    clear hR8 hg8 HI7
    obtain⟨W9,cap9,hcv,hO9,hB9⟩:=bown_of_text w8 FT (by have:=HFSZ.out; omega)
    have HO9:=hid_of hO9
    have HI9:=hid_of (HI8.out.called hB9)
    have hww8:w.heap.size+1≤w8.heap.size:=block_lt HI8.out.1
    have HB9:=hid_of hB9.size
    clear hO9 hB9 HI8
    have q1:1≤FT.size:=by have:=HFSZ.out; omega
    have q2:JB+1+FT.size≤100000:=by have:=HFSZ.out; omega
    have q3:w.heap.size+1≤W9.heap.size:=by have:=HB9.out; omega
    have q4:∀ i,i < FT.size→W9.cell? ⟨w8.heap.size,i,none⟩=some (.int .u8 ((nums FT).getD i 0)):=fun i hi=>by rw [← bytes_nums]; exact HO9.out.cell i hi
    have HQ4:=hid_of q4
    clear q4
    go_wp2_with (at_builtin; refine bytes_appN (S:=w.heap.size+1) (xs:=LJ ++ [KV]) rfl _ _ rfl rfl HI9.out.2.1 w8.heap.size FT.size cap9 (nums FT) rfl (nums_length FT).symm q1 HQ4.out q2 q3 ?_)
    intro g10 cap10 w10 hR10 hg10
    have HI10:=hid_of (HI9.out.app0 hR10 hg10)
    clear hR10 hg10 HI9 HO9 hcv
    go_wp2_with fail
    go_roundg (H - (j+1))
    case measure=>omega
    case rel=>
     refine⟨j+1,g10,cap10,by omega,Nat.le_refl _,by rw [HLEN.out],by rw [HAB.out.2 j],by go_num,?_⟩
     rw[HLEN.out,HLN.out,List.append_assoc]
     exact HI10
  ·obtain rfl:j=H:=by omega
   have kc:=hI.out.2.1.text
   obtain⟨k0,k1,k2,k3,k4,lx⟩:=ras_five hI.out.1
   go_wp2_with fail
   go_ret
   exact⟨rfl,hI.out.2.2⟩
end Go.Proofs.YtcbbcadfolgioaaDoor
