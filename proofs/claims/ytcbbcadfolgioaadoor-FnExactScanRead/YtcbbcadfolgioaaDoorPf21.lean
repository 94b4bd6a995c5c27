/-
  Texts of the proof, put together.
-/
import Derived.Test.YtcbbcadfolgioaaDoorPf20
import Derived.Test.YtcbbcadfolgioaaDoorPf18
namespace Go.Proofs.YtcbbcadfolgioaaDoor
open Go.RowKit Go.Joins RastMath PassMath
theorem info_rasm:(Tryd.prog.info? 26).map (fun i=>(i.zero,i.size,i.bytes))=some (some (.agg #[.int .i64 0,.int .i64 0,.int .i64 0,.int .i64 0,.slice none 0 0]),5,56):=by kernel_rfl
def rasMade:Array Value:=madeCells (Value.agg #[.int .i64 0,.int .i64 0,.int .i64 0,.int .i64 0,.slice none 0 0]).cells (7 * 5)
theorem rasMade_size:rasMade.size=35:=by simp [rasMade,madeCells]
theorem make_rasters (w:World):(Instr.makeSlice 28 (.int .i64 7) (.int .i64 7)).run Tryd.prog w=.ok (.slice (some ⟨w.heap.size,0,none⟩) 7 7) (w.alloc (.cells rasMade 26)):=by
 obtain⟨i0,hi0,hz0,hz1,hz2⟩:=info_parts info_rasm
 have h:=run_make (P:=Tryd.prog) w 28 26 i0 (.agg #[.int .i64 0,.int .i64 0,.int .i64 0,.int .i64 0,.slice none 0 0]) Tryd.underlying28 hi0 hz0 .i64 .i64 7 7 (by omega) (by omega) (by rw [hz2]; omega) (by omega)
 rw[hz1] at h
 exact h
theorem ras_value {w:World} {b:Nat} {x0 x1 x2 x3:Int} {v:Value} (h:w.heap[b]?=some (.cells #[.int .i64 x0,.int .i64 x1,.int .i64 x2,.int .i64 x3,v] 26 (0,0))):w.cell? ⟨b,0,none⟩=some (.int .i64 x0)∧w.cell? ⟨b,1,none⟩=some (.int .i64 x1)∧w.cell? ⟨b,2,none⟩=some (.int .i64 x2)∧w.cell? ⟨b,3,none⟩=some (.int .i64 x3)∧w.cell? ⟨b,4,none⟩=some v∧b < w.heap.size:=
 ⟨(cell_of_block h 0).trans rfl,(cell_of_block h 1).trans rfl,(cell_of_block h 2).trans rfl,(cell_of_block h 3).trans rfl,(cell_of_block h 4).trans rfl,block_lt h⟩
theorem implPasses_no (x0 x1 x2 x3:Int) (a:Option Addr) (n cap:Nat) (f:Nat→Int) (w:World) (hC:Came w a n f) (hn:n≤1048576) (hcap:n≤cap) (hcm:cap≤maxLen) (hno:¬ RasR x0 x1 x2 x3 n f):
  Calls Tryd.prog 11 #[.agg #[.int .i64 x0,.int .i64 x1,.int .i64 x2,.int .i64 x3,.slice a n cap]] w fun e w'=>∃ a' c',e=.returned (.tuple #[.slice a' 0 c',.bool false])∧Below w.heap.size w w':=by
 have HB:=hid_of (bstart w (.cells #[.int .i64 x0,.int .i64 x1,.int .i64 x2,.int .i64 x3,.slice a n cap] 26))
 have hR:=implRaster x0 x1 x2 x3 a n cap f _ (hC.called HB.out) hn hcap hcm
 have HR:Hid (Calls Tryd.prog 35 #[.agg #[.int .i64 x0,.int .i64 x1,.int .i64 x2,.int .i64 x3,.slice a n cap]] (w.alloc (.cells #[.int .i64 x0,.int .i64 x1,.int .i64 x2,.int .i64 x3,.slice a n cap] 26)) fun e w'=>e=.returned (.bool false)∧Below (w.alloc (.cells #[.int .i64 x0,.int .i64 x1,.int .i64 x2,.int .i64 x3,.slice a n cap] 26)).heap.size (w.alloc (.cells #[.int .i64 x0,.int .i64 x1,.int .i64 x2,.int .i64 x3,.slice a n cap] 26)) w'):=by
  refine hR.mono ?_
  rintro e w' ⟨b,rfl,hb,hB⟩
  cases b with
  | false=>exact⟨rfl,hB⟩
  | true=>exact absurd (hb.mp rfl) hno
 clear hR hC hno
 go_enter Tryd.func11,Tryd.ntmps11
 go_wp2_with fail
 refine HR.out.mono ?_
 rintro e w1 ⟨rfl,hB1⟩
 have HB1:=hid_of (bnext HB.out hB1)
 clear hB1
 go_wp2_with fail
 refine bodyPost_ret (v:=.tuple #[.slice none 0 0,.bool false]) ?_ rfl ⟨_,_,rfl,HB1.out⟩
 simp[results,Tryd.results11,go_sem]
set_option maxRecDepth 100000 in
set_option maxHeartbeats 6400000 in
theorem implPasses_yes (W H N:Nat) (x2 x3:Int) (a:Option Addr) (cap:Nat) (f:Nat→Int) (w:World) (hW:1≤W∧W≤24) (hH:1≤H∧H≤24) (hN:chan x2=(N:Int)) (hN1:1≤N∧N≤4) (hC:Came w a (W * H * N) f) (hcap:W * H * N≤cap) (hcm:cap≤maxLen) (hok:RasR (W:Int) (H:Int) x2 x3 (W * H * N) f) (hG:GridG w):
  Calls Tryd.prog 11 #[.agg #[.int .i64 (W:Int),.int .i64 (H:Int),.int .i64 x2,.int .i64 x3,.slice a (W * H * N) cap]] w fun e w'=>∃ a' c',e=.returned (.tuple #[.slice a' 7 c',.bool true])∧RSL w' w.heap.size a' 7 (passR W H x2 x3 N f)∧Below w.heap.size w w':=by
 have HB:=hid_of (bstart w (.cells #[.int .i64 (W:Int),.int .i64 (H:Int),.int .i64 x2,.int .i64 x3,.slice a (W * H * N) cap] 26))
 have hTle:W * H * N≤2304:=by
  have h1:=Nat.mul_le_mul hW.2 hH.2
  have h2:=Nat.mul_le_mul h1 hN1.2
  exact Nat.le_trans h2 (by omega)
 have hR:=implRaster (W:Int) (H:Int) x2 x3 a (W * H * N) cap f _ (hC.called HB.out) (by omega) hcap hcm
 obtain⟨T,hT⟩:∃ T,T=W * H * N:=⟨_,rfl⟩
 have hTpos:1≤T:=by rw [hT]; exact Nat.mul_pos (Nat.mul_pos (by omega) (by omega)) (by omega)
 rw[← hT] at hC hcap hTle HB hR hok ⊢
 have HR:Hid (Calls Tryd.prog 35 #[.agg #[.int .i64 (W:Int),.int .i64 (H:Int),.int .i64 x2,.int .i64 x3,.slice a T cap]] (w.alloc (.cells #[.int .i64 (W:Int),.int .i64 (H:Int),.int .i64 x2,.int .i64 x3,.slice a T cap] 26)) fun e w'=>e=.returned (.bool true)∧Below (w.alloc (.cells #[.int .i64 (W:Int),.int .i64 (H:Int),.int .i64 x2,.int .i64 x3,.slice a T cap] 26)).heap.size (w.alloc (.cells #[.int .i64 (W:Int),.int .i64 (H:Int),.int .i64 x2,.int .i64 x3,.slice a T cap] 26)) w'):=by
  refine hR.mono ?_
  rintro e w' ⟨b,rfl,hb,hB⟩
  cases b with
  | true=>exact⟨rfl,hB⟩
  | false=>exact absurd (hb.mpr hok) (by simp)
 obtain⟨g,off,rfl,hg,hcell⟩:∃ g off,a=some ⟨g,off,none⟩∧g < w.heap.size∧∀ j,j < T→w.cell? ⟨g,off+j,none⟩=some (.int .i64 (f j)):=by
  rcases hC with h | h
  ·omega
  ·exact h
 have HX:Hid ((w.alloc (.cells #[.int .i64 (W:Int),.int .i64 (H:Int),.int .i64 x2,.int .i64 x3,.slice (some ⟨g,off,none⟩) T cap] 26)).heap[w.heap.size]?=some (.cells #[.int .i64 (W:Int),.int .i64 (H:Int),.int .i64 x2,.int .i64 x3,.slice (some ⟨g,off,none⟩) T cap] 26 (0,0))):=heap_alloc_new w _
 have HT:=hid_of hT
 have HCL:=hid_of hcell
 have HG:=hid_of hG
 have HPS:Hid (∀ (p:Nat),p < 7→∀ V,GridG V→Calls Tryd.prog 36 #[.agg #[.int .i64 (W:Int),.int .i64 (H:Int),.int .i64 x2,.int .i64 x3,.slice (some ⟨g,off,none⟩) T cap],.int .i64 (p:Int)] V fun e w'=>e=.returned (.agg #[.int .i64 (pw W H p:Int),.int .i64 (ph W H p:Int),.int .i64 x2,.int .i64 x3,.slice none 0 0])∧Below V.heap.size V w'):=fun p hp V hV=>by
  have q:=passShape_any (W:Int) (H:Int) x2 x3 (p:Int) (.slice (some ⟨g,off,none⟩) T cap) V hV
  rw[(wideV_nat hW hH hp).1,(wideV_nat hW hH hp).2] at q
  exact q
 have HPL:Hid (∀ (p:Nat),p < 7→∀ V,GridG V→Calls Tryd.prog 37 #[.agg #[.int .i64 (W:Int),.int .i64 (H:Int),.int .i64 x2,.int .i64 x3,.slice (some ⟨g,off,none⟩) T cap],.int .i64 (p:Int)] V (PlacesPost W H N p V)):=fun p hp V hV=>passPlaces_any W H N p x2 x3 _ V hW hH hN hN1.2 hp hV
 unfold maxLen at hcm
 clear hT hC hcell hR hok hG hN
 go_enter Tryd.func11,Tryd.ntmps11
 go_wp2_with fail
 generalize w.alloc (.cells #[.int .i64 (W:Int),.int .i64 (H:Int),.int .i64 x2,.int .i64 x3,.slice (some ⟨g,off,none⟩) T cap] 26)=W0 at HX HB HR ⊢
 refine HR.out.mono ?_
 rintro e w1 ⟨rfl,hB1⟩
 have HX1:=hid_of ((hB1.block _ (block_lt HX.out)).trans HX.out)
 have HB1:=hid_of (bnext HB.out hB1)
 clear hB1 HX HB HR
 have hm:=make_rasters w1
 have H0:Hid (PsI w (w1.alloc (.cells rasMade 26)) #[.int .i64 (W:Int),.int .i64 (H:Int),.int .i64 x2,.int .i64 x3,.slice (some ⟨g,off,none⟩) T cap] w1.heap.size 0 (passR W H x2 x3 N f)):=
  ⟨(Below.heap_alloc w1 _ _ (block_lt HX1.out)).trans HX1.out,⟨fun _=>none,fun _=>0,fun _=>0,rasMade,block_lt HX1.out,heap_alloc_new w1 _,rasMade_size,fun j hj=>absurd hj (Nat.not_lt_zero j),fun j hj=>absurd hj (Nat.not_lt_zero j),fun j hj=>absurd hj (Nat.not_lt_zero j),fun i j hi=>absurd hi (Nat.not_lt_zero i)⟩,bal HB1.out _⟩
 generalize w1.alloc (.cells rasMade 26)=W1 at hm H0
 generalize w1.heap.size=gl at hm H0
 clear HX1 HB1
 go_wp2_with fail
 clear hm
 go_loopg [14] 8 (fun gk i w'=>∃ (p:Nat),p≤7∧7 - p≤gk∧i=.int .i64 (p:Int)∧Hid (PsI w w' #[.int .i64 (W:Int),.int .i64 (H:Int),.int .i64 x2,.int .i64 x3,.slice (some ⟨g,off,none⟩) T cap] gl p (passR W H x2 x3 N f)))
 case atStart=>exact⟨0,Nat.zero_le _,by omega,rfl,H0⟩
 case round=>
  clear H0
  obtain⟨p,hp,hgk,rfl,hI⟩:=hrel
  by_cases hlt:p < 7
  ·have dl:decide ((p:Int) < 7)=true:=decide_eq_true (by omega)
   have x7:(p:Int) < 7:=by omega
   have hsh:=HPS.out p hlt wr (HG.out.called hI.out.2.2)
   obtain⟨k0,k1,k2,k3,k4,lx⟩:=ras_value hI.out.1
   go_wp2_with fail
   refine hsh.mono ?_
   rintro e w2 ⟨rfl,hB2⟩
   have HI2:=hid_of (hI.out.called hB2)
   clear hB2 hI hsh k0 k1 k2 k3 k4 lx
   obtain⟨⟨z0,y0⟩,f0⟩:=HI2.out.cell (p * 5) (by omega)
   obtain⟨⟨z1,y1⟩,f1⟩:=HI2.out.cell (p * 5+1) (by omega)
   obtain⟨⟨z2,y2⟩,f2⟩:=HI2.out.cell (p * 5+2) (by omega)
   obtain⟨⟨z3,y3⟩,f3⟩:=HI2.out.cell (p * 5+3) (by omega)
   obtain⟨⟨z4,y4⟩,f4⟩:=HI2.out.cell (p * 5+4) (by omega)
   have ll:=HI2.out.lt.1
   have ne1:¬ w.heap.size=gl:=by have:=HI2.out.lt.2; omega
   have ne2:¬ gl=w.heap.size:=fun e=>ne1 e.symm
   obtain⟨k0,k1,k2,k3,k4,lx⟩:=ras_value HI2.out.1
   have HQ:Hid (PsQ w (((((w2.setCell ⟨gl,p * 5,none⟩ (.int .i64 (pw W H p:Int))).setCell ⟨gl,p * 5+1,none⟩ (.int .i64 (ph W H p:Int))).setCell ⟨gl,p * 5+2,none⟩ (.int .i64 x2)).setCell ⟨gl,p * 5+3,none⟩ (.int .i64 x3)).setCell ⟨gl,p * 5+4,none⟩ (.slice none 0 0)) #[.int .i64 (W:Int),.int .i64 (H:Int),.int .i64 x2,.int .i64 x3,.slice (some ⟨g,off,none⟩) T cap] gl p (passR W H x2 x3 N f) (pw W H p:Int) (ph W H p:Int) x2 x3):=HI2.out.shape hlt _
   clear HI2
   go_wp2_with fail
   generalize ((((w2.setCell ⟨gl,p * 5,none⟩ (.int .i64 (pw W H p:Int))).setCell ⟨gl,p * 5+1,none⟩ (.int .i64 (ph W H p:Int))).setCell ⟨gl,p * 5+2,none⟩ (.int .i64 x2)).setCell ⟨gl,p * 5+3,none⟩ (.int .i64 x3)).setCell ⟨gl,p * 5+4,none⟩ (.slice none 0 0)=W2 at HQ ⊢
   clear y0 y1 y2 y3 y4 f0 f1 f2 f3 f4 ll k0 k1 k2 k3 k4 lx
   refine (HPL.out p hlt W2 (HG.out.called HQ.out.1.2.2)).mono ?_
   rintro e w4 ⟨gp,cp,rfl,hO4,hB4⟩
   have HQ4:=hid_of (HQ.out.called hB4)
   have HO4:=hid_of hO4
   clear hB4 hO4 HQ
   have hK:pw W H p * ph W H p * N≤2304:=by
    have h1:=Nat.mul_le_mul (Nat.le_trans (pw_le W H p) hW.2) (Nat.le_trans (ph_le W H p) hH.2)
    exact Nat.le_trans (Nat.mul_le_mul h1 hN1.2) (by omega)
   have HRP:Hid (passR W H x2 x3 N f p=⟨(pw W H p:Int),(ph W H p:Int),x2,x3,pw W H p * ph W H p * N,passF W H N f p⟩):=rfl
   have HPF:Hid (∀ k,k < pw W H p * ph W H p * N→posP W H N p k < T∧passF W H N f p k=f (posP W H N p k)):=fun k hk=>⟨by rw [HT.out]; exact pos_lt hN1.1 hlt hk,rfl⟩
   generalize passR W H x2 x3 N f=R at *
   generalize passF W H N f p=F at HRP HPF
   generalize posP W H N p=PO at HPF HO4
   generalize pw W H p=PW at *
   generalize ph W H p=PH at *
   obtain⟨K,hKe⟩:∃ K,K=PW * PH * N:=⟨_,rfl⟩
   rw[← hKe] at hK HRP HPF HO4 ⊢
   clear hKe
   have hmk:=make_ints w4 K (by omega)
   have H5:Hid (IOwn (w4.alloc (.cells (madeCells #[Value.int .i64 0] K) 3)) w4.heap.size w4.heap.size K K (fun i=>if i < 0 then F i else 0)∧Below w4.heap.size w4 (w4.alloc (.cells (madeCells #[Value.int .i64 0] K) 3))):=⟨(IOwn.made w4 K (by unfold maxLen; omega) (Nat.le_refl _)).congr fun i _=>(if_neg (Nat.not_lt_zero i)).symm,bstart _ _⟩
   generalize w4.alloc (.cells (madeCells #[Value.int .i64 0] K) 3)=W5 at hmk H5
   obtain⟨S,hS⟩:∃ S,S=w4.heap.size:=⟨_,rfl⟩
   rw[← hS] at hmk H5
   have HS:=hid_of hS
   clear hS
   go_wp2_with fail
   clear hmk
   go_loopg [31] (K+1) (fun gk i w'=>∃ (k:Nat),k≤K∧K - k≤gk∧i=.int .i64 (k:Int)∧Hid (IOwn w' S S K K (fun i=>if i < k then F i else 0)∧Below S w4 w'))
   case atStart=>exact⟨0,Nat.zero_le _,by omega,rfl,H5⟩
   case round=>
    clear H5
    obtain⟨k,hk,hgk2,rfl,hJ⟩:=hrel
    have HBJ:Hid (Below w4.heap.size w4 wr):=by rw [← HS.out]; exact hJ.out.2
    by_cases hlk:k < K
    ·have dlk:decide ((k:Int) < (K:Int))=true:=decide_eq_true (by omega)
     obtain⟨hpo,hfe⟩:=HPF.out k hlk
     have c1:=(HO4.out.called HBJ.out).cell k hlk
     have l1:=(HO4.out.called HBJ.out).lt
     have c2:wr.cell? ⟨g,off+PO k,none⟩=some (.int .i64 (F k)):=by
      rw[hfe]
      exact ((bnext HQ4.out.1.2.2 HBJ.out).cell (p:=⟨g,off+PO k,none⟩) hg).trans (HCL.out _ hpo)
     have l2:g < wr.heap.size:=Nat.lt_of_lt_of_le hg (bnext HQ4.out.1.2.2 HBJ.out).size
     obtain⟨k0,k1,k2,k3,k4,lx⟩:=ras_value (HQ4.out.called HBJ.out).1.1
     have s1:=hJ.out.1.cell k hlk
     rw[if_neg (Nat.lt_irrefl k)] at s1
     have s2:=hJ.out.1.free k hlk
     have s3:=hJ.out.1.lt
     have HN:Hid (IOwn (wr.setCell ⟨S,k,none⟩ (.int .i64 (F k))) S S K K (fun i=>if i < k+1 then F i else 0)∧Below S w4 (wr.setCell ⟨S,k,none⟩ (.int .i64 (F k)))):=by
      refine⟨(hJ.out.1.set k hlk (F k)).congr fun i _=>?_,Below.setCell (p:=⟨S,k,none⟩) hJ.out.2 (Nat.le_refl _) _⟩
      unfold upd
      by_cases e:i=k
      ·rw[if_pos e,if_pos (by omega),e]
      ·rw[if_neg e]
       show (if i < k then F i else 0)=if i < k+1 then F i else 0
       by_cases e2:i < k
       ·rw[if_pos e2,if_pos (by omega)]
       ·rw[if_neg e2,if_neg (by omega)]
     clear hJ HBJ hfe
     generalize F k=Fk at *
     generalize PO k=Pk at *
     go_wp2_with fail
     go_roundg (K - (k+1))
     case measure=>omega
     case rel=>exact⟨k+1,by omega,Nat.le_refl _,by go_num,HN⟩
    ·obtain rfl:k=K:=by omega
     have HQ6:=hid_of (HQ4.out.called HBJ.out)
     obtain⟨⟨z4,y4⟩,f4⟩:=HQ6.out.1.cell (p * 5+4) (by omega)
     have ll:=HQ6.out.1.lt.1
     have HN:Hid (PsI w (wr.setCell ⟨gl,p * 5+4,none⟩ (.slice (some ⟨S,0,none⟩) k k)) #[.int .i64 (W:Int),.int .i64 (H:Int),.int .i64 x2,.int .i64 x3,.slice (some ⟨g,off,none⟩) T cap] gl (p+1) R):=
      HQ6.out.next hlt HRP.out (hJ.out.1.congr fun i hi=>if_pos hi) (by rw [HS.out]; exact HQ4.out.1.2.2.size) (by rw [HS.out]; exact HQ4.out.1.lt.1) (by unfold maxLen; omega) ⟨w4,HS.out.symm,HQ4.out,hJ.out.2⟩
     clear hJ HBJ HQ6
     go_wp2_with fail
     go_roundg (7 - (p+1))
     case measure=>omega
     case rel=>exact⟨p+1,by omega,Nat.le_refl _,by go_num,HN⟩
  ·obtain rfl:p=7:=by omega
   go_wp2_with fail
   refine bodyPost_ret (v:=.tuple #[.slice (some ⟨gl,0,none⟩) 7 7,.bool true]) ?_ rfl ⟨_,_,rfl,hI.out.out,hI.out.2.2⟩
   simp[results,Tryd.results11,go_sem]
theorem passes_answer:PassesAnswer:=by
 intro r a cap w hC hn hcap hcm hG
 refine⟨fun hok=>?_,fun hno=>?_⟩
 ·obtain⟨W,H,N,e0,e1,e2,hW,hH,hN,hrn,ep⟩:=ras_parts hok
  obtain⟨x0,x1,x2,x3,n,f⟩:=r
  have hx0:x0=(W:Int):=e0
  have hx1:x1=(H:Int):=e1
  have hn':n=W * H * N:=hrn
  subst hx0 hx1 hn'
  rw[ep]
  exact implPasses_yes W H N x2 x3 a cap f w hW hH e2 hN hC hcap hcm hok hG
 ·exact implPasses_no r.x0 r.x1 r.x2 r.x3 a r.n cap r.f w hC hn hcap hcm hno
end Go.Proofs.YtcbbcadfolgioaaDoor
