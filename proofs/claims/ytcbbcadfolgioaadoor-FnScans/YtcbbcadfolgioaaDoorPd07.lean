/-
  Texts of the proof, put together.
-/
import Derived.Test.YtcbbcadfolgioaaDoorPd06
import Derived.Deep.CutRange
import Derived.Deep.RegionHeld3
namespace Go.Proofs.YtcbbcadfolgioaaDoor
open Go.RowKit Go.Joins RastMath OutMath
abbrev zeroC:Array Value:=#[.int .i64 0,.int .i64 0,.int .i64 0,.int .i64 0,.slice none 0 0]
def RigI (w w':World) (base b q:Nat) (W H C D:Int) (k:Nat):Prop:=
 ∃ (v:Value) (zs:List Int),w'.heap[w.heap.size]?=some (.cells zeroC 26 (0,0))∧w'.heap[q]?=some (.cells #[.int .i64 W,.int .i64 H,.int .i64 C,.int .i64 D,v] 26 (0,0))∧w.heap.size < q∧
  zs.length=k∧(∀ z∈zs,0≤z∧z < p2 D.toNat)∧w'.ownsRow (q+1) 3 1 v k (zs.map (Value.int .i64))∧Cur w' base b∧b < w.heap.size∧w.grownBy w' (some b)
theorem grown_set14 {w w':World} {row:Option Nat} (h:w.grownBy w' row) (p:Addr) (v:Value) (hp:w.heap.size≤p.block):w.grownBy (w'.setCell p v) row:=
 ⟨h.os,h.tape,h.output,by simpa [World.setCell] using h.size,fun k hk hne=>(heap_setCell_other w' p k v (by omega)).trans (h.block k hk hne)⟩
theorem RigI.drawn {w w' w2:World} {base b q:Nat} {W H C D:Int} {k:Nat} (h:RigI w w' base b q W H C D k) (hg:w'.grownBy w2 (some b)) (hC:Cur w2 base b):RigI w w2 base b q W H C D k:=by
 obtain⟨v,zs,h1,h2,h3,h4,h5,h6,h7,h8,h9⟩:=h
 refine⟨v,zs,(hg.block _ (block_lt h1) (fun e=>by have:=Option.some.inj e; omega)).trans h1,(hg.block _ (block_lt h2) (fun e=>by have:=Option.some.inj e; omega)).trans h2,h3,h4,h5,⟨h6.1,?_⟩,hC,h8,grown_more h9 hg (fun r hr=>.inl (Option.some.inj hr).symm)⟩
 rcases h6.2 with q | ⟨g,c,cur,e,q1,q2,q3⟩
 ·exact .inl q
 ·exact .inr ⟨g,c,cur,e,q1,(hg.block g (block_lt q2) (fun e=>by have:=Option.some.inj e; omega)).trans q2,q3⟩
theorem RigI.alloc {w w':World} {base b q:Nat} {W H C D:Int} {k:Nat} (h:RigI w w' base b q W H C D k) (o:Obj):RigI w (w'.alloc o) base b q W H C D k:=by
 obtain⟨v,zs,h1,h2,h3,h4,h5,h6,h7,h8,h9⟩:=h
 exact⟨v,zs,(Below.heap_alloc _ _ _ (block_lt h1)).trans h1,(Below.heap_alloc _ _ _ (block_lt h2)).trans h2,h3,h4,h5,World.ownsRow.alloc h6 _,h7.alloc _,h8,grown_more h9 (row:=none) ⟨rfl,rfl,rfl,by simp,fun k hk _=>Below.heap_alloc _ _ k hk⟩ (fun r hr=>by cases hr)⟩
theorem RigI.drew {w w':World} {base b q:Nat} {W H C D:Int} {k:Nat} (h:RigI w w' base b q W H C D k) (n:Nat):RigI w (w'.drewN n) base b q W H C D k:=by
 obtain⟨v,zs,h1,h2,h3,h4,h5,h6,h7,h8,h9⟩:=h
 exact⟨v,zs,h1,h2,h3,h4,h5,h6,h7.keep rfl ⟨rfl,rfl,rfl,Nat.le_refl _,fun _ _=>rfl⟩,h8,⟨h9.os,h9.tape,h9.output,h9.size,h9.block⟩⟩
theorem RigI.box {w w':World} {base b q:Nat} {W H C D:Int} {k:Nat} (h:RigI w w' base b q W H C D k):w'.cell? ⟨q,0,none⟩=some (.int .i64 W)∧w'.cell? ⟨q,1,none⟩=some (.int .i64 H)∧w'.cell? ⟨q,2,none⟩=some (.int .i64 C)∧w'.cell? ⟨q,3,none⟩=some (.int .i64 D)∧q < w'.heap.size∧(∀ k,w'.frozen? ⟨q,k,none⟩=false):=by
 obtain⟨v,zs,h1,h2,_⟩:=h
 exact⟨(cell_of_block h2 0).trans rfl,(cell_of_block h2 1).trans rfl,(cell_of_block h2 2).trans rfl,(cell_of_block h2 3).trans rfl,block_lt h2,fun k=>by simp [World.frozen?,h2]⟩
theorem RigI.next {w wr w3:World} {base b q:Nat} {W H C D:Int} {k:Nat} {x:Int} {v:Value} {zs:List Int} {g' cap':Nat}
  (h1:wr.heap[w.heap.size]?=some (.cells zeroC 26 (0,0))) (h2:wr.heap[q]?=some (.cells #[.int .i64 W,.int .i64 H,.int .i64 C,.int .i64 D,v] 26 (0,0))) (h3:w.heap.size < q) (h4:zs.length=k) (h5:∀ z∈zs,0≤z∧z < p2 D.toNat) (hv:∀ r,v.ownBlock=some r→q+1≤r) (h7:Cur wr base b) (h8:b < w.heap.size) (h9:w.grownBy wr (some b))
  (hx:0≤x∧x < p2 D.toNat) (hO:w3.ownsRow (q+1) 3 1 (.slice (some ⟨g',0,none⟩) (k+1) cap') (k+1) (zs.map (Value.int .i64) ++ [.int .i64 x])) (hg:(wr.alloc (.cells #[.int .i64 x] 3)).grownBy w3 v.ownBlock):
  RigI w (w3.setCell ⟨q,4,none⟩ (.slice (some ⟨g',0,none⟩) (k+1) cap')) base b q W H C D (k+1):=by
 have hg2:=grown_alloc14 hg
 have l1:=block_lt h1
 have l2:=block_lt h2
 have hb:=h7.base_le
 have hne:∀ i,i < q+1→some i≠v.ownBlock:=fun i hi e=>by have:=hv i e.symm; omega
 have k2:w3.heap[q]?=some (.cells #[.int .i64 W,.int .i64 H,.int .i64 C,.int .i64 D,v] 26 (0,0)):=(hg2.block _ l2 (hne _ (by omega))).trans h2
 have hC3:Cur w3 base b:=h7.keep (hg2.block b h7.lt (hne _ (by omega))) ((Below.refl _ _).grown hg2 (by omega) (fun r hr=>by have:=hv r hr; omega))
 refine⟨.slice (some ⟨g',0,none⟩) (k+1) cap',zs ++ [x],?_,?_,h3,by simp [h4],fun z hz=>?_,?_,?_,h8,?_⟩
 ·rw[heap_setCell_other _ _ _ _ (by show ¬ w.heap.size=q; omega)]
  exact (hg2.block _ l1 (hne _ (by omega))).trans h1
 ·simp[World.setCell,Array.getElem?_modify,k2]
 ·rcases List.mem_append.mp hz with e | e
  ·exact h5 z e
  ·rw[List.mem_singleton.mp e]; exact hx
 ·refine⟨by simpa using hO.1,?_⟩
  rcases hO.2 with ⟨e,_⟩ | ⟨g,c,cur,e,q1,q2,q3⟩
  ·cases e
  ·refine .inr ⟨g,c,cur,e,q1,?_,by simpa using q3⟩
   rw[heap_setCell_other _ _ _ _ (by show ¬ g=q; omega)]
   exact q2
 ·exact hC3.setCell _ _ (by show q≠b; omega) (by show base≤q; omega)
 ·exact grown_set14 (grown_more h9 hg2 (fun r hr=>.inr (by have:=hv r hr; omega))) _ _ (by show w.heap.size≤q; omega)
theorem RigI.depth {w wr:World} {base b q:Nat} {W H C D d:Int} (h:RigI w wr base b q W H C D 0):RigI w (wr.setCell ⟨q,3,none⟩ (.int .i64 d)) base b q W H C d 0:=by
 obtain⟨v,zs,h1,h2,h3,h4,h5,h6,h7,h8,h9⟩:=h
 have hb:=h7.base_le
 obtain rfl:zs=[]:=List.eq_nil_of_length_eq_zero h4
 refine⟨v,[],?_,?_,h3,rfl,(fun z hz=>by cases hz),⟨h6.1,?_⟩,h7.setCell _ _ (by show q≠b; omega) (by show base≤q; omega),h8,grown_set14 h9 _ _ (by show w.heap.size≤q; omega)⟩
 ·rw[heap_setCell_other _ _ _ _ (by show ¬ w.heap.size=q; omega)]
  exact h1
 ·simp[World.setCell,Array.getElem?_modify,h2]
 ·rcases h6.2 with e | ⟨g,c,cur,e,q1,q2,q3⟩
  ·exact .inl e
  ·refine .inr ⟨g,c,cur,e,q1,?_,q3⟩
   rw[heap_setCell_other _ _ _ _ (by show ¬ g=q; omega)]
   exact q2
def RasDrawn (base b:Nat) (w:World) (e:Ending) (w':World):Prop:=∃ (r:Ras) (a:Option Addr) (cap:Nat),e=.returned (rasA r a cap)∧RasOk r∧r.n≤2304∧SL w' w.heap.size a r.n cap r.f∧r.n≤cap∧cap≤maxLen∧Cur w' base b∧w.grownBy w' (some b)
set_option maxRecDepth 100000 in
set_option maxHeartbeats 6400000 in
theorem draw_right (base b most:Nat) (w:World) (hC:Cur w base b) (hm:1≤most∧most≤24):Calls Tryd.prog 32 #[.pointer (some ⟨b,0,none⟩),.int .i64 (most:Int)] w (RasDrawn base b w):=by
 have hbl:=hC.lt
 have hbb:=hC.base_le
 have HC0:Hid (Cur (w.alloc (.cells zeroC 26)) base b):=hC.alloc _
 have HZ0:Hid ((w.alloc (.cells zeroC 26)).heap[w.heap.size]?=some (.cells zeroC 26 (0,0))):=heap_alloc_new w _
 have HB0:Hid (w.grownBy (w.alloc (.cells zeroC 26)) (some b)):=⟨rfl,rfl,rfl,by simp,fun k hk _=>Below.heap_alloc _ _ k hk⟩
 clear hC
 go_enter Tryd.func32,Tryd.ntmps32
 go_wp2_with fail
 generalize w.alloc (.cells zeroC 26)=W0 at HC0 HZ0 HB0 ⊢
 refine (draw_below base b _ _ HC0.out).mono ?_
 rintro e w1 ⟨y1,rfl,i1,hC1,hg1⟩
 have hy1:0≤y1∧y1 < (most:Int):=⟨i1.1,i1.2.1 (by omega)⟩
 have HZ1:Hid (w1.heap[w.heap.size]?=some (.cells zeroC 26 (0,0))):=(hg1.block _ (block_lt HZ0.out) (fun e=>by have:=Option.some.inj e; omega)).trans HZ0.out
 have HB1:=hid_of (grown_more HB0.out hg1 (fun r hr=>.inl (Option.some.inj hr).symm))
 have HC1:=hid_of hC1
 clear hC1 hg1 i1 HC0 HZ0 HB0
 go_wp2_with fail
 refine (draw_below base b _ _ HC1.out).mono ?_
 rintro e w2 ⟨y2,rfl,i2,hC2,hg2⟩
 have hy2:0≤y2∧y2 < (most:Int):=⟨i2.1,i2.2.1 (by omega)⟩
 have HZ2:Hid (w2.heap[w.heap.size]?=some (.cells zeroC 26 (0,0))):=(hg2.block _ (block_lt HZ1.out) (fun e=>by have:=Option.some.inj e; omega)).trans HZ1.out
 have HB2:=hid_of (grown_more HB1.out hg2 (fun r hr=>.inl (Option.some.inj hr).symm))
 have HC2:=hid_of hC2
 clear hC2 hg2 i2 HC1 HZ1 HB1
 go_wp2_with fail
 refine (draw_color base b _ HC2.out).mono ?_
 rintro e w3 ⟨cl,rfl,hcl,hC3,hg3⟩
 have HZ3:Hid (w3.heap[w.heap.size]?=some (.cells zeroC 26 (0,0))):=(hg3.block _ (block_lt HZ2.out) (fun e=>by have:=Option.some.inj e; omega)).trans HZ2.out
 have HB3:=hid_of (grown_more HB2.out hg3 (fun r hr=>.inl (Option.some.inj hr).symm))
 have HC3:=hid_of hC3
 clear hC3 hg3 HC2 HZ2 HB2
 obtain⟨W,hW⟩:∃ W:Nat,(W:Int)=1+y1:=⟨(1+y1).toNat,by omega⟩
 obtain⟨H,hH⟩:∃ H:Nat,(H:Int)=1+y2:=⟨(1+y2).toNat,by omega⟩
 have hWb:1≤W∧W≤24:=by omega
 have hHb:1≤H∧H≤24:=by omega
 have eW:=hW.symm
 have eH:=hH.symm
 clear hW hH
 have HI0:Hid (RigI w (w3.alloc (.cells #[.int .i64 (W:Int),.int .i64 (H:Int),.int .i64 cl,.int .i64 0,.slice none 0 0] 26)) base b w3.heap.size (W:Int) (H:Int) cl 0 0):=by
  have l:=block_lt HZ3.out
  exact⟨.slice none 0 0,[],(Below.heap_alloc _ _ _ l).trans HZ3.out,heap_alloc_new w3 _,l,rfl,(fun z hz=>by cases hz),⟨rfl,.inl ⟨rfl,rfl⟩⟩,HC3.out.alloc _,hbl,grown_more HB3.out (row:=none) ⟨rfl,rfl,rfl,by simp,fun k hk _=>Below.heap_alloc _ _ k hk⟩ (fun r hr=>by cases hr)⟩
 clear hy1 hy2 HC3 HZ3 HB3
 go_wp2_with fail
 generalize w3.alloc (.cells #[.int .i64 (W:Int),.int .i64 (H:Int),.int .i64 cl,.int .i64 0,.slice none 0 0] 26)=W4 at HI0 ⊢
 generalize w3.heap.size=q at HI0 ⊢
 refine (draw_depthOf base b cl W4 (by obtain⟨_,_,_,_,_,_,_,_,h,_⟩:=HI0.out; exact h) hcl).mono ?_
 rintro e w5 ⟨d0,rfl,hd,hC5,hg5⟩
 have h5r:=five_range (depth_five hd)
 obtain⟨d,rfl⟩:=Int.eq_ofNat_of_zero_le (show 0≤d0 by omega)
 have HI5:=hid_of (HI0.out.drawn hg5 hC5)
 have HI6:Hid (RigI w (w5.setCell ⟨q,3,none⟩ (.int .i64 (d:Int))) base b q (W:Int) (H:Int) cl (d:Int) 0):=HI5.out.depth
 obtain⟨_,_,_,z3,ql,qf⟩:=HI5.out.box
 clear hC5 hg5 HI5 HI0
 have c1:=chan_pos hd
 have c2:=chan_range cl
 obtain⟨N,hN⟩:∃ N:Nat,chan cl=(N:Int):=⟨(chan cl).toNat,by omega⟩
 have hN4:N≤4:=by omega
 have hch:=fun V=>specChannels cl V
 rw[hN] at hch
 have HCH:=hid_of hN
 have HD:=hid_of hd
 have hpw:=fun V=>pow_any d V (by omega)
 obtain⟨WH,hWH⟩:∃ WH,WH=W * H:=⟨_,rfl⟩
 obtain⟨T,hT⟩:∃ T,T=W * H * N:=⟨_,rfl⟩
 have f1:(W:Int) * (H:Int)=(WH:Int):=by rw [hWH]; simp
 have f2:(WH:Int) * (N:Int)=(T:Int):=by rw [hT,hWH]; simp
 have hWHb:WH≤576:=by rw [hWH]; exact Nat.mul_le_mul hWb.2 hHb.2
 have hTb:T≤2304:=by rw [hT,← hWH]; exact Nat.mul_le_mul hWHb hN4
 have HT:=hid_of hT
 obtain⟨P,hP⟩:∃ P,P=p2 d:=⟨_,rfl⟩
 have hP1:1≤P∧P≤65536:=by
  have q1:=p2_pos d
  have q2:=p2_le (show d≤16 by omega)
  rw[show p2 16=65536 by decide +kernel] at q2
  rw[hP]
  exact⟨q1,q2⟩
 rw[← hP] at hpw
 have HPP:Hid (p2 d=P):=hP.symm
 clear hd hN hWH hT hP c1 c2
 go_wp2_with fail
 generalize w5.setCell ⟨q,3,none⟩ (.int .i64 (d:Int))=W6 at HI6 ⊢
 clear z3 ql qf
 refine (draw_below base b _ _ (by obtain⟨_,_,_,_,_,_,_,_,h,_⟩:=HI6.out; exact h)).mono ?_
 rintro e w7 ⟨fw,rfl,ifw,hC7,hg7⟩
 have hfw:0≤fw∧fw < 5:=⟨ifw.1,ifw.2.1 (by omega)⟩
 have HI7:=hid_of (HI6.out.drawn hg7 hC7)
 clear hC7 hg7 ifw HI6
 go_wp2_with fail
 go_loopg [7] (T+1) (fun gk i w'=>∃ k:Nat,k≤T∧T - k≤gk∧i=.int .i64 (k:Int)∧Hid (RigI w w' base b q (W:Int) (H:Int) cl (d:Int) k))
 case atStart=>exact⟨0,Nat.zero_le _,by omega,rfl,HI7⟩
 case round=>
  clear HI7
  obtain⟨k,hk,hgk,rfl,hI⟩:=hrel
  obtain⟨z0,z1,z2,z3,ql,qf⟩:=hI.out.box
  by_cases hlt:k < T
  ·have dl:decide ((k:Int) < (T:Int))=true:=decide_eq_true (by omega)
   go_wp2_with fail
   go_quiet ((go_at_call 58; exact Calls.quiet_of_same (hch _)))
   have HQ:=hid_of (hI.out.drew nq)
   have y3:(wr.drewN nq).cell? ⟨q,3,none⟩=some (.int .i64 (d:Int)):=z3
   have yl:q < (wr.drewN nq).heap.size:=ql
   go_wp2_with fail
   generalize wr.drewN nq=wq at HQ y3 yl ⊢
   clear z0 z1 z2 z3 ql qf hI
   refine (hpw _).mono ?_
   rintro e w1 ⟨rfl,rfl⟩
   go_wp2_with fail
   refine (draw_below base b _ _ (by obtain⟨_,_,_,_,_,_,_,_,h,_⟩:=HQ.out; exact h)).mono ?_
   rintro e w2 ⟨x,rfl,ix,hCx,hgx⟩
   have hx:0≤x∧x < P:=⟨ix.1,ix.2.1 (by omega)⟩
   have HR2:=hid_of (HQ.out.drawn hgx hCx)
   clear hCx hgx ix HQ y3 yl
   by_cases hf:1+fw < 4
   ·have df:decide ((1:Int)+fw < 4)=true:=decide_eq_true hf
    obtain⟨_,_,_,z3,ql,_⟩:=HR2.out.box
    clear hx
    go_wp2_with fail
    go_cut [8] from 48 to 58 (fun v wx=>∃ x,v=.int .i64 x∧(0≤x∧x < P)∧Hid (RigI w wx base b q (W:Int) (H:Int) cl (d:Int) k))
    case first=>
      have t3:P.tdiv 3=P / 3:=Int.tdiv_eq_ediv_of_nonneg (by omega)
      have v1:IntKind.i64.wrap (P - 1)=P - 1:=by rw [IntKind.wrap_i64]; omega
      have v2:IntKind.i64.wrap (P / 3)=P / 3:=by rw [IntKind.wrap_i64]; omega
      refine wp_region_held (S:=fun u=>u.cell? ⟨q,3,none⟩=some (.int .i64 (d:Int))∧q < u.heap.size) (by kernel_rfl) ?_
      show wpAnyH _ _ _ _ _ _ _ _ w2.drew
      have HS:w2.drew.cell? ⟨q,3,none⟩=some (.int .i64 (d:Int))∧q < w2.drew.heap.size:=⟨z3,ql⟩
      have HRD:Hid (RigI w w2.drew base b q (W:Int) (H:Int) cl (d:Int) k):=HR2.out.drew 1
      generalize w2.drew=wd at HS HRD ⊢
      refine wpAnyH_take (i:=0) (v:=.pointer (some ⟨b,0,none⟩)) rfl (by kernel_rfl) (by kernel_rfl) (by kernel_rfl) (fun _ _ _ h=>h) (Or.inl ⟨by rfl,?_⟩) HS ?_
      ·intro w' hS
       obtain⟨s0,s1⟩:=hS
       go_simp
      simp only [Act.put,List.getElem_toArray,List.getElem_cons_zero,List.setIfInBounds_toArray,List.set_cons_zero,List.set_cons_succ]
      refine wpAnyH_take (i:=1) (v:=.pointer (some ⟨q,3,none⟩)) rfl (by kernel_rfl) (by kernel_rfl) (by kernel_rfl) (fun _ _ _ h=>h) (Or.inl ⟨by rfl,?_⟩) HS ?_
      ·intro w' hS
       obtain⟨s0,s1⟩:=hS
       go_simp
      simp only [Act.put,List.getElem_toArray,List.getElem_cons_zero,List.getElem_cons_succ,List.setIfInBounds_toArray,List.set_cons_zero,List.set_cons_succ]
      refine wpAnyH_take (i:=2) (v:=.int .i64 (d:Int)) rfl (by kernel_rfl) (by kernel_rfl) (by kernel_rfl) (fun _ _ _ h=>h) (Or.inl ⟨by rfl,?_⟩) HS ?_
      ·intro w' hS
       obtain⟨s0,s1⟩:=hS
       go_simp
      simp only [Act.put,List.getElem_toArray,List.getElem_cons_zero,List.getElem_cons_succ,List.setIfInBounds_toArray,List.set_cons_zero,List.set_cons_succ]
      refine wpAnyH_take (i:=5) (v:=.pointer (some ⟨q,3,none⟩)) rfl (by kernel_rfl) (by kernel_rfl) (by kernel_rfl) (fun _ _ _ h=>h) (Or.inl ⟨by rfl,?_⟩) HS ?_
      ·intro w' hS
       obtain⟨s0,s1⟩:=hS
       go_simp
      simp only [Act.put,List.getElem_toArray,List.getElem_cons_zero,List.getElem_cons_succ,List.setIfInBounds_toArray,List.set_cons_zero,List.set_cons_succ]
      refine wpAnyH_take (i:=6) (v:=.int .i64 (d:Int)) rfl (by kernel_rfl) (by kernel_rfl) (by kernel_rfl) (fun _ _ _ h=>h) (Or.inl ⟨by rfl,?_⟩) HS ?_
      ·intro w' hS
       obtain⟨s0,s1⟩:=hS
       go_simp
      simp only [Act.put,List.getElem_toArray,List.getElem_cons_zero,List.getElem_cons_succ,List.setIfInBounds_toArray,List.set_cons_zero,List.set_cons_succ]
      refine wpAnyH_ready (rs:=[3]) (by kernel_rfl) (by simp) ?_
      refine AllReadyH.cons rfl (fun K hK=>?_) AllReadyH.nil
      refine if_wanted (wanted_none rfl) ?_
      simp only [List.getElem_toArray,List.getElem_cons_zero,List.getElem_cons_succ]
      go_simp
      refine (hpw _).mono ?_
      rintro e w1 ⟨rfl,hw1⟩
      rw[hw1]
      clear hw1 w1
      refine hK.out _ _ HS (fun _=>?_)
      clear hK K
      refine wpAnyH_take (i:=4) (v:=.int .i64 (P - 1)) rfl (by kernel_rfl) (by kernel_rfl) (by kernel_rfl) (fun _ _ _ h=>h) (Or.inl ⟨by rfl,?_⟩) HS ?_
      ·intro w' hS
       obtain⟨s0,s1⟩:=hS
       go_simp
      simp only [Act.put,List.getElem_toArray,List.getElem_cons_zero,List.getElem_cons_succ,List.setIfInBounds_toArray,List.set_cons_zero,List.set_cons_succ]
      refine wpAnyH_ready (rs:=[7]) (by kernel_rfl) (by simp) ?_
      refine AllReadyH.cons rfl (fun K hK=>?_) AllReadyH.nil
      refine if_wanted (wanted_none rfl) ?_
      simp only [List.getElem_toArray,List.getElem_cons_zero,List.getElem_cons_succ]
      go_simp
      refine (hpw _).mono ?_
      rintro e w1 ⟨rfl,hw1⟩
      rw[hw1]
      clear hw1 w1
      refine hK.out _ _ HS (fun _=>?_)
      clear hK K
      refine wpAnyH_take (i:=8) (v:=.int .i64 (P / 3)) rfl (by kernel_rfl) (by kernel_rfl) (by kernel_rfl) (fun _ _ _ h=>h) (Or.inl ⟨by rfl,?_⟩) HS ?_
      ·intro w' hS
       obtain⟨s0,s1⟩:=hS
       go_simp
      simp only [Act.put,List.getElem_toArray,List.getElem_cons_zero,List.getElem_cons_succ,List.setIfInBounds_toArray,List.set_cons_zero,List.set_cons_succ]
      refine wpAnyH_ready (rs:=[9]) (by kernel_rfl) (by simp) ?_
      refine AllReadyH.cons rfl (fun K hK=>?_) AllReadyH.nil
      refine if_wanted (wanted_none rfl) ?_
      simp only [List.getElem_toArray,List.getElem_cons_zero,List.getElem_cons_succ]
      go_simp
      refine hK.out _ _ ⟨(grow_cell _ HS.2 _).trans HS.1,grow_lt _ HS.2⟩ (fun HS9=>?_)
      clear hK K
      refine wpAnyH_ready (rs:=[10]) (by kernel_rfl) (by simp) ?_
      refine AllReadyH.cons rfl (fun K hK=>?_) AllReadyH.nil
      refine if_wanted (wanted_none rfl) ?_
      simp only [List.getElem_toArray,List.getElem_cons_zero,List.getElem_cons_succ]
      go_simp
      refine (draw_pickInt base b wd.heap.size 4 4 (fun x=>0≤x∧x < P) _ (by obtain⟨_,_,_,_,_,_,_,_,h,_⟩:=(HRD.out.alloc (.cells #[.int .i64 0,.int .i64 (P - 1),.int .i64 (P / 3),.int .i64 0] 3)); exact h) (by omega) (by obtain⟨_,_,_,_,_,_,_,_,h,_⟩:=HRD.out; have:=h.lt; omega) (by simp) (fun j hj=>?_)).mono ?_
      ·match j,hj with
       | 0,_=>exact⟨0,by simp,by omega,by omega⟩
       | 1,_=>exact⟨P - 1,by simp,by omega,by omega⟩
       | 2,_=>exact⟨P / 3,by simp,by omega,by omega⟩
       | 3,_=>exact⟨0,by simp,by omega,by omega⟩
      rintro e w9 ⟨x,rfl,hx,hC9,hg9⟩
      have HR9:=hid_of ((HRD.out.alloc _).drawn hg9 hC9)
      obtain⟨_,_,_,u3,ul,_⟩:=HR9.out.box
      clear hC9 hg9
      refine hK.out _ _ ⟨u3,ul⟩ (fun HS9=>?_)
      clear hK K
      refine wpAnyH_take (i:=11) (v:=.int .i64 x) rfl (by kernel_rfl) (by kernel_rfl) (by kernel_rfl) (fun _ _ _ h=>h) (Or.inl ⟨by rfl,?_⟩) HS9 ?_
      ·intro w' hS
       obtain⟨s0,s1⟩:=hS
       go_simp
      simp only [Act.put,List.getElem_toArray,List.getElem_cons_zero,List.getElem_cons_succ,List.setIfInBounds_toArray,List.set_cons_zero,List.set_cons_succ]
      refine wpAnyH_done (by kernel_rfl) ?_ _
      go_wp2_with fail
      go_meet
      case rel=>exact⟨x,rfl,hx,HR9⟩
    case rest=>
     obtain⟨x,rfl,hx,HR⟩:=hcut
     clear HR2 z3 ql
     generalize wc=wr at HR ⊢
     obtain⟨v,zs,r1,r2,r3,r4,r5,r6,r7,r8,r9⟩:=HR.out
     have hvq:=own_block14 r6
     have HO:Hid ((wr.alloc (.cells #[.int .i64 x] 3)).ownsRow (q+1) 3 1 v k (zs.map (Value.int .i64))):=World.ownsRow.alloc r6 _
     have m4:wr.cell? ⟨q,4,none⟩=some v:=(cell_of_block r2 4).trans rfl
     have mf:wr.frozen? ⟨q,4,none⟩=false:=by simp [World.frozen?,r2]
     have ml:q < wr.heap.size:=block_lt r2
     have HNX:Hid (∀ w3 g' cap',w3.ownsRow (q+1) 3 1 (.slice (some ⟨g',0,none⟩) (k+1) cap') (k+1) (zs.map (Value.int .i64) ++ [.int .i64 x])→(wr.alloc (.cells #[.int .i64 x] 3)).grownBy w3 v.ownBlock→RigI w (w3.setCell ⟨q,4,none⟩ (.slice (some ⟨g',0,none⟩) (k+1) cap')) base b q (W:Int) (H:Int) cl (d:Int) (k+1)):=fun w3 g' cap' o1 o2=>RigI.next r1 r2 r3 r4 r5 hvq r7 r8 r9 (by rw [Int.toNat_natCast,HPP.out]; exact hx) o1 o2
     clear r1 r2 r3 r4 r5 r6 r7 r8 r9 HR
     obtain⟨i0,hi0,hz0,hz1,hz2⟩:=info_parts info_num14
     go_wp2_with (at_builtin; refine wpList_append_lies _ rfl (.tmp 60) (.tmp 62) 24 rfl (q+1) 3 i0 _ 1 8 Tryd.underlying24 hi0 hz0 hz1 hz2 rfl (by omega) v k (zs.map (Value.int .i64)) (by rfl) (by exact HO.out) ⟨wr.heap.size,0,none⟩ 1 1 [.int .i64 x] (by rfl) rfl (by exact World.news_of_block (heap_alloc_new wr _)) (by simp [Value.oneCell']) (by omega) (by unfold maxLen; omega) (by omega) (by simp; omega) _ rfl ?_)
     intro g' cap' w3 y1 y2 y3 y4
     have HN:=hid_of (HNX.out w3 g' cap' y1 y2)
     have hb5:w3.heap[q]?=(wr.alloc (.cells #[.int .i64 x] 3)).heap[q]?:=y2.block _ (by simp; omega) (fun e=>by have:=hvq _ e.symm; omega)
     have n4:w3.cell? ⟨q,4,none⟩=some v:=(World.cell?_of_block (a:=⟨q,4,none⟩) hb5).trans ((grow_cell _ ml _).trans m4)
     have nf:w3.frozen? ⟨q,4,none⟩=false:=(World.frozen?_of_block (a:=⟨q,4,none⟩) hb5).trans ((World.frozen?_of_block (a:=⟨q,4,none⟩) (Below.heap_alloc wr _ q ml)).trans mf)
     have nl:q < w3.heap.size:=Nat.lt_of_lt_of_le ml (Nat.le_trans (by simp) y2.size)
     clear y1 y2 y3 y4 HNX HO hb5
     go_wp2_with fail
     go_roundg (T - (k+1))
     case measure=>omega
     case rel=>exact⟨k+1,by omega,Nat.le_refl _,by go_num,HN⟩
   ·have df:decide ((1:Int)+fw < 4)=false:=decide_eq_false hf
    have HR:=HR2
    clear HR2
    generalize w2=wr at HR ⊢
    obtain⟨v,zs,r1,r2,r3,r4,r5,r6,r7,r8,r9⟩:=HR.out
    have hvq:=own_block14 r6
    have HO:Hid ((wr.alloc (.cells #[.int .i64 x] 3)).ownsRow (q+1) 3 1 v k (zs.map (Value.int .i64))):=World.ownsRow.alloc r6 _
    have m4:wr.cell? ⟨q,4,none⟩=some v:=(cell_of_block r2 4).trans rfl
    have mf:wr.frozen? ⟨q,4,none⟩=false:=by simp [World.frozen?,r2]
    have ml:q < wr.heap.size:=block_lt r2
    have HNX:Hid (∀ w3 g' cap',w3.ownsRow (q+1) 3 1 (.slice (some ⟨g',0,none⟩) (k+1) cap') (k+1) (zs.map (Value.int .i64) ++ [.int .i64 x])→(wr.alloc (.cells #[.int .i64 x] 3)).grownBy w3 v.ownBlock→RigI w (w3.setCell ⟨q,4,none⟩ (.slice (some ⟨g',0,none⟩) (k+1) cap')) base b q (W:Int) (H:Int) cl (d:Int) (k+1)):=fun w3 g' cap' o1 o2=>RigI.next r1 r2 r3 r4 r5 hvq r7 r8 r9 (by rw [Int.toNat_natCast,HPP.out]; exact hx) o1 o2
    clear r1 r2 r3 r4 r5 r6 r7 r8 r9 HR
    obtain⟨i0,hi0,hz0,hz1,hz2⟩:=info_parts info_num14
    go_wp2_with (at_builtin; refine wpList_append_lies _ rfl (.tmp 60) (.tmp 62) 24 rfl (q+1) 3 i0 _ 1 8 Tryd.underlying24 hi0 hz0 hz1 hz2 rfl (by omega) v k (zs.map (Value.int .i64)) (by rfl) (by exact HO.out) ⟨wr.heap.size,0,none⟩ 1 1 [.int .i64 x] (by rfl) rfl (by exact World.news_of_block (heap_alloc_new wr _)) (by simp [Value.oneCell']) (by omega) (by unfold maxLen; omega) (by omega) (by simp; omega) _ rfl ?_)
    intro g' cap' w3 y1 y2 y3 y4
    have HN:=hid_of (HNX.out w3 g' cap' y1 y2)
    have hb5:w3.heap[q]?=(wr.alloc (.cells #[.int .i64 x] 3)).heap[q]?:=y2.block _ (by simp; omega) (fun e=>by have:=hvq _ e.symm; omega)
    have n4:w3.cell? ⟨q,4,none⟩=some v:=(World.cell?_of_block (a:=⟨q,4,none⟩) hb5).trans ((grow_cell _ ml _).trans m4)
    have nf:w3.frozen? ⟨q,4,none⟩=false:=(World.frozen?_of_block (a:=⟨q,4,none⟩) hb5).trans ((World.frozen?_of_block (a:=⟨q,4,none⟩) (Below.heap_alloc wr _ q ml)).trans mf)
    have nl:q < w3.heap.size:=Nat.lt_of_lt_of_le ml (Nat.le_trans (by simp) y2.size)
    clear y1 y2 y3 y4 HNX HO hb5
    go_wp2_with fail
    go_roundg (T - (k+1))
    case measure=>omega
    case rel=>exact⟨k+1,by omega,Nat.le_refl _,by go_num,HN⟩
  ·obtain rfl:k=T:=by omega
   have dl:decide ((k:Int) < (k:Int))=false:=decide_eq_false (by omega)
   go_wp2_with fail
   go_quiet ((go_at_call 58; exact Calls.quiet_of_same (hch _)))
   have HQ:=hid_of (hI.out.drew nq)
   clear z0 z1 z2 z3 ql qf hI
   generalize wr.drewN nq=wq at HQ ⊢
   obtain⟨v,zs,r1,r2,r3,r4,r5,r6,r7,r8,r9⟩:=HQ.out
   have y0:wq.cell? ⟨q,0,none⟩=some (.int .i64 (W:Int)):=(cell_of_block r2 0).trans rfl
   have y1:wq.cell? ⟨q,1,none⟩=some (.int .i64 (H:Int)):=(cell_of_block r2 1).trans rfl
   have y2:wq.cell? ⟨q,2,none⟩=some (.int .i64 cl):=(cell_of_block r2 2).trans rfl
   have y3:wq.cell? ⟨q,3,none⟩=some (.int .i64 (d:Int)):=(cell_of_block r2 3).trans rfl
   have y4:wq.cell? ⟨q,4,none⟩=some v:=(cell_of_block r2 4).trans rfl
   have yl:q < wq.heap.size:=block_lt r2
   have o0:wq.cell? ⟨w.heap.size,0,none⟩=some (.int .i64 0):=(cell_of_block r1 0).trans rfl
   have o1:wq.cell? ⟨w.heap.size,1,none⟩=some (.int .i64 0):=(cell_of_block r1 1).trans rfl
   have o2:wq.cell? ⟨w.heap.size,2,none⟩=some (.int .i64 0):=(cell_of_block r1 2).trans rfl
   have o3:wq.cell? ⟨w.heap.size,3,none⟩=some (.int .i64 0):=(cell_of_block r1 3).trans rfl
   have o4:wq.cell? ⟨w.heap.size,4,none⟩=some (.slice none 0 0):=(cell_of_block r1 4).trans rfl
   have ofz:∀ i,wq.frozen? ⟨w.heap.size,i,none⟩=false:=fun i=>by simp [World.frozen?,r1]
   have ol:w.heap.size < wq.heap.size:=block_lt r1
   obtain⟨av,cv,rfl,hcap,hcm,HSL⟩:∃ av cv,v=.slice av k cv∧k≤cv∧cv≤maxLen∧Hid (SL wq (q+1) av k cv (fun i=>zs.getD i 0)):=by
    rcases r6.2 with ⟨rfl,rfl⟩ | ⟨g,c,cur,rfl,s1,s2,s3,s4,s5,s6⟩
    ·exact⟨none,0,rfl,Nat.le_refl _,Nat.zero_le _,.inl rfl⟩
    ·refine⟨some ⟨g,0,none⟩,c,rfl,s3,s4,.inr ⟨g,rfl,?_⟩⟩
     have e:zs.map (Value.int .i64)=fints (fun i=>zs.getD i 0) k:=by
      refine List.ext_getElem (by rw [List.length_map,fints_length]; exact r4) fun i h1 h2=>?_
      rw[List.getElem_map,fints_get]
      rw[List.length_map] at h1
      rw[List.getD_eq_getElem?_getD,List.getElem?_eq_getElem h1]
      rfl
     rw[Nat.mul_one] at s6
     rw[e] at s6
     exact⟨c,cur,(0,0),by rw [fints_length],s1,s2,.inl rfl,by rw [fints_length]; exact s3,s4,by rw [s5,Nat.mul_one],by rw [fints_length]; exact s6⟩
   have HOK:Hid (RasOk ⟨(W:Int),(H:Int),cl,(d:Int),k,fun i=>zs.getD i 0⟩):=by
    refine⟨⟨by show (1:Int)≤(W:Int); omega,by show (W:Int)≤24; omega⟩,⟨by show (1:Int)≤(H:Int); omega,by show (H:Int)≤24; omega⟩,HD.out,?_,fun i hi=>?_⟩
    ·show ((k:Nat):Int)=(W:Int) * (H:Int) * chan cl
     rw[HCH.out,f1,f2]
    ·have hi':i < zs.length:=by rw [r4]; exact hi
     show 0≤zs.getD i 0∧zs.getD i 0 < p2 (d:Int).toNat
     rw[List.getD_eq_getElem?_getD,List.getElem?_eq_getElem hi']
     exact r5 _ (List.getElem_mem hi')
   have HCU:=hid_of r7
   have HBQ:=hid_of r9
   clear r1 r2 r4 r5 r6 r7 r9 HQ
   go_wp2_with fail
   refine bodyPost_ret (v:=.agg #[.int .i64 (W:Int),.int .i64 (H:Int),.int .i64 cl,.int .i64 (d:Int),.slice av k cv]) ?_ rfl ⟨⟨(W:Int),(H:Int),cl,(d:Int),k,fun i=>zs.getD i 0⟩,av,cv,rfl,HOK.out,hTb,?_,hcap,hcm,?_,?_⟩
   ·simp[results,Tryd.results32,go_sem, *]
   ·rcases HSL.out with e | ⟨g,e,h⟩
    ·exact .inl e
    ·have hgb:=h.base_le
     refine .inr ⟨g,e,(h.mono (by omega)).keep ?_⟩
     iterate 5 rw [heap_setCell_other _ _ _ _ (by show ¬ g=w.heap.size; omega)]
   ·iterate 5 refine Cur.setCell ?_ _ _ (by show w.heap.size≠b; omega) (by show base≤w.heap.size; omega)
    exact HCU.out
   ·iterate 5 refine grown_set14 ?_ _ _ (by exact Nat.le_refl _)
    exact HBQ.out
theorem draw_raster (a:Option Addr) (len cap base:Nat) (w:World) (hK:CodeAt w base a len) (hlen:len≤1048576) (hbase:base≤w.heap.size):
  Calls Tryd.prog 10 #[.slice a len cap] w fun e w'=>∃ (r:Ras) (a':Option Addr) (cap':Nat),e=.returned (rasA r a' cap')∧RasOk r∧r.n≤2304∧SL w' w.heap.size a' r.n cap' r.f∧r.n≤cap'∧cap'≤maxLen∧Below base w w':=by
 have HK0:Hid (CodeAt (w.alloc (.cells zeroC 26)) base a len):=hK.below ((Below.refl _ _).alloc hbase _)
 have HB0:Hid (Below base w (w.alloc (.cells zeroC 26))):=(Below.refl _ _).alloc hbase _
 have HZ0:Hid ((w.alloc (.cells zeroC 26)).heap[w.heap.size]?=some (.cells zeroC 26 (0,0))):=heap_alloc_new w _
 clear hK
 go_enter Tryd.func10,Tryd.ntmps10
 go_wp2_with fail
 generalize w.alloc (.cells zeroC 26)=W0 at HK0 HB0 HZ0 ⊢
 refine (draw_new a len cap base W0 HK0.out hlen (Nat.le_trans hbase HB0.out.size)).mono ?_
 rintro e w1 ⟨rfl,hC1,o,rfl⟩
 have HC1:=hid_of hC1
 have HB1:Hid (Below base w (W0.alloc o)):=HB0.out.alloc (Nat.le_trans hbase HB0.out.size) _
 have HZ1:Hid ((W0.alloc o).heap[w.heap.size]?=some (.cells zeroC 26 (0,0))):=(Below.heap_alloc _ _ _ (block_lt HZ0.out)).trans HZ0.out
 have hbz:w.heap.size < W0.heap.size:=block_lt HZ0.out
 generalize W0.alloc o=w2 at HC1 HB1 HZ1 ⊢
 generalize W0.heap.size=b at HC1 hbz ⊢
 clear hC1 HK0 HB0 HZ0
 go_wp2_with fail
 refine (draw_most a len cap w2 hlen).mono ?_
 rintro e w3 ⟨most,rfl,hm1,hm2,rfl⟩
 go_wp2_with fail
 refine (draw_right base b most w3 HC1.out (by omega)).mono ?_
 rintro e w4 ⟨r,a',cap',rfl,hok,hn,hS,hc1,hc2,_,hB4⟩
 have HZ4:Hid (w4.heap[w.heap.size]?=some (.cells zeroC 26 (0,0))):=(hB4.block _ (block_lt HZ1.out) (fun e=>by have:=Option.some.inj e; omega)).trans HZ1.out
 have HB4:Hid (Below base w w4):=HB1.out.trans (below_of_grown hB4 HC1.out.base_le HC1.out.lt)
 have HS4:Hid (SL w4 (w.heap.size+1) a' r.n cap' r.f):=by
  rcases hS with e | ⟨g,e,h⟩
  ·exact .inl e
  ·exact .inr ⟨g,e,h.mono (by have:=block_lt HZ1.out; omega)⟩
 have HOK:=hid_of hok
 have o0:w4.cell? ⟨w.heap.size,0,none⟩=some (.int .i64 0):=(cell_of_block HZ4.out 0).trans rfl
 have o1:w4.cell? ⟨w.heap.size,1,none⟩=some (.int .i64 0):=(cell_of_block HZ4.out 1).trans rfl
 have o2:w4.cell? ⟨w.heap.size,2,none⟩=some (.int .i64 0):=(cell_of_block HZ4.out 2).trans rfl
 have o3:w4.cell? ⟨w.heap.size,3,none⟩=some (.int .i64 0):=(cell_of_block HZ4.out 3).trans rfl
 have o4:w4.cell? ⟨w.heap.size,4,none⟩=some (.slice none 0 0):=(cell_of_block HZ4.out 4).trans rfl
 have ofz:∀ i,w4.frozen? ⟨w.heap.size,i,none⟩=false:=fun i=>by simp [World.frozen?,HZ4.out]
 have ol:w.heap.size < w4.heap.size:=block_lt HZ4.out
 obtain⟨x0,x1,x2,x3,n,f⟩:=r
 clear hok hS hB4 HZ4 HB1 HC1 HZ1
 go_wp2_with fail
 refine bodyPost_ret (v:=.agg #[.int .i64 x0,.int .i64 x1,.int .i64 x2,.int .i64 x3,.slice a' n cap']) ?_ rfl ⟨⟨x0,x1,x2,x3,n,f⟩,a',cap',rfl,HOK.out,hn,?_,hc1,hc2,?_⟩
 ·simp[results,Tryd.results10,go_sem, *]
 ·rcases HS4.out with e | ⟨g,e,h⟩
  ·exact .inl e
  ·have hgb:=h.base_le
   refine .inr ⟨g,e,(h.mono (by omega)).keep ?_⟩
   iterate 5 rw [heap_setCell_other _ _ _ _ (by show ¬ g=w.heap.size; omega)]
 ·iterate 5 refine Below.setCell ?_ (by exact hbase) _
  exact HB4.out
end Go.Proofs.YtcbbcadfolgioaaDoor
