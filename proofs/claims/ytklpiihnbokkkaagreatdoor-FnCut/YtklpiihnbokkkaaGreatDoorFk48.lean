/-
  Texts of the proof, put together.
-/
import Derived.Test.YtklpiihnbokkkaaGreatDoorFk47
import Derived.Test.YtklpiihnbokkkaaGreatDoorFk46
namespace Go.Proofs.YtklpiihnbokkkaaGreatDoor
open Go.RowKit Go.Joins TokMath SearchMath CheapMath
def CS (w wr:World) (N:Nat) (C:Nat→Int) (F:Nat→Tok):Prop:=
 IOwn wr w.heap.size w.heap.size (N+1) (N+1) C∧TOwn wr w.heap.size (w.heap.size+2) N F∧wr.heap[w.heap.size+1]?=some (.cells #[.slice (some ⟨w.heap.size,0,none⟩) (N+1) (N+1)] 25 (0,0))∧wr.heap[w.heap.size+3]?=some (.cells #[.slice (some ⟨w.heap.size+2,0,none⟩) N N] 72 (0,0))∧Below w.heap.size w wr
section
variable {w wr w':World} {N:Nat} {C:Nat→Int} {F:Nat→Tok}
theorem CS.keep (h:CS w wr N C F) (hk:∀ k,k < w.heap.size+4→w'.heap[k]?=wr.heap[k]?) (hB:Below w.heap.size w w'):CS w w' N C F:=
 ⟨h.1.keep (hk _ (by omega)),h.2.1.keep (hk _ (by omega)),(hk _ (by omega)).trans h.2.2.1,(hk _ (by omega)).trans h.2.2.2.1,hB⟩
theorem CS.size (h:CS w wr N C F):w.heap.size+4≤wr.heap.size:=block_lt h.2.2.2.1
theorem CS.called (h:CS w wr N C F) (hb:Below wr.heap.size wr w'):CS w w' N C F:=
 h.keep (fun k hk=>hb.block k (Nat.lt_of_lt_of_le hk h.size)) (h.2.2.2.2.trans (hb.mono h.2.2.2.2.size))
theorem CS.same (h:CS w wr N C F) (e:w'.heap=wr.heap) (hB:Below w.heap.size w w'):CS w w' N C F:=h.keep (fun k _=>by rw [e]) hB
theorem CS.setC (h:CS w wr N C F) (j:Nat) (hj:j < N+1) (x:Int):CS w (wr.setCell ⟨w.heap.size,j,none⟩ (.int .i64 x)) N (upd C j x) F:=by
 have hk:∀ k,k≠w.heap.size→(wr.setCell ⟨w.heap.size,j,none⟩ (.int .i64 x)).heap[k]?=wr.heap[k]?:=fun k hk=>Below.heap_setCell _ _ _ _ hk
 exact⟨h.1.set j hj x,h.2.1.keep (hk _ (by omega)),(hk _ (by omega)).trans h.2.2.1,(hk _ (by omega)).trans h.2.2.2.1,h.2.2.2.2.setCell (p:=⟨w.heap.size,j,none⟩) (Nat.le_refl _) _⟩
theorem CS.setT (h:CS w wr N C F) (j:Nat) (hj:j < N) (x y z:Int):CS w (((wr.setCell ⟨w.heap.size+2,j * 3,none⟩ (.int .i64 x)).setCell ⟨w.heap.size+2,j * 3+1,none⟩ (.int .i64 y)).setCell ⟨w.heap.size+2,j * 3+2,none⟩ (.int .i64 z)) N C (updT F j (x,y,z)):=by
 have hk:∀ k,k≠w.heap.size+2→(((wr.setCell ⟨w.heap.size+2,j * 3,none⟩ (.int .i64 x)).setCell ⟨w.heap.size+2,j * 3+1,none⟩ (.int .i64 y)).setCell ⟨w.heap.size+2,j * 3+2,none⟩ (.int .i64 z)).heap[k]?=wr.heap[k]?:=fun k hk=>((Below.heap_setCell _ _ _ _ hk).trans (Below.heap_setCell _ _ _ _ hk)).trans (Below.heap_setCell _ _ _ _ hk)
 refine⟨h.1.keep (hk _ (by omega)),h.2.1.set j hj x y z,(hk _ (by omega)).trans h.2.2.1,(hk _ (by omega)).trans h.2.2.2.1,?_⟩
 exact ((h.2.2.2.2.setCell (p:=⟨w.heap.size+2,j * 3,none⟩) (by show w.heap.size≤w.heap.size+2; omega) _).setCell (p:=⟨w.heap.size+2,j * 3+1,none⟩) (by show w.heap.size≤w.heap.size+2; omega) _).setCell (p:=⟨w.heap.size+2,j * 3+2,none⟩) (by show w.heap.size≤w.heap.size+2; omega) _
theorem CS.congr {C':Nat→Int} {F':Nat→Tok} (h:CS w wr N C F) (hC:∀ i,i < N+1→C i=C' i) (hF:∀ i,i < N→F i=F' i):CS w wr N C' F':=⟨h.1.congr hC,h.2.1.congr hF,h.2.2⟩
theorem CS.tok (h:CS w wr N C F) (j:Nat) (hj:j < N):wr.cell? ⟨w.heap.size+2,j * 3,none⟩=some (.int .i64 (F j).1)∧wr.cell? ⟨w.heap.size+2,j * 3+1,none⟩=some (.int .i64 (F j).2.1)∧wr.cell? ⟨w.heap.size+2,j * 3+2,none⟩=some (.int .i64 (F j).2.2):=by
 obtain⟨_,cur,h1,_,h3⟩:=h.2.1
 obtain⟨q0,q1,q2⟩:=h3 j hj
 exact⟨(cell_of_block h1 _).trans q0,(cell_of_block h1 _).trans q1,(cell_of_block h1 _).trans q2⟩
end
theorem taken_any (w0:World) (N:Nat) (C:Nat→Int) (F:Nat→Tok) (t:Nat) (w:World) (h:CS w0 w N C F) (ht:t < N) (_:N≤2600):
  Calls Tryz.prog 137 #[.int .i64 (t:Int),.pointer (some ⟨w0.heap.size+3,0,none⟩)] w fun e w'=>e=.returned (tokV (F t))∧Below w.heap.size w w':=by
 have hz:=h.size
 obtain⟨c0,c1,c2⟩:=h.tok t ht
 have b0:w.cell? ⟨w0.heap.size+3,0,none⟩=some (.slice (some ⟨w0.heap.size+2,0,none⟩) N N):=(cell_of_block h.2.2.2.1 0).trans rfl
 obtain⟨⟨x,y,z⟩,hr⟩:∃ r,r=F t:=⟨_,rfl⟩
 rw[← hr] at c0 c1 c2 ⊢
 have i0:(0:Int)≤(t:Int):=by omega
 have i1:(t:Int) < (N:Int):=by omega
 have a0:∀ o,(w.alloc o).cell? ⟨w0.heap.size+2,t * 3,none⟩=some (.int .i64 x):=fun o=>(grow_cell o (by omega) _).trans c0
 have a1:∀ o,(w.alloc o).cell? ⟨w0.heap.size+2,t * 3+1,none⟩=some (.int .i64 y):=fun o=>(grow_cell o (by omega) _).trans c1
 have a2:∀ o,(w.alloc o).cell? ⟨w0.heap.size+2,t * 3+2,none⟩=some (.int .i64 z):=fun o=>(grow_cell o (by omega) _).trans c2
 have a3:∀ o,(w.alloc o).cell? ⟨w0.heap.size+3,0,none⟩=some (.slice (some ⟨w0.heap.size+2,0,none⟩) N N):=fun o=>(grow_cell o (by omega) _).trans b0
 have HEND:Hid (Below w.heap.size w (w.alloc (.cells #[.int .i64 x,.int .i64 y,.int .i64 z] 105))):=bstart _ _
 clear hr h c0 c1 c2 b0
 go_enter Tryz.func137,Tryz.ntmps137
 go_wp2_with fail
 exact bodyPost_ret (v:=.agg #[.int .i64 x,.int .i64 y,.int .i64 z]) (by simp [results,Tryz.results137,go_sem]) rfl ⟨rfl,HEND.out⟩
def OfferPost (w0:World) (N:Nat) (C:Nat→Int) (F:Nat→Tok) (t:Nat) (T:Tok) (w':World):Prop:=
 (costT T+C (t+sizeT T) < C t∧CS w0 w' N (upd C t (costT T+C (t+sizeT T))) (updT F t T))∨(¬ costT T+C (t+sizeT T) < C t∧CS w0 w' N C F)
def Spared (w0 w w':World):Prop:=∀ k,k < w.heap.size→k≠w0.heap.size→k≠w0.heap.size+2→w'.heap[k]?=w.heap[k]?
theorem three_b {w0 w:World} (h:Below w0.heap.size w0 w) (t:Nat) (p x y q:Int):Below w0.heap.size w0 ((((w.setCell ⟨w0.heap.size,t,none⟩ (.int .i64 p)).setCell ⟨w0.heap.size+2,t * 3,none⟩ (.int .i64 x)).setCell ⟨w0.heap.size+2,t * 3+1,none⟩ (.int .i64 y)).setCell ⟨w0.heap.size+2,t * 3+2,none⟩ (.int .i64 q)):=
 (((h.setCell (p:=⟨w0.heap.size,t,none⟩) (Nat.le_refl _) _).setCell (p:=⟨w0.heap.size+2,t * 3,none⟩) (by show w0.heap.size≤w0.heap.size+2; omega) _).setCell (p:=⟨w0.heap.size+2,t * 3+1,none⟩) (by show w0.heap.size≤w0.heap.size+2; omega) _).setCell (p:=⟨w0.heap.size+2,t * 3+2,none⟩) (by show w0.heap.size≤w0.heap.size+2; omega) _
set_option maxHeartbeats 3200000 in
theorem offer_any (w0:World) (N:Nat) (C:Nat→Int) (F:Nat→Tok) (t:Nat) (x y q:Int) (w:World) (h:CS w0 w N C F) (ht:t < N) (hN:N≤2600) (wy:(Lit.int .i64 y).wf=true) (wq:(Lit.int .i64 q).wf=true) (hy:0≤y) (hin:t+sizeT (x,y,q)≤N) (h1:1≤sizeT (x,y,q)) (hC:0≤C (t+sizeT (x,y,q))∧C (t+sizeT (x,y,q))≤100000):
  Calls Tryz.prog 135 #[.int .i64 (t:Int),.agg #[.int .i64 x,.int .i64 y,.int .i64 q],.pointer (some ⟨w0.heap.size+1,0,none⟩),.pointer (some ⟨w0.heap.size+3,0,none⟩)] w fun e w'=>e=.returned (.tuple #[])∧OfferPost w0 N C F t (x,y,q) w'∧Spared w0 w w':=by
 have hmx:=step_max hy (x,y,q) rfl
 have hpr:=fun w=>price_any x y q w wy wq
 have hss:=fun w=>stepSize_any x y q w
 rw[hmx] at hss
 have hcr:=cost_range (x,y,q)
 have HPO:Hid (∀ w',OfferPost w0 N C F t (x,y,q) w'↔((costT (x,y,q)+C (t+sizeT (x,y,q)) < C t∧CS w0 w' N (upd C t (costT (x,y,q)+C (t+sizeT (x,y,q)))) (updT F t (x,y,q)))∨(¬ costT (x,y,q)+C (t+sizeT (x,y,q)) < C t∧CS w0 w' N C F))):=fun w'=>Iff.rfl
 generalize costT (x,y,q)=P at hpr hcr HPO
 generalize sizeT (x,y,q)=z at hss hin h1 hC HPO
 clear hmx wy wq
 have HH:=hid_of h
 have hz:=h.size
 obtain⟨W1,hW1⟩:∃ W,W=w.alloc (.cells #[.int .i64 x,.int .i64 y,.int .i64 q] 105):=⟨_,rfl⟩
 have hc1:CS w0 W1 N C F:=by rw [hW1]; exact h.called (bstart _ _)
 have hb1:W1.heap[w.heap.size]?=some (.cells #[.int .i64 x,.int .i64 y,.int .i64 q] 105 (0,0)):=by rw [hW1]; exact heap_alloc_new _ _
 have k0:W1.cell? ⟨w.heap.size,0,none⟩=some (.int .i64 x):=(cell_of_block hb1 0).trans rfl
 have k1:W1.cell? ⟨w.heap.size,1,none⟩=some (.int .i64 y):=(cell_of_block hb1 1).trans rfl
 have k2:W1.cell? ⟨w.heap.size,2,none⟩=some (.int .i64 q):=(cell_of_block hb1 2).trans rfl
 have k3:W1.cell? ⟨w0.heap.size+1,0,none⟩=some (.slice (some ⟨w0.heap.size,0,none⟩) (N+1) (N+1)):=(cell_of_block hc1.2.2.1 0).trans rfl
 have k4:=hc1.1.cell (t+z) (by omega)
 have hl1:=block_lt hb1
 have HK1:Hid (∀ k,k < w.heap.size→W1.heap[k]?=w.heap[k]?):=fun k hk=>by
  rw[hW1]
  exact (bstart _ _).block k hk
 have HC1:=hid_of hc1
 have HB1:=hid_of hb1
 have HW1:=hid_of hW1
 generalize hV:C (t+z)=V at k4 hC HPO
 have z1:(0:Int)≤(t:Int)+(z:Int):=by omega
 have z2:(t:Int)+(z:Int) < ((N+1:Nat):Int):=by omega
 have z3:((t:Int)+(z:Int)).toNat=t+z:=by omega
 have z4:(t:Int)+(z:Int) < (N:Int)+1:=by omega
 have z5:IntKind.i64.wrap ((t:Int)+(z:Int))=(t:Int)+(z:Int):=by
  rw[IntKind.wrap_i64]
  omega
 have z6:IntKind.i64.wrap (P+V)=P+V:=by
  rw[IntKind.wrap_i64]
  omega
 clear h hc1 hb1 hW1 hV
 go_enter Tryz.func135,Tryz.ntmps135
 go_wp2_with fail
 rw[← HW1.out]
 clear HW1
 go_region_held3 (fun w'=>w'.cell? ⟨w.heap.size,0,none⟩=some (.int .i64 x)∧w'.cell? ⟨w.heap.size,1,none⟩=some (.int .i64 y)∧w'.cell? ⟨w.heap.size,2,none⟩=some (.int .i64 q)∧w'.cell? ⟨w0.heap.size+1,0,none⟩=some (.slice (some ⟨w0.heap.size,0,none⟩) (N+1) (N+1))∧w'.cell? ⟨w0.heap.size,t+z,none⟩=some (.int .i64 V))
  (refine⟨?_,?_,?_,?_,?_⟩ <;> first | assumption | go_keep | (simp [*]; done))
  (first
   | (go_at_call 136; have HX:=HC3; refine (hpr _).mono ?_; rintro e w4 ⟨rfl,hb4⟩; have u0:=(hb4.cell (p:=⟨w.heap.size,0,none⟩) hl3).trans i0; have u1:=(hb4.cell (p:=⟨w.heap.size,1,none⟩) hl3).trans i1; have u2:=(hb4.cell (p:=⟨w.heap.size,2,none⟩) hl3).trans i2; have u3:=(hb4.cell (p:=⟨w0.heap.size+1,0,none⟩) (by show w0.heap.size+1 < _; omega)).trans i3; have u4:=(hb4.cell (p:=⟨w0.heap.size,t+z,none⟩) (by show w0.heap.size < _; omega)).trans i4; have HC4:=hid_of (HC3.out.called hb4); have HK4:Hid (∀ k,k < w.heap.size→w4.heap[k]?=w.heap[k]?):=(fun k hk=>(hb4.block k (Nat.lt_trans hk hl3)).trans (HK3.out k hk)); have HB4:=hid_of ((hb4.block _ hl3).trans HB3.out); clear hb4 HX)
   | (go_at_call 122; have HX:=HC3; refine (hss _).mono ?_; rintro e w4 ⟨rfl,hb4⟩; have u0:=(hb4.cell (p:=⟨w.heap.size,0,none⟩) hl3).trans i0; have u1:=(hb4.cell (p:=⟨w.heap.size,1,none⟩) hl3).trans i1; have u2:=(hb4.cell (p:=⟨w.heap.size,2,none⟩) hl3).trans i2; have u3:=(hb4.cell (p:=⟨w0.heap.size+1,0,none⟩) (by show w0.heap.size+1 < _; omega)).trans i3; have u4:=(hb4.cell (p:=⟨w0.heap.size,t+z,none⟩) (by show w0.heap.size < _; omega)).trans i4; have HC4:=hid_of (HC3.out.called hb4); have HK4:Hid (∀ k,k < w.heap.size→w4.heap[k]?=w.heap[k]?):=(fun k hk=>(hb4.block k (Nat.lt_trans hk hl3)).trans (HK3.out k hk)); have HB4:=hid_of ((hb4.block _ hl3).trans HB3.out); clear hb4 HX)
   | (go_at_call 136; refine (hpr _).mono ?_; rintro e w3 ⟨rfl,hb3⟩; have i0:=(hb3.cell (p:=⟨w.heap.size,0,none⟩) hl1).trans k0; have i1:=(hb3.cell (p:=⟨w.heap.size,1,none⟩) hl1).trans k1; have i2:=(hb3.cell (p:=⟨w.heap.size,2,none⟩) hl1).trans k2; have i3:=(hb3.cell (p:=⟨w0.heap.size+1,0,none⟩) (by show w0.heap.size+1 < W1.heap.size; omega)).trans k3; have i4:=(hb3.cell (p:=⟨w0.heap.size,t+z,none⟩) (by show w0.heap.size < W1.heap.size; omega)).trans k4; have HC3:Hid (CS w0 w3 N C F):=HC1.out.called ⟨hb3.1,hb3.2,hb3.3,hb3.4,hb3.5⟩; have HB3:=hid_of ((hb3.block _ hl1).trans HB1.out); have HK3:Hid (∀ k,k < w.heap.size→w3.heap[k]?=w.heap[k]?):=(fun k hk=>(hb3.block k (Nat.lt_trans hk hl1)).trans (HK1.out k hk)); have hl3:w.heap.size < w3.heap.size:=Nat.lt_of_lt_of_le hl1 hb3.size; clear hb3)
   | (go_at_call 122; refine (hss _).mono ?_; rintro e w3 ⟨rfl,hb3⟩; have i0:=(hb3.cell (p:=⟨w.heap.size,0,none⟩) hl1).trans k0; have i1:=(hb3.cell (p:=⟨w.heap.size,1,none⟩) hl1).trans k1; have i2:=(hb3.cell (p:=⟨w.heap.size,2,none⟩) hl1).trans k2; have i3:=(hb3.cell (p:=⟨w0.heap.size+1,0,none⟩) (by show w0.heap.size+1 < W1.heap.size; omega)).trans k3; have i4:=(hb3.cell (p:=⟨w0.heap.size,t+z,none⟩) (by show w0.heap.size < W1.heap.size; omega)).trans k4; have HC3:Hid (CS w0 w3 N C F):=HC1.out.called ⟨hb3.1,hb3.2,hb3.3,hb3.4,hb3.5⟩; have HB3:=hid_of ((hb3.block _ hl1).trans HB1.out); have HK3:Hid (∀ k,k < w.heap.size→w3.heap[k]?=w.heap[k]?):=(fun k hk=>(hb3.block k (Nat.lt_trans hk hl1)).trans (HK1.out k hk)); have hl3:w.heap.size < w3.heap.size:=Nat.lt_of_lt_of_le hl1 hb3.size; clear hb3))
 clear k0 k1 k2 k3 k4 i0 i1 i2 i3 i4 HC1 HB1 HC3 HB3 hl1 hl3 z1 z2 z3 z4 z5 z6 u0 u1 u2 u3 u4 hpr hss
 have hc4:=HC4.out
 have hb4:=HB4.out
 have k0:w4.cell? ⟨w.heap.size,0,none⟩=some (.int .i64 x):=(cell_of_block hb4 0).trans rfl
 have k1:w4.cell? ⟨w.heap.size,1,none⟩=some (.int .i64 y):=(cell_of_block hb4 1).trans rfl
 have k2:w4.cell? ⟨w.heap.size,2,none⟩=some (.int .i64 q):=(cell_of_block hb4 2).trans rfl
 have k3:w4.cell? ⟨w0.heap.size+1,0,none⟩=some (.slice (some ⟨w0.heap.size,0,none⟩) (N+1) (N+1)):=(cell_of_block hc4.2.2.1 0).trans rfl
 have k4:w4.cell? ⟨w0.heap.size+3,0,none⟩=some (.slice (some ⟨w0.heap.size+2,0,none⟩) N N):=(cell_of_block hc4.2.2.2.1 0).trans rfl
 have k5:=hc4.1.cell t (by omega)
 obtain⟨ct,hct⟩:∃ ct,ct=C t:=⟨_,rfl⟩
 rw[← hct] at k5 HPO
 clear hct
 have y0:(0:Int)≤(t:Int):=by omega
 have y1:(t:Int) < (N:Int):=by omega
 have y2:(t:Int) < (N:Int)+1:=by omega
 have hl4:=hc4.size
 by_cases hless:P+V < ct
 ·have dl:decide (P+V < ct)=true:=decide_eq_true hless
  obtain⟨t0,t1,t2⟩:=hc4.tok t ht
  have fz:=hc4.2.1.free
  have fc:=hc4.1.free t (by omega)
  have ne1:w0.heap.size≠w0.heap.size+2:=by omega
  have ne2:w.heap.size≠w0.heap.size:=by omega
  have HZ:Hid (∀ w',w'.heap=((((w4.setCell ⟨w0.heap.size,t,none⟩ (.int .i64 (P+V))).setCell ⟨w0.heap.size+2,t * 3,none⟩ (.int .i64 x)).setCell ⟨w0.heap.size+2,t * 3+1,none⟩ (.int .i64 y)).setCell ⟨w0.heap.size+2,t * 3+2,none⟩ (.int .i64 q)).heap→Below w0.heap.size w0 w'→OfferPost w0 N C F t (x,y,q) w'):=fun w' e hB=>(HPO.out w').mpr (.inl ⟨hless,((hc4.setC t (by omega) (P+V)).setT t ht x y q).same e hB⟩)
  have HSP:Hid (∀ w',w'.heap=((((w4.setCell ⟨w0.heap.size,t,none⟩ (.int .i64 (P+V))).setCell ⟨w0.heap.size+2,t * 3,none⟩ (.int .i64 x)).setCell ⟨w0.heap.size+2,t * 3+1,none⟩ (.int .i64 y)).setCell ⟨w0.heap.size+2,t * 3+2,none⟩ (.int .i64 q)).heap→Spared w0 w w'):=fun w' e k hk n1 n2=>by
   rw[e]
   exact (((Below.heap_setCell _ _ _ _ n2).trans (Below.heap_setCell _ _ _ _ n2)).trans (Below.heap_setCell _ _ _ _ n2)).trans ((Below.heap_setCell _ _ _ _ n1).trans (HK4.out k hk))
  have HBE:Hid (Below w0.heap.size w0 ((((w4.setCell ⟨w0.heap.size,t,none⟩ (.int .i64 (P+V))).setCell ⟨w0.heap.size+2,t * 3,none⟩ (.int .i64 x)).setCell ⟨w0.heap.size+2,t * 3+1,none⟩ (.int .i64 y)).setCell ⟨w0.heap.size+2,t * 3+2,none⟩ (.int .i64 q)).drew):=(three_b hc4.2.2.2.2 t (P+V) x y q).drew
  generalize F t=old at t0 t1 t2
  clear hc4 hb4
  go_wp2_with fail
  go_region
  go_wp2_with fail
  go_end0
  exact⟨rfl,HZ.out _ rfl HBE.out,HSP.out _ rfl⟩
 ·have dl:decide (P+V < ct)=false:=decide_eq_false hless
  have HZ:Hid (OfferPost w0 N C F t (x,y,q) w4):=(HPO.out w4).mpr (.inr ⟨by omega,hc4⟩)
  clear hc4 hb4
  go_wp2_with fail
  go_end0
  exact⟨rfl,HZ.out,fun k hk _ _=>HK4.out k hk⟩
end Go.Proofs.YtklpiihnbokkkaaGreatDoor
namespace Go.Proofs.YtklpiihnbokkkaaGreatDoor
open Go.RowKit Go.Joins TokMath SearchMath CheapMath
theorem best_small {f:Nat→Nat} {N at' chain:Nat} (h:at' < N):(bestM f N at' chain).1≤258∧(bestM f N at' chain).2≤at'∧at'+(bestM f N at' chain).1≤N:=by
 rcases best_fact (f:=f) (N:=N) at' chain with e | e
 ·rw[e]
  exact⟨Nat.zero_le _,Nat.zero_le _,Nat.le_of_lt h⟩
 ·exact⟨e.1.1.2,e.1.2.1.2,e.1.2.2.1⟩
theorem tab_next {f:Nat→Nat} {N ch t:Nat} (ht:t < N) (i:Nat):tab f N ch (N - t) i=if i=t then entry f N ch (fun j=>(tab f N ch (N - (t+1)) j).1) t else tab f N ch (N - (t+1)) i:=by
 have em:N - t=N - (t+1)+1:=by omega
 rw[em]
 show (if i=N - (N - (t+1)+1) then entry f N ch (fun j=>(tab f N ch (N - (t+1)) j).1) i else tab f N ch (N - (t+1)) i)=_
 rw[show N - (N - (t+1)+1)=t by omega]
 by_cases e:i=t
 ·rw[if_pos e,if_pos e,e]
 ·rw[if_neg e,if_neg e]
theorem tab_small {f:Nat→Nat} {N ch:Nat} (hN:N≤2600) {m i:Nat} (hm:m≤N) (hi:N - m≤i):0≤(tab f N ch m i).1∧(tab f N ch m i).1≤100000:=by
 rw[← tab_done (f:=f) (chain:=ch) hi hm]
 have h:=cost_small (f:=f) (N:=N) (chain:=ch) (N - i) i rfl
 have e:costAt f N ch i=(tab f N ch N i).1:=rfl
 rw[e] at h
 omega
def acc (f:Nat→Nat) (N ch t:Nat) (j:Nat):Int×Tok:=pickK (fun i=>(tab f N ch (N - (t+1)) i).1) t (bestM f N t ch).2 (costT ((f t:Int),0,0)+(tab f N ch (N - (t+1)) (t+1)).1,((f t:Int),0,0)) j
theorem acc_next (f:Nat→Nat) (N ch t j:Nat):acc f N ch t (j+1)=if costT (0,((3+j:Nat):Int),((bestM f N t ch).2:Int))+(tab f N ch (N - (t+1)) (t+(3+j))).1 < (acc f N ch t j).1 then (costT (0,((3+j:Nat):Int),((bestM f N t ch).2:Int))+(tab f N ch (N - (t+1)) (t+(3+j))).1,(0,((3+j:Nat):Int),((bestM f N t ch).2:Int))) else acc f N ch t j:=rfl
theorem acc_entry (f:Nat→Nat) (N ch t:Nat):entry f N ch (fun j=>(tab f N ch (N - (t+1)) j).1) t=acc f N ch t ((bestM f N t ch).1 - 2):=rfl
def CT (w wr:World) (s:ByteArray) (ch t j:Nat):Prop:=CS w wr s.size (upd (fun i=>(tab (txt s) s.size ch (s.size - (t+1)) i).1) t (acc (txt s) s.size ch t j).1) (updT (fun i=>(tab (txt s) s.size ch (s.size - (t+1)) i).2) t (acc (txt s) s.size ch t j).2)
def CD (w wr:World) (s:ByteArray) (ch t:Nat):Prop:=CS w wr s.size (fun i=>(tab (txt s) s.size ch (s.size - t) i).1) (fun i=>(tab (txt s) s.size ch (s.size - t) i).2)
theorem CD.of {w wr:World} {s:ByteArray} {ch t:Nat} (ht:t < s.size) (h:CT w wr s ch t ((bestM (txt s) s.size t ch).1 - 2)):CD w wr s ch t:=by
 refine CS.congr h (fun i _=>?_) (fun i _=>?_)
 ·show upd _ t _ i=(tab (txt s) s.size ch (s.size - t) i).1
  rw[tab_next ht,acc_entry]
  unfold upd
  by_cases e:i=t
  ·rw[if_pos e,if_pos e]
  ·rw[if_neg e,if_neg e]
 ·show updT _ t _ i=(tab (txt s) s.size ch (s.size - t) i).2
  rw[tab_next ht,acc_entry]
  unfold updT
  by_cases e:i=t
  ·rw[if_pos e,if_pos e]
  ·rw[if_neg e,if_neg e]
theorem upd_same (C:Nat→Int) (t:Nat) (x:Int):upd C t x t=x:=by
 unfold upd
 rw[if_pos rfl]
theorem upd_far (C:Nat→Int) (t:Nat) (x:Int) {i:Nat} (h:i≠t):upd C t x i=C i:=by
 unfold upd
 rw[if_neg h]
theorem upd_twice (C:Nat→Int) (t:Nat) (x y:Int) (i:Nat):upd (upd C t x) t y i=upd C t y i:=by
 by_cases e:i=t
 ·rw[e,upd_same,upd_same]
 ·rw[upd_far _ _ _ e,upd_far _ _ _ e,upd_far _ _ _ e]
theorem updT_twice (F:Nat→Tok) (t:Nat) (x y:Tok) (i:Nat):updT (updT F t x) t y i=updT F t y i:=by
 unfold updT
 by_cases e:i=t
 ·rw[if_pos e,if_pos e]
 ·rw[if_neg e,if_neg e,if_neg e]
theorem CT.first {w w2:World} {s:ByteArray} {ch t:Nat} (ht:t < s.size) (hN:s.size≤2600) (h:OfferPost w s.size (upd (fun i=>(tab (txt s) s.size ch (s.size - (t+1)) i).1) t 9223372036854775807) (fun i=>(tab (txt s) s.size ch (s.size - (t+1)) i).2) t ((txt s t:Int),0,0) w2):CT w w2 s ch t 0:=by
 have hc:=cost_range ((txt s t:Int),0,0)
 have hs:=tab_small (f:=txt s) (ch:=ch) hN (m:=s.size - (t+1)) (i:=t+1) (by omega) (by omega)
 unfold OfferPost at h
 rw[size_byte,upd_same,upd_far _ _ _ (show t+1≠t by omega)] at h
 have hlt:costT ((txt s t:Int),0,0)+(tab (txt s) s.size ch (s.size - (t+1)) (t+1)).1 < 9223372036854775807:=by omega
 rcases h with ⟨_,h⟩ | ⟨h,_⟩
 ·refine CS.congr h (fun i _=>?_) (fun i _=>?_)
  ·rw[upd_twice]
   rfl
  ·rfl
 ·exact absurd hlt h
theorem CT.next {w w2:World} {s:ByteArray} {ch t j:Nat} (h:OfferPost w s.size (upd (fun i=>(tab (txt s) s.size ch (s.size - (t+1)) i).1) t (acc (txt s) s.size ch t j).1) (updT (fun i=>(tab (txt s) s.size ch (s.size - (t+1)) i).2) t (acc (txt s) s.size ch t j).2) t (0,((3+j:Nat):Int),((bestM (txt s) s.size t ch).2:Int)) w2):CT w w2 s ch t (j+1):=by
 unfold OfferPost at h
 rw[size_rep _ _ (show 3+j≠0 by omega),upd_same,upd_far _ _ _ (show t+(3+j)≠t by omega)] at h
 unfold CT
 rw[acc_next]
 rcases h with ⟨hl,h⟩ | ⟨hl,h⟩
 ·rw[if_pos hl]
  refine CS.congr h (fun i _=>?_) (fun i _=>?_)
  ·rw[upd_twice]
  ·rw[updT_twice]
 ·rw[if_neg hl]
  exact h
theorem offer_cost {s:ByteArray} {ch t k:Nat} (x:Int) (hN:s.size≤2600) (hk:1≤k) (hin:t+k≤s.size):0≤upd (fun i=>(tab (txt s) s.size ch (s.size - (t+1)) i).1) t x (t+k)∧upd (fun i=>(tab (txt s) s.size ch (s.size - (t+1)) i).1) t x (t+k)≤100000:=by
 rw[upd_far _ _ _ (show t+k≠t by omega)]
 exact tab_small hN (by omega) (by omega)
set_option maxRecDepth 100000 in
set_option maxHeartbeats 6400000 in
theorem cheapest_any (p:Nat) (s:ByteArray) (ch:Nat) (w:World) (hM:Mt w p s ch) (hs:s.size≤2600) (hc1:1≤ch) (hc2:ch≤64):
  Calls Tryz.prog 89 #[.pointer (some ⟨p,0,none⟩)] w fun e w'=>e=.returned (.func (.func 137) #[] #[.pointer (some ⟨w.heap.size+3,0,none⟩)])∧CD w w' s ch 0:=by
 have HM:=hid_of hM
 have m0:=hM.text.1
 have hp:=hM.text.2
 have mk1:=make_ints w (s.size+1) (by omega)
 rw[show (((s.size+1:Nat)):Int)=(s.size:Int)+1 by omega] at mk1
 obtain⟨W1,hW1⟩:∃ W,W=(w.alloc (.cells (madeCells #[Value.int .i64 0] (s.size+1)) 3)).alloc (.cells #[.slice (some ⟨w.heap.size,0,none⟩) (s.size+1) (s.size+1)] 25):=⟨_,rfl⟩
 have hz1:W1.heap.size=w.heap.size+2:=by rw [hW1]; simp
 have mk2:=make_toks W1 s.size (by omega)
 rw[hz1] at mk2
 obtain⟨W2,hW2⟩:∃ W,W=(W1.alloc (.cells (madeCells #[.int .i64 0,.int .i64 0,.int .i64 0] (s.size * 3)) 105)).alloc (.cells #[.slice (some ⟨w.heap.size+2,0,none⟩) s.size s.size] 72):=⟨_,rfl⟩
 have H0:Hid (CD w W2 s ch s.size):=by
  have i1:=IOwn.made (base:=w.heap.size) w (s.size+1) (by unfold maxLen; omega) (Nat.le_refl _)
  have i2:=TOwn.made W1 w.heap.size s.size (by omega)
  rw[hz1] at i2
  have hB1:Below w.heap.size w W1:=by rw [hW1]; exact bal (bstart _ _) _
  have hbx1:W1.heap[w.heap.size+1]?=some (.cells #[.slice (some ⟨w.heap.size,0,none⟩) (s.size+1) (s.size+1)] 25 (0,0)):=by
   have:=heap_alloc_new (w.alloc (.cells (madeCells #[Value.int .i64 0] (s.size+1)) 3)) (.cells #[.slice (some ⟨w.heap.size,0,none⟩) (s.size+1) (s.size+1)] 25)
   rw[World.size_alloc] at this
   rw[hW1]
   exact this
  have hbx3:=heap_alloc_new (W1.alloc (.cells (madeCells #[.int .i64 0,.int .i64 0,.int .i64 0] (s.size * 3)) 105)) (.cells #[.slice (some ⟨w.heap.size+2,0,none⟩) s.size s.size] 72)
  rw[World.size_alloc,hz1] at hbx3
  have i1':IOwn W1 w.heap.size w.heap.size (s.size+1) (s.size+1) (fun _=>0):=by rw [hW1]; exact i1.alloc _
  have key:CS w W2 s.size (fun _=>0) (fun _=>(0,0,0)):=by
   rw[hW2]
   refine⟨(i1'.alloc _).alloc _,i2.called (bstart _ _),?_,hbx3,bal (bal hB1 _) _⟩
   exact (((bstart (W1.alloc _) _).block _ (by simp; omega)).trans ((bstart W1 _).block _ (by omega))).trans hbx1
  refine CS.congr key (fun i _=>?_) (fun i _=>?_)
  ·rw[Nat.sub_self]
   rfl
  ·rw[Nat.sub_self]
   rfl
 have y0:∀ o,(w.alloc o).cell? ⟨p,0,none⟩=some (.string s):=fun o=>(grow_cell o hp 0).trans m0
 have y1:W1.cell? ⟨p,0,none⟩=some (.string s):=by rw [hW1]; exact (grow_cell _ (by simp; omega) 0).trans (y0 _)
 have y2:W2.cell? ⟨p,0,none⟩=some (.string s):=by rw [hW2]; exact (grow_cell _ (by simp; omega) 0).trans ((grow_cell _ (by omega) 0).trans y1)
 rw[hW1] at mk2 y1
 have HW2:Hid (W2=(((w.alloc (.cells (madeCells #[Value.int .i64 0] (s.size+1)) 3)).alloc (.cells #[.slice (some ⟨w.heap.size,0,none⟩) (s.size+1) (s.size+1)] 25)).alloc (.cells (madeCells #[.int .i64 0,.int .i64 0,.int .i64 0] (s.size * 3)) 105)).alloc (.cells #[.slice (some ⟨w.heap.size+2,0,none⟩) s.size s.size] 72)):=by
  show W2=_
  rw[hW2,hW1]
 have y3:((((w.alloc (.cells (madeCells #[Value.int .i64 0] (s.size+1)) 3)).alloc (.cells #[.slice (some ⟨w.heap.size,0,none⟩) (s.size+1) (s.size+1)] 25)).alloc (.cells (madeCells #[.int .i64 0,.int .i64 0,.int .i64 0] (s.size * 3)) 105)).alloc (.cells #[.slice (some ⟨w.heap.size+2,0,none⟩) s.size s.size] 72)).cell? ⟨p,0,none⟩=some (.string s):=by
  rw[← HW2.out]
  exact y2
 clear hM hW1 hW2 hz1
 go_enter Tryz.func89,Tryz.ntmps89
 go_wp2_with fail
 rw[← HW2.out,show w.heap.size+1+1+1=w.heap.size+3 from rfl]
 clear HW2 y0 y1 y2 y3 mk1 mk2
 go_loopg [6] (s.size+1) (fun gk k w'=>∃ (K:Nat),K≤gk∧K≤s.size∧k=.int .i64 ((K:Int) - 1)∧Hid (CD w w' s ch K))
 case atStart=>exact⟨s.size,by omega,Nat.le_refl _,rfl,H0⟩
 case round=>
  clear H0
  obtain⟨K,hKg,hK,rfl,hS⟩:=hrel
  cases K with
  | zero=>
   rw[show (((0:Nat):Int) - 1)=-1 from rfl]
   go_wp2_with fail
   go_ret
   exact⟨rfl,hS.out⟩
  | succ t=>
   rw[show (((t+1:Nat):Int) - 1)=(t:Int) by omega]
   have hts:t < s.size:=by omega
   have hS0:CS w wr s.size (fun i=>(tab (txt s) s.size ch (s.size - (t+1)) i).1) (fun i=>(tab (txt s) s.size ch (s.size - (t+1)) i).2):=hS.out
   have b1:wr.cell? ⟨w.heap.size+1,0,none⟩=some (.slice (some ⟨w.heap.size,0,none⟩) (s.size+1) (s.size+1)):=(cell_of_block hS0.2.2.1 0).trans rfl
   have c1:=hS0.1.cell t (by omega)
   have f1:=hS0.1.free t (by omega)
   have hz:=hS0.size
   have y0:(0:Int)≤(t:Int):=by omega
   have y1:(t:Int) < (s.size:Int)+1:=by omega
   generalize (tab (txt s) s.size ch (s.size - (t+1)) t).1=old at c1
   obtain⟨W3,hW3⟩:∃ W,W=wr.setCell ⟨w.heap.size,t,none⟩ (.int .i64 9223372036854775807):=⟨_,rfl⟩
   have hS3:CS w W3 s.size (upd (fun i=>(tab (txt s) s.size ch (s.size - (t+1)) i).1) t 9223372036854775807) (fun i=>(tab (txt s) s.size ch (s.size - (t+1)) i).2):=by
    rw[hW3]
    exact hS0.setC t (by omega) _
   have hM3:Mt W3 p s ch:=HM.out.called hS3.2.2.2.2
   have hby:=byteAt_any p s t W3 hM3.text.1 hM3.text.2 hts (by omega)
   have HS3:=hid_of hS3
   have HM3:=hid_of hM3
   have HW3:=hid_of hW3
   clear hS3 hM3 hW3 hS0
   go_wp2_with fail
   rw[← HW3.out]
   refine hby.mono ?_
   rintro e w4 ⟨rfl,hB4⟩
   have HS4:=hid_of (HS3.out.called hB4)
   have hM4:=HM.out.called HS4.out.2.2.2.2
   have hof:=offer_any w s.size _ _ t (txt s t:Nat) 0 0 w4 HS4.out hts hs (by rfl) (by rfl) (Int.le_refl _) (by rw [size_byte]; omega) (by rw [size_byte]; exact Nat.le_refl _) (by rw [size_byte]; exact offer_cost _ hs (Nat.le_refl _) (by omega))
   clear hby hB4 HS3 HM3 HW3 b1 c1 f1
   go_wp2_with fail
   refine hof.mono ?_
   rintro e w5 ⟨rfl,hO5,_⟩
   have HS5:=hid_of (CT.first hts hs hO5)
   have hM5:=HM.out.called HS5.out.2.2.2.2
   have hbs:=best_any p s ch t w5 hM5 hs hc1 hc2
   have hsm:=best_small (f:=txt s) (chain:=ch) hts
   clear hof hO5 HS4 hM4
   obtain⟨n1,hn1⟩:∃ n1,n1=(bestM (txt s) s.size t ch).1:=⟨_,rfl⟩
   obtain⟨d1,hd1⟩:∃ d1,d1=(bestM (txt s) s.size t ch).2:=⟨_,rfl⟩
   rw[← hn1,← hd1] at hbs hsm
   have HN1:=hid_of hn1
   have HD1:=hid_of hd1
   clear hn1 hd1
   go_wp2_with fail
   refine hbs.mono ?_
   rintro e w6 ⟨rfl,hB6⟩
   clear hbs
   have H6:Hid (CT w (w6.alloc (.cells #[.int .i64 0,.int .i64 (n1:Int),.int .i64 (d1:Int)] 105)) s ch t 0∧(w6.alloc (.cells #[.int .i64 0,.int .i64 (n1:Int),.int .i64 (d1:Int)] 105)).heap[w6.heap.size]?=some (.cells #[.int .i64 0,.int .i64 (n1:Int),.int .i64 (d1:Int)] 105 (0,0))):=⟨CS.called (CS.called HS5.out hB6) (bstart _ _),heap_alloc_new _ _⟩
   have hz6:w.heap.size+4≤w6.heap.size:=CS.size (CS.called HS5.out hB6)
   clear hB6 HS5
   go_wp2_with fail
   generalize w6.alloc (.cells #[.int .i64 0,.int .i64 (n1:Int),.int .i64 (d1:Int)] 105)=W7 at H6
   go_loopg [8] 300 (fun gk k w'=>∃ (j:Nat),j≤n1 - 2∧300 - (3+j)≤gk∧k=.int .i64 (3+(j:Int))∧Hid (CT w w' s ch t j∧w'.heap[w6.heap.size]?=some (.cells #[.int .i64 0,.int .i64 (n1:Int),.int .i64 (d1:Int)] 105 (0,0))))
   case atStart=>exact⟨0,by omega,by omega,rfl,H6⟩
   case round=>
    clear H6
    obtain⟨j,hj,hgj,rfl,hA⟩:=hrel
    obtain⟨hn258,hd1t,hin⟩:=hsm
    have q1:wr.cell? ⟨w6.heap.size,1,none⟩=some (.int .i64 (n1:Int)):=(cell_of_block hA.out.2 1).trans rfl
    have q2:wr.cell? ⟨w6.heap.size,2,none⟩=some (.int .i64 (d1:Int)):=(cell_of_block hA.out.2 2).trans rfl
    have hlq:w6.heap.size < wr.heap.size:=block_lt hA.out.2
    by_cases hjl:3+j≤n1
    ·have dj:decide ((3:Int)+(j:Int)≤(n1:Int))=true:=decide_eq_true (by omega)
     have dj':(3:Int)+(j:Int)≤(n1:Int):=by omega
     have hsz:sizeT (0,((3+j:Nat):Int),(d1:Int))=3+j:=size_rep _ _ (by omega)
     have hof:=offer_any w s.size _ _ t 0 ((3+j:Nat):Int) (d1:Int) wr hA.out.1 hts hs (WalkArith.wf_i64 (by omega)) (WalkArith.wf_i64 (by omega)) (by omega) (by rw [hsz]; omega) (by rw [hsz]; omega) (by rw [hsz]; exact offer_cost _ hs (by omega) (by omega))
     rw[show (((3+j:Nat)):Int)=3+(j:Int) by omega] at hof
     go_wp2_with fail
     refine hof.mono ?_
     rintro e w8 ⟨rfl,hO8,hSp⟩
     have HNX:Hid (CT w w8 s ch t (j+1)∧w8.heap[w6.heap.size]?=some (.cells #[.int .i64 0,.int .i64 (n1:Int),.int .i64 (d1:Int)] 105 (0,0))):=by
      refine⟨CT.next ?_,(hSp _ hlq (by omega) (by omega)).trans hA.out.2⟩
      rw[show (((3+j:Nat)):Int)=3+(j:Int) by omega,← HD1.out]
      exact hO8
     clear hof hO8 hSp hA
     go_wp2_with fail
     go_roundg (300 - (3+(j+1)))
     case measure=>omega
     case rel=>exact⟨j+1,by omega,Nat.le_refl _,by first | go_num | (congr 1; omega),HNX⟩
    ·have dj:decide ((3:Int)+(j:Int)≤(n1:Int))=false:=decide_eq_false (by omega)
     have dj':¬ (3:Int)+(j:Int)≤(n1:Int):=by omega
     have HZ:Hid (CD w wr s ch t):=by
      refine CD.of hts ?_
      rw[← HN1.out,show n1 - 2=j by omega]
      exact hA.out.1
     clear hA
     go_wp2_with fail
     go_roundg t
     case measure=>omega
     case rel=>exact⟨t,Nat.le_refl _,by omega,rfl,HZ⟩
set_option maxHeartbeats 1600000 in
theorem cheap_answer:CheapAnswer:=by
 intro s c w hs _
 have hcm:=canMatch_any s c w hs
 refine⟨fun hR=>?_,fun hR=>?_⟩
 ·have hR':s.size≤2600∧1≤c∧c≤64:=hR
  rw[decide_eq_true hR'] at hcm
  obtain⟨hs2,hc1,hc2⟩:=hR
  obtain⟨ch,rfl⟩:=Int.eq_ofNat_of_zero_le (show 0≤c by omega)
  have hnew:=newMatcher_any s ch w hs2 (by omega)
  go_enter Tryz.func55,Tryz.ntmps55
  go_wp2_with fail
  refine hcm.mono ?_
  rintro e w1 ⟨rfl,rfl⟩
  clear hcm
  go_wp2_with fail
  refine hnew.mono ?_
  rintro e w2 ⟨rfl,hM2,hB2⟩
  have hch:=cheapest_any (w1.heap.size+1) s ch w2 hM2 hs2 (by omega) (by omega)
  have HM2:=hid_of hM2
  have HB2:=hid_of hB2
  clear hnew hM2 hB2
  go_wp2_with fail
  refine hch.mono ?_
  rintro e w3 ⟨rfl,hD3⟩
  have hM3:=HM2.out.called hD3.2.2.2.2
  have hwk:=walk_cheap (w1.heap.size+1) (w2.heap.size+3) s (takeAt (txt s) s.size ch) w3 hM3.text.1 hM3.text.2 hs2 (fun i hi=>take_fine hi) (fun w' hb i hi=>taken_any w2 s.size _ (takeAt (txt s) s.size ch) i w' (CS.called (show CS w2 w3 s.size (costAt (txt s) s.size ch) (takeAt (txt s) s.size ch) from hD3) hb) hi hs2)
  have HB3:Hid (Below w1.heap.size w1 w3):=bnext HB2.out hD3.2.2.2.2
  clear hch hM3 hD3
  go_wp2_with fail
  refine hwk.mono ?_
  rintro e w4 ⟨a,cap,rfl,ht,hcp,hB4⟩
  have HZ:Hid (TSL w4 w1.heap.size a (cheapL s (ch:Int)).length (fun j=>(cheapL s (ch:Int)).getD j (0,0,0))∧(cheapL s (ch:Int)).length≤cap∧Below w1.heap.size w1 w4):=by
   refine⟨?_,hcp,bnext HB3.out hB4⟩
   rcases ht with q | ⟨g,e,ho⟩
   ·exact .inl q
   ·exact .inr ⟨g,e,Nat.le_trans HB3.out.size ho.1,ho.2⟩
  clear hwk ht hcp hB4
  go_wp2_with fail
  go_ret2
  exact⟨a,cap,rfl,HZ.out.1,HZ.out.2.1,HZ.out.2.2⟩
 ·have hR':¬ (s.size≤2600∧1≤c∧c≤64):=hR
  rw[decide_eq_false hR'] at hcm
  go_enter Tryz.func55,Tryz.ntmps55
  go_wp2_with fail
  refine hcm.mono ?_
  rintro e w1 ⟨rfl,rfl⟩
  go_wp2_with fail
  go_ret2
  exact⟨none,0,rfl,fun g off e=>(by cases e),Below.refl _ _⟩
end Go.Proofs.YtklpiihnbokkkaaGreatDoor
