/-
  Texts of the proof, put together.
-/
import Derived.Test.YtkpbfmdnjnohlaaMk49
import Derived.Test.YtkpbfmdnjnohlaaMk42
namespace Go.Proofs.Ytkpbfmdnjnohlaa
open Go.RowKit Go.Joins Go.Shelf OutMath PutMath RastMath HeadMath
attribute [local go_sem] Oper.semAt_some
def PlZ (w:World) (A:Array Value) (X:World):Prop:=X.heap[w.heap.size]?=some (.cells A 41 (0,0))∧X.heap[w.heap.size+1]?=some (.cells #[.slice none 0 0] 25 (0,0))∧Below w.heap.size w X∧w.heap.size+2≤X.heap.size
theorem PlZ.called {w X Y:World} {A:Array Value} (h:PlZ w A X) (hb:Below X.heap.size X Y):PlZ w A Y:=by
 obtain⟨h1,h2,h4,h5⟩:=h
 exact⟨(hb.block _ (block_lt h1)).trans h1,(hb.block _ (block_lt h2)).trans h2,bnext h4 hb,Nat.le_trans h5 hb.size⟩
def PlI (w:World) (A:Array Value) (p:Pic) (Bs:Nat) (k:Nat) (X:World):Prop:=X.heap[w.heap.size]?=some (.cells A 41 (0,0))∧(∃ v,X.heap[w.heap.size+1]?=some (.cells #[v] 25 (0,0))∧X.ownsRow Bs 3 1 v (4 * k) (fints (pixL p) (4 * k)))∧Below w.heap.size w X∧w.heap.size+2≤Bs∧Bs≤X.heap.size
theorem PlZ.start {w X:World} {A:Array Value} {p:Pic} (h:PlZ w A X):PlI w A p X.heap.size 0 X:=⟨h.1,⟨_,h.2.1,rfl,.inl ⟨rfl,rfl⟩⟩,h.2.2.1,h.2.2.2,Nat.le_refl _⟩
theorem own_kept {V V':World} {Bs n:Nat} {v:Value} {L:List Value} (h:V.ownsRow Bs 3 1 v n L) (hk:∀ (b:Nat) (cs:Array Value) (fz:Nat×Nat),Bs≤b→V.heap[b]?=some (.cells cs 3 fz)→V'.heap[b]?=V.heap[b]?):V'.ownsRow Bs 3 1 v n L:=by
 refine⟨h.1,?_⟩
 rcases h.2 with h | ⟨g,cap,cur,e,q1,q2,q3⟩
 ·exact .inl h
 ·exact .inr ⟨g,cap,cur,e,q1,(hk g _ _ q1 q2).trans q2,q3⟩
theorem PlI.called {w X Y:World} {A:Array Value} {p:Pic} {Bs k:Nat} (h:PlI w A p Bs k X) (hb:Below X.heap.size X Y):PlI w A p Bs k Y:=by
 obtain⟨h1,⟨v,h2,h3⟩,h4,h5,h6⟩:=h
 exact⟨(hb.block _ (block_lt h1)).trans h1,⟨v,(hb.block _ (block_lt h2)).trans h2,own_kept h3 fun b cs fz _ hc=>hb.block b (block_lt hc)⟩,bnext h4 hb,h5,Nat.le_trans h6 hb.size⟩
theorem plI_own {B:Nat} {w:World} {A:Array Value} {p:Pic} {Bs:Nat} (hB:w.heap.size≤B):OwnFrom B (PlI w A p Bs):=fun k V V' row hs hg hr=>by
 obtain⟨h1,⟨v,h2,h3⟩,h4,h5,h6⟩:=hs
 have hne:∀ (b:Nat) (cs:Array Value) (t:TypeId) (fz:Nat×Nat),V.heap[b]?=some (.cells cs t fz)→V'.heap[b]?=V.heap[b]?:=fun b cs t fz hb=>hg.block b (block_lt hb) (fun e=>by
  obtain⟨_,ob,h6,h7⟩:=hr b e.symm
  rw[hb] at h6
  cases h6
  cases h7)
 exact⟨(hne _ _ _ _ h1).trans h1,⟨v,(hne _ _ _ _ h2).trans h2,own_kept h3 fun b cs fz _ hc=>hne b cs _ fz hc⟩,h4.grown hg (by omega) (fun q hq=>Nat.le_trans hB (hr q hq).1),h5,Nat.le_trans h6 hg.size⟩
theorem fints_four (f:Nat→Int) (k:Nat):fints f (4 * (k+1))=fints f (4 * k) ++ [.int .i64 (f (4 * k+0)),.int .i64 (f (4 * k+1)),.int .i64 (f (4 * k+2)),.int .i64 (f (4 * k+3))]:=by
 unfold fints
 rw[show 4 * (k+1)=4 * k+1+1+1+1 by omega,List.range_succ,List.range_succ,List.range_succ,List.range_succ]
 simp
theorem step_append_run {o:Oper} {a:Act} {w w':World} {K:Act→World→Prop} {Q:Exit→Act→World→Prop} {v':Value} (s x:Operand) (t:TypeId) (ho:o.op=.call { callee:=.builtin .append,args:=#[s,x],argTypes:=#[t,t] }) (v u:Value) (hs:a.eval s=v) (hx:a.eval x=u) (hr:(Builtin.append_ #[t,t] o.type #[v,u]).run Try.prog w=.ok v' w') (h:K (a.put o.dst v') w'):Oper.wp Try.prog o a w K Q:=by
 unfold Oper.wp execOp
 simp only [ho,resolve,invoke,builtin,Sem.run_bind,Sem.run_pure,Result.andThen_ok,List.map_toArray,List.map_cons,List.map_nil,hs,hx,hr]
 exact h
theorem pixels_leave {D:Nat} {X:World} {T:Array Value} {v:Value} {R:Ending→World→Prop} (hK:X.heap[D]?=some (.deferred (some []))) (hT:T.getD 2 undef=v) (hR:R (.returned v) (X.putObj D (.deferred none))):
  LeavesInM Fence.wide 6 Try.prog Try.f33 T R [{ target:=.collected D,args:=#[] }] .returning X:=by
 refine⟨by simp,.inl ⟨_,_,rfl,run_takeDeferred hK,?_⟩⟩
 refine⟨v,?_,hR⟩
 have hT':T[2]?.getD undef=v:=by
  rw[← hT]
  simp
 simp[results,Try.results33,go_sem,hT']
theorem calm_of {Q:Exit→Act→World→Prop} {a:Act} {w:World} (h:Q .normal a w):Go.NoPanic Q .normal a w:=h
theorem wp_pixel_range {T:Array Value} {assign body:Code} {Q:Exit→Act→World→Prop} {W:World} {gf:Nat} {lb:Array Value} (v:Nat→Value) (N:Nat) (Kp:World→World→Prop)
  (hg:({ tmps:=T,defers:=[] }:Act).eval (.tmp 13)=.func (.func gf) #[] lb) (eg:∀ args w,(callFunc gf args).run Try.prog w=.ok (.enter gf args) w) (hseq:TellsNext gf lb (fun k=>#[v k]) N Kp W)
  (hKt:∀ {A B C:World},Kp A B→Kp B C→Kp A C) (hKp:∀ (X:World) (i:Nat) (o:Obj),W.heap.size≤i→Kp X (X.putObj i o)) (hKa:∀ (X:World) (o:Obj),W.heap.size≤X.heap.size→Kp X (X.alloc o))
  (I:Nat→World→Prop) (hI:OwnFrom W.heap.size I) (hId:∀ k X n,I k X→I k (X.drewN n)) (h0:I 0 W)
  (hassign:∀ (l k:Nat) (X:World) (K:Act→World→Prop),K { tmps:=(T.setIfInBounds 14 (v k)).setIfInBounds 4 (v k),defers:=[] } X→assign.wpIn (Fence.wide.inRound l) 4 Try.prog (Exit.then K (fun _ _ _=>False)) { tmps:=T.setIfInBounds 14 (v k),defers:=[] } X)
  (hbody:∀ (l k:Nat) (X:World),k < N→I k X→body.wpIn (Fence.wide.inRound l) 4 Try.prog (fun e _ Y=>e=.normal∧KeepsFrom W.heap.size X Y∧Kp X Y∧I (k+1) Y) { tmps:=(T.setIfInBounds 14 (v k)).setIfInBounds 4 (v k),defers:=[] } X)
  (hdone:∀ (X:World),I N X→X.heap[W.heap.size]?=some (.deferred (some []))→Q .normal { tmps:=T,defers:=[{ target:=.collected W.heap.size,args:=#[] }] } X):
  (Code.rangeFunc (.tmp 13) #[14] assign body).wp Try.prog Q { tmps:=T,defers:=[] } W:=by
 refine wp_range_next (fun k=>#[v k]) N Kp hg eg (fun _=>rfl) hseq hKt hKp hKa I hI hId h0 (fun k=>{ tmps:=(T.setIfInBounds 14 (v k)).setIfInBounds 4 (v k),defers:=[] }) ?_ hbody hdone
 intro l k X K hK
 refine Eq.mp (congrArg (fun T'=>Code.wpIn (Fence.wide.inRound l) 4 Try.prog assign (Exit.then K fun _ _ _=>False) { tmps:=T',defers:=[] } X) ?_) (hassign l k X K hK)
 simp
def PixelsPost (p:Pic) (w:World) (e:Ending) (w':World):Prop:=∃ a c,e=.returned (.slice a (4 * pixN p) c)∧SL w' w.heap.size a (4 * pixN p) c (pixL p)∧Below w.heap.size w w'
set_option maxRecDepth 100000 in
set_option maxHeartbeats 4000000 in
theorem pixels_any (p:Pic) (q:PicA) (w:World) (hP:PngIn w p q) (hZ:PngSz p) (hR:PngR p):
  Calls Try.prog 33 #[pngV p q] w (PixelsPost p w):=by
 have hme:=fun at' a cap W h1 h2 h3 h4=>meant_any p q at' a cap W h1 hZ hR h2 h3 h4
 have hN1:1≤chanN p.hc∧chanN p.hc≤4:=by
  have h1:=chan_pos hR.1.1.2.2
  have h2:=chan_range p.hc
  unfold chanN
  omega
 have hpx0:0 < pixN p∧pixN p≤576:=by
  obtain⟨⟨⟨⟨a1,a2⟩,⟨b1,b2⟩,_⟩,_⟩,_⟩:=hR
  have h1:1≤p.hw * p.hh:=by
   have:=Int.mul_le_mul a1 b1 (by omega) (by omega)
   omega
  have h2:p.hw * p.hh≤24 * 24:=Int.mul_le_mul a2 b2 (by omega) (by omega)
  unfold pixN
  omega
 have hsm:=fun (at' k:Nat) (h1:at' < pixN p) (h2:k < chanN p.hc)=>smq_in hR h1 h2
 have hsn:p.sn=pixN p * chanN p.hc:=(hsm 0 0 hpx0.1 (by omega)).2.2.2
 have hcp:=hP.capped
 obtain⟨g,off,hsa,hg,hcell⟩:∃ g off,q.sa=some ⟨g,off,none⟩∧g < w.heap.size∧∀ j,j < p.sn→w.cell? ⟨g,off+j,none⟩=some (.int .i64 (p.S j)):=by
  rcases hP.s with h | h
  ·have:=Nat.mul_le_mul hpx0.1 hN1.1
   omega
  ·exact h
 have hcN:chan p.hc=(chanN p.hc:Int):=(Int.toNat_of_nonneg (chan_range p.hc).1).symm
 have hch:=fun W=>implChannels p.hc W
 rw[hcN] at hch
 have HP:=hid_of hP
 have HCE:Hid (∀ k,k < pixN p→∀ W,Below w.heap.size w W→Came W (some ⟨g,off+chanN p.hc * k,none⟩) (chanN p.hc) (fun i=>smq p k i)):=fun k hk W hW=>by
  refine .inr ⟨g,off+chanN p.hc * k,rfl,Nat.lt_of_lt_of_le hg hW.size,fun j hj=>?_⟩
  have h1:=(hsm k j hk hj).1
  rw[show off+chanN p.hc * k+j=off+(k * chanN p.hc+j) by rw [Nat.mul_comm,Nat.add_assoc]]
  exact (hW.cell (p:=⟨g,off+(k * chanN p.hc+j),none⟩) hg).trans (hcell _ h1)
 have hcapn:chanN p.hc * pixN p≤q.sc:=by rw [Nat.mul_comm,← hsn]; exact hcp.1
 have hlen:p.sn=chanN p.hc * pixN p:=by rw [hsn,Nat.mul_comm]
 obtain⟨n,hn⟩:∃ n,n=chanN p.hc:=⟨_,rfl⟩
 obtain⟨N,hNN⟩:∃ N,N=pixN p:=⟨_,rfl⟩
 rw[← hn] at hN1 hch hcapn hlen HCE hme
 rw[← hNN] at hpx0 hcapn hlen HCE hme
 have HNN:=hid_of hNN
 have hpost:Hid (∀ e W,(∃ a c,e=.returned (.slice a (4 * N) c)∧SL W w.heap.size a (4 * N) c (pixL p)∧Below w.heap.size w W)→PixelsPost p w e W):=fun e W h=>by
  rw[HNN.out] at h
  exact h
 have HME:=hid_of hme
 clear hme hsm hsn hcp hcell hcN hn hNN hR hZ hP
 obtain⟨p0,hp0⟩:∃ p0,p0=p:=⟨_,rfl⟩
 rw[← hp0] at HCE hpost HME HP
 obtain⟨hw,hh,hd,hc',lace,tn,T,cn,C,rw',rh,rc,rd,sn,S,kn,K⟩:=p
 obtain⟨ta,tc,ca,cc,sa,sc,ka,kc⟩:=q
 simp only [] at hsa hcapn hlen hch
 subst hsa hlen
 have HV:Hid (pngV p0 ⟨ta,tc,ca,cc,some ⟨g,off,none⟩,sc,ka,kc⟩=.agg #[.int .i64 hw,.int .i64 hh,.int .i64 hd,.int .i64 hc',.bool lace,.slice ta tn tc,.slice ca cn cc,.int .i64 rw',.int .i64 rh,.int .i64 rc,.int .i64 rd,.slice (some ⟨g,off,none⟩) (n * N) sc,.slice ka kn kc]):=by
  show _=_
  rw[hp0]
  rfl
 rw[← hp0,HV.out]
 clear hp0
 refine calls_of_marks Try.func33 rfl ?_
 simp only [Try.ntmps33,List.size_toArray,List.length_cons,List.length_nil,Nat.reduceAdd,Nat.reduceSub,Array.replicate_succ,Array.replicate_zero,List.push_toArray,List.append_toArray,List.nil_append,List.cons_append]
 have H0:Hid (PlZ w #[.int .i64 hw,.int .i64 hh,.int .i64 hd,.int .i64 hc',.bool lace,.slice ta tn tc,.slice ca cn cc,.int .i64 rw',.int .i64 rh,.int .i64 rc,.int .i64 rd,.slice (some ⟨g,off,none⟩) (n * N) sc,.slice ka kn kc] ((w.alloc (.cells #[.int .i64 hw,.int .i64 hh,.int .i64 hd,.int .i64 hc',.bool lace,.slice ta tn tc,.slice ca cn cc,.int .i64 rw',.int .i64 rh,.int .i64 rc,.int .i64 rd,.slice (some ⟨g,off,none⟩) (n * N) sc,.slice ka kn kc] 41)).alloc (.cells #[.slice none 0 0] 25))):=by
  refine⟨?_,?_,bal (bstart _ _) _,by simp⟩
  ·show ((w.heap.push _).push _)[w.heap.size]?=_
   rw[Array.getElem?_push,if_neg (by simp),Array.getElem?_push,if_pos (by simp)]
  ·show ((w.heap.push _).push _)[w.heap.size+1]?=_
   rw[Array.getElem?_push,if_pos (by simp)]
 go_wp2_with fail
 have HS0:PlZ w #[.int .i64 hw,.int .i64 hh,.int .i64 hd,.int .i64 hc',.bool lace,.slice ta tn tc,.slice ca cn cc,.int .i64 rw',.int .i64 rh,.int .i64 rc,.int .i64 rd,.slice (some ⟨g,off,none⟩) (n * N) sc,.slice ka kn kc] ((w.alloc (.cells #[.int .i64 hw,.int .i64 hh,.int .i64 hd,.int .i64 hc',.bool lace,.slice ta tn tc,.slice ca cn cc,.int .i64 rw',.int .i64 rh,.int .i64 rc,.int .i64 rd,.slice (some ⟨g,off,none⟩) (n * N) sc,.slice ka kn kc] 41)).alloc (.cells #[.slice none 0 0] 25)).drew:=H0.out.called (bdraws (Below.refl _ _) 1)
 clear H0
 refine Go.wp_region_noPanic ?_
 refine wp_region_held (S:=PlZ w #[.int .i64 hw,.int .i64 hh,.int .i64 hd,.int .i64 hc',.bool lace,.slice ta tn tc,.slice ca cn cc,.int .i64 rw',.int .i64 rh,.int .i64 rc,.int .i64 rd,.slice (some ⟨g,off,none⟩) (n * N) sc,.slice ka kn kc]) (by kernel_rfl) ?_
 show wpAnyH _ _ _ _ _ _ _ _ ((w.alloc _).alloc _).drew
 generalize ((w.alloc _).alloc _).drew=u0 at HS0 ⊢
 refine wpAnyH_take (i:=0) (v:=.pointer (some ⟨w.heap.size,7,none⟩)) rfl (by kernel_rfl) (by kernel_rfl) (by kernel_rfl) (fun _ _ _ h=>h) (Or.inl ⟨by rfl,?_⟩) HS0 ?_
 ·intro w' _
  go_simp
 simp only [Act.put,List.getElem_toArray,List.getElem_cons_zero,List.setIfInBounds_toArray,List.set_cons_zero,List.set_cons_succ]
 refine wpAnyH_take (i:=1) (v:=.pointer (some ⟨w.heap.size,11,none⟩)) rfl (by kernel_rfl) (by kernel_rfl) (by kernel_rfl) (fun _ _ _ h=>h) (Or.inl ⟨by rfl,?_⟩) HS0 ?_
 ·intro w' _
  go_simp
 simp only [Act.put,List.getElem_toArray,List.getElem_cons_zero,List.getElem_cons_succ,List.setIfInBounds_toArray,List.set_cons_zero,List.set_cons_succ]
 refine wpAnyH_take (i:=2) (v:=.slice (some ⟨g,off,none⟩) (n * N) sc) rfl (by kernel_rfl) (by kernel_rfl) (by kernel_rfl) (fun _ _ _ h=>h) (Or.inl ⟨by rfl,?_⟩) HS0 ?_
 ·intro w' hS
  have b0:=(cell_of_block hS.1 0).trans rfl; have b1:=(cell_of_block hS.1 1).trans rfl; have b2:=(cell_of_block hS.1 2).trans rfl; have b3:=(cell_of_block hS.1 3).trans rfl; have b4:=(cell_of_block hS.1 4).trans rfl; have b5:=(cell_of_block hS.1 5).trans rfl; have b6:=(cell_of_block hS.1 6).trans rfl; have b7:=(cell_of_block hS.1 7).trans rfl; have b8:=(cell_of_block hS.1 8).trans rfl; have b9:=(cell_of_block hS.1 9).trans rfl; have b10:=(cell_of_block hS.1 10).trans rfl; have b11:=(cell_of_block hS.1 11).trans rfl; have b12:=(cell_of_block hS.1 12).trans rfl; have bl:=block_lt hS.1
  go_simp
 simp only [Act.put,List.getElem_toArray,List.getElem_cons_zero,List.getElem_cons_succ,List.setIfInBounds_toArray,List.set_cons_zero,List.set_cons_succ]
 refine wpAnyH_take (i:=3) (v:=.pointer (some ⟨w.heap.size,0,none⟩)) rfl (by kernel_rfl) (by kernel_rfl) (by kernel_rfl) (fun _ _ _ h=>h) (Or.inl ⟨by rfl,?_⟩) HS0 ?_
 ·intro w' _
  go_simp
 simp only [Act.put,List.getElem_toArray,List.getElem_cons_zero,List.getElem_cons_succ,List.setIfInBounds_toArray,List.set_cons_zero,List.set_cons_succ]
 refine wpAnyH_take (i:=4) (v:=.pointer (some ⟨w.heap.size,3,none⟩)) rfl (by kernel_rfl) (by kernel_rfl) (by kernel_rfl) (fun _ _ _ h=>h) (Or.inl ⟨by rfl,?_⟩) HS0 ?_
 ·intro w' _
  go_simp
 simp only [Act.put,List.getElem_toArray,List.getElem_cons_zero,List.getElem_cons_succ,List.setIfInBounds_toArray,List.set_cons_zero,List.set_cons_succ]
 refine wpAnyH_take (i:=5) (v:=.int .i64 hc') rfl (by kernel_rfl) (by kernel_rfl) (by kernel_rfl) (fun _ _ _ h=>h) (Or.inl ⟨by rfl,?_⟩) HS0 ?_
 ·intro w' hS
  have b0:=(cell_of_block hS.1 0).trans rfl; have b1:=(cell_of_block hS.1 1).trans rfl; have b2:=(cell_of_block hS.1 2).trans rfl; have b3:=(cell_of_block hS.1 3).trans rfl; have b4:=(cell_of_block hS.1 4).trans rfl; have b5:=(cell_of_block hS.1 5).trans rfl; have b6:=(cell_of_block hS.1 6).trans rfl; have b7:=(cell_of_block hS.1 7).trans rfl; have b8:=(cell_of_block hS.1 8).trans rfl; have b9:=(cell_of_block hS.1 9).trans rfl; have b10:=(cell_of_block hS.1 10).trans rfl; have b11:=(cell_of_block hS.1 11).trans rfl; have b12:=(cell_of_block hS.1 12).trans rfl; have bl:=block_lt hS.1
  go_simp
 simp only [Act.put,List.getElem_toArray,List.getElem_cons_zero,List.getElem_cons_succ,List.setIfInBounds_toArray,List.set_cons_zero,List.set_cons_succ]
 refine wpAnyH_ready (rs:=[6]) (by kernel_rfl) (by simp) ?_
 refine AllReadyH.cons rfl (fun K1 hK=>?_) AllReadyH.nil
 refine if_wanted (wanted_none rfl) ?_
 simp only [List.getElem_toArray,List.getElem_cons_zero,List.getElem_cons_succ]
 go_simp
 refine (hch _).mono ?_
 rintro e u1 ⟨rfl,q⟩
 obtain rfl:=q
 refine hK.out _ _ HS0 (fun _=>?_)
 clear hK
 refine wpAnyH_ready (rs:=[7]) (by kernel_rfl) (by simp) ?_
 refine AllReadyH.cons rfl (fun K1 hK=>?_) AllReadyH.nil
 refine if_wanted (wanted_none rfl) ?_
 simp only [List.getElem_toArray,List.getElem_cons_zero,List.getElem_cons_succ]
 go_simp
 refine (chunkI_any (some ⟨g,off,none⟩) (n * N) sc n u1 hN1.1).mono ?_
 rintro e u2 ⟨rfl,h2⟩
 have hb2:Below u1.heap.size u1 u2:=by rw [h2]; exact bal (bstart _ _) _
 have hBs:u2.cell? ⟨u1.heap.size,0,none⟩=some (.slice (some ⟨g,off,none⟩) (n * N) sc):=by rw [h2]; exact (grow_cell _ (by simp) 0).trans ((cell_of_block (heap_alloc_new u1 _) 0).trans rfl)
 have hBn:u2.cell? ⟨u1.heap.size+1,0,none⟩=some (.int .i64 (n:Int)):=by
  rw[h2]
  have h:=heap_alloc_new (u1.alloc (.cells #[.slice (some ⟨g,off,none⟩) (n * N) sc] 25)) (.cells #[.int .i64 (n:Int)] 3)
  rw[World.size_alloc] at h
  exact (cell_of_block h 0).trans rfl
 have hz2:u2.heap.size=u1.heap.size+2:=by rw [h2]; simp
 refine hK.out _ _ (HS0.called hb2) (fun HS2=>?_)
 clear hK h2
 refine wpAnyH_done (by kernel_rfl) ?_ _
 refine calm_of ?_
 have H2:Hid (PlI w #[.int .i64 hw,.int .i64 hh,.int .i64 hd,.int .i64 hc',.bool lace,.slice ta tn tc,.slice ca cn cc,.int .i64 rw',.int .i64 rh,.int .i64 rc,.int .i64 rd,.slice (some ⟨g,off,none⟩) (n * N) sc,.slice ka kn kc] p0 u2.heap.size 0 u2):=HS2.start
 have HBs:=hid_of hBs
 have HBn:=hid_of hBn
 have HZ1:Hid (w.heap.size+2≤u1.heap.size):=HS0.2.2.2
 clear HS2 HS0 hb2 hBs hBn
 generalize u1.heap.size=D at HBs HBn hz2 HZ1 ⊢
 go_wp2_with fail
 refine wp_pixel_range (fun k=>.slice (some ⟨g,off+n * k,none⟩) n n) N (BothI D (D+1)) (by simp [Act.eval]) (enters_of Try.func102 (by kernel_rfl) rfl) (chunkI_tells D (D+1) g off n N sc hN1.1 hN1.2 (by omega) hcapn u2 HBs.out HBn.out) (fun h k=>⟨k.1.trans h.1,k.2.trans h.2⟩) (fun X i o hi=>⟨World.putObj_heap_other (by omega),World.putObj_heap_other (by omega)⟩) (fun X o hX=>⟨(bstart X o).block _ (by omega),(bstart X o).block _ (by omega)⟩) (PlI w #[.int .i64 hw,.int .i64 hh,.int .i64 hd,.int .i64 hc',.bool lace,.slice ta tn tc,.slice ca cn cc,.int .i64 rw',.int .i64 rh,.int .i64 rc,.int .i64 rd,.slice (some ⟨g,off,none⟩) (n * N) sc,.slice ka kn kc] p0 u2.heap.size) (plI_own (by have:=HZ1.out; omega)) (fun k X n h=>h.called (bdraws (Below.refl _ _) n)) H2.out ?_ ?_ ?_
 ·intro l k V K hK
  simp only [List.setIfInBounds_toArray,List.set_cons_succ,List.set_cons_zero] at hK ⊢
  gi_wp2
  exact hK
 ·intro l k X hk hPI
  simp only [List.setIfInBounds_toArray,List.set_cons_succ,List.set_cons_zero]
  have HPI:=hid_of hPI
  have b0:=block_lt hPI.1
  have b_0:=(cell_of_block hPI.1 0).trans rfl
  have b_1:=(cell_of_block hPI.1 1).trans rfl
  have b_2:=(cell_of_block hPI.1 2).trans rfl
  have b_3:=(cell_of_block hPI.1 3).trans rfl
  have b_4:=(cell_of_block hPI.1 4).trans rfl
  have b_5:=(cell_of_block hPI.1 5).trans rfl
  have b_6:=(cell_of_block hPI.1 6).trans rfl
  have b_7:=(cell_of_block hPI.1 7).trans rfl
  have b_8:=(cell_of_block hPI.1 8).trans rfl
  have b_9:=(cell_of_block hPI.1 9).trans rfl
  have b_10:=(cell_of_block hPI.1 10).trans rfl
  have b_11:=(cell_of_block hPI.1 11).trans rfl
  have b_12:=(cell_of_block hPI.1 12).trans rfl
  clear hPI
  have hmt:=HME.out k (some ⟨g,off+n * k,none⟩) n X (HP.out.called HPI.out.2.2.1) hk (HCE.out k hk X HPI.out.2.2.1) (Nat.le_refl _)
  rw[HV.out] at hmt
  have HPX:Hid (∀ j,j < 4→pixL p0 (4 * k+j)=pixV p0 k j):=fun j hj=>by unfold pixL; rw [show (4 * k+j) / 4=k by omega,show (4 * k+j) % 4=j by omega]
  replace hmt:=hmt.mono (fun e W (h:e=.returned (.agg #[.int .i64 (pixV p0 k 0),.int .i64 (pixV p0 k 1),.int .i64 (pixV p0 k 2),.int .i64 (pixV p0 k 3)])∧Below X.heap.size X W)=>h)
  have x0:=HPX.out 0 (by omega)
  have x1:=HPX.out 1 (by omega)
  have x2:=HPX.out 2 (by omega)
  have x3:=HPX.out 3 (by omega)
  rw[← x0,← x1,← x2,← x3] at hmt
  clear x0 x1 x2 x3 HPX
  have e0:Hid (fints (pixL p0) (4 * (k+1))=fints (pixL p0) (4 * k) ++ [.int .i64 (pixL p0 (4 * k+0)),.int .i64 (pixL p0 (4 * k+1)),.int .i64 (pixL p0 (4 * k+2)),.int .i64 (pixL p0 (4 * k+3))]):=fints_four _ _
  generalize pixL p0 (4 * k+0)=x0 at hmt e0
  generalize pixL p0 (4 * k+1)=x1 at hmt e0
  generalize pixL p0 (4 * k+2)=x2 at hmt e0
  generalize pixL p0 (4 * k+3)=x3 at hmt e0
  gi_wp2_with (refine⟨trivial,?_⟩; gi_at_call 76; refine (CallsIn.inRound l (callsIn_wide.2 hmt)).mono ?_; rintro e V1 ⟨rfl,hB1⟩)
  have HB1:=hid_of hB1
  have HI1:=hid_of (HPI.out.called hB1)
  have HK1:Hid (KeepsFrom u2.heap.size X V1∧BothI D (D+1) X V1):=⟨⟨hB1.size,fun k o _ hk _=>(hB1.block k (block_lt hk)).trans hk⟩,hB1.block D (by have:=HPI.out.2.2.2.2; omega),hB1.block (D+1) (by have:=HPI.out.2.2.2.2; omega)⟩
  clear hB1 HPI hmt b0 b_0 b_1 b_2 b_3 b_4 b_5 b_6 b_7 b_8 b_9 b_10 b_11 b_12
  refine region_round (S:=fun _=>True) (by simp) (by
   rintro⟨_,_,h⟩
   exact absurd (show Exit.outgrown=Exit.normal from h.1) (by simp)) ?_
  have HI2:Hid (PlI w #[.int .i64 hw,.int .i64 hh,.int .i64 hd,.int .i64 hc',.bool lace,.slice ta tn tc,.slice ca cn cc,.int .i64 rw',.int .i64 rh,.int .i64 rc,.int .i64 rd,.slice (some ⟨g,off,none⟩) (n * N) sc,.slice ka kn kc] p0 u2.heap.size k (V1.alloc (.cells #[.int .i64 x0,.int .i64 x1,.int .i64 x2,.int .i64 x3] 101)).drew):=HI1.out.called (bdraws (bstart V1 (.cells #[.int .i64 x0,.int .i64 x1,.int .i64 x2,.int .i64 x3] 101)) 1)
  have HX5:Hid ((V1.alloc (.cells #[.int .i64 x0,.int .i64 x1,.int .i64 x2,.int .i64 x3] 101)).drew.heap[V1.heap.size]?=some (.cells #[.int .i64 x0,.int .i64 x1,.int .i64 x2,.int .i64 x3] 101 (0,0))):=hid_of (heap_alloc_new V1 _)
  have HK2:Hid (KeepsFrom u2.heap.size X (V1.alloc (.cells #[.int .i64 x0,.int .i64 x1,.int .i64 x2,.int .i64 x3] 101)).drew∧BothI D (D+1) X (V1.alloc (.cells #[.int .i64 x0,.int .i64 x1,.int .i64 x2,.int .i64 x3] 101)).drew):=by
   have hb:=bdraws (bstart V1 (.cells #[.int .i64 x0,.int .i64 x1,.int .i64 x2,.int .i64 x3] 101)) 1
   have hz:=HI1.out.2.2.2.2
   exact⟨HK1.out.1.trans ⟨hb.size,fun k o _ hk _=>(hb.block k (block_lt hk)).trans hk⟩,(hb.block D (by omega)).trans HK1.out.2.1,(hb.block (D+1) (by omega)).trans HK1.out.2.2⟩
  generalize (V1.alloc (.cells #[.int .i64 x0,.int .i64 x1,.int .i64 x2,.int .i64 x3] 101)).drew=V2 at HI2 HX5 HK2 ⊢
  generalize V1.heap.size=X5 at HX5 ⊢
  clear HI1 HK1 HB1
  obtain⟨i1,⟨v,i2,i3⟩,i4,i5,i6⟩:=id HI2.out
  obtain⟨t0,hi0,hz0,hz1,hz2⟩:=info_parts info_int18
  obtain⟨v2,V3,hr,a2,a3,_,_⟩:=run_append_own_at (P:=Try.prog) V2 u2.heap.size 25 25 3 t0 (.int .i64 0) 1 8 Try.underlying25 hi0 hz0 hz1 hz2 rfl (by omega) v (4 * k) _ i3 ⟨X5,0,none⟩ 4 4 [.int .i64 x0,.int .i64 x1,.int .i64 x2,.int .i64 x3] rfl (fun j u hu=>by
   rw[Addr.add_lit,Nat.zero_add,cell_of_block HX5.out j]
   simpa using hu) (by simp [Value.oneCell']) (by unfold maxLen; omega) (by omega) i6
  obtain⟨va,vl,vc,rfl⟩:∃ a l c,v2=.slice a l c:=by
   rcases a2.2 with ⟨h,_⟩ | ⟨_,_,_,h,_⟩
   ·exact⟨_,_,_,h⟩
   ·exact⟨_,_,_,h⟩
  have c0:V2.cell? ⟨w.heap.size+1,0,none⟩=some v:=(cell_of_block i2 0).trans rfl
  have zl:=block_lt i2
  have hrow:∀ b,v.ownBlock=some b→u2.heap.size≤b:=fun b hb=>(i3.lt b hb).1
  have j2:V3.heap[w.heap.size+1]?=some (.cells #[v] 25 (0,0)):=(a3.block _ zl (fun e=>by have:=hrow _ e.symm; have:=HZ1.out; omega)).trans i2
  have HJ2:=hid_of j2
  have d0:V3.cell? ⟨w.heap.size+1,0,none⟩=some v:=(cell_of_block j2 0).trans rfl
  have df:∀ k,V3.frozen? ⟨w.heap.size+1,k,none⟩=false:=unfrozen_of_block j2
  have dl:=block_lt j2
  have HA2:=hid_of a2
  have HA3:=hid_of a3
  have HROW:=hid_of hrow
  have HOWN:Hid (∀ b,v.ownBlock=some b→∃ cs,V2.heap[b]?=some (.cells cs 3 (0,0))):=fun b hb=>by
   rcases i3.2 with ⟨h,_⟩ | ⟨g1,cap,cur,h,_,q2,_⟩
   ·rw[h] at hb; simp [Value.ownBlock] at hb
   ·rw[h] at hb
    simp[Value.ownBlock] at hb
    exact⟨cur,hb ▸ q2⟩
  clear i1 i2 i3 i4 j2 a2 a3 hrow hi0 hz0 hz1 hz2
  have HS:(fun _:World=>True) V2:=trivial
  refine wpAnyH_take (i:=1) (v:=.slice (some ⟨X5,0,none⟩) 4 4) rfl (by kernel_rfl) (by kernel_rfl) (by kernel_rfl) (fun _ _ _ h=>h) (Or.inl ⟨by rfl,?_⟩) HS ?_
  ·intro w' _
   go_simp
  simp only [Act.put,List.getElem_toArray,List.getElem_cons_zero,List.getElem_cons_succ,List.setIfInBounds_toArray,List.set_cons_zero,List.set_cons_succ]
  refine wpAnyH_ready (rs:=[0]) (by kernel_rfl) (by simp) ?_
  refine AllReadyH.cons rfl (fun K1 hK=>?_) AllReadyH.nil
  refine if_wanted (wanted_none rfl) ?_
  simp only [List.getElem_toArray,List.getElem_cons_zero]
  go_simp
  refine hK.out _ _ trivial (fun _=>?_)
  clear hK
  refine wpAnyH_ready (rs:=[2]) (by kernel_rfl) (by simp) ?_
  refine AllReadyH.cons rfl (fun K1 hK=>?_) AllReadyH.nil
  refine if_wanted (wanted_none rfl) ?_
  simp only [List.getElem_toArray,List.getElem_cons_zero,List.getElem_cons_succ]
  refine step_append_run (.tmp 18) (.tmp 19) 25 rfl v (.slice (some ⟨X5,0,none⟩) 4 4) (by simp [Act.eval]) (by simp [Act.eval]) hr ?_
  refine hK.out _ _ trivial (fun _=>?_)
  simp only [Act.put,List.setIfInBounds_toArray,List.set_cons_zero,List.set_cons_succ]
  clear hK
  refine wpAnyH_ready (rs:=[3]) (by kernel_rfl) (by simp) ?_
  refine AllReadyH.cons rfl (fun K1 hK=>?_) AllReadyH.nil
  refine if_wanted (wanted_none rfl) ?_
  simp only [List.getElem_toArray,List.getElem_cons_zero,List.getElem_cons_succ]
  go_simp
  refine hK.out _ _ trivial (fun _=>?_)
  clear hK
  refine wpAnyH_done (by kernel_rfl) ?_ _
  have hB:=HZ1.out
  have hW:∀ b,b≠w.heap.size+1→b < V2.heap.size→v.ownBlock≠some b→(V3.setCell ⟨w.heap.size+1,0,none⟩ (.slice va vl vc)).heap[b]?=V2.heap[b]?:=fun b h1 h2 h3=>(Below.heap_setCell _ _ _ _ h1).trans (HA3.out.block _ h2 (fun e=>h3 e.symm))
  have hsz:V2.heap.size≤(V3.setCell ⟨w.heap.size+1,0,none⟩ (.slice va vl vc)).heap.size:=by have:=HA3.out.size; simpa using this
  refine⟨rfl,?_,?_,?_⟩
  ·refine HK2.out.1.trans ⟨hsz,fun b ob hb hk ho=>?_⟩
   rw[hW b (by omega) (block_lt hk) (fun e=>by
    obtain⟨cs,h⟩:=HOWN.out b e
    rw[hk] at h
    cases h
    cases ho)]
   exact hk
  ·have hz:=HI2.out.2.2.2.2
   have hno:∀ b,b < u2.heap.size→v.ownBlock≠some b:=fun b h e=>by have:=HROW.out _ e; omega
   exact⟨(hW D (by omega) (by omega) (hno D (by omega))).trans HK2.out.2.1,(hW (D+1) (by omega) (by omega) (hno (D+1) (by omega))).trans HK2.out.2.2⟩
  ·obtain⟨i1,_,i4,i5,i6⟩:=id HI2.out
   refine⟨(hW _ (by omega) (block_lt i1) (fun e=>by have:=HROW.out _ e; omega)).trans i1,⟨.slice va vl vc,by simp [World.setCell,Array.getElem?_modify,HJ2.out],?_⟩,(i4.grown HA3.out (by omega) (fun b hb=>by have:=HROW.out _ hb; omega)).setCell (p:=⟨w.heap.size+1,0,none⟩) (by simp) _,i5,by omega⟩
   rw[e0.out,show 4 * (k+1)=4 * k+4 by omega]
   exact own_kept HA2.out fun b cs fz hb _=>Below.heap_setCell _ _ _ _ (by show b≠w.heap.size+1; omega)
 ·intro X hPI hD
  obtain⟨i1,⟨v,i2,i3⟩,i4,i5,i6⟩:=hPI
  have c0:X.cell? ⟨w.heap.size+1,0,none⟩=some v:=(cell_of_block i2 0).trans rfl
  have l1:=block_lt i2
  have HD:=hid_of hD
  have HPO:Hid (PixelsPost p0 w (.returned v) (X.putObj u2.heap.size (.deferred none))):=by
   refine hpost.out _ _ ?_
   have hne:∀ (b:Nat) (cs:Array Value) (fz:Nat×Nat),X.heap[b]?=some (.cells cs 3 fz)→(X.putObj u2.heap.size (.deferred none)).heap[b]?=X.heap[b]?:=fun b cs fz hb=>World.putObj_heap_other (fun e=>by rw [e,hD] at hb; cases hb)
   have hbf:Below w.heap.size w (X.putObj u2.heap.size (.deferred none)):=i4.grown (grownBy_putObj' X _ _) (by omega) (fun j q=>by cases q; have:=HZ1.out; omega)
   rcases i3.2 with ⟨_,h⟩ | ⟨g1,cap,cur,e,q1,q2,q3,q4,q5,q6⟩
   ·omega
   ·refine⟨_,cap,by rw [e],.inr ⟨g1,rfl,cap,cur,(0,0),?_,by have:=HZ1.out; omega,(hne _ _ _ q2).trans q2,.inl rfl,?_,q4,?_,?_⟩,hbf⟩
    ·rw[fints_length]
    ·rw[fints_length]; exact q3
    ·simpa using q5
    ·rw[fints_length]; simpa using q6
  clear i1 i2 i3 i4 i5 i6 hD
  go_wp2_with fail
  exact pixels_leave HD.out (by simp) HPO.out
end Go.Proofs.Ytkpbfmdnjnohlaa
