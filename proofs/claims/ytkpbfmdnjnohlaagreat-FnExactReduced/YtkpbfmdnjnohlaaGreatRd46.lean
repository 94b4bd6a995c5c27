/-
  Texts of the proof, put together.
-/
import Derived.Test.YtkpbfmdnjnohlaaGreatRd32
import Derived.Test.YtkpbfmdnjnohlaaGreatRd05
import Derived.Maps.OwnIn
namespace Go.Proofs.YtkpbfmdnjnohlaaGreat
open Go.RowKit Go.Joins Go.Shelf OutMath PutMath RastMath HeadMath
attribute [local go_sem] Oper.semAt_some
def pxcells:List Q4→List Value
 | []=>[]
 | q :: l=>.int .i64 q.1 :: .int .i64 q.2.1 :: .int .i64 q.2.2.1 :: .int .i64 q.2.2.2 :: pxcells l
theorem pxcells_app:∀ xs ys:List Q4,pxcells (xs ++ ys)=pxcells xs ++ pxcells ys
 | [],ys=>rfl
 | q :: l,ys=>by simp only [List.cons_append,pxcells,pxcells_app l ys]
theorem pxcells_get:∀ (l:List Q4) (i:Nat) (q:Q4),l[i]?=some q→(pxcells l)[i * 4]?=some (.int .i64 q.1)∧(pxcells l)[i * 4+1]?=some (.int .i64 q.2.1)∧(pxcells l)[i * 4+2]?=some (.int .i64 q.2.2.1)∧(pxcells l)[i * 4+3]?=some (.int .i64 q.2.2.2)
 | [],i,q,h=>by simp at h
 | r :: l,0,q,h=>by
  simp only [List.getElem?_cons_zero,Option.some.injEq] at h
  subst h
  exact⟨rfl,rfl,rfl,rfl⟩
 | r :: l,i+1,q,h=>by
  simp only [List.getElem?_cons_succ] at h
  have:=pxcells_get l i q h
  rw[show (i+1) * 4=i * 4+1+1+1+1 by omega]
  exact this
structure MgB (w:World) (A:Array Value) (vl vp:Value) (X:World):Prop where
 b0:X.heap[w.heap.size]?=some (.cells A 37 (0,0))
 b1:X.heap[w.heap.size+1]?=some (.cells #[vl] 75 (0,0))
 b2:X.heap[w.heap.size+1+1]?=some (.cells #[vp] 25 (0,0))
 b4:X.heap[w.heap.size+1+1+1+1]?=some (.cells #[.map (some (w.heap.size+1+1+1))] 102 (0,0))
 bl:Below w.heap.size w X
 sz:w.heap.size+5≤X.heap.size
theorem MgB.called {w X Y:World} {A:Array Value} {vl vp:Value} (h:MgB w A vl vp X) (hb:Below X.heap.size X Y):MgB w A vl vp Y:=⟨(hb.block _ (block_lt h.b0)).trans h.b0,(hb.block _ (block_lt h.b1)).trans h.b1,(hb.block _ (block_lt h.b2)).trans h.b2,(hb.block _ (block_lt h.b4)).trans h.b4,bnext h.bl hb,Nat.le_trans h.sz hb.size⟩
def MgI (w:World) (A:Array Value) (p:Pic) (Bs:Nat) (k:Nat) (X:World):Prop:=(∃ vl vp,MgB w A vl vp X∧X.ownsRow Bs 104 4 vl (ddL (pq p) k).length (pxcells (ddL (pq p) k))∧X.ownsRow Bs 3 1 vp k (fints (fun i=>(plc (pq p) i:Int)) k))∧PM X (w.heap.size+1+1+1) (ddL (pq p) k)∧w.heap.size+5≤Bs∧Bs≤X.heap.size
theorem own_kept_t {t:TypeId} {s:Nat} {V V':World} {Bs n:Nat} {v:Value} {L:List Value} (h:V.ownsRow Bs t s v n L) (hk:∀ (b:Nat) (cs:Array Value) (fz:Nat×Nat),Bs≤b→V.heap[b]?=some (.cells cs t fz)→V'.heap[b]?=V.heap[b]?):V'.ownsRow Bs t s v n L:=by
 refine⟨h.1,?_⟩
 rcases h.2 with h | ⟨g,cap,cur,e,q1,q2,q3⟩
 ·exact .inl h
 ·exact .inr ⟨g,cap,cur,e,q1,(hk g _ _ q1 q2).trans q2,q3⟩
theorem MgI.called {w X Y:World} {A:Array Value} {p:Pic} {Bs k:Nat} (h:MgI w A p Bs k X) (hb:Below X.heap.size X Y):MgI w A p Bs k Y:=by
 obtain⟨⟨vl,vp,h1,h2,h3⟩,h4,h5,h6⟩:=h
 exact⟨⟨vl,vp,h1.called hb,own_kept_t h2 fun b cs fz _ hc=>hb.block b (block_lt hc),own_kept_t h3 fun b cs fz _ hc=>hb.block b (block_lt hc)⟩,h4.called hb,h5,Nat.le_trans h6 hb.size⟩
theorem wp_mng_range {T:Array Value} {assign body:Code} {Q:Exit→Act→World→Prop} {W:World} {gf:Nat} {lb:Array Value} (v:Nat→Value) (N:Nat) (Kp:World→World→Prop)
  (hg:({ tmps:=T,defers:=[] }:Act).eval (.tmp 19)=.func (.func gf) #[] lb) (eg:∀ args w,(callFunc gf args).run Tryz.prog w=.ok (.enter gf args) w) (hseq:TellsNext gf lb (fun k=>#[v k]) N Kp W)
  (hKt:∀ {A B C:World},Kp A B→Kp B C→Kp A C) (hKp:∀ (X:World) (i:Nat) (o:Obj),W.heap.size≤i→Kp X (X.putObj i o)) (hKa:∀ (X:World) (o:Obj),W.heap.size≤X.heap.size→Kp X (X.alloc o))
  (I:Nat→World→Prop) (hI:OwnFrom W.heap.size I) (hId:∀ k X n,I k X→I k (X.drewN n)) (h0:I 0 W)
  (hassign:∀ (l k:Nat) (X:World) (K:Act→World→Prop),K { tmps:=(T.setIfInBounds 20 (v k)).setIfInBounds 7 (v k),defers:=[] } X→assign.wpIn (Fence.wide.inRound l) 4 Tryz.prog (Exit.then K (fun _ _ _=>False)) { tmps:=T.setIfInBounds 20 (v k),defers:=[] } X)
  (hbody:∀ (l k:Nat) (X:World),k < N→I k X→body.wpIn (Fence.wide.inRound l) 4 Tryz.prog (fun e _ Y=>e=.normal∧KeepsFrom W.heap.size X Y∧Kp X Y∧I (k+1) Y) { tmps:=(T.setIfInBounds 20 (v k)).setIfInBounds 7 (v k),defers:=[] } X)
  (hdone:∀ (X:World),I N X→X.heap[W.heap.size]?=some (.deferred (some []))→Q .normal { tmps:=T,defers:=[{ target:=.collected W.heap.size,args:=#[] }] } X):
  (Code.rangeFunc (.tmp 19) #[20] assign body).wp Tryz.prog Q { tmps:=T,defers:=[] } W:=by
 refine wp_range_next (fun k=>#[v k]) N Kp hg eg (fun _=>rfl) hseq hKt hKp hKa I hI hId h0 (fun k=>{ tmps:=(T.setIfInBounds 20 (v k)).setIfInBounds 7 (v k),defers:=[] }) ?_ hbody hdone
 intro l k X K hK
 refine Eq.mp (congrArg (fun T'=>Code.wpIn (Fence.wide.inRound l) 4 Tryz.prog assign (Exit.then K fun _ _ _=>False) { tmps:=T',defers:=[] } X) ?_) (hassign l k X K hK)
 simp
theorem mgI_own {B:Nat} {w:World} {A:Array Value} {p:Pic} {Bs:Nat} (hB:w.heap.size+5≤B):OwnFrom B (MgI w A p Bs):=fun k V V' row hs hg hr=>by
 obtain⟨⟨vl,vp,h1,h2,h3⟩,h4,h5,h6⟩:=hs
 have hne:∀ (b:Nat) (cs:Array Value) (t:TypeId) (fz:Nat×Nat),V.heap[b]?=some (.cells cs t fz)→V'.heap[b]?=V.heap[b]?:=fun b cs t fz hb=>hg.block b (block_lt hb) (fun e=>by
  obtain⟨_,ob,h6,h7⟩:=hr b e.symm
  rw[hb] at h6
  cases h6
  cases h7)
 exact⟨⟨vl,vp,⟨(hne _ _ _ _ h1.b0).trans h1.b0,(hne _ _ _ _ h1.b1).trans h1.b1,(hne _ _ _ _ h1.b2).trans h1.b2,(hne _ _ _ _ h1.b4).trans h1.b4,h1.bl.grown hg (by have:=h1.sz; omega) (fun q hq=>by have:=(hr q hq).1; omega),Nat.le_trans h1.sz hg.size⟩,own_kept_t h2 fun b cs fz _ hc=>hne b cs _ fz hc,own_kept_t h3 fun b cs fz _ hc=>hne b cs _ fz hc⟩,h4.keep (hg.block _ h4.lt (fun e=>by have:=(hr _ e.symm).1; omega)),h5,Nat.le_trans h6 hg.size⟩
def MgZ (w:World) (A:Array Value) (X:World):Prop:=MgB w A (.slice none 0 0) (.slice none 0 0) X∧PM X (w.heap.size+1+1+1) []
theorem MgZ.called {w X Y:World} {A:Array Value} (h:MgZ w A X) (hb:Below X.heap.size X Y):MgZ w A Y:=⟨h.1.called hb,h.2.called hb⟩
theorem MgZ.start (w:World) (A:Array Value):MgZ w A (((((w.alloc (.cells A 37)).alloc (.cells #[.slice none 0 0] 75)).alloc (.cells #[.slice none 0 0] 25)).alloc (.map #[] 0)).alloc (.cells #[.map (some (w.heap.size+1+1+1))] 102)):=by
 refine⟨⟨?_,?_,?_,?_,bal (bal (bal (bal (bstart _ _) _) _) _) _,by simp⟩,?_⟩
 ·show (((((w.heap.push _).push _).push _).push _).push _)[w.heap.size]?=_
  rw[Array.getElem?_push,if_neg (by first | (simp; done) | (simp; omega)),Array.getElem?_push,if_neg (by first | (simp; done) | (simp; omega)),Array.getElem?_push,if_neg (by first | (simp; done) | (simp; omega)),Array.getElem?_push,if_neg (by first | (simp; done) | (simp; omega)),Array.getElem?_push,if_pos (by simp)]
 ·show (((((w.heap.push _).push _).push _).push _).push _)[w.heap.size+1]?=_
  rw[Array.getElem?_push,if_neg (by first | (simp; done) | (simp; omega)),Array.getElem?_push,if_neg (by first | (simp; done) | (simp; omega)),Array.getElem?_push,if_neg (by first | (simp; done) | (simp; omega)),Array.getElem?_push,if_pos (by simp)]
 ·show (((((w.heap.push _).push _).push _).push _).push _)[w.heap.size+1+1]?=_
  rw[Array.getElem?_push,if_neg (by first | (simp; done) | (simp; omega)),Array.getElem?_push,if_neg (by first | (simp; done) | (simp; omega)),Array.getElem?_push,if_pos (by simp)]
 ·show (((((w.heap.push _).push _).push _).push _).push _)[w.heap.size+1+1+1+1]?=_
  rw[Array.getElem?_push,if_pos (by simp)]
 ·refine⟨#[],0,?_,rfl,fun i e h=>by simp at h⟩
  show (((((w.heap.push _).push _).push _).push _).push _)[w.heap.size+1+1+1]?=_
  rw[Array.getElem?_push,if_neg (by first | (simp; done) | (simp; omega)),Array.getElem?_push,if_pos (by simp)]
theorem row_called_t {t:TypeId} {s:Nat} {V V':World} {Bs n:Nat} {v:Value} {L:List Value} (h:V.ownsRow Bs t s v n L) (hb:Below V.heap.size V V'):V'.ownsRow Bs t s v n L:=own_kept_t h fun b _ _ _ hc=>hb.block b (block_lt hc)
theorem mg_stored {wz V4:World} {t tb:TypeId} {s n:Nat} {vp v':Value} {L:List Value} {Bs Y:Nat} (hp:wz.ownsRow Bs t s vp n L) (hbox:wz.heap[Y]?=some (.cells #[vp] tb (0,0))) (hY:Y < Bs) (hz2:Bs≤wz.heap.size) (y2:wz.grownBy V4 vp.ownBlock):
  (V4.setCell ⟨Y,0,none⟩ v').heap[Y]?=some (.cells #[v'] tb (0,0))∧(∀ (b:Nat) (cs:Array Value) (t2:TypeId) (fz:Nat×Nat),t2≠t→b≠Y→wz.heap[b]?=some (.cells cs t2 fz)→(V4.setCell ⟨Y,0,none⟩ v').heap[b]?=wz.heap[b]?)∧(∀ (b:Nat) (ob:Obj),ob.isCells=false→wz.heap[b]?=some ob→(V4.setCell ⟨Y,0,none⟩ v').heap[b]?=some ob)∧(∀ b,b < Bs→b≠Y→(V4.setCell ⟨Y,0,none⟩ v').heap[b]?=wz.heap[b]?)∧wz.heap.size≤(V4.setCell ⟨Y,0,none⟩ v').heap.size∧V4.heap[Y]?=some (.cells #[vp] tb (0,0)):=by
 have hrow:∀ b,vp.ownBlock=some b→Bs≤b:=fun b hb=>(hp.lt b hb).1
 have hq:V4.heap[Y]?=some (.cells #[vp] tb (0,0)):=(y2.block _ (by omega) (fun e=>by have:=hrow _ e.symm; omega)).trans hbox
 have hown:∀ b,vp.ownBlock=some b→∃ cs,wz.heap[b]?=some (.cells cs t (0,0)):=fun b hb=>by
  rcases hp.2 with ⟨h,_⟩ | ⟨g1,cap,cur,h,_,q2,_⟩
  ·rw[h] at hb; simp [Value.ownBlock] at hb
  ·rw[h] at hb
   simp[Value.ownBlock] at hb
   exact⟨cur,hb ▸ q2⟩
 refine⟨by simp [World.setCell,Array.getElem?_modify,hq],fun b cs t2 fz ht hb hh=>?_,fun b ob ho hh=>?_,fun b hb hne=>?_,by have:=y2.size; simpa using this,hq⟩
 ·rw[Below.heap_setCell _ _ _ _ (by show b≠Y; exact hb)]
  refine y2.block _ (block_lt hh) (fun e=>?_)
  obtain⟨cs',h'⟩:=hown b e.symm
  rw[hh] at h'
  cases h'
  exact ht rfl
 ·have hb:b≠Y:=fun e=>by rw [e,hbox] at hh; cases hh; cases ho
  rw[Below.heap_setCell _ _ _ _ (by show b≠Y; exact hb)]
  refine (y2.block _ (block_lt hh) (fun e=>?_)).trans hh
  obtain⟨cs',h'⟩:=hown b e.symm
  rw[hh] at h'
  cases h'
  cases ho
 ·rw[Below.heap_setCell _ _ _ _ (by show b≠Y; exact hne)]
  exact y2.block _ (by omega) (fun e=>by have:=hrow _ e.symm; omega)
theorem info_px:(Tryz.prog.info? 104).map (fun i=>(i.zero,i.size,i.bytes))=some (some (.agg #[.int .i64 0,.int .i64 0,.int .i64 0,.int .i64 0]),4,32):=by kernel_rfl
structure MgS (w:World) (A:Array Value) (f:Nat→Q4) (Bs D:Nat) (X0:World) (vl vp:Value) (L:List Q4) (n:Nat) (Y:World):Prop where
 bx:MgB w A vl vp Y
 li:Y.ownsRow Bs 104 4 vl L.length (pxcells L)
 pl:Y.ownsRow Bs 3 1 vp n (fints (fun i=>(plc f i:Int)) n)
 sz:Bs≤Y.heap.size
 kf:KeepsFrom Bs X0 Y
 bo:BothI D (D+1) X0 Y
 lo:w.heap.size+5≤D∧D+2≤Bs
theorem MgS.called {w X0 Y Z:World} {A:Array Value} {f:Nat→Q4} {Bs D n:Nat} {vl vp:Value} {L:List Q4} (h:MgS w A f Bs D X0 vl vp L n Y) (hb:Below Y.heap.size Y Z):MgS w A f Bs D X0 vl vp L n Z:=by
 have h1:=h.lo
 have h2:=h.sz
 exact⟨h.bx.called hb,row_called_t h.li hb,row_called_t h.pl hb,Nat.le_trans h.sz hb.size,h.kf.trans ⟨hb.size,fun k o _ hk _=>(hb.block k (block_lt hk)).trans hk⟩,⟨(hb.block D (by omega)).trans h.bo.1,(hb.block (D+1) (by omega)).trans h.bo.2⟩,h.lo⟩
theorem own_form {V:World} {Bs n s:Nat} {t:TypeId} {v:Value} {L:List Value} (h:V.ownsRow Bs t s v n L):∃ a c,v=.slice a n c:=by
 rcases h.2 with ⟨e,hn⟩ | ⟨g1,cap1,cur,e,_⟩
 ·exact⟨none,0,by rw [e,hn]⟩
 ·exact⟨_,_,e⟩
theorem MgS.mapped {w X0 Y Z:World} {A:Array Value} {f:Nat→Q4} {Bs D n:Nat} {vl vp:Value} {L:List Q4} (h:MgS w A f Bs D X0 vl vp L n Y) (hg:Y.grownBy Z (some (w.heap.size+1+1+1))):MgS w A f Bs D X0 vl vp L n Z:=by
 have h1:=h.lo
 have h2:=h.sz
 have hk:∀ b,b < Y.heap.size→b≠w.heap.size+1+1+1→Z.heap[b]?=Y.heap[b]?:=fun b hb hne=>hg.block b hb (fun e=>hne (Option.some.inj e))
 refine⟨⟨(hk _ (by omega) (by omega)).trans h.bx.b0,(hk _ (by omega) (by omega)).trans h.bx.b1,(hk _ (by omega) (by omega)).trans h.bx.b2,(hk _ (by omega) (by omega)).trans h.bx.b4,h.bx.bl.grown hg (by omega) (fun k e=>by cases e; omega),Nat.le_trans h.bx.sz hg.size⟩,own_kept_t h.li fun b cs fz hb hc=>hk b (block_lt hc) (by omega),own_kept_t h.pl fun b cs fz hb hc=>hk b (block_lt hc) (by omega),Nat.le_trans h.sz hg.size,h.kf.trans ⟨hg.size,fun k o hb hc _=>(hk k (block_lt hc) (by omega)).trans hc⟩,⟨(hk D (by omega) (by omega)).trans h.bo.1,(hk (D+1) (by omega) (by omega)).trans h.bo.2⟩,h.lo⟩
theorem MgS.listed {w X0 Y V:World} {A:Array Value} {f:Nat→Q4} {Bs D n:Nat} {vl vp v':Value} {L:List Q4} (q:Q4) (h:MgS w A f Bs D X0 vl vp L n Y) (y1:V.ownsRow Bs 104 4 v' (L.length+1) (pxcells L ++ [.int .i64 q.1,.int .i64 q.2.1,.int .i64 q.2.2.1,.int .i64 q.2.2.2])) (y2:Y.grownBy V vl.ownBlock):
  MgS w A f Bs D X0 v' vp (L ++ [q]) n (V.setCell ⟨w.heap.size+1,0,none⟩ v')∧V.heap[w.heap.size+1]?=some (.cells #[vl] 75 (0,0))∧∀ E,PM Y (w.heap.size+1+1+1) E→PM (V.setCell ⟨w.heap.size+1,0,none⟩ v') (w.heap.size+1+1+1) E:=by
 have h1:=h.lo
 have h2:=h.sz
 obtain⟨s1,s2,s3,s4,s5,s6⟩:=mg_stored (v':=v') h.li h.bx.b1 (by omega) h.sz y2
 refine⟨⟨⟨(s4 _ (by omega) (by omega)).trans h.bx.b0,s1,(s4 _ (by omega) (by omega)).trans h.bx.b2,(s4 _ (by omega) (by omega)).trans h.bx.b4,(h.bx.bl.grown y2 (by omega) (fun k e=>by have:=(h.li.lt k e).1; omega)).setCell (p:=⟨w.heap.size+1,0,none⟩) (by show w.heap.size≤w.heap.size+1; omega) _,Nat.le_trans h.bx.sz s5⟩,?_,own_kept_t h.pl fun b cs fz hb hc=>s2 b cs 3 fz (by decide) (by omega) hc,Nat.le_trans h.sz s5,h.kf.trans ⟨s5,fun i o hB hi ho=>(s3 i o ho hi)⟩,⟨(s4 D (by omega) (by omega)).trans h.bo.1,(s4 (D+1) (by omega) (by omega)).trans h.bo.2⟩,h.lo⟩,s6,fun E hE=>hE.keep (s4 _ (by omega) (by omega))⟩
 rw[List.length_append,pxcells_app]
 exact own_kept_t y1 fun b cs fz hb _=>Below.heap_setCell _ _ _ _ (by show b≠w.heap.size+1; omega)
theorem fints_succ (F:Nat→Int) (k:Nat):fints F (k+1)=fints F k ++ [.int .i64 (F k)]:=by
 unfold fints
 rw[List.range_succ,List.map_append]
 rfl
theorem MgS.placed {w X0 Y V:World} {A:Array Value} {f:Nat→Q4} {Bs D n:Nat} {vl vp v':Value} {L:List Q4} (h:MgS w A f Bs D X0 vl vp L n Y) (y1:V.ownsRow Bs 3 1 v' (n+1) (fints (fun i=>(plc f i:Int)) n ++ [.int .i64 (plc f n:Int)])) (y2:Y.grownBy V vp.ownBlock):
  MgS w A f Bs D X0 vl v' L (n+1) (V.setCell ⟨w.heap.size+1+1,0,none⟩ v')∧V.heap[w.heap.size+1+1]?=some (.cells #[vp] 25 (0,0))∧∀ E,PM Y (w.heap.size+1+1+1) E→PM (V.setCell ⟨w.heap.size+1+1,0,none⟩ v') (w.heap.size+1+1+1) E:=by
 have h1:=h.lo
 have h2:=h.sz
 obtain⟨s1,s2,s3,s4,s5,s6⟩:=mg_stored (v':=v') h.pl h.bx.b2 (by omega) h.sz y2
 refine⟨⟨⟨(s4 _ (by omega) (by omega)).trans h.bx.b0,(s4 _ (by omega) (by omega)).trans h.bx.b1,s1,(s4 _ (by omega) (by omega)).trans h.bx.b4,(h.bx.bl.grown y2 (by omega) (fun k e=>by have:=(h.pl.lt k e).1; omega)).setCell (p:=⟨w.heap.size+1+1,0,none⟩) (by show w.heap.size≤w.heap.size+1+1; omega) _,Nat.le_trans h.bx.sz s5⟩,own_kept_t h.li fun b cs fz hb hc=>s2 b cs 104 fz (by decide) (by omega) hc,?_,Nat.le_trans h.sz s5,h.kf.trans ⟨s5,fun i o hB hi ho=>(s3 i o ho hi)⟩,⟨(s4 D (by omega) (by omega)).trans h.bo.1,(s4 (D+1) (by omega) (by omega)).trans h.bo.2⟩,h.lo⟩,s6,fun E hE=>hE.keep (s4 _ (by omega) (by omega))⟩
 rw[fints_succ]
 exact own_kept_t y1 fun b cs fz hb _=>Below.heap_setCell _ _ _ _ (by show b≠w.heap.size+1+1; omega)
theorem MgS.done {w X0 Y:World} {A:Array Value} {p:Pic} {Bs D n:Nat} {vl vp:Value} {L:List Q4} (h:MgS w A (pq p) Bs D X0 vl vp L (n+1) Y) (hL:ddL (pq p) (n+1)=L) (hp:PM Y (w.heap.size+1+1+1) L):KeepsFrom Bs X0 Y∧BothI D (D+1) X0 Y∧MgI w A p Bs (n+1) Y:=by
 refine⟨h.kf,h.bo,⟨vl,vp,h.bx,?_,h.pl⟩,?_,by have:=h.lo; omega,h.sz⟩
 ·rw[hL]; exact h.li
 ·rw[hL]; exact hp
theorem MgS.start {w X0 Y:World} {A:Array Value} {p:Pic} {Bs D k:Nat} (h:MgI w A p Bs k Y) (hk:KeepsFrom Bs X0 Y∧BothI D (D+1) X0 Y) (hl:w.heap.size+5≤D∧D+2≤Bs):∃ la lc vp,MgS w A (pq p) Bs D X0 (.slice la (ddL (pq p) k).length lc) vp (ddL (pq p) k) k Y∧PM Y (w.heap.size+1+1+1) (ddL (pq p) k):=by
 obtain⟨⟨vl,vp,h1,h2,h3⟩,h4,h5,h6⟩:=h
 obtain⟨la,lc,rfl⟩:∃ la lc,vl=.slice la (ddL (pq p) k).length lc:=by
  rcases h2.2 with ⟨e,hn⟩ | ⟨g1,cap1,cur,e,_⟩
  ·exact⟨none,0,by rw [e,hn]⟩
  ·exact⟨_,_,e⟩
 exact⟨la,lc,vp,⟨h1,h2,h3,h6,hk.1,hk.2,hl⟩,h4⟩
theorem own_down {V:World} {Bs B n s:Nat} {t:TypeId} {v:Value} {L:List Value} (h:V.ownsRow Bs t s v n L) (hB:B≤Bs):V.ownsRow B t s v n L:=by
 refine⟨h.1,?_⟩
 rcases h.2 with h | ⟨g,cap,cur,e,q1,q2⟩
 ·exact .inl h
 ·exact .inr ⟨g,cap,cur,e,Nat.le_trans hB q1,q2⟩
theorem sl_of_own {V:World} {B n:Nat} {a:Option Addr} {c:Nat} {f:Nat→Int} (h:V.ownsRow B 3 1 (.slice a n c) n (fints f n)):SL V B a n c f∧n≤c∧c≤maxLen:=by
 rcases h.2 with ⟨e,hn⟩ | ⟨g1,cap,cur,e,q1,q2,q3,q4,q5,q6⟩
 ·cases e
  exact⟨.inl rfl,Nat.le_refl _,by unfold maxLen; omega⟩
 ·cases e
  exact⟨.inr ⟨g1,rfl,c,cur,(0,0),by rw [fints_length],q1,q2,.inl rfl,by rw [fints_length]; exact q3,q4,by simpa using q5,by rw [fints_length]; simpa using q6⟩,q3,q4⟩
theorem mng_leave {D:Nat} {X:World} {T:Array Value} {v u:Value} {R:Ending→World→Prop} (hK:X.heap[D]?=some (.deferred (some []))) (hT:T.getD 2 undef=v) (hU:T.getD 3 undef=u) (hR:R (.returned (.tuple #[v,u])) (X.putObj D (.deferred none))):
  LeavesInM Fence.wide 6 Tryz.prog Tryz.f57 T R [{ target:=.collected D,args:=#[] }] .returning X:=by
 refine⟨by simp,.inl ⟨_,_,rfl,run_takeDeferred hK,?_⟩⟩
 refine⟨.tuple #[v,u],?_,hR⟩
 have hT':T[2]?.getD undef=v:=by
  rw[← hT]
  simp
 have hU':T[3]?.getD undef=u:=by
  rw[← hU]
  simp
 simp[results,Tryz.results57,go_sem,hT',hU']
def MngPost (f:Nat→Q4) (n:Nat) (w:World) (e:Ending) (w':World):Prop:=∃ la lc pa pc,e=.returned (.tuple #[.slice la (ddL f n).length lc,.slice pa n pc])∧w'.ownsRow w.heap.size 104 4 (.slice la (ddL f n).length lc) (ddL f n).length (pxcells (ddL f n))∧SL w' w.heap.size pa n pc (fun i=>(plc f i:Int))∧n≤pc∧pc≤maxLen∧Below w.heap.size w w'
set_option maxRecDepth 100000 in
set_option maxHeartbeats 4000000 in
theorem meanings_any (p:Pic) (q:PicA) (w:World) (hP:PngIn w p q) (hZ:PngSz p) (hR:PngR p) (hqo:∀ i,i < pixN p→QOk (pq p i)):
  Calls Tryz.prog 57 #[pngV p q] w (MngPost (pq p) (pixN p) w):=by
 have hme:=fun at' a cap W h1 h2 h3 h4=>meant_any p q at' a cap W h1 hZ hR h2 h3 h4
 have hN1:1≤chanN p.hc∧chanN p.hc≤4:=by
  have h1:=chan_pos hR.1.1.2.2
  have h2:=chan_range p.hc
  unfold chanN
  omega
 have hpx0:0 < pixN p∧pixN p≤576:=by
  obtain⟨⟨⟨⟨a1,a2⟩,⟨b1,b2⟩,_⟩,_⟩,_⟩:=hR
  have h1:1≤p.hw * p.hh:=by
   have:=Int.mul_le_mul a1 b1 (by omega) (by omega)
   omega
  have h2:p.hw * p.hh≤24 * 24:=Int.mul_le_mul a2 b2 (by omega) (by omega)
  unfold pixN
  omega
 have hsm:=fun (at' k:Nat) (h1:at' < pixN p) (h2:k < chanN p.hc)=>smq_in hR h1 h2
 have hsn:p.sn=pixN p * chanN p.hc:=(hsm 0 0 hpx0.1 (by omega)).2.2.2
 have hcp:=hP.capped
 obtain⟨g,off,hsa,hg,hcell⟩:∃ g off,q.sa=some ⟨g,off,none⟩∧g < w.heap.size∧∀ j,j < p.sn→w.cell? ⟨g,off+j,none⟩=some (.int .i64 (p.S j)):=by
  rcases hP.s with h | h
  ·have:=Nat.mul_le_mul hpx0.1 hN1.1
   omega
  ·exact h
 have hcN:chan p.hc=(chanN p.hc:Int):=(Int.toNat_of_nonneg (chan_range p.hc).1).symm
 have hch:=fun W=>implChannels p.hc W
 rw[hcN] at hch
 have HP:=hid_of hP
 have HCE:Hid (∀ k,k < pixN p→∀ W,Below w.heap.size w W→Came W (some ⟨g,off+chanN p.hc * k,none⟩) (chanN p.hc) (fun i=>smq p k i)):=fun k hk W hW=>by
  refine .inr ⟨g,off+chanN p.hc * k,rfl,Nat.lt_of_lt_of_le hg hW.size,fun j hj=>?_⟩
  have h1:=(hsm k j hk hj).1
  rw[show off+chanN p.hc * k+j=off+(k * chanN p.hc+j) by rw [Nat.mul_comm,Nat.add_assoc]]
  exact (hW.cell (p:=⟨g,off+(k * chanN p.hc+j),none⟩) hg).trans (hcell _ h1)
 have hcapn:chanN p.hc * pixN p≤q.sc:=by rw [Nat.mul_comm,← hsn]; exact hcp.1
 have hlen:p.sn=chanN p.hc * pixN p:=by rw [hsn,Nat.mul_comm]
 obtain⟨n,hn⟩:∃ n,n=chanN p.hc:=⟨_,rfl⟩
 obtain⟨N,hNN⟩:∃ N,N=pixN p:=⟨_,rfl⟩
 rw[← hn] at hN1 hch hcapn hlen HCE hme
 rw[← hNN] at hpx0 hcapn hlen HCE hme ⊢
 have HME:=hid_of hme
 have HQO:Hid (∀ i,i < N→QOk (pq p i)):=by
  intro i hi
  rw[hNN] at hi
  exact hqo i hi
 clear hme hsm hsn hcp hcell hcN hn hNN hR hZ hP
 obtain⟨p0,hp0⟩:∃ p0,p0=p:=⟨_,rfl⟩
 rw[← hp0] at HCE HME HP HQO
 obtain⟨hw,hh,hd,hc',lace,tn,T,cn,C,rw',rh,rc,rd,sn,S,kn,K⟩:=p
 obtain⟨ta,tc,ca,cc,sa,sc,ka,kc⟩:=q
 simp only [] at hsa hcapn hlen hch
 subst hsa hlen
 have HV:Hid (pngV p0 ⟨ta,tc,ca,cc,some ⟨g,off,none⟩,sc,ka,kc⟩=.agg #[.int .i64 hw,.int .i64 hh,.int .i64 hd,.int .i64 hc',.bool lace,.slice ta tn tc,.slice ca cn cc,.int .i64 rw',.int .i64 rh,.int .i64 rc,.int .i64 rd,.slice (some ⟨g,off,none⟩) (n * N) sc,.slice ka kn kc]):=by
  show _=_
  rw[hp0]
  rfl
 rw[← hp0,HV.out]
 clear hp0
 refine calls_of_marks Tryz.func57 rfl ?_
 simp only [Tryz.ntmps57,List.size_toArray,List.length_cons,List.length_nil,Nat.reduceAdd,Nat.reduceSub,Array.replicate_succ,Array.replicate_zero,List.push_toArray,List.append_toArray,List.nil_append,List.cons_append]
 have H0:Hid (MgZ w #[.int .i64 hw,.int .i64 hh,.int .i64 hd,.int .i64 hc',.bool lace,.slice ta tn tc,.slice ca cn cc,.int .i64 rw',.int .i64 rh,.int .i64 rc,.int .i64 rd,.slice (some ⟨g,off,none⟩) (n * N) sc,.slice ka kn kc] (((((w.alloc (.cells #[.int .i64 hw,.int .i64 hh,.int .i64 hd,.int .i64 hc',.bool lace,.slice ta tn tc,.slice ca cn cc,.int .i64 rw',.int .i64 rh,.int .i64 rc,.int .i64 rd,.slice (some ⟨g,off,none⟩) (n * N) sc,.slice ka kn kc] 37)).alloc (.cells #[.slice none 0 0] 75)).alloc (.cells #[.slice none 0 0] 25)).alloc (.map #[] 0)).alloc (.cells #[.map (some (w.heap.size+1+1+1))] 102))):=MgZ.start w _
 have hmm:=@run_makeMap Tryz.prog
 go_wp2_with fail
 clear hmm
 generalize (((((w.alloc (.cells #[.int .i64 hw,.int .i64 hh,.int .i64 hd,.int .i64 hc',.bool lace,.slice ta tn tc,.slice ca cn cc,.int .i64 rw',.int .i64 rh,.int .i64 rc,.int .i64 rd,.slice (some ⟨g,off,none⟩) (n * N) sc,.slice ka kn kc] 37)).alloc (.cells #[.slice none 0 0] 75)).alloc (.cells #[.slice none 0 0] 25)).alloc (.map #[] 0)).alloc (.cells #[.map (some (w.heap.size+1+1+1))] 102))=w1 at H0 ⊢
 have HS0:MgZ w #[.int .i64 hw,.int .i64 hh,.int .i64 hd,.int .i64 hc',.bool lace,.slice ta tn tc,.slice ca cn cc,.int .i64 rw',.int .i64 rh,.int .i64 rc,.int .i64 rd,.slice (some ⟨g,off,none⟩) (n * N) sc,.slice ka kn kc] w1.drew:=H0.out.called (bdraws (Below.refl _ _) 1)
 clear H0
 refine Go.wp_region_noPanic ?_
 refine wp_region_held (S:=MgZ w #[.int .i64 hw,.int .i64 hh,.int .i64 hd,.int .i64 hc',.bool lace,.slice ta tn tc,.slice ca cn cc,.int .i64 rw',.int .i64 rh,.int .i64 rc,.int .i64 rd,.slice (some ⟨g,off,none⟩) (n * N) sc,.slice ka kn kc]) (by kernel_rfl) ?_
 show wpAnyH _ _ _ _ _ _ _ _ w1.drew
 generalize w1.drew=u0 at HS0 ⊢
 refine zqt 0 (.pointer (some ⟨w.heap.size,7,none⟩)) rfl ?_ HS0 ?_
 ·intro w' _
  go_simp
 simp only [Act.put,zga,zgb,zsa,zsb,zsc]
 refine zqt 1 (.pointer (some ⟨w.heap.size,11,none⟩)) rfl ?_ HS0 ?_
 ·intro w' _
  go_simp
 simp only [Act.put,zga,zgb,zgc,zsa,zsb,zsc]
 refine zqt 2 (.slice (some ⟨g,off,none⟩) (n * N) sc) rfl ?_ HS0 ?_
 ·intro w' hS
  obtain⟨b0,b1,b2,b3,b4,b5,b6,b7,b8,b9,b10,b11,b12⟩:=zqc hS.1.b0; have bl:=block_lt hS.1.b0
  go_simp
 simp only [Act.put,zga,zgb,zgc,zsa,zsb,zsc]
 refine zqt 3 (.pointer (some ⟨w.heap.size,0,none⟩)) rfl ?_ HS0 ?_
 ·intro w' _
  go_simp
 simp only [Act.put,zga,zgb,zgc,zsa,zsb,zsc]
 refine zqt 4 (.pointer (some ⟨w.heap.size,3,none⟩)) rfl ?_ HS0 ?_
 ·intro w' _
  go_simp
 simp only [Act.put,zga,zgb,zgc,zsa,zsb,zsc]
 refine zqt 5 (.int .i64 hc') rfl ?_ HS0 ?_
 ·intro w' hS
  obtain⟨b0,b1,b2,b3,b4,b5,b6,b7,b8,b9,b10,b11,b12⟩:=zqc hS.1.b0; have bl:=block_lt hS.1.b0
  go_simp
 simp only [Act.put,zga,zgb,zgc,zsa,zsb,zsc]
 refine zqr 6 rfl (fun K1 hK=>?_)
 refine if_wanted (wanted_none rfl) ?_
 simp only [zga,zgb,zgc]
 go_simp
 refine (hch _).mono ?_
 rintro e u1 ⟨rfl,q⟩
 obtain rfl:=q
 refine hK.out _ _ HS0 (fun _=>?_)
 clear hK
 refine zqr 7 rfl (fun K1 hK=>?_)
 refine if_wanted (wanted_none rfl) ?_
 simp only [zga,zgb,zgc]
 go_simp
 refine (chunkI_any (some ⟨g,off,none⟩) (n * N) sc n u1 hN1.1).mono ?_
 rintro e u2 ⟨rfl,h2⟩
 have hb2:Below u1.heap.size u1 u2:=by rw [h2]; exact bal (bstart _ _) _
 have hBs:u2.cell? ⟨u1.heap.size,0,none⟩=some (.slice (some ⟨g,off,none⟩) (n * N) sc):=by rw [h2]; exact (grow_cell _ (by simp) 0).trans ((cell_of_block (heap_alloc_new u1 _) 0).trans rfl)
 have hBn:u2.cell? ⟨u1.heap.size+1,0,none⟩=some (.int .i64 (n:Int)):=by
  rw[h2]
  have h:=heap_alloc_new (u1.alloc (.cells #[.slice (some ⟨g,off,none⟩) (n * N) sc] 25)) (.cells #[.int .i64 (n:Int)] 3)
  rw[World.size_alloc] at h
  exact (cell_of_block h 0).trans rfl
 have hz2:u2.heap.size=u1.heap.size+2:=by rw [h2]; simp
 refine hK.out _ _ (HS0.called hb2) (fun HS2=>?_)
 clear hK h2
 refine wpAnyH_done (by kernel_rfl) ?_ _
 refine calm_of ?_
 have H2:Hid (MgI w #[.int .i64 hw,.int .i64 hh,.int .i64 hd,.int .i64 hc',.bool lace,.slice ta tn tc,.slice ca cn cc,.int .i64 rw',.int .i64 rh,.int .i64 rc,.int .i64 rd,.slice (some ⟨g,off,none⟩) (n * N) sc,.slice ka kn kc] p0 u2.heap.size 0 u2):=⟨⟨_,_,HS2.1,⟨rfl,.inl ⟨rfl,rfl⟩⟩,⟨rfl,.inl ⟨rfl,rfl⟩⟩⟩,HS2.2,HS2.1.sz,Nat.le_refl _⟩
 have HBs:=hid_of hBs
 have HBn:=hid_of hBn
 have HZ1:Hid (w.heap.size+5≤u1.heap.size):=HS0.1.sz
 clear HS2 HS0 hb2 hBs hBn
 generalize u1.heap.size=D at HBs HBn hz2 HZ1 ⊢
 go_wp2_with fail
 refine wp_mng_range (fun k=>.slice (some ⟨g,off+n * k,none⟩) n n) N (BothI D (D+1)) (by simp [Act.eval]) (enters_of Tryz.func107 (by kernel_rfl) rfl) (chunkI_tells D (D+1) g off n N sc hN1.1 hN1.2 (by omega) hcapn u2 HBs.out HBn.out) (fun h k=>⟨k.1.trans h.1,k.2.trans h.2⟩) (fun X i o hi=>⟨World.putObj_heap_other (by omega),World.putObj_heap_other (by omega)⟩) (fun X o hX=>⟨(bstart X o).block _ (by omega),(bstart X o).block _ (by omega)⟩) (MgI w #[.int .i64 hw,.int .i64 hh,.int .i64 hd,.int .i64 hc',.bool lace,.slice ta tn tc,.slice ca cn cc,.int .i64 rw',.int .i64 rh,.int .i64 rc,.int .i64 rd,.slice (some ⟨g,off,none⟩) (n * N) sc,.slice ka kn kc] p0 u2.heap.size) (mgI_own (by have:=HZ1.out; omega)) (fun k X n h=>h.called (bdraws (Below.refl _ _) n)) H2.out ?_ ?_ ?_
 ·intro l k V K hK
  simp only [zsa,zsc,zsb] at hK ⊢
  gi_wp2
  exact hK
 ·have HZ2:=hid_of hz2
  clear hz2
  intro l k X hk hPI
  simp only [zsa,zsc,zsb]
  have HPI:=hid_of hPI
  obtain⟨⟨vl,vp,hB,_⟩,_⟩:=id hPI
  have b0:=block_lt hB.b0
  obtain⟨b_0,b_1,b_2,b_3,b_4,b_5,b_6,b_7,b_8,b_9,b_10,b_11,b_12⟩:=zqc hB.b0
  have hbl:=hB.bl
  have HB4:=hid_of hB.b4
  clear hPI hB
  have hmt:=HME.out k (some ⟨g,off+n * k,none⟩) n X (HP.out.called hbl) hk (HCE.out k hk X hbl) (Nat.le_refl _)
  rw[HV.out] at hmt
  replace hmt:=hmt.mono (fun e W (h:e=.returned (.agg #[.int .i64 (pixV p0 k 0),.int .i64 (pixV p0 k 1),.int .i64 (pixV p0 k 2),.int .i64 (pixV p0 k 3)])∧Below X.heap.size X W)=>h)
  have HQ:Hid (pq p0 k=(pixV p0 k 0,pixV p0 k 1,pixV p0 k 2,pixV p0 k 3)∧QOk (pq p0 k)):=⟨rfl,HQO.out k hk⟩
  generalize pixV p0 k 0=x0 at hmt HQ
  generalize pixV p0 k 1=x1 at hmt HQ
  generalize pixV p0 k 2=x2 at hmt HQ
  generalize pixV p0 k 3=x3 at hmt HQ
  gi_wp2_with (refine⟨trivial,?_⟩; gi_at_call 82; refine (CallsIn.inRound l (callsIn_wide.2 hmt)).mono ?_; rintro e V1 ⟨rfl,hB1⟩; have q4:=(hB1.block _ (block_lt HB4.out)).trans HB4.out; have c6:V1.cell? ⟨w.heap.size+1+1+1+1,0,none⟩=some (.map (some (w.heap.size+1+1+1))):=(cell_of_block q4 0).trans rfl; have l6:=block_lt q4; clear q4)
  clear c6 l6 HB4
  have HB1:=hid_of hB1
  have HI1:=hid_of (HPI.out.called hB1)
  have HK1:Hid (KeepsFrom u2.heap.size X V1∧BothI D (D+1) X V1):=⟨⟨hB1.size,fun k o _ hk _=>(hB1.block k (block_lt hk)).trans hk⟩,hB1.block D (by have:=HPI.out.2.2.2; have:=HZ2.out; omega),hB1.block (D+1) (by have:=HPI.out.2.2.2; have:=HZ2.out; omega)⟩
  clear hB1 hmt hbl b0 b_0 b_1 b_2 b_3 b_4 b_5 b_6 b_7 b_8 b_9 b_10 b_11 b_12
  have HI2:=hid_of (HI1.out.called (bstart V1 (.cells #[.int .i64 x0,.int .i64 x1,.int .i64 x2,.int .i64 x3] 104)))
  have HX8:Hid ((V1.alloc (.cells #[.int .i64 x0,.int .i64 x1,.int .i64 x2,.int .i64 x3] 104)).heap[V1.heap.size]?=some (.cells #[.int .i64 x0,.int .i64 x1,.int .i64 x2,.int .i64 x3] 104 (0,0))):=hid_of (heap_alloc_new V1 _)
  have HK2:Hid (KeepsFrom u2.heap.size X (V1.alloc (.cells #[.int .i64 x0,.int .i64 x1,.int .i64 x2,.int .i64 x3] 104))∧BothI D (D+1) X (V1.alloc (.cells #[.int .i64 x0,.int .i64 x1,.int .i64 x2,.int .i64 x3] 104))):=by
   have hb:=bstart V1 (.cells #[.int .i64 x0,.int .i64 x1,.int .i64 x2,.int .i64 x3] 104)
   have hz:=HI1.out.2.2.2
   have hz3:=HZ2.out
   exact⟨HK1.out.1.trans ⟨hb.size,fun k o _ hk _=>(hb.block k (block_lt hk)).trans hk⟩,(hb.block D (by omega)).trans HK1.out.2.1,(hb.block (D+1) (by omega)).trans HK1.out.2.2⟩
  have HI1Z:Hid (u2.heap.size≤V1.heap.size):=HI1.out.2.2.2
  obtain⟨la,lc,vp,hms,hpm⟩:=MgS.start HI2.out HK2.out ⟨HZ1.out,by have:=HZ2.out; omega⟩
  have HS2:=hid_of hms
  have HPM:=hid_of hpm
  clear hms hpm HI2 HK2 HI1 HK1 HPI
  have c6:=(cell_of_block HS2.out.bx.b4 0).trans rfl
  have l6:=block_lt HS2.out.bx.b4
  have ax:∀ j v,(#[Value.int .i64 x0,.int .i64 x1,.int .i64 x2,.int .i64 x3])[j]?=some v→(V1.alloc (.cells #[.int .i64 x0,.int .i64 x1,.int .i64 x2,.int .i64 x3] 104)).cell? ⟨V1.heap.size,j,none⟩=some v:=fun j v hj=>(cell_of_block HX8.out j).trans hj
  have a0:=ax 0 _ rfl
  have a1:=ax 1 _ rfl
  have a2:=ax 2 _ rfl
  have a3:=ax 3 _ rfl
  clear ax
  by_cases hin:pq p0 k∈ddL (pq p0) k
  ·have hlk:=HPM.out.look_in HQ.out.2 (ddL_nodup _ _) hin
   have HPL:Hid ((ddL (pq p0) k).idxOf (pq p0 k)=plc (pq p0) k):=(plc_old hin).symm
   have HDD:Hid (ddL (pq p0) (k+1)=ddL (pq p0) k):=by
    show _=_
    rw[ddL_succ,if_pos hin]
   rw[HPL.out,HQ.out.1] at hlk
   unfold kq at hlk
   have HSA:=HS2
   have HPA:=HPM
   clear hin HPM HS2
   have HS3:=hid_of (HSA.out.called (bstart (V1.alloc (.cells #[.int .i64 x0,.int .i64 x1,.int .i64 x2,.int .i64 x3] 104)) (.cells #[.int .i64 (plc (pq p0) k:Int)] 3)))
   have HPM3:=hid_of (HPA.out.called (bstart (V1.alloc (.cells #[.int .i64 x0,.int .i64 x1,.int .i64 x2,.int .i64 x3] 104)) (.cells #[.int .i64 (plc (pq p0) k:Int)] 3)))
   have hsz3:=HS3.out.sz
   have hpl3:=HS3.out.pl
   have hnew:∀ (j:Nat) (u:Value),[Value.int .i64 (plc (pq p0) k:Int)][j]?=some u→((V1.alloc (.cells #[.int .i64 x0,.int .i64 x1,.int .i64 x2,.int .i64 x3] 104)).alloc (.cells #[.int .i64 (plc (pq p0) k:Int)] 3)).cell? ((⟨V1.heap.size+1,0,none⟩:Addr).add j)=some u:=fun j u hu=>by
    have hj:j=0:=by
     rcases Nat.eq_zero_or_pos j with h | h
     ·exact h
     ·rw[List.getElem?_eq_none (by show 1≤_; omega)] at hu; cases hu
    subst hj
    have h:=heap_alloc_new (V1.alloc (.cells #[.int .i64 x0,.int .i64 x1,.int .i64 x2,.int .i64 x3] 104)) (.cells #[.int .i64 (plc (pq p0) k:Int)] 3)
    rw[World.size_alloc] at h
    rw[Addr.add_lit,Nat.zero_add,cell_of_block h 0]
    exact hu
   obtain⟨t0,hi0,hz0,hz1,hz2⟩:=info_parts info_int18
   have c5:=(cell_of_block HSA.out.bx.b2 0).trans rfl
   have l5:=block_lt HSA.out.bx.b2
   gi_wp2_with (gi_at_builtin; go_loud (refine wpListIn_append_own_at _ rfl _ _ 25 rfl u2.heap.size 3 t0 (.int .i64 0) 1 8 Tryz.underlying25 hi0 hz0 hz1 hz2 rfl (by omega) vp k (fints (fun i=>(plc (pq p0) i:Int)) k) rfl hpl3 ⟨V1.heap.size+1,0,none⟩ 1 1 [.int .i64 (plc (pq p0) k:Int)] rfl rfl hnew (by simp [Value.oneCell']) (by unfold maxLen; omega) (by omega) hsz3 ?_))
   intro v9 V9 y1 y2 _ _
   obtain⟨va9,vc9,rfl⟩:=own_form y1
   obtain⟨hs9,hb9,hp9⟩:=HS3.out.placed y1 y2
   have HS9:=hid_of hs9
   have HP9:=hid_of (hp9 _ HPM3.out)
   have c9:=(cell_of_block hb9 0).trans rfl
   have f9:∀ j,V9.frozen? ⟨w.heap.size+1+1,j,none⟩=false:=unfrozen_of_block hb9
   have l9:=block_lt hb9
   clear hs9 hb9 hp9 y1 y2 hnew hi0 hz0 hz1 hz2 hpl3 hsz3 HS3 HPM3 c5 l5
   gi_wp2
   exact HS9.out.done HDD.out HP9.out
  ·have hlk:=HPM.out.look_out HQ.out.2 hin
   obtain⟨w3,hst,hpm3,hg3⟩:=HPM.out.store HQ.out.2 hin
   have HPL:Hid ((ddL (pq p0) k).length=plc (pq p0) k):=(plc_new hin).symm
   have hdd:ddL (pq p0) (k+1)=ddL (pq p0) k ++ [pq p0 k]:=by
    rw[ddL_succ,if_neg hin]
   rw[HQ.out.1] at hlk hst hpm3 hdd
   have HDD:=hid_of hdd
   clear hdd
   unfold kq at hlk hst
   have c4:=(cell_of_block HS2.out.bx.b1 0).trans rfl
   have l4:=block_lt HS2.out.bx.b1
   have HSM:=hid_of (HS2.out.mapped hg3)
   have HX9:w3.heap[V1.heap.size]?=some (.cells #[.int .i64 x0,.int .i64 x1,.int .i64 x2,.int .i64 x3] 104 (0,0)):=(hg3.block _ (by simp) (fun e=>by have:=Option.some.inj e; have:=HI1Z.out; have:=HZ1.out; omega)).trans HX8.out
   have HSB:=hid_of (HSM.out.called (bstart w3 (.cells #[.int .i64 x0,.int .i64 x1,.int .i64 x2,.int .i64 x3] 104)))
   have HPB:=hid_of (hpm3.called (bstart w3 (.cells #[.int .i64 x0,.int .i64 x1,.int .i64 x2,.int .i64 x3] 104)))
   have e0:=(cell_of_block HX9 0).trans rfl
   have e1:=(cell_of_block HX9 1).trans rfl
   have e2:=(cell_of_block HX9 2).trans rfl
   have e3:=(cell_of_block HX9 3).trans rfl
   have e4:=block_lt HX9
   have d4:=(cell_of_block HSM.out.bx.b1 0).trans rfl
   have dl4:=block_lt HSM.out.bx.b1
   have d6:=(cell_of_block HSM.out.bx.b4 0).trans rfl
   have hnew:∀ (j:Nat) (u:Value),([.int .i64 x0,.int .i64 x1,.int .i64 x2,.int .i64 x3]:List Value)[j]?=some u→(w3.alloc (.cells #[.int .i64 x0,.int .i64 x1,.int .i64 x2,.int .i64 x3] 104)).cell? ((⟨w3.heap.size,0,none⟩:Addr).add j)=some u:=fun j u hu=>by
    have h:=heap_alloc_new w3 (.cells #[.int .i64 x0,.int .i64 x1,.int .i64 x2,.int .i64 x3] 104)
    rw[Addr.add_lit,Nat.zero_add,cell_of_block h j,List.getElem?_toArray]
    exact hu
   obtain⟨t0,hi0,hz0,hz1,hz2⟩:=info_parts info_px
   have hsz3:=HSB.out.sz
   have hli3:=HSB.out.li
   have hdl:(ddL (pq p0) k).length≤576:=Nat.le_trans (ddL_length _ _) (by omega)
   clear hpm3 hg3 HPM hin HSM HS2
   gi_wp2_with (gi_at_builtin; refine wpListIn_append_own_at _ rfl _ _ 75 rfl u2.heap.size 104 t0 (.agg #[.int .i64 0,.int .i64 0,.int .i64 0,.int .i64 0]) 4 32 Tryz.underlying75 hi0 hz0 hz1 hz2 rfl (by omega) (.slice la (ddL (pq p0) k).length lc) (ddL (pq p0) k).length (pxcells (ddL (pq p0) k)) rfl hli3 ⟨w3.heap.size,0,none⟩ 1 1 [.int .i64 x0,.int .i64 x1,.int .i64 x2,.int .i64 x3] rfl rfl hnew (by simp [Value.oneCell']) (by unfold maxLen; omega) (by omega) hsz3 ?_)
   intro v8 V8 y1 y2 _ _
   obtain⟨va8,vc8,rfl⟩:=own_form y1
   obtain⟨hs8,hb8,hp8⟩:=HSB.out.listed (x0,x1,x2,x3) y1 y2
   have HSA:=hid_of hs8
   have HPA:=hid_of (hp8 _ HPB.out)
   have c8:=(cell_of_block hb8 0).trans rfl
   have f8:∀ j,V8.frozen? ⟨w.heap.size+1,j,none⟩=false:=unfrozen_of_block hb8
   have l8:=block_lt hb8
   clear hs8 hb8 hp8 y1 y2 hnew hi0 hz0 hz1 hz2 hsz3 hli3 HSB HPB e0 e1 e2 e3 e4 d4 dl4 d6 hlk hst c4 l4 c6 l6 HX9 HX8 a0 a1 a2 a3
   have HS3:=hid_of (HSA.out.called (bstart (V8.setCell ⟨w.heap.size+1,0,none⟩ (.slice va8 ((ddL (pq p0) k).length+1) vc8)) (.cells #[.int .i64 ((ddL (pq p0) k).length:Int)] 3)))
   have HPM3:=hid_of (HPA.out.called (bstart (V8.setCell ⟨w.heap.size+1,0,none⟩ (.slice va8 ((ddL (pq p0) k).length+1) vc8)) (.cells #[.int .i64 ((ddL (pq p0) k).length:Int)] 3)))
   have hsz3:=HS3.out.sz
   have hpl3:=HS3.out.pl
   have hnew:∀ (j:Nat) (u:Value),[Value.int .i64 ((ddL (pq p0) k).length:Int)][j]?=some u→((V8.setCell ⟨w.heap.size+1,0,none⟩ (.slice va8 ((ddL (pq p0) k).length+1) vc8)).alloc (.cells #[.int .i64 ((ddL (pq p0) k).length:Int)] 3)).cell? ((⟨V8.heap.size,0,none⟩:Addr).add j)=some u:=fun j u hu=>by
    have hj:j=0:=by
     rcases Nat.eq_zero_or_pos j with h | h
     ·exact h
     ·rw[List.getElem?_eq_none (by show 1≤_; omega)] at hu; cases hu
    subst hj
    have h:=heap_alloc_new (V8.setCell ⟨w.heap.size+1,0,none⟩ (.slice va8 ((ddL (pq p0) k).length+1) vc8)) (.cells #[.int .i64 ((ddL (pq p0) k).length:Int)] 3)
    rw[World.size_setCell] at h
    rw[Addr.add_lit,Nat.zero_add,cell_of_block h 0]
    exact hu
   obtain⟨t0,hi0,hz0,hz1,hz2⟩:=info_parts info_int18
   have c5:=(cell_of_block HSA.out.bx.b2 0).trans rfl
   have l5:=block_lt HSA.out.bx.b2
   gi_wp2_with (gi_at_builtin; go_loud (refine wpListIn_append_own_at _ rfl _ _ 25 rfl u2.heap.size 3 t0 (.int .i64 0) 1 8 Tryz.underlying25 hi0 hz0 hz1 hz2 rfl (by omega) vp k (fints (fun i=>(plc (pq p0) i:Int)) k) rfl hpl3 ⟨V8.heap.size,0,none⟩ 1 1 [.int .i64 ((ddL (pq p0) k).length:Int)] rfl rfl hnew (by simp [Value.oneCell']) (by unfold maxLen; omega) (by omega) hsz3 ?_))
   intro v9 V9 y1 y2 _ _
   obtain⟨va9,vc9,rfl⟩:=own_form y1
   rw[HPL.out] at y1
   obtain⟨hs9,hb9,hp9⟩:=HS3.out.placed y1 y2
   have HS9:=hid_of hs9
   have HP9:=hid_of (hp9 _ HPM3.out)
   have c9:=(cell_of_block hb9 0).trans rfl
   have f9:∀ j,V9.frozen? ⟨w.heap.size+1+1,j,none⟩=false:=unfrozen_of_block hb9
   have l9:=block_lt hb9
   clear hs9 hb9 hp9 y1 y2 hnew hi0 hz0 hz1 hz2 hpl3 hsz3 HS3 HPM3 c5 l5
   gi_wp2
   exact HS9.out.done HDD.out HP9.out
 ·intro X hPI hD
  obtain⟨⟨vl,vp,h1,h2,h3⟩,h4,h5,h6⟩:=hPI
  obtain⟨la,lc,rfl⟩:=own_form h2
  obtain⟨pa,pc,rfl⟩:=own_form h3
  have c4:=(cell_of_block h1.b1 0).trans rfl
  have c5:=(cell_of_block h1.b2 0).trans rfl
  have l4:=block_lt h1.b1
  have l5:=block_lt h1.b2
  have HD:=hid_of hD
  have HPO:Hid (∀ m,MngPost (pq p0) N w (.returned (.tuple #[.slice la (ddL (pq p0) N).length lc,.slice pa N pc])) ((X.drewN m).putObj u2.heap.size (.deferred none))):=fun m=>by
   have hb:=bdraws (Below.refl X.heap.size X) m
   replace h1:=h1.called hb
   replace h2:=row_called_t h2 hb
   replace h3:=row_called_t h3 hb
   replace h6:=Nat.le_trans h6 hb.size
   have hD2:(X.drewN m).heap[u2.heap.size]?=some (.deferred (some [])):=hD
   clear h4 hb
   generalize X.drewN m=X at h1 h2 h3 h6 hD2 ⊢
   have hne:∀ (b:Nat) (cs:Array Value) (t:TypeId) (fz:Nat×Nat),X.heap[b]?=some (.cells cs t fz)→(X.putObj u2.heap.size (.deferred none)).heap[b]?=X.heap[b]?:=fun b cs t fz hb=>World.putObj_heap_other (fun e=>by rw [e,hD2] at hb; cases hb)
   have hsl:=sl_of_own (own_down (own_kept_t h3 fun b cs fz _ hb=>hne b cs _ fz hb) (show w.heap.size≤u2.heap.size by omega))
   exact⟨la,lc,pa,pc,rfl,own_down (own_kept_t h2 fun b cs fz _ hb=>hne b cs _ fz hb) (by omega),hsl.1,hsl.2.1,hsl.2.2,h1.bl.grown (grownBy_putObj' X _ _) (by omega) (fun j q=>by cases q; omega)⟩
  clear h1 h2 h3 h4 h5 h6 hD
  go_wp2_with fail
  go_quiet (fail)
  go_wp2_with fail
  exact mng_leave (v:=.slice la (ddL (pq p0) N).length lc) (u:=.slice pa N pc) HD.out (by simp) (by simp) (HPO.out _)
end Go.Proofs.YtkpbfmdnjnohlaaGreat
