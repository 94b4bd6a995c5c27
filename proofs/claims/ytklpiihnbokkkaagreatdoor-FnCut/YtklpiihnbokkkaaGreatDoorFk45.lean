/-
  Texts of the proof, put together.
-/
import Derived.Test.YtklpiihnbokkkaaGreatDoorFk44
namespace Go.Proofs.YtklpiihnbokkkaaGreatDoor
open Go.RowKit Go.Shelf
attribute [local go_sem] Oper.semAt_some
def upto {α:Type} (f:Nat→α) (k:Nat):List α:=(List.range k).map f
theorem upto_succ {α:Type} (f:Nat→α) (k:Nat):upto f (k+1)=upto f k ++ [f k]:=by simp [upto,List.range_succ]
theorem upto_length {α:Type} (f:Nat→α) (k:Nat):(upto f k).length=k:=by simp [upto]
def Two (a b:Nat) (W W':World):Prop:=W'.heap[a]?=W.heap[a]?∧W'.heap[b]?=W.heap[b]?
theorem two_refl (a b:Nat) (W:World):Two a b W W:=⟨rfl,rfl⟩
theorem two_t {a b:Nat} {A B C:World} (h:Two a b A B) (k:Two a b B C):Two a b A C:=⟨k.1.trans h.1,k.2.trans h.2⟩
theorem two_b {a b:Nat} {w:World} (ha:a < w.heap.size) (hb:b < w.heap.size) (W:World) (l:Nat) (o o':Obj) (hl:w.heap.size≤l) (_:W.heap[l]?=some o) (_:o.isCells=false) (_:o.isWalk=false):Two a b W (W.putObj l o'):=
 ⟨World.putObj_heap_other (by omega),World.putObj_heap_other (by omega)⟩
theorem cell_heap {W W':World} {g:Nat} (h:W'.heap[g]?=W.heap[g]?) (j:Nat):W'.cell? ⟨g,j,none⟩=W.cell? ⟨g,j,none⟩:=by
 unfold World.cell?
 rw[h]
set_option maxRecDepth 100000 in
set_option maxHeartbeats 2000000 in
theorem back1_in {α:Type} (F:Nat→α) (encs:α→Array Value) (n:Nat) (hn:1≤n) (l Bs g off len cap:Nat) (z:Nat→Int) (hlen:len≤1048576)
  (hF:∀ m,m < len→encs (F (len - (m+1)))=#[.int .i64 (m:Int),.int .i64 (z m)]) (J Jx:List α→World→Prop)
  (hY:∀ pre x W,J pre W→pre.length < len→YieldAt Fence.wide (n - 1) Tryz.prog l (encs x) W fun e W'=>
   (e=.returned (.bool true)∧J (pre ++ [x]) W'∧Two Bs g W W')∨(e=.returned (.bool false)∧Jx (pre ++ [x]) W'))
  (W:World) (hBs:W.cell? ⟨Bs,0,none⟩=some (.slice (some ⟨g,off,none⟩) len cap)) (hc:∀ j,j < len→W.cell? ⟨g,off+j,none⟩=some (.int .i64 (z j))) (h0:J [] W):
  CallsIn Fence.wide n Tryz.prog 168 #[.func (.yield l) #[] #[],.pointer (some ⟨Bs,0,none⟩)] W fun e W'=>(∃ v,e=.returned v)∧
   ((∃ ys,ys=upto F len∧J ys W')∨(∃ pre,(∃ k,k≤len∧pre=upto F k)∧Jx pre W')):=by
 refine callsIn_of_wp Tryz.func168 rfl trivial ?_ rfl
 simp only [Tryz.ntmps168,List.size_toArray,List.length_cons,List.length_nil,Nat.reduceAdd,Nat.reduceSub,Array.replicate_succ,Array.replicate_zero,List.push_toArray,List.append_toArray,List.nil_append,List.cons_append]
 gi_wp2
 gi_loopw [3] (fun i wr=>∃ r:Nat,r≤len∧i=.int .i64 ((r:Int) - 1)∧J (upto F (len - r)) wr∧Hid (Two Bs g W wr))
  (fun i _=>(intOf i+1).toNat)
 case atStart=>exact⟨len,Nat.le_refl _,rfl,by rw [Nat.sub_self]; exact h0,two_refl _ _ _⟩
 case round=>
  obtain⟨r,hr,rfl,hJs,hnx⟩:=hrel
  have hBs':wr.cell? ⟨Bs,0,none⟩=some (.slice (some ⟨g,off,none⟩) len cap):=(cell_heap hnx.out.1 0).trans hBs
  cases r with
  | zero=>
   gi_wp2
   go_end0
   exact⟨⟨_,rfl⟩,.inl ⟨_,rfl,hJs⟩⟩
  | succ m=>
   have em:(((m+1:Nat):Int)) - 1=(m:Int):=by omega
   rw[em]
   obtain⟨fn,tmps,assign,body,hy,hR⟩:=hY _ (F (len - (m+1))) wr hJs (by rw [upto_length]; omega)
   rw[hF m (by omega)] at hy
   have hcx:wr.cell? ⟨g,off+m,none⟩=some (.int .i64 (z m)):=(cell_heap hnx.out.2 (off+m)).trans (hc m (by omega))
   have hlt:(m:Int) < (len:Int):=by omega
   gi_wp2
   refine hR.mono ?_
   rintro e W3 (⟨rfl,hJ3,hk3⟩ | ⟨rfl,hJx3⟩)
   ·gi_wp2
    go_roundw
    case rel=>exact⟨m,by omega,by simp,by rw [show len - m=len - (m+1)+1 by omega,upto_succ]; exact hJ3,two_t hnx.out hk3⟩
    case measure=>simp [intOf]
   ·gi_wp2
    refine bodyPost_ret (results_none rfl _ _ _) rfl ?_
    exact⟨⟨_,rfl⟩,.inr ⟨_,⟨len - (m+1)+1,by omega,(upto_succ _ _).symm⟩,hJx3⟩⟩
theorem back_any (a:Option Addr) (len cap:Nat) (w:World):
  Calls Tryz.prog 130 #[.slice a len cap] w fun e w'=>e=.returned (.func (.func 168) #[] #[.pointer (some ⟨w.heap.size,0,none⟩)])∧w'=w.alloc (.cells #[.slice a len cap] 25):=by
 go_enter Tryz.func130,Tryz.ntmps130
 go_wp2_with fail
 go_ret
 exact⟨rfl,rfl⟩
theorem back_stops {α:Type} (F:Nat→α) (encs:α→Array Value) (n:Nat) (hn:1≤n) (Bs g off len cap:Nat) (z:Nat→Int) (hlen:len≤1048576)
  (hF:∀ m,m < len→encs (F (len - (m+1)))=#[.int .i64 (m:Int),.int .i64 (z m)]) (w:World) (hBs:Bs < w.heap.size) (hg:g < w.heap.size)
  (hbox:w.cell? ⟨Bs,0,none⟩=some (.slice (some ⟨g,off,none⟩) len cap)) (hc:∀ j,j < len→w.cell? ⟨g,off+j,none⟩=some (.int .i64 (z j))):
  SeqStopsK Fence.wide n Tryz.prog 168 #[.pointer (some ⟨Bs,0,none⟩)] encs (Two Bs g) (fun ys=>ys=upto F len) (fun pre=>∃ k,k≤len∧pre=upto F k) len w:=fun l J Jx W hW _ _ hY h0=>
 back1_in F encs n hn l Bs g off len cap z hlen hF J Jx hY W ((hW.cell (p:=⟨Bs,0,none⟩) hBs).trans hbox) (fun j hj=>(hW.cell (p:=⟨g,off+j,none⟩) hg).trans (hc j hj)) h0
end Go.Proofs.YtklpiihnbokkkaaGreatDoor
namespace Go.Proofs.YtklpiihnbokkkaaGreatDoor
open Go.RowKit Go.Joins Go.Shelf
theorem wp_back {α:Type} {T:Array Value} {assign body:Code} {Q:Exit→Act→World→Prop} {W:World} (Bs g off len cap:Nat) (z:Nat→Int) (F:Nat→α) (e1 e2:α→Value)
  (hf:({ tmps:=T,defers:=[] }:Act).eval (.tmp 61)=.func (.func 168) #[] #[.pointer (some ⟨Bs,0,none⟩)])
  (hlen:len≤1048576) (hF:∀ m,m < len→(#[e1 (F (len - (m+1))),e2 (F (len - (m+1)))]:Array Value)=#[.int .i64 (m:Int),.int .i64 (z m)]) (hBs:Bs < W.heap.size) (hg:g < W.heap.size)
  (hbox:W.cell? ⟨Bs,0,none⟩=some (.slice (some ⟨g,off,none⟩) len cap)) (hc:∀ j,j < len→W.cell? ⟨g,off+j,none⟩=some (.int .i64 (z j)))
  (I:List α→World→Prop) (Ix:Code→List α→World→Prop) (hI:OwnFrom W.heap.size I) (hIx:∀ c,OwnFrom W.heap.size (Ix c)) (h0:I [] W)
  (hassign:∀ (l:Nat) (x:α) (V:World) (K:Act→World→Prop),K { tmps:=((T.setIfInBounds 62 (e1 x)).setIfInBounds 63 (e2 x)).setIfInBounds 9 (e2 x),defers:=[] } V→
   assign.wpIn (Fence.wide.inRound l) 4 Tryz.prog (Exit.then K (fun _ _ _=>False)) { tmps:=(T.setIfInBounds 62 (e1 x)).setIfInBounds 63 (e2 x),defers:=[] } V)
  (hbody:∀ (l:Nat) (pre:List α) (x:α) (V:World),I pre V→body.wpIn (Fence.wide.inRound l) 4 Tryz.prog (ownPostG W.heap.size (Two Bs g) I Ix (pre ++ [x]) V) { tmps:=((T.setIfInBounds 62 (e1 x)).setIfInBounds 63 (e2 x)).setIfInBounds 9 (e2 x),defers:=[] } V)
  (hdone:∀ (D:Nat) (V:World),W.heap.size≤D→I (upto F len) V→V.heap[D]?=some (.deferred (some []))→Q .normal { tmps:=T,defers:=[{ target:=.collected D,args:=#[] }] } V)
  (hstop:∀ (D:Nat) (c:Code) (k:Nat) (V:World),W.heap.size≤D→k≤len→Ix c (upto F k) V→V.heap[D]?=some (.deferred (some []))→c.wp Tryz.prog Q { tmps:=T,defers:=[{ target:=.collected D,args:=#[] }] } V):
  (Code.rangeFunc (.tmp 61) #[62,63] assign body).wp Tryz.prog Q { tmps:=T,defers:=[] } W:=by
 refine (wpIn_wide (n:=6)).1 ?_
 refine wpIn_rangeFunc_ownG rfl (by omega) (gf:=168) (lb:=#[.pointer (some ⟨Bs,0,none⟩)]) hf trivial (enters_of Tryz.func168 (by kernel_rfl) rfl)
  (back_stops F (fun x=>#[e1 x,e2 x]) 5 (by omega) Bs g off len cap z hlen hF W hBs hg hbox hc) two_t (two_b hBs hg) (Below.refl _ _) (fun _=>rfl) I Ix hI hIx h0
  (fun x=>{ tmps:=((T.setIfInBounds 62 (e1 x)).setIfInBounds 63 (e2 x)).setIfInBounds 9 (e2 x),defers:=[] }) ?assign ?body ?done ?stop
 case assign=>
  intro l x V K hK
  refine Eq.mp (congrArg (fun T'=>Code.wpIn (Fence.wide.inRound l) 4 Tryz.prog assign (Exit.then K fun _ _ _=>False) { tmps:=T',defers:=[] } V) ?_) (hassign l x V K hK)
  simp
 case body=>
  intro l pre x V hi _
  exact hbody l pre x V hi
 case done=>
  rintro D xs V hD rfl hi hK
  exact hdone D V hD hi hK
 case stop=>
  rintro D c pre V hD ⟨k,hk,rfl⟩ hi hK
  exact wpIn_wide.2 (hstop D c k V hD hk hi hK)
end Go.Proofs.YtklpiihnbokkkaaGreatDoor
namespace Go.Proofs.YtklpiihnbokkkaaGreatDoor
open Go.RowKit Go.Joins Go.Shelf SearchMath
attribute [local go_sem] Oper.semAt_some
theorem three_set {w:World} {b:Nat} {u0 u1 u2:Value} {y:TypeId} (h:w.heap[b]?=some (.cells #[u0,u1,u2] y (0,0))) (v0 v1 v2:Value):(((w.setCell ⟨b,0,none⟩ v0).setCell ⟨b,1,none⟩ v1).setCell ⟨b,2,none⟩ v2).heap[b]?=some (.cells #[v0,v1,v2] y (0,0)):=by
 have h0:=block_setCell (i:=0) h v0
 have h1:=block_setCell (i:=1) h0 v1
 have h2:=block_setCell (i:=2) h1 v2
 simpa using h2
theorem three_other {w:World} {b k:Nat} (hk:k≠b) (v0 v1 v2:Value):(((w.setCell ⟨b,0,none⟩ v0).setCell ⟨b,1,none⟩ v1).setCell ⟨b,2,none⟩ v2).heap[k]?=w.heap[k]?:=by
 simp[World.setCell,Array.getElem?_modify,Ne.symm hk]
theorem three_size (w:World) (b:Nat) (v0 v1 v2:Value):(((w.setCell ⟨b,0,none⟩ v0).setCell ⟨b,1,none⟩ v1).setCell ⟨b,2,none⟩ v2).heap.size=w.heap.size:=by
 simp[World.setCell]
theorem three_below {B b:Nat} {w w':World} (h:Below B w w') (hb:B≤b) (v0 v1 v2:Value):Below B w (((w'.setCell ⟨b,0,none⟩ v0).setCell ⟨b,1,none⟩ v1).setCell ⟨b,2,none⟩ v2):=
 Below.setCell (p:=⟨b,2,none⟩) (two_below h hb _ _) hb _
def BV (w4 V:World) (r:Nat×Nat):Prop:=V.heap[w4.heap.size]?=some (.cells #[.int .i64 0,.int .i64 (r.1:Int),.int .i64 (r.2:Int)] 105 (0,0))∧Below w4.heap.size w4 V∧w4.heap.size+1 < V.heap.size
theorem bv_own {w4 V V':World} {r:Nat×Nat} {row:Option Nat} {B:Nat} (h:BV w4 V r) (hg:V.grownBy V' row) (hB:w4.heap.size+2≤B) (hr:∀ k,row=some k→B≤k):BV w4 V' r:=
 ⟨(hg.block _ (block_lt h.1) (fun e=>by have:=hr _ e.symm; omega)).trans h.1,h.2.1.grown hg h.2.1.size (fun k e=>by have:=hr k e; omega),Nat.lt_of_lt_of_le h.2.2 hg.size⟩
theorem bv_call {w4 V V1:World} {r:Nat×Nat} {g B:Nat} (h:BV w4 V r) (hB1:Below V.heap.size V V1) (hg:g < w4.heap.size):KeepsFrom B V V1∧Two (w4.heap.size+1) g V V1∧BV w4 V1 r:=by
 have h1:=h.2.1.size
 refine⟨⟨hB1.size,fun i o _ hi _=>(hB1.block i (block_lt hi)).trans hi⟩,⟨hB1.block _ h.2.2,hB1.block _ (by omega)⟩,(hB1.block _ (block_lt h.1)).trans h.1,h.2.1.trans (hB1.mono h1),Nat.lt_of_lt_of_le h.2.2 hB1.size⟩
theorem bv_store {w4 V V1:World} {r:Nat×Nat} {g B:Nat} (h:BV w4 V r) (hB1:Below V.heap.size V V1) (hg:g < w4.heap.size) (hB:w4.heap.size < B) (x y:Nat):
  KeepsFrom B V (((V1.setCell ⟨w4.heap.size,0,none⟩ (.int .i64 0)).setCell ⟨w4.heap.size,1,none⟩ (.int .i64 (x:Int))).setCell ⟨w4.heap.size,2,none⟩ (.int .i64 (y:Int)))∧Two (w4.heap.size+1) g V (((V1.setCell ⟨w4.heap.size,0,none⟩ (.int .i64 0)).setCell ⟨w4.heap.size,1,none⟩ (.int .i64 (x:Int))).setCell ⟨w4.heap.size,2,none⟩ (.int .i64 (y:Int)))∧BV w4 (((V1.setCell ⟨w4.heap.size,0,none⟩ (.int .i64 0)).setCell ⟨w4.heap.size,1,none⟩ (.int .i64 (x:Int))).setCell ⟨w4.heap.size,2,none⟩ (.int .i64 (y:Int))) (x,y):=by
 obtain⟨k1,k2,k3⟩:=bv_call (B:=B) h hB1 hg
 refine⟨⟨by rw [three_size]; exact k1.size,fun i o hi ho hc=>(three_other (by omega) _ _ _).trans (k1.same i o hi ho hc)⟩,⟨(three_other (by omega) _ _ _).trans k2.1,(three_other (by omega) _ _ _).trans k2.2⟩,three_set k3.1 _ _ _,three_below k3.2.1 (Nat.le_refl _) _ _ _,?_⟩
 rw[three_size]
 exact k3.2.2
def best_end_post (D:Nat) (V w:World) (b d:Nat):Prop:=
 ∃ W,W=((V.setCell ⟨w.heap.size+1+1,0,none⟩ (.int .i64 0)).setCell ⟨w.heap.size+1+1,1,none⟩ (.int .i64 (b:Int))).setCell ⟨w.heap.size+1+1,2,none⟩ (.int .i64 (d:Int))∧W.heap[D]?=some (.deferred (some []))∧
  (W.putObj D (.deferred none)).cell? ⟨w.heap.size+1+1,0,none⟩=some (.int .i64 0)∧(W.putObj D (.deferred none)).cell? ⟨w.heap.size+1+1,1,none⟩=some (.int .i64 (b:Int))∧(W.putObj D (.deferred none)).cell? ⟨w.heap.size+1+1,2,none⟩=some (.int .i64 (d:Int))∧Below w.heap.size w (W.putObj D (.deferred none))
theorem best_end {D:Nat} {V w:World} {b d:Nat} (hr:V.heap[w.heap.size+1+1]?=some (.cells #[.int .i64 0,.int .i64 0,.int .i64 0] 105 (0,0))) (hK:V.heap[D]?=some (.deferred (some []))) (hD:w.heap.size+1+1 < D) (hB:Below w.heap.size w V):best_end_post D V w b d:=by
 have hK':=(three_other (w:=V) (b:=w.heap.size+1+1) (k:=D) (by omega) (.int .i64 0) (.int .i64 (b:Int)) (.int .i64 (d:Int))).trans hK
 have hg:=three_set hr (.int .i64 0) (.int .i64 (b:Int)) (.int .i64 (d:Int))
 have hB':=three_below hB (show w.heap.size≤w.heap.size+1+1 by omega) (.int .i64 0) (.int .i64 (b:Int)) (.int .i64 (d:Int))
 refine⟨_,rfl,hK',?_⟩
 have hp:=(World.putObj_heap_other (o:=Obj.deferred none) (show w.heap.size+1+1≠D by omega)).trans hg
 exact⟨(cell_of_block hp 0).trans rfl,(cell_of_block hp 1).trans rfl,(cell_of_block hp 2).trans rfl,hB'.trans (belowK_b (w:=w) (Nat.le_refl _) _ D _ _ (by omega) hK' rfl rfl)⟩
theorem best_leave {D:Nat} {V w:World} {b d:Nat} {T:Array Value} {x y:Nat} (h:best_end_post D V w b d) (hxy:(x,y)=(b,d)) (hT:T.getD 4 undef=.pointer (some ⟨w.heap.size+1+1,0,none⟩)):
  LeavesInM Fence.wide 6 Tryz.prog Tryz.f85 T (fun e w'=>e=.returned (.agg #[.int .i64 0,.int .i64 (x:Int),.int .i64 (y:Int)])∧Below w.heap.size w w') [{ target:=.collected D,args:=#[] }] .returning
   (((V.setCell ⟨w.heap.size+1+1,0,none⟩ (.int .i64 0)).setCell ⟨w.heap.size+1+1,1,none⟩ (.int .i64 (b:Int))).setCell ⟨w.heap.size+1+1,2,none⟩ (.int .i64 (d:Int))):=by
 obtain⟨W,rfl,hK,c0,c1,c2,hB⟩:=h
 obtain⟨rfl,rfl⟩:x=b∧y=d:=by simpa using hxy
 refine⟨by simp,.inl ⟨_,_,rfl,run_takeDeferred hK,?_⟩⟩
 refine⟨.agg #[.int .i64 0,.int .i64 (x:Int),.int .i64 (y:Int)],?_,rfl,hB⟩
 have hT':T[4]?.getD undef=.pointer (some ⟨w.heap.size+1+1,0,none⟩):=by
  rw[← hT]
  simp
 simp[results,Tryz.results85,go_sem,hT',c0,c1,c2]
set_option maxRecDepth 100000 in
set_option maxHeartbeats 4000000 in
theorem best_in (p:Nat) (s:ByteArray) (c t:Nat) (w:World) (hM:Mt w p s c) (hs:s.size≤2600) (hc1:1≤c) (hc2:c≤64) (ht:t+2 < s.size):
  Calls Tryz.prog 85 #[.pointer (some ⟨p,0,none⟩),.int .i64 (t:Int)] w fun e w'=>e=.returned (.agg #[.int .i64 0,.int .i64 (bestM (txt s) s.size t c).1,.int .i64 (bestM (txt s) s.size t c).2])∧Below w.heap.size w w':=by
 have HM:=hid_of hM
 obtain⟨M,a,cap,G,⟨m0,m1,m2,m3,hp⟩,hcap,hCa,hKM,hL⟩:=hM
 obtain⟨g,cp,eG,hLc,hg,hgc⟩:=hL t ht
 have hA:=occ_take (f:=txt s) (a:=txt s t) (b:=txt s (t+1)) (c:=txt s (t+2)) (k:=t) (K:=s.size - 2) (by omega)
 have hLn:=occ_length_le (f:=txt s) (a:=txt s t) (b:=txt s (t+1)) (c:=txt s (t+2)) (s.size - 2)
 have hAn:=occ_length_le (f:=txt s) (a:=txt s t) (b:=txt s (t+1)) (c:=txt s (t+2)) t
 have hpl:=places_last (f:=txt s) (at':=t) (c:=c) ht
 obtain⟨ga,oa,rfl,hga,hac⟩:∃ ga oa,a=some ⟨ga,oa,none⟩∧ga < w.heap.size∧w.cell? ⟨ga,oa+t,none⟩=some (.int .i64 ((occAt (txt s) t t).length:Nat)):=by
  rcases hCa with q | ⟨ga,oa,ea,hga,hac⟩
  ·omega
  ·exact⟨ga,oa,ea,hga,hac t (by omega)⟩
 have hlk:∀ w',w'.heap[M]?=w.heap[M]?→(Instr.lookup 176 (.map (some M)) (kv (txt s t) (txt s (t+1)) (txt s (t+2))) false).run Tryz.prog w'=.ok (.slice (some ⟨g,0,none⟩) (occAt (txt s) t (s.size - 2)).length cp) w':=fun w' hw'=>by
  rw[← eG]
  exact (hKM.keep hw').look (txt_lt _ _) (txt_lt _ _) (txt_lt _ _)
 have hMl:=hKM.lt
 have hkey:=fun w=>keyAt_any s t w ht (by omega)
 unfold occAt at hgc hLc hac hlk hpl
 generalize hLL:occ (txt s) (txt s t) (txt s (t+1)) (txt s (t+2)) (s.size - 2)=LL at *
 generalize hAA:occ (txt s) (txt s t) (txt s (t+1)) (txt s (t+2)) t=AA at *
 have HLK:=hid_of hlk
 have HGC:=hid_of hgc
 have HPL:=hid_of hpl
 have HAT:=hid_of hA.2
 have hA1:=hA.1
 have HLT:Hid (∀ j,AA.getD j 0≤t):=fun j=>by
  rcases Nat.lt_or_ge j AA.length with q | q
  ·rw[List.getD_eq_getElem?_getD,List.getElem?_eq_getElem q]
   have:AA[j]∈occ (txt s) (txt s t) (txt s (t+1)) (txt s (t+2)) t:=by
    rw[hAA]
    exact List.getElem_mem q
   exact Nat.le_of_lt (occ_lt this)
  ·rw[List.getD_eq_getElem?_getD,List.getElem?_eq_none q]
   exact Nat.zero_le _
 have hcp:0 < cp:=by
  have:=occ_pos (f:=txt s) (i:=t) (K:=s.size - 2) (by omega)
  unfold occAt at this
  rw[hLL] at this
  omega
 clear hA hlk hgc hpl hCa hL hKM HM hLL hAA eG
 have d0:decide ((t:Int) < 0)=false:=decide_eq_false (by omega)
 have d0':¬ (t:Int) < 0:=by omega
 have d1:decide (((s.size - 2:Nat):Int)≤(t:Int))=false:=decide_eq_false (by omega)
 have d1':¬ ((s.size - 2:Nat):Int)≤(t:Int):=by omega
 obtain⟨m,hm⟩:∃ m,m=min 258 (s.size - t):=⟨_,rfl⟩
 have hw0:IntKind.i64.wrap ((s.size:Int) - (t:Int))=((s.size - t:Nat):Int):=by
  rw[wrap_small _ (by omega) (by omega)]
  omega
 have hw1:(if ((s.size - t:Nat):Int) < 258 then ((s.size - t:Nat):Int) else 258)=(m:Int):=by
  split <;> omega
 have hw2:min (258:Int) ((s.size - t:Nat):Int)=(m:Int):=by omega
 have HMM:=hid_of hm
 clear hm
 have i0:(0:Int)≤(t:Int):=by omega
 have i1:(t:Int) < ((s.size - 2:Nat):Int):=by omega
 have i2:(0:Int)≤(AA.length:Int):=by omega
 have i3:(AA.length:Int)≤(cp:Int):=by omega
 obtain⟨W1,hW1⟩:∃ W1,W1=((w.alloc (.cells #[.pointer (some ⟨p,0,none⟩)] 120)).alloc (.cells #[.int .i64 (t:Int)] 3)).alloc (.cells #[.int .i64 0,.int .i64 0,.int .i64 0] 105):=⟨_,rfl⟩
 obtain⟨b0,b1,gr,hB1,hz1⟩:W1.cell? ⟨w.heap.size,0,none⟩=some (.pointer (some ⟨p,0,none⟩))∧W1.cell? ⟨w.heap.size+1,0,none⟩=some (.int .i64 (t:Int))∧W1.heap[w.heap.size+1+1]?=some (.cells #[.int .i64 0,.int .i64 0,.int .i64 0] 105 (0,0))∧Below w.heap.size w W1∧W1.heap.size=w.heap.size+3:=by
  rw[hW1]
  refine⟨((bal (bstart _ _) _).cell (p:=⟨w.heap.size,0,none⟩) (by simp)).trans (by simp),((bstart _ _).cell (p:=⟨w.heap.size+1,0,none⟩) (by simp)).trans (by simp),?_,bal (bal (bstart _ _) _) _,by simp⟩
  have:=heap_alloc_new ((w.alloc (.cells #[.pointer (some ⟨p,0,none⟩)] 120)).alloc (.cells #[.int .i64 (t:Int)] 3)) (.cells #[.int .i64 0,.int .i64 0,.int .i64 0] 105)
  rw[World.size_alloc,World.size_alloc] at this
  exact this
 have HW1:=hid_of hW1
 clear hW1
 have n0:=(hB1.cell (p:=⟨p,0,none⟩) hp).trans m0
 have n1:=(hB1.cell (p:=⟨p,1,none⟩) hp).trans m1
 have n2:=(hB1.cell (p:=⟨p,2,none⟩) hp).trans m2
 have n3:=(hB1.cell (p:=⟨p,3,none⟩) hp).trans m3
 have na:=(hB1.cell (p:=⟨ga,oa+t,none⟩) hga).trans hac
 have HB1:=hid_of hB1
 have HGR:=hid_of gr
 clear m0 m1 m2 m3 hac gr hB1
 refine calls_of_marks Tryz.func85 rfl ?_
 simp only [Tryz.ntmps85,List.size_toArray,List.length_cons,List.length_nil,Nat.reduceAdd,Nat.reduceSub,Array.replicate_succ,Array.replicate_zero,List.push_toArray,List.append_toArray,List.nil_append,List.cons_append]
 go_wp2_with fail
 rw[← HW1.out]
 clear HW1
 go_quiet (fail)
 go_wp2_with fail
 generalize hWq:W1.drewN _=W2
 have HWq:=hid_of hWq
 have q0:W2.cell? ⟨w.heap.size,0,none⟩=some (.pointer (some ⟨p,0,none⟩)):=hWq ▸ b0
 have q1:W2.cell? ⟨w.heap.size+1,0,none⟩=some (.int .i64 (t:Int)):=hWq ▸ b1
 have q2:W2.cell? ⟨p,0,none⟩=some (.string s):=hWq ▸ n0
 have hz2:W2.heap.size=w.heap.size+3:=by
  rw[← hWq]
  exact hz1
 clear hWq
 have y0:∀ o,(W2.alloc o).cell? ⟨w.heap.size,0,none⟩=some (.pointer (some ⟨p,0,none⟩)):=fun o=>(grow_cell o (by omega) 0).trans q0
 have y1:∀ o,(W2.alloc o).cell? ⟨w.heap.size+1,0,none⟩=some (.int .i64 (t:Int)):=fun o=>(grow_cell o (by omega) 0).trans q1
 have y2:∀ o,(W2.alloc o).cell? ⟨p,0,none⟩=some (.string s):=fun o=>(grow_cell o (by omega) 0).trans q2
 have HZ2:=hid_of hz2
 clear hz1 hz2
 go_region_held3 (fun w'=>w'.cell? ⟨w.heap.size,0,none⟩=some (.pointer (some ⟨p,0,none⟩))∧w'.cell? ⟨w.heap.size+1,0,none⟩=some (.int .i64 (t:Int))∧w'.cell? ⟨p,0,none⟩=some (.string s)) (first | go_keep | (refine⟨?_,?_,?_⟩ <;> first | assumption | (simp [*]; done))) (fail)
 all_goals
  generalize hWx:(W2.alloc _)=W3
  have e0:W3.cell? ⟨w.heap.size,0,none⟩=some (.pointer (some ⟨p,0,none⟩)):=by rw [← hWx]; exact y0 _
  have e1:W3.cell? ⟨w.heap.size+1,0,none⟩=some (.int .i64 (t:Int)):=by rw [← hWx]; exact y1 _
  have e2:W3.cell? ⟨p,0,none⟩=some (.string s):=by rw [← hWx]; exact y2 _
  have HB3:Hid (Below w.heap.size w W3∧W3.heap[w.heap.size+1+1]?=some (.cells #[.int .i64 0,.int .i64 0,.int .i64 0] 105 (0,0))∧W3.heap[w.heap.size+3]?=some (.cells #[.int .i64 (m:Int)] 3 (0,0))∧W3.heap.size=w.heap.size+4):=by
   have hb:Below w.heap.size w W2:=by rw [← HWq.out]; exact bdraws HB1.out _
   have hgr:W2.heap[w.heap.size+1+1]?=some (.cells #[.int .i64 0,.int .i64 0,.int .i64 0] 105 (0,0)):=by rw [← HWq.out]; exact HGR.out
   have hn:=heap_alloc_new W2 (.cells #[.int .i64 (m:Int)] 3)
   rw[HZ2.out] at hn
   rw[← hWx]
   exact⟨bal hb _,((bstart W2 _).block _ (by rw [HZ2.out]; omega)).trans hgr,hn,by rw [World.size_alloc,HZ2.out]⟩
  have e3:W3.cell? ⟨p,1,none⟩=some (.int .i64 (c:Int)):=(HB3.out.1.cell (p:=⟨p,1,none⟩) hp).trans ((HB1.out.cell (p:=⟨p,1,none⟩) hp).symm.trans n1)
  have e4:W3.cell? ⟨p,2,none⟩=some (.map (some M)):=(HB3.out.1.cell (p:=⟨p,2,none⟩) hp).trans ((HB1.out.cell (p:=⟨p,2,none⟩) hp).symm.trans n2)
  have e5:W3.cell? ⟨p,3,none⟩=some (.slice (some ⟨ga,oa,none⟩) (s.size - 2) cap):=(HB3.out.1.cell (p:=⟨p,3,none⟩) hp).trans ((HB1.out.cell (p:=⟨p,3,none⟩) hp).symm.trans n3)
  have e6:W3.cell? ⟨ga,oa+t,none⟩=some (.int .i64 (AA.length:Nat)):=(HB3.out.1.cell (p:=⟨ga,oa+t,none⟩) hga).trans ((HB1.out.cell (p:=⟨ga,oa+t,none⟩) hga).symm.trans na)
  have hzz:W3.heap.size=w.heap.size+4:=HB3.out.2.2.2
  have HMM3:Hid (W3.heap[M]?=w.heap[M]?):=HB3.out.1.block M hMl
  have elk:=HLK.out W3 HMM3.out
  rw[HZ2.out]
  clear hWx y0 y1 y2 n0 n1 n2 n3 na b0 b1 q0 q1 q2
  go_wp2_with fail
  go_region_held3 (fun w'=>w'.cell? ⟨w.heap.size,0,none⟩=some (.pointer (some ⟨p,0,none⟩))∧w'.cell? ⟨w.heap.size+1,0,none⟩=some (.int .i64 (t:Int))∧w'.cell? ⟨p,0,none⟩=some (.string s)∧w'.cell? ⟨p,2,none⟩=some (.map (some M))∧w'.cell? ⟨p,3,none⟩=some (.slice (some ⟨ga,oa,none⟩) (s.size - 2) cap)∧w'.cell? ⟨ga,oa+t,none⟩=some (.int .i64 (AA.length:Nat))∧(Instr.lookup 176 (.map (some M)) (kv (txt s t) (txt s (t+1)) (txt s (t+2))) false).run Tryz.prog w'=.ok (.slice (some ⟨g,0,none⟩) LL.length cp) w')
   (refine⟨?_,?_,?_,?_,?_,?_,?_⟩ <;> first | assumption | exact HLK.out _ HMM3.out | go_keep | (simp [*]; done))
   (first | (go_at_call 121; refine (hkey _).mono ?_; rintro e w4 ⟨rfl,hb4⟩; have k0:w4.cell? ⟨w.heap.size,0,none⟩=some (.pointer (some ⟨p,0,none⟩)):=(hb4.cell (p:=⟨w.heap.size,0,none⟩) (by simp; omega)).trans e0; have k1:w4.cell? ⟨w.heap.size+1,0,none⟩=some (.int .i64 (t:Int)):=(hb4.cell (p:=⟨w.heap.size+1,0,none⟩) (by simp; omega)).trans e1; have k2:w4.cell? ⟨p,0,none⟩=some (.string s):=(hb4.cell (p:=⟨p,0,none⟩) (by simp; omega)).trans e2; have k4:w4.cell? ⟨p,2,none⟩=some (.map (some M)):=(hb4.cell (p:=⟨p,2,none⟩) (by simp; omega)).trans e4; have k5:w4.cell? ⟨p,3,none⟩=some (.slice (some ⟨ga,oa,none⟩) (s.size - 2) cap):=(hb4.cell (p:=⟨p,3,none⟩) (by simp; omega)).trans e5; have k6:w4.cell? ⟨ga,oa+t,none⟩=some (.int .i64 (AA.length:Nat)):=(hb4.cell (p:=⟨ga,oa+t,none⟩) (by simp; omega)).trans e6; have kl:=HLK.out w4 ((hb4.block M (by simp; omega)).trans HMM3.out)))
  all_goals
   have k3:w4.cell? ⟨p,1,none⟩=some (.int .i64 (c:Int)):=(hb4.cell (p:=⟨p,1,none⟩) (by simp; omega)).trans e3
   have HB4:Hid (Below w.heap.size w w4∧w4.heap[w.heap.size+1+1]?=some (.cells #[.int .i64 0,.int .i64 0,.int .i64 0] 105 (0,0))∧w4.heap[w.heap.size+3]?=some (.cells #[.int .i64 (m:Int)] 3 (0,0))∧w.heap.size+4≤w4.heap.size):=by
    have hs4:W3.heap.size≤w4.heap.size:=hb4.size
    have hb4':Below W3.heap.size W3 w4:=⟨hb4.1,hb4.2,hb4.3,hb4.4,hb4.5⟩
    exact⟨HB3.out.1.trans (hb4'.mono (by omega)),(hb4.block _ (by show _ < W3.heap.size; omega)).trans HB3.out.2.1,(hb4.block _ (by show _ < W3.heap.size; omega)).trans HB3.out.2.2.1,by omega⟩
   have hz4:=HB4.out.2.2.2
   have yk0:∀ o,(w4.alloc o).cell? ⟨w.heap.size,0,none⟩=some (.pointer (some ⟨p,0,none⟩)):=fun o=>(grow_cell o (by omega) 0).trans k0
   have yk3:∀ o,(w4.alloc o).cell? ⟨p,1,none⟩=some (.int .i64 (c:Int)):=fun o=>(grow_cell o (by omega) 1).trans k3
   clear hb4 e0 e1 e2 e3 e4 e5 e6 elk HB3 HMM3 hzz kl k4 k5 k6
   have hbk:=fun a len cap w=>back_any a len cap w
   go_wp2_with fail
   all_goals
    refine (hbk _ _ _ _).mono ?_
    rintro e w5 ⟨rfl,rfl⟩
    clear hbk
    go_wp2_with fail
    refine wp_back (α:={ x:Nat×Nat // x.2≤t }) (w4.heap.size+1) g (AA.length - c) (AA.length - (AA.length - c)) (cp - (AA.length - c)) (fun j=>((AA.getD (AA.length - c+j) 0:Nat):Int)) (fun j=>⟨(AA.length - (AA.length - c) - 1 - j,AA.getD (AA.length - 1 - j) 0),HLT.out _⟩) (fun x=>.int .i64 (x.1.1:Int)) (fun x=>.int .i64 (x.1.2:Int)) (by simp [Act.eval]) (by omega) ?_ (by simp) (by simp; omega) ?_ ?_
     (fun pre V=>BV w4 V (pick (txt s) s.size t (pre.map fun x=>x.1.2) 0 0))
     (fun q pre V=>(q=.exit 0∧(pick (txt s) s.size t (pre.map fun x=>x.1.2) 0 0).1=m)∧BV w4 V (pick (txt s) s.size t (pre.map fun x=>x.1.2) 0 0))
     ?_ ?_ ?_ ?_ ?_ ?_ ?_
    ·intro q hq
     show #[Value.int .i64 ((AA.length - (AA.length - c) - 1 - (AA.length - (AA.length - c) - (q+1)):Nat):Int),Value.int .i64 ((AA.getD (AA.length - 1 - (AA.length - (AA.length - c) - (q+1))) 0:Nat):Int)]=_
     rw[show AA.length - (AA.length - c) - 1 - (AA.length - (AA.length - c) - (q+1))=q by omega,show AA.length - 1 - (AA.length - (AA.length - c) - (q+1))=AA.length - c+q by omega]
    ·first
      | (simp; done)
      | (rw [show (max (0:Int) ((AA.length:Int) - (c:Int))).toNat=AA.length - c by omega]; simp; done)
      | (rw [show AA.length - c=0 by omega]; simp)
    ·intro j hj
     refine ((bal (bstart w4 _) _).cell (p:=⟨g,_,none⟩) (by show g < _; omega)).trans ((HB4.out.1.cell (p:=⟨g,_,none⟩) hg).trans ?_)
     rw[HGC.out _ (by omega),HAT.out _ (by omega)]
    ·exact fun pre V V' row hs hgr hr=>bv_own hs hgr (by simp) (fun k e=>(hr k e).1)
    ·exact fun q pre V V' row hs hgr hr=>⟨hs.1,bv_own hs.2 hgr (by simp) (fun k e=>(hr k e).1)⟩
    ·exact⟨((bstart (w4.alloc _) _).block w4.heap.size (by simp)).trans (heap_alloc_new w4 _),bal (bstart _ _) _,by simp⟩
    ·intro l x V K hK
     simp only [List.setIfInBounds_toArray,List.set_cons_succ,List.set_cons_zero] at hK ⊢
     gi_wp2
     exact hK
    ·intro l pre x V hbl
     simp only [List.setIfInBounds_toArray,List.set_cons_succ,List.set_cons_zero]
     have hB:=hbl.2.1
     obtain⟨⟨i,k⟩,hk⟩:=x
     obtain⟨⟨b,d⟩,hpk⟩:∃ r,pick (txt s) s.size t (pre.map fun x=>x.1.2) 0 0=r:=⟨_,rfl⟩
     rw[hpk] at hbl
     have HPK:=hid_of (pick_more (k:=k) (show t < s.size by omega) HMM.out hpk)
     have hcB:∀ b o,b < w4.heap.size→V.cell? ⟨b,o,none⟩=w4.cell? ⟨b,o,none⟩:=fun b o h=>hB.cell (p:=⟨b,o,none⟩) h
     have v0:V.cell? ⟨w.heap.size,0,none⟩=some (.pointer (some ⟨p,0,none⟩)):=(hcB _ _ (by omega)).trans k0
     have v1:V.cell? ⟨w.heap.size+1,0,none⟩=some (.int .i64 (t:Int)):=(hcB _ _ (by omega)).trans k1
     have v2:V.cell? ⟨w.heap.size+3,0,none⟩=some (.int .i64 (m:Int)):=(hcB _ _ (by omega)).trans ((cell_of_block HB4.out.2.2.1 0).trans rfl)
     have v3:V.cell? ⟨p,0,none⟩=some (.string s):=(hcB _ _ (by omega)).trans k2
     have hpV:p < V.heap.size:=Nat.lt_of_lt_of_le (by omega) hB.size
     have hbV:w4.heap.size < V.heap.size:=block_lt hbl.1
     have hsame:=same_any p s k t m V v3 hpV hk (by have:=HMM.out; omega) (by omega)
     have hcr:=common_le (f:=txt s) (N:=s.size) m k t
     generalize common (txt s) s.size k t m=n at hsame HPK hcr
     have HBL:=hid_of hbl
     have hgw:g < w4.heap.size:=by omega
     have HSP:Hid (∀ (V':World) (r:Nat×Nat),BV w4 V' r→pick (txt s) s.size t ((pre.map fun x=>x.1.2) ++ [k]) 0 0=r→BV w4 V' (pick (txt s) s.size t ((pre ++ [(⟨(i,k),hk⟩:{ x:Nat×Nat // x.2≤t })]).map fun x=>x.1.2) 0 0)):=fun V' r h e=>by
      rw[List.map_append]
      show BV w4 V' (pick (txt s) s.size t ((pre.map fun x=>x.1.2) ++ [k]) 0 0)
      rw[e]
      exact h
     have HSQ:Hid (∀ r,pick (txt s) s.size t ((pre.map fun x=>x.1.2) ++ [k]) 0 0=r→(pick (txt s) s.size t ((pre ++ [(⟨(i,k),hk⟩:{ x:Nat×Nat // x.2≤t })]).map fun x=>x.1.2) 0 0).1=r.1):=fun r e=>by
      rw[List.map_append]
      show (pick (txt s) s.size t ((pre.map fun x=>x.1.2) ++ [k]) 0 0).1=r.1
      rw[e]
     clear hbl hB hpk hcB
     by_cases hgt:b < n
     ·have dg:decide ((b:Int) < (n:Int))=true:=decide_eq_true (by omega)
      rw[if_pos hgt] at HPK
      have hdd:(t:Int) - (k:Int)=((t - k:Nat):Int):=by omega
      by_cases heq:n=m
      ·have de:((n:Int) == (m:Int))=true:=by simp [heq]
       have HEQ:=hid_of heq
       clear heq
       gi_wp2_with (refine⟨trivial,?_⟩; gi_at_call 131; refine (CallsIn.inRound l (callsIn_wide.2 hsame)).mono ?_; rintro e V1 ⟨rfl,hB1⟩; have hg1:=(hB1.block _ hbV).trans HBL.out.1; have u0:V1.cell? ⟨w4.heap.size,0,none⟩=some (.int .i64 0):=(cell_of_block hg1 0).trans rfl; have u1:V1.cell? ⟨w4.heap.size,1,none⟩=some (.int .i64 (b:Int)):=(cell_of_block hg1 1).trans rfl; have u2:V1.cell? ⟨w4.heap.size,2,none⟩=some (.int .i64 (d:Int)):=(cell_of_block hg1 2).trans rfl; have uf:∀ q,V1.frozen? ⟨w4.heap.size,q,none⟩=false:=(fun q=>by simp [World.frozen?,hg1]); have u3:V1.cell? ⟨w.heap.size+1,0,none⟩=some (.int .i64 (t:Int)):=(hB1.cell (p:=⟨w.heap.size+1,0,none⟩) (by show w.heap.size+1 < _; omega)).trans v1; have u4:V1.cell? ⟨w.heap.size+3,0,none⟩=some (.int .i64 (m:Int)):=(hB1.cell (p:=⟨w.heap.size+3,0,none⟩) (by show w.heap.size+3 < _; omega)).trans v2; have HVB:=hid_of hB1; clear hg1 hB1)
       have hfin:=fun B hB=>bv_store (B:=B) HBL.out HVB.out hgw hB n (t - k)
       exact⟨(hfin _ (by simp; omega)).1,⟨rfl,(HSQ.out _ HPK.out).trans HEQ.out⟩,HSP.out _ _ (hfin _ (Nat.lt_succ_self _)).2.2 HPK.out⟩
      ·have de:((n:Int) == (m:Int))=false:=by simp; omega
       gi_wp2_with (refine⟨trivial,?_⟩; gi_at_call 131; refine (CallsIn.inRound l (callsIn_wide.2 hsame)).mono ?_; rintro e V1 ⟨rfl,hB1⟩; have hg1:=(hB1.block _ hbV).trans HBL.out.1; have u0:V1.cell? ⟨w4.heap.size,0,none⟩=some (.int .i64 0):=(cell_of_block hg1 0).trans rfl; have u1:V1.cell? ⟨w4.heap.size,1,none⟩=some (.int .i64 (b:Int)):=(cell_of_block hg1 1).trans rfl; have u2:V1.cell? ⟨w4.heap.size,2,none⟩=some (.int .i64 (d:Int)):=(cell_of_block hg1 2).trans rfl; have uf:∀ q,V1.frozen? ⟨w4.heap.size,q,none⟩=false:=(fun q=>by simp [World.frozen?,hg1]); have u3:V1.cell? ⟨w.heap.size+1,0,none⟩=some (.int .i64 (t:Int)):=(hB1.cell (p:=⟨w.heap.size+1,0,none⟩) (by show w.heap.size+1 < _; omega)).trans v1; have u4:V1.cell? ⟨w.heap.size+3,0,none⟩=some (.int .i64 (m:Int)):=(hB1.cell (p:=⟨w.heap.size+3,0,none⟩) (by show w.heap.size+3 < _; omega)).trans v2; have HVB:=hid_of hB1; clear hg1 hB1)
       have hfin:=fun B hB=>bv_store (B:=B) HBL.out HVB.out hgw hB n (t - k)
       exact⟨(hfin _ (by simp; omega)).1,(hfin _ (Nat.lt_succ_self _)).2.1,HSP.out _ _ (hfin _ (Nat.lt_succ_self _)).2.2 HPK.out⟩
     ·have dg:decide ((b:Int) < (n:Int))=false:=decide_eq_false (by omega)
      rw[if_neg hgt] at HPK
      by_cases heq:b=m
      ·have de:((b:Int) == (m:Int))=true:=by simp [heq]
       have HEQ:=hid_of heq
       clear heq
       gi_wp2_with (refine⟨trivial,?_⟩; gi_at_call 131; refine (CallsIn.inRound l (callsIn_wide.2 hsame)).mono ?_; rintro e V1 ⟨rfl,hB1⟩; have hg1:=(hB1.block _ hbV).trans HBL.out.1; have u0:V1.cell? ⟨w4.heap.size,0,none⟩=some (.int .i64 0):=(cell_of_block hg1 0).trans rfl; have u1:V1.cell? ⟨w4.heap.size,1,none⟩=some (.int .i64 (b:Int)):=(cell_of_block hg1 1).trans rfl; have u2:V1.cell? ⟨w4.heap.size,2,none⟩=some (.int .i64 (d:Int)):=(cell_of_block hg1 2).trans rfl; have uf:∀ q,V1.frozen? ⟨w4.heap.size,q,none⟩=false:=(fun q=>by simp [World.frozen?,hg1]); have u3:V1.cell? ⟨w.heap.size+1,0,none⟩=some (.int .i64 (t:Int)):=(hB1.cell (p:=⟨w.heap.size+1,0,none⟩) (by show w.heap.size+1 < _; omega)).trans v1; have u4:V1.cell? ⟨w.heap.size+3,0,none⟩=some (.int .i64 (m:Int)):=(hB1.cell (p:=⟨w.heap.size+3,0,none⟩) (by show w.heap.size+3 < _; omega)).trans v2; have HVB:=hid_of hB1; clear hg1 hB1)
       have hfin:=fun B=>bv_call (B:=B) HBL.out HVB.out hgw
       exact⟨(hfin _).1,⟨rfl,(HSQ.out _ HPK.out).trans HEQ.out⟩,HSP.out _ _ (hfin 0).2.2 HPK.out⟩
      ·have de:((b:Int) == (m:Int))=false:=by simp; omega
       gi_wp2_with (refine⟨trivial,?_⟩; gi_at_call 131; refine (CallsIn.inRound l (callsIn_wide.2 hsame)).mono ?_; rintro e V1 ⟨rfl,hB1⟩; have hg1:=(hB1.block _ hbV).trans HBL.out.1; have u0:V1.cell? ⟨w4.heap.size,0,none⟩=some (.int .i64 0):=(cell_of_block hg1 0).trans rfl; have u1:V1.cell? ⟨w4.heap.size,1,none⟩=some (.int .i64 (b:Int)):=(cell_of_block hg1 1).trans rfl; have u2:V1.cell? ⟨w4.heap.size,2,none⟩=some (.int .i64 (d:Int)):=(cell_of_block hg1 2).trans rfl; have uf:∀ q,V1.frozen? ⟨w4.heap.size,q,none⟩=false:=(fun q=>by simp [World.frozen?,hg1]); have u3:V1.cell? ⟨w.heap.size+1,0,none⟩=some (.int .i64 (t:Int)):=(hB1.cell (p:=⟨w.heap.size+1,0,none⟩) (by show w.heap.size+1 < _; omega)).trans v1; have u4:V1.cell? ⟨w.heap.size+3,0,none⟩=some (.int .i64 (m:Int)):=(hB1.cell (p:=⟨w.heap.size+3,0,none⟩) (by show w.heap.size+3 < _; omega)).trans v2; have HVB:=hid_of hB1; clear hg1 hB1)
       have hfin:=fun B=>bv_call (B:=B) HBL.out HVB.out hgw
       exact⟨(hfin _).1,(hfin 0).2.1,HSP.out _ _ (hfin 0).2.2 HPK.out⟩
    ·intro D V hD hbl hK
     obtain⟨⟨b,d⟩,hpk⟩:∃ r,pick (txt s) s.size t ((upto (fun j=>(⟨(AA.length - (AA.length - c) - 1 - j,AA.getD (AA.length - 1 - j) 0),HLT.out _⟩:{ x:Nat×Nat // x.2≤t })) (AA.length - (AA.length - c))).map fun x=>x.1.2) 0 0=r:=⟨_,rfl⟩
     rw[hpk] at hbl
     have HBM:Hid (bestM (txt s) s.size t c=(b,d)):=by
      show bestM (txt s) s.size t c=(b,d)
      unfold bestM
      rw[HPL.out,← hpk,upto,List.map_map]
      rfl
     clear hpk
     have hr0:V.heap[w.heap.size+1+1]?=some (.cells #[.int .i64 0,.int .i64 0,.int .i64 0] 105 (0,0)):=(hbl.2.1.block _ (by omega)).trans HB4.out.2.1
     have u0:V.cell? ⟨w4.heap.size,0,none⟩=some (.int .i64 0):=(cell_of_block hbl.1 0).trans rfl
     have u1:V.cell? ⟨w4.heap.size,1,none⟩=some (.int .i64 (b:Int)):=(cell_of_block hbl.1 1).trans rfl
     have u2:V.cell? ⟨w4.heap.size,2,none⟩=some (.int .i64 (d:Int)):=(cell_of_block hbl.1 2).trans rfl
     have r0:V.cell? ⟨w.heap.size+1+1,0,none⟩=some (.int .i64 0):=(cell_of_block hr0 0).trans rfl
     have r1:V.cell? ⟨w.heap.size+1+1,1,none⟩=some (.int .i64 0):=(cell_of_block hr0 1).trans rfl
     have r2:V.cell? ⟨w.heap.size+1+1,2,none⟩=some (.int .i64 0):=(cell_of_block hr0 2).trans rfl
     have rf:∀ q,V.frozen? ⟨w.heap.size+1+1,q,none⟩=false:=fun q=>by simp [World.frozen?,hr0]
     have hlt:w.heap.size+1+1 < V.heap.size:=block_lt hr0
     have hlt2:w4.heap.size < V.heap.size:=block_lt hbl.1
     have HEND:Hid (best_end_post D V w b d):=best_end hr0 hK (by simp at hD; omega) (HB4.out.1.trans (hbl.2.1.mono (by omega)))
     clear hr0 hbl hK
     go_wp2_with fail
     exact best_leave HEND.out (by rw [HBM.out]) rfl
    ·rintro D q k V hD hk ⟨⟨rfl,hqm⟩,hbl⟩ hK
     obtain⟨⟨b,d⟩,hpk⟩:∃ r,pick (txt s) s.size t ((upto (fun j=>(⟨(AA.length - (AA.length - c) - 1 - j,AA.getD (AA.length - 1 - j) 0),HLT.out _⟩:{ x:Nat×Nat // x.2≤t })) k).map fun x=>x.1.2) 0 0=r:=⟨_,rfl⟩
     rw[hpk] at hbl hqm
     have HBM:Hid (bestM (txt s) s.size t c=(b,d)):=by
      show bestM (txt s) s.size t c=(b,d)
      unfold bestM
      rw[HPL.out]
      rw[upto,List.map_map] at hpk
      exact pick_stop (show t < s.size by omega) HMM.out hk hpk hqm
     clear hpk hqm
     have hr0:V.heap[w.heap.size+1+1]?=some (.cells #[.int .i64 0,.int .i64 0,.int .i64 0] 105 (0,0)):=(hbl.2.1.block _ (by omega)).trans HB4.out.2.1
     have u0:V.cell? ⟨w4.heap.size,0,none⟩=some (.int .i64 0):=(cell_of_block hbl.1 0).trans rfl
     have u1:V.cell? ⟨w4.heap.size,1,none⟩=some (.int .i64 (b:Int)):=(cell_of_block hbl.1 1).trans rfl
     have u2:V.cell? ⟨w4.heap.size,2,none⟩=some (.int .i64 (d:Int)):=(cell_of_block hbl.1 2).trans rfl
     have r0:V.cell? ⟨w.heap.size+1+1,0,none⟩=some (.int .i64 0):=(cell_of_block hr0 0).trans rfl
     have r1:V.cell? ⟨w.heap.size+1+1,1,none⟩=some (.int .i64 0):=(cell_of_block hr0 1).trans rfl
     have r2:V.cell? ⟨w.heap.size+1+1,2,none⟩=some (.int .i64 0):=(cell_of_block hr0 2).trans rfl
     have rf:∀ q,V.frozen? ⟨w.heap.size+1+1,q,none⟩=false:=fun q=>by simp [World.frozen?,hr0]
     have hlt:w.heap.size+1+1 < V.heap.size:=block_lt hr0
     have hlt2:w4.heap.size < V.heap.size:=block_lt hbl.1
     have HEND:Hid (best_end_post D V w b d):=best_end hr0 hK (by simp at hD; omega) (HB4.out.1.trans (hbl.2.1.mono (by omega)))
     clear hr0 hbl hK
     go_wp2_with fail
     exact best_leave HEND.out (by rw [HBM.out]) rfl
end Go.Proofs.YtklpiihnbokkkaaGreatDoor
