/-
  Texts of the proof, put together.
-/
import Derived.Test.YtcbbcadfolgioaaDoorPd04
import Derived.BigQuiet
namespace Go.Proofs.YtcbbcadfolgioaaDoor
section
namespace ScanMath
open Go.RowKit OutMath TakeMath RastMath FiltMath PassMath
def cntL (lace:Bool):Nat:=if lace then 7 else 1
def cwL (lace:Bool) (W H p:Nat):Nat:=if lace then pw W H p else W
def chL (lace:Bool) (W H p:Nat):Nat:=if lace then ph W H p else H
def fL (lace:Bool) (W H N:Nat) (f:Nat→Int) (p:Nat):Nat→Int:=if lace then passF W H N f p else f
theorem pw_pos {W H p:Nat} (h:1≤ph W H p):1≤pw W H p:=by
 unfold ph at h
 unfold pw
 split at h
 ·omega
 ·rename_i e
  rw[if_neg e]
  omega
section
variable {lace:Bool} {W H N D p:Nat}
theorem cwL_le (lace:Bool) (W H p:Nat):cwL lace W H p≤W:=by
 unfold cwL
 split
 ·exact pw_le W H p
 ·exact Nat.le_refl _
theorem chL_le (lace:Bool) (W H p:Nat):chL lace W H p≤H:=by
 unfold chL
 split
 ·exact ph_le W H p
 ·exact Nat.le_refl _
theorem cwL_pos (hW:1≤W) (h:1≤chL lace W H p):1≤cwL lace W H p:=by
 unfold cwL
 unfold chL at h
 split
 ·rename_i e
  rw[if_pos e] at h
  exact pw_pos h
 ·exact hW
theorem cntL_le (lace:Bool):cntL lace≤7:=by
 unfold cntL
 split <;> omega
theorem fL_fit {f:Nat→Int} (hN:1≤N) (hp:p < cntL lace) (h:Fit12 f (W * H * N) D):Fit12 (fL lace W H N f p) (cwL lace W H p * chL lace W H p * N) D:=by
 unfold cntL at hp
 unfold fL cwL chL
 cases lace with
 | false=>simpa using h
 | true=>
  intro i hi
  exact h _ (pos_lt hN (by simpa using hp) (by simpa using hi))
def partR (lace:Bool) (W H:Nat) (c d:Int) (N:Nat) (f:Nat→Int) (p:Nat):Ras:=⟨(cwL lace W H p:Int),(chL lace W H p:Int),c,d,cwL lace W H p * chL lace W H p * N,fL lace W H N f p⟩
theorem partR_lace (W H:Nat) (c d:Int) (N:Nat) (f:Nat→Int):partR true W H c d N f=passR W H c d N f:=rfl
def scanL (lace:Bool) (way:Int) (W H N D:Nat) (f:Nat→Int):Nat→List Int:=fun p=>linesL way (fL lace W H N f p) (cwL lace W H p * N) D (unitN N D) (chL lace W H p)
def scanT (lace:Bool) (way:Int) (W H N D:Nat) (f:Nat→Int):ByteArray:=strOfNums (partsL (scanL lace way W H N D f) (cntL lace))
def scanN (lace:Bool) (W H N D:Nat):Nat:=offP (cwL lace W H) (chL lace W H) N D (cntL lace)
theorem rb_small {s D:Nat} (hs:s≤96) (hD:D≤16):rb s D≤200:=by
 have:=Nat.mul_le_mul hs hD
 unfold rb
 omega
theorem part_s (hW:W≤24) (hN:N≤4):cwL lace W H p * N≤96:=Nat.mul_le_mul (Nat.le_trans (cwL_le _ _ _ _) hW) hN
theorem scanL_length {way:Int} {f:Nat→Int} (hway:0≤way∧way≤5) (hW:W≤24) (hN:N≤4) (hD:D≤16) (p:Nat):(scanL lace way W H N D f p).length=chL lace W H p * (rb (cwL lace W H p * N) D+1):=
 linesL_length hway (unitN_range hN hD) (rb_small (part_s hW hN) hD) _
theorem scanT_size {way:Int} {f:Nat→Int} (hway:0≤way∧way≤5) (hW:W≤24) (hN:N≤4) (hD:D≤16):(scanT lace way W H N D f).size=scanN lace W H N D:=
 (strOfNums_size _).trans (partsL_length _ (fun p _=>scanL_length hway hW hN hD p))
theorem scanT_at {way:Int} {f:Nat→Int} (hway:0≤way∧way≤5) (hW:W≤24) (hN:N≤4) (hD:D≤16) {p i:Nat} (hp:p < cntL lace) (hi:i < chL lace W H p * (rb (cwL lace W H p * N) D+1)):bts (scanT lace way W H N D f) (offP (cwL lace W H) (chL lace W H) N D p+i)=(scanL lace way W H N D f p).getD i 0:=by
 have hl:=fun q (_:q < cntL lace)=>scanL_length (lace:=lace) (H:=H) (f:=f) hway hW hN hD q
 have ht:=partsL_length (L:=scanL lace way W H N D f) (cw:=cwL lace W H) (ch:=chL lace W H) (N:=N) (D:=D) (cntL lace) hl
 have hm:offP (cwL lace W H) (chL lace W H) N D (p+1)≤offP (cwL lace W H) (chL lace W H) N D (cntL lace):=offP_mono (by omega)
 rw[offP_succ] at hm
 unfold scanT
 rw[bts_str (L:=partsL (scanL lace way W H N D f) (cntL lace)) (partsL_byte _ (fun q _=>linesL_byte hway _)) _ (by rw [ht]; omega)]
 exact partsL_at _ hl p i hp (by rw [hl p hp]; exact hi)
end
def readR (t:ByteArray) (lace:Bool) (W H:Nat) (c d:Int) (N D:Nat) (p:Nat):Ras:=⟨(cwL lace W H p:Int),(chL lace W H p:Int),c,d,cwL lace W H p * chL lace W H p * N,rsmp t (offP (cwL lace W H) (chL lace W H) N D p) (cwL lace W H p * N) D (unitN N D)⟩
def readAll (t:ByteArray) (lace:Bool) (W H:Nat) (c d:Int) (N D:Nat):Ras:=if lace then joinR (W:Int) (H:Int) (readR t true W H c d N D) else readR t false W H c d N D 0
def kindsR (t:ByteArray) (lace:Bool) (W H N D:Nat):Prop:=∀ p,p < cntL lace→∀ j,j < chL lace W H p→bts t (offP (cwL lace W H) (chL lace W H) N D p+j * (rb (cwL lace W H p * N) D+1))≤4
section
variable {lace:Bool} {W H N D:Nat} {c d:Int}
theorem read_from (t:ByteArray) (hW:1≤W∧W≤24) (hH:1≤H∧H≤24) (hN:chan c=(N:Int)) (hd:DepthR c d) (hD:d.toNat=D):FromR (W:Int) (H:Int) 7 (readR t true W H c d N D):=by
 have hN1:1≤N:=by have:=chan_pos hd; omega
 refine (from_fits (R:=readR t true W H c d N D) hW hH hN).2.mpr ⟨fun p _=>⟨rfl,rfl,rfl,rfl,rfl⟩,⟨by omega,by omega⟩,⟨by omega,by omega⟩,hd,?_,fun i hi=>?_⟩
 ·show ((W * H * N:Nat):Int)=(W:Int) * (H:Int) * chan c
  rw[hN]
  simp
 ·show 0≤rsmp t _ _ D _ _∧rsmp t _ _ D _ _ < p2 d.toNat
  rw[hD]
  exact rsmp_fit _ _ _ _ _ (idxM W H N i+1) _ (Nat.lt_succ_self _)
theorem scan_fits {way:Int} {f:Nat→Int} (hway:0≤way∧way≤5) (hW:W≤24) (hN:N≤4) (hD:D≤16) {p:Nat} (hp:p < cntL lace):offP (cwL lace W H) (chL lace W H) N D p+chL lace W H p * (rb (cwL lace W H p * N) D+1)≤(scanT lace way W H N D f).size:=by
 rw[scanT_size hway hW hN hD]
 exact offP_mono (p:=p+1) (by omega)
theorem scan_kinds {way:Int} {f:Nat→Int} (hway:0≤way∧way≤5) (hW:W≤24) (hN:N≤4) (hD:D≤16):kindsR (scanT lace way W H N D f) lace W H N D:=fun _ hp j hj=>
 (rrow_back hway (unitN_range hN hD) (rb_small (part_s hW hN) hD) (scan_fits hway hW hN hD hp) (fun _ hi=>scanT_at hway hW hN hD hp hi) j hj).1.2
theorem scan_back {way:Int} {f:Nat→Int} (hway:0≤way∧way≤5) (hW:1≤W∧W≤24) (hH:1≤H∧H≤24) (hN:chan c=(N:Int)) (hd:DepthR c d) (hD:d.toNat=D) (hf:Fit12 f (W * H * N) D):(readAll (scanT lace way W H N D f) lace W H c d N D).same ⟨(W:Int),(H:Int),c,d,W * H * N,f⟩:=by
 have hN1:1≤N:=by have:=chan_pos hd; omega
 have hN4:N≤4:=by have:=(chan_range c).2; omega
 have hD16:D≤16:=by have:=five_range (depth_five hd); omega
 have hb:∀ p,p < cntL lace→∀ i,i < cwL lace W H p * chL lace W H p * N→rsmp (scanT lace way W H N D f) (offP (cwL lace W H) (chL lace W H) N D p) (cwL lace W H p * N) D (unitN N D) i=fL lace W H N f p i:=fun p hp i hi=>by
  have e:cwL lace W H p * chL lace W H p * N=chL lace W H p * (cwL lace W H p * N):=by rw [Nat.mul_comm (cwL lace W H p),Nat.mul_assoc]
  have h1:=fL_fit hN1 hp hf
  rw[e] at h1 hi
  exact rsmp_back hway (unitN_range hN4 hD16) (rb_small (part_s hW.2 hN4) hD16) (scan_fits hway hW.2 hN4 hD16 hp) (fun _ hi=>scanT_at hway hW.2 hN4 hD16 hp hi) h1 hi
 cases lace with
 | false=>
  refine⟨rfl,rfl,rfl,rfl,rfl,fun i hi=>?_⟩
  exact hb 0 (by unfold cntL; simp) i hi
 | true=>
  have hok:RasOk ⟨(W:Int),(H:Int),c,d,W * H * N,f⟩:=⟨⟨by show (1:Int)≤(W:Int); omega,by show (W:Int)≤24; omega⟩,⟨by show (1:Int)≤(H:Int); omega,by show (H:Int)≤24; omega⟩,hd,by show ((W * H * N:Nat):Int)=(W:Int) * (H:Int) * chan c; rw [hN]; simp,by show Fit12 f (W * H * N) d.toNat; rw [hD]; exact hf⟩
  have ep:passesR ⟨(W:Int),(H:Int),c,d,W * H * N,f⟩=passR W H c d N f:=by
   unfold passesR
   show passR (W:Int).toNat (H:Int).toNat c d (chan c).toNat f=_
   rw[hN]
   rfl
  refine (join_passes hok (R:=readR (scanT true way W H N D f) true W H c d N D) (fun p hp=>?_)).1
  rw[ep]
  exact⟨rfl,rfl,rfl,rfl,rfl,fun i hi=>hb p (by unfold cntL; simpa using hp) i hi⟩
end
end ScanMath
end
section
open Go.RowKit RastMath PassMath ScanMath
def ScanOk (r:Ras) (way:Int):Prop:=RasOk r∧0≤way∧way≤5
def scanV (r:Ras) (lace:Bool) (way:Int):ByteArray:=scanT lace way r.x0.toNat r.x1.toNat (chan r.x2).toNat r.x3.toNat r.f
def scanB (W H c d:Int) (lace:Bool):Int:=if SideR W∧SideR H∧DepthR c d then (scanN lace W.toNat H.toNat (chan c).toNat d.toNat:Int) else 0
theorem scanB_in {W H N D:Nat} {c d:Int} {lace:Bool} (hW:1≤W∧W≤24) (hH:1≤H∧H≤24) (hd:DepthR c d) (hN:chan c=(N:Int)) (hD:d=(D:Int)):scanB (W:Int) (H:Int) c d lace=(scanN lace W H N D:Int):=by
 unfold scanB
 rw[if_pos ⟨⟨by omega,by omega⟩,⟨by omega,by omega⟩,hd⟩,hN,hD]
 rfl
def SizeOk (t:ByteArray) (W H c d:Int) (lace:Bool):Prop:=(SideR W∧SideR H∧DepthR c d)∧(t.size:Int)=scanB W H c d lace
def KindsOk (t:ByteArray) (W H c d:Int) (lace:Bool):Prop:=kindsR t lace W.toNat H.toNat (chan c).toNat d.toNat
def readV (t:ByteArray) (W H c d:Int) (lace:Bool):Ras:=readAll t lace W.toNat H.toNat c d (chan c).toNat d.toNat
def ScanOfAnswer:Prop:=∀ (r:Ras) (a:Option Addr) (cap:Nat) (lace:Bool) (way:Int) (w:World),Came w a r.n r.f→r.n≤1048576→r.n≤cap→cap≤maxLen→(Lit.int .i64 way).wf=true→GridG w→
 (ScanOk r way→Calls Tryd.prog 15 #[rasA r a cap,.bool lace,.int .i64 way] w fun e w'=>e=.returned (.tuple #[.string (scanV r lace way),.bool true])∧Below w.heap.size w w')∧
 (¬ ScanOk r way→Calls Tryd.prog 15 #[rasA r a cap,.bool lace,.int .i64 way] w fun e w'=>e=.returned (.tuple #[.string ⟨#[]⟩,.bool false])∧Below w.heap.size w w')
def ScanBytesAnswer:Prop:=∀ (W H c d:Int) (lace:Bool) (w:World),(Lit.int .i64 W).wf=true→(Lit.int .i64 H).wf=true→(Lit.int .i64 c).wf=true→(Lit.int .i64 d).wf=true→GridG w→
 Calls Tryd.prog 17 #[.int .i64 W,.int .i64 H,.int .i64 c,.int .i64 d,.bool lace] w fun e w'=>e=.returned (.int .i64 (scanB W H c d lace))∧Below w.heap.size w w'
def ScanReadAnswer:Prop:=∀ (t:ByteArray) (W H c d:Int) (lace:Bool) (w:World),t.size≤1048576→(Lit.int .i64 W).wf=true→(Lit.int .i64 H).wf=true→(Lit.int .i64 c).wf=true→(Lit.int .i64 d).wf=true→GridG w→
 (SizeOk t W H c d lace→KindsOk t W H c d lace→Calls Tryd.prog 16 #[.string t,.int .i64 W,.int .i64 H,.int .i64 c,.int .i64 d,.bool lace] w fun e w'=>∃ a' c',e=.returned (.tuple #[rasA (readV t W H c d lace) a' c',.int .i64 0])∧SL w' w.heap.size a' (readV t W H c d lace).n c' (readV t W H c d lace).f∧Below w.heap.size w w')∧
 (SizeOk t W H c d lace→¬ KindsOk t W H c d lace→Calls Tryd.prog 16 #[.string t,.int .i64 W,.int .i64 H,.int .i64 c,.int .i64 d,.bool lace] w fun e w'=>∃ a' c',e=.returned (.tuple #[.agg #[.int .i64 0,.int .i64 0,.int .i64 0,.int .i64 0,.slice a' 0 c'],.int .i64 2])∧Below w.heap.size w w')∧
 (¬ SizeOk t W H c d lace→Calls Tryd.prog 16 #[.string t,.int .i64 W,.int .i64 H,.int .i64 c,.int .i64 d,.bool lace] w fun e w'=>∃ a' c',e=.returned (.tuple #[.agg #[.int .i64 0,.int .i64 0,.int .i64 0,.int .i64 0,.slice a' 0 c'],.int .i64 1])∧Below w.heap.size w w')
end
section
open ScanMath
theorem offP_small {lace:Bool} {W H N D:Nat} (hW:W≤24) (hH:H≤24) (hN:N≤4) (hD:D≤16):∀ p,offP (cwL lace W H) (chL lace W H) N D p≤p * 4824
 | 0=>by simp [offP]
 | p+1=>by
  have ih:=offP_small (lace:=lace) hW hH hN hD p
  have:chL lace W H p * (rb (cwL lace W H p * N) D+1)≤24 * 201:=Nat.mul_le_mul (Nat.le_trans (chL_le _ _ _ _) hH) (Nat.add_le_add_right (rb_small (part_s hW hN) hD) 1)
  rw[offP_succ,Nat.add_mul,Nat.one_mul]
  omega
end
section
open Go.RowKit Go.Joins
def Cur (w:World) (base b:Nat):Prop:=
 ∃ a len cap i h,w.heap[b]?=some (.cells #[.slice a len cap,.int .i64 i,.int .i64 h] 94 (0,0))∧base≤b∧0≤i∧i≤len∧len≤1048576∧CodeAt w base a len
theorem Cur.lt {w:World} {base b:Nat} (h:Cur w base b):b < w.heap.size:=by
 obtain⟨a,len,cap,i,h,hb,_⟩:=h
 rcases Nat.lt_or_ge b w.heap.size with k | k
 ·exact k
 ·rw[Array.getElem?_eq_none k] at hb; cases hb
theorem Cur.base_le {w:World} {base b:Nat} (h:Cur w base b):base≤b:=by
 obtain⟨a,len,cap,i,h,_,hb,_⟩:=h
 exact hb
theorem Cur.keep {w w':World} {base b:Nat} (h:Cur w base b) (hk:w'.heap[b]?=w.heap[b]?) (hb:Below base w w'):Cur w' base b:=by
 obtain⟨a,len,cap,i,h,h1,h2,h3,h4,h5,h6⟩:=h
 exact⟨a,len,cap,i,h,hk.trans h1,h2,h3,h4,h5,h6.below hb⟩
theorem Cur.alloc {w:World} {base b:Nat} (h:Cur w base b) (o:Obj):Cur (w.alloc o) base b:=
 h.keep (Below.heap_alloc w o b h.lt) ((Below.refl _ _).alloc (by have:=h.lt; have:=h.base_le; omega) o)
theorem Cur.setCell {w:World} {base b:Nat} (h:Cur w base b) (p:Addr) (v:Value) (hne:p.block≠b) (hp:base≤p.block):Cur (w.setCell p v) base b:=
 h.keep (Below.heap_setCell w p v b (Ne.symm hne)) ((Below.refl _ _).setCell hp v)
theorem Cur.grown {w w':World} {base b:Nat} {row:Option Nat} (h:Cur w base b) (hg:w.grownBy w' row) (hne:row≠some b) (hr:∀ k,row=some k→base≤k):Cur w' base b:=
 h.keep (hg.block b h.lt (Ne.symm hne)) ((Below.refl _ _).grown hg (by have:=h.lt; have:=h.base_le; omega) hr)
theorem grown_refl (w:World) (row:Option Nat):w.grownBy w row:=⟨rfl,rfl,rfl,Nat.le_refl _,fun _ _ _=>rfl⟩
theorem grown_trans {a b c:World} {row:Option Nat} (h:a.grownBy b row) (k:b.grownBy c row):a.grownBy c row:=
 ⟨k.os.trans h.os,k.tape.trans h.tape,k.output.trans h.output,Nat.le_trans h.size k.size,fun i hi hne=>(k.block i (Nat.lt_of_lt_of_le hi h.size) hne).trans (h.block i hi hne)⟩
theorem grown_drewN {a b:World} {row:Option Nat} (h:a.grownBy b row) (n:Nat):a.grownBy (b.drewN n) row:=⟨h.os,h.tape,h.output,h.size,h.block⟩
theorem grown_set {a b:World} {g:Nat} (h:a.grownBy b (some g)) (i:Nat) (v:Value):a.grownBy (b.setCell ⟨g,i,none⟩ v) (some g):=
 ⟨h.os,h.tape,h.output,by simpa using h.size,fun k hk hne=>(Below.heap_setCell b _ v k (by simpa using hne)).trans (h.block k hk hne)⟩
theorem below_of_grown {w w':World} {base b:Nat} (h:w.grownBy w' (some b)) (h1:base≤b) (h2:b < w.heap.size):Below base w w':=
 (Below.refl _ _).grown h (by omega) (fun k hk=>by cases hk; exact h1)
theorem Cur.drew {w:World} {base b:Nat} (h:Cur w base b):Cur w.drew base b:=h.keep rfl ⟨rfl,rfl,rfl,Nat.le_refl _,fun _ _=>rfl⟩
theorem and255 (x:Int):0≤bits .and .i64 x 255∧bits .and .i64 x 255≤255:=by
 have h2:(BitVec.ofInt 64 (255:Int)).toNat=255:=by decide
 have e:bits .and .i64 x 255=IntKind.i64.wrap ((BitVec.ofInt 64 x &&& BitVec.ofInt 64 (255:Int)).toNat:Int):=rfl
 rw[e,BitVec.toNat_and,h2,IntKind.wrap_i64]
 have:(BitVec.ofInt 64 x).toNat &&& 255≤255:=Nat.and_le_right
 omega
section
variable {w:World} {base b:Nat} {a:Option Addr} {len cap:Nat} {i h:Int}
theorem cur_next {n:Nat} (hb:w.heap[b]?=some (.cells #[.slice a len cap,.int .i64 n,.int .i64 h] 94 (0,0))) (hk:CodeAt w base a len) (hbase:base≤b) (hn:n+1≤len) (hlen:len≤1048576) (z:Int) (q:Nat):
  Cur (((w.setCell ⟨b,2,none⟩ (.int .i64 z)).drewN q).setCell ⟨b,1,none⟩ (.int .i64 ((n:Int)+1))) base b:=by
 have h1:=block_setCell (i:=2) hb (.int .i64 z)
 have h2:=block_setCell (w:=(w.setCell ⟨b,2,none⟩ (.int .i64 z)).drewN q) (i:=1) h1 (.int .i64 ((n:Int)+1))
 refine⟨a,len,cap,(n:Int)+1,z,?_,hbase,by omega,by omega,hlen,?_⟩
 ·simp at h2
  exact h2
 ·exact hk.below ((((Below.refl base w).setCell (p:=⟨b,2,none⟩) hbase _).trans (below_draws _ _ _)).setCell hbase _)
theorem cur_stay (hb:w.heap[b]?=some (.cells #[.slice a len cap,.int .i64 i,.int .i64 h] 94 (0,0))) (hk:CodeAt w base a len) (hbase:base≤b) (h0:0≤i) (hi:i≤len) (hlen:len≤1048576) (z:Int) (q q':Nat):
  Cur (((w.setCell ⟨b,2,none⟩ (.int .i64 z)).drewN q).drewN q') base b:=by
 have h1:=block_setCell (i:=2) hb (.int .i64 z)
 refine⟨a,len,cap,i,z,?_,hbase,h0,hi,hlen,?_⟩
 ·simp at h1
  exact h1
 ·exact hk.below (((Below.refl base w).setCell (p:=⟨b,2,none⟩) hbase _).trans ((below_draws _ _ _).trans (below_draws _ _ _)))
end
set_option maxHeartbeats 800000 in
theorem draw_byte (base b:Nat) (w:World) (hC:Cur w base b):
  Calls Tryd.prog 98 #[.pointer (some ⟨b,0,none⟩)] w fun e w'=>∃ x:Int,e=.returned (.int .i64 x)∧0≤x∧x≤255∧Cur w' base b∧w.grownBy w' (some b):=by
 obtain⟨a,len,cap,i,h,hb,hbase,hi0,hil,hlen,hcode⟩:=id hC
 have c0:w.cell? ⟨b,0,none⟩=some (.slice a len cap):=cell_of_block hb 0
 have c1:w.cell? ⟨b,1,none⟩=some (.int .i64 i):=cell_of_block hb 1
 have c2:w.cell? ⟨b,2,none⟩=some (.int .i64 h):=cell_of_block hb 2
 have cf:∀ j,w.frozen? ⟨b,j,none⟩=false:=unfrozen_of_block hb
 have HC:Hid (Cur w base b):=hC
 have HB:Hid (w.heap[b]?=some (.cells #[.slice a len cap,.int .i64 i,.int .i64 h] 94 (0,0))):=hb
 have HK:Hid (CodeAt w base a len):=hcode
 clear hC hb hcode
 by_cases hlt:i < (len:Int)
 ·obtain⟨n,rfl⟩:=Int.eq_ofNat_of_zero_le hi0
  rcases HK.out with h0 | ⟨bc,off,rfl,hbc,hcs⟩
  ·omega
  ·obtain⟨y,hy,hy0,hy1⟩:=hcs n (by omega)
   have hne:¬ bc=b:=by omega
   have d:decide ((n:Int) < (len:Int))=true:=by simpa using hlt
   clear hcs
   go_enter Tryd.func98,Tryd.ntmps98
   go_wp2
   go_quiet (fail)
   go_wp2
   go_quiet (fail)
   go_wp2
   go_quiet (fail)
   go_wp2
   go_ret
   refine⟨_,rfl,(and255 _).1,(and255 _).2,cur_next HB.out HK.out hbase (by omega) hlen _ _,?_⟩
   exact grown_set (grown_drewN (grown_set (grown_refl _ _) _ _) _) _ _
 ·have d:decide (i < (len:Int))=false:=by simpa using hlt
  go_enter Tryd.func98,Tryd.ntmps98
  go_wp2
  go_quiet (fail)
  go_wp2
  go_quiet (fail)
  go_wp2
  go_ret
  refine⟨_,rfl,(and255 _).1,(and255 _).2,cur_stay HB.out HK.out hbase hi0 hil hlen _ _ _,?_⟩
  exact grown_drewN (grown_drewN (grown_set (grown_refl _ _) _ _) _) _
def InBelow (x n:Int):Prop:=0≤x∧(0 < n→x < n)∧(n≤0→x=0)
theorem rem_bd (x n:Int) (hn:0 < n):InBelow (x % n) n:=by
 exact⟨Int.emod_nonneg _ (by omega),fun _=>Int.emod_lt_of_pos _ hn,fun h=>by omega⟩
set_option maxHeartbeats 800000 in
theorem draw_below (base b:Nat) (n:Int) (w:World) (hC:Cur w base b):
  Calls Tryd.prog 72 #[.pointer (some ⟨b,0,none⟩),.int .i64 n] w fun e w'=>∃ x:Int,e=.returned (.int .i64 x)∧InBelow x n∧Cur w' base b∧w.grownBy w' (some b):=by
 have HC:Hid (Cur w base b):=hC
 clear hC
 by_cases h0:n≤0
 ·go_enter Tryd.func72,Tryd.ntmps72
  go_wp2_with fail
  go_ret
  exact⟨0,rfl,⟨Int.le_refl _,fun h=>by omega,fun _=>rfl⟩,HC.out,grown_refl _ _⟩
 ·by_cases h1:n≤256
  ·have hn:¬ n=0:=by omega
   go_enter Tryd.func72,Tryd.ntmps72
   go_wp2_with fail
   refine (draw_byte base b _ HC.out).mono ?_
   rintro e w1 ⟨x,rfl,hx0,hx1,hC1,hg1⟩
   have HC1:Hid (Cur w1 base b):=hC1
   clear hC1
   go_wp2_with fail
   go_ret
   exact⟨_,rfl,rem_bd _ n (by omega),HC1.out,hg1⟩
  ·have hn:¬ n=0:=by omega
   go_enter Tryd.func72,Tryd.ntmps72
   go_wp2_with fail
   refine (draw_byte base b _ HC.out).mono ?_
   rintro e w1 ⟨x1,rfl,hx0,hx1,hC1,hg1⟩
   have HC1:Hid (Cur w1 base b):=hC1
   clear hC1
   go_wp2_with fail
   refine (draw_byte base b _ HC1.out).mono ?_
   rintro e w2 ⟨x2,rfl,hy0,hy1,hC2,hg2⟩
   have HC2:Hid (Cur w2 base b):=hC2
   clear hC2
   go_wp2_with fail
   refine (draw_byte base b _ HC2.out).mono ?_
   rintro e w3 ⟨x3,rfl,hz0,hz1,hC3,hg3⟩
   have HC3:Hid (Cur w3 base b):=hC3
   clear hC3
   go_wp2_with fail
   refine (draw_byte base b _ HC3.out).mono ?_
   rintro e w4 ⟨x4,rfl,hu0,hu1,hC4,hg4⟩
   have HC4:Hid (Cur w4 base b):=hC4
   clear hC4
   go_wp2_with fail
   go_ret
   exact⟨_,rfl,rem_bd _ n (by omega),HC4.out,grown_trans (grown_trans (grown_trans hg1 hg2) hg3) hg4⟩
set_option maxHeartbeats 800000 in
theorem draw_new (a:Option Addr) (len cap:Nat) (base:Nat) (w:World) (hK:CodeAt w base a len) (hlen:len≤1048576) (hbase:base≤w.heap.size):
  Calls Tryd.prog 33 #[.slice a len cap] w fun e w'=>e=.returned (.pointer (some ⟨w.heap.size,0,none⟩))∧Cur w' base w.heap.size∧(∃ o,w'=w.alloc o):=by
 have HK:Hid (CodeAt w base a len):=hK
 clear hK
 go_enter Tryd.func33,Tryd.ntmps33
 go_wp2_with fail
 go_loop [3,4] (fun h i=>∃ (z:Int) (j:Nat),j≤len∧i=.int .i64 j∧h=.int .i64 z) (fun _ i=>len - (intOf i).toNat)
 case atStart=>exact⟨_,0,Nat.zero_le _,rfl,rfl⟩
 case round=>
  obtain⟨z,j,hj,rfl,rfl⟩:=hrel
  by_cases hlt:j < len
  ·rcases HK.out with h0 | ⟨bc,off,rfl,hbc,hcs⟩
   ·omega
   ·obtain⟨y,hy,hy0,hy1⟩:=hcs j hlt
    have d1:decide ((j:Int) < (len:Int))=true:=by simp; omega
    clear hcs
    by_cases h4:(j:Int) < 4000
    ·go_wp2_with fail
     go_round
     case rel=>exact⟨_,j+1,by omega,by go_num,rfl⟩
     case measure=>simp [intOf]; omega
    ·go_wp2_with fail
     go_ret
     exact⟨rfl,⟨_,len,cap,0,_,heap_alloc_new w _,hbase,by omega,by omega,hlen,HK.out.below ((Below.refl _ _).alloc hbase _)⟩,_,rfl⟩
  ·have d1:decide ((j:Int) < (len:Int))=false:=by simp; omega
   go_wp2_with fail
   go_ret
   exact⟨rfl,⟨_,len,cap,0,_,heap_alloc_new w _,hbase,by omega,by omega,hlen,HK.out.below ((Below.refl _ _).alloc hbase _)⟩,_,rfl⟩
theorem big_no (a:Option Addr) (len cap:Nat) (w:World) (h:(len:Int)≤1048576):
  Calls Tryd.prog 9 #[.slice a len cap] w fun e w'=>e=.returned (.bool false)∧w'=w:=by
 have d:decide ((1048576:Int) < (len:Int))=false:=by simp; omega
 go_enter Tryd.func9,Tryd.ntmps9
 go_wp2
 go_ret
 exact⟨rfl,rfl⟩
theorem big_yes (a:Option Addr) (len cap:Nat) (w:World) (h:(1048576:Int) < len) (_h63:(len:Int)≤9223372036854775807):
  Calls Tryd.prog 9 #[.slice a len cap] w fun e w'=>e=.returned (.bool true)∧w'=w:=by
 have d:decide ((1048576:Int) < (len:Int))=true:=by simpa using h
 go_enter Tryd.func9,Tryd.ntmps9
 go_wp2
 go_ret
 exact⟨rfl,rfl⟩
end
section
open Go.RowKit
theorem ret_i {k:IntKind} {a b:Int} (h:a=b):Ending.returned (.int k a)=.returned (.int k b):=by rw [h]
end
section
open Go.RowKit Go.Joins OutMath
set_option maxHeartbeats 400000 in
theorem pow_any (n:Nat) (w:World) (h:n≤61):
  Calls Tryd.prog 75 #[.int .i64 n] w fun e w'=>e=.returned (.int .i64 (p2 n))∧w'=w:=by
 go_enter Tryd.func75,Tryd.ntmps75
 go_wp2
 go_loop [3,4] (fun x i=>∃ j:Nat,j≤n∧i=.int .i64 j∧x=.int .i64 (p2 j)) (fun _ i=>n - (intOf i).toNat)
 case atStart=>exact⟨0,Nat.zero_le _,rfl,by rw [p2_zero]⟩
 case round=>
  obtain⟨j,hj,rfl,rfl⟩:=hrel
  have hp:=p2_pos j
  have hq:=p2_61 (n:=j) (by omega)
  by_cases hlt:j < n
  ·go_wp2
   go_round
   case rel=>exact⟨j+1,by omega,by go_num,by rw [p2_succ]⟩
   case measure=>simp [intOf]; omega
  ·go_wp2
   go_ret
   exact⟨ret_i (by rw [show j=n by omega]),rfl⟩
end
end Go.Proofs.YtcbbcadfolgioaaDoor
