/-
  Texts of the proof, put together.
-/
import Derived.Test.YtklpiihnbokkkaaGreatDoorZk08
namespace Go.Proofs.YtklpiihnbokkkaaGreatDoor
section
open Go.RowKit Go.Joins TokMath SearchMath CheapMath DeflMath
def PackAt (F:Nat) (t:ByteArray) (o:Option (ByteArray×Nat)) (w:World):Prop:=Calls Tryz.prog F #[.string t] w fun e w'=>e=.returned (.agg #[.string (blkS o),.int .i64 (blkN o)])∧Below w.heap.size w w'
theorem pack_end {fn:Func} {w w1:World} {bs:ByteArray} {bn:Int} {T:Array Value} {o:Obj} (hz:w1.heap[w.heap.size]?=some (.cells #[.string ⟨#[]⟩,.int .i64 0] 43 (0,0))) (hB:Below w.heap.size w w1) (hd:([]:List Deferred)=[])
  (hr:∀ W:World,W.cell? ⟨w.heap.size,0,none⟩=some (.string bs)→W.cell? ⟨w.heap.size,1,none⟩=some (.int .i64 bn)→(results fn T).run Tryz.prog W=.ok (.agg #[.string bs,.int .i64 bn]) W):
  bodyPost Tryz.prog fn (fun e w'=>e=.returned (.agg #[.string bs,.int .i64 bn])∧Below w.heap.size w w') .ret { tmps:=T,defers:=[] } (((w1.setCell ⟨w.heap.size,0,none⟩ (.string bs)).setCell ⟨w.heap.size,1,none⟩ (.int .i64 bn)).alloc o):=by
 have g:=two_set hz (.string bs) (.int .i64 bn)
 have gb:=two_below hB (Nat.le_refl w.heap.size) (.string bs) (.int .i64 bn)
 generalize (w1.setCell ⟨w.heap.size,0,none⟩ (.string bs)).setCell ⟨w.heap.size,1,none⟩ (.int .i64 bn)=W at g gb ⊢
 have g2:=((bstart W o).block _ (block_lt g)).trans g
 exact bodyPost_ret (hr _ ((cell_of_block g2 0).trans rfl) ((cell_of_block g2 1).trans rfl)) hd ⟨rfl,gb.alloc (gb.size) o⟩
set_option maxHeartbeats 800000 in
theorem packStored_any (hS:StoredAnswer) (t:ByteArray) (w:World) (ht:t.size≤2600):PackAt 21 t (storedOut ⟨#[]⟩ 0 t true) w:=by
 have HC:Hid (∀ W:World,Calls Tryz.prog 50 #[.agg #[.string ⟨#[]⟩,.int .i64 0],.string t,.bool true] W fun e w'=>e=.returned (.tuple #[.agg #[.string (blkS (storedOut ⟨#[]⟩ 0 t true)),.int .i64 (blkN (storedOut ⟨#[]⟩ 0 t true))],.bool (blkB (storedOut ⟨#[]⟩ 0 t true))])∧Below W.heap.size W w'):=fun W=>by
  rw[← blkAns_parts]
  exact hS ⟨#[]⟩ 0 t true W (by decide) (by omega) (by omega) (by omega)
 unfold PackAt
 generalize storedOut ⟨#[]⟩ 0 t true=o at HC ⊢
 generalize blkS o=bs at HC ⊢
 generalize blkN o=bn at HC ⊢
 generalize blkB o=bb at HC
 go_enter Tryz.func21,Tryz.ntmps21
 go_wp2_with fail
 refine (HC.out _).mono ?_
 rintro e w1 ⟨rfl,hB1⟩
 have hz:w1.heap[w.heap.size]?=some (.cells #[.string ⟨#[]⟩,.int .i64 0] 43 (0,0)):=(hB1.block _ (by simp)).trans (heap_alloc_new w _)
 have hl:=block_lt hz
 have y0:w1.cell? ⟨w.heap.size,0,none⟩=some (.string ⟨#[]⟩):=(cell_of_block hz 0).trans rfl
 have y1:w1.cell? ⟨w.heap.size,1,none⟩=some (.int .i64 0):=(cell_of_block hz 1).trans rfl
 have yf:∀ q,w1.frozen? ⟨w.heap.size,q,none⟩=false:=fun q=>by simp [World.frozen?,hz]
 have HZ:=hid_of hz
 have HB1:Hid (Below w.heap.size w w1):=bnext (bstart w _) hB1
 clear hB1 hz
 go_wp2_with fail
 exact pack_end HZ.out HB1.out rfl (by
  intro W c0 c1
  simp[results,Tryz.results21,go_sem,c0,c1])
set_option maxHeartbeats 800000 in
theorem packGreedy_any (hW:GreedyAnswer) (hA:FixedAnswer) (t:ByteArray) (w:World) (ht:t.size≤2600):PackAt 22 t (fixedOut ⟨#[]⟩ 0 (greedyL t 4) true) w:=by
 have hL:=greedyL_length t 4
 have HG:Hid (∀ W:World,Calls Tryz.prog 51 #[.string t,.int .i64 4] W (WayPost (greedyL t 4) W)):=fun W=>(hW t 4 W (by omega) (by decide)).1 ⟨ht,by omega,by omega⟩
 have HC:Hid (∀ (W:World) (a:Option Addr) (cp:Nat),TCame W a (greedyL t 4).length (fun j=>(greedyL t 4).getD j (0,0,0))→Calls Tryz.prog 52 #[.agg #[.string ⟨#[]⟩,.int .i64 0],.slice a (greedyL t 4).length cp,.bool true] W fun e w'=>e=.returned (.tuple #[.agg #[.string (blkS (fixedOut ⟨#[]⟩ 0 (greedyL t 4) true)),.int .i64 (blkN (fixedOut ⟨#[]⟩ 0 (greedyL t 4) true))],.bool (blkB (fixedOut ⟨#[]⟩ 0 (greedyL t 4) true))])∧Below W.heap.size W w'):=fun W a cp hC=>by
  rw[← blkAns_parts]
  exact hA ⟨#[]⟩ 0 a cp (greedyL t 4) true W (by decide) (by omega) (by omega) hC (by omega)
 unfold PackAt
 generalize fixedOut ⟨#[]⟩ 0 (greedyL t 4) true=o at HC ⊢
 generalize greedyL t 4=L at HC HG hL
 generalize blkS o=bs at HC ⊢
 generalize blkN o=bn at HC ⊢
 generalize blkB o=bb at HC
 go_enter Tryz.func22,Tryz.ntmps22
 go_wp2_with fail
 refine (HG.out _).mono ?_
 rintro e w1 ⟨a,cp,rfl,hT,hcp,hB1⟩
 have HT:=hid_of hT.came
 have HB1:Hid (Below w.heap.size w w1):=bnext (bstart w _) hB1
 have HZ1:Hid (w1.heap[w.heap.size]?=some (.cells #[.string ⟨#[]⟩,.int .i64 0] 43 (0,0))):=(hB1.block _ (by simp)).trans (heap_alloc_new w _)
 clear hB1 hT
 go_wp2_with fail
 refine (HC.out w1 a cp HT.out).mono ?_
 rintro e w2 ⟨rfl,hB2⟩
 have hz:w2.heap[w.heap.size]?=some (.cells #[.string ⟨#[]⟩,.int .i64 0] 43 (0,0)):=(hB2.block _ (block_lt HZ1.out)).trans HZ1.out
 have y0:w2.cell? ⟨w.heap.size,0,none⟩=some (.string ⟨#[]⟩):=(cell_of_block hz 0).trans rfl
 have y1:w2.cell? ⟨w.heap.size,1,none⟩=some (.int .i64 0):=(cell_of_block hz 1).trans rfl
 have yf:∀ q,w2.frozen? ⟨w.heap.size,q,none⟩=false:=fun q=>by simp [World.frozen?,hz]
 have hl:=block_lt hz
 have HZ:=hid_of hz
 have HB2:Hid (Below w.heap.size w w2):=bnext HB1.out hB2
 clear hB2 hz
 go_wp2_with fail
 exact pack_end HZ.out HB2.out rfl (by
  intro W c0 c1
  simp[results,Tryz.results22,go_sem,c0,c1])
set_option maxHeartbeats 800000 in
theorem packLazy_any (hW:LazyAnswer) (hA:BestBlockAnswer) (t:ByteArray) (w:World) (ht:t.size≤2600) (hG:OrderG w):PackAt 23 t (bestOut ⟨#[]⟩ 0 t (lazyL t 16) true) w:=by
 have hL:=lazyL_length t 16
 have HG:Hid (∀ W:World,Calls Tryz.prog 53 #[.string t,.int .i64 16] W (WayPost (lazyL t 16) W)):=fun W=>(hW t 16 W (by omega) (by decide)).1 ⟨ht,by omega,by omega⟩
 have HC:Hid (∀ (W:World) (a:Option Addr) (cp:Nat),TCame W a (lazyL t 16).length (fun j=>(lazyL t 16).getD j (0,0,0))→OrderG W→Calls Tryz.prog 54 #[.agg #[.string ⟨#[]⟩,.int .i64 0],.string t,.slice a (lazyL t 16).length cp,.bool true] W fun e w'=>e=.returned (.tuple #[.agg #[.string (blkS (bestOut ⟨#[]⟩ 0 t (lazyL t 16) true)),.int .i64 (blkN (bestOut ⟨#[]⟩ 0 t (lazyL t 16) true))],.bool (blkB (bestOut ⟨#[]⟩ 0 t (lazyL t 16) true))])∧Below W.heap.size W w'):=fun W a cp hC hG=>by
  rw[← blkAns_parts]
  exact hA ⟨#[]⟩ 0 t a cp (lazyL t 16) true W (by decide) (by omega) (by omega) (by omega) hC (by omega) hG
 unfold PackAt
 generalize bestOut ⟨#[]⟩ 0 t (lazyL t 16) true=o at HC ⊢
 generalize lazyL t 16=L at HC HG hL
 generalize blkS o=bs at HC ⊢
 generalize blkN o=bn at HC ⊢
 generalize blkB o=bb at HC
 have HGG:=hid_of hG
 clear hG
 go_enter Tryz.func23,Tryz.ntmps23
 go_wp2_with fail
 refine (HG.out _).mono ?_
 rintro e w1 ⟨a,cp,rfl,hT,hcp,hB1⟩
 have HT:=hid_of hT.came
 have HB1:Hid (Below w.heap.size w w1):=bnext (bstart w _) hB1
 have HZ1:Hid (w1.heap[w.heap.size]?=some (.cells #[.string ⟨#[]⟩,.int .i64 0] 43 (0,0))):=(hB1.block _ (by simp)).trans (heap_alloc_new w _)
 clear hB1 hT
 go_wp2_with fail
 refine (HC.out w1 a cp HT.out (HGG.out.below HB1.out HGG.out.1)).mono ?_
 rintro e w2 ⟨rfl,hB2⟩
 have hz:w2.heap[w.heap.size]?=some (.cells #[.string ⟨#[]⟩,.int .i64 0] 43 (0,0)):=(hB2.block _ (block_lt HZ1.out)).trans HZ1.out
 have y0:w2.cell? ⟨w.heap.size,0,none⟩=some (.string ⟨#[]⟩):=(cell_of_block hz 0).trans rfl
 have y1:w2.cell? ⟨w.heap.size,1,none⟩=some (.int .i64 0):=(cell_of_block hz 1).trans rfl
 have yf:∀ q,w2.frozen? ⟨w.heap.size,q,none⟩=false:=fun q=>by simp [World.frozen?,hz]
 have hl:=block_lt hz
 have HZ:=hid_of hz
 have HB2:Hid (Below w.heap.size w w2):=bnext HB1.out hB2
 clear hB2 hz
 go_wp2_with fail
 exact pack_end HZ.out HB2.out rfl (by
  intro W c0 c1
  simp[results,Tryz.results23,go_sem,c0,c1])
def packCO (t:ByteArray) (L:List Tok):Option (ByteArray×Nat):=
 if L.length≤60 then bestOut ⟨#[]⟩ 0 t L true
 else if (blkS (partsSt t L (partsN L))).size < (blkS (bestOut ⟨#[]⟩ 0 t L true)).size then partsSt t L (partsN L) else bestOut ⟨#[]⟩ 0 t L true
theorem packCO_text {t:ByteArray} {L:List Tok} (hs:sizeL L=t.size):blkS (packCO t L)=packC t L:=by
 unfold packCO
 by_cases h:L.length≤60
 ·rw[if_pos h,packC_few hs h]
 ·rw[if_neg h,packC_many (by omega)]
  unfold shorter
  split <;> rfl
theorem cheap_run (t:ByteArray) (h:t.size≤2600):run [] (cheapL t 64)=some (pre (txt t) t.size):=way_all (txt_lt t) (by omega) (fun _ hi=>take_fine hi)
theorem cheap_size (t:ByteArray) (h:t.size≤2600):sizeL (cheapL t 64)=t.size:=by
 have:=run_size (cheap_run t h)
 rw[pre_length] at this
 simpa using this.symm
theorem cheap_right (t:ByteArray) (h:t.size≤2600):∀ u∈cheapL t 64,TokRight u:=run_right (cheap_run t h)
set_option maxHeartbeats 1600000 in
theorem cheap_few (t:ByteArray) (L:List Tok) (w:World) (bs:ByteArray) (bn:Int) (bb:Bool) (HG:Hid (∀ W:World,Calls Tryz.prog 55 #[.string t,.int .i64 64] W (WayPost L W)))
  (HC:Hid (∀ (W:World) (a:Option Addr) (cp:Nat),TCame W a L.length (fun j=>L.getD j (0,0,0))→OrderG W→Calls Tryz.prog 54 #[.agg #[.string ⟨#[]⟩,.int .i64 0],.string t,.slice a L.length cp,.bool true] W fun e w'=>e=.returned (.tuple #[.agg #[.string bs,.int .i64 bn],.bool bb])∧Below W.heap.size W w')) (HGG:Hid (OrderG w)) (hL:L.length≤2600) (hfew:L.length≤60):
  Calls Tryz.prog 24 #[.string t] w fun e w'=>e=.returned (.agg #[.string bs,.int .i64 bn])∧Below w.heap.size w w':=by
 have d1:decide ((L.length:Int)≤60)=true:=decide_eq_true (by omega)
 have d2:decide (L.length≤60)=true:=decide_eq_true hfew
 go_enter Tryz.func24,Tryz.ntmps24
 go_wp2_with fail
 refine (HG.out _).mono ?_
 rintro e w1 ⟨a,cp,rfl,hT,hcp,hB1⟩
 have HT:=hid_of hT.came
 have HB1:Hid (Below w.heap.size w w1):=bnext (bstart w _) hB1
 have HZ1:Hid (w1.heap[w.heap.size]?=some (.cells #[.string ⟨#[]⟩,.int .i64 0] 43 (0,0))):=(hB1.block _ (by simp)).trans (heap_alloc_new w _)
 clear hB1 hT
 go_wp2_with fail
 refine (HC.out w1 a cp HT.out (HGG.out.below HB1.out HGG.out.1)).mono ?_
 rintro e w2 ⟨rfl,hB2⟩
 have hz:w2.heap[w.heap.size]?=some (.cells #[.string ⟨#[]⟩,.int .i64 0] 43 (0,0)):=(hB2.block _ (block_lt HZ1.out)).trans HZ1.out
 have HB2:Hid (Below w.heap.size w w2):=bnext HB1.out hB2
 have HT2:=hid_of (HT.out.called hB2)
 clear hB2
 have y0:w2.cell? ⟨w.heap.size,0,none⟩=some (.string ⟨#[]⟩):=(cell_of_block hz 0).trans rfl
 have y1:w2.cell? ⟨w.heap.size,1,none⟩=some (.int .i64 0):=(cell_of_block hz 1).trans rfl
 have yf:∀ q,w2.frozen? ⟨w.heap.size,q,none⟩=false:=fun q=>by simp [World.frozen?,hz]
 have hl:=block_lt hz
 have HZ:=hid_of hz
 clear hz
 go_wp2_with fail
 exact pack_end HZ.out HB2.out rfl (by
  intro W c0 c1
  simp[results,Tryz.results24,go_sem,c0,c1])
set_option maxHeartbeats 1600000 in
theorem cheap_many (t:ByteArray) (L:List Tok) (w:World) (bs:ByteArray) (bn:Int) (bb:Bool) (ps:ByteArray) (pn:Int) (HG:Hid (∀ W:World,Calls Tryz.prog 55 #[.string t,.int .i64 64] W (WayPost L W)))
  (HC:Hid (∀ (W:World) (a:Option Addr) (cp:Nat),TCame W a L.length (fun j=>L.getD j (0,0,0))→OrderG W→Calls Tryz.prog 54 #[.agg #[.string ⟨#[]⟩,.int .i64 0],.string t,.slice a L.length cp,.bool true] W fun e w'=>e=.returned (.tuple #[.agg #[.string bs,.int .i64 bn],.bool bb])∧Below W.heap.size W w')) (HGG:Hid (OrderG w)) (hL:L.length≤2600) (_hbs:bs.size≤1048576) (_hps:ps.size≤1048576)
  (HPP:Hid (∀ (W:World) (a:Option Addr) (cp:Nat),TCame W a L.length (fun j=>L.getD j (0,0,0))→OrderG W→L.length≤cp→Calls Tryz.prog 56 #[.string t,.slice a L.length cp] W fun e w'=>e=.returned (.agg #[.string ps,.int .i64 pn])∧Below W.heap.size W w')) (hmany:60 < L.length):
  Calls Tryz.prog 24 #[.string t] w fun e w'=>e=.returned (if ps.size < bs.size then .agg #[.string ps,.int .i64 pn] else .agg #[.string bs,.int .i64 bn])∧Below w.heap.size w w':=by
 have d1:decide ((L.length:Int)≤60)=false:=decide_eq_false (by omega)
 have d2:decide (L.length≤60)=false:=decide_eq_false (by omega)
 by_cases hsh:ps.size < bs.size
 all_goals
  first | rw [if_pos hsh] | rw [if_neg hsh]
  have d3:decide ((ps.size:Int) < (bs.size:Int))=decide (ps.size < bs.size):=by simp
  first | rw [decide_eq_true hsh] at d3 | rw [decide_eq_false hsh] at d3
  go_enter Tryz.func24,Tryz.ntmps24
  go_wp2_with fail
  refine (HG.out _).mono ?_
  rintro e w1 ⟨a,cp,rfl,hT,hcp,hB1⟩
  have HT:=hid_of hT.came
  have HB1:Hid (Below w.heap.size w w1):=bnext (bstart w _) hB1
  have HZ1:Hid (w1.heap[w.heap.size]?=some (.cells #[.string ⟨#[]⟩,.int .i64 0] 43 (0,0))):=(hB1.block _ (by simp)).trans (heap_alloc_new w _)
  clear hB1 hT
  go_wp2_with fail
  refine (HC.out w1 a cp HT.out (HGG.out.below HB1.out HGG.out.1)).mono ?_
  rintro e w2 ⟨rfl,hB2⟩
  have hz:w2.heap[w.heap.size]?=some (.cells #[.string ⟨#[]⟩,.int .i64 0] 43 (0,0)):=(hB2.block _ (block_lt HZ1.out)).trans HZ1.out
  have HB2:Hid (Below w.heap.size w w2):=bnext HB1.out hB2
  have HT2:=hid_of (HT.out.called hB2)
  clear hB2
  have hw2:=block_lt hz
  have HT3:=hid_of (HT2.out.called (bstart w2 (.cells #[.string bs,.int .i64 bn] 43)))
  have HG3:Hid (OrderG (w2.alloc (.cells #[.string bs,.int .i64 bn] 43))):=HGG.out.below (bal HB2.out _) HGG.out.1
  have HZ2:=hid_of hz
  clear hz
  go_wp2_with fail
  refine (HPP.out _ a cp HT3.out HG3.out hcp).mono ?_
  rintro e w3 ⟨rfl,hB3⟩
  have hz:w3.heap[w.heap.size]?=some (.cells #[.string ⟨#[]⟩,.int .i64 0] 43 (0,0)):=(hB3.block _ (by simp; omega)).trans (((bstart w2 _).block _ hw2).trans HZ2.out)
  have hy:w3.heap[w2.heap.size]?=some (.cells #[.string bs,.int .i64 bn] 43 (0,0)):=(hB3.block _ (by simp)).trans (heap_alloc_new w2 _)
  have HB3:Hid (Below w.heap.size w w3):=bnext (bal HB2.out _) hB3
  have y0:w3.cell? ⟨w.heap.size,0,none⟩=some (.string ⟨#[]⟩):=(cell_of_block hz 0).trans rfl
  have y1:w3.cell? ⟨w.heap.size,1,none⟩=some (.int .i64 0):=(cell_of_block hz 1).trans rfl
  have yf:∀ q,w3.frozen? ⟨w.heap.size,q,none⟩=false:=fun q=>by simp [World.frozen?,hz]
  have hl:=block_lt hz
  have z0:w3.cell? ⟨w2.heap.size,0,none⟩=some (.string bs):=(cell_of_block hy 0).trans rfl
  have z1:w3.cell? ⟨w2.heap.size,1,none⟩=some (.int .i64 bn):=(cell_of_block hy 1).trans rfl
  have hl2:=block_lt hy
  have HZ:=hid_of hz
  clear hz hy hB3
  go_wp2_with fail
  exact pack_end HZ.out HB3.out rfl (by
   intro W c0 c1
   simp[results,Tryz.results24,go_sem,c0,c1])
theorem packCheapest_any (hW:CheapAnswer) (hA:BestBlockAnswer) (t:ByteArray) (w:World) (ht:t.size≤2600) (hG:OrderG w):PackAt 24 t (packCO t (cheapL t 64)) w:=by
 have hL:=cheapL_length t 64
 have hsz:=cheap_size t ht
 have hR:=cheap_right t ht
 have HG:Hid (∀ W:World,Calls Tryz.prog 55 #[.string t,.int .i64 64] W (WayPost (cheapL t 64) W)):=fun W=>(hW t 64 W (by omega) (by decide)).1 ⟨ht,by omega,by omega⟩
 generalize cheapL t 64=L at hL hsz hR HG ⊢
 have HC:Hid (∀ (W:World) (a:Option Addr) (cp:Nat),TCame W a L.length (fun j=>L.getD j (0,0,0))→OrderG W→Calls Tryz.prog 54 #[.agg #[.string ⟨#[]⟩,.int .i64 0],.string t,.slice a L.length cp,.bool true] W fun e w'=>e=.returned (.tuple #[.agg #[.string (blkS (bestOut ⟨#[]⟩ 0 t L true)),.int .i64 (blkN (bestOut ⟨#[]⟩ 0 t L true))],.bool (blkB (bestOut ⟨#[]⟩ 0 t L true))])∧Below W.heap.size W w'):=fun W a cp hC hG=>by
  rw[← blkAns_parts]
  exact hA ⟨#[]⟩ 0 t a cp L true W (by decide) (by omega) (by omega) (by omega) hC (by omega) hG
 unfold PackAt packCO
 by_cases h:L.length≤60
 ·rw[if_pos h]
  exact cheap_few t L w _ _ _ HG HC hG (by omega) h
 ·rw[if_neg h]
  obtain⟨o1,e1,_,f1,_⟩:=best_some (s:=⟨#[]⟩) (c:=0) (t:=t) L true empty_out ht (by omega)
  obtain⟨o2,e2,f2,_⟩:=parts_some hsz ht hL (partsN L) (Nat.le_refl _)
  have q1:=(OutMath.fits_of_outB _ _ f1).1
  have q2:=(OutMath.fits_of_outB _ _ f2).1
  have e1':bestOut ⟨#[]⟩ 0 t L true=some o1:=e1
  have hm:=cheap_many t L w _ _ _ (blkS (partsSt t L (partsN L))) (blkN (partsSt t L (partsN L))) HG HC hG (by omega) (by rw [e1']; show o1.1.size≤_; omega) (by rw [e2]; show o2.1.size≤_; omega) (fun W a cp hC hG hcp=>packParts_any hA t a cp L W hC hsz ht hL (by omega) hcp hR hG) (by omega)
  refine hm.mono fun e w' he=>⟨?_,he.2⟩
  rw[he.1]
  split <;> rfl
theorem store_func (W:World) (g o:Nat) (f:Fn) (xs ys:Array Value) (h1:(W.cell? ⟨g,o,none⟩).isSome=true) (h2:W.frozen? ⟨g,o,none⟩=false):(store ⟨g,o,none⟩ (Value.func f xs ys)).run Tryz.prog W=.ok () (W.setCell ⟨g,o,none⟩ (Value.func f xs ys)):=by
 rw[run_store _ _ _ _ _ rfl]
 cases e:W.cell? ⟨g,o,none⟩ with
 | none=>
  rw[e] at h1
  cases h1
 | some v=>
  dsimp only
  rw[h2]
  rfl
theorem field_text (s:ByteArray) (n:Int) (W:World):(Instr.field 43 (.agg #[.string s,.int .i64 n]) 0).run Tryz.prog W=.ok (.string s) W:=by kernel_rfl
set_option maxRecDepth 100000 in
set_option maxHeartbeats 1600000 in
theorem deflate_answer (hS:StoredAnswer) (hF:FixedAnswer) (hA:BestBlockAnswer) (hGr:GreedyAnswer) (hLz:LazyAnswer) (hCh:CheapAnswer):DeflateAnswer:=by
 intro t lv w ht hlv hG
 unfold deflAns
 by_cases hr:DeflRight t lv
 ·rw[if_pos hr]
  obtain⟨h1,h2,h3⟩:=hr
  have d1:decide ((2600:Int) < (t.size:Int))=false:=decide_eq_false (by omega)
  have d1':decide (2600 < t.size)=false:=decide_eq_false (by omega)
  have P0:=hid_of fun W=>packStored_any hS t W h1
  have P1:=hid_of fun W=>packGreedy_any hGr hF t W h1
  have P2:=hid_of fun W hG=>packLazy_any hLz hA t W h1 hG
  have P3:=hid_of fun W hG=>packCheapest_any hCh hA t W h1 hG
  have E3:=packCO_text (t:=t) (L:=cheapL t 64) (cheap_size t h1)
  unfold PackAt at P0 P1 P2 P3
  rw[E3] at P3
  unfold deflT
  generalize storedOut ⟨#[]⟩ 0 t true=o0 at P0 ⊢
  generalize fixedOut ⟨#[]⟩ 0 (greedyL t 4) true=o1 at P1 ⊢
  generalize bestOut ⟨#[]⟩ 0 t (lazyL t 16) true=o2 at P2 ⊢
  generalize packC t (cheapL t 64)=o3 at P3 ⊢
  generalize blkN (packCO t (cheapL t 64))=n3 at P3
  have hfd:=fun (s:ByteArray) (n:Int) (W:World)=>field_text s n W
  have hst:=fun (W:World) (o:Nat) (f:Fn) (xs ys:Array Value)=>store_func W w.heap.size o f xs ys
  have HG:=hid_of hG
  clear hG E3
  obtain rfl | rfl | rfl | rfl:lv=0∨lv=1∨lv=2∨lv=3:=by omega
  ·go_enter Tryz.func10,Tryz.ntmps10
   go_wp2_with fail
   refine (P0.out _).mono ?_
   rintro e w1 ⟨rfl,hB1⟩
   have HB1:=hid_of (bnext (bstart w _) hB1)
   clear hB1
   go_wp2_with fail
   refine bodyPost_ret (v:=.tuple #[.string _,.bool true]) ?_ rfl ⟨rfl,HB1.out⟩
   simp[results,Tryz.results10,go_sem]
  ·go_enter Tryz.func10,Tryz.ntmps10
   go_wp2_with fail
   refine (P1.out _).mono ?_
   rintro e w1 ⟨rfl,hB1⟩
   have HB1:=hid_of (bnext (bstart w _) hB1)
   clear hB1
   go_wp2_with fail
   refine bodyPost_ret (v:=.tuple #[.string _,.bool true]) ?_ rfl ⟨rfl,HB1.out⟩
   simp[results,Tryz.results10,go_sem]
  ·go_enter Tryz.func10,Tryz.ntmps10
   go_wp2_with fail
   refine (P2.out _ (HG.out.below (bstart w _) HG.out.1)).mono ?_
   rintro e w1 ⟨rfl,hB1⟩
   have HB1:=hid_of (bnext (bstart w _) hB1)
   clear hB1
   go_wp2_with fail
   refine bodyPost_ret (v:=.tuple #[.string _,.bool true]) ?_ rfl ⟨rfl,HB1.out⟩
   simp[results,Tryz.results10,go_sem]
  ·go_enter Tryz.func10,Tryz.ntmps10
   go_wp2_with fail
   refine (P3.out _ (HG.out.below (bstart w _) HG.out.1)).mono ?_
   rintro e w1 ⟨rfl,hB1⟩
   have HB1:=hid_of (bnext (bstart w _) hB1)
   clear hB1
   go_wp2_with fail
   refine bodyPost_ret (v:=.tuple #[.string _,.bool true]) ?_ rfl ⟨rfl,HB1.out⟩
   simp[results,Tryz.results10,go_sem]
 ·rw[if_neg hr]
  clear hS hF hA hGr hLz hCh hG
  by_cases h1:t.size≤2600
  ·have d1:decide ((2600:Int) < (t.size:Int))=false:=decide_eq_false (by omega)
   have d1':decide (2600 < t.size)=false:=decide_eq_false (by omega)
   by_cases h2:lv < 0
   ·have d2:decide (lv < 0)=true:=decide_eq_true h2
    go_enter Tryz.func10,Tryz.ntmps10
    go_wp2_with fail
    refine bodyPost_ret (v:=.tuple #[.string ⟨#[]⟩,.bool false]) ?_ rfl ⟨rfl,Below.refl _ _⟩
    simp[results,Tryz.results10,go_sem]
   ·have d2:decide (lv < 0)=false:=decide_eq_false h2
    have d3:decide (3 < lv)=true:=decide_eq_true (by
     rcases Int.lt_or_le 3 lv with h | h
     ·exact h
     ·exact (hr ⟨h1,by omega,h⟩).elim)
    go_enter Tryz.func10,Tryz.ntmps10
    go_wp2_with fail
    refine bodyPost_ret (v:=.tuple #[.string ⟨#[]⟩,.bool false]) ?_ rfl ⟨rfl,Below.refl _ _⟩
    simp[results,Tryz.results10,go_sem]
  ·have d1:decide ((2600:Int) < (t.size:Int))=true:=decide_eq_true (by omega)
   have d1':decide (2600 < t.size)=true:=decide_eq_true (by omega)
   go_enter Tryz.func10,Tryz.ntmps10
   go_wp2_with fail
   refine bodyPost_ret (v:=.tuple #[.string ⟨#[]⟩,.bool false]) ?_ rfl ⟨rfl,Below.refl _ _⟩
   simp[results,Tryz.results10,go_sem]
end
section
namespace DeflMath
open OutMath CodeMath InfMath PutMath BlockMath BodyMath TokMath StepMath SearchMath CheapMath TrimMath PartMath
theorem fixed1_le (i:Nat):(fixed1 i).toNat≤9:=by
 unfold fixed1
 split
 ·decide
 ·split
  ·decide
  ·split <;> decide
theorem extra_le (t:Tok):(LengthCodeOf t.2.1).2.1.toNat≤5∧(DistCodeOf t.2.2).2.1.toNat≤13:=by
 have h1:(LengthCodeOf t.2.1).2.1≤5:=by
  by_cases h:3≤t.2.1∧t.2.1≤258
  ·exact (len_back h.1 h.2).2.2.2.2.2.2
  ·unfold LengthCodeOf
   rw[if_neg h]
   show (0:Int)≤5
   omega
 have h2:(DistCodeOf t.2.2).2.1≤13:=by
  by_cases h:1≤t.2.2∧t.2.2≤32768
  ·exact (dist_back h.1 h.2).2.2.2.2.2.2
  ·unfold DistCodeOf
   rw[if_neg h]
   show (0:Int)≤13
   omega
 omega
theorem tok_bits (t:Tok):(partBits (tokP fixed1 288 fixed2 32 t)).length≤32:=by
 unfold tokP
 have h1:=extra_le t
 split
 ·have:=fixed1_le t.1.toNat
  rw[partBits_one,bitsP_length]
  show (fixed1 _).toNat≤32
  omega
 ·have:=fixed1_le (LengthCodeOf t.2.1).1.toNat
  simp only [partBits_cons,List.length_append,bitsP_length]
  show (fixed1 (LengthCodeOf t.2.1).1.toNat).toNat+((LengthCodeOf t.2.1).2.1.toNat+(5+((DistCodeOf t.2.2).2.1.toNat+0)))≤32
  omega
theorem toks_bits:∀ L:List Tok,(partBits (toksP fixed1 288 fixed2 32 L)).length≤32 * L.length
 | []=>Nat.le_refl _
 | t :: R=>by
  have h1:=toks_bits R
  have h2:=tok_bits t
  show (partBits (tokP fixed1 288 fixed2 32 t ++ toksP fixed1 288 fixed2 32 R)).length≤32 * (R.length+1)
  rw[partBits_app,List.length_append]
  omega
theorem fixed_some {L:List Tok} (last:Bool) (hR:∀ t∈L,TokRight t) (hn:L.length≤2600):∃ o,fixedOut ⟨#[]⟩ 0 L last=some o:=by
 have h1:=toks_bits L
 have h2:=fixed1_le 256
 have hl:(headBits 1 last ++ bodyBits fixed1 288 fixed2 32 L).length≤96000:=by
  rw[List.length_append,headBits_length]
  unfold bodyBits bodyP
  rw[partBits_app,List.length_append,partBits_one,bitsP_length]
  show 3+(_+(fixed1 256).toNat)≤96000
  omega
 have h:=bitsOut_some (s:=⟨#[]⟩) (c:=0) (bs:=headBits 1 last ++ bodyBits fixed1 288 fixed2 32 L) empty_out (by omega)
 have e:fixedOut ⟨#[]⟩ 0 L last=bitsOut (⟨#[]⟩,0) (headBits 1 last ++ bodyBits fixed1 288 fixed2 32 L):=by
  unfold fixedOut
  rw[if_pos ⟨by omega,hR⟩,show outSt ⟨#[]⟩ 0=some (⟨#[]⟩,0) from outSt_some empty_out,Option.bind_some]
 exact⟨_,e.trans h⟩
theorem greedy_run (t:ByteArray) (h:t.size≤2600):run [] (greedyL t 4)=some (pre (txt t) t.size):=way_all (txt_lt t) (by omega) (fun i _=>greedy_fine _ _ _ i)
theorem greedy_right (t:ByteArray) (h:t.size≤2600):∀ u∈greedyL t 4,TokRight u:=run_right (greedy_run t h)
end DeflMath
end
end Go.Proofs.YtklpiihnbokkkaaGreatDoor
