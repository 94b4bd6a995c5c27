/-
  Texts of the proof, put together.
-/
import Derived.Test.YtklpiihnbokkkaaGreatDoorFk27
namespace Go.Proofs.YtklpiihnbokkkaaGreatDoor
section
open Go.RowKit Go.Joins TokMath SearchMath CheapMath DeflMath
def PackAt (F:Nat) (t:ByteArray) (o:Option (ByteArray×Nat)) (w:World):Prop:=Calls Tryz.prog F #[.string t] w fun e w'=>e=.returned (.agg #[.string (blkS o),.int .i64 (blkN o)])∧Below w.heap.size w w'
theorem pack_end {fn:Func} {w w1:World} {bs:ByteArray} {bn:Int} {T:Array Value} {o:Obj} (hz:w1.heap[w.heap.size]?=some (.cells #[.string ⟨#[]⟩,.int .i64 0] 43 (0,0))) (hB:Below w.heap.size w w1) (hd:([]:List Deferred)=[])
  (hr:∀ W:World,W.cell? ⟨w.heap.size,0,none⟩=some (.string bs)→W.cell? ⟨w.heap.size,1,none⟩=some (.int .i64 bn)→(results fn T).run Tryz.prog W=.ok (.agg #[.string bs,.int .i64 bn]) W):
  bodyPost Tryz.prog fn (fun e w'=>e=.returned (.agg #[.string bs,.int .i64 bn])∧Below w.heap.size w w') .ret { tmps:=T,defers:=[] } (((w1.setCell ⟨w.heap.size,0,none⟩ (.string bs)).setCell ⟨w.heap.size,1,none⟩ (.int .i64 bn)).alloc o):=by
 have g:=two_set hz (.string bs) (.int .i64 bn)
 have gb:=two_below hB (Nat.le_refl w.heap.size) (.string bs) (.int .i64 bn)
 generalize (w1.setCell ⟨w.heap.size,0,none⟩ (.string bs)).setCell ⟨w.heap.size,1,none⟩ (.int .i64 bn)=W at g gb ⊢
 have g2:=((bstart W o).block _ (block_lt g)).trans g
 exact bodyPost_ret (hr _ ((cell_of_block g2 0).trans rfl) ((cell_of_block g2 1).trans rfl)) hd ⟨rfl,gb.alloc (gb.size) o⟩
set_option maxHeartbeats 800000 in
theorem packStored_any (hS:StoredAnswer) (t:ByteArray) (w:World) (ht:t.size≤2600):PackAt 21 t (storedOut ⟨#[]⟩ 0 t true) w:=by
 have HC:Hid (∀ W:World,Calls Tryz.prog 50 #[.agg #[.string ⟨#[]⟩,.int .i64 0],.string t,.bool true] W fun e w'=>e=.returned (.tuple #[.agg #[.string (blkS (storedOut ⟨#[]⟩ 0 t true)),.int .i64 (blkN (storedOut ⟨#[]⟩ 0 t true))],.bool (blkB (storedOut ⟨#[]⟩ 0 t true))])∧Below W.heap.size W w'):=fun W=>by
  rw[← blkAns_parts]
  exact hS ⟨#[]⟩ 0 t true W (by decide) (by omega) (by omega) (by omega)
 unfold PackAt
 generalize storedOut ⟨#[]⟩ 0 t true=o at HC ⊢
 generalize blkS o=bs at HC ⊢
 generalize blkN o=bn at HC ⊢
 generalize blkB o=bb at HC
 go_enter Tryz.func21,Tryz.ntmps21
 go_wp2_with fail
 refine (HC.out _).mono ?_
 rintro e w1 ⟨rfl,hB1⟩
 have hz:w1.heap[w.heap.size]?=some (.cells #[.string ⟨#[]⟩,.int .i64 0] 43 (0,0)):=(hB1.block _ (by simp)).trans (heap_alloc_new w _)
 have hl:=block_lt hz
 have y0:w1.cell? ⟨w.heap.size,0,none⟩=some (.string ⟨#[]⟩):=(cell_of_block hz 0).trans rfl
 have y1:w1.cell? ⟨w.heap.size,1,none⟩=some (.int .i64 0):=(cell_of_block hz 1).trans rfl
 have yf:∀ q,w1.frozen? ⟨w.heap.size,q,none⟩=false:=fun q=>by simp [World.frozen?,hz]
 have HZ:=hid_of hz
 have HB1:Hid (Below w.heap.size w w1):=bnext (bstart w _) hB1
 clear hB1 hz
 go_wp2_with fail
 exact pack_end HZ.out HB1.out rfl (by
  intro W c0 c1
  simp[results,Tryz.results21,go_sem,c0,c1])
set_option maxHeartbeats 800000 in
theorem packGreedy_any (hW:GreedyAnswer) (hA:FixedAnswer) (t:ByteArray) (w:World) (ht:t.size≤2600):PackAt 22 t (fixedOut ⟨#[]⟩ 0 (greedyL t 4) true) w:=by
 have hL:=greedyL_length t 4
 have HG:Hid (∀ W:World,Calls Tryz.prog 51 #[.string t,.int .i64 4] W (WayPost (greedyL t 4) W)):=fun W=>(hW t 4 W (by omega) (by decide)).1 ⟨ht,by omega,by omega⟩
 have HC:Hid (∀ (W:World) (a:Option Addr) (cp:Nat),TCame W a (greedyL t 4).length (fun j=>(greedyL t 4).getD j (0,0,0))→Calls Tryz.prog 52 #[.agg #[.string ⟨#[]⟩,.int .i64 0],.slice a (greedyL t 4).length cp,.bool true] W fun e w'=>e=.returned (.tuple #[.agg #[.string (blkS (fixedOut ⟨#[]⟩ 0 (greedyL t 4) true)),.int .i64 (blkN (fixedOut ⟨#[]⟩ 0 (greedyL t 4) true))],.bool (blkB (fixedOut ⟨#[]⟩ 0 (greedyL t 4) true))])∧Below W.heap.size W w'):=fun W a cp hC=>by
  rw[← blkAns_parts]
  exact hA ⟨#[]⟩ 0 a cp (greedyL t 4) true W (by decide) (by omega) (by omega) hC (by omega)
 unfold PackAt
 generalize fixedOut ⟨#[]⟩ 0 (greedyL t 4) true=o at HC ⊢
 generalize greedyL t 4=L at HC HG hL
 generalize blkS o=bs at HC ⊢
 generalize blkN o=bn at HC ⊢
 generalize blkB o=bb at HC
 go_enter Tryz.func22,Tryz.ntmps22
 go_wp2_with fail
 refine (HG.out _).mono ?_
 rintro e w1 ⟨a,cp,rfl,hT,hcp,hB1⟩
 have HT:=hid_of hT.came
 have HB1:Hid (Below w.heap.size w w1):=bnext (bstart w _) hB1
 have HZ1:Hid (w1.heap[w.heap.size]?=some (.cells #[.string ⟨#[]⟩,.int .i64 0] 43 (0,0))):=(hB1.block _ (by simp)).trans (heap_alloc_new w _)
 clear hB1 hT
 go_wp2_with fail
 refine (HC.out w1 a cp HT.out).mono ?_
 rintro e w2 ⟨rfl,hB2⟩
 have hz:w2.heap[w.heap.size]?=some (.cells #[.string ⟨#[]⟩,.int .i64 0] 43 (0,0)):=(hB2.block _ (block_lt HZ1.out)).trans HZ1.out
 have y0:w2.cell? ⟨w.heap.size,0,none⟩=some (.string ⟨#[]⟩):=(cell_of_block hz 0).trans rfl
 have y1:w2.cell? ⟨w.heap.size,1,none⟩=some (.int .i64 0):=(cell_of_block hz 1).trans rfl
 have yf:∀ q,w2.frozen? ⟨w.heap.size,q,none⟩=false:=fun q=>by simp [World.frozen?,hz]
 have hl:=block_lt hz
 have HZ:=hid_of hz
 have HB2:Hid (Below w.heap.size w w2):=bnext HB1.out hB2
 clear hB2 hz
 go_wp2_with fail
 exact pack_end HZ.out HB2.out rfl (by
  intro W c0 c1
  simp[results,Tryz.results22,go_sem,c0,c1])
set_option maxHeartbeats 800000 in
theorem packLazy_any (hW:LazyAnswer) (hA:BestBlockAnswer) (t:ByteArray) (w:World) (ht:t.size≤2600) (hG:OrderG w):PackAt 23 t (bestOut ⟨#[]⟩ 0 t (lazyL t 16) true) w:=by
 have hL:=lazyL_length t 16
 have HG:Hid (∀ W:World,Calls Tryz.prog 53 #[.string t,.int .i64 16] W (WayPost (lazyL t 16) W)):=fun W=>(hW t 16 W (by omega) (by decide)).1 ⟨ht,by omega,by omega⟩
 have HC:Hid (∀ (W:World) (a:Option Addr) (cp:Nat),TCame W a (lazyL t 16).length (fun j=>(lazyL t 16).getD j (0,0,0))→OrderG W→Calls Tryz.prog 54 #[.agg #[.string ⟨#[]⟩,.int .i64 0],.string t,.slice a (lazyL t 16).length cp,.bool true] W fun e w'=>e=.returned (.tuple #[.agg #[.string (blkS (bestOut ⟨#[]⟩ 0 t (lazyL t 16) true)),.int .i64 (blkN (bestOut ⟨#[]⟩ 0 t (lazyL t 16) true))],.bool (blkB (bestOut ⟨#[]⟩ 0 t (lazyL t 16) true))])∧Below W.heap.size W w'):=fun W a cp hC hG=>by
  rw[← blkAns_parts]
  exact hA ⟨#[]⟩ 0 t a cp (lazyL t 16) true W (by decide) (by omega) (by omega) (by omega) hC (by omega) hG
 unfold PackAt
 generalize bestOut ⟨#[]⟩ 0 t (lazyL t 16) true=o at HC ⊢
 generalize lazyL t 16=L at HC HG hL
 generalize blkS o=bs at HC ⊢
 generalize blkN o=bn at HC ⊢
 generalize blkB o=bb at HC
 have HGG:=hid_of hG
 clear hG
 go_enter Tryz.func23,Tryz.ntmps23
 go_wp2_with fail
 refine (HG.out _).mono ?_
 rintro e w1 ⟨a,cp,rfl,hT,hcp,hB1⟩
 have HT:=hid_of hT.came
 have HB1:Hid (Below w.heap.size w w1):=bnext (bstart w _) hB1
 have HZ1:Hid (w1.heap[w.heap.size]?=some (.cells #[.string ⟨#[]⟩,.int .i64 0] 43 (0,0))):=(hB1.block _ (by simp)).trans (heap_alloc_new w _)
 clear hB1 hT
 go_wp2_with fail
 refine (HC.out w1 a cp HT.out (HGG.out.below HB1.out HGG.out.1)).mono ?_
 rintro e w2 ⟨rfl,hB2⟩
 have hz:w2.heap[w.heap.size]?=some (.cells #[.string ⟨#[]⟩,.int .i64 0] 43 (0,0)):=(hB2.block _ (block_lt HZ1.out)).trans HZ1.out
 have y0:w2.cell? ⟨w.heap.size,0,none⟩=some (.string ⟨#[]⟩):=(cell_of_block hz 0).trans rfl
 have y1:w2.cell? ⟨w.heap.size,1,none⟩=some (.int .i64 0):=(cell_of_block hz 1).trans rfl
 have yf:∀ q,w2.frozen? ⟨w.heap.size,q,none⟩=false:=fun q=>by simp [World.frozen?,hz]
 have hl:=block_lt hz
 have HZ:=hid_of hz
 have HB2:Hid (Below w.heap.size w w2):=bnext HB1.out hB2
 clear hB2 hz
 go_wp2_with fail
 exact pack_end HZ.out HB2.out rfl (by
  intro W c0 c1
  simp[results,Tryz.results23,go_sem,c0,c1])
def packCO (t:ByteArray) (L:List Tok):Option (ByteArray×Nat):=
 if L.length≤60 then bestOut ⟨#[]⟩ 0 t L true
 else if (blkS (partsSt t L (partsN L))).size < (blkS (bestOut ⟨#[]⟩ 0 t L true)).size then partsSt t L (partsN L) else bestOut ⟨#[]⟩ 0 t L true
theorem packCO_text {t:ByteArray} {L:List Tok} (hs:sizeL L=t.size):blkS (packCO t L)=packC t L:=by
 unfold packCO
 by_cases h:L.length≤60
 ·rw[if_pos h,packC_few hs h]
 ·rw[if_neg h,packC_many (by omega)]
  unfold shorter
  split <;> rfl
theorem cheap_run (t:ByteArray) (h:t.size≤2600):run [] (cheapL t 64)=some (pre (txt t) t.size):=way_all (txt_lt t) (by omega) (fun _ hi=>take_fine hi)
theorem cheap_size (t:ByteArray) (h:t.size≤2600):sizeL (cheapL t 64)=t.size:=by
 have:=run_size (cheap_run t h)
 rw[pre_length] at this
 simpa using this.symm
theorem cheap_right (t:ByteArray) (h:t.size≤2600):∀ u∈cheapL t 64,TokRight u:=run_right (cheap_run t h)
set_option maxHeartbeats 1600000 in
theorem cheap_few (t:ByteArray) (L:List Tok) (w:World) (bs:ByteArray) (bn:Int) (bb:Bool) (HG:Hid (∀ W:World,Calls Tryz.prog 55 #[.string t,.int .i64 64] W (WayPost L W)))
  (HC:Hid (∀ (W:World) (a:Option Addr) (cp:Nat),TCame W a L.length (fun j=>L.getD j (0,0,0))→OrderG W→Calls Tryz.prog 54 #[.agg #[.string ⟨#[]⟩,.int .i64 0],.string t,.slice a L.length cp,.bool true] W fun e w'=>e=.returned (.tuple #[.agg #[.string bs,.int .i64 bn],.bool bb])∧Below W.heap.size W w')) (HGG:Hid (OrderG w)) (hL:L.length≤2600) (hfew:L.length≤60):
  Calls Tryz.prog 24 #[.string t] w fun e w'=>e=.returned (.agg #[.string bs,.int .i64 bn])∧Below w.heap.size w w':=by
 have d1:decide ((L.length:Int)≤60)=true:=decide_eq_true (by omega)
 have d2:decide (L.length≤60)=true:=decide_eq_true hfew
 go_enter Tryz.func24,Tryz.ntmps24
 go_wp2_with fail
 refine (HG.out _).mono ?_
 rintro e w1 ⟨a,cp,rfl,hT,hcp,hB1⟩
 have HT:=hid_of hT.came
 have HB1:Hid (Below w.heap.size w w1):=bnext (bstart w _) hB1
 have HZ1:Hid (w1.heap[w.heap.size]?=some (.cells #[.string ⟨#[]⟩,.int .i64 0] 43 (0,0))):=(hB1.block _ (by simp)).trans (heap_alloc_new w _)
 clear hB1 hT
 go_wp2_with fail
 refine (HC.out w1 a cp HT.out (HGG.out.below HB1.out HGG.out.1)).mono ?_
 rintro e w2 ⟨rfl,hB2⟩
 have hz:w2.heap[w.heap.size]?=some (.cells #[.string ⟨#[]⟩,.int .i64 0] 43 (0,0)):=(hB2.block _ (block_lt HZ1.out)).trans HZ1.out
 have HB2:Hid (Below w.heap.size w w2):=bnext HB1.out hB2
 have HT2:=hid_of (HT.out.called hB2)
 clear hB2
 have y0:w2.cell? ⟨w.heap.size,0,none⟩=some (.string ⟨#[]⟩):=(cell_of_block hz 0).trans rfl
 have y1:w2.cell? ⟨w.heap.size,1,none⟩=some (.int .i64 0):=(cell_of_block hz 1).trans rfl
 have yf:∀ q,w2.frozen? ⟨w.heap.size,q,none⟩=false:=fun q=>by simp [World.frozen?,hz]
 have hl:=block_lt hz
 have HZ:=hid_of hz
 clear hz
 go_wp2_with fail
 exact pack_end HZ.out HB2.out rfl (by
  intro W c0 c1
  simp[results,Tryz.results24,go_sem,c0,c1])
set_option maxHeartbeats 1600000 in
theorem cheap_many (t:ByteArray) (L:List Tok) (w:World) (bs:ByteArray) (bn:Int) (bb:Bool) (ps:ByteArray) (pn:Int) (HG:Hid (∀ W:World,Calls Tryz.prog 55 #[.string t,.int .i64 64] W (WayPost L W)))
  (HC:Hid (∀ (W:World) (a:Option Addr) (cp:Nat),TCame W a L.length (fun j=>L.getD j (0,0,0))→OrderG W→Calls Tryz.prog 54 #[.agg #[.string ⟨#[]⟩,.int .i64 0],.string t,.slice a L.length cp,.bool true] W fun e w'=>e=.returned (.tuple #[.agg #[.string bs,.int .i64 bn],.bool bb])∧Below W.heap.size W w')) (HGG:Hid (OrderG w)) (hL:L.length≤2600) (_hbs:bs.size≤1048576) (_hps:ps.size≤1048576)
  (HPP:Hid (∀ (W:World) (a:Option Addr) (cp:Nat),TCame W a L.length (fun j=>L.getD j (0,0,0))→OrderG W→L.length≤cp→Calls Tryz.prog 56 #[.string t,.slice a L.length cp] W fun e w'=>e=.returned (.agg #[.string ps,.int .i64 pn])∧Below W.heap.size W w')) (hmany:60 < L.length):
  Calls Tryz.prog 24 #[.string t] w fun e w'=>e=.returned (if ps.size < bs.size then .agg #[.string ps,.int .i64 pn] else .agg #[.string bs,.int .i64 bn])∧Below w.heap.size w w':=by
 have d1:decide ((L.length:Int)≤60)=false:=decide_eq_false (by omega)
 have d2:decide (L.length≤60)=false:=decide_eq_false (by omega)
 by_cases hsh:ps.size < bs.size
 all_goals
  first | rw [if_pos hsh] | rw [if_neg hsh]
  have d3:decide ((ps.size:Int) < (bs.size:Int))=decide (ps.size < bs.size):=by simp
  first | rw [decide_eq_true hsh] at d3 | rw [decide_eq_false hsh] at d3
  go_enter Tryz.func24,Tryz.ntmps24
  go_wp2_with fail
  refine (HG.out _).mono ?_
  rintro e w1 ⟨a,cp,rfl,hT,hcp,hB1⟩
  have HT:=hid_of hT.came
  have HB1:Hid (Below w.heap.size w w1):=bnext (bstart w _) hB1
  have HZ1:Hid (w1.heap[w.heap.size]?=some (.cells #[.string ⟨#[]⟩,.int .i64 0] 43 (0,0))):=(hB1.block _ (by simp)).trans (heap_alloc_new w _)
  clear hB1 hT
  go_wp2_with fail
  refine (HC.out w1 a cp HT.out (HGG.out.below HB1.out HGG.out.1)).mono ?_
  rintro e w2 ⟨rfl,hB2⟩
  have hz:w2.heap[w.heap.size]?=some (.cells #[.string ⟨#[]⟩,.int .i64 0] 43 (0,0)):=(hB2.block _ (block_lt HZ1.out)).trans HZ1.out
  have HB2:Hid (Below w.heap.size w w2):=bnext HB1.out hB2
  have HT2:=hid_of (HT.out.called hB2)
  clear hB2
  have hw2:=block_lt hz
  have HT3:=hid_of (HT2.out.called (bstart w2 (.cells #[.string bs,.int .i64 bn] 43)))
  have HG3:Hid (OrderG (w2.alloc (.cells #[.string bs,.int .i64 bn] 43))):=HGG.out.below (bal HB2.out _) HGG.out.1
  have HZ2:=hid_of hz
  clear hz
  go_wp2_with fail
  refine (HPP.out _ a cp HT3.out HG3.out hcp).mono ?_
  rintro e w3 ⟨rfl,hB3⟩
  have hz:w3.heap[w.heap.size]?=some (.cells #[.string ⟨#[]⟩,.int .i64 0] 43 (0,0)):=(hB3.block _ (by simp; omega)).trans (((bstart w2 _).block _ hw2).trans HZ2.out)
  have hy:w3.heap[w2.heap.size]?=some (.cells #[.string bs,.int .i64 bn] 43 (0,0)):=(hB3.block _ (by simp)).trans (heap_alloc_new w2 _)
  have HB3:Hid (Below w.heap.size w w3):=bnext (bal HB2.out _) hB3
  have y0:w3.cell? ⟨w.heap.size,0,none⟩=some (.string ⟨#[]⟩):=(cell_of_block hz 0).trans rfl
  have y1:w3.cell? ⟨w.heap.size,1,none⟩=some (.int .i64 0):=(cell_of_block hz 1).trans rfl
  have yf:∀ q,w3.frozen? ⟨w.heap.size,q,none⟩=false:=fun q=>by simp [World.frozen?,hz]
  have hl:=block_lt hz
  have z0:w3.cell? ⟨w2.heap.size,0,none⟩=some (.string bs):=(cell_of_block hy 0).trans rfl
  have z1:w3.cell? ⟨w2.heap.size,1,none⟩=some (.int .i64 bn):=(cell_of_block hy 1).trans rfl
  have hl2:=block_lt hy
  have HZ:=hid_of hz
  clear hz hy hB3
  go_wp2_with fail
  exact pack_end HZ.out HB3.out rfl (by
   intro W c0 c1
   simp[results,Tryz.results24,go_sem,c0,c1])
theorem packCheapest_any (hW:CheapAnswer) (hA:BestBlockAnswer) (t:ByteArray) (w:World) (ht:t.size≤2600) (hG:OrderG w):PackAt 24 t (packCO t (cheapL t 64)) w:=by
 have hL:=cheapL_length t 64
 have hsz:=cheap_size t ht
 have hR:=cheap_right t ht
 have HG:Hid (∀ W:World,Calls Tryz.prog 55 #[.string t,.int .i64 64] W (WayPost (cheapL t 64) W)):=fun W=>(hW t 64 W (by omega) (by decide)).1 ⟨ht,by omega,by omega⟩
 generalize cheapL t 64=L at hL hsz hR HG ⊢
 have HC:Hid (∀ (W:World) (a:Option Addr) (cp:Nat),TCame W a L.length (fun j=>L.getD j (0,0,0))→OrderG W→Calls Tryz.prog 54 #[.agg #[.string ⟨#[]⟩,.int .i64 0],.string t,.slice a L.length cp,.bool true] W fun e w'=>e=.returned (.tuple #[.agg #[.string (blkS (bestOut ⟨#[]⟩ 0 t L true)),.int .i64 (blkN (bestOut ⟨#[]⟩ 0 t L true))],.bool (blkB (bestOut ⟨#[]⟩ 0 t L true))])∧Below W.heap.size W w'):=fun W a cp hC hG=>by
  rw[← blkAns_parts]
  exact hA ⟨#[]⟩ 0 t a cp L true W (by decide) (by omega) (by omega) (by omega) hC (by omega) hG
 unfold PackAt packCO
 by_cases h:L.length≤60
 ·rw[if_pos h]
  exact cheap_few t L w _ _ _ HG HC hG (by omega) h
 ·rw[if_neg h]
  obtain⟨o1,e1,_,f1,_⟩:=best_some (s:=⟨#[]⟩) (c:=0) (t:=t) L true empty_out ht (by omega)
  obtain⟨o2,e2,f2,_⟩:=parts_some hsz ht hL (partsN L) (Nat.le_refl _)
  have q1:=(OutMath.fits_of_outB _ _ f1).1
  have q2:=(OutMath.fits_of_outB _ _ f2).1
  have e1':bestOut ⟨#[]⟩ 0 t L true=some o1:=e1
  have hm:=cheap_many t L w _ _ _ (blkS (partsSt t L (partsN L))) (blkN (partsSt t L (partsN L))) HG HC hG (by omega) (by rw [e1']; show o1.1.size≤_; omega) (by rw [e2]; show o2.1.size≤_; omega) (fun W a cp hC hG hcp=>packParts_any hA t a cp L W hC hsz ht hL (by omega) hcp hR hG) (by omega)
  refine hm.mono fun e w' he=>⟨?_,he.2⟩
  rw[he.1]
  split <;> rfl
theorem field_text (s:ByteArray) (n:Int) (W:World):(Instr.field 43 (.agg #[.string s,.int .i64 n]) 0).run Tryz.prog W=.ok (.string s) W:=by kernel_rfl
set_option maxRecDepth 100000 in
set_option maxHeartbeats 1600000 in
theorem deflate_answer (hS:StoredAnswer) (hF:FixedAnswer) (hA:BestBlockAnswer) (hGr:GreedyAnswer) (hLz:LazyAnswer) (hCh:CheapAnswer):DeflateAnswer:=by
 intro t lv w ht hlv hG
 unfold deflAns
 by_cases hr:DeflRight t lv
 ·rw[if_pos hr]
  obtain⟨h1,h2,h3⟩:=hr
  have d1:decide ((2600:Int) < (t.size:Int))=false:=decide_eq_false (by omega)
  have d1':decide (2600 < t.size)=false:=decide_eq_false (by omega)
  have P0:=hid_of fun W=>packStored_any hS t W h1
  have P1:=hid_of fun W=>packGreedy_any hGr hF t W h1
  have P2:=hid_of fun W hG=>packLazy_any hLz hA t W h1 hG
  have P3:=hid_of fun W hG=>packCheapest_any hCh hA t W h1 hG
  have E3:=packCO_text (t:=t) (L:=cheapL t 64) (cheap_size t h1)
  unfold PackAt at P0 P1 P2 P3
  rw[E3] at P3
  unfold deflT
  generalize storedOut ⟨#[]⟩ 0 t true=o0 at P0 ⊢
  generalize fixedOut ⟨#[]⟩ 0 (greedyL t 4) true=o1 at P1 ⊢
  generalize bestOut ⟨#[]⟩ 0 t (lazyL t 16) true=o2 at P2 ⊢
  generalize packC t (cheapL t 64)=o3 at P3 ⊢
  generalize blkN (packCO t (cheapL t 64))=n3 at P3
  have hfd:=fun (s:ByteArray) (n:Int) (W:World)=>field_text s n W
  have hst:=fun (W:World) (o:Nat) (f:Fn) (xs ys:Array Value)=>store_func W w.heap.size o f xs ys
  have HG:=hid_of hG
  clear hG E3
  obtain rfl | rfl | rfl | rfl:lv=0∨lv=1∨lv=2∨lv=3:=by omega
  ·go_enter Tryz.func10,Tryz.ntmps10
   go_wp2_with fail
   refine (P0.out _).mono ?_
   rintro e w1 ⟨rfl,hB1⟩
   have HB1:=hid_of (bnext (bstart w _) hB1)
   clear hB1
   go_wp2_with fail
   refine bodyPost_ret (v:=.tuple #[.string _,.bool true]) ?_ rfl ⟨rfl,HB1.out⟩
   simp[results,Tryz.results10,go_sem]
  ·go_enter Tryz.func10,Tryz.ntmps10
   go_wp2_with fail
   refine (P1.out _).mono ?_
   rintro e w1 ⟨rfl,hB1⟩
   have HB1:=hid_of (bnext (bstart w _) hB1)
   clear hB1
   go_wp2_with fail
   refine bodyPost_ret (v:=.tuple #[.string _,.bool true]) ?_ rfl ⟨rfl,HB1.out⟩
   simp[results,Tryz.results10,go_sem]
  ·go_enter Tryz.func10,Tryz.ntmps10
   go_wp2_with fail
   refine (P2.out _ (HG.out.below (bstart w _) HG.out.1)).mono ?_
   rintro e w1 ⟨rfl,hB1⟩
   have HB1:=hid_of (bnext (bstart w _) hB1)
   clear hB1
   go_wp2_with fail
   refine bodyPost_ret (v:=.tuple #[.string _,.bool true]) ?_ rfl ⟨rfl,HB1.out⟩
   simp[results,Tryz.results10,go_sem]
  ·go_enter Tryz.func10,Tryz.ntmps10
   go_wp2_with fail
   refine (P3.out _ (HG.out.below (bstart w _) HG.out.1)).mono ?_
   rintro e w1 ⟨rfl,hB1⟩
   have HB1:=hid_of (bnext (bstart w _) hB1)
   clear hB1
   go_wp2_with fail
   refine bodyPost_ret (v:=.tuple #[.string _,.bool true]) ?_ rfl ⟨rfl,HB1.out⟩
   simp[results,Tryz.results10,go_sem]
 ·rw[if_neg hr]
  clear hS hF hA hGr hLz hCh hG
  by_cases h1:t.size≤2600
  ·have d1:decide ((2600:Int) < (t.size:Int))=false:=decide_eq_false (by omega)
   have d1':decide (2600 < t.size)=false:=decide_eq_false (by omega)
   by_cases h2:lv < 0
   ·have d2:decide (lv < 0)=true:=decide_eq_true h2
    go_enter Tryz.func10,Tryz.ntmps10
    go_wp2_with fail
    refine bodyPost_ret (v:=.tuple #[.string ⟨#[]⟩,.bool false]) ?_ rfl ⟨rfl,Below.refl _ _⟩
    simp[results,Tryz.results10,go_sem]
   ·have d2:decide (lv < 0)=false:=decide_eq_false h2
    have d3:decide (3 < lv)=true:=decide_eq_true (by
     rcases Int.lt_or_le 3 lv with h | h
     ·exact h
     ·exact (hr ⟨h1,by omega,h⟩).elim)
    go_enter Tryz.func10,Tryz.ntmps10
    go_wp2_with fail
    refine bodyPost_ret (v:=.tuple #[.string ⟨#[]⟩,.bool false]) ?_ rfl ⟨rfl,Below.refl _ _⟩
    simp[results,Tryz.results10,go_sem]
  ·have d1:decide ((2600:Int) < (t.size:Int))=true:=decide_eq_true (by omega)
   have d1':decide (2600 < t.size)=true:=decide_eq_true (by omega)
   go_enter Tryz.func10,Tryz.ntmps10
   go_wp2_with fail
   refine bodyPost_ret (v:=.tuple #[.string ⟨#[]⟩,.bool false]) ?_ rfl ⟨rfl,Below.refl _ _⟩
   simp[results,Tryz.results10,go_sem]
end
section
open Go.RowKit TokMath WovenMath
def WovenAnswer:Prop:=∀ (s:ByteArray) (c:Int) (a:Option Addr) (cp:Nat) (L:List Tok) (last:Bool) (w:World),s.size≤1048576→-9223372036854775808≤c→c≤9223372036854775807→TCame w a L.length (fun j=>L.getD j (0,0,0))→L.length≤1048576→OrderG w→
 Calls Tryz.prog 88 #[.agg #[.string s,.int .i64 c],.slice a L.length cp,.bool last] w fun e w'=>e=.returned (blkAns (wovenOut s c L last))∧Below w.heap.size w w'
end
section
open Go.RowKit Go.Joins OutMath TokMath WovenMath
def Bst (w:World) (q p:Nat) (o:Option (ByteArray×Nat)):Prop:=w.heap[q]?=some (.cells #[.bool (blkB o)] 4 (0,0))∧w.heap[p]?=some (.cells #[.string (blkS o),.int .i64 (blkN o)] 43 (0,0))
theorem Bst.called {w w':World} {q p:Nat} {o:Option (ByteArray×Nat)} (h:Bst w q p o) (hb:Below w.heap.size w w'):Bst w' q p o:=⟨(hb.block _ (block_lt h.1)).trans h.1,(hb.block _ (block_lt h.2)).trans h.2⟩
def But2 (w w':World) (q p:Nat):Prop:=w'.os=w.os∧w'.tape=w.tape∧w'.output=w.output∧w.heap.size≤w'.heap.size∧∀ g,g < w.heap.size→g≠q→g≠p→w'.heap[g]?=w.heap[g]?
theorem But2.below {w w':World} {q p B:Nat} (h:But2 w w' q p) (hq:B≤q) (hp:B≤p) (hB:B≤w.heap.size):Below B w w':=⟨h.1,h.2.1,h.2.2.1,h.2.2.2.1,fun k hk=>h.2.2.2.2 k (by omega) (by omega) (by omega)⟩
section
variable (q p:Nat) (o n:Option (ByteArray×Nat)) (w:World)
set_option maxRecDepth 100000 in
set_option maxHeartbeats 1600000 in
theorem offerBlk_any (h:Bst w q p o) (hqp:q≠p):
  Calls Tryz.prog 87 #[.agg #[.string (blkS n),.int .i64 (blkN n)],.bool (blkB n),.pointer (some ⟨q,0,none⟩),.pointer (some ⟨p,0,none⟩)] w fun e w'=>e=.returned (.tuple #[])∧Bst w' q p (better o n)∧But2 w w' q p:=by
 have HB0:Hid (∀ ob,But2 w (w.alloc ob) q p):=fun ob=>⟨rfl,rfl,rfl,by simp,fun g hg _ _=>(bstart w ob).block g hg⟩
 have HS0:Hid (∀ ob,Bst (w.alloc ob) q p o):=fun ob=>h.called (bstart w ob)
 have hql:=block_lt h.1
 have hpl:=block_lt h.2
 have q0:w.cell? ⟨q,0,none⟩=some (.bool (blkB o)):=(cell_of_block h.1 0).trans rfl
 have p0:w.cell? ⟨p,0,none⟩=some (.string (blkS o)):=(cell_of_block h.2 0).trans rfl
 have p1:w.cell? ⟨p,1,none⟩=some (.int .i64 (blkN o)):=(cell_of_block h.2 1).trans rfl
 have qf:∀ j,w.frozen? ⟨q,j,none⟩=false:=fun j=>by simp [World.frozen?,h.1]
 have pf:∀ j,w.frozen? ⟨p,j,none⟩=false:=fun j=>by simp [World.frozen?,h.2]
 have HST:Hid (∀ (X:World) (bs:ByteArray) (bn:Nat),Bst X q p o→But2 w X q p→Bst (((X.setCell ⟨p,0,none⟩ (.string bs)).setCell ⟨p,1,none⟩ (.int .i64 (bn:Int))).setCell ⟨q,0,none⟩ (.bool true)) q p (some (bs,bn))∧But2 w (((X.setCell ⟨p,0,none⟩ (.string bs)).setCell ⟨p,1,none⟩ (.int .i64 (bn:Int))).setCell ⟨q,0,none⟩ (.bool true)) q p):=by
  intro X bs bn hX hb
  refine⟨⟨?_,?_⟩,⟨hb.1,hb.2.1,hb.2.2.1,by have:=hb.2.2.2.1; simp; omega,fun g hg h1 h2=>?_⟩⟩
  ·have hx:((X.setCell ⟨p,0,none⟩ (.string bs)).setCell ⟨p,1,none⟩ (.int .i64 (bn:Int))).heap[q]?=some (.cells #[.bool (blkB o)] 4 (0,0)):=(Below.heap_setCell _ _ _ _ hqp).trans ((Below.heap_setCell _ _ _ _ hqp).trans hX.1)
   have:=block_setCell (i:=0) hx (.bool true)
   show _=some (Obj.cells #[.bool true] 4 (0,0))
   simpa using this
  ·exact (Below.heap_setCell _ _ _ _ (Ne.symm hqp)).trans (two_set hX.2 _ _)
  ·exact (Below.heap_setCell _ _ _ _ h1).trans ((Below.heap_setCell _ _ _ _ h2).trans ((Below.heap_setCell _ _ _ _ h2).trans (hb.2.2.2.2 g hg h1 h2)))
 have HOLD:=hid_of h
 clear h
 cases n with
 | none=>
  have HE:Hid (better o none=o):=by cases o <;> rfl
  simp only [blkB,blkS,blkN]
  clear HST HOLD
  go_enter Tryz.func87,Tryz.ntmps87
  go_wp2_with fail
  go_end0
  exact⟨rfl,by rw [HE.out]; exact HS0.out _,HB0.out _⟩
 | some y=>
  obtain⟨ys,yn⟩:=y
  have HFIN:Hid (∀ ob,Bst ((((w.setCell ⟨p,0,none⟩ (.string ys)).setCell ⟨p,1,none⟩ (.int .i64 (yn:Int))).setCell ⟨q,0,none⟩ (.bool true)).alloc ob) q p (some (ys,yn))∧But2 w ((((w.setCell ⟨p,0,none⟩ (.string ys)).setCell ⟨p,1,none⟩ (.int .i64 (yn:Int))).setCell ⟨q,0,none⟩ (.bool true)).alloc ob) q p):=by
   intro ob
   have h1:=HST.out w ys yn HOLD.out ⟨rfl,rfl,rfl,Nat.le_refl _,fun _ _ _ _=>rfl⟩
   generalize ((w.setCell ⟨p,0,none⟩ (.string ys)).setCell ⟨p,1,none⟩ (.int .i64 (yn:Int))).setCell ⟨q,0,none⟩ (.bool true)=Z at h1 ⊢
   refine⟨h1.1.called (bstart _ _),h1.2.1,h1.2.2.1,h1.2.2.2.1,Nat.le_trans h1.2.2.2.2.1 (by simp),fun g hg e1 e2=>((bstart Z ob).block g (Nat.lt_of_lt_of_le hg h1.2.2.2.2.1)).trans (h1.2.2.2.2.2 g hg e1 e2)⟩
  clear HST HOLD
  cases o with
  | none=>
   have HE:Hid (better none (some (ys,yn))=some (ys,yn)):=rfl
   simp only [blkB,blkS,blkN] at q0 p0 p1 ⊢
   clear HS0 HB0
   go_enter Tryz.func87,Tryz.ntmps87
   go_wp2_with fail
   go_end0
   exact⟨rfl,by rw [HE.out]; exact (HFIN.out _).1,(HFIN.out _).2⟩
  | some x=>
   obtain⟨xs,xn⟩:=x
   simp only [blkB,blkS,blkN] at q0 p0 p1 ⊢
   by_cases hlt:yn < xn
   ·have HE:Hid (better (some (xs,xn)) (some (ys,yn))=some (ys,yn)):=if_pos hlt
    have dl:decide ((yn:Int) < (xn:Int))=true:=decide_eq_true (by omega)
    have dl2:decide (yn < xn)=true:=decide_eq_true hlt
    clear HS0 HB0
    go_enter Tryz.func87,Tryz.ntmps87
    go_wp2_with fail
    go_end0
    exact⟨rfl,by rw [HE.out]; exact (HFIN.out _).1,(HFIN.out _).2⟩
   ·have HE:Hid (better (some (xs,xn)) (some (ys,yn))=some (xs,xn)):=if_neg hlt
    have dl:decide ((yn:Int) < (xn:Int))=false:=decide_eq_false (by omega)
    have dl2:decide (yn < xn)=false:=decide_eq_false hlt
    clear HFIN
    go_enter Tryz.func87,Tryz.ntmps87
    go_wp2_with fail
    go_end0
    exact⟨rfl,by rw [HE.out]; exact HS0.out _,HB0.out _⟩
end
def BbX (w X:World) (s:ByteArray) (c:Int) (o:Option (ByteArray×Nat)):Prop:=Below w.heap.size w X∧X.heap[w.heap.size]?=some (.cells #[.string s,.int .i64 c] 43 (0,0))∧X.heap[w.heap.size+1]?=some (.cells #[.string ⟨#[]⟩,.int .i64 0] 43 (0,0))∧Bst X (w.heap.size+3) (w.heap.size+2) o
theorem BbX.called {w X Y:World} {s:ByteArray} {c:Int} {o:Option (ByteArray×Nat)} (h:BbX w X s c o) (hb:Below X.heap.size X Y):BbX w Y s c o:=
 ⟨bnext h.1 hb,(hb.block _ (block_lt h.2.1)).trans h.2.1,(hb.block _ (block_lt h.2.2.1)).trans h.2.2.1,h.2.2.2.called hb⟩
theorem BbX.offered {w X Y:World} {s:ByteArray} {c:Int} {o o':Option (ByteArray×Nat)} (h:BbX w X s c o) (hB:Bst Y (w.heap.size+3) (w.heap.size+2) o') (hb:But2 X Y (w.heap.size+3) (w.heap.size+2)):BbX w Y s c o':=
 ⟨h.1.trans (hb.below (by omega) (by omega) h.1.size),(hb.2.2.2.2 _ (block_lt h.2.1) (by omega) (by omega)).trans h.2.1,(hb.2.2.2.2 _ (block_lt h.2.2.1) (by omega) (by omega)).trans h.2.2.1,hB⟩
theorem four_blocks (w:World) (A B C D:Obj):((((w.alloc A).alloc B).alloc C).alloc D).heap[w.heap.size]?=some A∧((((w.alloc A).alloc B).alloc C).alloc D).heap[w.heap.size+1]?=some B∧((((w.alloc A).alloc B).alloc C).alloc D).heap[w.heap.size+2]?=some C∧((((w.alloc A).alloc B).alloc C).alloc D).heap[w.heap.size+3]?=some D:=by
 have s1:(w.alloc A).heap.size=w.heap.size+1:=by simp
 have s2:((w.alloc A).alloc B).heap.size=w.heap.size+2:=by simp
 have s3:(((w.alloc A).alloc B).alloc C).heap.size=w.heap.size+3:=by simp
 refine⟨?_,?_,?_,?_⟩
 ·rw[(bstart _ D).block _ (by omega),(bstart _ C).block _ (by omega),(bstart _ B).block _ (by omega)]
  exact heap_alloc_new w A
 ·rw[(bstart _ D).block _ (by omega),(bstart _ C).block _ (by omega),← s1]
  exact heap_alloc_new (w.alloc A) B
 ·rw[(bstart _ D).block _ (by omega),← s2]
  exact heap_alloc_new ((w.alloc A).alloc B) C
 ·rw[← s3]
  exact heap_alloc_new (((w.alloc A).alloc B).alloc C) D
set_option maxRecDepth 100000 in
set_option maxHeartbeats 3200000 in
theorem bestBlk_answer (hS:StoredAnswer) (hF:FixedAnswer) (hWv:WovenAnswer):BestBlockAnswer:=by
 intro s c t a cp L last w hs hc1 hc2 ht hC hL hG
 have HX:Hid (BbX w ((((w.alloc (.cells #[.string s,.int .i64 c] 43)).alloc (.cells #[.string ⟨#[]⟩,.int .i64 0] 43)).alloc (.cells #[.string ⟨#[]⟩,.int .i64 0] 43)).alloc (.cells #[.bool false] 4)) s c none):=by
  obtain⟨q1,q2,q3,q4⟩:=four_blocks w (.cells #[.string s,.int .i64 c] 43) (.cells #[.string ⟨#[]⟩,.int .i64 0] 43) (.cells #[.string ⟨#[]⟩,.int .i64 0] 43) (.cells #[.bool false] 4)
  exact⟨bal (bal (bal (bstart _ _) _) _) _,q1,q2,q4,q3⟩
 have HC:=hid_of hC
 have HG:=hid_of hG
 have HS:Hid (∀ W:World,Calls Tryz.prog 50 #[.agg #[.string s,.int .i64 c],.string t,.bool last] W fun e w'=>e=.returned (.tuple #[.agg #[.string (blkS (storedOut s c t last)),.int .i64 (blkN (storedOut s c t last))],.bool (blkB (storedOut s c t last))])∧Below W.heap.size W w'):=fun W=>by
  rw[← blkAns_parts]
  exact hS s c t last W hs hc1 hc2 ht
 have HF:Hid (∀ W:World,TCame W a L.length (fun j=>L.getD j (0,0,0))→Calls Tryz.prog 52 #[.agg #[.string s,.int .i64 c],.slice a L.length cp,.bool last] W fun e w'=>e=.returned (.tuple #[.agg #[.string (blkS (fixedOut s c L last)),.int .i64 (blkN (fixedOut s c L last))],.bool (blkB (fixedOut s c L last))])∧Below W.heap.size W w'):=fun W hC=>by
  rw[← blkAns_parts]
  exact hF s c a cp L last W hs hc1 hc2 hC hL
 have HW:Hid (∀ W:World,TCame W a L.length (fun j=>L.getD j (0,0,0))→OrderG W→Calls Tryz.prog 88 #[.agg #[.string s,.int .i64 c],.slice a L.length cp,.bool last] W fun e w'=>e=.returned (.tuple #[.agg #[.string (blkS (wovenOut s c L last)),.int .i64 (blkN (wovenOut s c L last))],.bool (blkB (wovenOut s c L last))])∧Below W.heap.size W w'):=fun W hC hG=>by
  rw[← blkAns_parts]
  exact hWv s c a cp L last W hs hc1 hc2 hC hL hG
 have HOFF:Hid (∀ (o n:Option (ByteArray×Nat)) (W:World),Bst W (w.heap.size+3) (w.heap.size+2) o→Calls Tryz.prog 87 #[.agg #[.string (blkS n),.int .i64 (blkN n)],.bool (blkB n),.pointer (some ⟨w.heap.size+3,0,none⟩),.pointer (some ⟨w.heap.size+2,0,none⟩)] W fun e w'=>e=.returned (.tuple #[])∧Bst w' (w.heap.size+3) (w.heap.size+2) (better o n)∧But2 W w' (w.heap.size+3) (w.heap.size+2)):=fun o n W h=>offerBlk_any _ _ o n W h (by omega)
 have HE:Hid (bestOut s c t L last=better (better (better none (storedOut s c t last)) (fixedOut s c L last)) (wovenOut s c L last)):=rfl
 clear hS hF hWv hC hG
 generalize storedOut s c t last=o1 at *
 generalize fixedOut s c L last=o2 at *
 generalize wovenOut s c L last=o3 at *
 have hmf:∀ (fn:Fn) (first cap:Array Value) (w:World),(Instr.makeFunc fn first cap).run Tryz.prog w=.ok (.func fn first cap) w:=fun _ _ _ _=>rfl
 go_enter Tryz.func54,Tryz.ntmps54
 go_wp2_with fail
 generalize (((w.alloc _).alloc _).alloc _).alloc _=X at HX ⊢
 obtain⟨x0,x1,xl⟩:X.cell? ⟨w.heap.size,0,none⟩=some (.string s)∧X.cell? ⟨w.heap.size,1,none⟩=some (.int .i64 c)∧w.heap.size < X.heap.size:=⟨(cell_of_block HX.out.2.1 0).trans rfl,(cell_of_block HX.out.2.1 1).trans rfl,block_lt HX.out.2.1⟩
 go_wp2_with fail
 refine (HS.out X).mono ?_
 rintro e w1 ⟨rfl,b1⟩
 have HX1:=hid_of (HX.out.called b1)
 clear b1 HX x0 x1 xl HS
 go_wp2_with fail
 refine (HOFF.out none o1 w1 HX1.out.2.2.2).mono ?_
 rintro e w2 ⟨rfl,hB2,hb2⟩
 have HX2:=hid_of (HX1.out.offered hB2 hb2)
 clear hB2 hb2 HX1
 obtain⟨x0,x1,xl⟩:w2.cell? ⟨w.heap.size,0,none⟩=some (.string s)∧w2.cell? ⟨w.heap.size,1,none⟩=some (.int .i64 c)∧w.heap.size < w2.heap.size:=⟨(cell_of_block HX2.out.2.1 0).trans rfl,(cell_of_block HX2.out.2.1 1).trans rfl,block_lt HX2.out.2.1⟩
 go_wp2_with fail
 refine (HF.out w2 (HC.out.called HX2.out.1)).mono ?_
 rintro e w3 ⟨rfl,b3⟩
 have HX3:=hid_of (HX2.out.called b3)
 clear b3 HX2 x0 x1 xl HF
 go_wp2_with fail
 refine (HOFF.out _ o2 w3 HX3.out.2.2.2).mono ?_
 rintro e w4 ⟨rfl,hB4,hb4⟩
 have HX4:=hid_of (HX3.out.offered hB4 hb4)
 clear hB4 hb4 HX3
 obtain⟨x0,x1,xl⟩:w4.cell? ⟨w.heap.size,0,none⟩=some (.string s)∧w4.cell? ⟨w.heap.size,1,none⟩=some (.int .i64 c)∧w.heap.size < w4.heap.size:=⟨(cell_of_block HX4.out.2.1 0).trans rfl,(cell_of_block HX4.out.2.1 1).trans rfl,block_lt HX4.out.2.1⟩
 go_wp2_with fail
 refine (HW.out w4 (HC.out.called HX4.out.1) (HG.out.below HX4.out.1 HG.out.1)).mono ?_
 rintro e w5 ⟨rfl,b5⟩
 have HX5:=hid_of (HX4.out.called b5)
 clear b5 HX4 x0 x1 xl HW HC HG
 go_wp2_with fail
 refine (HOFF.out _ o3 w5 HX5.out.2.2.2).mono ?_
 rintro e w6 ⟨rfl,hB6,hb6⟩
 have HX6:=hid_of (HX5.out.offered hB6 hb6)
 clear hB6 hb6 HX5 HOFF
 rw[← HE.out] at HX6
 obtain⟨oo,hoo⟩:∃ oo,oo=bestOut s c t L last:=⟨_,rfl⟩
 rw[← hoo] at HX6
 have HOO:=hid_of hoo
 clear hoo
 obtain⟨z1,z2,z3,z4⟩:=HX6.out
 have r0:w6.cell? ⟨w.heap.size+1,0,none⟩=some (.string ⟨#[]⟩):=(cell_of_block z3 0).trans rfl
 have r1:w6.cell? ⟨w.heap.size+1,1,none⟩=some (.int .i64 0):=(cell_of_block z3 1).trans rfl
 have rf:∀ q,w6.frozen? ⟨w.heap.size+1,q,none⟩=false:=fun q=>by simp [World.frozen?,z3]
 have rl:=block_lt z3
 have y0:w6.cell? ⟨w.heap.size+2,0,none⟩=some (.string (blkS oo)):=(cell_of_block z4.2 0).trans rfl
 have y1:w6.cell? ⟨w.heap.size+2,1,none⟩=some (.int .i64 (blkN oo)):=(cell_of_block z4.2 1).trans rfl
 have y2:w6.cell? ⟨w.heap.size+3,0,none⟩=some (.bool (blkB oo)):=(cell_of_block z4.1 0).trans rfl
 have yl:=block_lt z4.2
 have yl2:=block_lt z4.1
 have HB6:=hid_of z1
 have HAN:=hid_of (blkAns_parts oo)
 clear z1 z2 z3 z4 HX6 HE
 generalize blkS oo=bs at *
 generalize blkN oo=bn at *
 generalize blkB oo=bb at *
 go_wp2_with fail
 go_region
 all_goals
  go_wp2_with fail
  refine bodyPost_ret (v:=.tuple #[.agg #[.string bs,.int .i64 bn],.bool bb]) ?_ rfl ⟨by rw [← HOO.out,HAN.out],?_⟩
  ·simp[results,Tryz.results54,go_sem,r0,r1]
  ·first | exact two_below HB6.out (Nat.le_succ _) _ _ | exact (two_below HB6.out (Nat.le_succ _) _ _).drew
end
section
open Go.RowKit Go.Joins
set_option maxHeartbeats 400000 in
theorem numberPart_any (x n:Int) (w:World):
  Calls Tryz.prog 76 #[.int .i64 x,.int .i64 n] w fun e w'=>e=.returned (.agg #[.int .i64 x,.int .i64 n,.bool false])∧Below w.heap.size w w':=by
 go_enter Tryz.func76,Tryz.ntmps76
 go_wp2_with fail
 refine bodyPost_ret (v:=.agg #[.int .i64 x,.int .i64 n,.bool false]) ?_ rfl ⟨rfl,?_⟩
 ·simp[results,Tryz.results76,go_sem]
 ·exact bstart _ _
end
section
open Go.RowKit Go.Joins OutMath PutMath
theorem info_u8:(Tryz.prog.info? 5).map (fun i=>(i.zero,i.size,i.bytes))=some (some (.int .u8 0),1,1):=by kernel_rfl
def u8s (xs:List Int):List Value:=xs.map (Value.int .u8)
theorem u8s_set (ys:List Int) (m:Nat) (z:Int):(u8s ys).set m (.int .u8 z)=u8s (ys.set m z):=by unfold u8s; rw [List.map_set]
theorem u8s_snoc (ys:List Int) (z:Int):u8s ys ++ [.int .u8 z]=u8s (ys ++ [z]):=by simp [u8s]
theorem u8s_length (ys:List Int):(u8s ys).length=ys.length:=by simp [u8s]
theorem own_u8 {e:TypeId} {w:World} {base g:Nat} {v:Value} {ys:List Int} (hO:Own e w base g v (u8s ys)) (m:Nat) (hm:m < ys.length):w.cell? ⟨g,m,none⟩=some (.int .u8 (ys.getD m 0))∧w.frozen? ⟨g,m,none⟩=false:=by
 have h':m < (u8s ys).length:=by rw [u8s_length]; exact hm
 refine⟨?_,hO.free m h'⟩
 rw[hO.cell m h']
 simp[u8s,hm]
theorem own_bstep {e:TypeId} {w:World} {base g:Nat} {v:Value} {ys:List Int} {k m:Nat} {y b:Int} (hO:Own e w base g v (u8s (pre ys k))) (hI:Inv ys k) (hm:k / 8=m) (hy:y=(pre ys k).getD m 0):
  Own e (w.setCell ⟨g,m,none⟩ (.int .u8 (y+b * p2 (k % 8)))).drew base g v (u8s (bstep ys k b)):=by
 subst hm hy
 have hl:k / 8 < (u8s (pre ys k)).length:=by rw [u8s_length,pre_len hI]; omega
 have h:=hO.set (k / 8) hl (.int .u8 ((pre ys k).getD (k / 8) 0+b * p2 (k % 8)))
 rw[u8s_set] at h
 exact h.keep rfl
end
end Go.Proofs.YtklpiihnbokkkaaGreatDoor
