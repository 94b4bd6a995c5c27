/-
  Texts of the proof, put together.
-/
import Derived.Test.YtklpiihnbokkkaaGreatDoorZk09
import Derived.Test.YtklpiihnbokkkaaGreatDoorZk10
namespace Go.Proofs.YtklpiihnbokkkaaGreatDoor
section
open Go.RowKit Go.Joins TokMath SearchMath CheapMath DeflMath
def SpecStored:Prop:=∀ (s:ByteArray) (c:Int) (t:ByteArray) (last:Bool) (w:World),s.size≤maxLen→-9223372036854775808≤c→c≤9223372036854775807→t.size≤1048576→
 Calls Tryz.prog 38 #[.agg #[.string s,.int .i64 c],.string t,.bool last] w fun e w'=>e=.returned (blkAns (storedOut s c t last))∧Below w.heap.size w w'
def SpecFixed:Prop:=∀ (s:ByteArray) (c:Int) (a:Option Addr) (cp:Nat) (L:List Tok) (last:Bool) (w:World),s.size≤maxLen→-9223372036854775808≤c→c≤9223372036854775807→TCame w a L.length (fun j=>L.getD j (0,0,0))→L.length≤1048576→
 Calls Tryz.prog 40 #[.agg #[.string s,.int .i64 c],.slice a L.length cp,.bool last] w fun e w'=>e=.returned (blkAns (fixedOut s c L last))∧Below w.heap.size w w'
theorem cheapS_run (t:ByteArray) (h:t.size≤2600):run [] (cheapL t 64)=some (pre (txt t) t.size):=way_all (txt_lt t) (by omega) (fun _ hi=>take_fine hi)
theorem cheapS_size (t:ByteArray) (h:t.size≤2600):sizeL (cheapL t 64)=t.size:=by
 have:=run_size (cheapS_run t h)
 rw[pre_length] at this
 simpa using this.symm
theorem tsl_set {w:World} {B A:Nat} {a:Option Addr} {n:Nat} {F:Nat→Tok} {v v':Value} (h:TSL w B a n F) (hA:A < B):TSL ((w.setCell ⟨A,0,none⟩ v).setCell ⟨A,1,none⟩ v') B a n F:=by
 rcases h with h | ⟨g,rfl,h⟩
 ·exact .inl h
 ·have hg:A≠g:=by have:=h.1; omega
  exact .inr ⟨g,rfl,h.keep (by simp [World.setCell,Array.getElem?_modify,hg])⟩
def dfl (s:ByteArray):Value:=.tuple #[.string s,.bool true]
set_option maxRecDepth 100000 in
set_option maxHeartbeats 1600000 in
theorem specDefl_0 (hS:SpecStored) (t:ByteArray) (w:World) (ht:t.size≤2600):Calls Tryz.prog 14 #[.string t,.int .i64 0] w fun e w'=>e=.returned (dfl (blkS (storedOut ⟨#[]⟩ 0 t true)))∧Below w.heap.size w w':=by
 obtain⟨o,e1,_,_⟩:=stored_some (s:=⟨#[]⟩) (c:=0) (t:=t) true empty_out ht (by omega)
 have e1:storedOut ⟨#[]⟩ 0 t true=some o:=e1
 have HC:Hid (∀ W:World,Calls Tryz.prog 38 #[.agg #[.string ⟨#[]⟩,.int .i64 0],.string t,.bool true] W fun e w'=>e=.returned (.tuple #[.agg #[.string o.1,.int .i64 (o.2:Int)],.bool true])∧Below W.heap.size W w'):=fun W=>by
  have:=hS ⟨#[]⟩ 0 t true W (by decide) (by omega) (by omega) (by omega)
  rw[e1] at this
  exact this
 rw[e1]
 unfold dfl
 show Calls Tryz.prog 14 _ w fun e w'=>e=.returned (.tuple #[.string o.1,.bool true])∧_
 generalize o.1=bs at HC ⊢
 generalize (o.2:Int)=bn at HC
 clear e1 hS
 have d1:decide ((t.size:Int)≤2600)=true:=decide_eq_true (by omega)
 have d1':decide (t.size≤2600)=true:=decide_eq_true ht
 go_enter Tryz.func14,Tryz.ntmps14
 go_wp2_with fail
 refine (in_yes 0 0 3 _ (by omega) (by omega)).mono ?_
 rintro e w1 ⟨rfl,rfl⟩
 go_wp2_with fail
 refine (HC.out _).mono ?_
 rintro e w2 ⟨rfl,hB2⟩
 have hz:w2.heap[w.heap.size]?=some (.cells #[.string ⟨#[]⟩,.int .i64 0] 43 (0,0)):=(hB2.block _ (by simp)).trans (heap_alloc_new w _)
 have y0:w2.cell? ⟨w.heap.size,0,none⟩=some (.string ⟨#[]⟩):=(cell_of_block hz 0).trans rfl
 have y1:w2.cell? ⟨w.heap.size,1,none⟩=some (.int .i64 0):=(cell_of_block hz 1).trans rfl
 have yf:∀ q,w2.frozen? ⟨w.heap.size,q,none⟩=false:=fun q=>by simp [World.frozen?,hz]
 have hl:=block_lt hz
 have HBE:Hid (Below w.heap.size w w2):=bnext (bstart w _) hB2
 clear hB2 hz
 go_wp2_with fail
 refine bodyPost_ret (v:=.tuple #[.string bs,.bool true]) ?_ rfl ⟨rfl,two_below HBE.out (Nat.le_refl w.heap.size) _ _⟩
 simp[results,Tryz.results14,go_sem]
set_option maxRecDepth 100000 in
set_option maxHeartbeats 1600000 in
theorem specDefl_1 (hF:SpecFixed) (hGr:WayAnswer 39 greedyL) (t:ByteArray) (w:World) (ht:t.size≤2600):Calls Tryz.prog 14 #[.string t,.int .i64 1] w fun e w'=>e=.returned (dfl (blkS (fixedOut ⟨#[]⟩ 0 (greedyL t 4) true)))∧Below w.heap.size w w':=by
 have hL:=greedyL_length t 4
 obtain⟨o,e1⟩:=fixed_some true (greedy_right t ht) (by omega)
 have HG:Hid (∀ W:World,Calls Tryz.prog 39 #[.string t,.int .i64 4] W (WayPost (greedyL t 4) W)):=fun W=>(hGr t 4 W (by omega) (by decide)).1 ⟨ht,by omega,by omega⟩
 have HC:Hid (∀ (W:World) (a:Option Addr) (cp:Nat),TCame W a (greedyL t 4).length (fun j=>(greedyL t 4).getD j (0,0,0))→Calls Tryz.prog 40 #[.agg #[.string ⟨#[]⟩,.int .i64 0],.slice a (greedyL t 4).length cp,.bool true] W fun e w'=>e=.returned (.tuple #[.agg #[.string o.1,.int .i64 (o.2:Int)],.bool true])∧Below W.heap.size W w'):=fun W a cp hC=>by
  have:=hF ⟨#[]⟩ 0 a cp (greedyL t 4) true W (by decide) (by omega) (by omega) hC (by omega)
  rw[e1] at this
  exact this
 rw[e1]
 unfold dfl
 show Calls Tryz.prog 14 _ w fun e w'=>e=.returned (.tuple #[.string o.1,.bool true])∧_
 generalize o.1=bs at HC ⊢
 generalize (o.2:Int)=bn at HC
 generalize greedyL t 4=L at HC HG hL
 clear e1 hF hGr
 have d1:decide ((t.size:Int)≤2600)=true:=decide_eq_true (by omega)
 have d1':decide (t.size≤2600)=true:=decide_eq_true ht
 go_enter Tryz.func14,Tryz.ntmps14
 go_wp2_with fail
 refine (in_yes 1 0 3 _ (by omega) (by omega)).mono ?_
 rintro e w1 ⟨rfl,rfl⟩
 go_wp2_with fail
 refine (HG.out _).mono ?_
 rintro e w1 ⟨a,cp,rfl,hT,hcp,hB1⟩
 have HT:=hid_of hT.came
 have HB1:Hid (Below w.heap.size w w1):=bnext (bstart w _) hB1
 have hz:w1.heap[w.heap.size]?=some (.cells #[.string ⟨#[]⟩,.int .i64 0] 43 (0,0)):=(hB1.block _ (by simp)).trans (heap_alloc_new w _)
 have y0:w1.cell? ⟨w.heap.size,0,none⟩=some (.string ⟨#[]⟩):=(cell_of_block hz 0).trans rfl
 have y1:w1.cell? ⟨w.heap.size,1,none⟩=some (.int .i64 0):=(cell_of_block hz 1).trans rfl
 have yf:∀ q,w1.frozen? ⟨w.heap.size,q,none⟩=false:=fun q=>by simp [World.frozen?,hz]
 have hl:=block_lt hz
 have HZ:=hid_of hz
 clear hB1 hT hz
 go_wp2_with fail
 refine (HC.out w1 a cp HT.out).mono ?_
 rintro e w2 ⟨rfl,hB2⟩
 have HBE:Hid (Below w.heap.size w w2):=bnext HB1.out hB2
 have HZ2:Hid (w2.heap[w.heap.size]?=some (.cells #[.string ⟨#[]⟩,.int .i64 0] 43 (0,0))):=(hB2.block _ hl).trans HZ.out
 clear hB2 y0 y1 yf hl
 have hz:w2.heap[w.heap.size]?=some (.cells #[.string ⟨#[]⟩,.int .i64 0] 43 (0,0)):=HZ2.out
 have y0:w2.cell? ⟨w.heap.size,0,none⟩=some (.string ⟨#[]⟩):=(cell_of_block hz 0).trans rfl
 have y1:w2.cell? ⟨w.heap.size,1,none⟩=some (.int .i64 0):=(cell_of_block hz 1).trans rfl
 have yf:∀ q,w2.frozen? ⟨w.heap.size,q,none⟩=false:=fun q=>by simp [World.frozen?,hz]
 have hl:=block_lt hz
 clear hz
 go_wp2_with fail
 refine bodyPost_ret (v:=.tuple #[.string bs,.bool true]) ?_ rfl ⟨rfl,two_below HBE.out (Nat.le_refl w.heap.size) _ _⟩
 simp[results,Tryz.results14,go_sem]
set_option maxRecDepth 100000 in
set_option maxHeartbeats 1600000 in
theorem specDefl_2 (hB:SpecBest) (hLz:WayAnswer 41 lazyL) (t:ByteArray) (w:World) (ht:t.size≤2600):Calls Tryz.prog 14 #[.string t,.int .i64 2] w fun e w'=>e=.returned (dfl (blkS (bestOut ⟨#[]⟩ 0 t (lazyL t 16) true)))∧Below w.heap.size w w':=by
 have hL:=lazyL_length t 16
 obtain⟨o,e1,_,_,_⟩:=best_some (s:=⟨#[]⟩) (c:=0) (t:=t) (lazyL t 16) true empty_out ht (by omega)
 have e1:bestOut ⟨#[]⟩ 0 t (lazyL t 16) true=some o:=e1
 have HG:Hid (∀ W:World,Calls Tryz.prog 41 #[.string t,.int .i64 16] W (WayPost (lazyL t 16) W)):=fun W=>(hLz t 16 W (by omega) (by decide)).1 ⟨ht,by omega,by omega⟩
 have HC:Hid (∀ (W:World) (a:Option Addr) (cp:Nat),TCame W a (lazyL t 16).length (fun j=>(lazyL t 16).getD j (0,0,0))→Calls Tryz.prog 42 #[.agg #[.string ⟨#[]⟩,.int .i64 0],.string t,.slice a (lazyL t 16).length cp,.bool true] W fun e w'=>e=.returned (.tuple #[.agg #[.string o.1,.int .i64 (o.2:Int)],.bool true])∧Below W.heap.size W w'):=fun W a cp hC=>by
  have:=hB ⟨#[]⟩ 0 t a cp (lazyL t 16) true W (by decide) (by omega) (by omega) (by omega) hC (by omega)
  rw[e1] at this
  exact this
 rw[e1]
 unfold dfl
 show Calls Tryz.prog 14 _ w fun e w'=>e=.returned (.tuple #[.string o.1,.bool true])∧_
 generalize o.1=bs at HC ⊢
 generalize (o.2:Int)=bn at HC
 generalize lazyL t 16=L at HC HG hL
 clear e1 hB hLz
 have d1:decide ((t.size:Int)≤2600)=true:=decide_eq_true (by omega)
 have d1':decide (t.size≤2600)=true:=decide_eq_true ht
 go_enter Tryz.func14,Tryz.ntmps14
 go_wp2_with fail
 refine (in_yes 2 0 3 _ (by omega) (by omega)).mono ?_
 rintro e w1 ⟨rfl,rfl⟩
 go_wp2_with fail
 refine (HG.out _).mono ?_
 rintro e w1 ⟨a,cp,rfl,hT,hcp,hB1⟩
 have HT:=hid_of hT.came
 have HB1:Hid (Below w.heap.size w w1):=bnext (bstart w _) hB1
 have hz:w1.heap[w.heap.size]?=some (.cells #[.string ⟨#[]⟩,.int .i64 0] 43 (0,0)):=(hB1.block _ (by simp)).trans (heap_alloc_new w _)
 have y0:w1.cell? ⟨w.heap.size,0,none⟩=some (.string ⟨#[]⟩):=(cell_of_block hz 0).trans rfl
 have y1:w1.cell? ⟨w.heap.size,1,none⟩=some (.int .i64 0):=(cell_of_block hz 1).trans rfl
 have yf:∀ q,w1.frozen? ⟨w.heap.size,q,none⟩=false:=fun q=>by simp [World.frozen?,hz]
 have hl:=block_lt hz
 have HZ:=hid_of hz
 clear hB1 hT hz
 go_wp2_with fail
 refine (HC.out w1 a cp HT.out).mono ?_
 rintro e w2 ⟨rfl,hB2⟩
 have HBE:Hid (Below w.heap.size w w2):=bnext HB1.out hB2
 have HZ2:Hid (w2.heap[w.heap.size]?=some (.cells #[.string ⟨#[]⟩,.int .i64 0] 43 (0,0))):=(hB2.block _ hl).trans HZ.out
 clear hB2 y0 y1 yf hl
 have hz:w2.heap[w.heap.size]?=some (.cells #[.string ⟨#[]⟩,.int .i64 0] 43 (0,0)):=HZ2.out
 have y0:w2.cell? ⟨w.heap.size,0,none⟩=some (.string ⟨#[]⟩):=(cell_of_block hz 0).trans rfl
 have y1:w2.cell? ⟨w.heap.size,1,none⟩=some (.int .i64 0):=(cell_of_block hz 1).trans rfl
 have yf:∀ q,w2.frozen? ⟨w.heap.size,q,none⟩=false:=fun q=>by simp [World.frozen?,hz]
 have hl:=block_lt hz
 clear hz
 go_wp2_with fail
 refine bodyPost_ret (v:=.tuple #[.string bs,.bool true]) ?_ rfl ⟨rfl,two_below HBE.out (Nat.le_refl w.heap.size) _ _⟩
 simp[results,Tryz.results14,go_sem]
set_option maxRecDepth 100000 in
set_option maxHeartbeats 3200000 in
theorem specDefl_3w (t:ByteArray) (L:List Tok) (w:World) (ht:t.size≤2600) (bs ps:ByteArray) (bn pn:Int) (HG:Hid (∀ W:World,Calls Tryz.prog 43 #[.string t,.int .i64 64] W (WayPost L W)))
  (HC:Hid (∀ (W:World) (a:Option Addr) (cp:Nat),TCame W a L.length (fun j=>L.getD j (0,0,0))→Calls Tryz.prog 42 #[.agg #[.string ⟨#[]⟩,.int .i64 0],.string t,.slice a L.length cp,.bool true] W fun e w'=>e=.returned (.tuple #[.agg #[.string bs,.int .i64 bn],.bool true])∧Below W.heap.size W w'))
  (HP:Hid (∀ (W:World) (a:Option Addr) (cp:Nat),TCame W a L.length (fun j=>L.getD j (0,0,0))→L.length≤cp→Calls Tryz.prog 44 #[.string t,.slice a L.length cp] W fun e w'=>e=.returned (.tuple #[.agg #[.string ps,.int .i64 pn],.bool (decide (0 < L.length))])∧Below W.heap.size W w')):
  Calls Tryz.prog 14 #[.string t,.int .i64 3] w fun e w'=>e=.returned (dfl (if 0 < L.length∧ps.size < bs.size then ps else bs))∧Below w.heap.size w w':=by
 have d1:decide ((t.size:Int)≤2600)=true:=decide_eq_true (by omega)
 have d1':decide (t.size≤2600)=true:=decide_eq_true ht
 unfold dfl
 obtain⟨rb,hrb⟩:∃ rb,rb=decide (0 < L.length):=⟨_,rfl⟩
 rw[← hrb] at HP
 have hcase:(rb=false∧(if 0 < L.length∧ps.size < bs.size then ps else bs)=bs∧(True∨ps.size < bs.size))∨(rb=true∧(decide ((ps.size:Int) < (bs.size:Int))=true∧ps.size < bs.size)∧(if 0 < L.length∧ps.size < bs.size then ps else bs)=ps)∨(rb=true∧(decide ((ps.size:Int) < (bs.size:Int))=false∧¬ ps.size < bs.size)∧(if 0 < L.length∧ps.size < bs.size then ps else bs)=bs):=by
  by_cases h0:0 < L.length
  ·rw[decide_eq_true h0] at hrb
   by_cases h1:ps.size < bs.size
   ·exact .inr (.inl ⟨hrb,⟨decide_eq_true (by omega),h1⟩,if_pos ⟨h0,h1⟩⟩)
   ·exact .inr (.inr ⟨hrb,⟨decide_eq_false (by omega),h1⟩,if_neg (fun h=>h1 h.2)⟩)
  ·rw[decide_eq_false h0] at hrb
   exact .inl ⟨hrb,if_neg (fun h=>h0 h.1),.inl trivial⟩
 clear hrb
 rcases hcase with ⟨rfl,hv,d3⟩ | ⟨rfl,⟨d3,d4⟩,hv⟩ | ⟨rfl,⟨d3,d4⟩,hv⟩
 all_goals
  rw[hv]
  clear hv
  go_enter Tryz.func14,Tryz.ntmps14
  go_wp2_with fail
  refine (in_yes 3 0 3 _ (by omega) (by omega)).mono ?_
  rintro e w1 ⟨rfl,rfl⟩
  go_wp2_with fail
  refine (HG.out _).mono ?_
  rintro e w1 ⟨a,cp,rfl,hT,hcp,hB1⟩
  have HT:=hid_of hT
  have HB1:Hid (Below w.heap.size w w1):=bnext (bstart w _) hB1
  have hz:w1.heap[w.heap.size]?=some (.cells #[.string ⟨#[]⟩,.int .i64 0] 43 (0,0)):=(hB1.block _ (by simp)).trans (heap_alloc_new w _)
  have y0:w1.cell? ⟨w.heap.size,0,none⟩=some (.string ⟨#[]⟩):=(cell_of_block hz 0).trans rfl
  have y1:w1.cell? ⟨w.heap.size,1,none⟩=some (.int .i64 0):=(cell_of_block hz 1).trans rfl
  have hl:=block_lt hz
  have HZ:=hid_of hz
  clear hB1 hT hz
  go_wp2_with fail
  refine (HC.out w1 a cp HT.out.came).mono ?_
  rintro e w2 ⟨rfl,hB2⟩
  have HB2:Hid (Below w.heap.size w w2):=bnext HB1.out hB2
  have HT2:=hid_of (HT.out.called hB2)
  have hz:w2.heap[w.heap.size]?=some (.cells #[.string ⟨#[]⟩,.int .i64 0] 43 (0,0)):=(hB2.block _ hl).trans HZ.out
  clear hB2 y0 y1 hl HT HZ HB1
  have y0:w2.cell? ⟨w.heap.size,0,none⟩=some (.string ⟨#[]⟩):=(cell_of_block hz 0).trans rfl
  have y1:w2.cell? ⟨w.heap.size,1,none⟩=some (.int .i64 0):=(cell_of_block hz 1).trans rfl
  have yf:∀ q,w2.frozen? ⟨w.heap.size,q,none⟩=false:=fun q=>by simp [World.frozen?,hz]
  have hl:=block_lt hz
  have HZ3:=hid_of (two_set hz (.string bs) (.int .i64 bn))
  have HB3:=hid_of (two_below HB2.out (Nat.le_refl w.heap.size) (.string bs) (.int .i64 bn))
  have HT3:=hid_of (tsl_set (A:=w.heap.size) (v:=.string bs) (v':=.int .i64 bn) HT2.out (by simp))
  clear hz
  go_wp2_with fail
  generalize (w2.setCell ⟨w.heap.size,0,none⟩ (.string bs)).setCell ⟨w.heap.size,1,none⟩ (.int .i64 bn)=w3 at HZ3 HB3 HT3 ⊢
  clear y0 y1 yf hl HT2 HB2
  refine (HP.out w3 a cp HT3.out.came hcp).mono ?_
  rintro e w4 ⟨rfl,hB4⟩
  have hz:w4.heap[w.heap.size]?=some (.cells #[.string bs,.int .i64 bn] 43 (0,0)):=(hB4.block _ (block_lt HZ3.out)).trans HZ3.out
  have HB4:Hid (Below w.heap.size w w4):=bnext HB3.out hB4
  have y0:w4.cell? ⟨w.heap.size,0,none⟩=some (.string bs):=(cell_of_block hz 0).trans rfl
  have y1:w4.cell? ⟨w.heap.size,1,none⟩=some (.int .i64 bn):=(cell_of_block hz 1).trans rfl
  have yf:∀ q,w4.frozen? ⟨w.heap.size,q,none⟩=false:=fun q=>by simp [World.frozen?,hz]
  have hl:=block_lt hz
  clear hz hB4
  go_wp2_with fail
  first
   | refine bodyPost_ret (v:=.tuple #[.string bs,.bool true]) ?_ rfl ⟨rfl,bal HB4.out _⟩
   | refine bodyPost_ret (v:=.tuple #[.string ps,.bool true]) ?_ rfl ⟨rfl,bal (two_below HB4.out (Nat.le_refl w.heap.size) _ _) _⟩
  simp[results,Tryz.results14,go_sem]
theorem dfl_3 (t:ByteArray) (L:List Tok):(if 0 < L.length∧(blkS (partsSt t L (partsN L))).size < (blkS (bestOut ⟨#[]⟩ 0 t L true)).size then blkS (partsSt t L (partsN L)) else blkS (bestOut ⟨#[]⟩ 0 t L true))=packC t L:=by
 unfold packC shorter
 cases L with
 | nil=>
  rw[if_neg (fun h=>by cases h.1),if_pos rfl]
  split <;> rfl
 | cons u R=>
  rw[if_neg (show ¬ u :: R=[] by simp)]
  have h0:0 < (u :: R).length:=by simp
  by_cases h:(blkS (partsSt t (u :: R) (partsN (u :: R)))).size < (blkS (bestOut ⟨#[]⟩ 0 t (u :: R) true)).size
  ·rw[if_pos ⟨h0,h⟩,if_pos h]
  ·rw[if_neg (fun q=>h q.2),if_neg h]
theorem specDefl_3 (hB:SpecBest) (hCh:WayAnswer 43 cheapL) (t:ByteArray) (w:World) (ht:t.size≤2600):Calls Tryz.prog 14 #[.string t,.int .i64 3] w fun e w'=>e=.returned (dfl (packC t (cheapL t 64)))∧Below w.heap.size w w':=by
 have hL:=cheapL_length t 64
 have hsz:=cheapS_size t ht
 have hR:∀ u∈cheapL t 64,TokRight u:=run_right (cheapS_run t ht)
 have HG:Hid (∀ W:World,Calls Tryz.prog 43 #[.string t,.int .i64 64] W (WayPost (cheapL t 64) W)):=fun W=>(hCh t 64 W (by omega) (by decide)).1 ⟨ht,by omega,by omega⟩
 generalize cheapL t 64=L at hL hsz hR HG ⊢
 obtain⟨o,e1,_,_,_⟩:=best_some (s:=⟨#[]⟩) (c:=0) (t:=t) L true empty_out ht (by omega)
 have e1:bestOut ⟨#[]⟩ 0 t L true=some o:=e1
 rw[← dfl_3]
 refine specDefl_3w t L w ht _ _ (blkN (bestOut ⟨#[]⟩ 0 t L true)) (blkN (partsSt t L (partsN L))) HG (fun W a cp hC=>?_) (fun W a cp hC hcp=>specParts_any hB t a cp L W hC hsz ht hL hcp hR)
 have:=hB ⟨#[]⟩ 0 t a cp L true W (by decide) (by omega) (by omega) (by omega) hC (by omega)
 rw[e1] at this ⊢
 exact this
set_option maxRecDepth 100000 in
set_option maxHeartbeats 1600000 in
theorem specDeflate (hS:SpecStored) (hF:SpecFixed) (hB:SpecBest) (hGr:WayAnswer 39 greedyL) (hLz:WayAnswer 41 lazyL) (hCh:WayAnswer 43 cheapL) (t:ByteArray) (lv:Int) (w:World) (ht:t.size≤1048576):Calls Tryz.prog 14 #[.string t,.int .i64 lv] w fun e w'=>e=.returned (deflAns t lv)∧Below w.heap.size w w':=by
 unfold deflAns
 by_cases hr:DeflRight t lv
 ·rw[if_pos hr]
  obtain⟨h1,h2,h3⟩:=hr
  obtain rfl | rfl | rfl | rfl:lv=0∨lv=1∨lv=2∨lv=3:=by omega
  ·exact specDefl_0 hS t w h1
  ·exact specDefl_1 hF hGr t w h1
  ·exact specDefl_2 hB hLz t w h1
  ·exact specDefl_3 hB hCh t w h1
 ·rw[if_neg hr]
  clear hS hF hB hGr hLz hCh
  by_cases h1:t.size≤2600
  ·have d1:decide ((t.size:Int)≤2600)=true:=decide_eq_true (by omega)
   have d1':decide (t.size≤2600)=true:=decide_eq_true h1
   have HI:=hid_of fun W=>in_no lv 0 3 W (fun h=>hr ⟨h1,h⟩)
   go_enter Tryz.func14,Tryz.ntmps14
   go_wp2_with fail
   refine (HI.out _).mono ?_
   rintro e w1 ⟨rfl,rfl⟩
   go_wp2_with fail
   refine bodyPost_ret (v:=.tuple #[.string ⟨#[]⟩,.bool false]) ?_ rfl ⟨rfl,bstart w _⟩
   simp[results,Tryz.results14,go_sem]
  ·have d1:decide ((t.size:Int)≤2600)=false:=decide_eq_false (by omega)
   have d1':decide (t.size≤2600)=false:=decide_eq_false h1
   go_enter Tryz.func14,Tryz.ntmps14
   go_wp2_with fail
   refine bodyPost_ret (v:=.tuple #[.string ⟨#[]⟩,.bool false]) ?_ rfl ⟨rfl,bstart w _⟩
   simp[results,Tryz.results14,go_sem]
end
section
open Go.RowKit TokMath WovenMath
def WovenAnswer:Prop:=∀ (s:ByteArray) (c:Int) (a:Option Addr) (cp:Nat) (L:List Tok) (last:Bool) (w:World),s.size≤1048576→-9223372036854775808≤c→c≤9223372036854775807→TCame w a L.length (fun j=>L.getD j (0,0,0))→L.length≤1048576→OrderG w→
 Calls Tryz.prog 88 #[.agg #[.string s,.int .i64 c],.slice a L.length cp,.bool last] w fun e w'=>e=.returned (blkAns (wovenOut s c L last))∧Below w.heap.size w w'
end
section
open Go.RowKit Go.Joins OutMath TokMath WovenMath
def Bst (w:World) (q p:Nat) (o:Option (ByteArray×Nat)):Prop:=w.heap[q]?=some (.cells #[.bool (blkB o)] 4 (0,0))∧w.heap[p]?=some (.cells #[.string (blkS o),.int .i64 (blkN o)] 43 (0,0))
theorem Bst.called {w w':World} {q p:Nat} {o:Option (ByteArray×Nat)} (h:Bst w q p o) (hb:Below w.heap.size w w'):Bst w' q p o:=⟨(hb.block _ (block_lt h.1)).trans h.1,(hb.block _ (block_lt h.2)).trans h.2⟩
def But2 (w w':World) (q p:Nat):Prop:=w'.os=w.os∧w'.tape=w.tape∧w'.output=w.output∧w.heap.size≤w'.heap.size∧∀ g,g < w.heap.size→g≠q→g≠p→w'.heap[g]?=w.heap[g]?
theorem But2.below {w w':World} {q p B:Nat} (h:But2 w w' q p) (hq:B≤q) (hp:B≤p) (hB:B≤w.heap.size):Below B w w':=⟨h.1,h.2.1,h.2.2.1,h.2.2.2.1,fun k hk=>h.2.2.2.2 k (by omega) (by omega) (by omega)⟩
section
variable (q p:Nat) (o n:Option (ByteArray×Nat)) (w:World)
set_option maxRecDepth 100000 in
set_option maxHeartbeats 1600000 in
theorem offerBlk_any (h:Bst w q p o) (hqp:q≠p):
  Calls Tryz.prog 87 #[.agg #[.string (blkS n),.int .i64 (blkN n)],.bool (blkB n),.pointer (some ⟨q,0,none⟩),.pointer (some ⟨p,0,none⟩)] w fun e w'=>e=.returned (.tuple #[])∧Bst w' q p (better o n)∧But2 w w' q p:=by
 have HB0:Hid (∀ ob,But2 w (w.alloc ob) q p):=fun ob=>⟨rfl,rfl,rfl,by simp,fun g hg _ _=>(bstart w ob).block g hg⟩
 have HS0:Hid (∀ ob,Bst (w.alloc ob) q p o):=fun ob=>h.called (bstart w ob)
 have hql:=block_lt h.1
 have hpl:=block_lt h.2
 have q0:w.cell? ⟨q,0,none⟩=some (.bool (blkB o)):=(cell_of_block h.1 0).trans rfl
 have p0:w.cell? ⟨p,0,none⟩=some (.string (blkS o)):=(cell_of_block h.2 0).trans rfl
 have p1:w.cell? ⟨p,1,none⟩=some (.int .i64 (blkN o)):=(cell_of_block h.2 1).trans rfl
 have qf:∀ j,w.frozen? ⟨q,j,none⟩=false:=fun j=>by simp [World.frozen?,h.1]
 have pf:∀ j,w.frozen? ⟨p,j,none⟩=false:=fun j=>by simp [World.frozen?,h.2]
 have HST:Hid (∀ (X:World) (bs:ByteArray) (bn:Nat),Bst X q p o→But2 w X q p→Bst (((X.setCell ⟨p,0,none⟩ (.string bs)).setCell ⟨p,1,none⟩ (.int .i64 (bn:Int))).setCell ⟨q,0,none⟩ (.bool true)) q p (some (bs,bn))∧But2 w (((X.setCell ⟨p,0,none⟩ (.string bs)).setCell ⟨p,1,none⟩ (.int .i64 (bn:Int))).setCell ⟨q,0,none⟩ (.bool true)) q p):=by
  intro X bs bn hX hb
  refine⟨⟨?_,?_⟩,⟨hb.1,hb.2.1,hb.2.2.1,by have:=hb.2.2.2.1; simp; omega,fun g hg h1 h2=>?_⟩⟩
  ·have hx:((X.setCell ⟨p,0,none⟩ (.string bs)).setCell ⟨p,1,none⟩ (.int .i64 (bn:Int))).heap[q]?=some (.cells #[.bool (blkB o)] 4 (0,0)):=(Below.heap_setCell _ _ _ _ hqp).trans ((Below.heap_setCell _ _ _ _ hqp).trans hX.1)
   have:=block_setCell (i:=0) hx (.bool true)
   show _=some (Obj.cells #[.bool true] 4 (0,0))
   simpa using this
  ·exact (Below.heap_setCell _ _ _ _ (Ne.symm hqp)).trans (two_set hX.2 _ _)
  ·exact (Below.heap_setCell _ _ _ _ h1).trans ((Below.heap_setCell _ _ _ _ h2).trans ((Below.heap_setCell _ _ _ _ h2).trans (hb.2.2.2.2 g hg h1 h2)))
 have HOLD:=hid_of h
 clear h
 cases n with
 | none=>
  have HE:Hid (better o none=o):=by cases o <;> rfl
  simp only [blkB,blkS,blkN]
  clear HST HOLD
  go_enter Tryz.func87,Tryz.ntmps87
  go_wp2_with fail
  go_end0
  exact⟨rfl,by rw [HE.out]; exact HS0.out _,HB0.out _⟩
 | some y=>
  obtain⟨ys,yn⟩:=y
  have HFIN:Hid (∀ ob,Bst ((((w.setCell ⟨p,0,none⟩ (.string ys)).setCell ⟨p,1,none⟩ (.int .i64 (yn:Int))).setCell ⟨q,0,none⟩ (.bool true)).alloc ob) q p (some (ys,yn))∧But2 w ((((w.setCell ⟨p,0,none⟩ (.string ys)).setCell ⟨p,1,none⟩ (.int .i64 (yn:Int))).setCell ⟨q,0,none⟩ (.bool true)).alloc ob) q p):=by
   intro ob
   have h1:=HST.out w ys yn HOLD.out ⟨rfl,rfl,rfl,Nat.le_refl _,fun _ _ _ _=>rfl⟩
   generalize ((w.setCell ⟨p,0,none⟩ (.string ys)).setCell ⟨p,1,none⟩ (.int .i64 (yn:Int))).setCell ⟨q,0,none⟩ (.bool true)=Z at h1 ⊢
   refine⟨h1.1.called (bstart _ _),h1.2.1,h1.2.2.1,h1.2.2.2.1,Nat.le_trans h1.2.2.2.2.1 (by simp),fun g hg e1 e2=>((bstart Z ob).block g (Nat.lt_of_lt_of_le hg h1.2.2.2.2.1)).trans (h1.2.2.2.2.2 g hg e1 e2)⟩
  clear HST HOLD
  cases o with
  | none=>
   have HE:Hid (better none (some (ys,yn))=some (ys,yn)):=rfl
   simp only [blkB,blkS,blkN] at q0 p0 p1 ⊢
   clear HS0 HB0
   go_enter Tryz.func87,Tryz.ntmps87
   go_wp2_with fail
   go_end0
   exact⟨rfl,by rw [HE.out]; exact (HFIN.out _).1,(HFIN.out _).2⟩
  | some x=>
   obtain⟨xs,xn⟩:=x
   simp only [blkB,blkS,blkN] at q0 p0 p1 ⊢
   by_cases hlt:yn < xn
   ·have HE:Hid (better (some (xs,xn)) (some (ys,yn))=some (ys,yn)):=if_pos hlt
    have dl:decide ((yn:Int) < (xn:Int))=true:=decide_eq_true (by omega)
    have dl2:decide (yn < xn)=true:=decide_eq_true hlt
    clear HS0 HB0
    go_enter Tryz.func87,Tryz.ntmps87
    go_wp2_with fail
    go_end0
    exact⟨rfl,by rw [HE.out]; exact (HFIN.out _).1,(HFIN.out _).2⟩
   ·have HE:Hid (better (some (xs,xn)) (some (ys,yn))=some (xs,xn)):=if_neg hlt
    have dl:decide ((yn:Int) < (xn:Int))=false:=decide_eq_false (by omega)
    have dl2:decide (yn < xn)=false:=decide_eq_false hlt
    clear HFIN
    go_enter Tryz.func87,Tryz.ntmps87
    go_wp2_with fail
    go_end0
    exact⟨rfl,by rw [HE.out]; exact HS0.out _,HB0.out _⟩
end
def BbX (w X:World) (s:ByteArray) (c:Int) (o:Option (ByteArray×Nat)):Prop:=Below w.heap.size w X∧X.heap[w.heap.size]?=some (.cells #[.string s,.int .i64 c] 43 (0,0))∧X.heap[w.heap.size+1]?=some (.cells #[.string ⟨#[]⟩,.int .i64 0] 43 (0,0))∧Bst X (w.heap.size+3) (w.heap.size+2) o
theorem BbX.called {w X Y:World} {s:ByteArray} {c:Int} {o:Option (ByteArray×Nat)} (h:BbX w X s c o) (hb:Below X.heap.size X Y):BbX w Y s c o:=
 ⟨bnext h.1 hb,(hb.block _ (block_lt h.2.1)).trans h.2.1,(hb.block _ (block_lt h.2.2.1)).trans h.2.2.1,h.2.2.2.called hb⟩
theorem BbX.offered {w X Y:World} {s:ByteArray} {c:Int} {o o':Option (ByteArray×Nat)} (h:BbX w X s c o) (hB:Bst Y (w.heap.size+3) (w.heap.size+2) o') (hb:But2 X Y (w.heap.size+3) (w.heap.size+2)):BbX w Y s c o':=
 ⟨h.1.trans (hb.below (by omega) (by omega) h.1.size),(hb.2.2.2.2 _ (block_lt h.2.1) (by omega) (by omega)).trans h.2.1,(hb.2.2.2.2 _ (block_lt h.2.2.1) (by omega) (by omega)).trans h.2.2.1,hB⟩
theorem four_blocks (w:World) (A B C D:Obj):((((w.alloc A).alloc B).alloc C).alloc D).heap[w.heap.size]?=some A∧((((w.alloc A).alloc B).alloc C).alloc D).heap[w.heap.size+1]?=some B∧((((w.alloc A).alloc B).alloc C).alloc D).heap[w.heap.size+2]?=some C∧((((w.alloc A).alloc B).alloc C).alloc D).heap[w.heap.size+3]?=some D:=by
 have s1:(w.alloc A).heap.size=w.heap.size+1:=by simp
 have s2:((w.alloc A).alloc B).heap.size=w.heap.size+2:=by simp
 have s3:(((w.alloc A).alloc B).alloc C).heap.size=w.heap.size+3:=by simp
 refine⟨?_,?_,?_,?_⟩
 ·rw[(bstart _ D).block _ (by omega),(bstart _ C).block _ (by omega),(bstart _ B).block _ (by omega)]
  exact heap_alloc_new w A
 ·rw[(bstart _ D).block _ (by omega),(bstart _ C).block _ (by omega),← s1]
  exact heap_alloc_new (w.alloc A) B
 ·rw[(bstart _ D).block _ (by omega),← s2]
  exact heap_alloc_new ((w.alloc A).alloc B) C
 ·rw[← s3]
  exact heap_alloc_new (((w.alloc A).alloc B).alloc C) D
set_option maxRecDepth 100000 in
set_option maxHeartbeats 3200000 in
theorem bestBlk_answer (hS:StoredAnswer) (hF:FixedAnswer) (hWv:WovenAnswer):BestBlockAnswer:=by
 intro s c t a cp L last w hs hc1 hc2 ht hC hL hG
 have HX:Hid (BbX w ((((w.alloc (.cells #[.string s,.int .i64 c] 43)).alloc (.cells #[.string ⟨#[]⟩,.int .i64 0] 43)).alloc (.cells #[.string ⟨#[]⟩,.int .i64 0] 43)).alloc (.cells #[.bool false] 4)) s c none):=by
  obtain⟨q1,q2,q3,q4⟩:=four_blocks w (.cells #[.string s,.int .i64 c] 43) (.cells #[.string ⟨#[]⟩,.int .i64 0] 43) (.cells #[.string ⟨#[]⟩,.int .i64 0] 43) (.cells #[.bool false] 4)
  exact⟨bal (bal (bal (bstart _ _) _) _) _,q1,q2,q4,q3⟩
 have HC:=hid_of hC
 have HG:=hid_of hG
 have HS:Hid (∀ W:World,Calls Tryz.prog 50 #[.agg #[.string s,.int .i64 c],.string t,.bool last] W fun e w'=>e=.returned (.tuple #[.agg #[.string (blkS (storedOut s c t last)),.int .i64 (blkN (storedOut s c t last))],.bool (blkB (storedOut s c t last))])∧Below W.heap.size W w'):=fun W=>by
  rw[← blkAns_parts]
  exact hS s c t last W hs hc1 hc2 ht
 have HF:Hid (∀ W:World,TCame W a L.length (fun j=>L.getD j (0,0,0))→Calls Tryz.prog 52 #[.agg #[.string s,.int .i64 c],.slice a L.length cp,.bool last] W fun e w'=>e=.returned (.tuple #[.agg #[.string (blkS (fixedOut s c L last)),.int .i64 (blkN (fixedOut s c L last))],.bool (blkB (fixedOut s c L last))])∧Below W.heap.size W w'):=fun W hC=>by
  rw[← blkAns_parts]
  exact hF s c a cp L last W hs hc1 hc2 hC hL
 have HW:Hid (∀ W:World,TCame W a L.length (fun j=>L.getD j (0,0,0))→OrderG W→Calls Tryz.prog 88 #[.agg #[.string s,.int .i64 c],.slice a L.length cp,.bool last] W fun e w'=>e=.returned (.tuple #[.agg #[.string (blkS (wovenOut s c L last)),.int .i64 (blkN (wovenOut s c L last))],.bool (blkB (wovenOut s c L last))])∧Below W.heap.size W w'):=fun W hC hG=>by
  rw[← blkAns_parts]
  exact hWv s c a cp L last W hs hc1 hc2 hC hL hG
 have HOFF:Hid (∀ (o n:Option (ByteArray×Nat)) (W:World),Bst W (w.heap.size+3) (w.heap.size+2) o→Calls Tryz.prog 87 #[.agg #[.string (blkS n),.int .i64 (blkN n)],.bool (blkB n),.pointer (some ⟨w.heap.size+3,0,none⟩),.pointer (some ⟨w.heap.size+2,0,none⟩)] W fun e w'=>e=.returned (.tuple #[])∧Bst w' (w.heap.size+3) (w.heap.size+2) (better o n)∧But2 W w' (w.heap.size+3) (w.heap.size+2)):=fun o n W h=>offerBlk_any _ _ o n W h (by omega)
 have HE:Hid (bestOut s c t L last=better (better (better none (storedOut s c t last)) (fixedOut s c L last)) (wovenOut s c L last)):=rfl
 clear hS hF hWv hC hG
 generalize storedOut s c t last=o1 at *
 generalize fixedOut s c L last=o2 at *
 generalize wovenOut s c L last=o3 at *
 have hmf:∀ (fn:Fn) (first cap:Array Value) (w:World),(Instr.makeFunc fn first cap).run Tryz.prog w=.ok (.func fn first cap) w:=fun _ _ _ _=>rfl
 go_enter Tryz.func54,Tryz.ntmps54
 go_wp2_with fail
 generalize (((w.alloc _).alloc _).alloc _).alloc _=X at HX ⊢
 obtain⟨x0,x1,xl⟩:X.cell? ⟨w.heap.size,0,none⟩=some (.string s)∧X.cell? ⟨w.heap.size,1,none⟩=some (.int .i64 c)∧w.heap.size < X.heap.size:=⟨(cell_of_block HX.out.2.1 0).trans rfl,(cell_of_block HX.out.2.1 1).trans rfl,block_lt HX.out.2.1⟩
 go_wp2_with fail
 refine (HS.out X).mono ?_
 rintro e w1 ⟨rfl,b1⟩
 have HX1:=hid_of (HX.out.called b1)
 clear b1 HX x0 x1 xl HS
 go_wp2_with fail
 refine (HOFF.out none o1 w1 HX1.out.2.2.2).mono ?_
 rintro e w2 ⟨rfl,hB2,hb2⟩
 have HX2:=hid_of (HX1.out.offered hB2 hb2)
 clear hB2 hb2 HX1
 obtain⟨x0,x1,xl⟩:w2.cell? ⟨w.heap.size,0,none⟩=some (.string s)∧w2.cell? ⟨w.heap.size,1,none⟩=some (.int .i64 c)∧w.heap.size < w2.heap.size:=⟨(cell_of_block HX2.out.2.1 0).trans rfl,(cell_of_block HX2.out.2.1 1).trans rfl,block_lt HX2.out.2.1⟩
 go_wp2_with fail
 refine (HF.out w2 (HC.out.called HX2.out.1)).mono ?_
 rintro e w3 ⟨rfl,b3⟩
 have HX3:=hid_of (HX2.out.called b3)
 clear b3 HX2 x0 x1 xl HF
 go_wp2_with fail
 refine (HOFF.out _ o2 w3 HX3.out.2.2.2).mono ?_
 rintro e w4 ⟨rfl,hB4,hb4⟩
 have HX4:=hid_of (HX3.out.offered hB4 hb4)
 clear hB4 hb4 HX3
 obtain⟨x0,x1,xl⟩:w4.cell? ⟨w.heap.size,0,none⟩=some (.string s)∧w4.cell? ⟨w.heap.size,1,none⟩=some (.int .i64 c)∧w.heap.size < w4.heap.size:=⟨(cell_of_block HX4.out.2.1 0).trans rfl,(cell_of_block HX4.out.2.1 1).trans rfl,block_lt HX4.out.2.1⟩
 go_wp2_with fail
 refine (HW.out w4 (HC.out.called HX4.out.1) (HG.out.below HX4.out.1 HG.out.1)).mono ?_
 rintro e w5 ⟨rfl,b5⟩
 have HX5:=hid_of (HX4.out.called b5)
 clear b5 HX4 x0 x1 xl HW HC HG
 go_wp2_with fail
 refine (HOFF.out _ o3 w5 HX5.out.2.2.2).mono ?_
 rintro e w6 ⟨rfl,hB6,hb6⟩
 have HX6:=hid_of (HX5.out.offered hB6 hb6)
 clear hB6 hb6 HX5 HOFF
 rw[← HE.out] at HX6
 obtain⟨oo,hoo⟩:∃ oo,oo=bestOut s c t L last:=⟨_,rfl⟩
 rw[← hoo] at HX6
 have HOO:=hid_of hoo
 clear hoo
 obtain⟨z1,z2,z3,z4⟩:=HX6.out
 have r0:w6.cell? ⟨w.heap.size+1,0,none⟩=some (.string ⟨#[]⟩):=(cell_of_block z3 0).trans rfl
 have r1:w6.cell? ⟨w.heap.size+1,1,none⟩=some (.int .i64 0):=(cell_of_block z3 1).trans rfl
 have rf:∀ q,w6.frozen? ⟨w.heap.size+1,q,none⟩=false:=fun q=>by simp [World.frozen?,z3]
 have rl:=block_lt z3
 have y0:w6.cell? ⟨w.heap.size+2,0,none⟩=some (.string (blkS oo)):=(cell_of_block z4.2 0).trans rfl
 have y1:w6.cell? ⟨w.heap.size+2,1,none⟩=some (.int .i64 (blkN oo)):=(cell_of_block z4.2 1).trans rfl
 have y2:w6.cell? ⟨w.heap.size+3,0,none⟩=some (.bool (blkB oo)):=(cell_of_block z4.1 0).trans rfl
 have yl:=block_lt z4.2
 have yl2:=block_lt z4.1
 have HB6:=hid_of z1
 have HAN:=hid_of (blkAns_parts oo)
 clear z1 z2 z3 z4 HX6 HE
 generalize blkS oo=bs at *
 generalize blkN oo=bn at *
 generalize blkB oo=bb at *
 go_wp2_with fail
 go_region
 all_goals
  go_wp2_with fail
  refine bodyPost_ret (v:=.tuple #[.agg #[.string bs,.int .i64 bn],.bool bb]) ?_ rfl ⟨by rw [← HOO.out,HAN.out],?_⟩
  ·simp[results,Tryz.results54,go_sem,r0,r1]
  ·first | exact two_below HB6.out (Nat.le_succ _) _ _ | exact (two_below HB6.out (Nat.le_succ _) _ _).drew
end
section
open Go.RowKit Go.Joins PartMath
def pcells:List Part→List Value
 | []=>[]
 | c :: l=>.int .i64 c.1 :: .int .i64 (c.2.1:Int) :: .bool c.2.2 :: pcells l
theorem pcells_length:∀ l:List Part,(pcells l).length=l.length * 3
 | []=>rfl
 | c :: l=>by
  show (pcells l).length+1+1+1=(l.length+1) * 3
  rw[pcells_length l]
  omega
theorem pcells_app:∀ xs ys:List Part,pcells (xs ++ ys)=pcells xs ++ pcells ys
 | [],ys=>rfl
 | c :: l,ys=>by
  show Value.int .i64 c.1 :: .int .i64 (c.2.1:Int) :: .bool c.2.2 :: pcells (l ++ ys)=Value.int .i64 c.1 :: .int .i64 (c.2.1:Int) :: .bool c.2.2 :: (pcells l ++ pcells ys)
  rw[pcells_app l ys]
theorem pcells_get:∀ (l:List Part) (i:Nat),i < l.length→(pcells l)[i * 3]?=some (.int .i64 (l.getD i (0,0,false)).1)∧(pcells l)[i * 3+1]?=some (.int .i64 ((l.getD i (0,0,false)).2.1:Int))∧(pcells l)[i * 3+2]?=some (.bool (l.getD i (0,0,false)).2.2)
 | [],i,h=>by simp at h
 | c :: l,0,_=>⟨rfl,rfl,rfl⟩
 | c :: l,i+1,h=>by
  have q:=pcells_get l i (by simpa using h)
  rw[show (i+1) * 3=i * 3+1+1+1 by omega]
  exact q
theorem pcells_one:∀ (l:List Part),∀ u∈pcells l,u.oneCell'=true
 | [],u,h=>by cases h
 | c :: l,u,h=>by
  rcases List.mem_cons.mp h with rfl | h
  ·rfl
  ·rcases List.mem_cons.mp h with rfl | h
   ·rfl
   ·rcases List.mem_cons.mp h with rfl | h
    ·rfl
    ·exact pcells_one l u h
def PCame (w:World) (a:Option Addr) (L:List Part):Prop:=
 L.length=0∨∃ g off,a=some ⟨g,off,none⟩∧g < w.heap.size∧∀ j,j < L.length→w.cell? ⟨g,off+j * 3,none⟩=some (.int .i64 (L.getD j (0,0,false)).1)∧w.cell? ⟨g,off+j * 3+1,none⟩=some (.int .i64 ((L.getD j (0,0,false)).2.1:Int))∧w.cell? ⟨g,off+j * 3+2,none⟩=some (.bool (L.getD j (0,0,false)).2.2)
theorem PCame.called {w w':World} {a:Option Addr} {L:List Part} (h:PCame w a L) (hb:Below w.heap.size w w'):PCame w' a L:=by
 rcases h with h | ⟨g,off,ha,hg,hc⟩
 ·exact .inl h
 ·exact .inr ⟨g,off,ha,Nat.lt_of_lt_of_le hg hb.size,fun j hj=>⟨(hb.cell (p:=⟨g,off+j * 3,none⟩) hg).trans (hc j hj).1,(hb.cell (p:=⟨g,off+j * 3+1,none⟩) hg).trans (hc j hj).2.1,(hb.cell (p:=⟨g,off+j * 3+2,none⟩) hg).trans (hc j hj).2.2⟩⟩
theorem PCame.news {w:World} {ad:Addr} {L:List Part} (h:PCame w (some ad) L):∀ j u,(pcells L)[j]?=some u→w.cell? (ad.add j)=some u:=by
 intro j u hu
 have hj:j < L.length * 3:=by
  rw[← pcells_length]
  rcases Nat.lt_or_ge j (pcells L).length with k | k
  ·exact k
  ·rw[List.getElem?_eq_none k] at hu; cases hu
 rcases h with h | ⟨g,off,ha,hg,hc⟩
 ·omega
 cases ha
 have hm:=pcells_get L (j / 3) (by omega)
 have q:=hc (j / 3) (by omega)
 rw[Addr.add_lit]
 obtain h0 | h0 | h0:j=j / 3 * 3∨j=j / 3 * 3+1∨j=j / 3 * 3+2:=by omega
 ·rw[h0] at hu
  rw[hm.1] at hu
  rw[show off+j=off+j / 3 * 3 by omega,q.1,hu]
 ·rw[h0] at hu
  rw[hm.2.1] at hu
  rw[show off+j=off+j / 3 * 3+1 by omega,q.2.1,hu]
 ·rw[h0] at hu
  rw[hm.2.2] at hu
  rw[show off+j=off+j / 3 * 3+2 by omega,q.2.2,hu]
theorem pcame_of_own {w:World} {e:TypeId} {S n:Nat} {v:Value} {L:List Part} (h:w.ownsRow S e 3 v n (pcells L)) (hn:n=L.length):∃ a c,v=.slice a L.length c∧L.length≤c∧c≤maxLen∧(a=none→c=0)∧PCame w a L∧(∀ ad,a=some ad→∃ g,ad=⟨g,0,none⟩∧S≤g):=by
 subst hn
 rcases h.2 with ⟨rfl,h0⟩ | ⟨g,cap,cur,rfl,hb,hg,hc,hm,hs,ht⟩
 ·exact⟨none,0,by rw [h0],by omega,Nat.zero_le _,fun _=>rfl,.inl h0,fun ad e=>by cases e⟩
 ·refine⟨_,cap,rfl,hc,hm,(fun e=>by cases e),.inr ⟨g,0,rfl,block_lt hg,fun j hj=>?_⟩,fun ad e=>by cases e; exact⟨g,rfl,hb⟩⟩
  have q:=pcells_get L j hj
  rw[Nat.zero_add,h.cellAt (j * 3) (by omega),h.cellAt (j * 3+1) (by omega),h.cellAt (j * 3+2) (by omega)]
  exact q
theorem row_called {w w':World} {e:TypeId} {S m n:Nat} {v:Value} {L:List Value} (h:w.ownsRow S e m v n L) (hb:Below w.heap.size w w'):w'.ownsRow S e m v n L:=by
 refine⟨h.1,?_⟩
 rcases h.2 with h | ⟨g,cap,cur,rfl,h1,h2,h3⟩
 ·exact .inl h
 ·exact .inr ⟨g,cap,cur,rfl,h1,(hb.block g (block_lt h2)).trans h2,h3⟩
theorem parts_append {e t:TypeId} (ht:Tryz.prog.underlying t=some (.slice e)) (hinf:(Tryz.prog.info? e).map (fun i=>(i.zero,i.size,i.bytes))=some (some (.agg #[.int .i64 0,.int .i64 0,.bool false]),3,24)) {w:World} {S:Nat} {v:Value} {xs ys:List Part} {ops:Array Oper} {rest:List Oper} {o:Oper} {a:Act} {Q:Exit→Act→World→Prop} (hgd:o.guard=none) (s x:Operand)
  (ho:o.op=.call { callee:=.builtin .append,args:=#[s,x],argTypes:=#[t,t] }) (hs:a.eval s=v) (h:w.ownsRow S e 3 v xs.length (pcells xs)) (ad:Addr) (m c:Nat) (hx:a.eval x=.slice (some ad) m c) (hm:ys.length=m)
  (hc:∀ j u,(pcells ys)[j]?=some u→w.cell? (ad.add j)=some u)
  (h63:xs.length+ys.length≤1000000) (hS:S≤w.heap.size)
  (hK:∀ v' w',w'.ownsRow S e 3 v' (xs ++ ys).length (pcells (xs ++ ys))→w.grownBy w' v.ownBlock→(v'.ownBlock=v.ownBlock∨v'.ownBlock=some w.heap.size)→wpList Tryz.prog ops Q rest (a.put o.dst v') w'):wpList Tryz.prog ops Q (o :: rest) a w:=by
 obtain⟨i0,hi0,hz0,hz1,hz2⟩:=info_parts hinf
 refine wpList_append_own_at w hgd s x _ ho S e i0 _ 3 24 ht hi0 hz0 hz1 hz2 rfl (by omega) v _ _ hs h ad m c (pcells ys) hx (by rw [pcells_length,hm]) hc (pcells_one ys) (by unfold maxLen; omega) (by omega) hS ?_
 intro v' w' hown hg _ hat
 refine hK v' w' ?_ hg hat
 rw[List.length_append,pcells_app,hm]
 exact hown
theorem step_parts {e t:TypeId} (ht:Tryz.prog.underlying t=some (.slice e)) (hinf:(Tryz.prog.info? e).map (fun i=>(i.zero,i.size,i.bytes))=some (some (.agg #[.int .i64 0,.int .i64 0,.bool false]),3,24)) (w:World) {ops:Array Oper} {o:Oper} {a:Act} {K:Act→World→Prop} {Q:Exit→Act→World→Prop} {E:Prop} (hgd:o.guard=none) (s x:Operand)
  (ho:o.op=.call { callee:=.builtin .append,args:=#[s,x],argTypes:=#[t,t] }) (S:Nat) (v:Value) (xs ys:List Part) (hs:a.eval s=v) (h:w.ownsRow S e 3 v xs.length (pcells xs)) (ad:Addr) (m c:Nat) (hx:a.eval x=.slice (some ad) m c) (hm:ys.length=m) (hm0:0 < m)
  (hc:∀ j u,(pcells ys)[j]?=some u→w.cell? (ad.add j)=some u) (h63:xs.length+ys.length≤1000000) (hS:S≤w.heap.size) (H:Nat) (hH:w.heap.size=H) (N:Nat) (hN:(xs ++ ys).length=N)
  (hK:∀ g cap w',w'.ownsRow S e 3 (.slice (some ⟨g,0,none⟩) N cap) N (pcells (xs ++ ys))→w.grownBy w' v.ownBlock→(v.ownBlock=some g∨g=H)→g < w'.heap.size→K (a.put o.dst (.slice (some ⟨g,0,none⟩) N cap)) w'):
  if Region.wanted o (yielded ops a.tmps)=true then Oper.wp Tryz.prog o a w K Q else E:=by
 obtain⟨i0,hi0,hz0,hz1,hz2⟩:=info_parts hinf
 rw[List.length_append,hm] at hN
 subst hN
 refine step_append_lies w hgd s x t ho S e i0 _ 3 24 ht hi0 hz0 hz1 hz2 rfl (by omega) v _ _ hs h ad m c (pcells ys) hx (by rw [pcells_length,hm]) hc (pcells_one ys) hm0 (by unfold maxLen; omega) (by omega) hS H hH ?_
 intro g cap w' h1 h2 h3 h4
 refine hK g cap w' ?_ h2 h3 h4
 rw[pcells_app]
 exact h1
theorem news_part (w:World) (e:TypeId) (x:Int) (k:Nat) (h:Bool) (n:Nat) (hn:w.heap.size=n):∀ q u,(pcells [(x,k,h)])[q]?=some u→(w.alloc (.cells #[.int .i64 x,.int .i64 (k:Int),.bool h] e)).cell? ((⟨n,0,none⟩:Addr).add q)=some u:=by
 subst hn
 exact World.news_of_block (cs:=#[.int .i64 x,.int .i64 (k:Int),.bool h]) (t:=e) (fr:=(0,0)) (heap_alloc_new w _)
theorem news_parts (w:World) (e:TypeId) (L:List Part) (n:Nat) (hn:w.heap.size=n):∀ q u,(pcells L)[q]?=some u→(w.alloc (.cells (pcells L).toArray e)).cell? ((⟨n,0,none⟩:Addr).add q)=some u:=by
 subst hn
 have:=World.news_of_block (cs:=(pcells L).toArray) (t:=e) (fr:=(0,0)) (heap_alloc_new w (.cells (pcells L).toArray e))
 simpa using this
theorem own_lit (w:World) (e:TypeId) (S:Nat) (hS:S≤w.heap.size) (L:List Part) (hL:L.length≤1000000):(w.alloc (.cells (pcells L).toArray e)).ownsRow S e 3 (.slice (some ⟨w.heap.size,0,none⟩) L.length L.length) L.length (pcells L):=by
 refine⟨pcells_length L,.inr ⟨w.heap.size,L.length,_,rfl,hS,heap_alloc_new w _,Nat.le_refl _,by unfold maxLen; omega,by simp [pcells_length],?_⟩⟩
 simp[← pcells_length]
end
section
open Go.RowKit Go.Joins
set_option maxHeartbeats 400000 in
theorem numberPart_any (x n:Int) (w:World):
  Calls Tryz.prog 76 #[.int .i64 x,.int .i64 n] w fun e w'=>e=.returned (.agg #[.int .i64 x,.int .i64 n,.bool false])∧Below w.heap.size w w':=by
 go_enter Tryz.func76,Tryz.ntmps76
 go_wp2_with fail
 refine bodyPost_ret (v:=.agg #[.int .i64 x,.int .i64 n,.bool false]) ?_ rfl ⟨rfl,?_⟩
 ·simp[results,Tryz.results76,go_sem]
 ·exact bstart _ _
end
end Go.Proofs.YtklpiihnbokkkaaGreatDoor
