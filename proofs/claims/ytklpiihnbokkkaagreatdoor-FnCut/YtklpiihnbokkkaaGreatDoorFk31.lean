/-
  Texts of the proof, put together.
-/
import Derived.Test.YtklpiihnbokkkaaGreatDoorFk30
import Derived.Deep.RegionHeldLaw
namespace Go.Proofs.YtklpiihnbokkkaaGreatDoor
open Go.RowKit Go.Joins CodeMath TellMath PartMath BodyMath
theorem info_part9:(Tryz.prog.info? 115).map (fun i=>(i.zero,i.size,i.bytes))=some (some (.agg #[.int .i64 0,.int .i64 0,.bool false]),3,24):=by kernel_rfl
def penV (a o:Option Addr) (n k m ko:Nat):Value:=.agg #[.slice a n k,.slice o m ko]
theorem came_cell {w:World} {a:Option Addr} {n:Nat} {f:Nat→Int} (h:Came w a n f) {i:Nat} (hi:i < n):∃ g off,a=some ⟨g,off,none⟩∧g < w.heap.size∧w.cell? ⟨g,off+i,none⟩=some (.int .i64 (f i)):=by
 rcases h with h | ⟨g,off,ha,hg,hc⟩
 ·omega
 ·exact⟨g,off,ha,hg,hc i hi⟩
theorem heap_one (w:World) (A B:Obj):((w.alloc A).alloc B).heap[w.heap.size]?=some A∧((w.alloc A).alloc B).heap[w.heap.size+1]?=some B:=by
 constructor
 ·show ((w.heap.push A).push B)[w.heap.size]?=some A
  rw[Array.getElem?_push_lt (by rw [Array.size_push]; omega),Array.getElem_push_eq]
 ·show ((w.heap.push A).push B)[w.heap.size+1]?=some B
  have e:w.heap.size+1=(w.heap.push A).size:=by rw [Array.size_push]
  rw[e,Array.getElem?_push_size]
theorem bgr {w w':World} (hb:Below w.heap.size w w') (row:Option Nat):w.grownBy w' row:=⟨hb.os,hb.tape,hb.output,hb.size,fun k hk _=>hb.block k hk⟩
theorem pen_far {wr X w3:World} {b i:Nat} {v u:Value} (bX:Below wr.heap.size wr X) (y2:X.grownBy w3 u.ownBlock) (hb:b < wr.heap.size) (hne:∀ q,u.ownBlock=some q→b≠q) (hc:wr.cell? ⟨b,i,none⟩=some v):w3.cell? ⟨b,i,none⟩=some v:=
 (y2.cell_far ⟨b,i,none⟩ (Nat.lt_of_lt_of_le hb bX.size) (fun e=>hne b e.symm rfl)).trans ((bX.cell (p:=⟨b,i,none⟩) hb).trans hc)
set_option maxHeartbeats 800000 in
theorem newPen_own (a:Option Addr) (n k:Nat) (f:Nat→Int) (w:World) (hC:Came w a n f) (hn:n≤288) (hf:∀ i,i < n→0≤f i∧f i≤15):
  Calls Tryz.prog 129 #[.slice a n k] w fun e w'=>∃ o m ko,e=.returned (penV a o n k m ko)∧SL w' w.heap.size o m ko (codeOf f n)∧(Coded f n→m=n)∧Below w.heap.size w w':=by
 have hA:Calls Tryz.prog 167 #[.slice a n k] (w.alloc (.cells #[.slice none 0 0,.slice none 0 0] 183)) fun e w'=>∃ o m ko b,e=.returned (.tuple #[.slice o m ko,.bool b])∧SL w' (w.heap.size+1) o m ko (codeOf f n)∧(Coded f n→m=n)∧Below (w.alloc (.cells #[.slice none 0 0,.slice none 0 0] 183)).heap.size (w.alloc (.cells #[.slice none 0 0,.slice none 0 0] 183)) w':=by
  have h0:=codes_answer a n k f (w.alloc (.cells #[.slice none 0 0,.slice none 0 0] 183)) (hC.called (bstart _ _)) (by omega) (fun i hi=>by have:=hf i hi; exact wf_small _ (by omega) (by omega))
  by_cases hc:Coded f n
  ·refine (h0.1 hc).mono ?_
   rintro e w' ⟨o,ko,rfl,hs,hB⟩
   exact⟨o,n,ko,true,rfl,by simpa using hs,fun _=>rfl,hB⟩
  ·refine (h0.2 hc).mono ?_
   rintro e w' ⟨o,ko,rfl,hB⟩
   exact⟨o,0,ko,false,rfl,.inl rfl,fun h=>absurd h hc,hB⟩
 clear hC hf
 go_enter Tryz.func129,Tryz.ntmps129
 go_wp2_with fail
 refine hA.mono ?_
 rintro e w1 ⟨o,m,ko,b,rfl,hK,hm,hB⟩
 have hr:w1.heap[w.heap.size]?=some (.cells #[.slice none 0 0,.slice none 0 0] 183 (0,0)):=(hB.block _ (by simp)).trans (heap_alloc_new w _)
 have r0:w1.cell? ⟨w.heap.size,0,none⟩=some (.slice none 0 0):=(cell_of_block hr 0).trans rfl
 have r1:w1.cell? ⟨w.heap.size,1,none⟩=some (.slice none 0 0):=(cell_of_block hr 1).trans rfl
 have rf:∀ q,w1.frozen? ⟨w.heap.size,q,none⟩=false:=fun q=>by simp [World.frozen?,hr]
 have rl:=block_lt hr
 have HB:Hid (Below w.heap.size w w1):=bnext (bstart _ _) hB
 have HK:=hid_of hK
 have HM:=hid_of hm
 clear hr hA hB hK hm
 go_wp2_with fail
 refine bodyPost_ret (v:=penV a o n k m ko) ?_ rfl ⟨o,m,ko,rfl,?_,HM.out,two_below HB.out (Nat.le_refl _) _ _⟩
 ·simp[results,Tryz.results129,go_sem,r0,r1,penV]
 ·rcases HK.out with q | ⟨g,rfl,ho⟩
  ·exact .inl q
  ·have hg:=ho.base_le
   exact ((ho.mono (Nat.le_succ _)).keep (w':=(w1.setCell ⟨w.heap.size,0,none⟩ (.slice a n k)).setCell ⟨w.heap.size,1,none⟩ (.slice (some ⟨g,0,none⟩) m ko)) ((Below.heap_setCell _ _ _ _ (by show g≠w.heap.size; omega)).trans (Below.heap_setCell _ _ _ _ (by show g≠w.heap.size; omega)))).sl
theorem newPen (a:Option Addr) (n k:Nat) (f:Nat→Int) (w:World) (hC:Came w a n f) (hn:n≤288) (hf:∀ i,i < n→0≤f i∧f i≤15):
  Calls Tryz.prog 129 #[.slice a n k] w fun e w'=>∃ o m ko,e=.returned (penV a o n k m ko)∧Came w' o m (codeOf f n)∧(Coded f n→m=n)∧Below w.heap.size w w':=by
 refine (newPen_own a n k f w hC hn hf).mono ?_
 rintro e w' ⟨o,m,ko,h1,h2,h3⟩
 exact⟨o,m,ko,h1,h2.came,h3⟩
set_option maxRecDepth 100000 in
set_option maxHeartbeats 3200000 in
theorem withSymbol_at (a o:Option Addr) (n k m ko i sz:Nat) (z:Int) (f:Nat→Int) (S:Nat) (v:Value) (P:List Part) (w:World) (h1:Came w a n f) (h2:Came w o m (codeOf f n)) (hi:i < n) (him:i < m) (hf:0≤f i∧f i≤15) (hO:w.ownsRow S 115 3 v P.length (pcells P)) (hS:S≤w.heap.size) (hP:P.length≤100000):
  Calls Tryz.prog 127 #[penV a o n k m ko,v,codV ((i:Int),(sz:Int),z)] w fun e w'=>∃ g cap,e=.returned (.slice (some ⟨g,0,none⟩) (P.length+2) cap)∧w'.ownsRow S 115 3 (.slice (some ⟨g,0,none⟩) (P.length+2) cap) (P ++ [codeP f n i,(z,sz,false)]).length (pcells (P ++ [codeP f n i,(z,sz,false)]))∧w.grownBy w' v.ownBlock∧(v.ownBlock=some g∨w.heap.size≤g):=by
 obtain⟨g1,off1,rfl,hg1,k1⟩:=came_cell h1 hi
 obtain⟨g2,off2,rfl,hg2,k2⟩:=came_cell h2 him
 obtain⟨fl,hfl⟩:=Int.eq_ofNat_of_zero_le hf.1
 have HCP:Hid (codeP f n i=(codeOf f n i,fl,true)):=by
  show (codeOf f n i,(f i).toNat,true)=_
  rw[hfl]
  rfl
 rw[hfl] at k1
 generalize codeOf f n i=V at k2 HCP
 have HO:=hid_of hO
 unfold penV codV
 simp only []
 clear h1 h2 hfl hf hO
 have hA:=heap_one w (.cells #[.slice (some ⟨g1,off1,none⟩) n k,.slice (some ⟨g2,off2,none⟩) m ko] 183) (.cells #[.int .i64 (i:Int),.int .i64 (sz:Int),.int .i64 z] 186)
 have hB:Below w.heap.size w ((w.alloc (.cells #[.slice (some ⟨g1,off1,none⟩) n k,.slice (some ⟨g2,off2,none⟩) m ko] 183)).alloc (.cells #[.int .i64 (i:Int),.int .i64 (sz:Int),.int .i64 z] 186)):=bal (bstart _ _) _
 generalize hX:(w.alloc (.cells #[.slice (some ⟨g1,off1,none⟩) n k,.slice (some ⟨g2,off2,none⟩) m ko] 183)).alloc (.cells #[.int .i64 (i:Int),.int .i64 (sz:Int),.int .i64 z] 186)=X at hA hB
 obtain⟨hA1,hA2⟩:=hA
 have p0:X.cell? ⟨w.heap.size,0,none⟩=some (.slice (some ⟨g1,off1,none⟩) n k):=(cell_of_block hA1 0).trans rfl
 have p1:X.cell? ⟨w.heap.size,1,none⟩=some (.slice (some ⟨g2,off2,none⟩) m ko):=(cell_of_block hA1 1).trans rfl
 have s0:X.cell? ⟨w.heap.size+1,0,none⟩=some (.int .i64 (i:Int)):=(cell_of_block hA2 0).trans rfl
 have s1:X.cell? ⟨w.heap.size+1,1,none⟩=some (.int .i64 (sz:Int)):=(cell_of_block hA2 1).trans rfl
 have s2:X.cell? ⟨w.heap.size+1,2,none⟩=some (.int .i64 z):=(cell_of_block hA2 2).trans rfl
 have q1:X.cell? ⟨g1,off1+i,none⟩=some (.int .i64 (fl:Int)):=(hB.cell (p:=⟨g1,off1+i,none⟩) hg1).trans k1
 have q2:X.cell? ⟨g2,off2+i,none⟩=some (.int .i64 V):=(hB.cell (p:=⟨g2,off2+i,none⟩) hg2).trans k2
 have hXs:w.heap.size+1 < X.heap.size:=block_lt hA2
 have hX0:w.heap.size < X.heap.size:=by omega
 have hX1:g1 < X.heap.size:=by omega
 have hX2:g2 < X.heap.size:=by omega
 have HX:=hid_of hX
 have HA2:=hid_of hA2
 have HB:=hid_of hB
 have HOX:=hid_of (row_called HO.out hB)
 clear k1 k2 hX hA1 hA2 hB
 go_enter Tryz.func127,Tryz.ntmps127
 go_wp2_with fail
 rw[HX.out]
 clear HX
 go_region
 go_wp2_with fail
 have hY:(X.alloc (.cells #[.int .i64 V,.int .i64 (fl:Int),.bool true] 115)).drew.heap[X.heap.size]?=some (.cells #[.int .i64 V,.int .i64 (fl:Int),.bool true] 115 (0,0)):=heap_alloc_new X _
 have hBY:Below w.heap.size w (X.alloc (.cells #[.int .i64 V,.int .i64 (fl:Int),.bool true] 115)).drew:=(bnext HB.out (bstart X _)).drew
 have hAY:(X.alloc (.cells #[.int .i64 V,.int .i64 (fl:Int),.bool true] 115)).drew.heap[w.heap.size+1]?=some (.cells #[.int .i64 (i:Int),.int .i64 (sz:Int),.int .i64 z] 186 (0,0)):=((bstart X _).block _ hXs).trans HA2.out
 have hOY:(X.alloc (.cells #[.int .i64 V,.int .i64 (fl:Int),.bool true] 115)).drew.ownsRow S 115 3 v P.length (pcells P):=row_called HOX.out (bstart X _).drew
 generalize (X.alloc (.cells #[.int .i64 V,.int .i64 (fl:Int),.bool true] 115)).drew=Y at hY hBY hAY hOY ⊢
 have hBw:w.heap.size≤X.heap.size:=by omega
 generalize X.heap.size=B at hY hBw ⊢
 have y0:Y.cell? ⟨B,0,none⟩=some (.int .i64 V):=(cell_of_block hY 0).trans rfl
 have y1:Y.cell? ⟨B,1,none⟩=some (.int .i64 (fl:Int)):=(cell_of_block hY 1).trans rfl
 have y2:Y.cell? ⟨B,2,none⟩=some (.bool true):=(cell_of_block hY 2).trans rfl
 have t1:Y.cell? ⟨w.heap.size+1,1,none⟩=some (.int .i64 (sz:Int)):=(cell_of_block hAY 1).trans rfl
 have t2:Y.cell? ⟨w.heap.size+1,2,none⟩=some (.int .i64 z):=(cell_of_block hAY 2).trans rfl
 have HOY:=hid_of hOY
 have HBY:=hid_of hBY
 have HY:=hid_of hY
 have HAY:=hid_of hAY
 have hnB:∀ q,v.ownBlock=some q→B≠q:=fun q hq=>by have:=(HO.out.lt q hq).2; omega
 have hnW:∀ q,v.ownBlock=some q→w.heap.size+1≠q:=fun q hq=>by have:=(HO.out.lt q hq).2; omega
 have hSY:S≤Y.heap.size:=Nat.le_trans hS hBY.size
 clear p0 p1 s0 s1 s2 q1 q2 hY hAY hOY hBY HA2 HB HOX HO hXs hX0 hX1 hX2
 go_region_held_law (fun u=>u.cell? ⟨B,0,none⟩=some (.int .i64 V)∧u.cell? ⟨B,1,none⟩=some (.int .i64 (fl:Int))∧u.cell? ⟨B,2,none⟩=some (.bool true)∧u.cell? ⟨w.heap.size+1,1,none⟩=some (.int .i64 (sz:Int))∧u.cell? ⟨w.heap.size+1,2,none⟩=some (.int .i64 z)) (first | go_keep | (refine⟨?_,?_,?_,?_,?_⟩ <;> first | assumption | go_keep | (simp [*]; done))) (first | (refine step_parts Tryz.underlying118 info_part9 _ rfl (.tmp 21) (.tmp 28) rfl S v P [(V,fl,true),(z,sz,false)] (by simp [Act.eval]) (by exact World.ownsRow.alloc HOW.out _) ⟨w'.heap.size,0,none⟩ 2 2 (by simp [Act.eval]) rfl (by omega) (by exact news_parts w' _ [(V,fl,true),(z,sz,false)] _ rfl) (by simp only [List.length_cons,List.length_nil]; omega) (by exact Nat.le_trans hSW (by simp)) _ rfl (P.length+2) (by rw [List.length_append]; rfl) ?_; intro g' cap' w3 r1 r2 r3 r4; have z0:=pen_far (by first | exact bstart w' _ | exact (bstart w' _).drew) r2 hBl' hnB y0'; have z1:=pen_far (by first | exact bstart w' _ | exact (bstart w' _).drew) r2 hBl' hnB y1'; have z2:=pen_far (by first | exact bstart w' _ | exact (bstart w' _).drew) r2 hBl' hnB y2'; have z3:=pen_far (by first | exact bstart w' _ | exact (bstart w' _).drew) r2 hWl' hnW t1'; have z4:=pen_far (by first | exact bstart w' _ | exact (bstart w' _).drew) r2 hWl' hnW t2') | (go_at_call 76; refine (numberPart_any _ _ _).mono ?_; rintro e w' ⟨rfl,hB⟩; have yc:w'.heap[B]?=some (.cells #[.int .i64 V,.int .i64 (fl:Int),.bool true] 115 (0,0)):=(hB.block B (by exact block_lt HY.out)).trans HY.out; have yd:w'.heap[w.heap.size+1]?=some (.cells #[.int .i64 (i:Int),.int .i64 (sz:Int),.int .i64 z] 186 (0,0)):=(hB.block _ (by exact block_lt HAY.out)).trans HAY.out; have y0':w'.cell? ⟨B,0,none⟩=some (.int .i64 V):=(cell_of_block yc 0).trans rfl; have y1':w'.cell? ⟨B,1,none⟩=some (.int .i64 (fl:Int)):=(cell_of_block yc 1).trans rfl; have y2':w'.cell? ⟨B,2,none⟩=some (.bool true):=(cell_of_block yc 2).trans rfl; have t1':w'.cell? ⟨w.heap.size+1,1,none⟩=some (.int .i64 (sz:Int)):=(cell_of_block yd 1).trans rfl; have t2':w'.cell? ⟨w.heap.size+1,2,none⟩=some (.int .i64 z):=(cell_of_block yd 2).trans rfl; have HOW:=hid_of (row_called (w:=Y.drew) (by exact HOY.out) hB); have HBW:=hid_of (bnext HBY.out.drew hB); have hSW:S≤w'.heap.size:=Nat.le_trans hSY hB.size; have hBl':=block_lt yc; have hWl':=block_lt yd; clear hB yc yd))
 all_goals
  go_wp2_with fail
  refine bodyPost_ret (v:=.slice (some ⟨g',0,none⟩) (P.length+2) cap') (by simp [results,Tryz.results127,go_sem]) rfl ⟨g',cap',rfl,?_,?_,?_⟩
  ·rw[HCP.out]
   exact r1
  ·exact (bgr (by first | exact bnext HBW.out (bstart _ _) | exact (bnext HBW.out (bstart _ _)).drew) _).trans r2
  ·rcases r3 with q | q
   ·exact .inl q
   ·have h9:=HBW.out.size
    exact .inr (by first | (simp at q; omega) | omega)
theorem withSymbol_any (a o:Option Addr) (n k m ko i sz:Nat) (z:Int) (f:Nat→Int) (S:Nat) (v:Value) (P:List Part) (w:World) (h1:Came w a n f) (h2:Came w o m (codeOf f n)) (hi:i < n) (him:i < m) (hf:0≤f i∧f i≤15) (hO:w.ownsRow S 115 3 v P.length (pcells P)) (hS:S≤w.heap.size) (hP:P.length≤100000):
  Calls Tryz.prog 127 #[penV a o n k m ko,v,codV ((i:Int),(sz:Int),z)] w fun e w'=>∃ g cap,e=.returned (.slice (some ⟨g,0,none⟩) (P.length+2) cap)∧w'.ownsRow S 115 3 (.slice (some ⟨g,0,none⟩) (P.length+2) cap) (P ++ [codeP f n i,(z,sz,false)]).length (pcells (P ++ [codeP f n i,(z,sz,false)]))∧w.grownBy w' v.ownBlock:=by
 refine (withSymbol_at a o n k m ko i sz z f S v P w h1 h2 hi him hf hO hS hP).mono ?_
 rintro e w' ⟨g,cap,h3,h4,h5,_⟩
 exact⟨g,cap,h3,h4,h5⟩
end Go.Proofs.YtklpiihnbokkkaaGreatDoor
