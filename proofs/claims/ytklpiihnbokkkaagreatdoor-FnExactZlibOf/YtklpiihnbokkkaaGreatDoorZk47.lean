/-
  Texts of the proof, put together.
-/
import Derived.Test.YtklpiihnbokkkaaGreatDoorZk46
namespace Go.Proofs.YtklpiihnbokkkaaGreatDoor
section
open Go.RowKit Go.Joins OutMath InfMath TokMath CodeMath PackageMath RunsMath TrimMath TokLenMath BlockMath PartMath BodyMath WovenMath
theorem specWoven_good (s:ByteArray) (c:Int) (a:Option Addr) (cp:Nat) (L:List Tok) (last:Bool) (w:World) (hs:s.size≤maxLen) (hc1:-9223372036854775808≤c) (hc2:c≤9223372036854775807) (hC:TCame w a L.length (fun j=>L.getD j (0,0,0))) (hR:TokensRight L):
  Calls Tryz.prog 71 #[.agg #[.string s,.int .i64 c],.slice a L.length cp,.bool last] w fun e w'=>e=.returned (blkAns (wovenOut s c L last))∧Below w.heap.size w w':=by
 have hA:=sizeA_bd L
 have hB:=sizeB_bd L
 have hT:=toldN_bd (runsW L)
 have hl:=runsW_length L
 have hsy:=rest_sym (fineC hR) _ 0 rfl
 have e:wovenOut s c L last=((outSt s c).bind fun o=>bitsOut o (headBits 2 last)).bind fun o=>bitsOut o (partBits (whd (sizeA L) (sizeB L) (toldN (runsW L)) ++ toldTo (runsW L) (toldN (runsW L)) ++ runsP (runsW L) (runsW L) ++ bodyP (lenA L) (sizeA L) (lenB L) (sizeB L) L)):=by
  rw[bind_bits _ _ (headBits_01 2 last),partBits_app]
  unfold wovenOut
  rw[if_pos hR]
  rfl
 have hlen:1≤(bodyP (lenA L) (sizeA L) (lenB L) (sizeB L) L).length∧(bodyP (lenA L) (sizeA L) (lenB L) (sizeB L) L).length≤100000:=by
  unfold bodyP
  have h1:=toksP_length (f1:=lenA L) (n1:=sizeA L) (f2:=lenB L) (n2:=sizeB L) L
  have h2:=hR.1
  rw[List.length_append,List.length_singleton]
  omega
 rw[e]
 refine woven_core s c a cp L.length (sizeA L) (sizeB L) (toldN (runsW L)) (runsW L).length (bodyP (lenA L) (sizeA L) (lenB L) (sizeB L) L).length L last (runsW L) (lenA L) (lenB L) (fC L) (bodyP (lenA L) (sizeA L) (lenB L) (sizeB L) L) _ w hA.1 hA.2 hB.1 hB.2 hT.1 hT.2 rfl rfl hl rfl hlen.1 hlen.2 hsy (third_coded hl) rfl ?_ hC ?_ (fun W a c hC=>specRuns_woven hR W a c hC) (fun W=>specHead s c 2 last W hs hc1 hc2 (by omega)) ?_
 ·intro p hp
  rcases List.mem_append.mp hp with hp | hp
  ·exact lensP_right hR p hp
  ·exact (woven_body hR).bodyR p hp
 ·intro W hC
  refine (specTokLen_good a cp L W hC hR).mono ?_
  rintro e w' ⟨a1,c1,a2,c2,rfl,q1,q2,hB⟩
  exact⟨a1,c1,a2,c2,rfl,q1.came,q2.came,hB⟩
 ·intro W a1 a2 k1 k2 q1 q2 q3
  refine (specBody a a1 a2 cp k1 k2 (lenA L) (lenB L) (sizeA L) (sizeB L) L W q1 q2 q3 hR.1 (woven_body hR)).mono ?_
  rintro e w' ⟨v,rfl,ho,hB⟩
  obtain⟨a4,k4,rfl,_,_,_,hPC,hat⟩:=pcame_of_own ho rfl
  rcases hPC with q | ⟨g,off,rfl,hg,hcc⟩
  ·omega
  ·obtain⟨g',e',_⟩:=hat _ rfl
   cases e'
   exact⟨g,k4,rfl,.inr ⟨g,0,rfl,hg,hcc⟩,hB⟩
set_option maxRecDepth 100000 in
set_option maxHeartbeats 1600000 in
theorem specWovenBlock (s:ByteArray) (c:Int) (a:Option Addr) (cp:Nat) (L:List Tok) (last:Bool) (w:World) (hs:s.size≤maxLen) (hc1:-9223372036854775808≤c) (hc2:c≤9223372036854775807) (hC:TCame w a L.length (fun j=>L.getD j (0,0,0))) (hL:L.length≤1048576):
  Calls Tryz.prog 71 #[.agg #[.string s,.int .i64 c],.slice a L.length cp,.bool last] w fun e w'=>e=.returned (blkAns (wovenOut s c L last))∧Below w.heap.size w w':=by
 by_cases hR:TokensRight L
 ·exact specWoven_good s c a cp L last w hs hc1 hc2 hC hR
 ·have e:wovenOut s c L last=none:=if_neg hR
  rw[e]
  have hW0:Below w.heap.size w ((w.alloc (.cells #[.string s,.int .i64 c] 43)).alloc (.cells #[.string ⟨#[]⟩,.int .i64 0] 43)):=bal (bstart _ _) _
  have hR0:=heap_second2 w (.cells #[.string s,.int .i64 c] 43) (.cells #[.string ⟨#[]⟩,.int .i64 0] 43)
  have HX:Hid (Below w.heap.size w ((w.alloc (.cells #[.string s,.int .i64 c] 43)).alloc (.cells #[.string ⟨#[]⟩,.int .i64 0] 43))∧_):=⟨hW0,hR0⟩
  have HTL:Hid (∀ W,TCame W a L.length (fun j=>L.getD j (0,0,0))→_):=fun W hC=>specTokLen_bad a cp L W hC hL hR
  have HC:=hid_of hC
  clear hW0 hR0 hC
  go_enter Tryz.func71,Tryz.ntmps71
  go_wp2_with fail
  generalize (w.alloc _).alloc _=X at HX ⊢
  refine (HTL.out X (HC.out.called HX.out.1)).mono ?_
  rintro e w1 ⟨a1,a2,rfl,hB1⟩
  have hr:=(hB1.block _ (block_lt HX.out.2)).trans HX.out.2
  have HW1:=hid_of (bnext HX.out.1 hB1)
  have r0:w1.cell? ⟨w.heap.size+1,0,none⟩=some (.string ⟨#[]⟩):=(cell_of_block hr 0).trans rfl
  have r1:w1.cell? ⟨w.heap.size+1,1,none⟩=some (.int .i64 0):=(cell_of_block hr 1).trans rfl
  have rf:∀ q,w1.frozen? ⟨w.heap.size+1,q,none⟩=false:=fun q=>by simp [World.frozen?,hr]
  have rl:=block_lt hr
  clear hr hB1 HX HTL HC
  go_wp2_with fail
  refine bodyPost_ret (v:=.tuple #[.agg #[.string ⟨#[]⟩,.int .i64 0],.bool false]) ?_ rfl ⟨rfl,two_below HW1.out (Nat.le_succ _) _ _⟩
  simp[results,Tryz.results71,go_sem,r0,r1]
end
section
open Go.RowKit Go.Joins OutMath TokMath WovenMath
def bestTo (o1 o2 o3:Option (ByteArray×Nat)) (k:Nat):Option (ByteArray×Nat):=
 if k=0 then none else if k=1 then better none o1 else if k=2 then better (better none o1) o2 else better (better (better none o1) o2) o3
def MbX (w X:World) (s:ByteArray) (c:Int) (o:Option (ByteArray×Nat)):Prop:=Below w.heap.size w X∧X.heap[w.heap.size]?=some (.cells #[.string s,.int .i64 c] 43 (0,0))∧X.heap[w.heap.size+1]?=some (.cells #[.string ⟨#[]⟩,.int .i64 0] 43 (0,0))∧X.heap[w.heap.size+2]?=some (.cells #[.string (blkS o),.int .i64 (blkN o)] 43 (0,0))
theorem MbX.called {w X Y:World} {s:ByteArray} {c:Int} {o:Option (ByteArray×Nat)} (h:MbX w X s c o) (hb:Below X.heap.size X Y):MbX w Y s c o:=
 ⟨bnext h.1 hb,(hb.block _ (block_lt h.2.1)).trans h.2.1,(hb.block _ (block_lt h.2.2.1)).trans h.2.2.1,(hb.block _ (block_lt h.2.2.2)).trans h.2.2.2⟩
theorem MbX.keep {w X:World} {s:ByteArray} {c:Int} {o:Option (ByteArray×Nat)} (h:MbX w X s c o) {rb:Nat} (hr:w.heap.size+3≤rb) (u v:Value):MbX w ((X.setCell ⟨rb,0,none⟩ u).setCell ⟨rb,1,none⟩ v) s c o:=by
 have e:∀ g,g < w.heap.size+3→((X.setCell ⟨rb,0,none⟩ u).setCell ⟨rb,1,none⟩ v).heap[g]?=X.heap[g]?:=fun g hg=>(Below.heap_setCell _ _ _ _ (by show g≠rb; omega)).trans (Below.heap_setCell _ _ _ _ (by show g≠rb; omega))
 exact⟨two_below h.1 (by omega) _ _,(e _ (by omega)).trans h.2.1,(e _ (by omega)).trans h.2.2.1,(e _ (by omega)).trans h.2.2.2⟩
theorem MbX.best {w X:World} {s:ByteArray} {c:Int} {o:Option (ByteArray×Nat)} (h:MbX w X s c o) (bs:ByteArray) (bn:Nat):MbX w ((X.setCell ⟨w.heap.size+2,0,none⟩ (.string bs)).setCell ⟨w.heap.size+2,1,none⟩ (.int .i64 (bn:Int))) s c (some (bs,bn)):=by
 have e:∀ g,g≠w.heap.size+2→((X.setCell ⟨w.heap.size+2,0,none⟩ (.string bs)).setCell ⟨w.heap.size+2,1,none⟩ (.int .i64 (bn:Int))).heap[g]?=X.heap[g]?:=fun g hg=>(Below.heap_setCell _ _ _ _ hg).trans (Below.heap_setCell _ _ _ _ hg)
 exact⟨two_below h.1 (by omega) _ _,(e _ (by omega)).trans h.2.1,(e _ (by omega)).trans h.2.2.1,two_set h.2.2.2 _ _⟩
set_option maxRecDepth 100000 in
set_option maxHeartbeats 6400000 in
theorem specBestBlock (s:ByteArray) (c:Int) (t:ByteArray) (a:Option Addr) (cp:Nat) (L:List Tok) (last:Bool) (w:World) (hs:s.size≤maxLen) (hc1:-9223372036854775808≤c) (hc2:c≤9223372036854775807) (ht:t.size≤1048576) (hC:TCame w a L.length (fun j=>L.getD j (0,0,0))) (hL:L.length≤1048576):
  Calls Tryz.prog 42 #[.agg #[.string s,.int .i64 c],.string t,.slice a L.length cp,.bool last] w fun e w'=>e=.returned (blkAns (bestOut s c t L last))∧Below w.heap.size w w':=by
 have HX:Hid (MbX w (((w.alloc (.cells #[.string s,.int .i64 c] 43)).alloc (.cells #[.string ⟨#[]⟩,.int .i64 0] 43)).alloc (.cells #[.string ⟨#[]⟩,.int .i64 0] 43)) s c none):=by
  have s1:(w.alloc (.cells #[.string s,.int .i64 c] 43)).heap.size=w.heap.size+1:=by simp
  have s2:((w.alloc (.cells #[.string s,.int .i64 c] 43)).alloc (.cells #[.string ⟨#[]⟩,.int .i64 0] 43)).heap.size=w.heap.size+2:=by simp
  refine⟨bal (bal (bstart _ _) _) _,?_,?_,?_⟩
  ·rw[(bstart _ _).block _ (by omega),(bstart _ _).block _ (by omega)]
   exact heap_alloc_new w _
  ·rw[(bstart _ _).block _ (by omega),← s1]
   exact heap_alloc_new (w.alloc _) _
  ·rw[← s2]
   exact heap_alloc_new ((w.alloc _).alloc _) _
 have HC:=hid_of hC
 have H1:Hid (∀ W:World,Calls Tryz.prog 38 #[.agg #[.string s,.int .i64 c],.string t,.bool last] W fun e w'=>e=.returned (.tuple #[.agg #[.string (blkS (storedOut s c t last)),.int .i64 (blkN (storedOut s c t last))],.bool (blkB (storedOut s c t last))])∧Below W.heap.size W w'):=fun W=>by
  rw[← blkAns_parts]
  exact specStored s c t last W hs hc1 hc2 ht
 have H2:Hid (∀ W:World,TCame W a L.length (fun j=>L.getD j (0,0,0))→Calls Tryz.prog 40 #[.agg #[.string s,.int .i64 c],.slice a L.length cp,.bool last] W fun e w'=>e=.returned (.tuple #[.agg #[.string (blkS (fixedOut s c L last)),.int .i64 (blkN (fixedOut s c L last))],.bool (blkB (fixedOut s c L last))])∧Below W.heap.size W w'):=fun W hC=>by
  rw[← blkAns_parts]
  exact specFixedBlock s c a cp L last W hs hc1 hc2 hC hL
 have H3:Hid (∀ W:World,TCame W a L.length (fun j=>L.getD j (0,0,0))→Calls Tryz.prog 71 #[.agg #[.string s,.int .i64 c],.slice a L.length cp,.bool last] W fun e w'=>e=.returned (.tuple #[.agg #[.string (blkS (wovenOut s c L last)),.int .i64 (blkN (wovenOut s c L last))],.bool (blkB (wovenOut s c L last))])∧Below W.heap.size W w'):=fun W hC=>by
  rw[← blkAns_parts]
  exact specWovenBlock s c a cp L last W hs hc1 hc2 hC hL
 have HE:Hid (bestOut s c t L last=bestTo (storedOut s c t last) (fixedOut s c L last) (wovenOut s c L last) 3):=rfl
 clear hC
 generalize storedOut s c t last=o1 at *
 generalize fixedOut s c L last=o2 at *
 generalize wovenOut s c L last=o3 at *
 go_enter Tryz.func42,Tryz.ntmps42
 go_wp2_with fail
 generalize ((w.alloc _).alloc _).alloc _=X at HX ⊢
 go_loopg [11,12] 4 (fun gk okv kv w'=>∃ k:Nat,k≤3∧3 - k≤gk∧kv=.int .i64 k∧okv=.bool (blkB (bestTo o1 o2 o3 k))∧Hid (MbX w w' s c (bestTo o1 o2 o3 k)))
 case atStart=>exact⟨0,by omega,by omega,rfl,rfl,HX⟩
 case round=>
  clear HX
  obtain⟨k,hk,hgk,rfl,rfl,hS⟩:=hrel
  rcases (show k=0∨k=1∨k=2∨k=3 by omega) with rfl | rfl | rfl | rfl
  ·have HBT:Hid (bestTo o1 o2 o3 1=better (bestTo o1 o2 o3 0) o1):=rfl
   generalize bestTo o1 o2 o3 0=O at hS HBT ⊢
   obtain⟨x0,x1,xl⟩:wr.cell? ⟨w.heap.size,0,none⟩=some (.string s)∧wr.cell? ⟨w.heap.size,1,none⟩=some (.int .i64 c)∧w.heap.size < wr.heap.size:=⟨(cell_of_block hS.out.2.1 0).trans rfl,(cell_of_block hS.out.2.1 1).trans rfl,block_lt hS.out.2.1⟩
   have hrb:w.heap.size+3≤wr.heap.size:=block_lt hS.out.2.2.2
   go_wp2_with fail
   refine (H1.out _).mono ?_
   rintro e w1 ⟨rfl,b1⟩
   have HX1:=hid_of ((hS.out.called (bstart _ _)).called b1)
   have hrx:w1.heap[wr.heap.size]?=some (.cells #[.string ⟨#[]⟩,.int .i64 0] 43 (0,0)):=(b1.block _ (by simp)).trans (heap_alloc_new wr _)
   clear b1 x0 x1 xl hS
   generalize wr.heap.size=rb at *
   have r0:w1.cell? ⟨rb,0,none⟩=some (.string ⟨#[]⟩):=(cell_of_block hrx 0).trans rfl
   have r1:w1.cell? ⟨rb,1,none⟩=some (.int .i64 0):=(cell_of_block hrx 1).trans rfl
   have rf:∀ q,w1.frozen? ⟨rb,q,none⟩=false:=fun q=>by simp [World.frozen?,hrx]
   have rl:=block_lt hrx
   have hb:=HX1.out.2.2.2
   have y0:w1.cell? ⟨w.heap.size+2,0,none⟩=some (.string (blkS O)):=(cell_of_block hb 0).trans rfl
   have y1:w1.cell? ⟨w.heap.size+2,1,none⟩=some (.int .i64 (blkN O)):=(cell_of_block hb 1).trans rfl
   have yf:∀ q,w1.frozen? ⟨w.heap.size+2,q,none⟩=false:=fun q=>by simp [World.frozen?,hb]
   have yl:=block_lt hb
   have hne:rb≠w.heap.size+2:=by omega
   have hne2:w.heap.size+2≠rb:=by omega
   clear hrx hb
   cases o1 with
   | none=>
    have HN:=hid_of (HX1.out.keep hrb (.string ⟨#[]⟩) (.int .i64 0))
    clear HX1
    cases O with
    | none=>
     have HBE:=hid_of (HBT.out.trans (show better none none=none from rfl))
     simp only [blkB,blkS,blkN] at y0 y1 ⊢
     clear HBT
     go_wp2_with fail
     go_roundg (3 - (0+1))
     case measure=>omega
     case rel=>exact⟨1,by omega,Nat.le_refl _,by go_num,by rw [HBE.out]; rfl,by rw [HBE.out]; exact HN⟩
    | some z=>
     obtain⟨zs,zn⟩:=z
     have HBE:=hid_of (HBT.out.trans (show better (some (zs,zn)) none=some (zs,zn) from rfl))
     simp only [blkB,blkS,blkN] at y0 y1 ⊢
     clear HBT
     go_wp2_with fail
     go_roundg (3 - (0+1))
     case measure=>omega
     case rel=>exact⟨1,by omega,Nat.le_refl _,by go_num,by rw [HBE.out]; rfl,by rw [HBE.out]; exact HN⟩
   | some y=>
    obtain⟨ys,yn⟩:=y
    have HK:=hid_of (HX1.out.keep hrb (.string ys) (.int .i64 (yn:Int)))
    have HN:=hid_of (HK.out.best ys yn)
    clear HX1
    cases O with
    | none=>
     have HBE:=hid_of (HBT.out.trans (show better none (some (ys,yn))=some (ys,yn) from rfl))
     simp only [blkB,blkS,blkN] at y0 y1 ⊢
     clear HBT HK
     go_wp2_with fail
     go_roundg (3 - (0+1))
     case measure=>omega
     case rel=>exact⟨1,by omega,Nat.le_refl _,by go_num,by rw [HBE.out]; rfl,by rw [HBE.out]; exact HN⟩
    | some z=>
     obtain⟨zs,zn⟩:=z
     simp only [blkB,blkS,blkN] at y0 y1 ⊢
     by_cases hlt:yn < zn
     ·have HBE:=hid_of (HBT.out.trans (show better (some (zs,zn)) (some (ys,yn))=some (ys,yn) from if_pos hlt))
      have dl:decide ((yn:Int) < (zn:Int))=true:=decide_eq_true (by omega)
      have dl2:decide (yn < zn)=true:=decide_eq_true hlt
      clear HBT HK
      go_wp2_with fail
      go_roundg (3 - (0+1))
      case measure=>omega
      case rel=>exact⟨1,by omega,Nat.le_refl _,by go_num,by rw [HBE.out]; rfl,by rw [HBE.out]; exact HN⟩
     ·have HBE:=hid_of (HBT.out.trans (show better (some (zs,zn)) (some (ys,yn))=some (zs,zn) from if_neg hlt))
      have dl:decide ((yn:Int) < (zn:Int))=false:=decide_eq_false (by omega)
      have dl2:decide (yn < zn)=false:=decide_eq_false hlt
      clear HBT HN
      go_wp2_with fail
      go_roundg (3 - (0+1))
      case measure=>omega
      case rel=>exact⟨1,by omega,Nat.le_refl _,by go_num,by rw [HBE.out]; rfl,by rw [HBE.out]; exact HK⟩
  ·have HBT:Hid (bestTo o1 o2 o3 2=better (bestTo o1 o2 o3 1) o2):=rfl
   generalize bestTo o1 o2 o3 1=O at hS HBT ⊢
   obtain⟨x0,x1,xl⟩:wr.cell? ⟨w.heap.size,0,none⟩=some (.string s)∧wr.cell? ⟨w.heap.size,1,none⟩=some (.int .i64 c)∧w.heap.size < wr.heap.size:=⟨(cell_of_block hS.out.2.1 0).trans rfl,(cell_of_block hS.out.2.1 1).trans rfl,block_lt hS.out.2.1⟩
   have hrb:w.heap.size+3≤wr.heap.size:=block_lt hS.out.2.2.2
   go_wp2_with fail
   refine (H2.out _ (HC.out.called (bnext hS.out.1 (bstart _ _)))).mono ?_
   rintro e w1 ⟨rfl,b1⟩
   have HX1:=hid_of ((hS.out.called (bstart _ _)).called b1)
   have hrx:w1.heap[wr.heap.size]?=some (.cells #[.string ⟨#[]⟩,.int .i64 0] 43 (0,0)):=(b1.block _ (by simp)).trans (heap_alloc_new wr _)
   clear b1 x0 x1 xl hS
   generalize wr.heap.size=rb at *
   have r0:w1.cell? ⟨rb,0,none⟩=some (.string ⟨#[]⟩):=(cell_of_block hrx 0).trans rfl
   have r1:w1.cell? ⟨rb,1,none⟩=some (.int .i64 0):=(cell_of_block hrx 1).trans rfl
   have rf:∀ q,w1.frozen? ⟨rb,q,none⟩=false:=fun q=>by simp [World.frozen?,hrx]
   have rl:=block_lt hrx
   have hb:=HX1.out.2.2.2
   have y0:w1.cell? ⟨w.heap.size+2,0,none⟩=some (.string (blkS O)):=(cell_of_block hb 0).trans rfl
   have y1:w1.cell? ⟨w.heap.size+2,1,none⟩=some (.int .i64 (blkN O)):=(cell_of_block hb 1).trans rfl
   have yf:∀ q,w1.frozen? ⟨w.heap.size+2,q,none⟩=false:=fun q=>by simp [World.frozen?,hb]
   have yl:=block_lt hb
   have hne:rb≠w.heap.size+2:=by omega
   have hne2:w.heap.size+2≠rb:=by omega
   clear hrx hb
   cases o2 with
   | none=>
    have HN:=hid_of (HX1.out.keep hrb (.string ⟨#[]⟩) (.int .i64 0))
    clear HX1
    cases O with
    | none=>
     have HBE:=hid_of (HBT.out.trans (show better none none=none from rfl))
     simp only [blkB,blkS,blkN] at y0 y1 ⊢
     clear HBT
     go_wp2_with fail
     go_roundg (3 - (1+1))
     case measure=>omega
     case rel=>exact⟨2,by omega,Nat.le_refl _,by go_num,by rw [HBE.out]; rfl,by rw [HBE.out]; exact HN⟩
    | some z=>
     obtain⟨zs,zn⟩:=z
     have HBE:=hid_of (HBT.out.trans (show better (some (zs,zn)) none=some (zs,zn) from rfl))
     simp only [blkB,blkS,blkN] at y0 y1 ⊢
     clear HBT
     go_wp2_with fail
     go_roundg (3 - (1+1))
     case measure=>omega
     case rel=>exact⟨2,by omega,Nat.le_refl _,by go_num,by rw [HBE.out]; rfl,by rw [HBE.out]; exact HN⟩
   | some y=>
    obtain⟨ys,yn⟩:=y
    have HK:=hid_of (HX1.out.keep hrb (.string ys) (.int .i64 (yn:Int)))
    have HN:=hid_of (HK.out.best ys yn)
    clear HX1
    cases O with
    | none=>
     have HBE:=hid_of (HBT.out.trans (show better none (some (ys,yn))=some (ys,yn) from rfl))
     simp only [blkB,blkS,blkN] at y0 y1 ⊢
     clear HBT HK
     go_wp2_with fail
     go_roundg (3 - (1+1))
     case measure=>omega
     case rel=>exact⟨2,by omega,Nat.le_refl _,by go_num,by rw [HBE.out]; rfl,by rw [HBE.out]; exact HN⟩
    | some z=>
     obtain⟨zs,zn⟩:=z
     simp only [blkB,blkS,blkN] at y0 y1 ⊢
     by_cases hlt:yn < zn
     ·have HBE:=hid_of (HBT.out.trans (show better (some (zs,zn)) (some (ys,yn))=some (ys,yn) from if_pos hlt))
      have dl:decide ((yn:Int) < (zn:Int))=true:=decide_eq_true (by omega)
      have dl2:decide (yn < zn)=true:=decide_eq_true hlt
      clear HBT HK
      go_wp2_with fail
      go_roundg (3 - (1+1))
      case measure=>omega
      case rel=>exact⟨2,by omega,Nat.le_refl _,by go_num,by rw [HBE.out]; rfl,by rw [HBE.out]; exact HN⟩
     ·have HBE:=hid_of (HBT.out.trans (show better (some (zs,zn)) (some (ys,yn))=some (zs,zn) from if_neg hlt))
      have dl:decide ((yn:Int) < (zn:Int))=false:=decide_eq_false (by omega)
      have dl2:decide (yn < zn)=false:=decide_eq_false hlt
      clear HBT HN
      go_wp2_with fail
      go_roundg (3 - (1+1))
      case measure=>omega
      case rel=>exact⟨2,by omega,Nat.le_refl _,by go_num,by rw [HBE.out]; rfl,by rw [HBE.out]; exact HK⟩
  ·have HBT:Hid (bestTo o1 o2 o3 3=better (bestTo o1 o2 o3 2) o3):=rfl
   generalize bestTo o1 o2 o3 2=O at hS HBT ⊢
   obtain⟨x0,x1,xl⟩:wr.cell? ⟨w.heap.size,0,none⟩=some (.string s)∧wr.cell? ⟨w.heap.size,1,none⟩=some (.int .i64 c)∧w.heap.size < wr.heap.size:=⟨(cell_of_block hS.out.2.1 0).trans rfl,(cell_of_block hS.out.2.1 1).trans rfl,block_lt hS.out.2.1⟩
   have hrb:w.heap.size+3≤wr.heap.size:=block_lt hS.out.2.2.2
   go_wp2_with fail
   refine (H3.out _ (HC.out.called (bnext hS.out.1 (bstart _ _)))).mono ?_
   rintro e w1 ⟨rfl,b1⟩
   have HX1:=hid_of ((hS.out.called (bstart _ _)).called b1)
   have hrx:w1.heap[wr.heap.size]?=some (.cells #[.string ⟨#[]⟩,.int .i64 0] 43 (0,0)):=(b1.block _ (by simp)).trans (heap_alloc_new wr _)
   clear b1 x0 x1 xl hS
   generalize wr.heap.size=rb at *
   have r0:w1.cell? ⟨rb,0,none⟩=some (.string ⟨#[]⟩):=(cell_of_block hrx 0).trans rfl
   have r1:w1.cell? ⟨rb,1,none⟩=some (.int .i64 0):=(cell_of_block hrx 1).trans rfl
   have rf:∀ q,w1.frozen? ⟨rb,q,none⟩=false:=fun q=>by simp [World.frozen?,hrx]
   have rl:=block_lt hrx
   have hb:=HX1.out.2.2.2
   have y0:w1.cell? ⟨w.heap.size+2,0,none⟩=some (.string (blkS O)):=(cell_of_block hb 0).trans rfl
   have y1:w1.cell? ⟨w.heap.size+2,1,none⟩=some (.int .i64 (blkN O)):=(cell_of_block hb 1).trans rfl
   have yf:∀ q,w1.frozen? ⟨w.heap.size+2,q,none⟩=false:=fun q=>by simp [World.frozen?,hb]
   have yl:=block_lt hb
   have hne:rb≠w.heap.size+2:=by omega
   have hne2:w.heap.size+2≠rb:=by omega
   clear hrx hb
   cases o3 with
   | none=>
    have HN:=hid_of (HX1.out.keep hrb (.string ⟨#[]⟩) (.int .i64 0))
    clear HX1
    cases O with
    | none=>
     have HBE:=hid_of (HBT.out.trans (show better none none=none from rfl))
     simp only [blkB,blkS,blkN] at y0 y1 ⊢
     clear HBT
     go_wp2_with fail
     go_roundg (3 - (2+1))
     case measure=>omega
     case rel=>exact⟨3,by omega,Nat.le_refl _,by go_num,by rw [HBE.out]; rfl,by rw [HBE.out]; exact HN⟩
    | some z=>
     obtain⟨zs,zn⟩:=z
     have HBE:=hid_of (HBT.out.trans (show better (some (zs,zn)) none=some (zs,zn) from rfl))
     simp only [blkB,blkS,blkN] at y0 y1 ⊢
     clear HBT
     go_wp2_with fail
     go_roundg (3 - (2+1))
     case measure=>omega
     case rel=>exact⟨3,by omega,Nat.le_refl _,by go_num,by rw [HBE.out]; rfl,by rw [HBE.out]; exact HN⟩
   | some y=>
    obtain⟨ys,yn⟩:=y
    have HK:=hid_of (HX1.out.keep hrb (.string ys) (.int .i64 (yn:Int)))
    have HN:=hid_of (HK.out.best ys yn)
    clear HX1
    cases O with
    | none=>
     have HBE:=hid_of (HBT.out.trans (show better none (some (ys,yn))=some (ys,yn) from rfl))
     simp only [blkB,blkS,blkN] at y0 y1 ⊢
     clear HBT HK
     go_wp2_with fail
     go_roundg (3 - (2+1))
     case measure=>omega
     case rel=>exact⟨3,by omega,Nat.le_refl _,by go_num,by rw [HBE.out]; rfl,by rw [HBE.out]; exact HN⟩
    | some z=>
     obtain⟨zs,zn⟩:=z
     simp only [blkB,blkS,blkN] at y0 y1 ⊢
     by_cases hlt:yn < zn
     ·have HBE:=hid_of (HBT.out.trans (show better (some (zs,zn)) (some (ys,yn))=some (ys,yn) from if_pos hlt))
      have dl:decide ((yn:Int) < (zn:Int))=true:=decide_eq_true (by omega)
      have dl2:decide (yn < zn)=true:=decide_eq_true hlt
      clear HBT HK
      go_wp2_with fail
      go_roundg (3 - (2+1))
      case measure=>omega
      case rel=>exact⟨3,by omega,Nat.le_refl _,by go_num,by rw [HBE.out]; rfl,by rw [HBE.out]; exact HN⟩
     ·have HBE:=hid_of (HBT.out.trans (show better (some (zs,zn)) (some (ys,yn))=some (zs,zn) from if_neg hlt))
      have dl:decide ((yn:Int) < (zn:Int))=false:=decide_eq_false (by omega)
      have dl2:decide (yn < zn)=false:=decide_eq_false hlt
      clear HBT HN
      go_wp2_with fail
      go_roundg (3 - (2+1))
      case measure=>omega
      case rel=>exact⟨3,by omega,Nat.le_refl _,by go_num,by rw [HBE.out]; rfl,by rw [HBE.out]; exact HK⟩
  ·obtain⟨oo,hoo⟩:∃ oo,oo=bestTo o1 o2 o3 3:=⟨_,rfl⟩
   rw[← hoo] at hS HE ⊢
   clear hoo
   obtain⟨z1,z2,z3,z4⟩:=hS.out
   have r0:wr.cell? ⟨w.heap.size+1,0,none⟩=some (.string ⟨#[]⟩):=(cell_of_block z3 0).trans rfl
   have r1:wr.cell? ⟨w.heap.size+1,1,none⟩=some (.int .i64 0):=(cell_of_block z3 1).trans rfl
   have rf:∀ q,wr.frozen? ⟨w.heap.size+1,q,none⟩=false:=fun q=>by simp [World.frozen?,z3]
   have rl:=block_lt z3
   have y0:wr.cell? ⟨w.heap.size+2,0,none⟩=some (.string (blkS oo)):=(cell_of_block z4 0).trans rfl
   have y1:wr.cell? ⟨w.heap.size+2,1,none⟩=some (.int .i64 (blkN oo)):=(cell_of_block z4 1).trans rfl
   have yl:=block_lt z4
   have HB6:=hid_of z1
   have HAN:=hid_of (blkAns_parts oo)
   clear z1 z2 z3 z4 hS
   generalize blkS oo=bs at *
   generalize blkN oo=bn at *
   generalize blkB oo=bb at *
   go_wp2_with fail
   refine bodyPost_ret (v:=.tuple #[.agg #[.string bs,.int .i64 bn],.bool bb]) ?_ rfl ⟨by rw [HE.out,HAN.out],?_⟩
   ·simp[results,Tryz.results42,go_sem,r0,r1]
   ·exact two_below HB6.out (Nat.le_succ _) _ _
end
section
open Go.RowKit Go.Joins TokMath SearchMath
set_option maxHeartbeats 1600000 in
theorem specThree (s:ByteArray) (a b:Nat) (w:World) (hab:a≤b) (hb:b < s.size) (hs:s.size≤2600):
  Calls Tryz.prog 104 #[.string s,.int .i64 (a:Int),.int .i64 (b:Int)] w fun e w'=>e=.returned (.bool (decide (Three (txt s) s.size a b)))∧Below w.heap.size w w':=by
 go_enter Tryz.func104,Tryz.ntmps104
 go_wp2_with fail
 go_loopw [7] (fun i w'=>∃ (j:Nat),j≤3∧i=.int .i64 j∧Hid (Below w.heap.size w w'∧∀ q,q < j→b+q < s.size∧txt s (a+q)=txt s (b+q))) (fun i _=>3 - (intOf i).toNat)
 case atStart=>exact⟨0,Nat.zero_le _,rfl,Below.refl _ _,fun q hq=>by omega⟩
 case round=>
  obtain⟨j,hj,rfl,hS⟩:=hrel
  by_cases hlt:j < 3
  ·by_cases hin:b+j < s.size
   ·have d1:decide ((s.size:Int)≤(b:Int)+(j:Int))=false:=decide_eq_false (by omega)
    have d1':¬ (s.size:Int)≤(b:Int)+(j:Int):=by omega
    have e1:((b:Int)+(j:Int)).toNat=b+j:=by omega
    have e2:((a:Int)+(j:Int)).toNat=a+j:=by omega
    have e3:(a:Int)+(j:Int) < (s.size:Int):=by omega
    have e4:(0:Int)≤(a:Int)+(j:Int):=by omega
    have e5:(0:Int)≤(b:Int)+(j:Int):=by omega
    have h1:a+j < s.size:=by omega
    have g1:=txt_get s (a+j) h1
    have g2:=txt_get s (b+j) hin
    by_cases hsame:txt s (a+j)=txt s (b+j)
    ·have d2:(((s[a+j]'h1).toNat:Int) != ((s[b+j]'hin).toNat:Int))=false:=by
      rw[g1,g2,hsame]
      simp
     have HN:Hid (∀ q,q < j+1→b+q < s.size∧txt s (a+q)=txt s (b+q)):=fun q hq=>by
      by_cases e:q=j
      ·subst e
       exact⟨hin,hsame⟩
      ·exact hS.out.2 q (by omega)
     clear hsame g1 g2
     go_wp2_with fail
     go_quiet (fail)
     go_wp2_with fail
     go_roundw
     case rel=>exact⟨j+1,by omega,by go_num,bdraws hS.out.1 _,HN.out⟩
     case measure=>simp [intOf]; omega
    ·have d2:(((s[a+j]'h1).toNat:Int) != ((s[b+j]'hin).toNat:Int))=true:=by
      rw[g1,g2]
      simp
      omega
     have HN:Hid (decide (Three (txt s) s.size a b)=false):=by
      refine decide_eq_false (fun q=>hsame ?_)
      match j,hlt with
      | 0,_=>exact q.2.1
      | 1,_=>exact q.2.2.1
      | 2,_=>exact q.2.2.2
     clear hsame g1 g2
     go_wp2_with fail
     go_quiet (fail)
     go_wp2_with fail
     go_ret
     rw[HN.out]
     exact⟨rfl,bdraws hS.out.1 _⟩
   ·have d1:decide ((s.size:Int)≤(b:Int)+(j:Int))=true:=decide_eq_true (by omega)
    have d1':(s.size:Int)≤(b:Int)+(j:Int):=by omega
    have HN:Hid (decide (Three (txt s) s.size a b)=false):=decide_eq_false (fun q=>by have:=q.1; omega)
    go_wp2_with fail
    go_quiet (fail)
    go_wp2_with fail
    go_ret
    rw[HN.out]
    exact⟨rfl,bdraws hS.out.1 _⟩
  ·obtain rfl:j=3:=by omega
   have HN:Hid (decide (Three (txt s) s.size a b)=true):=decide_eq_true ⟨(hS.out.2 2 (by omega)).1,(hS.out.2 0 (by omega)).2,(hS.out.2 1 (by omega)).2,(hS.out.2 2 (by omega)).2⟩
   go_wp2_with fail
   go_ret
   rw[HN.out]
   exact⟨rfl,hS.out.1⟩
theorem places_yes {f:Nat→Nat} {N at' k:Nat} (h:Three f N k at'):SearchMath.places f N at' (k+1)=k :: SearchMath.places f N at' k:=by
 show (if Three f N k at' then k :: SearchMath.places f N at' k else SearchMath.places f N at' k)=_
 rw[if_pos h]
theorem places_no {f:Nat→Nat} {N at' k:Nat} (h:¬ Three f N k at'):SearchMath.places f N at' (k+1)=SearchMath.places f N at' k:=by
 show (if Three f N k at' then k :: SearchMath.places f N at' k else SearchMath.places f N at' k)=_
 rw[if_neg h]
theorem pick_take_zero {f:Nat→Nat} {N at':Nat} (l:List Nat) (b d:Nat):pick f N at' (l.take 0) b d=(b,d):=by
 rw[List.take_zero]
 rfl
set_option maxHeartbeats 3200000 in
theorem specBest_in (s:ByteArray) (t chain:Nat) (w:World) (ht:t < s.size) (hs:s.size≤2600) (hc1:1≤chain) (hc2:chain≤64):
  Calls Tryz.prog 66 #[.string s,.int .i64 (t:Int),.int .i64 (chain:Int)] w fun e w'=>e=.returned (.tuple #[.int .i64 ((bestM (txt s) s.size t chain).1:Nat),.int .i64 ((bestM (txt s) s.size t chain).2:Nat)])∧Below w.heap.size w w':=by
 obtain⟨P,hP⟩:∃ P,P=bestM (txt s) s.size t chain:=⟨_,rfl⟩
 rw[← hP]
 have HP:=hid_of hP
 clear hP
 have d0:decide ((2600:Int) < (s.size:Int))=false:=decide_eq_false (by omega)
 have d0':decide (2600 < s.size)=false:=decide_eq_false (by omega)
 go_enter Tryz.func66,Tryz.ntmps66
 go_wp2_with fail
 refine (in_yes _ _ _ _ (by omega) (by omega)).mono ?_
 rintro e w1 ⟨rfl,rfl⟩
 go_wp2_with fail
 refine (in_yes _ _ _ _ (by omega) (by omega)).mono ?_
 rintro e w2 ⟨rfl,rfl⟩
 go_wp2_with fail
 go_loopg [8,9,10,11] (t+1) (fun gk x y z k w'=>∃ (K q b d:Nat),K≤gk∧K≤t∧q≤chain∧k=.int .i64 ((K:Int) - 1)∧z=.int .i64 (q:Int)∧x=.int .i64 (b:Int)∧y=.int .i64 (d:Int)∧b≤258∧d≤t∧Hid (Below w2.heap.size w2 w'∧pick (txt s) s.size t ((SearchMath.places (txt s) s.size t K).take (chain - q)) b d=P))
 case atStart=>exact⟨t,0,0,0,by omega,Nat.le_refl _,by omega,rfl,rfl,rfl,rfl,by omega,by omega,Below.refl _ _,by rw [HP.out]; rfl⟩
 case round=>
  obtain⟨K,q,b,d,hKg,hK,hq,rfl,rfl,rfl,rfl,hb,hd,hS⟩:=hrel
  cases K with
  | zero=>
   have HZ:Hid (Below w2.heap.size w2 wr∧(b,d)=P):=by
    refine⟨hS.out.1,?_⟩
    rw[← hS.out.2]
    show _=pick (txt s) s.size t (List.take (chain - q) []) b d
    rw[List.take_nil]
    rfl
   rw[show (((0:Nat):Int) - 1)=-1 from rfl]
   go_wp2_with fail
   go_ret2
   rw[← HZ.out.2]
   exact⟨rfl,HZ.out.1⟩
  | succ k0=>
   rw[show (((k0+1:Nat):Int) - 1)=(k0:Int) by omega]
   by_cases hqc:q < chain
   ·have dq:decide ((q:Int) < (chain:Int))=true:=decide_eq_true (by omega)
    have hth:=specThree s k0 t wr (by omega) ht hs
    by_cases hT:Three (txt s) s.size k0 t
    ·rw[decide_eq_true hT] at hth
     have HT:=hid_of hT
     clear hT
     go_wp2_with fail
     refine hth.mono ?_
     rintro e w3 ⟨rfl,hB3⟩
     clear hth
     have HB3:=hid_of (bnext hS.out.1 hB3)
     clear hB3
     go_wp2_with fail
     go_loopg [12] 259 (fun gk v w'=>∃ n:Nat,n≤258∧258 - n≤gk∧v=.int .i64 (n:Int)∧Hid (Below w2.heap.size w2 w'∧∀ i,i < n→t+i < s.size∧txt s (k0+i)=txt s (t+i)))
     case atStart=>exact⟨0,by omega,by omega,rfl,HB3.out,fun i hi=>by omega⟩
     case round=>
      clear HB3
      obtain⟨n,hn,hgn,rfl,hN⟩:=hrel
      by_cases hn8:n < 258
      ·have dn:decide ((n:Int) < 258)=true:=decide_eq_true (by omega)
       have dn':decide (n < 258)=true:=decide_eq_true hn8
       have k1:((t:Int)+(n:Int)).toNat=t+n:=by omega
       have k2:((k0:Int)+(n:Int)).toNat=k0+n:=by omega
       have k4:(0:Int)≤(k0:Int)+(n:Int):=by omega
       have k5:(0:Int)≤(t:Int)+(n:Int):=by omega
       by_cases hin:t+n < s.size
       ·have di:decide ((t:Int)+(n:Int) < (s.size:Int))=true:=decide_eq_true (by omega)
        have di':(t:Int)+(n:Int) < (s.size:Int):=by omega
        have k3:(k0:Int)+(n:Int) < (s.size:Int):=by omega
        have h1:k0+n < s.size:=by omega
        have g1:=txt_get s (k0+n) h1
        have g2:=txt_get s (t+n) hin
        by_cases hsame:txt s (k0+n)=txt s (t+n)
        ·have d2:(((s[k0+n]'h1).toNat:Int) == ((s[t+n]'hin).toNat:Int))=true:=by
          rw[g1,g2,hsame]
          simp
         have HN:Hid (∀ i,i < n+1→t+i < s.size∧txt s (k0+i)=txt s (t+i)):=fun i hi=>by
          by_cases e:i=n
          ·subst e
           exact⟨hin,hsame⟩
          ·exact hN.out.2 i (by omega)
         clear hsame g1 g2
         go_wp2_with fail
         go_quiet (fail)
         go_wp2_with fail
         go_roundg (258 - (n+1))
         case measure=>omega
         case rel=>exact⟨n+1,by omega,Nat.le_refl _,by go_num,bdraws hN.out.1 _,HN.out⟩
        ·have d2:(((s[k0+n]'h1).toNat:Int) == ((s[t+n]'hin).toNat:Int))=false:=by
          rw[g1,g2]
          simp
          omega
         have HC:Hid (common (txt s) s.size k0 t 258=n):=common_eq hn hN.out.2 (.inr (fun z=>hsame z.2))
         clear hsame g1 g2
         go_wp2_with fail
         go_quiet (fail)
         have HBW:=hid_of (bdraws hN.out.1 nq)
         generalize wr.drewN nq=W at HBW
         have HPK:Hid (pick (txt s) s.size t ((SearchMath.places (txt s) s.size t (k0+1)).take (chain - q)) b d=pick (txt s) s.size t (k0 :: (SearchMath.places (txt s) s.size t k0).take (chain - (q+1))) b d):=by
          show _=_
          rw[places_yes HT.out,show chain - q=chain - (q+1)+1 by omega,List.take_succ_cons]
         by_cases hbn:b < n
         ·have dbn:decide ((b:Int) < (n:Int))=true:=decide_eq_true (by omega)
          have dbn':decide (b < n)=true:=decide_eq_true hbn
          have HX:Hid (Below w2.heap.size w2 W∧pick (txt s) s.size t ((SearchMath.places (txt s) s.size t k0).take (chain - (q+1))) n (t - k0)=P):=by
           refine⟨HBW.out,?_⟩
           rw[← hS.out.2,HPK.out]
           show _=(if b < common (txt s) s.size k0 t 258 then _ else _)
           rw[HC.out,if_pos hbn]
          clear HPK HC HBW
          go_wp2_with fail
          go_roundg k0
          case measure=>omega
          case rel=>exact⟨k0,q+1,n,t - k0,Nat.le_refl _,by omega,by omega,rfl,by go_num,rfl,by rw [show ((t - k0:Nat):Int)=(t:Int) - (k0:Int) by omega],by omega,by omega,HX⟩
         ·have dbn:decide ((b:Int) < (n:Int))=false:=decide_eq_false (by omega)
          have dbn':decide (b < n)=false:=decide_eq_false hbn
          have HX:Hid (Below w2.heap.size w2 W∧pick (txt s) s.size t ((SearchMath.places (txt s) s.size t k0).take (chain - (q+1))) b d=P):=by
           refine⟨HBW.out,?_⟩
           rw[← hS.out.2,HPK.out]
           show _=(if b < common (txt s) s.size k0 t 258 then _ else _)
           rw[HC.out,if_neg hbn]
          clear HPK HC HBW
          go_wp2_with fail
          go_roundg k0
          case measure=>omega
          case rel=>exact⟨k0,q+1,b,d,Nat.le_refl _,by omega,by omega,rfl,by go_num,rfl,rfl,by omega,by omega,HX⟩
       ·have di:decide ((t:Int)+(n:Int) < (s.size:Int))=false:=decide_eq_false (by omega)
        have di':¬ (t:Int)+(n:Int) < (s.size:Int):=by omega
        have HC:Hid (common (txt s) s.size k0 t 258=n):=common_eq hn hN.out.2 (.inr (fun z=>hin z.1))
        go_wp2_with fail
        go_quiet (fail)
        have HBW:=hid_of (bdraws hN.out.1 nq)
        generalize wr.drewN nq=W at HBW
        have HPK:Hid (pick (txt s) s.size t ((SearchMath.places (txt s) s.size t (k0+1)).take (chain - q)) b d=pick (txt s) s.size t (k0 :: (SearchMath.places (txt s) s.size t k0).take (chain - (q+1))) b d):=by
         show _=_
         rw[places_yes HT.out,show chain - q=chain - (q+1)+1 by omega,List.take_succ_cons]
        by_cases hbn:b < n
        ·have dbn:decide ((b:Int) < (n:Int))=true:=decide_eq_true (by omega)
         have dbn':decide (b < n)=true:=decide_eq_true hbn
         have HX:Hid (Below w2.heap.size w2 W∧pick (txt s) s.size t ((SearchMath.places (txt s) s.size t k0).take (chain - (q+1))) n (t - k0)=P):=by
          refine⟨HBW.out,?_⟩
          rw[← hS.out.2,HPK.out]
          show _=(if b < common (txt s) s.size k0 t 258 then _ else _)
          rw[HC.out,if_pos hbn]
         clear HPK HC HBW
         go_wp2_with fail
         go_roundg k0
         case measure=>omega
         case rel=>exact⟨k0,q+1,n,t - k0,Nat.le_refl _,by omega,by omega,rfl,by go_num,rfl,by rw [show ((t - k0:Nat):Int)=(t:Int) - (k0:Int) by omega],by omega,by omega,HX⟩
        ·have dbn:decide ((b:Int) < (n:Int))=false:=decide_eq_false (by omega)
         have dbn':decide (b < n)=false:=decide_eq_false hbn
         have HX:Hid (Below w2.heap.size w2 W∧pick (txt s) s.size t ((SearchMath.places (txt s) s.size t k0).take (chain - (q+1))) b d=P):=by
          refine⟨HBW.out,?_⟩
          rw[← hS.out.2,HPK.out]
          show _=(if b < common (txt s) s.size k0 t 258 then _ else _)
          rw[HC.out,if_neg hbn]
         clear HPK HC HBW
         go_wp2_with fail
         go_roundg k0
         case measure=>omega
         case rel=>exact⟨k0,q+1,b,d,Nat.le_refl _,by omega,by omega,rfl,by go_num,rfl,rfl,by omega,by omega,HX⟩
      ·obtain rfl:n=258:=by omega
       have HC:Hid (common (txt s) s.size k0 t 258=258):=common_eq hn hN.out.2 (.inl rfl)
       go_wp2_with fail
       go_quiet (fail)
       have HBW:=hid_of (bdraws hN.out.1 nq)
       generalize wr.drewN nq=W at HBW
       have HPK:Hid (pick (txt s) s.size t ((SearchMath.places (txt s) s.size t (k0+1)).take (chain - q)) b d=pick (txt s) s.size t (k0 :: (SearchMath.places (txt s) s.size t k0).take (chain - (q+1))) b d):=by
        show _=_
        rw[places_yes HT.out,show chain - q=chain - (q+1)+1 by omega,List.take_succ_cons]
       by_cases hbn:b < 258
       ·have dbn:decide ((b:Int) < (258:Int))=true:=decide_eq_true (by omega)
        have dbn':decide (b < 258)=true:=decide_eq_true hbn
        have HX:Hid (Below w2.heap.size w2 W∧pick (txt s) s.size t ((SearchMath.places (txt s) s.size t k0).take (chain - (q+1))) 258 (t - k0)=P):=by
         refine⟨HBW.out,?_⟩
         rw[← hS.out.2,HPK.out]
         show _=(if b < common (txt s) s.size k0 t 258 then _ else _)
         rw[HC.out,if_pos hbn]
        clear HPK HC HBW
        go_wp2_with fail
        go_roundg k0
        case measure=>omega
        case rel=>exact⟨k0,q+1,258,t - k0,Nat.le_refl _,by omega,by omega,rfl,by go_num,rfl,by rw [show ((t - k0:Nat):Int)=(t:Int) - (k0:Int) by omega],by omega,by omega,HX⟩
       ·have dbn:decide ((b:Int) < (258:Int))=false:=decide_eq_false (by omega)
        have dbn':decide (b < 258)=false:=decide_eq_false hbn
        have HX:Hid (Below w2.heap.size w2 W∧pick (txt s) s.size t ((SearchMath.places (txt s) s.size t k0).take (chain - (q+1))) b d=P):=by
         refine⟨HBW.out,?_⟩
         rw[← hS.out.2,HPK.out]
         show _=(if b < common (txt s) s.size k0 t 258 then _ else _)
         rw[HC.out,if_neg hbn]
        clear HPK HC HBW
        go_wp2_with fail
        go_roundg k0
        case measure=>omega
        case rel=>exact⟨k0,q+1,b,d,Nat.le_refl _,by omega,by omega,rfl,by go_num,rfl,rfl,by omega,by omega,HX⟩
    ·rw[decide_eq_false hT] at hth
     have HX:Hid (pick (txt s) s.size t ((SearchMath.places (txt s) s.size t k0).take (chain - q)) b d=P):=by
      show _=_
      rw[← hS.out.2,places_no hT]
     clear hT
     go_wp2_with fail
     refine hth.mono ?_
     rintro e w3 ⟨rfl,hB3⟩
     clear hth
     have HB3:=hid_of (bnext hS.out.1 hB3)
     clear hB3
     go_wp2_with fail
     go_roundg k0
     case measure=>omega
     case rel=>exact⟨k0,q,b,d,Nat.le_refl _,by omega,hq,rfl,rfl,rfl,rfl,hb,hd,HB3.out,HX.out⟩
   ·obtain rfl:q=chain:=by omega
    have dq:decide ((q:Int) < (q:Int))=false:=decide_eq_false (by omega)
    have HZ:Hid (Below w2.heap.size w2 wr∧(b,d)=P):=by
     refine⟨hS.out.1,?_⟩
     rw[← hS.out.2,Nat.sub_self,pick_take_zero]
    go_wp2_with fail
    go_ret2
    rw[← HZ.out.2]
    exact⟨rfl,HZ.out.1⟩
end
end Go.Proofs.YtklpiihnbokkkaaGreatDoor
