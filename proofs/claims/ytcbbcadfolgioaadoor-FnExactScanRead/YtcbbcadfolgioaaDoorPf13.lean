/-
  Texts of the proof, put together.
-/
import Derived.Test.YtcbbcadfolgioaaDoorPf08
namespace Go.Proofs.YtcbbcadfolgioaaDoor
section
open Go.RowKit Go.Joins PassMath ScanMath
def SzC (w:World) (a:Option Addr) (K:Nat) (P Q:Nat→Nat):Prop:=∃ g,a=some ⟨g,0,none⟩∧g < w.heap.size∧∀ j,j < K→∃ b,w.cell? ⟨g,j,none⟩=some (.slice (some ⟨b,0,none⟩) 2 2)∧b < w.heap.size∧w.cell? ⟨b,0,none⟩=some (.int .i64 (P j:Int))∧w.cell? ⟨b,1,none⟩=some (.int .i64 (Q j:Int))
theorem SzC.called {w w':World} {a:Option Addr} {K:Nat} {P Q:Nat→Nat} (h:SzC w a K P Q) (hb:Below w.heap.size w w'):SzC w' a K P Q:=by
 obtain⟨g,ha,hg,hc⟩:=h
 refine⟨g,ha,Nat.lt_of_lt_of_le hg hb.size,fun j hj=>?_⟩
 obtain⟨b,h1,h2,h3,h4⟩:=hc j hj
 exact⟨b,(hb.cell (p:=⟨g,j,none⟩) hg).trans h1,Nat.lt_of_lt_of_le h2 hb.size,(hb.cell (p:=⟨b,0,none⟩) h2).trans h3,(hb.cell (p:=⟨b,1,none⟩) h2).trans h4⟩
theorem info_ints15:(Tryd.prog.info? 24).map (fun i=>(i.zero,i.size,i.bytes))=some (some (.slice none 0 0),1,24):=by kernel_rfl
def pairsV (B:Nat→Nat) (n:Nat):List Value:=(List.range n).map fun j=>.slice (some ⟨B j,0,none⟩) 2 2
def SzI (w w':World) (g cap n:Nat) (P Q:Nat→Nat):Prop:=∃ B:Nat→Nat,w'.ownsRow w.heap.size 24 1 (.slice (some ⟨g,0,none⟩) n cap) n (pairsV B n)∧(∀ j,j < n→w'.heap[B j]?=some (.cells #[.int .i64 (P j:Int),.int .i64 (Q j:Int)] 3 (0,0))∧B j≠g∧w.heap.size≤B j)∧Below w.heap.size w w'
theorem SzI.out {w w':World} {g cap n:Nat} {P Q:Nat→Nat} (h:SzI w w' g cap n P Q):SzC w' (some ⟨g,0,none⟩) n P Q:=by
 obtain⟨B,hO,hB,_⟩:=h
 have hg:g < w'.heap.size:=by
  rcases hO.2 with ⟨e,_⟩ | ⟨g',c',cur,e,_,q,_⟩
  ·cases e
  ·cases e
   exact block_lt q
 refine⟨g,rfl,hg,fun j hj=>⟨B j,?_,block_lt (hB j hj).1,(cell_of_block (hB j hj).1 0).trans rfl,(cell_of_block (hB j hj).1 1).trans rfl⟩⟩
 rcases hO.2 with ⟨e,_⟩ | ⟨g',c',cur,e,_,q,q1,q2,q3,q4⟩
 ·cases e
 ·cases e
  have e1:w'.cell? ⟨g,j,none⟩=cur[j]?:=cell_of_block q j
  have e2:(cur.toList.take (n * 1))[j]?=cur[j]?:=by
   rw[List.getElem?_take,if_pos (by omega)]
   simp
  rw[e1,← e2,q4]
  simp[pairsV,hj]
theorem SzI.next {w wr w2:World} {g cap n g' cap':Nat} {P Q:Nat→Nat} {o o2:Obj} {B:Nat→Nat} (hO:wr.ownsRow w.heap.size 24 1 (.slice (some ⟨g,0,none⟩) n cap) n (pairsV B n)) (hB:∀ j,j < n→wr.heap[B j]?=some (.cells #[.int .i64 (P j:Int),.int .i64 (Q j:Int)] 3 (0,0))∧B j≠g∧w.heap.size≤B j) (hb:Below w.heap.size w wr)
  (ho:o=.cells #[.int .i64 (P n:Int),.int .i64 (Q n:Int)] 3)
  (hA:w2.ownsRow w.heap.size 24 1 (.slice (some ⟨g',0,none⟩) (n+1) cap') (n+1) (pairsV B n ++ [.slice (some ⟨wr.heap.size,0,none⟩) 2 2])) (hg:((wr.alloc o).alloc o2).grownBy w2 (some g)) (hgg:some g=some g'∨g'=((wr.alloc o).alloc o2).heap.size):SzI w w2 g' cap' (n+1) P Q:=by
 have hgb:w.heap.size≤g∧g < wr.heap.size:=by
  rcases hO.2 with ⟨e,_⟩ | ⟨g1,c1,cur,e,h1,q,_⟩
  ·cases e
  ·cases e
   exact⟨h1,block_lt q⟩
 have hs2:((wr.alloc o).alloc o2).heap.size=wr.heap.size+2:=by simp
 have hold:∀ b,b < wr.heap.size→b≠g→w2.heap[b]?=wr.heap[b]?:=fun b h1 h2=>by
  rw[hg.block b (by rw [hs2]; omega) (fun e=>h2 (Option.some.inj e)),Below.heap_alloc _ _ _ (by simp; omega),Below.heap_alloc _ _ _ h1]
 have hnew:w2.heap[wr.heap.size]?=some (.cells #[.int .i64 (P n:Int),.int .i64 (Q n:Int)] 3 (0,0)):=by
  rw[hg.block wr.heap.size (by rw [hs2]; omega) (fun e=>by have:=Option.some.inj e; omega),Below.heap_alloc _ _ _ (by simp),ho]
  exact heap_alloc_new wr _
 refine⟨fun j=>if j=n then wr.heap.size else B j,?_,fun j hj=>?_,?_⟩
 ·have e:pairsV (fun j=>if j=n then wr.heap.size else B j) (n+1)=pairsV B n ++ [.slice (some ⟨wr.heap.size,0,none⟩) 2 2]:=by
   unfold pairsV
   rw[List.range_succ,List.map_append]
   congr 1
   ·refine List.map_congr_left fun i hi=>?_
    have:=List.mem_range.mp hi
    simp only [if_neg (show ¬ i=n by omega)]
   ·simp
  rw[e]
  exact hA
 ·by_cases e:j=n
  ·subst e
   simp only [if_pos]
   refine⟨hnew,?_,hb.size⟩
   rcases hgg with q | q
   ·have:=Option.some.inj q
    omega
   ·omega
  ·simp only [if_neg e]
   obtain⟨h1,h2,h3⟩:=hB j (by omega)
   refine⟨(hold _ (block_lt h1) h2).trans h1,?_,h3⟩
   have:=block_lt h1
   rcases hgg with q | q
   ·rw[← Option.some.inj q]
    exact h2
   ·omega
 ·refine⟨hg.os.trans hb.os,hg.tape.trans hb.tape,hg.output.trans hb.output,?_,fun b h1=>?_⟩
  ·have:=hg.size
   have:=hb.size
   omega
  ·rw[hold b (Nat.lt_of_lt_of_le h1 hb.size) (by omega)]
   exact hb.block b h1
set_option maxHeartbeats 3200000 in
theorem specSizes (lace:Bool) (W H:Nat) (w:World) (hW:1≤W∧W≤24) (hH:1≤H∧H≤24):
  Calls Tryd.prog 66 #[.int .i64 (W:Int),.int .i64 (H:Int),.bool lace] w fun e w'=>∃ a' c',e=.returned (.slice a' (cntL lace) c')∧SzC w' a' (cntL lace) (cwL lace W H) (chL lace W H)∧Below w.heap.size w w':=by
 cases lace with
 | false=>
  have HB:=hid_of (bal (bstart w (.cells #[.int .i64 (W:Int),.int .i64 (H:Int)] 3)) (.cells #[.slice (some ⟨w.heap.size,0,none⟩) 2 2] 24))
  have HX:Hid (((w.alloc (.cells #[.int .i64 (W:Int),.int .i64 (H:Int)] 3)).alloc (.cells #[.slice (some ⟨w.heap.size,0,none⟩) 2 2] 24)).heap[w.heap.size]?=some (.cells #[.int .i64 (W:Int),.int .i64 (H:Int)] 3 (0,0))):=(Below.heap_alloc (w.alloc _) _ _ (by simp)).trans (heap_alloc_new w _)
  have HY:Hid (((w.alloc (.cells #[.int .i64 (W:Int),.int .i64 (H:Int)] 3)).alloc (.cells #[.slice (some ⟨w.heap.size,0,none⟩) 2 2] 24)).heap[w.heap.size+1]?=some (.cells #[.slice (some ⟨w.heap.size,0,none⟩) 2 2] 24 (0,0))):=by
   have:=heap_alloc_new (w.alloc (.cells #[.int .i64 (W:Int),.int .i64 (H:Int)] 3)) (.cells #[.slice (some ⟨w.heap.size,0,none⟩) 2 2] 24)
   rw[show (w.alloc (.cells #[.int .i64 (W:Int),.int .i64 (H:Int)] 3)).heap.size=w.heap.size+1 by simp] at this
   exact this
  show Calls _ _ _ _ fun e w'=>∃ a' c',e=.returned (.slice a' 1 c')∧SzC w' a' 1 (cwL false W H) (chL false W H)∧Below w.heap.size w w'
  go_enter Tryd.func66,Tryd.ntmps66
  go_wp2_with fail
  go_ret
  refine⟨_,_,rfl,⟨w.heap.size+1,rfl,block_lt HY.out,fun j hj=>?_⟩,HB.out⟩
  obtain rfl:j=0:=by omega
  exact⟨w.heap.size,(cell_of_block HY.out 0).trans rfl,block_lt HX.out,(cell_of_block HX.out 0).trans rfl,(cell_of_block HX.out 1).trans rfl⟩
 | true=>
  have HPS:Hid (∀ (p:Nat),p < 7→∀ V,Calls Tryd.prog 59 #[.int .i64 (W:Int),.int .i64 (H:Int),.int .i64 (p:Int)] V fun e w'=>e=.returned (.tuple #[.int .i64 (pw W H p:Int),.int .i64 (ph W H p:Int)])∧w'=V):=fun p hp V=>specPassSize_in W H p V hW hH hp
  obtain⟨i0,hi0,hz0,hz1,hz2⟩:=info_parts info_ints15
  have HI0:=hid_of (And.intro hi0 (And.intro hz0 (And.intro hz1 hz2)))
  have H0:Hid (SzI w (w.alloc (.cells #[] 24)) w.heap.size 0 0 (pw W H) (ph W H)):=⟨fun _=>0,⟨rfl,.inr ⟨w.heap.size,0,#[],rfl,Nat.le_refl _,heap_alloc_new w _,Nat.le_refl _,Nat.zero_le _,rfl,rfl⟩⟩,fun j hj=>absurd hj (Nat.not_lt_zero j),bstart _ _⟩
  show Calls _ _ _ _ fun e w'=>∃ a' c',e=.returned (.slice a' 7 c')∧SzC w' a' 7 (pw W H) (ph W H)∧Below w.heap.size w w'
  clear hi0 hz0 hz1 hz2
  go_enter Tryd.func66,Tryd.ntmps66
  go_wp2_with fail
  go_loopg [7,8] 8 (fun gk v i w'=>∃ (p g cap:Nat),p≤7∧7 - p≤gk∧v=.slice (some ⟨g,0,none⟩) p cap∧i=.int .i64 (p:Int)∧Hid (SzI w w' g cap p (pw W H) (ph W H)))
  case atStart=>exact⟨0,_,_,Nat.zero_le _,by omega,rfl,rfl,H0⟩
  case round=>
   clear H0
   obtain⟨p,g,cap,hp,hgk,rfl,rfl,hI⟩:=hrel
   by_cases hlt:p < 7
   ·have dl:decide ((p:Int) < 7)=true:=decide_eq_true (by omega)
    have hps:=HPS.out p hlt
    obtain⟨B,hO,hBB,hBw⟩:=hI.out
    have HO:=hid_of hO
    have HBB:=hid_of hBB
    have HBw:=hid_of hBw
    have HEX:Hid (∀ g' cap' w2,w2.ownsRow w.heap.size 24 1 (.slice (some ⟨g',0,none⟩) (p+1) cap') (p+1) (pairsV B p ++ [.slice (some ⟨wr.heap.size,0,none⟩) 2 2])→((wr.alloc (.cells #[.int .i64 (pw W H p:Int),.int .i64 (ph W H p:Int)] 3)).alloc (.cells #[.slice (some ⟨wr.heap.size,0,none⟩) 2 2] 24)).grownBy w2 (some g)→(some g=some g'∨g'=((wr.alloc (.cells #[.int .i64 (pw W H p:Int),.int .i64 (ph W H p:Int)] 3)).alloc (.cells #[.slice (some ⟨wr.heap.size,0,none⟩) 2 2] 24)).heap.size)→SzI w w2 g' cap' (p+1) (pw W H) (ph W H)):=fun g' cap' w2 h1 h2 h3=>SzI.next hO hBB hBw rfl h1 h2 h3
    have HY:Hid (((wr.alloc (.cells #[.int .i64 (pw W H p:Int),.int .i64 (ph W H p:Int)] 3)).alloc (.cells #[.slice (some ⟨wr.heap.size,0,none⟩) 2 2] 24)).heap[wr.heap.size+1]?=some (.cells #[.slice (some ⟨wr.heap.size,0,none⟩) 2 2] 24 (0,0))):=by
     have:=heap_alloc_new (wr.alloc (.cells #[.int .i64 (pw W H p:Int),.int .i64 (ph W H p:Int)] 3)) (.cells #[.slice (some ⟨wr.heap.size,0,none⟩) 2 2] 24)
     rw[show (wr.alloc (.cells #[.int .i64 (pw W H p:Int),.int .i64 (ph W H p:Int)] 3)).heap.size=wr.heap.size+1 by simp] at this
     exact this
    have HOW:Hid (((wr.alloc (.cells #[.int .i64 (pw W H p:Int),.int .i64 (ph W H p:Int)] 3)).alloc (.cells #[.slice (some ⟨wr.heap.size,0,none⟩) 2 2] 24)).ownsRow w.heap.size 24 1 (.slice (some ⟨g,0,none⟩) p cap) p (pairsV B p)):=World.ownsRow.alloc (World.ownsRow.alloc hO _) _
    have hsz:w.heap.size≤wr.heap.size:=hBw.size
    clear hO hBB hBw hI
    generalize hPW:(pw W H p:Int)=PW at *
    generalize hPH:(ph W H p:Int)=PH at *
    clear hPW hPH
    go_wp2_with fail
    refine (hps _).mono ?_
    rintro e w1 ⟨rfl,rfl⟩
    go_wp2_with (at_builtin; refine wpList_append_lies _ rfl _ _ 83 rfl w.heap.size 24 i0 _ 1 24 Tryd.underlying83 HI0.out.1 HI0.out.2.1 HI0.out.2.2.1 HI0.out.2.2.2 rfl (by omega) _ p (pairsV B p) rfl HOW.out ⟨w1.heap.size+1,0,none⟩ 1 1 [.slice (some ⟨w1.heap.size,0,none⟩) 2 2] rfl rfl ?c1 ?c2 (by omega) ?c3 (by omega) ?c4 _ rfl ?_)
    case c1=>
     intro j u hu
     cases j with
     | zero=>
      simp at hu
      rw[← hu]
      exact (cell_of_block HY.out 0).trans rfl
     | succ j=>simp at hu
    case c2=>
     intro u hu
     rw[List.mem_singleton.1 hu]
     rfl
    case c3=>unfold maxLen; omega
    case c4=>simp; omega
    intro g' cap' w2 h1 h2 h3 _
    have HN:=hid_of (HEX.out g' cap' w2 h1 h2 (h3.imp id (fun e=>e.trans (by simp))))
    clear h1 h2 h3 HEX HOW HY
    go_wp2_with fail
    go_roundg (7 - (p+1))
    case measure=>omega
    case rel=>exact⟨p+1,g',cap',by omega,Nat.le_refl _,rfl,by go_num,HN⟩
   ·obtain rfl:p=7:=by omega
    go_wp2_with fail
    go_ret
    obtain⟨B,_,_,hBw⟩:=hI.out
    exact⟨_,_,rfl,hI.out.out,hBw⟩
end
section
open ScanMath
theorem offP_small {lace:Bool} {W H N D:Nat} (hW:W≤24) (hH:H≤24) (hN:N≤4) (hD:D≤16):∀ p,offP (cwL lace W H) (chL lace W H) N D p≤p * 4824
 | 0=>by simp [offP]
 | p+1=>by
  have ih:=offP_small (lace:=lace) hW hH hN hD p
  have:chL lace W H p * (rb (cwL lace W H p * N) D+1)≤24 * 201:=Nat.mul_le_mul (Nat.le_trans (chL_le _ _ _ _) hH) (Nat.add_le_add_right (rb_small (part_s hW hN) hD) 1)
  rw[offP_succ,Nat.add_mul,Nat.one_mul]
  omega
end
section
open Go.RowKit Go.Joins RastMath PassMath ScanMath
theorem rowB_rb {w N D:Nat} {c d:Int} (hw:1≤w∧w≤24) (hd:DepthR c d) (hN:chan c=(N:Int)) (hD:d=(D:Int)):rowB (w:Int) c d=(rb (w * N) D:Int):=by
 unfold rowB rb
 rw[if_pos ⟨⟨by omega,by omega⟩,hd⟩,hN,hD]
 simp
theorem rowB_zero {c d:Int}:rowB 0 c d=0:=by
 unfold rowB
 rw[if_neg]
 rintro⟨⟨h,_⟩,_⟩
 omega
set_option maxRecDepth 100000 in
set_option maxHeartbeats 3200000 in
theorem specScanBytes_in (W H N D:Nat) (c d:Int) (lace:Bool) (w:World) (hW:1≤W∧W≤24) (hH:1≤H∧H≤24) (hd:DepthR c d) (hN:chan c=(N:Int)) (hD:d=(D:Int)):
  Calls Tryd.prog 65 #[.int .i64 (W:Int),.int .i64 (H:Int),.int .i64 c,.int .i64 d,.bool lace] w fun e w'=>e=.returned (.int .i64 (scanN lace W H N D:Int))∧Below w.heap.size w w':=by
 have h1:=specSide (W:Int)
 have h2:=specSide (H:Int)
 have h3:=specDepthOk c d
 rw[decide_eq_true (show SideR (W:Int) from ⟨by omega,by omega⟩)] at h1
 rw[decide_eq_true (show SideR (H:Int) from ⟨by omega,by omega⟩)] at h2
 rw[decide_eq_true hd] at h3
 have hN4:N≤4:=by have:=(chan_range c).2; omega
 have hD16:D≤16:=by have:=five_range (depth_five hd); omega
 have hsz:=specSizes lace W H w hW hH
 have HRB:Hid (∀ p,1≤cwL lace W H p→∀ V,Calls Tryd.prog 67 #[.int .i64 (cwL lace W H p:Int),.int .i64 c,.int .i64 d] V fun e w'=>e=.returned (.int .i64 (rb (cwL lace W H p * N) D:Int))∧w'=V):=fun p hp V=>by
  have:=specRowBytes (cwL lace W H p:Int) c d V
  rw[rowB_rb ⟨hp,Nat.le_trans (cwL_le _ _ _ _) hW.2⟩ hd hN hD] at this
  exact this
 have HBD:Hid (∀ p,rb (cwL lace W H p * N) D≤200∧chL lace W H p≤24):=fun p=>⟨rb_small (part_s hW.2 hN4) hD16,Nat.le_trans (chL_le _ _ _ _) hH.2⟩
 have HZ:Hid (∀ p,cwL lace W H p=0→chL lace W H p=0):=fun p h=>by
  rcases Nat.eq_zero_or_pos (chL lace W H p) with e | e
  ·exact e
  ·have:=cwL_pos (lace:=lace) (p:=p) hW.1 e
   omega
 have HOF:Hid (∀ p,offP (cwL lace W H) (chL lace W H) N D (p+1)=offP (cwL lace W H) (chL lace W H) N D p+chL lace W H p * (rb (cwL lace W H p * N) D+1)):=fun p=>rfl
 have HOS:Hid (∀ p,p≤7→offP (cwL lace W H) (chL lace W H) N D p≤7 * 4824):=fun p hp=>Nat.le_trans (offP_small hW.2 hH.2 hN4 hD16 p) (Nat.mul_le_mul_right _ hp)
 have HO0:Hid (offP (cwL lace W H) (chL lace W H) N D 0=0):=rfl
 have hcnt:=cntL_le lace
 unfold scanN
 generalize offP (cwL lace W H) (chL lace W H) N D=OF at *
 generalize cntL lace=K at *
 clear hd hN hD
 go_enter Tryd.func65,Tryd.ntmps65
 go_wp2_with fail
 refine (h1 _).mono ?_
 rintro e w1 ⟨rfl,rfl⟩
 go_wp2_with fail
 refine (h2 _).mono ?_
 rintro e w2 ⟨rfl,rfl⟩
 go_wp2_with fail
 refine (h3 _).mono ?_
 rintro e w3 ⟨rfl,rfl⟩
 go_wp2_with fail
 refine hsz.mono ?_
 rintro e w4 ⟨a4,c4,rfl,hS4,hB4⟩
 have HS4:=hid_of hS4
 have HB4:=hid_of hB4
 clear hS4 hB4 hsz h1 h2 h3
 go_wp2_with fail
 go_loopg [11,13] 8 (fun gk v i w'=>∃ p:Nat,p≤K∧K - p≤gk∧v=.int .i64 (OF p:Int)∧i=.int .i64 (p:Int)∧Hid (Below w4.heap.size w4 w'))
 case atStart=>exact⟨0,Nat.zero_le _,by omega,by rw [HO0.out]; rfl,rfl,Below.refl _ _⟩
 case round=>
  obtain⟨p,hp,hgk,rfl,rfl,hI⟩:=hrel
  by_cases hlt:p < K
  ·have dl:decide ((p:Int) < (K:Int))=true:=decide_eq_true (by omega)
   have x7:(p:Int) < (K:Int):=by omega
   obtain⟨g,rfl,hg,hc⟩:=HS4.out.called hI.out
   obtain⟨b,l1,lb,l2,l3⟩:=hc p hlt
   have hnx:=HOF.out p
   have hrb:=HRB.out p
   have hz:=HZ.out p
   obtain⟨hb1,hb2⟩:=HBD.out p
   have hos:=HOS.out p (by omega)
   generalize cwL lace W H p=CW at *
   generalize chL lace W H p=CH at *
   generalize rb (CW * N) D=RB at *
   obtain⟨PR,hPR⟩:∃ PR,PR=CH * (RB+1):=⟨_,rfl⟩
   have hPRb:PR≤24 * 201:=by rw [hPR]; exact Nat.mul_le_mul hb2 (by omega)
   have e1:(CH:Int) * (1+(RB:Int))=(PR:Int):=by rw [hPR,Int.add_comm]; simp
   rw[← hPR] at hnx
   have HNX:=hid_of hnx
   clear hc hnx
   by_cases h0:CW=0
   ·have hch:CH=0:=hz h0
    have HP0:Hid (PR=0):=by rw [hPR,hch,Nat.zero_mul]; rfl
    subst h0
    clear hPR hrb hz
    go_wp2_with fail
    go_roundg (K - (p+1))
    case measure=>omega
    case rel=>exact⟨p+1,by omega,Nat.le_refl _,by rw [HNX.out,HP0.out,Nat.add_zero],by go_num,hI⟩
   ·have d0:(0:Int) < (CW:Int):=by omega
    have hrb2:=hrb (by omega)
    clear hPR hz hrb h0
    go_wp2_with fail
    go_quiet ((go_at_call 67; exact Calls.quiet_of_same (hrb2 _)))
    go_wp2_with fail
    go_roundg (K - (p+1))
    case measure=>omega
    case rel=>exact⟨p+1,by omega,Nat.le_refl _,by rw [HNX.out]; go_num,by go_num,bdraws hI.out _⟩
  ·obtain rfl:p=K:=by omega
   go_wp2_with fail
   go_ret
   exact⟨rfl,bnext HB4.out hI.out⟩
set_option maxHeartbeats 1600000 in
theorem specScanBytes (W H c d:Int) (lace:Bool) (w:World):Calls Tryd.prog 65 #[.int .i64 W,.int .i64 H,.int .i64 c,.int .i64 d,.bool lace] w fun e w'=>e=.returned (.int .i64 (scanB W H c d lace))∧Below w.heap.size w w':=by
 have h1:=specSide W
 have h2:=specSide H
 have h3:=specDepthOk c d
 by_cases hW:SideR W
 ·rw[decide_eq_true hW] at h1
  by_cases hH:SideR H
  ·rw[decide_eq_true hH] at h2
   by_cases hd:DepthR c d
   ·obtain⟨A,rfl⟩:=Int.eq_ofNat_of_zero_le (show 0≤W by have:=hW.1; omega)
    obtain⟨B,rfl⟩:=Int.eq_ofNat_of_zero_le (show 0≤H by have:=hH.1; omega)
    obtain⟨N,hN⟩:=Int.eq_ofNat_of_zero_le (chan_range c).1
    have h5:=five_range (depth_five hd)
    obtain⟨D,hD⟩:=Int.eq_ofNat_of_zero_le (show 0≤d by omega)
    have hA:1≤A∧A≤24:=by have:=hW.1; have:=hW.2; omega
    have hB:1≤B∧B≤24:=by have:=hH.1; have:=hH.2; omega
    rw[scanB_in hA hB hd hN hD]
    exact specScanBytes_in A B N D c d lace w hA hB hd hN hD
   ·rw[decide_eq_false hd] at h3
    unfold scanB
    rw[if_neg (fun h=>hd h.2.2)]
    clear hW hH hd
    go_enter Tryd.func65,Tryd.ntmps65
    go_wp2_with fail
    refine (h1 _).mono ?_
    rintro e w1 ⟨rfl,rfl⟩
    go_wp2_with fail
    refine (h2 _).mono ?_
    rintro e w2 ⟨rfl,rfl⟩
    go_wp2_with fail
    refine (h3 _).mono ?_
    rintro e w3 ⟨rfl,rfl⟩
    go_wp2_with fail
    go_ret
    exact⟨rfl,Below.refl _ _⟩
  ·rw[decide_eq_false hH] at h2
   unfold scanB
   rw[if_neg (fun h=>hH h.2.1)]
   clear hW hH
   go_enter Tryd.func65,Tryd.ntmps65
   go_wp2_with fail
   refine (h1 _).mono ?_
   rintro e w1 ⟨rfl,rfl⟩
   go_wp2_with fail
   refine (h2 _).mono ?_
   rintro e w2 ⟨rfl,rfl⟩
   go_wp2_with fail
   go_ret
   exact⟨rfl,Below.refl _ _⟩
 ·rw[decide_eq_false hW] at h1
  unfold scanB
  rw[if_neg (fun h=>hW h.1)]
  clear hW
  go_enter Tryd.func65,Tryd.ntmps65
  go_wp2_with fail
  refine (h1 _).mono ?_
  rintro e w1 ⟨rfl,rfl⟩
  go_wp2_with fail
  go_ret
  exact⟨rfl,Below.refl _ _⟩
end
end Go.Proofs.YtcbbcadfolgioaaDoor
