/-
  Texts of the proof, put together.
-/
import Derived.Test.YtdpfnkcogneanaaDoorBy01
import Derived.Deep.LoopGhost
namespace Go.Proofs.YtdpfnkcogneanaaDoor
namespace PassMath
open RastMath
abbrev PassR (p:Int):Prop:=0≤p∧p≤6
def stepV (f:Nat→Nat) (p:Int):Int:=if PassR p then (f p.toNat:Int) else 0
abbrev SizeR (W H p:Int):Prop:=SideR W∧SideR H∧PassR p
def wideV (W H p:Int):Int:=if SizeR W H p then (pw W.toNat H.toNat p.toNat:Int) else 0
def highV (W H p:Int):Int:=if SizeR W H p then (ph W.toNat H.toNat p.toNat:Int) else 0
theorem wideV_nat {W H p:Nat} (hW:1≤W∧W≤24) (hH:1≤H∧H≤24) (hp:p < 7):wideV W H p=(pw W H p:Int)∧highV W H p=(ph W H p:Int):=by
 have h:SizeR W H p:=⟨⟨by omega,by omega⟩,⟨by omega,by omega⟩,by unfold PassR; omega⟩
 unfold wideV highV
 rw[if_pos h,if_pos h]
 exact⟨rfl,rfl⟩
end PassMath
end Go.Proofs.YtdpfnkcogneanaaDoor

namespace Go.Proofs.YtdpfnkcogneanaaDoor
open Go.RowKit Go.Joins RastMath PassMath
abbrev stepT (p:Int):Value:=.tuple #[.int .i64 (stepV px p),.int .i64 (stepV py p),.int .i64 (stepV pdx p),.int .i64 (stepV pdy p)]
set_option maxHeartbeats 1600000 in
theorem specPassStep (p:Int) (w:World):Calls Tryd.prog 83 #[.int .i64 p] w fun e w'=>e=.returned (stepT p)∧w'=w:=by
 by_cases h:PassR p
 ·obtain rfl | rfl | rfl | rfl | rfl | rfl | rfl:p=0∨p=1∨p=2∨p=3∨p=4∨p=5∨p=6:=by unfold PassR at h; omega
  all_goals
   clear h
   go_enter Tryd.func83,Tryd.ntmps83
   go_wp2_with fail
   refine bodyPost_ret (v:=stepT _) ?_ rfl ⟨rfl,rfl⟩
   simp[results,Tryd.results83,go_sem,stepT,stepV,PassR,px,py,pdx,pdy]
 ·have e:stepT p=.tuple #[.int .i64 0,.int .i64 0,.int .i64 0,.int .i64 0]:=by unfold stepT stepV; simp only [if_neg h]
  rw[e]
  clear e
  unfold PassR at h
  have b0:(p == 0)=false:=by simp; omega
  have b1:(p == 1)=false:=by simp; omega
  have b2:(p == 2)=false:=by simp; omega
  have b3:(p == 3)=false:=by simp; omega
  have b4:(p == 4)=false:=by simp; omega
  have b5:(p == 5)=false:=by simp; omega
  have b6:(p == 6)=false:=by simp; omega
  clear h
  go_enter Tryd.func83,Tryd.ntmps83
  go_wp2_with fail
  refine bodyPost_ret (v:=.tuple #[.int .i64 0,.int .i64 0,.int .i64 0,.int .i64 0]) ?_ rfl ⟨rfl,rfl⟩
  simp[results,Tryd.results83,go_sem]
theorem specCount (size frm step:Nat) (w:World) (hs:1≤step) (h1:size≤100) (h3:step≤100):Calls Tryd.prog 97 #[.int .i64 (size:Int),.int .i64 (frm:Int),.int .i64 (step:Int)] w fun e w'=>e=.returned (.int .i64 (cntP size frm step:Int))∧w'=w:=by
 have HC:Hid (∀ i,i < cntP size frm step↔frm+i * step < size):=fun i=>cntP_lt hs i
 have hc:cntP size frm step≤size:=cntP_le
 go_enter Tryd.func97,Tryd.ntmps97
 go_wp2_with fail
 go_loop [7,8] (fun n x=>∃ j y:Nat,j≤cntP size frm step∧Hid (y=frm+j * step)∧n=.int .i64 (j:Int)∧x=.int .i64 (y:Int)) (fun n _=>cntP size frm step - (intOf n).toNat)
 case atStart=>exact⟨0,frm,Nat.zero_le _,(by show frm=frm+0 * step; omega),rfl,rfl⟩
 case round=>
  obtain⟨j,y,hj,hy,rfl,rfl⟩:=hrel
  by_cases hlt:j < cntP size frm step
  ·have hys:y < size:=by rw [hy.out]; exact (HC.out j).mp hlt
   have d:decide ((y:Int) < (size:Int))=true:=decide_eq_true (by omega)
   go_wp2_with fail
   go_round
   case rel=>exact⟨j+1,y+step,by omega,(by show y+step=_; rw [hy.out,Nat.add_mul,Nat.one_mul]; omega),by go_num,by go_num⟩
   case measure=>simp [intOf]; omega
  ·obtain rfl:j=cntP size frm step:=by omega
   have hys:¬ y < size:=by rw [hy.out]; exact fun h=>absurd ((HC.out _).mpr h) (Nat.lt_irrefl _)
   have d:decide ((y:Int) < (size:Int))=false:=decide_eq_false (by omega)
   go_wp2_with fail
   go_ret
   exact⟨rfl,rfl⟩
theorem stepV_nat {p:Nat} (f:Nat→Nat) (h:p < 7):stepV f (p:Int)=(f p:Int):=by
 unfold stepV
 rw[if_pos (show PassR (p:Int) from ⟨by omega,by omega⟩)]
 rfl
set_option maxHeartbeats 1600000 in
theorem specPassSize_in (W H p:Nat) (w:World) (hW:1≤W∧W≤24) (hH:1≤H∧H≤24) (hp:p < 7):Calls Tryd.prog 79 #[.int .i64 (W:Int),.int .i64 (H:Int),.int .i64 (p:Int)] w fun e w'=>e=.returned (.tuple #[.int .i64 (pw W H p:Int),.int .i64 (ph W H p:Int)])∧w'=w:=by
 have s0:=fun V=>specSide (W:Int) V
 have s1:=fun V=>specSide (H:Int) V
 rw[decide_eq_true (show SideR (W:Int) from ⟨by omega,by omega⟩)] at s0
 rw[decide_eq_true (show SideR (H:Int) from ⟨by omega,by omega⟩)] at s1
 have s2:=fun V=>in_yes (p:Int) 0 6 V (by omega) (by omega)
 have s3:=fun V=>specPassStep (p:Int) V
 unfold stepT at s3
 rw[stepV_nat px hp,stepV_nat py hp,stepV_nat pdx hp,stepV_nat pdy hp] at s3
 have a1:=pdx_pos hp
 have a2:=pdy_pos hp
 have s4:=fun V=>specCount W (px p) (pdx p) V a1.1 (by omega) (by omega)
 have s5:=fun V=>specCount H (py p) (pdy p) V a2.1 (by omega) (by omega)
 have HW:Hid (pw W H p=if cntP W (px p) (pdx p)=0∨cntP H (py p) (pdy p)=0 then 0 else cntP W (px p) (pdx p)):=rfl
 have HH:Hid (ph W H p=if cntP W (px p) (pdx p)=0∨cntP H (py p) (pdy p)=0 then 0 else cntP H (py p) (pdy p)):=rfl
 have c1:cntP W (px p) (pdx p)≤W:=cntP_le
 have c2:cntP H (py p) (pdy p)≤H:=cntP_le
 generalize cntP W (px p) (pdx p)=A at *
 generalize cntP H (py p) (pdy p)=B at *
 generalize pw W H p=PW at *
 generalize ph W H p=PH at *
 by_cases hz:A=0∨B=0
 ·have e1:=HW.out
  have e2:=HH.out
  rw[if_pos hz] at e1 e2
  subst e1 e2
  rcases Nat.eq_zero_or_pos A with hA | hA
  ·subst hA
   clear hz HW HH
   go_enter Tryd.func79,Tryd.ntmps79
   go_wp2_with fail
   refine (s0 _).mono ?_
   rintro e w1 ⟨rfl,rfl⟩
   go_wp2_with fail
   refine (s1 _).mono ?_
   rintro e w1 ⟨rfl,rfl⟩
   go_wp2_with fail
   refine (s2 _).mono ?_
   rintro e w1 ⟨rfl,rfl⟩
   go_wp2_with fail
   refine (s3 _).mono ?_
   rintro e w1 ⟨rfl,rfl⟩
   go_wp2_with fail
   refine (s4 _).mono ?_
   rintro e w1 ⟨rfl,rfl⟩
   go_wp2_with fail
   refine (s5 _).mono ?_
   rintro e w1 ⟨rfl,rfl⟩
   go_wp2_with fail
   refine bodyPost_ret (v:=.tuple #[.int .i64 _,.int .i64 _]) ?_ rfl ⟨rfl,rfl⟩
   simp[results,Tryd.results79,go_sem]
  ·obtain rfl:B=0:=by omega
   have bz:((A:Int) == 0)=false:=by simp; omega
   clear hz HW HH
   go_enter Tryd.func79,Tryd.ntmps79
   go_wp2_with fail
   refine (s0 _).mono ?_
   rintro e w1 ⟨rfl,rfl⟩
   go_wp2_with fail
   refine (s1 _).mono ?_
   rintro e w1 ⟨rfl,rfl⟩
   go_wp2_with fail
   refine (s2 _).mono ?_
   rintro e w1 ⟨rfl,rfl⟩
   go_wp2_with fail
   refine (s3 _).mono ?_
   rintro e w1 ⟨rfl,rfl⟩
   go_wp2_with fail
   refine (s4 _).mono ?_
   rintro e w1 ⟨rfl,rfl⟩
   go_wp2_with fail
   refine (s5 _).mono ?_
   rintro e w1 ⟨rfl,rfl⟩
   go_wp2_with fail
   refine bodyPost_ret (v:=.tuple #[.int .i64 _,.int .i64 _]) ?_ rfl ⟨rfl,rfl⟩
   simp[results,Tryd.results79,go_sem]
 ·have e1:=HW.out
  have e2:=HH.out
  rw[if_neg hz] at e1 e2
  subst e1 e2
  have bz:((PW:Int) == 0)=false:=by simp; omega
  have bz2:((PH:Int) == 0)=false:=by simp; omega
  clear hz HW HH
  go_enter Tryd.func79,Tryd.ntmps79
  go_wp2_with fail
  refine (s0 _).mono ?_
  rintro e w1 ⟨rfl,rfl⟩
  go_wp2_with fail
  refine (s1 _).mono ?_
  rintro e w1 ⟨rfl,rfl⟩
  go_wp2_with fail
  refine (s2 _).mono ?_
  rintro e w1 ⟨rfl,rfl⟩
  go_wp2_with fail
  refine (s3 _).mono ?_
  rintro e w1 ⟨rfl,rfl⟩
  go_wp2_with fail
  refine (s4 _).mono ?_
  rintro e w1 ⟨rfl,rfl⟩
  go_wp2_with fail
  refine (s5 _).mono ?_
  rintro e w1 ⟨rfl,rfl⟩
  go_wp2_with fail
  refine bodyPost_ret (v:=.tuple #[.int .i64 _,.int .i64 _]) ?_ rfl ⟨rfl,rfl⟩
  simp[results,Tryd.results79,go_sem]
end Go.Proofs.YtdpfnkcogneanaaDoor

namespace Go.Proofs.YtdpfnkcogneanaaDoor.RunsMath
def sameN (f:Nat→Int) (n:Nat) (x:Int):Nat→Nat→Nat
 | 0,_=>0
 | m+1,i=>if i < n∧f i=x then 1+sameN f n x m (i+1) else 0
def zerosAt (f:Nat→Int) (n i:Nat):Nat:=sameN f n 0 138 i
def sameAt (f:Nat→Int) (n i:Nat):Nat:=if i=0 then 0 else sameN f n (f (i - 1)) 6 i
def runAt (f:Nat→Int) (n i:Nat):(Int×Int)×Nat:=
 if 11≤zerosAt f n i then ((18,(zerosAt f n i:Int) - 11),zerosAt f n i)
 else if 3≤zerosAt f n i then ((17,(zerosAt f n i:Int) - 3),zerosAt f n i)
 else if 3≤sameAt f n i then ((16,(sameAt f n i:Int) - 3),sameAt f n i)
 else ((f i,0),1)
def rest (f:Nat→Int) (n:Nat) (i:Nat):List (Int×Int):=
 if i < n then (runAt f n i).1 :: rest f n (i+max 1 (runAt f n i).2) else []
termination_by n - i
decreasing_by omega
/-! The way back. -/
end Go.Proofs.YtdpfnkcogneanaaDoor.RunsMath

namespace Go.Proofs.YtdpfnkcogneanaaDoor
open Go.RowKit Go.Joins PassMath ScanMath
def SzC (w:World) (a:Option Addr) (K:Nat) (P Q:Nat→Nat):Prop:=∃ g,a=some ⟨g,0,none⟩∧g < w.heap.size∧∀ j,j < K→∃ b,w.cell? ⟨g,j,none⟩=some (.slice (some ⟨b,0,none⟩) 2 2)∧b < w.heap.size∧w.cell? ⟨b,0,none⟩=some (.int .i64 (P j:Int))∧w.cell? ⟨b,1,none⟩=some (.int .i64 (Q j:Int))
theorem SzC.called {w w':World} {a:Option Addr} {K:Nat} {P Q:Nat→Nat} (h:SzC w a K P Q) (hb:Below w.heap.size w w'):SzC w' a K P Q:=by
 obtain⟨g,ha,hg,hc⟩:=h
 refine⟨g,ha,Nat.lt_of_lt_of_le hg hb.size,fun j hj=>?_⟩
 obtain⟨b,h1,h2,h3,h4⟩:=hc j hj
 exact⟨b,(hb.cell (p:=⟨g,j,none⟩) hg).trans h1,Nat.lt_of_lt_of_le h2 hb.size,(hb.cell (p:=⟨b,0,none⟩) h2).trans h3,(hb.cell (p:=⟨b,1,none⟩) h2).trans h4⟩
theorem info_ints15:(Tryd.prog.info? 24).map (fun i=>(i.zero,i.size,i.bytes))=some (some (.slice none 0 0),1,24):=by kernel_rfl
def pairsV (B:Nat→Nat) (n:Nat):List Value:=(List.range n).map fun j=>.slice (some ⟨B j,0,none⟩) 2 2
def SzI (w w':World) (g cap n:Nat) (P Q:Nat→Nat):Prop:=∃ B:Nat→Nat,w'.ownsRow w.heap.size 24 1 (.slice (some ⟨g,0,none⟩) n cap) n (pairsV B n)∧(∀ j,j < n→w'.heap[B j]?=some (.cells #[.int .i64 (P j:Int),.int .i64 (Q j:Int)] 3 (0,0))∧B j≠g∧w.heap.size≤B j)∧Below w.heap.size w w'
theorem SzI.out {w w':World} {g cap n:Nat} {P Q:Nat→Nat} (h:SzI w w' g cap n P Q):SzC w' (some ⟨g,0,none⟩) n P Q:=by
 obtain⟨B,hO,hB,_⟩:=h
 have hg:g < w'.heap.size:=by
  rcases hO.2 with ⟨e,_⟩ | ⟨g',c',cur,e,_,q,_⟩
  ·cases e
  ·cases e
   exact block_lt q
 refine⟨g,rfl,hg,fun j hj=>⟨B j,?_,block_lt (hB j hj).1,(cell_of_block (hB j hj).1 0).trans rfl,(cell_of_block (hB j hj).1 1).trans rfl⟩⟩
 rcases hO.2 with ⟨e,_⟩ | ⟨g',c',cur,e,_,q,q1,q2,q3,q4⟩
 ·cases e
 ·cases e
  have e1:w'.cell? ⟨g,j,none⟩=cur[j]?:=cell_of_block q j
  have e2:(cur.toList.take (n * 1))[j]?=cur[j]?:=by
   rw[List.getElem?_take,if_pos (by omega)]
   simp
  rw[e1,← e2,q4]
  simp[pairsV,hj]
theorem SzI.next {w wr w2:World} {g cap n g' cap':Nat} {P Q:Nat→Nat} {o o2:Obj} {B:Nat→Nat} (hO:wr.ownsRow w.heap.size 24 1 (.slice (some ⟨g,0,none⟩) n cap) n (pairsV B n)) (hB:∀ j,j < n→wr.heap[B j]?=some (.cells #[.int .i64 (P j:Int),.int .i64 (Q j:Int)] 3 (0,0))∧B j≠g∧w.heap.size≤B j) (hb:Below w.heap.size w wr)
  (ho:o=.cells #[.int .i64 (P n:Int),.int .i64 (Q n:Int)] 3)
  (hA:w2.ownsRow w.heap.size 24 1 (.slice (some ⟨g',0,none⟩) (n+1) cap') (n+1) (pairsV B n ++ [.slice (some ⟨wr.heap.size,0,none⟩) 2 2])) (hg:((wr.alloc o).alloc o2).grownBy w2 (some g)) (hgg:some g=some g'∨g'=((wr.alloc o).alloc o2).heap.size):SzI w w2 g' cap' (n+1) P Q:=by
 have hgb:w.heap.size≤g∧g < wr.heap.size:=by
  rcases hO.2 with ⟨e,_⟩ | ⟨g1,c1,cur,e,h1,q,_⟩
  ·cases e
  ·cases e
   exact⟨h1,block_lt q⟩
 have hs2:((wr.alloc o).alloc o2).heap.size=wr.heap.size+2:=by simp
 have hold:∀ b,b < wr.heap.size→b≠g→w2.heap[b]?=wr.heap[b]?:=fun b h1 h2=>by
  rw[hg.block b (by rw [hs2]; omega) (fun e=>h2 (Option.some.inj e)),Below.heap_alloc _ _ _ (by simp; omega),Below.heap_alloc _ _ _ h1]
 have hnew:w2.heap[wr.heap.size]?=some (.cells #[.int .i64 (P n:Int),.int .i64 (Q n:Int)] 3 (0,0)):=by
  rw[hg.block wr.heap.size (by rw [hs2]; omega) (fun e=>by have:=Option.some.inj e; omega),Below.heap_alloc _ _ _ (by simp),ho]
  exact heap_alloc_new wr _
 refine⟨fun j=>if j=n then wr.heap.size else B j,?_,fun j hj=>?_,?_⟩
 ·have e:pairsV (fun j=>if j=n then wr.heap.size else B j) (n+1)=pairsV B n ++ [.slice (some ⟨wr.heap.size,0,none⟩) 2 2]:=by
   unfold pairsV
   rw[List.range_succ,List.map_append]
   congr 1
   ·refine List.map_congr_left fun i hi=>?_
    have:=List.mem_range.mp hi
    simp only [if_neg (show ¬ i=n by omega)]
   ·simp
  rw[e]
  exact hA
 ·by_cases e:j=n
  ·subst e
   simp only [if_pos]
   refine⟨hnew,?_,hb.size⟩
   rcases hgg with q | q
   ·have:=Option.some.inj q
    omega
   ·omega
  ·simp only [if_neg e]
   obtain⟨h1,h2,h3⟩:=hB j (by omega)
   refine⟨(hold _ (block_lt h1) h2).trans h1,?_,h3⟩
   have:=block_lt h1
   rcases hgg with q | q
   ·rw[← Option.some.inj q]
    exact h2
   ·omega
 ·refine⟨hg.os.trans hb.os,hg.tape.trans hb.tape,hg.output.trans hb.output,?_,fun b h1=>?_⟩
  ·have:=hg.size
   have:=hb.size
   omega
  ·rw[hold b (Nat.lt_of_lt_of_le h1 hb.size) (by omega)]
   exact hb.block b h1
set_option maxHeartbeats 3200000 in
theorem specSizes (lace:Bool) (W H:Nat) (w:World) (hW:1≤W∧W≤24) (hH:1≤H∧H≤24):
  Calls Tryd.prog 44 #[.int .i64 (W:Int),.int .i64 (H:Int),.bool lace] w fun e w'=>∃ a' c',e=.returned (.slice a' (cntL lace) c')∧SzC w' a' (cntL lace) (cwL lace W H) (chL lace W H)∧Below w.heap.size w w':=by
 cases lace with
 | false=>
  have HB:=hid_of (bal (bstart w (.cells #[.int .i64 (W:Int),.int .i64 (H:Int)] 3)) (.cells #[.slice (some ⟨w.heap.size,0,none⟩) 2 2] 24))
  have HX:Hid (((w.alloc (.cells #[.int .i64 (W:Int),.int .i64 (H:Int)] 3)).alloc (.cells #[.slice (some ⟨w.heap.size,0,none⟩) 2 2] 24)).heap[w.heap.size]?=some (.cells #[.int .i64 (W:Int),.int .i64 (H:Int)] 3 (0,0))):=(Below.heap_alloc (w.alloc _) _ _ (by simp)).trans (heap_alloc_new w _)
  have HY:Hid (((w.alloc (.cells #[.int .i64 (W:Int),.int .i64 (H:Int)] 3)).alloc (.cells #[.slice (some ⟨w.heap.size,0,none⟩) 2 2] 24)).heap[w.heap.size+1]?=some (.cells #[.slice (some ⟨w.heap.size,0,none⟩) 2 2] 24 (0,0))):=by
   have:=heap_alloc_new (w.alloc (.cells #[.int .i64 (W:Int),.int .i64 (H:Int)] 3)) (.cells #[.slice (some ⟨w.heap.size,0,none⟩) 2 2] 24)
   rw[show (w.alloc (.cells #[.int .i64 (W:Int),.int .i64 (H:Int)] 3)).heap.size=w.heap.size+1 by simp] at this
   exact this
  show Calls _ _ _ _ fun e w'=>∃ a' c',e=.returned (.slice a' 1 c')∧SzC w' a' 1 (cwL false W H) (chL false W H)∧Below w.heap.size w w'
  go_enter Tryd.func44,Tryd.ntmps44
  go_wp2_with fail
  go_ret
  refine⟨_,_,rfl,⟨w.heap.size+1,rfl,block_lt HY.out,fun j hj=>?_⟩,HB.out⟩
  obtain rfl:j=0:=by omega
  exact⟨w.heap.size,(cell_of_block HY.out 0).trans rfl,block_lt HX.out,(cell_of_block HX.out 0).trans rfl,(cell_of_block HX.out 1).trans rfl⟩
 | true=>
  have HPS:Hid (∀ (p:Nat),p < 7→∀ V,Calls Tryd.prog 79 #[.int .i64 (W:Int),.int .i64 (H:Int),.int .i64 (p:Int)] V fun e w'=>e=.returned (.tuple #[.int .i64 (pw W H p:Int),.int .i64 (ph W H p:Int)])∧w'=V):=fun p hp V=>specPassSize_in W H p V hW hH hp
  obtain⟨i0,hi0,hz0,hz1,hz2⟩:=info_parts info_ints15
  have HI0:=hid_of (And.intro hi0 (And.intro hz0 (And.intro hz1 hz2)))
  have H0:Hid (SzI w (w.alloc (.cells #[] 24)) w.heap.size 0 0 (pw W H) (ph W H)):=⟨fun _=>0,⟨rfl,.inr ⟨w.heap.size,0,#[],rfl,Nat.le_refl _,heap_alloc_new w _,Nat.le_refl _,Nat.zero_le _,rfl,rfl⟩⟩,fun j hj=>absurd hj (Nat.not_lt_zero j),bstart _ _⟩
  show Calls _ _ _ _ fun e w'=>∃ a' c',e=.returned (.slice a' 7 c')∧SzC w' a' 7 (pw W H) (ph W H)∧Below w.heap.size w w'
  clear hi0 hz0 hz1 hz2
  go_enter Tryd.func44,Tryd.ntmps44
  go_wp2_with fail
  go_loopg [7,8] 8 (fun gk v i w'=>∃ (p g cap:Nat),p≤7∧7 - p≤gk∧v=.slice (some ⟨g,0,none⟩) p cap∧i=.int .i64 (p:Int)∧Hid (SzI w w' g cap p (pw W H) (ph W H)))
  case atStart=>exact⟨0,_,_,Nat.zero_le _,by omega,rfl,rfl,H0⟩
  case round=>
   clear H0
   obtain⟨p,g,cap,hp,hgk,rfl,rfl,hI⟩:=hrel
   by_cases hlt:p < 7
   ·have dl:decide ((p:Int) < 7)=true:=decide_eq_true (by omega)
    have hps:=HPS.out p hlt
    obtain⟨B,hO,hBB,hBw⟩:=hI.out
    have HO:=hid_of hO
    have HBB:=hid_of hBB
    have HBw:=hid_of hBw
    have HEX:Hid (∀ g' cap' w2,w2.ownsRow w.heap.size 24 1 (.slice (some ⟨g',0,none⟩) (p+1) cap') (p+1) (pairsV B p ++ [.slice (some ⟨wr.heap.size,0,none⟩) 2 2])→((wr.alloc (.cells #[.int .i64 (pw W H p:Int),.int .i64 (ph W H p:Int)] 3)).alloc (.cells #[.slice (some ⟨wr.heap.size,0,none⟩) 2 2] 24)).grownBy w2 (some g)→(some g=some g'∨g'=((wr.alloc (.cells #[.int .i64 (pw W H p:Int),.int .i64 (ph W H p:Int)] 3)).alloc (.cells #[.slice (some ⟨wr.heap.size,0,none⟩) 2 2] 24)).heap.size)→SzI w w2 g' cap' (p+1) (pw W H) (ph W H)):=fun g' cap' w2 h1 h2 h3=>SzI.next hO hBB hBw rfl h1 h2 h3
    have HY:Hid (((wr.alloc (.cells #[.int .i64 (pw W H p:Int),.int .i64 (ph W H p:Int)] 3)).alloc (.cells #[.slice (some ⟨wr.heap.size,0,none⟩) 2 2] 24)).heap[wr.heap.size+1]?=some (.cells #[.slice (some ⟨wr.heap.size,0,none⟩) 2 2] 24 (0,0))):=by
     have:=heap_alloc_new (wr.alloc (.cells #[.int .i64 (pw W H p:Int),.int .i64 (ph W H p:Int)] 3)) (.cells #[.slice (some ⟨wr.heap.size,0,none⟩) 2 2] 24)
     rw[show (wr.alloc (.cells #[.int .i64 (pw W H p:Int),.int .i64 (ph W H p:Int)] 3)).heap.size=wr.heap.size+1 by simp] at this
     exact this
    have HOW:Hid (((wr.alloc (.cells #[.int .i64 (pw W H p:Int),.int .i64 (ph W H p:Int)] 3)).alloc (.cells #[.slice (some ⟨wr.heap.size,0,none⟩) 2 2] 24)).ownsRow w.heap.size 24 1 (.slice (some ⟨g,0,none⟩) p cap) p (pairsV B p)):=World.ownsRow.alloc (World.ownsRow.alloc hO _) _
    have hsz:w.heap.size≤wr.heap.size:=hBw.size
    clear hO hBB hBw hI
    generalize hPW:(pw W H p:Int)=PW at *
    generalize hPH:(ph W H p:Int)=PH at *
    clear hPW hPH
    go_wp2_with fail
    refine (hps _).mono ?_
    rintro e w1 ⟨rfl,rfl⟩
    go_wp2_with (at_builtin; refine wpList_append_lies _ rfl _ _ 64 rfl w.heap.size 24 i0 _ 1 24 Tryd.underlying64 HI0.out.1 HI0.out.2.1 HI0.out.2.2.1 HI0.out.2.2.2 rfl (by omega) _ p (pairsV B p) rfl HOW.out ⟨w1.heap.size+1,0,none⟩ 1 1 [.slice (some ⟨w1.heap.size,0,none⟩) 2 2] rfl rfl ?c1 ?c2 (by omega) ?c3 (by omega) ?c4 _ rfl ?_)
    case c1=>
     intro j u hu
     cases j with
     | zero=>
      simp at hu
      rw[← hu]
      exact (cell_of_block HY.out 0).trans rfl
     | succ j=>simp at hu
    case c2=>
     intro u hu
     rw[List.mem_singleton.1 hu]
     rfl
    case c3=>unfold maxLen; omega
    case c4=>simp; omega
    intro g' cap' w2 h1 h2 h3 _
    have HN:=hid_of (HEX.out g' cap' w2 h1 h2 (h3.imp id (fun e=>e.trans (by simp))))
    clear h1 h2 h3 HEX HOW HY
    go_wp2_with fail
    go_roundg (7 - (p+1))
    case measure=>omega
    case rel=>exact⟨p+1,g',cap',by omega,Nat.le_refl _,rfl,by go_num,HN⟩
   ·obtain rfl:p=7:=by omega
    go_wp2_with fail
    go_ret
    obtain⟨B,_,_,hBw⟩:=hI.out
    exact⟨_,_,rfl,hI.out.out,hBw⟩
end Go.Proofs.YtdpfnkcogneanaaDoor

namespace Go.Proofs.YtdpfnkcogneanaaDoor
open ScanMath
theorem offP_small {lace:Bool} {W H N D:Nat} (hW:W≤24) (hH:H≤24) (hN:N≤4) (hD:D≤16):∀ p,offP (cwL lace W H) (chL lace W H) N D p≤p * 4824
 | 0=>by simp [offP]
 | p+1=>by
  have ih:=offP_small (lace:=lace) hW hH hN hD p
  have:chL lace W H p * (rb (cwL lace W H p * N) D+1)≤24 * 201:=Nat.mul_le_mul (Nat.le_trans (chL_le _ _ _ _) hH) (Nat.add_le_add_right (rb_small (part_s hW hN) hD) 1)
  rw[offP_succ,Nat.add_mul,Nat.one_mul]
  omega
end Go.Proofs.YtdpfnkcogneanaaDoor
