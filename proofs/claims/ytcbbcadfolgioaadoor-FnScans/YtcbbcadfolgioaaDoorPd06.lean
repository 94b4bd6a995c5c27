/-
  Texts of the proof, put together.
-/
import Derived.Test.YtcbbcadfolgioaaDoorPd05
namespace Go.Proofs.YtcbbcadfolgioaaDoor
section
open Go.RowKit Go.Joins RastMath
theorem beq_no {a b:Int} (h:¬ a=b):(a == b)=false:=by simpa using h
theorem specChannels (c:Int) (w:World):Calls Tryd.prog 58 #[.int .i64 c] w fun e w'=>e=.returned (.int .i64 (chan c))∧w'=w:=by
 unfold chan
 by_cases h0:c=0
 ·subst h0
  go_enter Tryd.func58,Tryd.ntmps58
  go_wp2_with fail
  go_ret
  exact⟨rfl,rfl⟩
 by_cases h3:c=3
 ·subst h3
  go_enter Tryd.func58,Tryd.ntmps58
  go_wp2_with fail
  go_ret
  exact⟨rfl,rfl⟩
 by_cases h2:c=2
 ·subst h2
  go_enter Tryd.func58,Tryd.ntmps58
  go_wp2_with fail
  go_ret
  exact⟨rfl,rfl⟩
 by_cases h4:c=4
 ·subst h4
  go_enter Tryd.func58,Tryd.ntmps58
  go_wp2_with fail
  go_ret
  exact⟨rfl,rfl⟩
 by_cases h6:c=6
 ·subst h6
  go_enter Tryd.func58,Tryd.ntmps58
  go_wp2_with fail
  go_ret
  exact⟨rfl,rfl⟩
 rw[if_neg (by omega),if_neg h2,if_neg h4,if_neg h6]
 have b0:=beq_no h0
 have b3:=beq_no h3
 have b2:=beq_no h2
 have b4:=beq_no h4
 have b6:=beq_no h6
 go_enter Tryd.func58,Tryd.ntmps58
 go_wp2_with fail
 go_ret
 exact⟨rfl,rfl⟩
set_option maxHeartbeats 1600000 in
theorem specDepthOk (c d:Int) (w:World):Calls Tryd.prog 57 #[.int .i64 c,.int .i64 d] w fun e w'=>e=.returned (.bool (decide (DepthR c d)))∧w'=w:=by
 have hd:d=1∨d=2∨d=4∨d=8∨d=16∨¬ Five d:=by
  unfold Five
  omega
 have hc:c=0∨c=3∨c=2∨c=4∨c=6∨(¬ c=0∧¬ c=3∧¬ c=2∧¬ c=4∧¬ c=6):=by omega
 rcases hc with rfl | rfl | rfl | rfl | rfl | ⟨h0,h3,h2,h4,h6⟩
 all_goals
  rcases hd with rfl | rfl | rfl | rfl | rfl | hd
 all_goals
  first
   | (rw [decide_eq_true (show DepthR _ _ by unfold DepthR Five; omega)])
   | (rw [decide_eq_false (show ¬ DepthR _ _ by unfold DepthR Five; omega)])
   | (rw [decide_eq_false (show ¬ DepthR _ _ from fun h=>hd (depth_five h))])
  try (have e0:=beq_no h0; have e3:=beq_no h3; have e2:=beq_no h2; have e4:=beq_no h4; have e6:=beq_no h6; clear h0 h3 h2 h4 h6)
  try (unfold Five at hd; have g1:=beq_no (a:=d) (b:=1) (by omega); have g2:=beq_no (a:=d) (b:=2) (by omega); have g4:=beq_no (a:=d) (b:=4) (by omega); have g8:=beq_no (a:=d) (b:=8) (by omega); have g16:=beq_no (a:=d) (b:=16) (by omega); clear hd)
  go_enter Tryd.func57,Tryd.ntmps57
  go_wp2_with fail
  go_ret
  exact⟨rfl,rfl⟩
end
section
open Go.RowKit Go.Joins
theorem draw_pickInt (base b g n cap:Nat) (p:Int→Prop) (w:World) (hC:Cur w base b) (hn:0 < n) (hne:g≠b) (hg:g < w.heap.size) (hl:∀ j,j < n→∃ x:Int,w.cell? ⟨g,j,none⟩=some (.int .i64 x)∧p x):
  Calls Tryd.prog 76 #[.pointer (some ⟨b,0,none⟩),.slice (some ⟨g,0,none⟩) n cap] w fun e w'=>∃ x:Int,e=.returned (.int .i64 x)∧p x∧Cur w' base b∧w.grownBy w' (some b):=by
 have HC:Hid (Cur w base b):=hC
 have HL:Hid (∀ j,j < n→∃ x:Int,w.cell? ⟨g,j,none⟩=some (.int .i64 x)∧p x):=hl
 clear hC hl
 go_enter Tryd.func76,Tryd.ntmps76
 go_wp2_with fail
 refine (draw_below base b n _ HC.out).mono ?_
 rintro e w1 ⟨x,rfl,hx,hC1,hg1⟩
 have HC1:Hid (Cur w1 base b):=hC1
 obtain⟨hx0,hx1,_⟩:=hx
 have hx2:=hx1 (by omega)
 obtain⟨j,rfl⟩:=Int.eq_ofNat_of_zero_le hx0
 obtain⟨y,hy,hp⟩:=HL.out j (by omega)
 have hy1:w1.cell? ⟨g,j,none⟩=some (.int .i64 y):=(World.cell?_of_block (a:=⟨g,j,none⟩) (hg1.block g hg (by simpa using hne))).trans hy
 have HP:Hid (p y):=hp
 clear hC1 hx1 hp
 go_wp2_with fail
 go_ret
 exact⟨_,rfl,HP.out,HC1.out,hg1⟩
end
section
open Go.RowKit Go.Joins
theorem info_made:(Tryd.prog.info? 3).map (fun i=>(i.zero,i.size,i.bytes))=some (some (.int .i64 0),1,8):=by kernel_rfl
theorem make_ints (w:World) (n:Nat) (hn:n≤1048576):(Instr.makeSlice 24 (.int .i64 n) (.int .i64 n)).run Tryd.prog w=.ok (.slice (some ⟨w.heap.size,0,none⟩) n n) (w.alloc (.cells (madeCells #[Value.int .i64 0] n) 3)):=by
 obtain⟨i0,hi0,hz0,hz1,hz2⟩:=info_parts info_made
 have h:=run_make (P:=Tryd.prog) w 24 3 i0 (.int .i64 0) Tryd.underlying24 hi0 hz0 .i64 .i64 n n (by omega) (by omega) (by rw [hz2]; omega) (by omega)
 rw[hz1,Int.toNat_natCast,Nat.mul_one] at h
 exact h
end
section
open Go.RowKit Go.Joins RastMath
abbrev ColR (x:Int):Prop:=x=0∨x=2∨x=3∨x=4∨x=6
theorem grown_alloc14 {w w':World} {o:Obj} {row:Option Nat} (h:(w.alloc o).grownBy w' row):w.grownBy w' row:=
 ⟨h.os,h.tape,h.output,Nat.le_trans (by simp) h.size,fun k hk hne=>(h.block k (by simp; omega) hne).trans (Below.heap_alloc w o k hk)⟩
theorem grown_more {w w1 w2:World} {b:Nat} {row:Option Nat} (h:w.grownBy w1 (some b)) (k:w1.grownBy w2 row) (hr:∀ q,row=some q→q=b∨w.heap.size≤q):w.grownBy w2 (some b):=
 ⟨k.os.trans h.os,k.tape.trans h.tape,k.output.trans h.output,Nat.le_trans h.size k.size,fun i hi hne=>(k.block i (Nat.lt_of_lt_of_le hi h.size) (fun e=>by
  rcases hr i e.symm with q | q
  ·exact hne (by rw [q])
  ·omega)).trans (h.block i hi hne)⟩
theorem own_block14 {w:World} {S n:Nat} {e:TypeId} {m:Nat} {v:Value} {xs:List Value} (h:w.ownsRow S e m v n xs):∀ q,v.ownBlock=some q→S≤q:=by
 intro q hq
 rcases h.2 with ⟨rfl,_⟩ | ⟨g,c,cur,rfl,h1,_⟩
 ·cases hq
 ·cases hq
  exact h1
theorem draw_color (base b:Nat) (w:World) (hC:Cur w base b):Calls Tryd.prog 73 #[.pointer (some ⟨b,0,none⟩)] w fun e w'=>∃ x:Int,e=.returned (.int .i64 x)∧ColR x∧Cur w' base b∧w.grownBy w' (some b):=by
 have HC:=hid_of hC
 have hl:=hC.lt
 have HC2:Hid (Cur (w.alloc (.cells #[.int .i64 0,.int .i64 2,.int .i64 3,.int .i64 4,.int .i64 6] 3)) base b):=hC.alloc _
 clear hC
 go_enter Tryd.func73,Tryd.ntmps73
 go_wp2_with fail
 refine (draw_pickInt base b w.heap.size 5 5 ColR _ HC2.out (by omega) (by omega) (by simp) (fun j hj=>?_)).mono ?_
 ·match j,hj with
  | 0,_=>exact⟨0,by simp,.inl rfl⟩
  | 1,_=>exact⟨2,by simp,.inr (.inl rfl)⟩
  | 2,_=>exact⟨3,by simp,.inr (.inr (.inl rfl))⟩
  | 3,_=>exact⟨4,by simp,.inr (.inr (.inr (.inl rfl)))⟩
  | 4,_=>exact⟨6,by simp,.inr (.inr (.inr (.inr rfl)))⟩
 rintro e w3 ⟨x,rfl,hx,hC3,hg3⟩
 have HE:Hid (ColR x∧Cur w3 base b∧w.grownBy w3 (some b)):=⟨hx,hC3,grown_alloc14 hg3⟩
 clear hx hC3 hg3
 go_wp2_with fail
 go_ret
 exact⟨x,rfl,HE.out⟩
theorem draw_most (a:Option Addr) (len cap:Nat) (w:World) (hl:len≤1048576):Calls Tryd.prog 34 #[.slice a len cap] w fun e w'=>∃ x:Nat,e=.returned (.int .i64 (x:Int))∧3≤x∧x≤9∧w'=w:=by
 have t1:(len:Int).tdiv 40=((len / 40:Nat):Int):=by rw [Int.tdiv_eq_ediv_of_nonneg (by omega)]; rfl
 obtain⟨q,hq⟩:∃ q,q=len / 40:=⟨_,rfl⟩
 have hqb:q≤1048576:=by omega
 rw[← hq] at t1
 clear hq
 by_cases h:9 < 3+q
 ·have d:decide ((9:Int) < 3+(q:Int))=true:=decide_eq_true (by omega)
  go_enter Tryd.func34,Tryd.ntmps34
  go_wp2_with fail
  go_ret
  exact⟨9,rfl,by omega,by omega,rfl⟩
 ·have d:decide ((9:Int) < 3+(q:Int))=false:=decide_eq_false (by omega)
  go_enter Tryd.func34,Tryd.ntmps34
  go_wp2_with fail
  go_ret
  exact⟨3+q,by simp,by omega,by omega,rfl⟩
def DepI (w w':World) (base b:Nat) (c:Int) (g cap n:Nat) (j:Nat):Prop:=∃ zs:List Int,zs.length=n∧(∀ z∈zs,DepthR c z)∧(9≤j→1≤n)∧n≤j∧w'.ownsRow w.heap.size 3 1 (.slice (some ⟨g,0,none⟩) n cap) n (zs.map (Value.int .i64))∧Cur w' base b∧w.grownBy w' (some b)
theorem depth_eight {c:Int} (h:ColR c):DepthR c 8:=by
 rcases h with rfl | rfl | rfl | rfl | rfl
 ·exact .inl ⟨rfl,.inr (.inr (.inr (.inl rfl)))⟩
 ·exact .inr (.inr ⟨.inl rfl,.inl rfl⟩)
 ·exact .inr (.inl ⟨rfl,.inr (.inr (.inr (.inl rfl))),by omega⟩)
 ·exact .inr (.inr ⟨.inr (.inl rfl),.inl rfl⟩)
 ·exact .inr (.inr ⟨.inr (.inr rfl),.inl rfl⟩)
theorem info_num14:(Tryd.prog.info? 3).map (fun i=>(i.zero,i.size,i.bytes))=some (some (.int .i64 0),1,8):=by kernel_rfl
set_option maxHeartbeats 1600000 in
theorem draw_depthOf (base b:Nat) (c:Int) (w:World) (hC:Cur w base b) (hc:ColR c):Calls Tryd.prog 74 #[.pointer (some ⟨b,0,none⟩),.int .i64 c] w fun e w'=>∃ x:Int,e=.returned (.int .i64 x)∧DepthR c x∧Cur w' base b∧w.grownBy w' (some b):=by
 have hok:=fun d V=>specDepthOk c d V
 have hbl:=hC.lt
 have H0:Hid (DepI w (w.alloc (.cells #[] 3)) base b c w.heap.size 0 0 1):=⟨[],rfl,(fun z hz=>by cases hz),by omega,by omega,⟨rfl,.inr ⟨_,_,#[],rfl,Nat.le_refl _,heap_alloc_new w _,Nat.le_refl _,Nat.zero_le _,rfl,rfl⟩⟩,hC.alloc _,⟨rfl,rfl,rfl,by simp,fun k hk _=>Below.heap_alloc w _ k hk⟩⟩
 have HD8:=hid_of (depth_eight hc)
 clear hC hc
 go_enter Tryd.func74,Tryd.ntmps74
 go_wp2_with fail
 go_loopw [5,6] (fun v i w'=>∃ (j n g cap:Nat),1≤j∧j≤17∧i=.int .i64 (j:Int)∧v=.slice (some ⟨g,0,none⟩) n cap∧Hid (DepI w w' base b c g cap n j)) (fun _ i _=>17 - (intOf i).toNat)
 case atStart=>exact⟨1,0,_,_,by omega,by omega,rfl,rfl,H0⟩
 case round=>
  clear H0
  obtain⟨j,n,g,cap,hj1,hj,rfl,rfl,hI⟩:=hrel
  by_cases hlt:j≤16
  ·have dl:decide ((j:Int)≤16)=true:=decide_eq_true (by omega)
   by_cases hd:DepthR c (j:Int)
   ·have hk:=fun V=>hok (j:Int) V
    rw[decide_eq_true hd] at hk
    obtain⟨zs,h1,h2,h3,h4,h5,h6,h7⟩:=hI.out
    have hgb:=own_block14 h5 g rfl
    have HO:Hid ((wr.alloc (.cells #[.int .i64 (j:Int)] 3)).ownsRow w.heap.size 3 1 (.slice (some ⟨g,0,none⟩) n cap) n (zs.map (Value.int .i64))):=World.ownsRow.alloc h5 _
    have HNX:Hid (∀ w3 g' cap',w3.ownsRow w.heap.size 3 1 (.slice (some ⟨g',0,none⟩) (n+1) cap') (n+1) (zs.map (Value.int .i64) ++ [.int .i64 (j:Int)])→(wr.alloc (.cells #[.int .i64 (j:Int)] 3)).grownBy w3 (some g)→DepI w w3 base b c g' cap' (n+1) (j+1)):=fun w3 g' cap' q1 q2=>by
     refine⟨zs ++ [(j:Int)],by simp [h1],fun z hz=>?_,by omega,by omega,by simpa using q1,(h6.alloc _).grown q2 (by intro e; have:=Option.some.inj e; omega) (fun k hk=>by cases hk; have:=h6.base_le; omega),grown_more h7 (grown_alloc14 q2) (fun q hq=>by cases hq; exact .inr hgb)⟩
     rcases List.mem_append.mp hz with q | q
     ·exact h2 z q
     ·rw[List.mem_singleton.mp q]; exact hd
    have hws:=h7.size
    clear h1 h2 h3 h5 h6 h7 hI
    obtain⟨i0,hi0,hz0,hz1,hz2⟩:=info_parts info_num14
    go_wp2_with fail
    refine (hk _).mono ?_
    rintro e w2 ⟨rfl,rfl⟩
    go_wp2_with (at_builtin; refine wpList_append_lies _ rfl (.tmp 15) (.tmp 17) 24 rfl w.heap.size 3 i0 _ 1 8 Tryd.underlying24 hi0 hz0 hz1 hz2 rfl (by omega) (.slice (some ⟨g,0,none⟩) n cap) n (zs.map (Value.int .i64)) (by rfl) (by exact HO.out) ⟨w2.heap.size,0,none⟩ 1 1 [.int .i64 (j:Int)] (by rfl) rfl (by exact World.news_of_block (heap_alloc_new w2 _)) (by simp [Value.oneCell']) (by omega) (by unfold maxLen; omega) (by omega) (by simp; omega) _ rfl ?_)
    intro g' cap' w3 y1 y2 y3 y4
    have HN:=hid_of (HNX.out w3 g' cap' y1 y2)
    clear y1 y2 y3 y4 HNX HO
    go_wp2_with fail
    go_roundw
    case rel=>exact⟨j+1,n+1,g',cap',by omega,by omega,by go_num,rfl,HN⟩
    case measure=>simp [intOf]; omega
   ·have hk:=fun V=>hok (j:Int) V
    rw[decide_eq_false hd] at hk
    have HN:Hid (DepI w wr base b c g cap n (j+1)):=by
     obtain⟨zs,h1,h2,h3,h4,h5⟩:=hI.out
     refine⟨zs,h1,h2,fun q=>?_,by omega,h5⟩
     by_cases e:j=8
     ·subst e
      exact absurd HD8.out hd
     ·exact h3 (by omega)
    clear hI
    go_wp2_with fail
    refine (hk _).mono ?_
    rintro e w2 ⟨rfl,rfl⟩
    go_wp2_with fail
    go_roundw
    case rel=>exact⟨j+1,n,g,cap,by omega,by omega,by go_num,rfl,HN⟩
    case measure=>simp [intOf]; omega
  ·have dl:decide ((j:Int)≤16)=false:=decide_eq_false (by omega)
   obtain⟨zs,h1,h2,h3,h4,h5,h6,h7⟩:=hI.out
   have hgb:=own_block14 h5 g rfl
   obtain⟨hgl,hcell⟩:g < wr.heap.size∧∀ i,i < n→wr.cell? ⟨g,i,none⟩=(zs.map (Value.int .i64))[i]?:=by
    rcases h5.2 with ⟨e,_⟩ | ⟨g9,c9,cur,e,_,q2,_,_,_,q6⟩
    ·cases e
    ·cases e
     refine⟨block_lt q2,fun i hi=>?_⟩
     rw[cell_of_block q2 i,← q6,List.getElem?_take,if_pos (by omega)]
     simp
   have hpk:=draw_pickInt base b g n cap (fun x=>DepthR c x) wr h6 (h3 (by omega)) (by omega) hgl (fun i hi=>by
    have hi':i < zs.length:=by omega
    refine⟨zs[i],?_,h2 _ (List.getElem_mem hi')⟩
    rw[hcell i hi,List.getElem?_map,List.getElem?_eq_getElem hi']
    rfl)
   have HG:=hid_of h7
   clear h1 h2 h3 h4 h5 h6 h7 hI hcell hok
   go_wp2_with fail
   refine hpk.mono ?_
   rintro e w3 ⟨x,rfl,hx,hC3,hg3⟩
   have HE:Hid (DepthR c x∧Cur w3 base b∧w.grownBy w3 (some b)):=⟨hx,hC3,grown_more HG.out hg3 (fun q hq=>.inl (Option.some.inj hq).symm)⟩
   clear hx hC3 hg3
   go_wp2_with fail
   go_ret
   exact⟨x,rfl,HE.out⟩
end
section
theorem if_wanted {c A E:Prop} [Decidable c] (hc:c) (h:A):if c then A else E:=by rw [if_pos hc]; exact h
theorem wanted_none {o:Oper} {y:Nat→Option Bool} (h:o.guard=none):Region.wanted o y=true:=by simp [Region.wanted,h]
end
end Go.Proofs.YtcbbcadfolgioaaDoor
