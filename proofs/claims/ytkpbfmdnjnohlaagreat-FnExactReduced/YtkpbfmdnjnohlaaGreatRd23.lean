/-
  Texts of the proof, put together.
-/
import Derived.Test.YtkpbfmdnjnohlaaGreatRd10
import Derived.Test.YtkpbfmdnjnohlaaGreatRd22
namespace Go.Proofs.YtkpbfmdnjnohlaaGreat
open Go.RowKit Go.Joins OutMath PutMath RastMath HeadMath ChunkMath
set_option maxRecDepth 100000 in
theorem shape_any (x y d c:Int) (l:Bool) (w:World):
  Calls Tryz.prog 77 #[.agg #[.int .i64 x,.int .i64 y,.int .i64 d,.int .i64 c,.bool l]] w fun e w'=>e=.returned (.agg #[.int .i64 x,.int .i64 y,.int .i64 c,.int .i64 d,.slice none 0 0])∧Below w.heap.size w w':=by
 go_enter Tryz.func77,Tryz.ntmps77
 go_wp2_with fail
 refine bodyPost_ret (v:=.agg #[.int .i64 x,.int .i64 y,.int .i64 c,.int .i64 d,.slice none 0 0]) ?_ rfl ⟨rfl,?_⟩
 ·simp[results,Tryz.results77,go_sem, *]
 ·exact bal (bstart _ _) _
def FitsPost (c d:Int) (n:Nat) (T:Nat→Rgb3) (w:World) (e:Ending) (w':World):Prop:=∃ b,e=.returned (.bool b)∧(b=true↔FitsR c d n T)∧Below w.heap.size w w'
set_option maxRecDepth 100000 in
set_option maxHeartbeats 1600000 in
theorem fits_any (x y c:Int) (d:Nat) (l:Bool) (a:Option Addr) (n cap:Nat) (T:Nat→Rgb3) (w:World) (hC:RgbCame w a n T) (hn:n≤1048576) (hd:d≤16):
  Calls Tryz.prog 100 #[.agg #[.int .i64 x,.int .i64 y,.int .i64 (d:Int),.int .i64 c,.bool l],.slice a n cap] w (FitsPost c (d:Int) n T w):=by
 have HB:=hid_of (bstart w (.cells #[.int .i64 x,.int .i64 y,.int .i64 (d:Int),.int .i64 c,.bool l] 32))
 have HX:Hid ((w.alloc (.cells #[.int .i64 x,.int .i64 y,.int .i64 (d:Int),.int .i64 c,.bool l] 32)).heap[w.heap.size]?=some (.cells #[.int .i64 x,.int .i64 y,.int .i64 (d:Int),.int .i64 c,.bool l] 32 (0,0))):=heap_alloc_new w _
 have HC:=hid_of hC
 clear hC
 by_cases h3:c=3
 case neg=>
  have HF:Hid (FitsR c (d:Int) n T↔n=0):=by
   show _↔_
   unfold FitsR
   rw[if_neg h3]
  have n3:(c != 3)=true:=by simpa using h3
  obtain⟨b,hb⟩:∃ b,b=((n:Int) == 0):=⟨_,rfl⟩
  have HE:Hid (b=true↔n=0):=by
   show _↔_
   rw[hb]
   simp
  have hb':=hb.symm
  clear hb h3
  go_enter Tryz.func100,Tryz.ntmps100
  go_wp2_with fail
  go_ret
  exact⟨b,rfl,HE.out.trans HF.out.symm,HB.out⟩
 subst h3
 have hq:=fun W h=>implTableText a n cap T W h hn
 obtain⟨M,hM⟩:∃ M:Int,M=2 ^ d:=⟨_,rfl⟩
 have hMb:1≤M∧M≤65536:=by
  have h1:=p2_pos d
  have h2:=p2_le hd
  rw[show p2 16=65536 by decide +kernel] at h2
  rw[hM]
  exact⟨h1,h2⟩
 have HM:Hid (M=p2 d):=hM
 have r2:=hM.symm
 have w6:IntKind.i64.wrap M=M:=by rw [IntKind.wrap_i64]; omega
 have m64:min d 64=d:=by omega
 have HF:Hid (FitsR 3 (d:Int) n T↔TableR T n∧(n:Int)≤M):=by
  show _↔_
  unfold FitsR
  rw[if_pos rfl,Int.toNat_natCast,hM]
  exact Iff.rfl
 clear hM
 by_cases hT:TableR T n
 ·have HT:=hid_of hT
  clear hT
  obtain⟨b,hb⟩:∃ b,b=decide ((n:Int)≤M):=⟨_,rfl⟩
  have HE:Hid (b=true↔FitsR 3 (d:Int) n T):=by
   show _↔_
   rw[HF.out,hb]
   simp[HT.out]
  have hb':=hb.symm
  clear hb HF
  go_enter Tryz.func100,Tryz.ntmps100
  go_wp2_with fail
  refine (hq _ (HC.out.called HB.out)).mono ?_
  rintro e w1 ⟨hTb,hB⟩
  have HB1:=hid_of (bnext HB.out hB)
  have HX1:=hid_of ((hB.block _ (block_lt HX.out)).trans HX.out)
  obtain rfl:=(hTb.resolve_right fun h=>h.1 HT.out).2
  generalize tableT T n=tt
  have k2:=(cell_of_block HX1.out 2).trans rfl
  have l0:=block_lt HX1.out
  clear hTb hB HX HB hq
  go_wp2_with fail
  go_ret
  exact⟨b,rfl,HE.out,HB1.out⟩
 ·have HT:=hid_of hT
  have HE:Hid (false=true↔FitsR 3 (d:Int) n T):=⟨fun e=>(by cases e),fun h=>absurd (HF.out.mp h).1 hT⟩
  clear hT HF
  go_enter Tryz.func100,Tryz.ntmps100
  go_wp2_with fail
  refine (hq _ (HC.out.called HB.out)).mono ?_
  rintro e w1 ⟨hTb,hB⟩
  have HB1:=hid_of (bnext HB.out hB)
  have HX1:=hid_of ((hB.block _ (block_lt HX.out)).trans HX.out)
  obtain rfl:=(hTb.resolve_left fun h=>HT.out h.1).2
  clear hTb hB HX HB hq
  go_wp2_with fail
  go_ret
  exact⟨false,rfl,HE.out,HB1.out⟩
theorem beyond_any (x:Int) (B tn tc:Nat) (ta:Option Addr) (A:Array Value) (w:World) (h5:A[5]?=some (.slice ta tn tc)) (hB:BoxAt w B A):
  Calls Tryz.prog 127 #[.int .i64 x,.pointer (some ⟨B,0,none⟩)] w fun e w'=>e=.returned (.bool (decide ((tn:Int)≤x)))∧w'=w:=by
 have c5:=(cell_of_block hB 5).trans h5
 have l0:=block_lt hB
 clear h5
 go_enter Tryz.func127,Tryz.ntmps127
 go_wp2_with fail
 go_ret
 exact⟨rfl,rfl⟩
def IdxInPost (n tn:Nat) (S:Nat→Int) (w:World) (e:Ending) (w':World):Prop:=∃ z:Int,e=.returned (.int .i64 z)∧(0≤z↔¬ ∀ i,i < n→S i < (tn:Int))∧w'=w
set_option maxRecDepth 100000 in
set_option maxHeartbeats 1600000 in
theorem indexIn_any (a:Option Addr) (n cap:Nat) (S:Nat→Int) (B tn tc:Nat) (ta:Option Addr) (A:Array Value) (w:World) (h5:A[5]?=some (.slice ta tn tc)) (hB:BoxAt w B A) (hC:Came w a n S) (hn:n≤1048576):
  Calls Tryz.prog 136 #[.slice a n cap,.func (.func 127) #[] #[.pointer (some ⟨B,0,none⟩)]] w (IdxInPost n tn S w):=by
 have hby:=fun x=>beyond_any x B tn tc ta A w h5 hB
 have HC:=hid_of hC
 clear hC hB h5
 go_enter Tryz.func136,Tryz.ntmps136
 go_wp2_with fail
 go_loop [8] (fun i=>∃ j:Nat,j≤n∧i=.int .i64 j∧Hid (∀ i,i < j→S i < (tn:Int))) (fun i=>n - (intOf i).toNat)
 case atStart=>exact⟨0,Nat.zero_le _,rfl,fun i hi=>absurd hi (Nat.not_lt_zero i)⟩
 case round=>
  obtain⟨j,hj,rfl,hok⟩:=hrel
  by_cases hlt:j < n
  ·rcases HC.out with h0 | ⟨g,off,rfl,hg,hc⟩
   ·omega
   ·have c0:=hc j hlt
    clear hc
    have hb:=hby (S j)
    by_cases hv:S j < (tn:Int)
    ·rw[decide_eq_false (by omega)] at hb
     have HK:Hid (∀ i,i < j+1→S i < (tn:Int)):=fun i hi=>by
      by_cases e:i=j
      ·rw[e]; exact hv
      ·exact hok.out i (by omega)
     generalize S j=z at c0 hb
     clear hv
     go_wp2_with fail
     refine hb.mono ?_
     rintro e w1 ⟨rfl,rfl⟩
     go_wp2_with fail
     go_round
     case rel=>exact⟨j+1,by omega,by go_num,HK⟩
     case measure=>simp [intOf]; omega
    ·rw[decide_eq_true (by omega)] at hb
     have HN:Hid ((0≤(j:Int))↔¬ ∀ i,i < n→S i < (tn:Int)):=⟨fun _ h=>hv (h j hlt),fun _=>by omega⟩
     generalize S j=z at c0 hb
     clear hv
     go_wp2_with fail
     refine hb.mono ?_
     rintro e w1 ⟨rfl,rfl⟩
     go_wp2_with fail
     go_ret
     exact⟨_,rfl,HN.out,rfl⟩
  ·obtain rfl:j=n:=by omega
   have HN:Hid ((0≤(-1:Int))↔¬ ∀ i,i < j→S i < (tn:Int)):=⟨fun h=>absurd h (by omega),fun h=>absurd hok.out h⟩
   go_wp2_with fail
   go_ret
   exact⟨_,rfl,HN.out,rfl⟩
def HasPost (n tn:Nat) (S:Nat→Int) (w:World) (e:Ending) (w':World):Prop:=∃ b,e=.returned (.bool b)∧(b=true↔¬ ∀ i,i < n→S i < (tn:Int))∧w'=w
theorem has_any (a:Option Addr) (n cap:Nat) (S:Nat→Int) (B tn tc:Nat) (ta:Option Addr) (A:Array Value) (w:World) (h5:A[5]?=some (.slice ta tn tc)) (hB:BoxAt w B A) (hC:Came w a n S) (hn:n≤1048576):
  Calls Tryz.prog 126 #[.slice a n cap,.func (.func 127) #[] #[.pointer (some ⟨B,0,none⟩)]] w (HasPost n tn S w):=by
 have hi:=indexIn_any a n cap S B tn tc ta A w h5 hB hC hn
 clear h5 hB hC
 go_enter Tryz.func126,Tryz.ntmps126
 go_wp2_with fail
 refine hi.mono ?_
 rintro e w1 ⟨z,rfl,hz,rfl⟩
 have HE:Hid (decide (0≤z)=true↔¬ ∀ i,i < n→S i < (tn:Int)):=by
  show _↔_
  rw[decide_eq_true_iff]
  exact hz
 clear hz
 go_wp2_with fail
 go_ret
 exact⟨_,rfl,HE.out,rfl⟩
def InPost (c:Int) (tn n:Nat) (S:Nat→Int) (w:World) (e:Ending) (w':World):Prop:=∃ b,e=.returned (.bool b)∧(b=true↔InR c tn n S)∧Below w.heap.size w w'
set_option maxRecDepth 100000 in
set_option maxHeartbeats 1600000 in
theorem inTable_any (p:Pic) (q:PicA) (w:World) (hS:Came w q.sa p.sn p.S) (hn:p.sn≤1048576):
  Calls Tryz.prog 102 #[pngV p q] w (InPost p.hc p.tn p.sn p.S w):=by
 obtain⟨hw,hh,hd,hc',lace,tn,T,cn,C,rw',rh,rc,rd,sn,S,kn,K⟩:=p
 obtain⟨ta,tc,ca,cc,sa,sc,ka,kc⟩:=q
 have HS:Hid (Came w sa sn S):=hS
 have hn':sn≤1048576:=hn
 clear hS hn
 have HB:=hid_of (bstart w (.cells #[.int .i64 hw,.int .i64 hh,.int .i64 hd,.int .i64 hc',.bool lace,.slice ta tn tc,.slice ca cn cc,.int .i64 rw',.int .i64 rh,.int .i64 rc,.int .i64 rd,.slice sa sn sc,.slice ka kn kc] 37))
 have HX:Hid (BoxAt (w.alloc (.cells #[.int .i64 hw,.int .i64 hh,.int .i64 hd,.int .i64 hc',.bool lace,.slice ta tn tc,.slice ca cn cc,.int .i64 rw',.int .i64 rh,.int .i64 rc,.int .i64 rd,.slice sa sn sc,.slice ka kn kc] 37)) w.heap.size #[.int .i64 hw,.int .i64 hh,.int .i64 hd,.int .i64 hc',.bool lace,.slice ta tn tc,.slice ca cn cc,.int .i64 rw',.int .i64 rh,.int .i64 rc,.int .i64 rd,.slice sa sn sc,.slice ka kn kc]):=heap_alloc_new w _
 show Calls Tryz.prog 102 #[.agg #[.int .i64 hw,.int .i64 hh,.int .i64 hd,.int .i64 hc',.bool lace,.slice ta tn tc,.slice ca cn cc,.int .i64 rw',.int .i64 rh,.int .i64 rc,.int .i64 rd,.slice sa sn sc,.slice ka kn kc]] w (InPost hc' tn sn S w)
 by_cases h3:hc'=3
 ·subst h3
  go_enter Tryz.func102,Tryz.ntmps102
  go_wp2_with fail
  refine (has_any sa sn sc S w.heap.size tn tc ta _ _ rfl HX.out (HS.out.called HB.out) hn').mono ?_
  rintro e w1 ⟨b,rfl,hb,rfl⟩
  have HE:Hid ((!b)=true↔InR 3 tn sn S):=by
   show _↔_
   unfold InR
   cases b
   ·simp only [Bool.not_false,true_iff,forall_const]
    exact Classical.not_not.mp fun h=>by cases hb.mpr h
   ·simp only [Bool.not_true,Bool.false_eq_true,false_iff,forall_const]
    exact hb.mp rfl
  clear hb
  go_wp2_with fail
  go_ret
  exact⟨_,rfl,HE.out,HB.out⟩
 ·have n3:(hc' != 3)=true:=by simpa using h3
  have HE:Hid (InR hc' tn sn S):=fun e=>absurd e h3
  clear h3
  go_enter Tryz.func102,Tryz.ntmps102
  go_wp2_with fail
  go_ret
  exact⟨_,rfl,⟨fun _=>HE.out,fun _=>rfl⟩,HB.out⟩
end Go.Proofs.YtkpbfmdnjnohlaaGreat
