/-
  Texts of the proof, put together.
-/
import Derived.Test.YtkpbfmdnjnohlaaGreatTk42
import Derived.Shelf.Pu.Clone
namespace Go.Proofs.YtkpbfmdnjnohlaaGreat
section
open Go.RowKit Go.Joins HeadMath
def PxCame (w:World) (a:Option Addr) (n:Nat) (V:Nat→Q4):Prop:=n=0∨∃ g off,a=some ⟨g,off,none⟩∧g < w.heap.size∧∀ j,j < n→w.cell? ⟨g,off+j * 4,none⟩=some (.int .i64 (V j).1)∧w.cell? ⟨g,off+j * 4+1,none⟩=some (.int .i64 (V j).2.1)∧w.cell? ⟨g,off+j * 4+2,none⟩=some (.int .i64 (V j).2.2.1)∧w.cell? ⟨g,off+j * 4+3,none⟩=some (.int .i64 (V j).2.2.2)
theorem cvL_get (V:Nat→Q4) (n j:Nat) (h:j < n):(cvL V n).getD j 0=(V j).2.2.2 / 257:=by
 rw[List.getD_eq_getElem?_getD,List.getElem?_eq_getElem (by rw [cvL_length]; exact h)]
 simp[cvL]
theorem NumRow.cut {w:World} {S:Nat} {a:Option Addr} {n c:Nat} {L:List Int} (h:NumRow w S (.slice a n c) L) (m:Nat) (hm:m≤L.length) (hn:n=L.length):NumRow w S (.slice a m c) (L.take m):=by
 have hl:(L.take m).length=m:=by rw [List.length_take]; omega
 refine⟨by rw [ivals_length,hl,Nat.mul_one],?_⟩
 rcases h.2 with ⟨e,h0⟩ | ⟨g,cap,cur,e,h1,h2,h3,h4,h5,h6⟩
 ·cases e
  exact .inl ⟨by rw [show m=0 by omega],by omega⟩
 ·cases e
  refine .inr ⟨g,c,cur,by rw [hl],h1,h2,by omega,h4,h5,?_⟩
  rw[hl,Nat.mul_one]
  have e2:ivals (L.take m)=(ivals L).take m:=by unfold ivals; rw [List.map_take]
  rw[e2,← h6,List.take_take,Nat.mul_one,Nat.min_eq_left hm]
def TofI (w u:World) (V:Nat→Q4) (x y:Value) (j:Nat):Prop:=u.ownsRow w.heap.size 74 3 x (tbL V j).length (rgbTcells (tbL V j))∧NumRow u w.heap.size y (cvL V j)∧Below w.heap.size w u
def TofPost (n:Nat) (V:Nat→Q4) (w:World) (e:Ending) (w':World):Prop:=∃ ta tc ca cc,e=.returned (.tuple #[.slice ta n tc,.slice ca (trimC (cvL V n) n) cc])∧RgbSL w' w.heap.size ta n (fun j=>((V j).1 / 257,(V j).2.1 / 257,(V j).2.2.1 / 257))∧SL w' w.heap.size ca (trimC (cvL V n) n) cc (fun j=>(V j).2.2.2 / 257)∧Below w.heap.size w w'
theorem row_other {w w':World} {S S':Nat} {x y:Value} {L:List Value} {n k k2:Nat} {L2:List Value} {n2:Nat} {t t2:TypeId} (hx:w.ownsRow S t k x n L) (hy:w.ownsRow S' t2 k2 y n2 L2) (ht:t≠t2) (hg:w.grownBy w' y.ownBlock):w'.ownsRow S t k x n L:=by
 refine⟨hx.1,?_⟩
 rcases hx.2 with h | ⟨g,cap,cur,e,h1,h2,h3⟩
 ·exact .inl h
 ·refine .inr ⟨g,cap,cur,e,h1,(hg.block g (block_lt h2) (fun q=>?_)).trans h2,h3⟩
  rcases hy.2 with ⟨h,_⟩ | ⟨g',cap',cur',e',_,h2',_⟩
  ·rw[h] at q; simp [Value.ownBlock] at q
  ·rw[e'] at q
   simp[Value.ownBlock] at q
   rw[← q,h2] at h2'
   cases h2'
   exact ht rfl
theorem tof_end {w u:World} {V:Nat→Q4} {n m tc cc:Nat} {ta ca:Option Addr} (h:TofI w u V (.slice ta n tc) (.slice ca n cc) n) (hm:trimC (cvL V n) n=m):TofPost n V w (.returned (.tuple #[.slice ta n tc,.slice ca m cc])) u:=by
 have hle:=trimC_le (cvL V n) n
 subst hm
 refine⟨ta,tc,ca,cc,rfl,?_,?_,h.2.2⟩
 ·rcases Nat.eq_zero_or_pos n with h0 | h0
  ·exact .inl h0
  ·obtain⟨h1,h2 | ⟨g,cap,cur,e,k1,k2,k3,k4,k5,k6⟩⟩:=h.1
   ·have:=h2.2
    rw[tbL_length] at this
    omega
   ·obtain⟨e1,_,_⟩:=Value.slice.inj e
    rw[tbL_length] at k3 k6
    refine .inr ⟨g,e1,k1,cur,k2,by omega,fun j hj=>?_⟩
    have hg:=rgbTcells_get (tbL V n) j (by rw [tbL_length]; exact hj)
    have ht:(tbL V n).getD j (0,0,0)=((V j).1 / 257,(V j).2.1 / 257,(V j).2.2.1 / 257):=by
     rw[List.getD_eq_getElem?_getD,List.getElem?_eq_getElem (by rw [tbL_length]; exact hj)]
     simp[tbL]
    rw[ht,← k6] at hg
    have tk:∀ i,i < n * 3→(List.take (n * 3) cur.toList)[i]?=cur[i]?:=fun i hi=>by
     rw[List.getElem?_take,if_pos hi,Array.getElem?_toList]
    rw[tk _ (by omega),tk _ (by omega),tk _ (by omega)] at hg
    exact hg
 ·have hc:=NumRow.cut h.2.1 (trimC (cvL V n) n) (by rw [cvL_length]; exact hle) (cvL_length V n).symm
  refine (sl_of_num hc (by rw [List.length_take,cvL_length]; omega)).congr fun i hi=>?_
  rw[List.getD_eq_getElem?_getD,List.getElem?_take,if_pos hi,← List.getD_eq_getElem?_getD]
  exact cvL_get V n i (by omega)
set_option maxRecDepth 100000 in
set_option maxHeartbeats 3200000 in
theorem tableOf_any (a:Option Addr) (n cap:Nat) (V:Nat→Q4) (w:World) (hC:PxCame w a n V) (hn:n≤256) (hV:∀ j,j < n→(0≤(V j).1∧(V j).1≤65535)∧(0≤(V j).2.1∧(V j).2.1≤65535)∧(0≤(V j).2.2.1∧(V j).2.2.1≤65535)∧(0≤(V j).2.2.2∧(V j).2.2.2≤65535)):
  Calls Tryz.prog 59 #[.slice a n cap] w (TofPost n V w):=by
 have H0:Hid (TofI w w V (.slice none 0 0) (.slice none 0 0) 0):=⟨⟨rfl,.inl ⟨rfl,rfl⟩⟩,⟨rfl,.inl ⟨rfl,rfl⟩⟩,Below.refl _ _⟩
 have HC:=hid_of hC
 have HV:=hid_of hV
 clear hC hV
 go_enter Tryz.func59,Tryz.ntmps59
 go_wp2_with fail
 go_loopg [4,5,10] (n+1) (fun gk x y z u=>∃ j:Nat,j≤n∧z=.int .i64 j∧n - j≤gk∧Hid (TofI w u V x y j))
 case atStart=>exact⟨0,Nat.zero_le _,rfl,by omega,H0⟩
 case round=>
  clear H0
  obtain⟨j,hj,rfl,hk,hS⟩:=hrel
  by_cases hlt:j < n
  ·rcases HC.out with h0 | ⟨g,off,rfl,hg,hc⟩
   ·omega
   ·obtain⟨q0,q1,q2,q3⟩:=hc j hlt
    obtain⟨b0,b1,b2,b3⟩:=HV.out j hlt
    have c0:=(hS.out.2.2.cell (p:=⟨g,off+j * 4,none⟩) hg).trans q0
    have c1:=(hS.out.2.2.cell (p:=⟨g,off+j * 4+1,none⟩) hg).trans q1
    have c2:=(hS.out.2.2.cell (p:=⟨g,off+j * 4+2,none⟩) hg).trans q2
    have c3:=(hS.out.2.2.cell (p:=⟨g,off+j * 4+3,none⟩) hg).trans q3
    have hl2:g < wr.heap.size:=Nat.lt_of_lt_of_le hg hS.out.2.2.size
    have ET:Hid (tbL V (j+1)=tbL V j ++ [((V j).1 / 257,(V j).2.1 / 257,(V j).2.2.1 / 257)]):=tbL_succ V j
    have EC:Hid (cvL V (j+1)=cvL V j ++ [(V j).2.2.2 / 257]):=cvL_succ V j
    generalize (V j).1=x0 at c0 b0 ET
    generalize (V j).2.1=x1 at c1 b1 ET
    generalize (V j).2.2.1=x2 at c2 b2 ET
    generalize (V j).2.2.2=x3 at c3 b3 EC
    clear q0 q1 q2 q3 hc
    have HT:=hid_of (rgb_called (rgb_called hS.out.1 (bstart wr (.cells #[.int .i64 x0,.int .i64 x1,.int .i64 x2,.int .i64 x3] 104))) (bstart _ (.cells #[.int .i64 (x0 / 257),.int .i64 (x1 / 257),.int .i64 (x2 / 257)] 74)))
    have HN:=hid_of ((hS.out.2.1.called (bstart wr (.cells #[.int .i64 x0,.int .i64 x1,.int .i64 x2,.int .i64 x3] 104))).called (bstart _ (.cells #[.int .i64 (x0 / 257),.int .i64 (x1 / 257),.int .i64 (x2 / 257)] 74)))
    have HBl:=hid_of (bal (bal hS.out.2.2 (.cells #[.int .i64 x0,.int .i64 x1,.int .i64 x2,.int .i64 x3] 104)) (.cells #[.int .i64 (x0 / 257),.int .i64 (x1 / 257),.int .i64 (x2 / 257)] 74))
    have HPx:Hid (((wr.alloc (.cells #[.int .i64 x0,.int .i64 x1,.int .i64 x2,.int .i64 x3] 104)).alloc (.cells #[.int .i64 (x0 / 257),.int .i64 (x1 / 257),.int .i64 (x2 / 257)] 74)).heap[wr.heap.size]?=some (.cells #[.int .i64 x0,.int .i64 x1,.int .i64 x2,.int .i64 x3] 104 (0,0))):=((bstart _ _).block _ (by simp)).trans (heap_alloc_new wr _)
    have HSz:Hid (w.heap.size≤wr.heap.size):=hS.out.2.2.size
    clear hS
    go_wp2_with (at_builtin; refine rgbs_append_at (S:=w.heap.size) (xs:=tbL V j) (ys:=[(x0 / 257,x1 / 257,x2 / 257)]) rfl _ _ rfl rfl HT.out ⟨wr.heap.size+1,0,none⟩ 1 1 rfl rfl (rgbNews_tk _ _ _ _ (wr.heap.size+1) (by simp)) (by rw [tbL_length]; simp; omega) (by have:=HSz.out; simp; omega) ?_)
    intro v1 w1 y1 y2 y3
    have HT1:Hid (w1.ownsRow w.heap.size 74 3 v1 (tbL V (j+1)).length (rgbTcells (tbL V (j+1)))):=by
     rw[ET.out,List.length_append]
     exact y1
    have HN1:Hid (NumRow w1 w.heap.size u5 (cvL V j)):=row_other HN.out HT.out (by decide) y2
    have hpx:w1.heap[wr.heap.size]?=some (.cells #[.int .i64 x0,.int .i64 x1,.int .i64 x2,.int .i64 x3] 104 (0,0)):=(y2.block _ (block_lt HPx.out) (fun q=>by
     rcases HT.out.2 with ⟨h,_⟩ | ⟨g',cap',cur',e',_,h2',_⟩
     ·rw[h] at q; simp [Value.ownBlock] at q
     ·rw[e'] at q
      simp[Value.ownBlock] at q
      rw[← q,HPx.out] at h2'
      cases h2')).trans HPx.out
    have HB1:Hid (Below w.heap.size w w1):=HBl.out.grown y2 (by have:=HSz.out; simp; omega) (fun b hb=>(HT.out.lt b hb).1)
    have d3:=(cell_of_block hpx 3).trans rfl
    have dl3:=block_lt hpx
    have HSz1:Hid (w.heap.size≤w1.heap.size):=HB1.out.size
    clear y1 y2 y3 hpx HT HN HBl HPx ET
    go_wp2_with (at_builtin; refine nums_append1 (S:=w.heap.size) (xs:=cvL V j) rfl _ _ rfl rfl (HN1.out.called (bstart _ _)) w1.heap.size 1 (x3 / 257) rfl ((cell_of_block (heap_alloc_new w1 (.cells #[.int .i64 (x3 / 257)] 3)) 0).trans rfl) (by rw [cvL_length]; omega) (by have:=HSz1.out; simp; omega) ?_)
    intro v2 w2 y1 y2 y3
    have HS1:Hid (TofI w w2 V v1 v2 (j+1)):=⟨row_other (rgb_called HT1.out (bstart _ _)) (HN1.out.called (bstart _ _)) (by decide) y2,by rw [EC.out]; exact y1,(bal HB1.out _).grown y2 (by have:=HSz1.out; simp; omega) (fun b hb=>(HN1.out.lt b hb).1)⟩
    clear y1 y2 y3 HT1 HN1 HB1 EC
    go_wp2_with fail
    go_roundg (n - (j+1))
    case measure=>omega
    case rel=>exact⟨j+1,by omega,by go_num,Nat.le_refl _,HS1⟩
  ·obtain rfl:j=n:=by omega
   obtain⟨ca,cc,e5,hnone,_⟩:=hS.out.2.1.form
   rw[cvL_length] at e5
   obtain⟨ta,tc,e4,_⟩:∃ ta tc,u4=.slice ta j tc∧True:=by
    obtain⟨a',c',e,_⟩:=rgbTcame_of_own hS.out.1 rfl
    rw[tbL_length] at e
    exact⟨a',c',e,trivial⟩
   have HS:=hid_of hS.out
   subst e4 e5
   clear hS
   obtain⟨ca2,cc2,e6,_,_,hcame,_⟩:=HS.out.2.1.form
   obtain⟨rfl,hq,rfl⟩:=Value.slice.inj e6
   clear hq
   rw[cvL_length] at hcame
   have HCM:=hid_of hcame
   have HMX:=hid_of (HS.out.2.1.max).1
   clear hcame e6
   go_wp2_with fail
   go_loopw [5] (fun z u=>∃ m:Nat,m≤j∧z=.slice ca m cc∧Hid (trimC (cvL V j) j=trimC (cvL V j) m)∧u=wr) (fun z _=>match z with | .slice _ m _=>m | _=>0)
   case atStart=>exact⟨j,Nat.le_refl _,rfl,rfl,rfl⟩
   case round=>
    obtain⟨m,hm,rfl,hT,rfl⟩:=hrel
    have HT:=hid_of hT.out
    clear hT
    by_cases h0:m=0
    ·subst h0
     have HR:Hid (trimC (cvL V j) j=0):=HT.out
     clear HT
     go_wp2_with fail
     go_ret2
     exact tof_end HS.out HR.out
    ·obtain⟨k,rfl⟩:∃ k,m=k+1:=⟨m - 1,by omega⟩
     rcases HCM.out with h | ⟨g,off,rfl,hg,hc⟩
     ·omega
     ·have c0:wr.cell? ⟨g,off+k,none⟩=some (.int .i64 ((cvL V j).getD k 0)):=hc k (by omega)
      clear hc
      have kc:k≤cc:=by have:=HMX.out; omega
      have kc2:(k:Int)≤(cc:Int):=by omega
      have kc3:¬ (cc:Int) < (k:Int):=by omega
      have hk0:(k:Int)+1 - 1=(k:Int):=by omega
      have wk:IntKind.i64.wrap ((k:Int)+1 - 1)=(k:Int):=by rw [IntKind.wrap_i64]; omega
      have wk2:IntKind.i64.wrap (k:Int)=(k:Int):=by rw [IntKind.wrap_i64]; omega
      have hp:(0:Int) < (k:Int)+1:=by omega
      by_cases e:(cvL V j).getD k 0=255
      ·have HT2:Hid (trimC (cvL V j) j=trimC (cvL V j) k):=by
        show _=_
        rw[HT.out]
        show (if (cvL V j).getD k 0=255 then trimC (cvL V j) k else k+1)=_
        rw[if_pos e]
       have ne:((cvL V j).getD k 0 == 255)=true:=by simpa using e
       generalize (cvL V j).getD k 0=y at c0 ne
       clear e HT
       go_wp2_with fail
       go_roundw
       case rel=>exact⟨k,by omega,rfl,HT2,by first | rfl | trivial⟩
       case measure=>simp
      ·have HT2:Hid (trimC (cvL V j) j=k+1):=by
        show _=_
        rw[HT.out]
        show (if (cvL V j).getD k 0=255 then trimC (cvL V j) k else k+1)=_
        rw[if_neg e]
       have ne:((cvL V j).getD k 0 == 255)=false:=by simpa using e
       generalize (cvL V j).getD k 0=y at c0 ne
       clear e HT
       go_wp2_with fail
       go_ret2
       exact tof_end HS.out HT2.out
end
section
open Go.RowKit Go.Joins OutMath PutMath RastMath HeadMath ChunkMath
def MB (w:World) (A:Array Value) (w2 u:World):Prop:=MoP w A u∧Below w2.heap.size w2 u
theorem MB.called {w w2 u u':World} {A:Array Value} (h:MB w A w2 u) (hb:Below u.heap.size u u'):MB w A w2 u':=⟨h.1.called hb,bnext h.2 hb⟩
structure TK (w:World) (A:Array Value) (w2:World) (X:Nat) (O:Array Value) (a:Option Addr) (n:Nat) (F:Nat→Chk) (u:World):Prop where
 k:WK w A X O a n F u
 b:Below w2.heap.size w2 u
 lt:w2.heap.size≤X
theorem TK.set {w w2 u:World} {A O:Array Value} {X n:Nat} {a:Option Addr} {F:Nat→Chk} (h:TK w A w2 X O a n F u) (k:Nat) (v:Value):TK w A w2 X (O.setIfInBounds k v) a n F (u.setCell ⟨X,k,none⟩ v):=⟨h.k.set k v,h.b.setCell (p:=⟨X,k,none⟩) h.lt v,h.lt⟩
structure WX (w:World) (A:Array Value) (X:Nat) (O:Array Value) (r:Pic) (q:PicA) (u:World):Prop where
 p:WP w A r q u
 x:BoxAt u X O
 lt:w.heap.size+1 < X
theorem WX.set {w u:World} {A O:Array Value} {X:Nat} {r:Pic} {q:PicA} (h:WX w A X O r q u) (k:Nat) (v:Value):WX w A X (O.setIfInBounds k v) r q (u.setCell ⟨X,k,none⟩ v):=⟨⟨h.p.m.other X k v h.lt,h.p.l.put h.x k v⟩,h.x.put k v,h.lt⟩
end
section
open Go.RowKit Go.Joins
def renClone:Go.Shelf.Ren:=⟨fun _=>138,fun n=>match n with
 | 0=>0
 | 3=>3
 | 4=>4
 | 5=>5
 | 9=>9
 | 37=>120
 | _=>134,fun n=>n⟩
set_option maxRecDepth 100000 in
theorem clone_laid:LaysPu.n25 Tryz.prog renClone:=by
 constructor <;> first | kernel_rfl | exact fun w=>by kernel_rfl | exact fun w=>rfl
theorem implCloneLite (s:ByteArray) (w:World) (hs:s.size≤1048576):Calls Tryz.prog 138 #[.string s] w fun e w'=>e=.returned (.string s)∧Below w.heap.size w w':=AnyPu.stringslite_Clone clone_laid s w (by omega)
theorem implClone (s:ByteArray) (w:World) (hs:s.size≤1048576):Calls Tryz.prog 132 #[.string s] w fun e w'=>e=.returned (.string s)∧Below w.heap.size w w':=by
 go_enter Tryz.func132,Tryz.ntmps132
 go_wp2_with fail
 refine (implCloneLite s _ hs).mono ?_
 rintro e w1 ⟨rfl,hb⟩
 go_wp2_with fail
 go_ret
 exact⟨rfl,hb⟩
end
end Go.Proofs.YtkpbfmdnjnohlaaGreat
