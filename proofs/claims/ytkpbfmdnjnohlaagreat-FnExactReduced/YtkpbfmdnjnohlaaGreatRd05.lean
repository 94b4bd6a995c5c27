/-
  Texts of the proof, put together.
-/
import Derived.Test.YtkpbfmdnjnohlaaGreatRd04
namespace Go.Proofs.YtkpbfmdnjnohlaaGreat
section
open Go.RowKit Go.Joins HeadMath
theorem ownsRow_none (w:World) (e:TypeId) (size:Nat):(w.alloc (.cells #[] e)).ownsRow w.heap.size e size (.slice (some ⟨w.heap.size,0,none⟩) 0 0) 0 []:=⟨by simp,.inr ⟨w.heap.size,0,#[],rfl,Nat.le_refl _,heap_alloc_new w _,Nat.le_refl _,Nat.zero_le _,by simp,by simp⟩⟩
theorem came_news {w:World} {ad:Addr} {n:Nat} {f:Nat→Int} (h:Came w (some ad) n f) (j:Nat) (u:Value) (hu:(fints f n)[j]?=some u):w.cell? (ad.add j)=some u:=by
 have hj:j < (fints f n).length:=by
  rcases Nat.lt_or_ge j (fints f n).length with k | k
  ·exact k
  ·rw[List.getElem?_eq_none k] at hu; cases hu
 rw[List.getElem?_eq_getElem hj,fints_get] at hu
 rw[fints_length] at hj
 rcases h with h0 | ⟨g,off,e,_,hc⟩
 ·omega
 ·cases e
  rw[Addr.add_lit,← hu]
  exact hc j hj
theorem rgb_getD (F:Nat→Rgb3) (n i:Nat) (hi:i < n):((List.range n).map F).getD i (0,0,0)=F i:=by
 rw[List.getD_eq_getElem?_getD,List.getElem?_map,List.getElem?_range hi]
 rfl
theorem rgbcame_news {w:World} {ad:Addr} {n:Nat} {F:Nat→Rgb3} (h:RgbCame w (some ad) n F) (j:Nat) (u:Value) (hu:(rgbTcells ((List.range n).map F))[j]?=some u):w.cell? (ad.add j)=some u:=by
 have hlen:((List.range n).map F).length=n:=by simp
 have hj:j < n * 3:=by
  rcases Nat.lt_or_ge j (n * 3) with k | k
  ·exact k
  ·rw[List.getElem?_eq_none (by rw [rgbTcells_length,hlen]; exact k)] at hu
   cases hu
 have hi:j / 3 < n:=by omega
 have q:=rgbTcells_get ((List.range n).map F) (j / 3) (by rw [hlen]; exact hi)
 rw[rgb_getD F n _ hi] at q
 rcases h with h0 | ⟨g,off,e,hb,hc⟩
 ·omega
 ·cases e
  rw[Addr.add_lit]
  have c:=hc (j / 3) hi
  have h3:j=j / 3 * 3∨j=j / 3 * 3+1∨j=j / 3 * 3+2:=by omega
  rcases h3 with h | h | h
  ·have e2:off+j=off+j / 3 * 3:=by omega
   rw[h,q.1] at hu
   rw[e2,← hu]
   exact c.1
  ·have e2:off+j=off+j / 3 * 3+1:=by omega
   rw[h,q.2.1] at hu
   rw[e2,← hu]
   exact c.2.1
  ·have e2:off+j=off+j / 3 * 3+2:=by omega
   rw[h,q.2.2] at hu
   rw[e2,← hu]
   exact c.2.2
theorem ints_one (f:Nat→Int) (n:Nat):∀ u∈fints f n,u.oneCell'=true:=fun u hu=>by
 unfold fints at hu
 obtain⟨i,_,rfl⟩:=List.mem_map.1 hu
 rfl
def IntsCopy (w:World) (n:Nat) (f:Nat→Int) (v:Value) (w':World):Prop:=∃ a c,v=.slice a n c∧SL w' w.heap.size a n c f∧(n≤c∧c≤maxLen)∧Below w.heap.size w w'
def RgbsCopy (w:World) (n:Nat) (F:Nat→Rgb3) (v:Value) (w':World):Prop:=∃ a c,v=.slice a n c∧RgbSL w' w.heap.size a n F∧Below w.heap.size w w'
theorem sl_of_row {w:World} {b n:Nat} {v:Value} {f:Nat→Int} (h:w.ownsRow b 3 1 v n (fints f n)):∃ a c,v=.slice a n c∧SL w b a n c f∧(n≤c∧c≤maxLen):=by
 by_cases h0:0 < n
 ·obtain⟨g,hb,ho⟩:=own_of_ownsRow h h0
  obtain⟨cap,cur,fz,hv,hb2,hg,hf,hn,hcm,hcs,ht⟩:=id ho
  rw[fints_length] at hv hn
  refine⟨_,cap,hv,.inr ⟨g,rfl,?_⟩,hn,hcm⟩
  rw[hv] at ho
  exact ho
 ·obtain rfl:n=0:=by omega
  rcases h.2 with ⟨rfl,_⟩ | ⟨g,cap,cur,rfl,_,_,hc,hm,_⟩
  ·exact⟨none,0,rfl,.inl rfl,Nat.le_refl _,Nat.zero_le _⟩
  ·exact⟨_,cap,rfl,.inl rfl,hc,hm⟩
theorem rgbsl_of_row {w:World} {b n:Nat} {v:Value} {F:Nat→Rgb3} (h:w.ownsRow b 74 3 v n (rgbTcells ((List.range n).map F))):∃ a c,v=.slice a n c∧RgbSL w b a n F:=by
 obtain⟨a,c,hv,_,hS⟩:=rgbTsl_of_own h (by simp)
 rw[List.length_map,List.length_range] at hv hS
 refine⟨a,c,hv,?_⟩
 rcases hS with h0 | ⟨g,e,h1,cur,h2,h3,h4⟩
 ·exact .inl h0
 ·refine .inr ⟨g,e,h1,cur,h2,h3,fun j hj=>?_⟩
  have q:=h4 j hj
  simp only [rgb_getD F n j hj] at q
  exact q
theorem grown_below {w w':World} {o:Obj} (hg:(w.alloc o).grownBy w' (some w.heap.size)):Below w.heap.size w w':=(bstart w o).grown hg (by simp) (fun q hq=>by cases hq; exact Nat.le_refl _)
theorem copy_ints {w:World} {ops:Array Oper} {rest:List Oper} {o:Oper} {a:Act} {Q:Exit→Act→World→Prop} (hgd:o.guard=none) (s x:Operand)
  (ho:o.op=.call { callee:=.builtin .append,args:=#[s,x],argTypes:=#[25,25] }) (hs:a.eval s=.slice (some ⟨w.heap.size,0,none⟩) 0 0) (f:Nat→Int) (ao:Option Addr) (n c:Nat) (hx:a.eval x=.slice ao n c)
  (hC:Came (w.alloc (.cells #[] 3)) ao n f) (hn:n≤1048576)
  (hK:∀ v' w',IntsCopy w n f v' w'→wpList Tryz.prog ops Q rest (a.put o.dst v') w'):wpList Tryz.prog ops Q (o :: rest) a (w.alloc (.cells #[] 3)):=by
 obtain⟨i0,hi0,hz0,hz1,hz2⟩:=info_parts info_int
 have hown:=ownsRow_none w 3 1
 cases ao with
 | none=>
  obtain rfl:n=0:=by
   rcases hC with h | ⟨g,off,e,_⟩
   ·exact h
   ·cases e
  refine append_none_any hgd s x _ ho w.heap.size 3 i0 1 Tryz.underlying25 hi0 _ _ c _ hs hown hx (hK _ _ ⟨_,_,rfl,.inl rfl,⟨Nat.le_refl _,Nat.zero_le _⟩,bstart w _⟩)
 | some ad=>
  refine wpList_append_own_at _ hgd s x _ ho w.heap.size 3 i0 _ 1 8 Tryz.underlying25 hi0 hz0 hz1 hz2 rfl (by omega) _ _ _ hs hown ad n c (fints f n) hx (by rw [fints_length,Nat.mul_one]) (came_news hC) (ints_one f n) (by unfold maxLen; omega) (by omega) (by simp) ?_
  intro v' w' hown' hg _ _
  rw[Nat.zero_add,List.nil_append] at hown'
  obtain⟨a',c',h1,h2,h3⟩:=sl_of_row hown'
  exact hK v' w' ⟨a',c',h1,h2,h3,grown_below hg⟩
theorem copy_rgbs {w:World} {ops:Array Oper} {rest:List Oper} {o:Oper} {a:Act} {Q:Exit→Act→World→Prop} (hgd:o.guard=none) (s x:Operand)
  (ho:o.op=.call { callee:=.builtin .append,args:=#[s,x],argTypes:=#[33,33] }) (hs:a.eval s=.slice (some ⟨w.heap.size,0,none⟩) 0 0) (F:Nat→Rgb3) (ao:Option Addr) (n c:Nat) (hx:a.eval x=.slice ao n c)
  (hC:RgbCame (w.alloc (.cells #[] 74)) ao n F) (hn:n≤1048576)
  (hK:∀ v' w',RgbsCopy w n F v' w'→wpList Tryz.prog ops Q rest (a.put o.dst v') w'):wpList Tryz.prog ops Q (o :: rest) a (w.alloc (.cells #[] 74)):=by
 obtain⟨i0,hi0,hz0,hz1,hz2⟩:=info_parts info_rgb
 have hown:=ownsRow_none w 74 3
 cases ao with
 | none=>
  obtain rfl:n=0:=by
   rcases hC with h | ⟨g,off,e,_⟩
   ·exact h
   ·cases e
  refine append_none_any hgd s x _ ho w.heap.size 74 i0 3 Tryz.underlying33 hi0 _ _ c _ hs hown hx (hK _ _ ⟨_,_,rfl,.inl rfl,bstart w _⟩)
 | some ad=>
  refine wpList_append_own_at _ hgd s x _ ho w.heap.size 74 i0 _ 3 24 Tryz.underlying33 hi0 hz0 hz1 hz2 rfl (by omega) _ _ _ hs hown ad n c (rgbTcells ((List.range n).map F)) hx (by rw [rgbTcells_length]; simp) (rgbcame_news hC) (rgbTcells_one _) (by unfold maxLen; omega) (by omega) (by simp) ?_
  intro v' w' hown' hg _ _
  rw[Nat.zero_add,List.nil_append] at hown'
  obtain⟨a',c',h1,h2⟩:=rgbsl_of_row hown'
  exact hK v' w' ⟨a',c',h1,h2,grown_below hg⟩
set_option maxRecDepth 100000 in
theorem cloneInts (a:Option Addr) (n c:Nat) (f:Nat→Int) (w:World) (hC:Came w a n f) (hn:n≤1048576):
  Calls Tryz.prog 90 #[.slice a n c] w fun e w'=>∃ v,e=.returned v∧IntsCopy w n f v w':=by
 have q22:∀ (w:World) (a:Option Addr) (n c n' c':Nat),(binOp .eql 25 (.slice a n c) (.slice none n' c')).run Tryz.prog w=.ok (.bool a.isNone) w:=fun w a n c n' c'=>Lib.run_eql_slice_nil w _ _ a n c n' c' Tryz.underlying25
 have HC:=hid_of hC
 clear hC
 go_enter Tryz.func90,Tryz.ntmps90
 cases a with
 | none=>
  obtain rfl:n=0:=by
   rcases HC.out with h | ⟨g,off,e,_⟩
   ·exact h
   ·cases e
  go_wp2_with fail
  go_ret
  exact⟨_,rfl,none,0,rfl,.inl rfl,⟨Nat.le_refl _,Nat.zero_le _⟩,Below.refl _ _⟩
 | some ad=>
  go_wp2_with (at_builtin; refine copy_ints rfl _ _ rfl rfl f (some ad) n c rfl (HC.out.called (bstart _ _)) hn ?_)
  intro v7 w7 hcp
  go_wp2_with fail
  go_ret
  exact⟨_,rfl,hcp⟩
set_option maxRecDepth 100000 in
theorem cloneRgbs (a:Option Addr) (n c:Nat) (F:Nat→Rgb3) (w:World) (hC:RgbCame w a n F) (hn:n≤1048576):
  Calls Tryz.prog 89 #[.slice a n c] w fun e w'=>∃ v,e=.returned v∧RgbsCopy w n F v w':=by
 have q22:∀ (w:World) (a:Option Addr) (n c n' c':Nat),(binOp .eql 33 (.slice a n c) (.slice none n' c')).run Tryz.prog w=.ok (.bool a.isNone) w:=fun w a n c n' c'=>Lib.run_eql_slice_nil w _ _ a n c n' c' Tryz.underlying33
 have HC:=hid_of hC
 clear hC
 go_enter Tryz.func89,Tryz.ntmps89
 cases a with
 | none=>
  obtain rfl:n=0:=by
   rcases HC.out with h | ⟨g,off,e,_⟩
   ·exact h
   ·cases e
  go_wp2_with fail
  go_ret
  exact⟨_,rfl,none,0,rfl,.inl rfl,Below.refl _ _⟩
 | some ad=>
  go_wp2_with (at_builtin; refine copy_rgbs rfl _ _ rfl rfl F (some ad) n c rfl (HC.out.called (bstart _ _)) hn ?_)
  intro v7 w7 hcp
  go_wp2_with fail
  go_ret
  exact⟨_,rfl,hcp⟩
end
section
open Go.RowKit Go.Joins OutMath PutMath RastMath HeadMath ChunkMath
theorem MoP.arg {w u:World} {A:Array Value} (h:MoP w A u) (k:Nat) (v:Value):MoP w (A.setIfInBounds k v) (u.setCell ⟨w.heap.size,k,none⟩ v):=by
 obtain⟨h1,⟨Z,h2,hz⟩,h3⟩:=h
 refine⟨BoxAt.put h1 k v,⟨Z,?_,hz⟩,h3.setCell (p:=⟨w.heap.size,k,none⟩) (by simp) v⟩
 rw[Below.heap_setCell _ _ _ _ (by simp)]
 exact h2
theorem WP.arg {w u:World} {A:Array Value} {r:Pic} {q:PicA} (h:WP w A r q u) (k:Nat) (v:Value):WP w (A.setIfInBounds k v) r q (u.setCell ⟨w.heap.size,k,none⟩ v):=⟨h.m.arg k v,PngSL.put (O:=A) h.l h.m.1 k v⟩
theorem sl_apart0 {w1 w2:World} {b n n' c c':Nat} {a a':Option Addr} {f f':Nat→Int} (h:SL w1 b a n c f) (h':SL w2 w1.heap.size a' n' c' f'):n=0∨n'=0∨a≠a':=by
 rcases sl_apart h h' with h | h | h
 ·exact .inr (.inl h)
 ·exact .inl h
 ·exact .inr (.inr (Ne.symm h))
def CpyPost (p:Pic) (w:World) (e:Ending) (w':World):Prop:=∃ q,e=.returned (pngV p q)∧PngSL w' w.heap.size p q∧Below w.heap.size w w'
end
section
open Go.RowKit Go.Joins HeadMath
def PxCame (w:World) (a:Option Addr) (n:Nat) (V:Nat→Q4):Prop:=n=0∨∃ g off,a=some ⟨g,off,none⟩∧g < w.heap.size∧∀ j,j < n→w.cell? ⟨g,off+j * 4,none⟩=some (.int .i64 (V j).1)∧w.cell? ⟨g,off+j * 4+1,none⟩=some (.int .i64 (V j).2.1)∧w.cell? ⟨g,off+j * 4+2,none⟩=some (.int .i64 (V j).2.2.1)∧w.cell? ⟨g,off+j * 4+3,none⟩=some (.int .i64 (V j).2.2.2)
theorem cvL_get (V:Nat→Q4) (n j:Nat) (h:j < n):(cvL V n).getD j 0=(V j).2.2.2 / 257:=by
 rw[List.getD_eq_getElem?_getD,List.getElem?_eq_getElem (by rw [cvL_length]; exact h)]
 simp[cvL]
theorem NumRow.cut {w:World} {S:Nat} {a:Option Addr} {n c:Nat} {L:List Int} (h:NumRow w S (.slice a n c) L) (m:Nat) (hm:m≤L.length) (hn:n=L.length):NumRow w S (.slice a m c) (L.take m):=by
 have hl:(L.take m).length=m:=by rw [List.length_take]; omega
 refine⟨by rw [ivals_length,hl,Nat.mul_one],?_⟩
 rcases h.2 with ⟨e,h0⟩ | ⟨g,cap,cur,e,h1,h2,h3,h4,h5,h6⟩
 ·cases e
  exact .inl ⟨by rw [show m=0 by omega],by omega⟩
 ·cases e
  refine .inr ⟨g,c,cur,by rw [hl],h1,h2,by omega,h4,h5,?_⟩
  rw[hl,Nat.mul_one]
  have e2:ivals (L.take m)=(ivals L).take m:=by unfold ivals; rw [List.map_take]
  rw[e2,← h6,List.take_take,Nat.mul_one,Nat.min_eq_left hm]
def TofI (w u:World) (V:Nat→Q4) (x y:Value) (j:Nat):Prop:=u.ownsRow w.heap.size 74 3 x (tbL V j).length (rgbTcells (tbL V j))∧NumRow u w.heap.size y (cvL V j)∧Below w.heap.size w u
def TofPost (n:Nat) (V:Nat→Q4) (w:World) (e:Ending) (w':World):Prop:=∃ ta tc ca cc,e=.returned (.tuple #[.slice ta n tc,.slice ca (trimC (cvL V n) n) cc])∧RgbSL w' w.heap.size ta n (fun j=>((V j).1 / 257,(V j).2.1 / 257,(V j).2.2.1 / 257))∧SL w' w.heap.size ca (trimC (cvL V n) n) cc (fun j=>(V j).2.2.2 / 257)∧Below w.heap.size w w'
theorem row_other {w w':World} {S S':Nat} {x y:Value} {L:List Value} {n k k2:Nat} {L2:List Value} {n2:Nat} {t t2:TypeId} (hx:w.ownsRow S t k x n L) (hy:w.ownsRow S' t2 k2 y n2 L2) (ht:t≠t2) (hg:w.grownBy w' y.ownBlock):w'.ownsRow S t k x n L:=by
 refine⟨hx.1,?_⟩
 rcases hx.2 with h | ⟨g,cap,cur,e,h1,h2,h3⟩
 ·exact .inl h
 ·refine .inr ⟨g,cap,cur,e,h1,(hg.block g (block_lt h2) (fun q=>?_)).trans h2,h3⟩
  rcases hy.2 with ⟨h,_⟩ | ⟨g',cap',cur',e',_,h2',_⟩
  ·rw[h] at q; simp [Value.ownBlock] at q
  ·rw[e'] at q
   simp[Value.ownBlock] at q
   rw[← q,h2] at h2'
   cases h2'
   exact ht rfl
theorem tof_end {w u:World} {V:Nat→Q4} {n m tc cc:Nat} {ta ca:Option Addr} (h:TofI w u V (.slice ta n tc) (.slice ca n cc) n) (hm:trimC (cvL V n) n=m):TofPost n V w (.returned (.tuple #[.slice ta n tc,.slice ca m cc])) u:=by
 have hle:=trimC_le (cvL V n) n
 subst hm
 refine⟨ta,tc,ca,cc,rfl,?_,?_,h.2.2⟩
 ·rcases Nat.eq_zero_or_pos n with h0 | h0
  ·exact .inl h0
  ·obtain⟨h1,h2 | ⟨g,cap,cur,e,k1,k2,k3,k4,k5,k6⟩⟩:=h.1
   ·have:=h2.2
    rw[tbL_length] at this
    omega
   ·obtain⟨e1,_,_⟩:=Value.slice.inj e
    rw[tbL_length] at k3 k6
    refine .inr ⟨g,e1,k1,cur,k2,by omega,fun j hj=>?_⟩
    have hg:=rgbTcells_get (tbL V n) j (by rw [tbL_length]; exact hj)
    have ht:(tbL V n).getD j (0,0,0)=((V j).1 / 257,(V j).2.1 / 257,(V j).2.2.1 / 257):=by
     rw[List.getD_eq_getElem?_getD,List.getElem?_eq_getElem (by rw [tbL_length]; exact hj)]
     simp[tbL]
    rw[ht,← k6] at hg
    have tk:∀ i,i < n * 3→(List.take (n * 3) cur.toList)[i]?=cur[i]?:=fun i hi=>by
     rw[List.getElem?_take,if_pos hi,Array.getElem?_toList]
    rw[tk _ (by omega),tk _ (by omega),tk _ (by omega)] at hg
    exact hg
 ·have hc:=NumRow.cut h.2.1 (trimC (cvL V n) n) (by rw [cvL_length]; exact hle) (cvL_length V n).symm
  refine (sl_of_num hc (by rw [List.length_take,cvL_length]; omega)).congr fun i hi=>?_
  rw[List.getD_eq_getElem?_getD,List.getElem?_take,if_pos hi,← List.getD_eq_getElem?_getD]
  exact cvL_get V n i (by omega)
set_option maxRecDepth 100000 in
set_option maxHeartbeats 3200000 in
theorem tableOf_any (a:Option Addr) (n cap:Nat) (V:Nat→Q4) (w:World) (hC:PxCame w a n V) (hn:n≤256) (hV:∀ j,j < n→(0≤(V j).1∧(V j).1≤65535)∧(0≤(V j).2.1∧(V j).2.1≤65535)∧(0≤(V j).2.2.1∧(V j).2.2.1≤65535)∧(0≤(V j).2.2.2∧(V j).2.2.2≤65535)):
  Calls Tryz.prog 59 #[.slice a n cap] w (TofPost n V w):=by
 have H0:Hid (TofI w w V (.slice none 0 0) (.slice none 0 0) 0):=⟨⟨rfl,.inl ⟨rfl,rfl⟩⟩,⟨rfl,.inl ⟨rfl,rfl⟩⟩,Below.refl _ _⟩
 have HC:=hid_of hC
 have HV:=hid_of hV
 clear hC hV
 go_enter Tryz.func59,Tryz.ntmps59
 go_wp2_with fail
 go_loopg [4,5,10] (n+1) (fun gk x y z u=>∃ j:Nat,j≤n∧z=.int .i64 j∧n - j≤gk∧Hid (TofI w u V x y j))
 case atStart=>exact⟨0,Nat.zero_le _,rfl,by omega,H0⟩
 case round=>
  clear H0
  obtain⟨j,hj,rfl,hk,hS⟩:=hrel
  by_cases hlt:j < n
  ·rcases HC.out with h0 | ⟨g,off,rfl,hg,hc⟩
   ·omega
   ·obtain⟨q0,q1,q2,q3⟩:=hc j hlt
    obtain⟨b0,b1,b2,b3⟩:=HV.out j hlt
    have c0:=(hS.out.2.2.cell (p:=⟨g,off+j * 4,none⟩) hg).trans q0
    have c1:=(hS.out.2.2.cell (p:=⟨g,off+j * 4+1,none⟩) hg).trans q1
    have c2:=(hS.out.2.2.cell (p:=⟨g,off+j * 4+2,none⟩) hg).trans q2
    have c3:=(hS.out.2.2.cell (p:=⟨g,off+j * 4+3,none⟩) hg).trans q3
    have hl2:g < wr.heap.size:=Nat.lt_of_lt_of_le hg hS.out.2.2.size
    have ET:Hid (tbL V (j+1)=tbL V j ++ [((V j).1 / 257,(V j).2.1 / 257,(V j).2.2.1 / 257)]):=tbL_succ V j
    have EC:Hid (cvL V (j+1)=cvL V j ++ [(V j).2.2.2 / 257]):=cvL_succ V j
    generalize (V j).1=x0 at c0 b0 ET
    generalize (V j).2.1=x1 at c1 b1 ET
    generalize (V j).2.2.1=x2 at c2 b2 ET
    generalize (V j).2.2.2=x3 at c3 b3 EC
    clear q0 q1 q2 q3 hc
    have HT:=hid_of (rgb_called (rgb_called hS.out.1 (bstart wr (.cells #[.int .i64 x0,.int .i64 x1,.int .i64 x2,.int .i64 x3] 104))) (bstart _ (.cells #[.int .i64 (x0 / 257),.int .i64 (x1 / 257),.int .i64 (x2 / 257)] 74)))
    have HN:=hid_of ((hS.out.2.1.called (bstart wr (.cells #[.int .i64 x0,.int .i64 x1,.int .i64 x2,.int .i64 x3] 104))).called (bstart _ (.cells #[.int .i64 (x0 / 257),.int .i64 (x1 / 257),.int .i64 (x2 / 257)] 74)))
    have HBl:=hid_of (bal (bal hS.out.2.2 (.cells #[.int .i64 x0,.int .i64 x1,.int .i64 x2,.int .i64 x3] 104)) (.cells #[.int .i64 (x0 / 257),.int .i64 (x1 / 257),.int .i64 (x2 / 257)] 74))
    have HPx:Hid (((wr.alloc (.cells #[.int .i64 x0,.int .i64 x1,.int .i64 x2,.int .i64 x3] 104)).alloc (.cells #[.int .i64 (x0 / 257),.int .i64 (x1 / 257),.int .i64 (x2 / 257)] 74)).heap[wr.heap.size]?=some (.cells #[.int .i64 x0,.int .i64 x1,.int .i64 x2,.int .i64 x3] 104 (0,0))):=((bstart _ _).block _ (by simp)).trans (heap_alloc_new wr _)
    have HSz:Hid (w.heap.size≤wr.heap.size):=hS.out.2.2.size
    clear hS
    go_wp2_with (at_builtin; refine rgbs_append_at (S:=w.heap.size) (xs:=tbL V j) (ys:=[(x0 / 257,x1 / 257,x2 / 257)]) rfl _ _ rfl rfl HT.out ⟨wr.heap.size+1,0,none⟩ 1 1 rfl rfl (rgbNews_tk _ _ _ _ (wr.heap.size+1) (by simp)) (by rw [tbL_length]; simp; omega) (by have:=HSz.out; simp; omega) ?_)
    intro v1 w1 y1 y2 y3
    have HT1:Hid (w1.ownsRow w.heap.size 74 3 v1 (tbL V (j+1)).length (rgbTcells (tbL V (j+1)))):=by
     rw[ET.out,List.length_append]
     exact y1
    have HN1:Hid (NumRow w1 w.heap.size u5 (cvL V j)):=row_other HN.out HT.out (by decide) y2
    have hpx:w1.heap[wr.heap.size]?=some (.cells #[.int .i64 x0,.int .i64 x1,.int .i64 x2,.int .i64 x3] 104 (0,0)):=(y2.block _ (block_lt HPx.out) (fun q=>by
     rcases HT.out.2 with ⟨h,_⟩ | ⟨g',cap',cur',e',_,h2',_⟩
     ·rw[h] at q; simp [Value.ownBlock] at q
     ·rw[e'] at q
      simp[Value.ownBlock] at q
      rw[← q,HPx.out] at h2'
      cases h2')).trans HPx.out
    have HB1:Hid (Below w.heap.size w w1):=HBl.out.grown y2 (by have:=HSz.out; simp; omega) (fun b hb=>(HT.out.lt b hb).1)
    have d3:=(cell_of_block hpx 3).trans rfl
    have dl3:=block_lt hpx
    have HSz1:Hid (w.heap.size≤w1.heap.size):=HB1.out.size
    clear y1 y2 y3 hpx HT HN HBl HPx ET
    go_wp2_with (at_builtin; refine nums_append1 (S:=w.heap.size) (xs:=cvL V j) rfl _ _ rfl rfl (HN1.out.called (bstart _ _)) w1.heap.size 1 (x3 / 257) rfl ((cell_of_block (heap_alloc_new w1 (.cells #[.int .i64 (x3 / 257)] 3)) 0).trans rfl) (by rw [cvL_length]; omega) (by have:=HSz1.out; simp; omega) ?_)
    intro v2 w2 y1 y2 y3
    have HS1:Hid (TofI w w2 V v1 v2 (j+1)):=⟨row_other (rgb_called HT1.out (bstart _ _)) (HN1.out.called (bstart _ _)) (by decide) y2,by rw [EC.out]; exact y1,(bal HB1.out _).grown y2 (by have:=HSz1.out; simp; omega) (fun b hb=>(HN1.out.lt b hb).1)⟩
    clear y1 y2 y3 HT1 HN1 HB1 EC
    go_wp2_with fail
    go_roundg (n - (j+1))
    case measure=>omega
    case rel=>exact⟨j+1,by omega,by go_num,Nat.le_refl _,HS1⟩
  ·obtain rfl:j=n:=by omega
   obtain⟨ca,cc,e5,hnone,_⟩:=hS.out.2.1.form
   rw[cvL_length] at e5
   obtain⟨ta,tc,e4,_⟩:∃ ta tc,u4=.slice ta j tc∧True:=by
    obtain⟨a',c',e,_⟩:=rgbTcame_of_own hS.out.1 rfl
    rw[tbL_length] at e
    exact⟨a',c',e,trivial⟩
   have HS:=hid_of hS.out
   subst e4 e5
   clear hS
   obtain⟨ca2,cc2,e6,_,_,hcame,_⟩:=HS.out.2.1.form
   obtain⟨rfl,hq,rfl⟩:=Value.slice.inj e6
   clear hq
   rw[cvL_length] at hcame
   have HCM:=hid_of hcame
   have HMX:=hid_of (HS.out.2.1.max).1
   clear hcame e6
   go_wp2_with fail
   go_loopw [5] (fun z u=>∃ m:Nat,m≤j∧z=.slice ca m cc∧Hid (trimC (cvL V j) j=trimC (cvL V j) m)∧u=wr) (fun z _=>match z with | .slice _ m _=>m | _=>0)
   case atStart=>exact⟨j,Nat.le_refl _,rfl,rfl,rfl⟩
   case round=>
    obtain⟨m,hm,rfl,hT,rfl⟩:=hrel
    have HT:=hid_of hT.out
    clear hT
    by_cases h0:m=0
    ·subst h0
     have HR:Hid (trimC (cvL V j) j=0):=HT.out
     clear HT
     go_wp2_with fail
     go_ret2
     exact tof_end HS.out HR.out
    ·obtain⟨k,rfl⟩:∃ k,m=k+1:=⟨m - 1,by omega⟩
     rcases HCM.out with h | ⟨g,off,rfl,hg,hc⟩
     ·omega
     ·have c0:wr.cell? ⟨g,off+k,none⟩=some (.int .i64 ((cvL V j).getD k 0)):=hc k (by omega)
      clear hc
      have kc:k≤cc:=by have:=HMX.out; omega
      have kc2:(k:Int)≤(cc:Int):=by omega
      have kc3:¬ (cc:Int) < (k:Int):=by omega
      have hk0:(k:Int)+1 - 1=(k:Int):=by omega
      have wk:IntKind.i64.wrap ((k:Int)+1 - 1)=(k:Int):=by rw [IntKind.wrap_i64]; omega
      have wk2:IntKind.i64.wrap (k:Int)=(k:Int):=by rw [IntKind.wrap_i64]; omega
      have hp:(0:Int) < (k:Int)+1:=by omega
      by_cases e:(cvL V j).getD k 0=255
      ·have HT2:Hid (trimC (cvL V j) j=trimC (cvL V j) k):=by
        show _=_
        rw[HT.out]
        show (if (cvL V j).getD k 0=255 then trimC (cvL V j) k else k+1)=_
        rw[if_pos e]
       have ne:((cvL V j).getD k 0 == 255)=true:=by simpa using e
       generalize (cvL V j).getD k 0=y at c0 ne
       clear e HT
       go_wp2_with fail
       go_roundw
       case rel=>exact⟨k,by omega,rfl,HT2,by first | rfl | trivial⟩
       case measure=>simp
      ·have HT2:Hid (trimC (cvL V j) j=k+1):=by
        show _=_
        rw[HT.out]
        show (if (cvL V j).getD k 0=255 then trimC (cvL V j) k else k+1)=_
        rw[if_neg e]
       have ne:((cvL V j).getD k 0 == 255)=false:=by simpa using e
       generalize (cvL V j).getD k 0=y at c0 ne
       clear e HT
       go_wp2_with fail
       go_ret2
       exact tof_end HS.out HT2.out
end
section
open Go.RowKit Go.Maps Go.WideMaps
open Go.ChangeMaps (setBlock heap_setBlock_same heap_setBlock_other)
def kq (q:Q4):Value:=.agg #[.int .i64 q.1,.int .i64 q.2.1,.int .i64 q.2.2.1,.int .i64 q.2.2.2]
theorem arrP:ArrKey Tryz.prog 104 3 4:=⟨Tryz.underlying104,by kernel_rfl,by kernel_rfl,by kernel_rfl⟩
theorem some_typesP:∃ m,Tryz.prog.types.size=m+1:=by
 have h:decide (0 < Tryz.prog.types.size)=true:=by kernel_rfl
 have:=of_decide_eq_true h
 exact⟨Tryz.prog.types.size - 1,by omega⟩
theorem keyP:Keyed Tryz.prog 104:=Keyed.of_law arrP.law
theorem keyOf_px {q:Q4} (h:QOk q):∃ l,keyOf Tryz.prog 104 (kq q)=some l:=by
 have hkt:=arrP.keyType some_typesP
 obtain⟨m,hm⟩:=some_typesP
 obtain⟨x,y,z,t⟩:=q
 have wf:∀ v:Int,(0≤v∧v≤65535)→(Lit.int .i64 v).wf=true:=fun v hv=>by
  simp[Lit.wf,IntKind.min,IntKind.max,IntKind.signed,IntKind.bits]
  omega
 have wx:=wf x h.1
 have wy:=wf y h.2.1
 have wz:=wf z h.2.2.1
 have wt:=wf t h.2.2.2
 refine⟨.string (keyBytes [.int .i64 x,.int .i64 y,.int .i64 z,.int .i64 t]),?_⟩
 unfold keyOf kq
 simp only [arrP.hu]
 rw[if_pos (by simp [hkt,Value.formed,arrP.hu,arrP.size]),hm]
 unfold Program.keyLits
 simp only [arrP.hu,Value.cells]
 rw[if_pos (by rw [arrP.size]; rfl),show List.range 4=[0,1,2,3] from rfl,List.mapM_cons,List.mapM_cons,List.mapM_cons,List.mapM_cons,List.mapM_nil]
 simp[arrP.one,Program.keyLits,Tryz.underlying3,wx,wy,wz,wt]
theorem kq_inj {q r:Q4} (h:kq q=kq r):q=r:=by
 obtain⟨x,y,z,t⟩:=q
 obtain⟨x',y',z',t'⟩:=r
 simp only [kq,Value.agg.injEq,Array.mk.injEq,List.cons.injEq,Value.int.injEq,and_true,true_and] at h
 rw[h.1,h.2.1,h.2.2.1,h.2.2.2]
def PM (w:World) (M:Nat) (D:List Q4):Prop:=
 ∃ es clock,w.heap[M]?=some (.map es clock)∧es.toList.length=D.length∧∀ (i:Nat) (e:MapEntry),es.toList[i]?=some e→∃ q,D[i]?=some q∧QOk q∧e.key=kq q∧e.val=.int .i64 (i:Int)
theorem PM.lt {w:World} {M:Nat} {D:List Q4} (h:PM w M D):M < w.heap.size:=by
 obtain⟨es,clock,h1,_⟩:=h
 exact block_lt h1
theorem PM.keep {w w':World} {M:Nat} {D:List Q4} (h:PM w M D) (hk:w'.heap[M]?=w.heap[M]?):PM w' M D:=by
 obtain⟨es,clock,h1,h2⟩:=h
 exact⟨es,clock,hk.trans h1,h2⟩
theorem PM.called {w w':World} {M:Nat} {D:List Q4} (h:PM w M D) (hb:Below w.heap.size w w'):PM w' M D:=h.keep (hb.block M h.lt)
theorem PM.made (w:World):PM (w.alloc (.map #[] 0)) w.heap.size []:=⟨#[],0,heap_alloc_new w _,rfl,fun i e h=>by simp at h⟩
theorem PM.keys {es:Array MapEntry} {D:List Q4} (h:∀ (i:Nat) (e:MapEntry),es.toList[i]?=some e→∃ q,D[i]?=some q∧QOk q∧e.key=kq q∧e.val=.int .i64 (i:Int)):∀ e∈es.toList,∃ l,keyOf Tryz.prog 104 e.key=some l:=fun e he=>by
 obtain⟨i,hi⟩:=List.mem_iff_getElem?.mp he
 obtain⟨q,_,hq,hk,_⟩:=h i e hi
 rw[hk]
 exact keyOf_px hq
theorem PM.look_in {w:World} {M:Nat} {D:List Q4} {q:Q4} (h:PM w M D) (hq:QOk q) (hD:D.Nodup) (hm:q∈D):(Instr.lookup 102 (.map (some M)) (kq q) true).run Tryz.prog w=.ok (.tuple #[.int .i64 (D.idxOf q:Int),.bool true]) w:=by
 obtain⟨es,clock,h1,h2,h3⟩:=h
 obtain⟨kl,hkey⟩:=keyOf_px hq
 rcases keyP.find w hkey es.toList (PM.keys h3) with ⟨f1,f2⟩ | ⟨j,e0,f1,f2,f3⟩
 ·exfalso
  obtain⟨i,hi⟩:=List.mem_iff_getElem?.mp hm
  have hil:i < es.toList.length:=by rw [h2]; exact (List.getElem?_eq_some_iff.1 hi).1
  obtain⟨q',k1,_,k3,_⟩:=h3 i _ (List.getElem?_eq_getElem hil)
  rw[hi] at k1
  cases k1
  exact f2 _ (List.getElem_mem hil) k3
 ·obtain⟨q',k1,_,k3,k4⟩:=h3 j e0 f2
  obtain rfl:=kq_inj (f3.symm.trans k3)
  have hj:j < D.length:=(List.getElem?_eq_some_iff.1 k1).1
  have hlt:=List.idxOf_lt_length_iff.mpr hm
  have hget:D[D.idxOf q]'hlt=q:=List.getElem_idxOf hlt
  have hjq:D[j]'hj=q:=(List.getElem?_eq_some_iff.1 k1).2
  have e:j=D.idxOf q:=by
   have hp:=List.pairwise_iff_getElem.mp hD
   rcases Nat.lt_trichotomy j (D.idxOf q) with h1 | h1 | h1
   ·exact absurd (hjq.trans hget.symm) (hp j (D.idxOf q) hj hlt h1)
   ·exact h1
   ·exact absurd (hget.trans hjq.symm) (hp (D.idxOf q) j hlt hj h1)
  rw[← e,← k4]
  simp[Instr.lookup,run_underlying Tryz.underlying102,MapKept.run_getObj_map h1,keyP.check w _ hkey,f1,Result.andThen]
theorem zero_intP (w:World):(zeroValue 3).run Tryz.prog w=.ok (.int .i64 0) w:=by kernel_rfl
theorem PM.look_out {w:World} {M:Nat} {D:List Q4} {q:Q4} (h:PM w M D) (hq:QOk q) (hm:q ∉ D):(Instr.lookup 102 (.map (some M)) (kq q) true).run Tryz.prog w=.ok (.tuple #[.int .i64 0,.bool false]) w:=by
 obtain⟨es,clock,h1,h2,h3⟩:=h
 obtain⟨kl,hkey⟩:=keyOf_px hq
 rcases keyP.find w hkey es.toList (PM.keys h3) with ⟨f1,f2⟩ | ⟨j,e0,f1,f2,f3⟩
 ·have hz:=zero_intP w
  simp[Instr.lookup,run_underlying Tryz.underlying102,MapKept.run_getObj_map h1,keyP.check w _ hkey,f1,Result.andThen,hz]
 ·exfalso
  obtain⟨q',k1,_,k3,_⟩:=h3 j e0 f2
  obtain rfl:=kq_inj (f3.symm.trans k3)
  exact hm (List.mem_of_getElem? k1)
theorem PM.store {w:World} {M:Nat} {D:List Q4} {q:Q4} (h:PM w M D) (hq:QOk q) (hm:q ∉ D):∃ w2,(Instr.mapUpdate 102 (.map (some M)) (kq q) (.int .i64 (D.length:Int))).run Tryz.prog w=.ok () w2∧PM w2 M (D ++ [q])∧w.grownBy w2 (some M):=by
 obtain⟨es,clock,h1,h2,h3⟩:=h
 obtain⟨kl,hkey⟩:=keyOf_px hq
 have hg:∀ o,w.grownBy (setBlock w M o) (some M):=fun o=>⟨rfl,rfl,rfl,by simp [setBlock],fun i _ hi=>heap_setBlock_other h1 _ (fun e1=>hi (by rw [e1]))⟩
 rcases keyP.find w hkey es.toList (PM.keys h3) with ⟨f1,f2⟩ | ⟨j,e0,f1,f2,f3⟩
 ·refine⟨setBlock w M (.map (es.push ⟨kq q,.int .i64 (D.length:Int),clock⟩) (clock+1)),?_,⟨_,_,heap_setBlock_same h1 _,by rw [Array.toList_push,List.length_append,List.length_append,h2]; rfl,fun i e hi=>?_⟩,hg _⟩
  ·simp[Instr.mapUpdate,run_underlying Tryz.underlying102,MapKept.run_getObj_map h1,keyP.check w false hkey,f1,MapKept.run_setObj_map _ h1,Result.andThen,setBlock]
  ·rw[Array.toList_push] at hi
   rcases Nat.lt_or_ge i es.toList.length with hl | hl
   ·rw[List.getElem?_append_left hl] at hi
    obtain⟨q',k1,k2⟩:=h3 i e hi
    exact⟨q',by rw [List.getElem?_append_left (by omega)]; exact k1,k2⟩
   ·rw[List.getElem?_append_right hl] at hi
    have hi0:i - es.toList.length=0:=by
     rcases Nat.eq_zero_or_pos (i - es.toList.length) with h0 | h0
     ·exact h0
     ·rw[List.getElem?_eq_none (by show 1≤_; omega)] at hi
      cases hi
    rw[hi0] at hi
    simp only [List.getElem?_cons_zero,Option.some.injEq] at hi
    subst hi
    have hid:i=D.length:=by omega
    exact⟨q,by rw [List.getElem?_append_right (by omega),show i - D.length=0 by omega]; rfl,hq,rfl,by rw [hid]⟩
 ·exfalso
  obtain⟨q',k1,_,k3,_⟩:=h3 j e0 f2
  obtain rfl:=kq_inj (f3.symm.trans k3)
  exact hm (List.mem_of_getElem? k1)
end
section
open Go.RowKit Go.Joins
set_option maxRecDepth 100000 in
set_option maxHeartbeats 1600000 in
theorem tblDepth_any (n:Nat) (w:World) (h1:1≤n) (hn:n≤256):
  Calls Tryz.prog 58 #[.int .i64 (n:Int)] w fun e w'=>e=.returned (.int .i64 ((tblD n:Nat):Int))∧w'=w:=by
 go_enter Tryz.func58,Tryz.ntmps58
 go_wp2_with fail
 go_loopw [3] (fun i w'=>∃ d:Nat,i=.int .i64 (d:Int)∧Hid (d=1∨(d=2∧2 < n)∨(d=4∧4 < n)∨(d=8∧16 < n))∧w'=w) (fun i _=>9 - (intOf i).toNat)
 case atStart=>exact⟨1,rfl,.inl rfl,rfl⟩
 case round=>
  obtain⟨d,rfl,hd,rfl⟩:=hrel
  rcases hd.out with rfl | ⟨rfl,h2⟩ | ⟨rfl,h2⟩ | ⟨rfl,h2⟩
  ·by_cases h:2 < n
   ·have dl:decide ((2:Int) < (n:Int))=true:=decide_eq_true (by omega)
    have HD:Hid (2 < n):=h
    clear hd
    go_wp2_with fail
    go_roundw
    case rel=>exact⟨2,by go_num,.inr (.inl ⟨rfl,HD.out⟩),by first | rfl | trivial⟩
    case measure=>simp [intOf]
   ·have dl:decide ((2:Int) < (n:Int))=false:=decide_eq_false (by omega)
    have HT:Hid (tblD n=1):=by show _=_; unfold tblD; rw [if_pos (by omega)]
    clear hd
    go_wp2_with fail
    go_ret
    rw[HT.out]
    exact⟨rfl,rfl⟩
  ·by_cases h:4 < n
   ·have dl:decide ((4:Int) < (n:Int))=true:=decide_eq_true (by omega)
    have HD:Hid (4 < n):=h
    clear hd
    go_wp2_with fail
    go_roundw
    case rel=>exact⟨4,by go_num,.inr (.inr (.inl ⟨rfl,HD.out⟩)),by first | rfl | trivial⟩
    case measure=>simp [intOf]
   ·have dl:decide ((4:Int) < (n:Int))=false:=decide_eq_false (by omega)
    have HT:Hid (tblD n=2):=by show _=_; unfold tblD; rw [if_neg (by omega),if_pos (by omega)]
    clear hd
    go_wp2_with fail
    go_ret
    rw[HT.out]
    exact⟨rfl,rfl⟩
  ·by_cases h:16 < n
   ·have dl:decide ((16:Int) < (n:Int))=true:=decide_eq_true (by omega)
    have HD:Hid (16 < n):=h
    clear hd
    go_wp2_with fail
    go_roundw
    case rel=>exact⟨8,by go_num,.inr (.inr (.inr ⟨rfl,HD.out⟩)),by first | rfl | trivial⟩
    case measure=>simp [intOf]
   ·have dl:decide ((16:Int) < (n:Int))=false:=decide_eq_false (by omega)
    have HT:Hid (tblD n=4):=by show _=_; unfold tblD; rw [if_neg (by omega),if_neg (by omega),if_pos (by omega)]
    clear hd
    go_wp2_with fail
    go_ret
    rw[HT.out]
    exact⟨rfl,rfl⟩
  ·have dl:decide ((256:Int) < (n:Int))=false:=decide_eq_false (by omega)
   have HT:Hid (tblD n=8):=by show _=_; unfold tblD; rw [if_neg (by omega),if_neg (by omega),if_neg (by omega)]
   clear hd
   go_wp2_with fail
   go_ret
   rw[HT.out]
   exact⟨rfl,rfl⟩
end
section
open Go
section
variable {P:Program} {ops:Array Oper} {Q:Exit→Act→World→Prop} {md:Region.Mode} {S:World→Prop} {D:Nat}
def wpLate (P:Program) (md:Region.Mode) (ops:Array Oper) (Q:Exit→Act→World→Prop) (S:World→Prop) (D:Nat):Nat→Array Bool→Act→World→Prop
 | 0,listed,a,w=>Region.ready md ops listed=[]∧Q .normal a w
 | fuel+1,listed,a,w=>
  (Region.ready md ops listed=[]→Q .normal a w)∧
  ∀ i∈Region.ready md ops listed,wpOp P ops Q i (fun a' w'=>((listed.setIfInBounds i true).getD D true=false→S w')∧wpLate P md ops Q S D fuel (listed.setIfInBounds i true) a' w') a w
theorem wpAny_of_late:∀ (fuel:Nat) (listed:Array Bool) (a:Act) (w:World),wpLate P md ops Q S D fuel listed a w→wpAny P md ops Q fuel listed a w
 | 0,_,_,_,h=>h
 | fuel+1,_,_,_,h=>⟨h.1,fun i hi=>wpOp_mono (fun a' w' h'=>wpAny_of_late fuel _ a' w' h'.2) (h.2 i hi)⟩
theorem wp_region_late {id:Nat} {a:Act} {w:World} (hm:P.follows .mixedOrders=true)
  (h:wpLate P .any ops Q S D ops.size (Array.replicate ops.size false) a w.drew):(Code.region id ops true).wp P Q a w:=
 wp_region_any hm (wpAny_of_late _ _ _ _ h)
def waits (md:Region.Mode) (ops:Array Oper) (D i:Nat):Bool:=match ops[D]? with
 | some o=>o.after.any fun e=>Region.binds md e && e.on == i
 | none=>false
theorem waits_spec {i:Nat} (h:waits md ops D i=true) {o:Oper} (ho:ops[D]?=some o):∃ e∈o.after,Region.binds md e=true∧e.on=i:=by
 unfold waits at h
 rw[ho] at h
 obtain⟨j,hj,h2⟩:=Array.any_eq_true.1 h
 exact⟨_,Array.getElem_mem hj,by simpa using h2⟩
theorem late_first {i:Nat} {oi:Oper} {v:Value} (hi:ops[i]?=some oi) (hsel:∀ (j:Nat) (o:Oper) cs b,ops[j]?=some o→o.op≠.select cs b)
  (hQ:∀ c a w,Q (.panic c) (a.put oi.dst v) w→Q (.panic c) a w) (hD:waits md ops D i=true) (hne:D≠i):
  ∀ (fuel:Nat) (listed:Array Bool) (a:Act) (w:World),
   (∀ j oj,ops[j]?=some oj→j≠i→listed.getD j true=false→(∀ e∈oj.after,Region.binds md e=true→e.on≠i)→oi.apart ops oj=true)→
   i∈Region.ready md ops listed→YieldsIf P ops S oi v a→S w→listed.getD D true=false→
   wpLate P md ops Q S D fuel (listed.setIfInBounds i true) (a.put oi.dst v) w→wpLate P md ops Q S D (fuel+1) listed a w:=by
 intro fuel
 induction fuel with
 | zero=>
  intro listed a w _ hr hy hS _ H
  refine⟨fun h=>(by rw [h] at hr; cases hr),fun j hj=>?_⟩
  by_cases hji:j=i
  ·subst hji; exact hy.wpOp hi hS ⟨fun _=>hS,H⟩
  ·have:=ready_mono hj hji
   rw[H.1] at this
   cases this
 | succ fuel ih=>
  intro listed a w hfree hr hy hS hl H
  refine⟨fun h=>(by rw [h] at hr; cases hr),fun j hj=>?_⟩
  by_cases hji:j=i
  ·subst hji; exact hy.wpOp hi hS ⟨fun _=>hS,H⟩
  ·have h1:=H.2 j (ready_mono hj hji)
   obtain⟨hjun,oj,hoj,hall⟩:=mem_ready.1 hj
   have hnot:∀ e∈oj.after,Region.binds md e=true→e.on≠i:=fun e he hb heq=>by
    have h1:=hall e he hb
    have h0:=(mem_ready.1 hr).1
    rw[heq] at h1
    rcases Nat.lt_or_ge i listed.size with h' | h'
    ·simp[h'] at h0 h1; rw [h0] at h1; cases h1
    ·simp[Array.getElem?_eq_none h'] at h1
   have hjD:j≠D:=fun e=>by
    subst e
    obtain⟨x,hx,hb,he⟩:=waits_spec hD hoj
    exact hnot x hx hb he
   have h2:=wpOp_putIf hoj (hfree j oj hoj hji hjun hnot) (fun cs b=>hsel i oi cs b hi) (fun cs b=>hsel j oj cs b hoj) hQ hy h1
   have hfree':∀ k ok,ops[k]?=some ok→k≠i→(listed.setIfInBounds j true).getD k true=false→
     (∀ e∈ok.after,Region.binds md e=true→e.on≠i)→oi.apart ops ok=true:=fun k ok hk hki hun hno=>by
    refine hfree k ok hk hki ?_ hno
    by_cases hjk:j=k
    ·subst hjk; exact hjun
    ·rw[getD_set_ne true hjk] at hun; exact hun
   have hl':(listed.setIfInBounds j true).getD D true=false:=by rw [getD_set_ne true hjD]; exact hl
   have hl2:((listed.setIfInBounds i true).setIfInBounds j true).getD D true=false:=by rw [getD_set_ne true hjD,getD_set_ne true (Ne.symm hne)]; exact hl
   refine wpOp_mono (fun a' w' h3=>⟨fun _=>h3.2.1 hl2,ih (listed.setIfInBounds j true) a' w' hfree' (ready_mono hr (Ne.symm hji)) h3.1 (h3.2.1 hl2) hl' ?_⟩) h2
   rw[Array.setIfInBounds_comm _ _ hji]
   exact h3.2.2
theorem wpLate_take {i:Nat} {oi:Oper} {v:Value} {fuel:Nat} {listed:Array Bool} {a:Act} {w:World} (hi:ops[i]?=some oi)
  (hs:Region.noSelect ops=true) (hf:Region.free md ops listed i=true) (hr:(Region.ready md ops listed).contains i=true)
  (hQ:∀ c a w,Q (.panic c) (a.put oi.dst v) w→Q (.panic c) a w) (hD:waits md ops D i=true) (hne:D≠i) (hl:listed.getD D true=false) (hy:YieldsIf P ops S oi v a) (hS:S w)
  (h:wpLate P md ops Q S D fuel (listed.setIfInBounds i true) (a.put oi.dst v) w):wpLate P md ops Q S D (fuel+1) listed a w:=
 late_first hi (Region.noSelect_spec hs) hQ hD hne fuel listed a w (Region.free_spec hi hf) (by simpa using hr) hy hS hl h
theorem wpLate_one {i:Nat} {o:Oper} {fuel:Nat} {listed:Array Bool} {a:Act} {w:World} (hr:Region.ready md ops listed=[i]) (ho:ops[i]?=some o)
  (h:∀ K':Act→World→Prop,Shut (∀ a w,S w→(S w→wpLate P md ops Q S D fuel (listed.setIfInBounds i true) a w)→K' a w)→if Region.wanted o (yielded ops a.tmps)=true then Oper.wp P o a w K' Q else K' (a.put o.dst undef) w):
  wpLate P md ops Q S D (fuel+1) listed a w:=by
 refine⟨fun h0=>(by rw [h0] at hr; cases hr),fun j hj=>?_⟩
 rw[hr] at hj
 obtain rfl:j=i:=by simpa using hj
 exact wpOp_step ho (fun K' hK=>h K' (fun a w hS hW=>hK a w ⟨fun _=>hS,hW hS⟩))
theorem wpLate_end {i:Nat} {o:Oper} {fuel:Nat} {listed:Array Bool} {a:Act} {w:World} (hr:Region.ready md ops listed=[i]) (ho:ops[i]?=some o) (hl:(listed.setIfInBounds i true).getD D true=true)
  (h:∀ K':Act→World→Prop,Shut (∀ a w,wpLate P md ops Q S D fuel (listed.setIfInBounds i true) a w→K' a w)→if Region.wanted o (yielded ops a.tmps)=true then Oper.wp P o a w K' Q else K' (a.put o.dst undef) w):
  wpLate P md ops Q S D (fuel+1) listed a w:=by
 refine⟨fun h0=>(by rw [h0] at hr; cases hr),fun j hj=>?_⟩
 rw[hr] at hj
 obtain rfl:j=i:=by simpa using hj
 exact wpOp_step ho (fun K' hK=>h K' (fun a w hW=>hK a w ⟨(fun h0=>absurd (hl.symm.trans h0) (by decide)),hW⟩))
theorem wpLate_done {listed:Array Bool} {a:Act} {w:World} (hr:Region.ready md ops listed=[]) (h:Q .normal a w):
  ∀ fuel,wpLate P md ops Q S D fuel listed a w
 | 0=>⟨hr,h⟩
 | _+1=>⟨fun _=>h,by rw [hr]; simp⟩
end
end
end Go.Proofs.YtkpbfmdnjnohlaaGreat
