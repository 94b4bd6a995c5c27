/-
  Texts of the proof, put together.
-/
import Derived.Test.YtklpiihnbokkkaaGreatDoorZk06
import Derived.Deep.LoopGhost
import Derived.RangeFuncNested
import Derived.RangeFuncBound
import Derived.OwnWalkIn
import Derived.LoopNIn
import Derived.LoopIn
import Derived.Shelf.RegionOpen
namespace Go.Proofs.YtklpiihnbokkkaaGreatDoor
section
open Go.RowKit Go.Joins AdlerMath BigTextMath DeflMath Go.Lib
def Ad3 (w:World) (b:Nat) (p q:Int) (v:Value):Prop:=w.heap[b]?=some (.cells #[.int .i64 p,.int .i64 q,v] 61 (0,0))
section
variable {w:World} {b:Nat} {p q:Int} {v:Value}
theorem Ad3.c0 (h:Ad3 w b p q v):w.cell? ⟨b,0,none⟩=some (.int .i64 p):=cell_of_block h 0
theorem Ad3.c1 (h:Ad3 w b p q v):w.cell? ⟨b,1,none⟩=some (.int .i64 q):=cell_of_block h 1
theorem Ad3.c2 (h:Ad3 w b p q v):w.cell? ⟨b,2,none⟩=some v:=cell_of_block h 2
theorem Ad3.f (h:Ad3 w b p q v) (i:Nat):w.frozen? ⟨b,i,none⟩=false:=unfrozen_of_block h i
theorem Ad3.set0 (h:Ad3 w b p q v) (x:Int):Ad3 (w.setCell ⟨b,0,none⟩ (.int .i64 x)) b x q v:=by
 have:=block_setCell (i:=0) h (.int .i64 x)
 simpa [Ad3] using this
theorem Ad3.set1 (h:Ad3 w b p q v) (x:Int):Ad3 (w.setCell ⟨b,1,none⟩ (.int .i64 x)) b p x v:=by
 have:=block_setCell (i:=1) h (.int .i64 x)
 simpa [Ad3] using this
theorem Ad3.set2 (h:Ad3 w b p q v) (u:Value):Ad3 (w.setCell ⟨b,2,none⟩ u) b p q u:=by
 have:=block_setCell (i:=2) h u
 simpa [Ad3] using this
theorem Ad3.drew1 (h:Ad3 w b p q v):Ad3 w.drew b p q v:=h
theorem Ad3.lt (h:Ad3 w b p q v):b < w.heap.size:=block_lt h
end
set_option maxHeartbeats 400000 in
theorem adlerWord3 (p q:Int) (b:Nat) (v:Value) (w:World) (hA:Ad3 w b p q v) (h0:0≤p) (h1:p < 65521) (h2:0≤q) (h3:q < 65521):
  Calls Tryz.prog 33 #[.pointer (some ⟨b,0,none⟩)] w fun e w'=>e=.returned (.int .u32 (q * 65536+p))∧Below w.heap.size w w':=by
 have c0:=hA.c0
 have c1:=hA.c1
 have hb:=hA.lt
 have f0:=hA.f
 have k:=or_word p q h0 h1 h2 h3
 clear hA
 go_enter Tryz.func33,Tryz.ntmps33
 go_wp2
 go_region
 all_goals
  go_wp2
  go_ret
  exact⟨rfl,(Below.refl _ _).drew⟩
def Rest3 (b:Nat) (w w':World):Prop:=w'.heap.size=w.heap.size∧∀ k,k≠b→w'.heap[k]?=w.heap[k]?
theorem Rest3.set {b i:Nat} {v:Value} {w w':World} (h:Rest3 b w w'):Rest3 b w (w'.setCell ⟨b,i,none⟩ v).drew:=by
 refine⟨?_,fun k hk=>?_⟩
 ·show (w'.setCell ⟨b,i,none⟩ v).heap.size=_
  rw[← h.1]
  simp
 ·show (w'.setCell ⟨b,i,none⟩ v).heap[k]?=_
  rw[Below.heap_setCell w' _ _ k (by simpa using hk)]
  exact h.2 k hk
set_option maxHeartbeats 800000 in
theorem adlerTake3 (p q:Int) (s:ByteArray) (b:Nat) (v:Value) (w:World) (hA:Ad3 w b p q v) (h0:0≤p) (h1:p < 65521) (h2:0≤q) (h3:q < 65521) (hs:s.size≤1048576):
  Calls Tryz.prog 32 #[.pointer (some ⟨b,0,none⟩),.string s] w fun e w'=>e=.returned (.tuple #[])∧Ad3 w' b (adP s p s.size) (adQ s p q s.size) v∧Below b w w'∧Rest3 b w w':=by
 go_enter Tryz.func32,Tryz.ntmps32
 go_wp2
 go_loopw [7] (fun i w'=>∃ j:Nat,j≤s.size∧i=.int .i64 j∧Ad3 w' b (adP s p j) (adQ s p q j) v∧Below b w w'∧Rest3 b w w') (fun i _=>s.size - (intOf i).toNat)
 case atStart=>exact⟨0,Nat.zero_le _,rfl,hA,Below.refl _ _,rfl,fun _ _=>rfl⟩
 case round=>
  obtain⟨j,hj,rfl,hA1,hb1,hr1⟩:=hrel
  have hp:=adP_bd s p h0 h1 j
  have hp1:=adP_bd s p h0 h1 (j+1)
  have hq:=adQ_bd s p q h2 h3 j
  by_cases hlt:j < s.size
  ·have hu:=byteAt_lt s j
   have HB:Hid ((s[j]'hlt).toNat=byteAt s j):=byteAt_get s j hlt
   have hb2:(s[j]'hlt).toNat < 256:=UInt8.toNat_lt _
   have HP:Hid (adP s p (j+1)=(adP s p j+(byteAt s j:Int)) % 65521):=adP_succ _ _ _
   have HQ:Hid (adQ s p q (j+1)=(adQ s p q j+adP s p (j+1)) % 65521):=adQ_succ _ _ _ _
   have c0:=hA1.c0
   have c1:=hA1.c1
   have hb:=hA1.lt
   have f0:=hA1.f
   have HA1:Hid (Ad3 _ b (adP s p j) (adQ s p q j) v):=hA1
   have H0:Hid (Ad3 w b p q v):=hA
   have HR1:=hid_of hr1
   clear hA1 hA hr1
   go_wp2
   go_region
   have e1:(adP s p j+((s[j]'hlt).toNat:Int)) % 65521=adP s p (j+1):=by rw [HP.out,HB.out]
   have hA2:=(HA1.out.set0 (adP s p (j+1))).drew1
   have hB2:Below b w ((wr.setCell ⟨b,0,none⟩ (.int .i64 (adP s p (j+1)))).drew):=(Below.setCell (p:=⟨b,0,none⟩) hb1 (Nat.le_refl b) _).drew
   have HR2:=hid_of (HR1.out.set (i:=0) (v:=.int .i64 (adP s p (j+1))))
   simp only [e1]
   generalize (wr.setCell ⟨b,0,none⟩ (.int .i64 (adP s p (j+1)))).drew=w2 at hA2 hB2 HR2 ⊢
   clear c0 c1 hb f0 HA1 hb1 e1 HB hb2 HP HR1
   have c0:=hA2.c0
   have c1:=hA2.c1
   have hb:=hA2.lt
   have f0:=hA2.f
   have HA2:Hid (Ad3 w2 b (adP s p (j+1)) (adQ s p q j) v):=hA2
   clear hA2
   go_wp2
   go_region
   have hA3:=(HA2.out.set1 (adQ s p q (j+1))).drew1
   have hB3:Below b w ((w2.setCell ⟨b,1,none⟩ (.int .i64 (adQ s p q (j+1)))).drew):=(Below.setCell (p:=⟨b,1,none⟩) hB2 (Nat.le_refl b) _).drew
   have HR3:=hid_of (HR2.out.set (i:=1) (v:=.int .i64 (adQ s p q (j+1))))
   simp only [← HQ.out]
   generalize (w2.setCell ⟨b,1,none⟩ (.int .i64 (adQ s p q (j+1)))).drew=w3 at hA3 hB3 HR3 ⊢
   clear c0 c1 hb f0 HA2 hB2 HQ HR2
   go_wp2
   go_roundw
   case rel=>exact⟨j+1,by omega,by go_num,hA3,hB3,HR3.out⟩
   case measure=>simp [intOf]; omega
  ·go_wp2
   go_end0
   obtain rfl:j=s.size:=by omega
   exact⟨rfl,hA1,hb1,hr1⟩
def Zw (w:World) (b:Nat) (p q:Int) (T:ByteArray):Prop:=∃ v,Ad3 w b p q v∧w.ownsRow (b+1) 5 1 v T.size (strCells T)
theorem strCells_app (s t:ByteArray):strCells s ++ strCells t=strCells (s ++ t):=by
 obtain⟨a⟩:=s
 obtain⟨c⟩:=t
 show _=strCells (ByteArray.mk a ++ ByteArray.mk c)
 rw[ByteArray.mk_append_mk]
 simp[strCells]
theorem size_app (s t:ByteArray):(s ++ t).size=s.size+t.size:=by
 obtain⟨a⟩:=s
 obtain⟨c⟩:=t
 show (ByteArray.mk a ++ ByteArray.mk c).size=_
 rw[ByteArray.mk_append_mk]
 simp[ByteArray.size]
theorem owns_keep {w w':World} {base n:Nat} {e:TypeId} {v:Value} {xs:List Value} (h:w.ownsRow base e 1 v n xs) (hk:∀ k,base≤k→k < w.heap.size→w'.heap[k]?=w.heap[k]?):w'.ownsRow base e 1 v n xs:=by
 refine⟨h.1,?_⟩
 rcases h.2 with q | ⟨g,cap,cur,q,h1,hg,h2⟩
 ·exact .inl q
 ·exact .inr ⟨g,cap,cur,q,h1,(hk g h1 (block_lt hg)).trans hg,h2⟩
theorem owns_ne {w:World} {b n:Nat} {e:TypeId} {v:Value} {xs:List Value} (h:w.ownsRow (b+1) e 1 v n xs):∀ k,v.ownBlock=some k→b+1≤k∧k < w.heap.size:=by
 intro k hk
 rcases h.2 with ⟨q,_⟩ | ⟨g,cap,cur,q,h1,hg,_⟩
 ·subst q; cases hk
 ·subst q; cases hk; exact⟨h1,block_lt hg⟩
set_option maxRecDepth 100000 in
set_option maxHeartbeats 800000 in
theorem zput (b:Nat) (p q:Int) (T s:ByteArray) (w:World) (hZ:Zw w b p q T) (h:T.size+s.size≤1048576):
  Calls Tryz.prog 31 #[.pointer (some ⟨b,0,none⟩),.string s] w fun e w'=>e=.returned (.tuple #[])∧Zw w' b p q (T ++ s)∧Below b w w':=by
 obtain⟨v,hA,hO⟩:=hZ
 obtain⟨i0,hi0,hz0,hz1,hz2⟩:=info_parts info_byte
 have c2:=hA.c2
 have hb:=hA.lt
 have HA:=hid_of hA
 have HO:=hid_of hO
 clear hA hO
 go_enter Tryz.func31,Tryz.ntmps31
 go_wp2_with (at_builtin; refine wpList_append_own_string w rfl _ _ 22 9 rfl (b+1) 5 i0 Tryz.underlying22 Tryz.underlying9 hi0 hz0 hz1 hz2 v T.size (strCells T) rfl HO.out s rfl (by unfold maxLen; omega) (by omega) (by omega) ?_)
 intro v' w' y1 y2 _
 have hne:=owns_ne HO.out
 have A2:Ad3 w' b p q v:=(y2.block b hb (fun e=>by have:=(hne b e.symm).1; omega)).trans HA.out
 have d2:=A2.c2
 have lb:=A2.lt
 have fb:=A2.f
 have HN:Hid (Zw (w'.setCell ⟨b,2,none⟩ v') b p q (T ++ s)∧Below b w (w'.setCell ⟨b,2,none⟩ v')):=by
  refine⟨⟨v',A2.set2 v',?_⟩,Below.setCell (p:=⟨b,2,none⟩) ?_ (Nat.le_refl b) _⟩
  ·rw[size_app,← strCells_app]
   exact owns_keep y1 fun k h1 _=>Below.heap_setCell w' _ _ k (by simp; omega)
  ·exact (Below.refl b w).grown y2 (by omega) (fun k hk=>by have:=(hne k hk).1; omega)
 obtain⟨a',n',c',hv'⟩:∃ a n c,v'=.slice a n c:=by
  rcases y1.2 with ⟨q,_⟩ | ⟨g,cap,cur,q,_⟩
  ·exact⟨_,_,_,q⟩
  ·exact⟨_,_,_,q⟩
 clear A2 y1 y2 hne
 subst hv'
 go_wp2_with fail
 go_end0
 exact⟨rfl,HN.out⟩
theorem Zw.below {w w':World} {b:Nat} {p q:Int} {T:ByteArray} (h:Zw w b p q T) (hb:Below w.heap.size w w'):Zw w' b p q T:=by
 obtain⟨v,hA,hO⟩:=h
 exact⟨v,(hb.block b hA.lt).trans hA,owns_keep hO fun k _ hk=>hb.block k hk⟩
set_option maxRecDepth 100000 in
theorem zputBig (b:Nat) (p q:Int) (T X:ByteArray) (n k:Int) (w:World) (hZ:Zw w b p q T) (h:T.size+X.size≤1048576)
  (hX:∀ W,Calls Tryz.prog 59 #[.int .i64 n,.int .i64 k] W fun e w'=>e=.returned (.tuple #[.string X,.bool true])∧Below W.heap.size W w'):
  Calls Tryz.prog 29 #[.pointer (some ⟨b,0,none⟩),.int .i64 n,.int .i64 k] w fun e w'=>e=.returned (.tuple #[])∧Zw w' b p q (T ++ X)∧Below b w w':=by
 have HZ:=hid_of hZ
 have hbl:b < w.heap.size:=by obtain⟨v,hA,_⟩:=hZ; exact hA.lt
 clear hZ
 go_enter Tryz.func29,Tryz.ntmps29
 go_wp2_with fail
 refine (hX _).mono ?_
 rintro e w1 ⟨rfl,hB1⟩
 have HZ1:=hid_of (HZ.out.below hB1)
 have HB1:=hid_of hB1
 clear hB1
 go_wp2_with fail
 refine (zput b p q T X w1 HZ1.out h).mono ?_
 rintro e w2 ⟨rfl,hZ2,hB2⟩
 have HE:Hid (Zw w2 b p q (T ++ X)∧Below b w w2):=⟨hZ2,(HB1.out.mono (by omega)).trans hB2⟩
 clear hZ2 hB2
 go_wp2_with fail
 go_end0
 exact⟨rfl,HE.out⟩
theorem Zw.start (w:World) (p q:Int):Zw (w.alloc (.cells #[.int .i64 p,.int .i64 q,.slice none 0 0] 61)) w.heap.size p q ⟨#[]⟩:=⟨.slice none 0 0,heap_alloc_new w _,rfl,.inl ⟨rfl,rfl⟩⟩
theorem owns_text {w:World} {b:Nat} {v:Value} {T:ByteArray} (h:w.ownsRow (b+1) 5 1 v T.size (strCells T)) (hT:0 < T.size):(convert 22 9 v).run Tryz.prog w=.ok (.string T) w:=by
 rcases h.2 with ⟨q,h0⟩ | ⟨g,cap,cur,q,h1,hg,_⟩
 ·omega
 ·subst q
  have hr:=run_convert_bytes_arg (P:=Tryz.prog) w 22 5 Tryz.underlying22 Tryz.underlying5 g 0 T.size cap (bytesOf T) (bytesOf_length T) (fun i hi=>?_) 9 Tryz.underlying9
  ·rw[str_back] at hr
   exact hr
  ·have hi':i < T.data.size:=hi
   rw[Nat.zero_add,h.cellAt i (by rw [Nat.mul_one]; exact hi)]
   simp[strCells,bytesOf,Array.getElem?_eq_getElem hi']
theorem zHead (k:Nat) (w:World) (h:k≤3):Calls Tryz.prog 30 #[.int .i64 (k:Int)] w fun e w'=>e=.returned (.int .i64 (headN k))∧w'=w:=by
 have b0:bits .or .i64 30720 0=30720:=by decide +kernel
 have b1:bits .or .i64 30720 64=30784:=by decide +kernel
 have b2:bits .or .i64 30720 128=30848:=by decide +kernel
 have b3:bits .or .i64 30720 192=30912:=by decide +kernel
 have:k=0∨k=1∨k=2∨k=3:=by omega
 rcases this with rfl | rfl | rfl | rfl
 all_goals
  go_enter Tryz.func30,Tryz.ntmps30
  go_wp2_with fail
  go_ret
  exact⟨rfl,rfl⟩
set_option maxRecDepth 100000 in
set_option maxHeartbeats 800000 in
theorem zlib_answer (hD:DeflateAnswer):ZlibAnswer:=by
 intro t lv w ht hlv hG
 have hd:=fun W hG=>hD t lv W ht hlv hG
 unfold deflAns at hd
 unfold zlibAns
 have HG:=hid_of hG
 by_cases hr:DeflRight t lv
 ·rw[if_pos hr] at hd ⊢
  obtain⟨h1,h2,h3⟩:=hr
  obtain⟨k,rfl⟩:=Int.eq_ofNat_of_zero_le h2
  rw[Int.toNat_natCast] at hd ⊢
  have hh:=fun W=>zHead k W (by omega)
  have hn:=newAdler_any 1
  have HE:Hid (zlibT t k=strOfNums (low (headN k) 2) ++ deflT t k ++ strOfNums (low (adler 1 t) 4)):=rfl
  have z1:(strOfNums (low (headN k) 2)).size=2:=(strOfNums_size _).trans (low_length _ _)
  have z2:(strOfNums (low (adler 1 t) 4)).size=4:=(strOfNums_size _).trans (low_length _ _)
  have z3:(deflT t k).size≤12000:=deflT_size t k h1
  have ha:=adler_range t
  have hhr:=headN_range k
  have hb2:=fun W=>implBig_yes2 (headN k) W (by omega) (by omega)
  have hb4:=fun W=>implBig_yes4 (adler 1 t) W (by omega) (by omega)
  have hp:=adP_bd t 1 (by omega) (by omega) t.size
  have hq:=adQ_bd t 1 0 (by omega) (by omega) t.size
  have had:adQ t 1 0 t.size * 65536+adP t 1 t.size=adler 1 t:=rfl
  have htk:=fun (b:Nat) (v:Value) (W:World) (hA:Ad3 W b 1 0 v)=>adlerTake3 1 0 t b v W hA (by omega) (by omega) (by omega) (by omega) ht
  have hwd:=fun (b:Nat) (v:Value) (W:World) (hA:Ad3 W b (adP t 1 t.size) (adQ t 1 0 t.size) v)=>adlerWord3 _ _ b v W hA hp.1 hp.2 hq.1 hq.2
  rw[had] at hwd
  generalize adler 1 t=x at *
  generalize headN k=y at *
  generalize strOfNums (low y 2)=A at *
  generalize deflT t k=B at *
  generalize strOfNums (low x 4)=C at *
  generalize zlibT t k=Z at *
  generalize adP t 1 t.size=P1 at *
  generalize adQ t 1 0 t.size=Q1 at *
  have HHD:=hid_of had
  clear hD hG had
  go_enter Tryz.func12,Tryz.ntmps12
  go_wp2_with fail
  refine (hd _ HG.out).mono ?_
  rintro e w1 ⟨rfl,hB1⟩
  have HB1:=hid_of hB1
  clear hB1
  go_wp2_with fail
  refine (hn w1 (by omega) (by omega)).mono ?_
  rintro e w2 ⟨rfl,hB2⟩
  have HB2:=hid_of (bnext HB1.out hB2)
  have HZ2:=hid_of (Zw.start w2 1 0)
  have HL2:=hid_of (bal HB2.out (.cells #[.int .i64 1,.int .i64 0,.slice none 0 0] 61))
  have hsz:w.heap.size≤w2.heap.size:=HB2.out.size
  clear hB2
  go_wp2_with fail
  generalize w2.alloc (.cells #[.int .i64 1,.int .i64 0,.slice none 0 0] 61)=W2 at HZ2 HL2 ⊢
  refine (hh W2).mono ?_
  rintro e w3 ⟨rfl,rfl⟩
  generalize w2.heap.size=b at HZ2 hsz ⊢
  go_wp2_with fail
  refine (zputBig b 1 0 ⟨#[]⟩ A y 2 w3 HZ2.out (by rw [z1]; show 0+2≤_; omega) hb2).mono ?_
  rintro e w4 ⟨rfl,hZ4,hB4⟩
  have HZ4:=hid_of hZ4
  have HL4:=hid_of (HL2.out.trans (hB4.mono hsz))
  clear hZ4 hB4 HZ2 HL2
  have y1:((⟨#[]⟩:ByteArray) ++ A).size=2:=by rw [size_app,z1]; rfl
  go_wp2_with fail
  refine (zput b 1 0 (⟨#[]⟩ ++ A) B w4 HZ4.out (by rw [y1]; omega)).mono ?_
  rintro e w5 ⟨rfl,hZ5,hB5⟩
  have HL5:=hid_of (HL4.out.trans (hB5.mono hsz))
  obtain⟨v5,hA5,hO5⟩:=hZ5
  have HO5:=hid_of hO5
  have HA5:=hid_of hA5
  have l5:=hA5.lt
  clear hA5 hO5 hB5 HZ4 HL4
  go_wp2_with fail
  refine (htk b v5 w5 HA5.out).mono ?_
  rintro e w6 ⟨rfl,hA6,hB6,hR6⟩
  have HL6:=hid_of (HL5.out.trans (hB6.mono hsz))
  have HO6:=hid_of (owns_keep HO5.out fun q h1 _=>hR6.2 q (by omega))
  have HA6:=hid_of hA6
  have l6:=hA6.lt
  clear hA6 hB6 hR6 HA5 HO5 HL5 l5
  go_wp2_with fail
  refine (hwd b v5 w6 HA6.out).mono ?_
  rintro e w7 ⟨rfl,hB7⟩
  have HZ7:=hid_of (Zw.below ⟨v5,HA6.out,HO6.out⟩ hB7)
  have HL7:=hid_of (bnext HL6.out hB7)
  clear hB7 HA6 HO6 HL6 l6
  have y2:((⟨#[]⟩:ByteArray) ++ A ++ B).size=2+B.size:=by rw [size_app,y1]
  go_wp2_with fail
  refine (zputBig b P1 Q1 (⟨#[]⟩ ++ A ++ B) C x 4 w7 HZ7.out (by rw [y2]; omega) hb4).mono ?_
  rintro e w8 ⟨rfl,hZ8,hB8⟩
  have HL8:=hid_of (HL7.out.trans (hB8.mono hsz))
  obtain⟨v8,hA8,hO8⟩:=hZ8
  have c2:=hA8.c2
  have l8:=hA8.lt
  have hcv:=owns_text hO8 (by rw [size_app,y2]; omega)
  have HT:Hid ((⟨#[]⟩:ByteArray) ++ A ++ B ++ C=Z):=by
   show _=_
   rw[HE.out]
   congr 2
  rw[HT.out] at hcv
  clear hA8 hO8 hB8 HZ7 HL7 HT
  go_wp2_with fail
  refine bodyPost_ret (v:=.tuple #[.string Z,.bool true]) ?_ rfl ⟨rfl,HL8.out⟩
  simp[results,Tryz.results12,go_sem]
 ·rw[if_neg hr] at hd ⊢
  clear hr hD hG
  go_enter Tryz.func12,Tryz.ntmps12
  go_wp2_with fail
  refine (hd _ HG.out).mono ?_
  rintro e w1 ⟨rfl,hB1⟩
  have HB1:=hid_of hB1
  clear hB1
  go_wp2_with fail
  refine bodyPost_ret (v:=.tuple #[.string ⟨#[]⟩,.bool false]) ?_ rfl ⟨rfl,HB1.out⟩
  simp[results,Tryz.results12,go_sem]
end
section
open Go.RowKit AdlerMath
theorem ret_u {a b:Int} (h:a=b):Ending.returned (.int .u32 a)=.returned (.int .u32 b):=by rw [h]
set_option maxHeartbeats 400000 in
theorem specAdler_any (x:Int) (s:ByteArray) (w:World) (h0:0≤x) (h1:x≤4294967295) (hs:s.size≤1048576):
  Calls Tryz.prog 74 #[.int .u32 x,.string s] w fun e w'=>e=.returned (.int .u32 (adler x s))∧w'=w:=by
 go_enter Tryz.func74,Tryz.ntmps74
 go_wp2
 go_loop [5,6,7] (fun p q i=>∃ j:Nat,j≤s.size∧i=.int .i64 j∧p=.int .u32 (adP s (x % 65536 % 65521) j)∧q=.int .u32 (adQ s (x % 65536 % 65521) (x / 65536 % 65521) j)) (fun _ _ i=>s.size - (intOf i).toNat)
 case atStart=>exact⟨0,Nat.zero_le _,rfl,rfl,rfl⟩
 case round=>
  obtain⟨j,hj,rfl,rfl,rfl⟩:=hrel
  have hp:=adP_bd s (x % 65536 % 65521) (by omega) (by omega) j
  have hp1:=adP_bd s (x % 65536 % 65521) (by omega) (by omega) (j+1)
  have hq:=adQ_bd s (x % 65536 % 65521) (x / 65536 % 65521) (by omega) (by omega) j
  by_cases hlt:j < s.size
  ·have hu:=byteAt_lt s j
   have HB:Hid ((s[j]'hlt).toNat=byteAt s j):=byteAt_get s j hlt
   have hb2:(s[j]'hlt).toNat < 256:=UInt8.toNat_lt _
   have HP:Hid (adP s (x % 65536 % 65521) (j+1)=(adP s (x % 65536 % 65521) j+(byteAt s j:Int)) % 65521):=adP_succ _ _ _
   have HQ:Hid (adQ s (x % 65536 % 65521) (x / 65536 % 65521) (j+1)=(adQ s (x % 65536 % 65521) (x / 65536 % 65521) j+adP s (x % 65536 % 65521) (j+1)) % 65521):=adQ_succ _ _ _ _
   go_wp2
   go_round
   case rel=>exact⟨j+1,by omega,by go_num,by rw [HP.out,← HB.out],by rw [HQ.out,HP.out,← HB.out]⟩
   case measure=>simp [intOf]; omega
  ·go_wp2
   go_ret
   obtain rfl:j=s.size:=by omega
   exact⟨ret_u rfl,rfl⟩
end
section
open Go.RowKit Go.Joins AdlerMath BigTextMath DeflMath
theorem specAdler0 (s:ByteArray) (w:World) (hs:s.size≤1048576):
  Calls Tryz.prog 47 #[.string s] w fun e w'=>e=.returned (.int .u32 (adler 1 s))∧w'=w:=by
 go_enter Tryz.func47,Tryz.ntmps47
 go_wp2_with fail
 refine (specAdler_any 1 s _ (by omega) (by omega) hs).mono ?_
 rintro e w1 ⟨rfl,rfl⟩
 go_wp2_with fail
 go_ret
 exact⟨rfl,rfl⟩
theorem specFour (x:Int) (w:World) (h0:0≤x) (h1:x < 4294967296):
  Calls Tryz.prog 46 #[.int .u32 x] w fun e w'=>e=.returned (.string (strOfNums (low x 4)))∧Below w.heap.size w w':=by
 have hb:=fun W=>l01Big_any x 4 W h0 (by omega) (by omega)
 have k4:((4:Nat):Int)=4:=rfl
 rw[k4] at hb
 go_enter Tryz.func46,Tryz.ntmps46
 go_wp2_with fail
 refine (hb _).mono ?_
 rintro e w1 ⟨rfl,hB⟩
 have HB:=hid_of hB
 clear hB
 go_wp2_with fail
 go_ret
 exact⟨rfl,HB.out⟩
set_option maxHeartbeats 800000 in
theorem specZHead (lv:Nat) (w:World) (h:lv≤3):
  Calls Tryz.prog 45 #[.int .i64 (lv:Int)] w fun e w'=>e=.returned (.string (strOfNums (low (headN lv) 2)))∧Below w.heap.size w w':=by
 obtain⟨K,hK,hlt⟩:∃ K:Nat,K≤30∧(headN lv=30720+64 * lv+K∧(30720+64 * (lv:Int)+K) % 31=0∧(64 * (lv:Int)+K < 256)∧∀ j:Nat,j < K→¬ (30720+64 * (lv:Int)+j) % 31=0):=by
  have:lv=0∨lv=1∨lv=2∨lv=3:=by omega
  rcases this with rfl | rfl | rfl | rfl
  ·exact⟨1,by omega,by decide,by decide,by decide,fun j hj=>by omega⟩
  ·exact⟨30,by omega,by decide,by decide,by decide,fun j hj=>by omega⟩
  ·exact⟨28,by omega,by decide,by decide,by decide,fun j hj=>by omega⟩
  ·exact⟨26,by omega,by decide,by decide,by decide,fun j hj=>by omega⟩
 obtain⟨hh,h0,h256,hn⟩:=hlt
 have HN:=hid_of hn
 have HE:Hid (low (headN lv) 2=[120,64 * (lv:Int)+K]):=by
  show _=_
  rw[low2 _ (by have:=headN_range lv; omega) (by have:=headN_range lv; omega),hh]
  congr 1
  ·omega
  ·congr 1; omega
 have kc:=conv2
 clear hn hh
 go_enter Tryz.func45,Tryz.ntmps45
 go_wp2_with fail
 go_loop [3] (fun x=>∃ j:Nat,j≤K∧x=.int .i64 (64 * (lv:Int)+j)) (fun x=>K - (intOf x - 64 * (lv:Int)).toNat)
 case atStart=>exact⟨0,Nat.zero_le _,by simp⟩
 case round=>
  obtain⟨j,hj,rfl⟩:=hrel
  have t1:(30720+(64 * (lv:Int)+(j:Int))).tmod 31=(30720+64 * (lv:Int)+j) % 31:=by
   rw[Int.tmod_eq_emod_of_nonneg (by omega)]
   congr 1
   omega
  by_cases hlt:j < K
  ·have e0:=HN.out j hlt
   have e1:((30720+64 * (lv:Int)+j) % 31 == 0)=false:=by simpa using e0
   have e2:((30720+64 * (lv:Int)+j) % 31 != 0)=true:=by simpa using e0
   clear e0
   go_wp2_with fail
   go_round
   case rel=>exact⟨j+1,by omega,by first | (congr 1; done) | (congr 1; omega)⟩
   case measure=>simp [intOf]; omega
  ·obtain rfl:j=K:=by omega
   have e1:((30720+64 * (lv:Int)+j) % 31 == 0)=true:=by simpa using h0
   have e2:((30720+64 * (lv:Int)+j) % 31 != 0)=false:=by simpa using h0
   have u1:(64 * (lv:Int)+j) % 256=64 * (lv:Int)+j:=by omega
   have u2:IntKind.u8.wrap (64 * (lv:Int)+j)=64 * (lv:Int)+j:=by show (64 * (lv:Int)+j) % 256=_; omega
   go_wp2_with fail
   go_ret
   exact⟨by rw [HE.out]; rfl,bstart _ _⟩
set_option maxHeartbeats 800000 in
theorem specZlib (hM:SpecDefl) (t:ByteArray) (lv:Int) (w:World) (ht:t.size≤1048576):
  Calls Tryz.prog 15 #[.string t,.int .i64 lv] w fun e w'=>e=.returned (zlibAns t lv)∧Below w.heap.size w w':=by
 have hd:=fun W=>hM t lv W ht
 unfold deflAns at hd
 unfold zlibAns
 by_cases hr:DeflRight t lv
 ·rw[if_pos hr] at hd ⊢
  obtain⟨h1,h2,h3⟩:=hr
  obtain⟨k,rfl⟩:=Int.eq_ofNat_of_zero_le h2
  rw[Int.toNat_natCast] at hd ⊢
  have hh:=fun W=>specZHead k W (by omega)
  have hf:=fun W=>specFour (adler 1 t) W (adler_range t).1 (adler_range t).2
  have ha:=fun W=>specAdler0 t W ht
  have HE:Hid (zlibT t k=strOfNums (low (headN k) 2) ++ deflT t k ++ strOfNums (low (adler 1 t) 4)):=rfl
  have z1:(strOfNums (low (headN k) 2)).size=2:=(strOfNums_size _).trans (low_length _ _)
  have z2:(strOfNums (low (adler 1 t) 4)).size=4:=(strOfNums_size _).trans (low_length _ _)
  have z3:(deflT t k).size≤12000:=deflT_size t k h1
  generalize strOfNums (low (headN k) 2)=A at *
  generalize deflT t k=B at *
  generalize adler 1 t=x at *
  generalize strOfNums (low x 4)=C at *
  generalize zlibT t k=Z at *
  clear hM
  go_enter Tryz.func15,Tryz.ntmps15
  go_wp2_with fail
  refine (hd _).mono ?_
  rintro e w1 ⟨rfl,hB1⟩
  have HB1:=hid_of hB1
  clear hB1
  go_wp2_with fail
  refine (hh _).mono ?_
  rintro e w2 ⟨rfl,hB2⟩
  have HB2:=hid_of (bnext HB1.out hB2)
  clear hB2
  go_wp2_with fail
  refine (ha _).mono ?_
  rintro e w3 ⟨rfl,rfl⟩
  go_wp2_with fail
  refine (hf _).mono ?_
  rintro e w4 ⟨rfl,hB4⟩
  have HB4:=hid_of (bnext HB2.out hB4)
  clear hB4
  go_wp2_with fail
  refine bodyPost_ret (v:=.tuple #[.string (A ++ B ++ C),.bool true]) ?_ rfl ⟨by rw [HE.out],HB4.out⟩
  simp[results,Tryz.results15,go_sem]
 ·rw[if_neg hr] at hd ⊢
  clear hr hM
  go_enter Tryz.func15,Tryz.ntmps15
  go_wp2_with fail
  refine (hd _).mono ?_
  rintro e w1 ⟨rfl,hB1⟩
  have HB1:=hid_of hB1
  clear hB1
  go_wp2_with fail
  refine bodyPost_ret (v:=.tuple #[.string ⟨#[]⟩,.bool false]) ?_ rfl ⟨rfl,HB1.out⟩
  simp[results,Tryz.results15,go_sem]
end
section
open Go.RowKit
def StoredAnswer:Prop:=∀ (s:ByteArray) (c:Int) (t:ByteArray) (last:Bool) (w:World),s.size≤1048576→-9223372036854775808≤c→c≤9223372036854775807→t.size≤1048576→
 Calls Tryz.prog 50 #[.agg #[.string s,.int .i64 c],.string t,.bool last] w fun e w'=>e=.returned (blkAns (storedOut s c t last))∧Below w.heap.size w w'
end
section
open Go.RowKit TokMath
def FixedAnswer:Prop:=∀ (s:ByteArray) (c:Int) (a:Option Addr) (cp:Nat) (L:List Tok) (last:Bool) (w:World),s.size≤1048576→-9223372036854775808≤c→c≤9223372036854775807→TCame w a L.length (fun j=>L.getD j (0,0,0))→L.length≤1048576→
 Calls Tryz.prog 52 #[.agg #[.string s,.int .i64 c],.slice a L.length cp,.bool last] w fun e w'=>e=.returned (blkAns (fixedOut s c L last))∧Below w.heap.size w w'
end
section
open Go.RowKit Go.Joins TokMath SearchMath DeflMath
theorem if_wanted {c A E:Prop} [Decidable c] (hc:c) (h:A):if c then A else E:=by rw [if_pos hc]; exact h
theorem wanted_none {o:Oper} {y:Nat→Option Bool} (h:o.guard=none):Region.wanted o y=true:=by simp [Region.wanted,h]
theorem part_length (L:List Tok) (k:Nat):(prt L k).length=min 60 (L.length - 60 * k):=by
 unfold prt
 rw[List.length_take,List.length_drop]
theorem part_get {L:List Tok} {k j:Nat} (h:j < (prt L k).length):(prt L k).getD j (0,0,0)=L.getD (60 * k+j) (0,0,0):=by
 rw[part_length] at h
 unfold prt
 rw[List.getD_eq_getElem?_getD,List.getElem?_take,if_pos (by omega),List.getElem?_drop,← List.getD_eq_getElem?_getD]
theorem part_right {L:List Tok} (hR:∀ t∈L,TokRight t) (k:Nat):∀ t∈prt L k,TokRight t:=fun t ht=>hR t (List.mem_of_mem_drop (List.mem_of_mem_take ht))
theorem part_came {w:World} {g off':Nat} {L:List Tok} (h:TCame w (some ⟨g,off',none⟩) L.length (fun j=>L.getD j (0,0,0))) {k:Nat} (hk:60 * k < L.length):TCame w (some ⟨g,off'+60 * k * 3,none⟩) (prt L k).length (fun j=>(prt L k).getD j (0,0,0)):=by
 have h1:=h.part (k:=60 * k) (m:=(prt L k).length) (by rw [part_length]; omega)
 exact h1.congr fun j hj=>(part_get hj).symm
theorem cut_cut (t:ByteArray) (a n:Nat) (h:a+n≤t.size):(t.extract a t.size).extract 0 n=t.extract a (a+n):=by
 rw[ByteArray.extract_extract]
 congr 1
 omega
theorem cut_rest (t:ByteArray) (a n:Nat) (_h:a+n≤t.size):(t.extract a t.size).extract n (t.size - a)=t.extract (a+n) t.size:=by
 rw[ByteArray.extract_extract]
 congr 1
 omega
end
section
open Go.RowKit Go.Joins TokMath SearchMath DeflMath
theorem sizeL_take {L:List Tok} {j:Nat} (h:j < L.length):sizeL (L.take (j+1))=sizeL (L.take j)+sizeT (L.getD j (0,0,0)):=by
 rw[List.take_add_one,List.getElem?_eq_getElem h,sizeL_app,List.getD_eq_getElem?_getD,List.getElem?_eq_getElem h]
 rfl
theorem sizeT_max {x y z:Int} (h:TokRight (x,y,z)):max 1 y=((sizeT (x,y,z):Nat):Int):=by
 unfold sizeT TokRight at *
 simp only [] at h ⊢
 split at h
 ·rename_i q
  rw[if_pos q,q]
  rfl
 ·rename_i q
  rw[if_neg q]
  omega
theorem sizeL_le258:∀ {L:List Tok},(∀ t∈L,TokRight t)→sizeL L≤258 * L.length
 | [],_=>Nat.le_refl _
 | t :: R,h=>by
  have h2:=sizeL_le258 fun u hu=>h u (List.mem_cons_of_mem t hu)
  have h1:sizeT t≤258:=by
   have:=h t List.mem_cons_self
   unfold TokRight at this
   unfold sizeT
   split <;> rename_i q
   ·omega
   ·rw[if_neg q] at this
    omega
  show sizeT t+sizeL R≤258 * (R.length+1)
  omega
theorem stepSize10 (x y z:Int) (w:World):
  Calls Tryz.prog 122 #[.agg #[.int .i64 x,.int .i64 y,.int .i64 z]] w fun e w'=>e=.returned (.int .i64 (max 1 y))∧Below w.heap.size w w':=by
 have hmx:(if (1:Int) < y then y else 1)=max 1 y:=by split <;> omega
 go_enter Tryz.func122,Tryz.ntmps122
 go_wp2_with fail
 go_ret
 refine⟨?_,bstart _ _⟩
 first | rfl | (rw [hmx]) | (simp only [hmx])
set_option maxHeartbeats 1600000 in
theorem madeSize_any (a:Option Addr) (c:Nat) (L:List Tok) (w:World) (hC:TCame w a L.length (fun j=>L.getD j (0,0,0))) (hn:L.length≤1048576) (hR:∀ t∈L,TokRight t):
  Calls Tryz.prog 91 #[.slice a L.length c] w fun e w'=>e=.returned (.int .i64 (sizeL L:Nat))∧Below w.heap.size w w':=by
 have HC:=hid_of hC
 have HR:=hid_of hR
 clear hC hR
 go_enter Tryz.func91,Tryz.ntmps91
 go_wp2_with fail
 go_loopg [3,8] (L.length+1) (fun gk v i w'=>∃ (j z:Nat),j≤L.length∧L.length - j≤gk∧i=.int .i64 j∧v=.int .i64 z∧z≤258 * j∧Hid (Below w.heap.size w w'∧z=sizeL (L.take j)))
 case atStart=>exact⟨0,0,Nat.zero_le _,by omega,rfl,rfl,by omega,Below.refl _ _,rfl⟩
 case round=>
  obtain⟨j,z,hj,hgk,rfl,rfl,hz1,hS⟩:=hrel
  by_cases hlt:j < L.length
  ·have dl:decide ((j:Int) < (L.length:Int))=true:=decide_eq_true (by omega)
   rcases HC.out with q | ⟨g,off,rfl,hg,hc⟩
   ·omega
   obtain⟨c0,c1,c2⟩:w.cell? ⟨g,off+j * 3,none⟩=some (.int .i64 (L.getD j (0,0,0)).1)∧w.cell? ⟨g,off+j * 3+1,none⟩=some (.int .i64 (L.getD j (0,0,0)).2.1)∧w.cell? ⟨g,off+j * 3+2,none⟩=some (.int .i64 (L.getD j (0,0,0)).2.2):=hc j hlt
   have HST:=hid_of (sizeL_take hlt)
   have HIN:Hid (L.getD j (0,0,0)∈L):=by
    rw[List.getD_eq_getElem?_getD,List.getElem?_eq_getElem hlt]
    exact List.getElem_mem hlt
   have HB8:Hid (sizeL (L.take (j+1))≤258 * (j+1)):=by
    have:=sizeL_le258 (L:=L.take (j+1)) fun t ht=>HR.out t (List.mem_of_mem_take ht)
    rw[List.length_take] at this
    exact Nat.le_trans this (Nat.mul_le_mul_left _ (Nat.min_le_left _ _))
   obtain⟨⟨x,y,q⟩,hr⟩:∃ r,r=L.getD j (0,0,0):=⟨_,rfl⟩
   rw[← hr] at c0 c1 c2 HST HIN
   have f0:wr.cell? ⟨g,off+j * 3,none⟩=some (.int .i64 x):=(hS.out.1.cell (p:=⟨g,off+j * 3,none⟩) hg).trans c0
   have f1:wr.cell? ⟨g,off+j * 3+1,none⟩=some (.int .i64 y):=(hS.out.1.cell (p:=⟨g,off+j * 3+1,none⟩) hg).trans c1
   have f2:wr.cell? ⟨g,off+j * 3+2,none⟩=some (.int .i64 q):=(hS.out.1.cell (p:=⟨g,off+j * 3+2,none⟩) hg).trans c2
   have hl2:g < wr.heap.size:=Nat.lt_of_lt_of_le hg hS.out.1.size
   have hss:=fun W=>stepSize10 x y q W
   rw[sizeT_max (HR.out _ HIN.out)] at hss
   obtain⟨k,hk⟩:∃ k,k=sizeT (x,y,q):=⟨_,rfl⟩
   rw[← hk] at hss
   have hk8:z+k≤258 * (j+1):=by
    have h1:=HST.out
    have h2:=HB8.out
    have h3:=hS.out.2
    omega
   have HK:=hid_of hk
   clear hc c0 c1 c2 hr hk
   go_wp2_with fail
   refine (hss _).mono ?_
   rintro e w2 ⟨rfl,hB2⟩
   have HB2:Hid (Below w.heap.size w w2):=bnext (bal hS.out.1 _) hB2
   have HZ:Hid (z+k=sizeL (L.take (j+1))):=by
    show z+k=_
    rw[HST.out,← HK.out,← hS.out.2]
   clear hss f0 f1 f2 hB2
   go_wp2_with fail
   go_roundg (L.length - (j+1))
   case measure=>omega
   case rel=>exact⟨j+1,z+k,by omega,Nat.le_refl _,by go_num,by go_num,hk8,HB2.out,HZ.out⟩
  ·obtain rfl:j=L.length:=by omega
   have dl:decide ((L.length:Int) < (L.length:Int))=false:=decide_eq_false (by omega)
   go_wp2_with fail
   go_ret
   refine⟨?_,hS.out.1⟩
   rw[hS.out.2,List.take_length]
   rfl
end
section
open Go.RowKit Go.Shelf
theorem calls_of_marks {P:Program} {f:FuncId} {fn:Func} {c:Code} {args:Array Value} {w:World} {R:Ending→World→Prop} (hf:P.funcs[f]?=some fn) (hb:fn.body=some c)
  (h:c.wp P (bodyPostM Fence.wide 6 P fn R) { tmps:=args ++ Array.replicate (fn.ntmps - args.size) undef,defers:=[] } w):Calls P f args w R:=
 (callsIn_wide (n:=6)).1 (callsIn_of_wp_marks hf hb trivial (wpIn_wide.2 h) rfl)
def TellsNext (gf:Nat) (lb:Array Value) (encs:Nat→Array Value) (N:Nat) (Kp:World→World→Prop) (W:World):Prop:=
 ∀ (l:Nat) (J:Nat→World→Prop) (V:World),Kp W V→(∀ k X n,J k X→J k (X.drewN n))→
  (∀ k X,k < N→J k X→YieldAt Fence.wide 4 Tryz.prog l (encs k) X fun e Y=>e=.returned (.bool true)∧J (k+1) Y∧Kp X Y)→J 0 V→
  CallsIn Fence.wide 5 Tryz.prog gf (#[.func (.yield l) #[] #[]] ++ lb) V fun e Y=>(∃ v,e=.returned v)∧J N Y
def Rec (W X:World) (r:Loop):Prop:=X.heap[W.heap.size+1]?=some (.loop r)∧X.heap[W.heap.size]?=some (.deferred (some []))
theorem Rec.kept {W X Y:World} {r:Loop} (h:Rec W X r) (hk:KeepsFrom W.heap.size X Y):Rec W Y r:=
 ⟨hk.same _ _ (Nat.le_succ _) h.1 rfl,hk.same _ _ (Nat.le_refl _) h.2 rfl⟩
theorem Rec.put {W X:World} {r:Loop} (h:Rec W X r) (r':Loop):Rec W (X.putObj (W.heap.size+1) (.loop r')) r':=
 ⟨World.putObj_heap_same (block_lt h.1),(World.putObj_heap_other (by omega)).trans h.2⟩
theorem wp_range_next {T:Array Value} {g:Operand} {ps:Array Tmp} {assign body:Code} {Q:Exit→Act→World→Prop} {W:World} {gf:Nat} {lb:Array Value} (encs:Nat→Array Value) (N:Nat) (Kp:World→World→Prop)
  (hg:({ tmps:=T,defers:=[] }:Act).eval g=.func (.func gf) #[] lb) (eg:∀ args w,(callFunc gf args).run Tryz.prog w=.ok (.enter gf args) w) (hps:∀ k,(encs k).size=ps.size) (hseq:TellsNext gf lb encs N Kp W)
  (hKt:∀ {A B C:World},Kp A B→Kp B C→Kp A C) (hKp:∀ (X:World) (i:Nat) (o:Obj),W.heap.size≤i→Kp X (X.putObj i o)) (hKa:∀ (X:World) (o:Obj),W.heap.size≤X.heap.size→Kp X (X.alloc o))
  (I:Nat→World→Prop) (hI:OwnFrom W.heap.size I) (hId:∀ k X n,I k X→I k (X.drewN n)) (h0:I 0 W) (a₁:Nat→Act)
  (hassign:∀ (l k:Nat) (X:World) (K:Act→World→Prop),K (a₁ k) X→assign.wpIn (Fence.wide.inRound l) 4 Tryz.prog (Exit.then K (fun _ _ _=>False)) { tmps:=(ps.zip (encs k)).foldl (fun t (p,v)=>t.setIfInBounds p v) T,defers:=[] } X)
  (hbody:∀ (l k:Nat) (X:World),k < N→I k X→body.wpIn (Fence.wide.inRound l) 4 Tryz.prog (fun e _ Y=>e=.normal∧KeepsFrom W.heap.size X Y∧Kp X Y∧I (k+1) Y) (a₁ k) X)
  (hdone:∀ (X:World),I N X→X.heap[W.heap.size]?=some (.deferred (some []))→Q .normal { tmps:=T,defers:=[{ target:=.collected W.heap.size,args:=#[] }] } X):
  (Code.rangeFunc g ps assign body).wp Tryz.prog Q { tmps:=T,defers:=[] } W:=by
 refine (wpIn_wide (n:=6)).1 (wpIn_rangeFunc fun fn hfn=>?_)
 obtain⟨rc,hrc⟩:∃ rc:LoopState→Loop,rc=fun st=>{ state:=st,pending:=none,fn:=fn,tmps:=T,params:=ps,assign:=assign,body:=body,defers:=W.heap.size }:=⟨_,rfl⟩
 obtain⟨V,hV⟩:∃ V,V=(W.alloc (.deferred (some []))).alloc (.loop (rc .ready)):=⟨_,rfl⟩
 have hs1:(W.alloc (.deferred (some []))).heap.size=W.heap.size+1:=by simp
 have hRec:Rec W V (rc .ready):=by
  rw[hV]
  refine⟨?_,?_⟩
  ·have:=World.alloc_heap_new (W.alloc (.deferred (some []))) (.loop (rc .ready))
   rw[hs1] at this
   exact this
  ·exact ((bstart (W.alloc (.deferred (some []))) _).block _ (by omega)).trans (World.alloc_heap_new W _)
 have hIV:I 0 V:=by
  rw[hV]
  exact hI.alloc _ (hI.alloc _ h0)
 have hKV:Kp W V:=by
  rw[hV]
  exact hKt (hKa W _ (Nat.le_refl _)) (hKa _ _ (by omega))
 refine⟨W.heap.size+1,[{ target:=.collected W.heap.size,args:=#[] }],V,{ target:=.fn (.func gf) lb,args:=#[.func (.yield (W.heap.size+1)) #[] #[]] },V,gf,#[.func (.yield (W.heap.size+1)) #[] #[]] ++ lb,V,?_,?_,?_,?_,fun _=>by omega,?_⟩
 ·rw[hV,hrc]
  exact run_enterLoop_outer _ _ _ _ _
 ·simp only [resolve,hg]
  simp[go_sem]
 ·exact fun _ _=>trivial
 ·simp[invoke,go_sem,eg]
 ·refine (hseq (W.heap.size+1) (fun k X=>I k X∧Rec W X (rc .ready)) V hKV (fun k X n h=>⟨hId k X n h.1,h.2⟩) ?_ ⟨hIV,hRec⟩).mono ?_
  ·rintro k X hk ⟨hi,hr⟩
   have hy:=run_yield (P:=Tryz.prog) (args:=encs k) hr.1 (by rw [hrc]; exact hps k)
   rw[hrc] at hy
   refine⟨fn,_,assign,body,hy,roundIn_of_wpIn hfn (hassign _ k X _ ⟨_,run_beginRound hr.1 (by rw [hrc]),?_⟩)⟩
   have hb:Rec W (X.putObj (W.heap.size+1) (.loop { rc .ready with state:=.busy })) { rc .ready with state:=.busy }:=hr.put _
   refine wpIn_mono (hbody _ k _ hk (hI.putObj _ hi (Nat.le_succ _) hr.1 rfl)) ?_
   rintro e a3 Y ⟨rfl,h1,h2,h3⟩
   have hy3:=hb.kept h1
   have he:=run_endRound (P:=Tryz.prog) none hy3.1
   refine⟨_,_,he,rfl,⟨hI.putObj _ h3 (Nat.le_succ _) hy3.1 rfl,?_⟩,hKt (hKt (hKp X _ _ (Nat.le_succ _)) h2) (hKp Y _ _ (Nat.le_succ _))⟩
   have hz:=hy3.put { rc .ready with state:=.ready,pending:=none }
   rw[hrc] at hz ⊢
   exact hz
  ·rintro e Y ⟨⟨v,rfl⟩,hi,hr⟩
   have he:=run_endLoop (P:=Tryz.prog) hr.1 (by rw [hrc]; simp)
   have hp:(rc .ready).pending=none:=by rw [hrc]
   rw[hp] at he
   exact⟨none,_,he,hdone _ (hI.putObj _ hi (Nat.le_succ _) hr.1 rfl) ((World.putObj_heap_other (by omega)).trans hr.2)⟩
end
section
open Go.RowKit Go.Shelf
attribute [local go_sem] Oper.semAt_some
def Both (a b:Nat) (W W':World):Prop:=W'.heap[a]?=W.heap[a]?∧W'.heap[b]?=W.heap[b]?
def chunkAt (g off n k:Nat):Array Value:=#[.slice (some ⟨g,off+60 * k * 3,none⟩) (min 60 (n - 60 * k)) (min 60 (n - 60 * k))]
theorem chunk_any (a:Option Addr) (len cap:Nat) (w:World):
  Calls Tryz.prog 90 #[.slice a len cap,.int .i64 60] w fun e w'=>e=.returned (.func (.func 138) #[] #[.pointer (some ⟨w.heap.size,0,none⟩),.pointer (some ⟨w.heap.size+1,0,none⟩)])∧w'=(w.alloc (.cells #[.slice a len cap] 72)).alloc (.cells #[.int .i64 60] 3):=by
 go_enter Tryz.func90,Tryz.ntmps90
 go_wp2_with fail
 go_ret
 exact⟨rfl,rfl⟩
set_option maxRecDepth 100000 in
set_option maxHeartbeats 2000000 in
theorem chunk_tells (Bs Bn g off len cap:Nat) (hlen:len≤1048576) (hcap:len≤cap) (W:World) (hBs:W.cell? ⟨Bs,0,none⟩=some (.slice (some ⟨g,off,none⟩) len cap)) (hBn:W.cell? ⟨Bn,0,none⟩=some (.int .i64 60)):
  TellsNext 138 #[.pointer (some ⟨Bs,0,none⟩),.pointer (some ⟨Bn,0,none⟩)] (chunkAt g off len) ((len+59) / 60) (Both Bs Bn) W:=by
 intro l J V hWV hJd hY h0
 have HY:=hid_of hY
 have HJD:=hid_of hJd
 have HWV:=hid_of hWV
 clear hY hJd hWV
 refine callsIn_of_wp Tryz.func138 rfl trivial ?_ rfl
 simp only [Tryz.ntmps138,List.size_toArray,List.length_cons,List.length_nil,Nat.reduceAdd,Nat.reduceSub,Array.replicate_succ,Array.replicate_zero,List.push_toArray,List.append_toArray,List.nil_append,List.cons_append]
 gi_wp2
 gi_loopw [4] (fun i wr=>∃ k:Nat,k≤(len+59) / 60∧i=.int .i64 ((60 * k:Nat):Int)∧Hid (J k wr∧Both Bs Bn W wr))
  (fun i _=>(len+60 - intOf i).toNat)
 case atStart=>exact⟨0,Nat.zero_le _,rfl,h0,HWV.out⟩
 case round=>
  obtain⟨k,hk,rfl,hS⟩:=hrel
  have c1:wr.cell? ⟨Bs,0,none⟩=some (.slice (some ⟨g,off,none⟩) len cap):=(heap_cell hS.out.2.1 0).trans hBs
  have c2:wr.cell? ⟨Bn,0,none⟩=some (.int .i64 60):=(heap_cell hS.out.2.2 0).trans hBn
  by_cases hlt:60 * k < len
  ·have d1:decide (((60 * k:Nat):Int) < (len:Int))=true:=decide_eq_true (by omega)
   have h1:(0:Int)≤((60 * k:Nat):Int):=by omega
   have h2:((60 * k:Nat):Int)≤(len:Int):=by omega
   have h3:((60 * k:Nat):Int)≤(cap:Int):=by omega
   by_cases hfew:len - 60 * k < 60
   ·have q1:((len - 60 * k:Nat):Int) < 60:=by omega
    have q2:decide (((len - 60 * k:Nat):Int) < 60)=true:=decide_eq_true q1
    gi_wp2
    gi_region
    all_goals
     obtain⟨fn,tmps,assign,body,hy,hR⟩:=HY.out k wr.drew (by omega) (HJD.out k wr 1 hS.out.1)
     rw[show chunkAt g off len k=#[.slice (some ⟨g,off+60 * k * 3,none⟩) (len - 60 * k) (len - 60 * k)] from by
      unfold chunkAt
      rw[show min 60 (len - 60 * k)=len - 60 * k by omega]] at hy
     gi_wp2
     refine hR.mono ?_
     rintro e W3 ⟨rfl,hJ3,hk3⟩
     have c4:W3.cell? ⟨Bn,0,none⟩=some (.int .i64 60):=(heap_cell hk3.2 0).trans c2
     have H3:Hid (J (k+1) W3∧Both Bs Bn W W3):=⟨hJ3,hk3.1.trans hS.out.2.1,hk3.2.trans hS.out.2.2⟩
     clear hJ3 hk3
     gi_wp2
     go_roundw
     case rel=>exact⟨k+1,by omega,by go_num,H3⟩
     case measure=>simp [intOf]; omega
   ·have q1:¬ ((len - 60 * k:Nat):Int) < 60:=by omega
    have q2:decide (((len - 60 * k:Nat):Int) < 60)=false:=decide_eq_false q1
    gi_wp2
    gi_region
    all_goals
     obtain⟨fn,tmps,assign,body,hy,hR⟩:=HY.out k wr.drew (by omega) (HJD.out k wr 1 hS.out.1)
     rw[show chunkAt g off len k=#[.slice (some ⟨g,off+60 * k * 3,none⟩) 60 60] from by
      unfold chunkAt
      rw[show min 60 (len - 60 * k)=60 by omega]] at hy
     gi_wp2
     refine hR.mono ?_
     rintro e W3 ⟨rfl,hJ3,hk3⟩
     have c4:W3.cell? ⟨Bn,0,none⟩=some (.int .i64 60):=(heap_cell hk3.2 0).trans c2
     have H3:Hid (J (k+1) W3∧Both Bs Bn W W3):=⟨hJ3,hk3.1.trans hS.out.2.1,hk3.2.trans hS.out.2.2⟩
     clear hJ3 hk3
     gi_wp2
     go_roundw
     case rel=>exact⟨k+1,by omega,by go_num,H3⟩
     case measure=>simp [intOf]; omega
  ·have d1:decide (((60 * k:Nat):Int) < (len:Int))=false:=decide_eq_false (by omega)
   gi_wp2
   go_end0
   have hkk:k=(len+59) / 60:=by omega
   exact⟨⟨_,rfl⟩,hkk ▸ hS.out.1⟩
where
 heap_cell {W W':World} {g:Nat} (h:W'.heap[g]?=W.heap[g]?) (j:Nat):W'.cell? ⟨g,j,none⟩=W.cell? ⟨g,j,none⟩:=by
  unfold World.cell?
  rw[h]
end
end Go.Proofs.YtklpiihnbokkkaaGreatDoor
