/-
  Texts of the proof, put together.
-/
import Derived.Test.YtklpiihnbokkkaaGreatDoorFk40
namespace Go.Proofs.YtklpiihnbokkkaaGreatDoor
section
open Go.RowKit Go.Joins Go.Sort RunsMath CodeMath
def TelW (w0 w:World) (v:Value) (O:List (Int×Int)):Prop:=w.heap[w0.heap.size]?=some (.cells #[v] 161 (0,0))∧w.ownsRow (w0.heap.size+1) 165 2 v O.length (dcells O)∧Below w0.heap.size w0 w
theorem TelW.called {w0 w w':World} {v:Value} {O:List (Int×Int)} (h:TelW w0 w v O) (hb:Below w.heap.size w w'):TelW w0 w' v O:=by
 refine⟨(hb.block _ (block_lt h.1)).trans h.1,?_,h.2.2.trans (hb.mono h.2.2.size)⟩
 refine⟨h.2.1.1,?_⟩
 rcases h.2.1.2 with h | ⟨g,cap,cur,rfl,h1,h2,h3⟩
 ·exact .inl h
 ·exact .inr ⟨g,cap,cur,rfl,h1,(hb.block g (block_lt h2)).trans h2,h3⟩
theorem own_set {w:World} {S g:Nat} {v:Value} {O:List (Int×Int)} (h:w.ownsRow S 165 2 v O.length (dcells O)) (hg:g < S) (i:Nat) (u:Value):(w.setCell ⟨g,i,none⟩ u).ownsRow S 165 2 v O.length (dcells O):=by
 refine⟨h.1,?_⟩
 rcases h.2 with h | ⟨g',cap,cur,rfl,h1,h2,h3⟩
 ·exact .inl h
 ·exact .inr ⟨g',cap,cur,rfl,h1,(Below.heap_setCell _ _ _ _ (by show g'≠g; omega)).trans h2,h3⟩
def CloPost (w0 w:World) (v:Value) (O:List (Int×Int)) (e:Ending) (w':World):Prop:=e=.returned (.bool true)∧(∃ v',TelW w0 w' v' O)∧w.heap.size≤w'.heap.size∧∀ g,g < w.heap.size→g≠w0.heap.size→v.ownBlock≠some g→w'.heap[g]?=w.heap[g]?
set_option maxHeartbeats 800000 in
theorem clo_any (w0 w:World) (v:Value) (O:List (Int×Int)) (s x:Int) (h:TelW w0 w v O) (hO:O.length≤1000):
  Calls Tryz.prog 200 #[.agg #[.int .i64 s,.int .i64 x],.pointer (some ⟨w0.heap.size,0,none⟩)] w (CloPost w0 w v (O ++ [(s,x)])):=by
 have c0:w.cell? ⟨w0.heap.size,0,none⟩=some v:=cell_of_block h.1 0
 have hlt:=block_lt h.1
 have HO:=hid_of h.2.1
 have HB:=hid_of h.1
 have HW:=hid_of h.2.2
 have HL:=hid_of hO
 clear h hO
 go_enter Tryz.func200,Tryz.ntmps200
 go_wp2_with (at_builtin; refine runs_append (S:=w0.heap.size+1) (xs:=O) (ys:=[(s,x)]) rfl _ _ rfl rfl (World.ownsRow.alloc (World.ownsRow.alloc HO.out _) _) (some ⟨w.heap.size+1,0,none⟩) 1 1 rfl rfl ?c1 (fun h=>by cases h) (by have:=HL.out; simp only [List.length_cons,List.length_nil]; omega) (by simp; omega) ?_)
 case c1=>
  intro ad e
  cases e
  have hs:(w.alloc (.cells #[.int .i64 s,.int .i64 x] 165)).heap.size=w.heap.size+1:=by simp
  rw[← hs]
  exact World.news_of_block (cs:=#[.int .i64 s,.int .i64 x]) (t:=165) (fr:=(0,0)) (heap_alloc_new _ _)
 intro v' w5 y1 y2
 obtain⟨a5,n5,c5,rfl⟩:∃ a5 n5 c5,v'=.slice a5 n5 c5:=by
  obtain⟨a5,c5,h5,_⟩:=dsl_of_own (L:=O ++ [(s,x)]) y1 (by simp)
  exact⟨a5,_,c5,h5⟩
 have hb2:Below w.heap.size w ((w.alloc (.cells #[.int .i64 s,.int .i64 x] 165)).alloc (.cells #[.int .i64 s,.int .i64 x] 165)):=bal (bstart _ _) _
 have hs2:=hb2.size
 have hne:∀ g,v.ownBlock=some g→w0.heap.size+1≤g:=fun g hg=>(HO.out.lt g hg).1
 have hB5:w5.heap[w0.heap.size]?=some (.cells #[v] 161 (0,0)):=(y2.block _ (by omega) (fun e=>by have:=hne _ e.symm; omega)).trans ((hb2.block _ hlt).trans HB.out)
 have b0:w5.cell? ⟨w0.heap.size,0,none⟩=some v:=cell_of_block hB5 0
 have bf:=unfrozen_of_block hB5 (i:=0)
 have HK:Hid (CloPost w0 w v (O ++ [(s,x)]) (.returned (.bool true)) (w5.setCell ⟨w0.heap.size,0,none⟩ (.slice a5 n5 c5))):=by
  have hsz:=y2.size
  refine⟨rfl,⟨.slice a5 n5 c5,?_,?_,?_⟩,?_,?_⟩
  ·have:=block_setCell (i:=0) hB5 (.slice a5 n5 c5)
   simpa using this
  ·have hl:(O ++ [(s,x)]).length=O.length+1:=by simp
   have:=own_set (O:=O ++ [(s,x)]) (g:=w0.heap.size) (by rw [hl]; exact y1) (by omega) 0 (.slice a5 n5 c5)
   exact this
  ·have h1:Below w0.heap.size w0 w5:=by
    have h2:=HW.out.trans (hb2.mono HW.out.size)
    exact h2.grown y2 (by have:=HW.out.size; omega) (fun q hq=>by have:=hne q hq; omega)
   exact Below.setCell (p:=⟨w0.heap.size,0,none⟩) h1 (Nat.le_refl _) _
  ·simp; omega
  ·intro g hg hg0 hgv
   rw[Below.heap_setCell _ _ _ _ (by show g≠w0.heap.size; exact hg0)]
   exact (y2.block g (by omega) (fun e=>hgv e.symm)).trans (hb2.block g hg)
 clear y1 y2 hne hB5 hb2
 go_wp2_with fail
 go_ret
 exact HK.out
theorem pow_le7 {m:Nat} (h:m≤7):(2:Int) ^ m≤128:=by
 obtain h | h | h | h | h | h | h | h:m=0∨m=1∨m=2∨m=3∨m=4∨m=5∨m=6∨m=7:=by omega
 all_goals (subst h; decide +kernel)
theorem times_runAt {f:Nat→Int} {n i:Nat} (hf:Fine f n) (hi:i < n):timesOf (runAt f n i).1.1 (runAt f n i).1.2=((runAt f n i).2:Int):=by
 have h3:=hf i hi
 unfold runAt timesOf
 split
 ·show (if (18:Int)=16 then _ else if (18:Int)=17 then _ else if (18:Int)=18 then 11+((zerosAt f n i:Int) - 11) else 1)=(zerosAt f n i:Int)
  rw[if_neg (by omega),if_neg (by omega),if_pos rfl]
  omega
 ·split
  ·show (if (17:Int)=16 then _ else if (17:Int)=17 then 3+((zerosAt f n i:Int) - 3) else _)=(zerosAt f n i:Int)
   rw[if_neg (by omega),if_pos rfl]
   omega
  ·split
   ·show (if (16:Int)=16 then 3+((sameAt f n i:Int) - 3) else _)=(sameAt f n i:Int)
    rw[if_pos rfl]
    omega
   ·show (if f i=16 then _ else if f i=17 then _ else if f i=18 then _ else (1:Int))=1
    rw[if_neg (by omega),if_neg (by omega),if_neg (by omega)]
def TelSt5 (w0 w:World) (f:Nat→Int) (n i:Nat) (O:List (Int×Int)):Prop:=(∃ v,TelW w0 w v O)∧O ++ rest f n i=rest f n 0∧O.length≤i
theorem tel_next {w0 w w':World} {f:Nat→Int} {n i:Nat} {O:List (Int×Int)} {s x:Int} {k:Nat} (h:TelSt5 w0 w f n i O) (hi:i < n) (hr:runAt f n i=((s,x),k)) (hw:∃ v,TelW w0 w' v (O ++ [(s,x)])):TelSt5 w0 w' f n (i+k) (O ++ [(s,x)]):=by
 obtain⟨_,h3,h4⟩:=h
 refine⟨hw,?_,?_⟩
 ·rw[rest_more hi,hr] at h3
  rw[← h3]
  simp
 ·have:=runAt_pos f n i
  rw[hr] at this
  rw[List.length_append,List.length_singleton]
  have:1≤k:=this
  omega
set_option maxHeartbeats 1600000 in
theorem tell_any (a:Option Addr) (n cap:Nat) (f:Nat→Int) (w0 w:World) (hC:Came w0 a n f) (hn:n≤320) (hf:Fine f n) (hT:∃ v,TelW w0 w v []):
  Calls Tryz.prog 199 #[.slice a n cap,.func (.func 200) #[] #[.pointer (some ⟨w0.heap.size,0,none⟩)]] w fun e w'=>e=.returned (.tuple #[])∧∃ v,TelW w0 w' v (rest f n 0):=by
 have HC:=hid_of hC
 have HF:=hid_of hf
 have H0:Hid (TelSt5 w0 w f n 0 []):=⟨hT,rfl,Nat.le_refl _⟩
 clear hC hf hT
 go_enter Tryz.func199,Tryz.ntmps199
 go_wp2_with fail
 go_loopg [4] (n+1) (fun gk z w'=>∃ (i:Nat) (O:List (Int×Int)),i≤n∧z=.int .i64 i∧n - i≤gk∧Hid (TelSt5 w0 w' f n i O))
 case atStart=>exact⟨0,[],Nat.zero_le _,rfl,by omega,H0⟩
 case round=>
  clear H0
  obtain⟨i,O,hi,rfl,hk,hS⟩:=hrel
  by_cases hlt:i < n
  ·obtain⟨v,hv⟩:=hS.out.1
   have hat:=at_any a n cap f i wr (HC.out.called hv.2.2) (by omega) hlt
   have hfi:=runAt_fine HF.out hlt
   have htm:=times_runAt HF.out hlt
   have hin:=runAt_in (f:=f) hlt
   have hpw:=pow_bits (runAt f n i).1.1
   unfold AtPost at hat
   obtain⟨⟨⟨s,x⟩,k⟩,hr⟩:∃ r,r=runAt f n i:=⟨_,rfl⟩
   rw[← hr] at hat hfi htm hin hpw
   have HR:=hid_of hr.symm
   have hx0:0≤x:=hfi.1
   have hx1:x≤1000:=by
    have h2:x < 2 ^ bitsOf s:=hfi.2
    have h3:bitsOf s≤7:=hpw
    have h4:=pow_le7 h3
    omega
   have hin':i+k≤n:=hin
   have htm':timesOf s x=(k:Int):=htm
   have HV:=hid_of hv
   have hO:=hS.out.2.2
   clear hr hfi htm hin hpw hv
   go_wp2_with fail
   refine hat.mono ?_
   rintro e w1 ⟨rfl,hB1⟩
   clear hat
   have HV1:=hid_of (HV.out.called hB1)
   clear hB1
   go_wp2_with fail
   have hb2:=bstart w1 (.cells #[.int .i64 s,.int .i64 x] 165)
   have hq1:∀ g,v.ownBlock=some g→g < w1.heap.size:=fun g hg=>(HV1.out.2.1.lt g hg).2
   have hsz:w0.heap.size < w1.heap.size:=block_lt HV1.out.1
   refine (clo_any w0 _ v O s x (HV1.out.called hb2) (by omega)).mono ?_
   rintro e w3 ⟨rfl,hv3,hs3,hk3⟩
   have hr3:w3.heap[w1.heap.size]?=some (.cells #[.int .i64 s,.int .i64 x] 165 (0,0)):=(hk3 _ (by simp) (by omega) (fun e=>by have:=hq1 _ e; omega)).trans (heap_alloc_new w1 _)
   have c0:=cell_of_block hr3 0
   have c1:=cell_of_block hr3 1
   have HV3:=hid_of hv3
   clear hv3 hs3 hk3 hr3 hb2 hq1
   have htm3:=times_any s x w3 hx0 hx1
   rw[htm'] at htm3
   go_wp2_with fail
   refine htm3.mono ?_
   rintro e w4 ⟨rfl,rfl⟩
   clear htm3
   have HN:Hid (TelSt5 w0 (w3.alloc (.cells #[.int .i64 s,.int .i64 x] 165)) f n (i+k) (O ++ [(s,x)])):=by
    obtain⟨v3,hv3⟩:=HV3.out
    exact tel_next hS.out hlt HR.out ⟨v3,hv3.called (bstart _ _)⟩
   go_wp2_with fail
   go_roundg (n - (i+k))
   case measure=>
    have hp:=runAt_pos f n i
    rw[HR.out] at hp
    have hp':1≤k:=hp
    omega
   case rel=>exact⟨i+k,_,hin',by first | rfl | go_num | (congr 1; omega),Nat.le_refl _,HN⟩
  ·obtain rfl:i=n:=by omega
   have HZ:Hid (∃ v,TelW w0 wr v (rest f i 0)):=by
    obtain⟨⟨v,hv⟩,h3,_⟩:=hS.out
    rw[rest_none hlt,List.append_nil] at h3
    rw[← h3]
    exact⟨v,hv⟩
   go_wp2_with fail
   go_end0
   exact⟨rfl,HZ.out⟩
theorem fine_of_ok {f:Nat→Int} {n:Nat} (h:OkLens f n):Fine f n:=h
set_option maxHeartbeats 800000 in
theorem runsOf_good (a:Option Addr) (n cap:Nat) (f:Nat→Int) (w:World) (hC:Came w a n f) (hR:RunsRight f n):
  Calls Tryz.prog 174 #[.slice a n cap] w fun e w'=>∃ v,e=.returned (.tuple #[v,.bool true])∧TelW w w' v (rest f n 0):=by
 have hn:n≤320:=hR.1
 have hok:=hR.2
 have hare:=are_any a n cap f w hC (by omega)
 have d1:decide ((320:Int) < (n:Int))=false:=decide_eq_false (by omega)
 have d2:decide (320 < n)=false:=decide_eq_false (by omega)
 have H0:Hid (∃ v,TelW w (w.alloc (.cells #[.slice none 0 0] 161)) v []):=⟨.slice none 0 0,heap_alloc_new w _,World.ownsRow_nil _ _ _ _,bstart _ _⟩
 have htl:=tell_any a n cap f w (w.alloc (.cells #[.slice none 0 0] 161)) hC hn (fine_of_ok hok) H0.out
 have HO:=hid_of hok
 clear hC hR hok H0
 go_enter Tryz.func174,Tryz.ntmps174
 go_wp2_with fail
 refine hare.mono ?_
 rintro e w1 ⟨b,rfl,hb,rfl⟩
 obtain rfl:b=true:=hb.mpr HO.out
 clear hare hb
 go_wp2_with fail
 refine htl.mono ?_
 rintro e w2 ⟨rfl,v,hv⟩
 have c0:w2.cell? ⟨w1.heap.size,0,none⟩=some v:=cell_of_block hv.1 0
 have HV:=hid_of hv
 clear htl hv
 go_wp2_with fail
 go_ret2
 exact⟨v,rfl,HV.out⟩
set_option maxHeartbeats 800000 in
theorem runsOf_bad (a:Option Addr) (n cap:Nat) (f:Nat→Int) (w:World) (hC:Came w a n f) (hn:n≤1048576) (hR:¬ RunsRight f n):
  Calls Tryz.prog 174 #[.slice a n cap] w fun e w'=>e=.returned (.tuple #[.slice none 0 0,.bool false])∧w'=w:=by
 by_cases h:n≤320
 ·have hare:=are_any a n cap f w hC (by omega)
  have d1:decide ((320:Int) < (n:Int))=false:=decide_eq_false (by omega)
  have d2:decide (320 < n)=false:=decide_eq_false (by omega)
  have HN:Hid (¬ OkLens f n):=fun k=>hR ⟨h,k⟩
  clear hC hR
  go_enter Tryz.func174,Tryz.ntmps174
  go_wp2_with fail
  refine hare.mono ?_
  rintro e w1 ⟨b,rfl,hb,rfl⟩
  obtain rfl:b=false:=by
   cases b with
   | false=>rfl
   | true=>exact absurd (hb.mp rfl) HN.out
  clear hare hb
  go_wp2_with fail
  go_ret2
  exact⟨rfl,rfl⟩
 ·have d1:decide ((320:Int) < (n:Int))=true:=decide_eq_true (by omega)
  have d2:decide (320 < n)=true:=decide_eq_true (by omega)
  clear hC hR
  go_enter Tryz.func174,Tryz.ntmps174
  go_wp2_with fail
  go_ret2
  exact⟨rfl,rfl⟩
theorem runs_answer:RunsAnswer:=by
 intro a n cap f w hC hn hwf
 refine⟨fun hR=>(runsOf_good a n cap f w hC hR).mono ?_,fun hR=>(runsOf_bad a n cap f w hC hn hR).mono ?_⟩
 ·rintro e w' ⟨v,rfl,hv⟩
  obtain⟨a',c',rfl,hd,_⟩:=dst_of_own hv.2.1 rfl
  obtain⟨a2,c2,he,hs⟩:=dsl_of_own hv.2.1 rfl
  cases he
  refine⟨a',c',rfl,?_,hd.1,hv.2.2⟩
  rcases hs with h | ⟨g,rfl,h⟩
  ·exact .inl h
  ·exact .inr ⟨g,rfl,by have:=h.1; omega,h.2⟩
 ·rintro e w' ⟨rfl,rfl⟩
  exact⟨none,0,rfl,Below.refl _ _⟩
theorem bits_answer:BitsAnswer:=by
 intro x w _
 refine (extraBits_any x w).mono ?_
 rintro e w' ⟨rfl,rfl⟩
 exact⟨rfl,0,#[],(grow_empty _).symm⟩
end
section
open Go.RowKit Go.Joins CodeMath PackageMath RunsMath InfMath TrimMath WovenMath
def ThCnt (w w':World) (g:Nat) (R:List (Int×Int)) (j:Nat):Prop:=IOwn w' w.heap.size g 19 19 (cntR (R.take j))∧Below w.heap.size w w'
theorem take_run {R:List (Int×Int)} {j:Nat} (h:j < R.length):R.take (j+1)=R.take j ++ [R.getD j (0,0)]:=by
 rw[List.take_add_one,List.getElem?_eq_getElem h,List.getD_eq_getElem?_getD,List.getElem?_eq_getElem h]
 rfl
set_option maxRecDepth 100000 in
set_option maxHeartbeats 3200000 in
theorem thirdLengths_any (a:Option Addr) (c:Nat) (R:List (Int×Int)) (w:World) (hC:DCame w a R.length (fun j=>R.getD j (0,0))) (hl:R.length≤316) (hs:∀ r∈R,0≤r.1∧r.1≤18):
  Calls Tryz.prog 175 #[.slice a R.length c] w fun e w'=>∃ g cap,e=.returned (.slice (some ⟨g,0,none⟩) 19 cap)∧IOwn w' w.heap.size g 19 cap (third R)∧Below w.heap.size w w':=by
 have hm:(Instr.makeSlice 25 (.int .i64 19) (.int .i64 19)).run Tryz.prog w=_:=make_ints w 19 (by omega)
 have H0:Hid (ThCnt w (w.alloc (.cells (madeCells #[Value.int .i64 0] 19) 3)) w.heap.size R 0):=⟨(IOwn.made w 19 (by unfold maxLen; omega) (Nat.le_refl _)).congr fun i _=>rfl,bstart _ _⟩
 have HC:=hid_of hC
 have HS:=hid_of hs
 clear hC hs
 go_enter Tryz.func175,Tryz.ntmps175
 go_wp2_with fail
 clear hm
 generalize w.alloc _=X0 at H0 ⊢
 go_loopg [12] (R.length+1) (fun gk i w'=>∃ (j:Nat),j≤R.length∧R.length - j≤gk∧i=.int .i64 j∧Hid (ThCnt w w' w.heap.size R j))
 case atStart=>exact⟨0,Nat.zero_le _,by omega,rfl,H0⟩
 case round=>
  clear H0
  obtain⟨j,hj,hgk,rfl,hS⟩:=hrel
  by_cases hlt:j < R.length
  ·have dl:decide ((j:Int) < (R.length:Int))=true:=decide_eq_true (by omega)
   rcases HC.out.called hS.out.2 with q | ⟨rg,off,rfl,hrg,hc⟩
   ·omega
   obtain⟨f0,f1⟩:=hc j hlt
   simp only [] at f0 f1
   have hb:=HS.out (R.getD j (0,0)) (by rw [List.getD_eq_getElem?_getD,List.getElem?_eq_getElem hlt]; exact List.getElem_mem hlt)
   have htk:=take_run hlt
   have hle:=cntR_bd (R.take j)
   obtain⟨⟨s,x⟩,hr⟩:∃ r,r=R.getD j (0,0):=⟨_,rfl⟩
   rw[← hr] at f0 f1 hb htk
   simp only [] at f0 f1 hb
   obtain⟨sn,rfl⟩:=Int.eq_ofNat_of_zero_le hb.1
   have hsn:sn < 19:=by omega
   have c1:=hS.out.1.cell sn hsn
   have k1:=hS.out.1.free sn hsn
   have l1:=hS.out.1.lt
   have b1:=hle sn
   rw[List.length_take] at b1
   have HN:Hid (∀ o:Obj,ThCnt w ((wr.setCell ⟨w.heap.size,sn,none⟩ (.int .i64 (cntR (R.take j) sn+1))).alloc o) w.heap.size R (j+1)):=by
    intro o
    refine⟨((hS.out.1.set sn hsn _).congr fun i _=>?_).alloc o,bal (Below.setCell (p:=⟨w.heap.size,sn,none⟩) hS.out.2 (Nat.le_refl _) _) o⟩
    rw[htk]
    exact cntR_snoc (R.take j) ((sn:Int),x) i
   obtain⟨V,hV⟩:∃ V,V=cntR (R.take j) sn:=⟨_,rfl⟩
   rw[← hV] at c1 b1 HN
   clear hV hc hr htk hle hS
   go_wp2_with fail
   go_roundg (R.length - (j+1))
   case measure=>omega
   case rel=>exact⟨j+1,by omega,Nat.le_refl _,by go_num,HN.out _⟩
  ·obtain rfl:R.length=j:=by omega
   have dl:decide ((R.length:Int) < (R.length:Int))=false:=decide_eq_false (by omega)
   unfold ThCnt at hS
   rw[List.take_length] at hS
   have hA:=(limit_answer (some ⟨w.heap.size,0,none⟩) 19 19 (cntR R) 7 wr hS.out.1.sl.came (by omega) (fun i _=>by have:=cntR_bd R i; exact wf_small _ (by omega) (by omega)) (wf_small _ (by omega) (by omega))).1 (limR hl)
   have HB:=hid_of hS.out.2
   clear hS
   go_wp2_with fail
   refine hA.mono ?_
   rintro e w1 ⟨a1,cap1,rfl,hs1,hB1⟩
   clear hA
   obtain⟨g1,rfl,o1⟩:=sl_own hs1 (by omega)
   have hK:=kind_answer (some ⟨g1,0,none⟩) 19 cap1 (th0 R) w1 o1.sl.came (by omega) (fun i hi=>by have:=th0_ok hl i hi; exact wf_small _ (by omega) (by omega))
   have HO1:Hid (IOwn w1 w.heap.size g1 19 cap1 (th0 R)∧Below w.heap.size w w1):=⟨o1.mono HB.out.size,bnext HB.out hB1⟩
   clear hs1 hB1 o1 HB
   go_wp2_with fail
   refine hK.mono ?_
   rintro e w2 ⟨k,rfl,hk,hB2⟩
   clear hK
   have hkk:k=kindOf (th0 R) 19:=by
    rcases hk with ⟨_,h⟩ | ⟨_,_,h⟩
    ·exact absurd ⟨by omega,fun i hi=>by have:=th0_ok hl i hi; omega⟩ h
    ·exact h
   have HO2:Hid (IOwn w2 w.heap.size g1 19 cap1 (th0 R)∧Below w.heap.size w w2):=⟨HO1.out.1.called hB2,bnext HO1.out.2 hB2⟩
   clear hk hB2 HO1
   have c0:=HO2.out.1.cell 0 (by omega)
   have c1:=HO2.out.1.cell 1 (by omega)
   have k0:=HO2.out.1.free 0 (by omega)
   have k1:=HO2.out.1.free 1 (by omega)
   have l2:=HO2.out.1.lt
   have t0:=th0_ok hl 0 (by omega)
   by_cases h3:kindOf (th0 R) 19=3
   ·obtain rfl:k=3:=by omega
    by_cases h0:th0 R 0=0
    ·have HE:Hid (third R=upd (th0 R) 0 1):=by
      show third R=_
      unfold third
      rw[if_pos h3,if_pos h0]
     rw[h0] at c0
     clear hkk h3 h0 t0
     go_wp2_with fail
     go_ret
     exact⟨g1,cap1,rfl,by rw [HE.out]; exact HO2.out.1.set 0 (by omega) 1,Below.setCell (p:=⟨g1,0,none⟩) HO2.out.2 HO2.out.1.base_le _⟩
    ·have HE:Hid (third R=upd (th0 R) 1 1):=by
      show third R=_
      unfold third
      rw[if_pos h3,if_neg h0]
     have dp:decide ((0:Int) < th0 R 0)=true:=decide_eq_true (by omega)
     generalize th0 R 0=V0 at c0 dp h0 t0
     clear hkk h3
     go_wp2_with fail
     go_ret
     exact⟨g1,cap1,rfl,by rw [HE.out]; exact HO2.out.1.set 1 (by omega) 1,Below.setCell (p:=⟨g1,1,none⟩) HO2.out.2 HO2.out.1.base_le _⟩
   ·have HE:Hid (third R=th0 R):=by
     show third R=_
     unfold third
     rw[if_neg h3]
    have dk:(k == 3)=false:=by simp; omega
    clear hkk h3 t0
    go_wp2_with fail
    go_ret
    exact⟨g1,cap1,rfl,by rw [HE.out]; exact HO2.out.1,HO2.out.2⟩
end
section
open Go.RowKit Go.Joins InfMath TrimMath WovenMath
def orderVs:List Value:=orderL.map fun (n:Nat)=>Value.int .i64 (n:Int)
theorem order_index (j:Nat) (hj:j < 19) (w:World):(Instr.index 259 (.agg orderVs.toArray) (.int .i64 (j:Int))).run Tryz.prog w=.ok (.int .i64 ((orderL.getD j 0:Nat):Int)) w:=by
 obtain rfl | rfl | rfl | rfl | rfl | rfl | rfl | rfl | rfl | rfl | rfl | rfl | rfl | rfl | rfl | rfl | rfl | rfl | rfl:j=0∨j=1∨j=2∨j=3∨j=4∨j=5∨j=6∨j=7∨j=8∨j=9∨j=10∨j=11∨j=12∨j=13∨j=14∨j=15∨j=16∨j=17∨j=18:=by omega
 all_goals simp [Instr.index,run_underlying Tryz.underlying259,asIntOf,go_sem,orderL,orderVs]
theorem order_range (w:World) (hG:OrderG w):w.rangeAt 1 0 orderVs:=by
 intro j v hv
 have hj:j < 19:=by
  rcases Nat.lt_or_ge j 19 with q | q
  ·exact q
  ·rw[List.getElem?_eq_none (by simpa [orderVs,orderL] using q)] at hv
   cases hv
 have h:=hG.2 j hj
 unfold orderVs at hv
 rw[List.getElem?_map,List.getElem?_eq_getElem (show j < orderL.length by simpa [orderL] using hj)] at hv
 rw[List.getD_eq_getElem?_getD,List.getElem?_eq_getElem (show j < orderL.length by simpa [orderL] using hj)] at h
 rw[Nat.zero_add,h]
 exact hv
def TdSt (w w':World) (g:Nat) (R:List (Int×Int)) (j:Nat):Prop:=IOwn w' w.heap.size g 19 19 (fun i=>if i < j then toldF R i else 0)∧Below w.heap.size w w'
set_option maxRecDepth 100000 in
set_option maxHeartbeats 3200000 in
theorem toldLengths_any (a:Option Addr) (c:Nat) (R:List (Int×Int)) (w:World) (hC:Came w a 19 (third R)) (hG:OrderG w):
  Calls Tryz.prog 176 #[.slice a 19 c] w fun e w'=>∃ g,e=.returned (.slice (some ⟨g,0,none⟩) (toldN R) 19)∧IOwn w' w.heap.size g (toldN R) 19 (toldF R)∧Below w.heap.size w w':=by
 have hm:(Instr.makeSlice 25 (.int .i64 19) (.int .i64 19)).run Tryz.prog w=_:=make_ints w 19 (by omega)
 have H0:Hid (TdSt w (w.alloc (.cells (madeCells #[Value.int .i64 0] 19) 3)) w.heap.size R 0):=⟨(IOwn.made w 19 (by unfold maxLen; omega) (Nat.le_refl _)).congr fun i _=>(if_neg (by omega)).symm,bstart _ _⟩
 have HC:=hid_of hC
 have HIX:=hid_of order_index
 have HRG:=hid_of (order_range (w.alloc (.cells (madeCells #[Value.int .i64 0] 19) 3)) (hG.below (bstart w _) hG.1))
 clear hC hG
 generalize w.alloc (.cells (madeCells #[Value.int .i64 0] 19) 3)=X0 at hm HRG H0
 go_enter Tryz.func176,Tryz.ntmps176
 go_wp2_with (refine wpList_load_mid rfl 259 (Operand.global 1) rfl 1 0 rfl orderVs _ HRG.out Tryz.underlying259 rfl (by kernel_rfl) ?_)
 go_wp2_with fail
 clear hm HRG
 generalize Value.agg orderVs.toArray=A at HIX ⊢
 go_loopg [8] 20 (fun gk i w'=>∃ (j:Nat),j≤19∧19 - j≤gk∧i=.int .i64 j∧Hid (TdSt w w' w.heap.size R j))
 case atStart=>exact⟨0,Nat.zero_le _,by omega,rfl,H0⟩
 case round=>
  clear H0
  obtain⟨j,hj,hgk,rfl,hS⟩:=hrel
  by_cases hlt:j < 19
  ·have dl:decide ((j:Int) < 19)=true:=decide_eq_true (by omega)
   have hix:=HIX.out j hlt
   have ho:=order_lt j
   have c1:=hS.out.1.cell j hlt
   have k1:=hS.out.1.free j hlt
   have l1:=hS.out.1.lt
   rw[if_neg (by omega)] at c1
   obtain⟨g2,off2,ha2,hg2,c2⟩:∃ g off,a=some ⟨g,off,none⟩∧g < wr.heap.size∧wr.cell? ⟨g,off+orderL.getD j 0,none⟩=some (.int .i64 (toldF R j)):=by
    rcases HC.out.called hS.out.2 with q | ⟨g,off,ha,hg,hc⟩
    ·omega
    ·exact⟨g,off,ha,hg,hc _ ho⟩
   subst ha2
   have HN:Hid (TdSt w (wr.setCell ⟨w.heap.size,j,none⟩ (.int .i64 (toldF R j))) w.heap.size R (j+1)):=by
    refine⟨(hS.out.1.set j hlt _).congr fun i _=>?_,Below.setCell (p:=⟨w.heap.size,j,none⟩) hS.out.2 (Nat.le_refl _) _⟩
    unfold upd
    by_cases e:i=j
    ·rw[if_pos e,if_pos (by omega),e]
    ·rw[if_neg e]
     by_cases q:i < j
     ·show (if i < j then toldF R i else 0)=_
      rw[if_pos q,if_pos (by omega)]
     ·show (if i < j then toldF R i else 0)=_
      rw[if_neg q,if_neg (by omega)]
   generalize toldF R j=V at c2 HN
   generalize orderL.getD j 0=od at hix ho c2
   clear hS
   go_wp2_with fail
   go_roundg (19 - (j+1))
   case measure=>omega
   case rel=>exact⟨j+1,by omega,Nat.le_refl _,by go_num,HN⟩
  ·obtain rfl:j=19:=by omega
   have dl:decide (((19:Nat):Int) < 19)=false:=by decide
   have HO:Hid (IOwn wr w.heap.size w.heap.size 19 19 (toldF R)∧Below w.heap.size w wr):=⟨hS.out.1.congr fun i hi=>if_pos hi,hS.out.2⟩
   clear hS
   go_wp2_with fail
   refine (implTrim _ 19 19 4 _ wr HO.out.1.sl.came (by omega) (by omega) (by omega) (by omega)).mono ?_
   rintro e w4 ⟨rfl,rfl⟩
   go_wp2_with fail
   go_ret
   exact⟨_,rfl,iown_cut HO.out.1 (toldN_bd R).2,HO.out.2⟩
end
section
open Go.RowKit Go.Joins InfMath
theorem came_ivals {w:World} {a:Option Addr} {n:Nat} {f:Nat→Int} (h:Came w a n f) {ad:Addr} (ha:a=some ad):∀ j u,(ivals (firstJ f n))[j]?=some u→w.cell? (ad.add j)=some u:=by
 intro j u hu
 have hj:j < n:=by
  rcases Nat.lt_or_ge j n with k | k
  ·exact k
  ·rw[List.getElem?_eq_none (by rw [ivals_length,firstJ_length]; exact k)] at hu; cases hu
 rw[ivals_get _ j (by rw [firstJ_length]; exact hj),firstJ_getD f hj] at hu
 rcases h with q | ⟨g,off,e,hg,hc⟩
 ·omega
 ·rw[ha] at e
  obtain rfl:=Option.some.inj e
  rw[Addr.add_lit,hc j hj]
  exact hu
theorem came_cat {W:World} {S:Nat} {a:Option Addr} {c n1 n2:Nat} {f1 f2:Nat→Int} (h:NumRow W S (.slice a (n1+n2) c) (firstJ f1 n1 ++ firstJ f2 n2)):Came W a (n1+n2) (fun i=>if i < n1 then f1 i else f2 (i - n1)):=by
 have hs:=sl_of_num h (by rw [List.length_append,firstJ_length,firstJ_length])
 rcases hs with q | ⟨g,rfl,ho⟩
 ·exact .inl q
 ·refine (ho.congr fun i hi=>?_).sl.came
  by_cases q:i < n1
  ·rw[if_pos q,List.getD_eq_getElem?_getD,List.getElem?_append_left (by rw [firstJ_length]; exact q),← List.getD_eq_getElem?_getD,firstJ_getD f1 q]
  ·rw[if_neg q,List.getD_eq_getElem?_getD,List.getElem?_append_right (by rw [firstJ_length]; omega),firstJ_length,← List.getD_eq_getElem?_getD,firstJ_getD f2 (by omega)]
end
section
open Go.RowKit Go.Joins InfMath
theorem catTo_small2 {Ls:Nat→List Int} (h:∀ i,i < 2→(Ls i).length≤400):∀ i,i≤2→(catTo Ls i).length≤400 * i
 | 0,_=>by simp [catTo]
 | i+1,hi=>by
  have h1:=catTo_small2 h i (by omega)
  have h2:=h i (by omega)
  show (catTo Ls i ++ Ls i).length≤_
  rw[List.length_append]
  omega
structure TwoL (w:World) (sb:Nat) (A:Nat→Option Addr) (C:Nat→Nat) (Ls:Nat→List Int):Prop where
 lt:sb < w.heap.size
 cell:∀ i,i < 2→w.cell? ⟨sb,i,none⟩=some (.slice (A i) (Ls i).length (C i))
 row:∀ i,i < 2→∀ ad,A i=some ad→∀ j u,(ivals (Ls i))[j]?=some u→w.cell? (ad.add j)=some u
 low:∀ i,i < 2→∀ ad,A i=some ad→∃ g off,ad=⟨g,off,none⟩∧g < w.heap.size
 none:∀ i,i < 2→A i=none→(Ls i).length=0∧C i=0
 small:∀ i,i < 2→(Ls i).length≤400
theorem TwoL.called {w w':World} {sb:Nat} {A:Nat→Option Addr} {C:Nat→Nat} {Ls:Nat→List Int} (h:TwoL w sb A C Ls) (hb:Below w.heap.size w w'):TwoL w' sb A C Ls where
 lt:=Nat.lt_of_lt_of_le h.lt hb.size
 cell:=fun i hi=>(hb.cell (p:=⟨sb,i,Option.none⟩) h.lt).trans (h.cell i hi)
 row:=fun i hi ad he j u hu=>by
  obtain⟨g,off,rfl,hg⟩:=h.low i hi ad he
  rw[← h.row i hi _ he j u hu,Addr.add_lit]
  exact hb.cell (p:=⟨g,off+j,Option.none⟩) hg
 low:=fun i hi ad he=>by
  obtain⟨g,off,e,hg⟩:=h.low i hi ad he
  exact⟨g,off,e,Nat.lt_of_lt_of_le hg hb.size⟩
 none:=h.none
 small:=h.small
set_option maxRecDepth 100000 in
set_option maxHeartbeats 1600000 in
theorem concat_two (sb c:Nat) (A:Nat→Option Addr) (C:Nat→Nat) (Ls:Nat→List Int) (w:World) (h:TwoL w sb A C Ls) (h1:1≤(catTo Ls 2).length):
  Calls Tryz.prog 123 #[.slice (some ⟨sb,0,none⟩) 2 c] w fun e w'=>∃ a c',e=.returned (.slice a (catTo Ls 2).length c')∧NumRow w' w.heap.size (.slice a (catTo Ls 2).length c') (catTo Ls 2)∧Below w.heap.size w w':=by
 have HF:=hid_of h
 have hsm:=catTo_small2 h.small
 clear h
 go_enter Tryz.func123,Tryz.ntmps123
 go_wp2_with fail
 go_loopg [3,11] 3 (fun gk v u w'=>∃ i:Nat,i≤2∧v=.int .i64 ((catTo Ls i).length:Int)∧u=.int .i64 (i:Int)∧2 - i≤gk∧Hid (w'=w))
 case atStart=>exact⟨0,by omega,rfl,rfl,by omega,rfl⟩
 case round=>
  obtain⟨i,hi,rfl,rfl,hgk,HE⟩:=hrel
  have hE:w=wr:=HE.out.symm
  subst hE
  clear HE
  by_cases hlt:i < 2
  ·have dl:decide ((i:Int) < 2)=true:=decide_eq_true (by omega)
   have dl2:decide (i < 2)=true:=decide_eq_true hlt
   have hc:=HF.out.cell i hlt
   have hl:=HF.out.lt
   have hs1:=hsm i (by omega)
   have hs2:=HF.out.small i hlt
   have HNX:Hid ((catTo Ls (i+1)).length=(catTo Ls i).length+(Ls i).length):=by
    show (catTo Ls i ++ Ls i).length=_
    rw[List.length_append]
   have x0:(0:Int)≤(i:Int):=by omega
   have x1:(i:Int) < 2:=by omega
   generalize (catTo Ls i).length=n1 at *
   generalize (Ls i).length=n2 at *
   have dn:decide ((n1:Int)+(n2:Int) < 0)=false:=decide_eq_false (by omega)
   go_wp2_with fail
   go_roundg (2 - (i+1))
   case measure=>omega
   case rel=>exact⟨i+1,by omega,by rw [HNX.out]; go_num,by go_num,Nat.le_refl _,rfl⟩
  ·obtain rfl:i=2:=by omega
   have dl:decide (((2:Nat):Int) < 2)=false:=by decide
   have hgr:=grow_nil (catTo Ls 2).length w h1 (by have:=hsm 2 (by omega); omega)
   go_wp2_with fail
   refine hgr.mono ?_
   clear hgr
   rintro e w1 ⟨g,c1,rfl,hnr,hb⟩
   have H0:Hid (NumRow w1 w.heap.size (.slice (some ⟨g,0,none⟩) 0 c1) (catTo Ls 0)∧Below w.heap.size w w1):=⟨hnr,hb⟩
   clear hnr hb
   go_wp2_with fail
   go_loopg [6,27] 3 (fun gk v u w'=>∃ (i:Nat) (a:Option Addr) (c:Nat),i≤2∧v=.slice a (catTo Ls i).length c∧u=.int .i64 (i:Int)∧2 - i≤gk∧Hid (NumRow w' w.heap.size (.slice a (catTo Ls i).length c) (catTo Ls i)∧Below w.heap.size w w'))
   case atStart=>exact⟨0,_,_,by omega,rfl,rfl,by omega,H0⟩
   case round=>
    clear H0
    obtain⟨i,a,cc,hi,rfl,rfl,hgk,hR⟩:=hrel
    by_cases hlt:i < 2
    ·have dl:decide ((i:Int) < 2)=true:=decide_eq_true (by omega)
     have dl2:decide (i < 2)=true:=decide_eq_true hlt
     have hF:=HF.out.called hR.out.2
     have hc:=hF.cell i hlt
     have hl:=hF.lt
     have hs1:=hsm i (by omega)
     have hs2:=hF.small i hlt
     have x0:(0:Int)≤(i:Int):=by omega
     have x1:(i:Int) < 2:=by omega
     have hrw:=hF.row i hlt
     have hnn:=hF.none i hlt
     have HRW:=hid_of hrw
     have HNN:=hid_of hnn
     have hsz:=hR.out.2.size
     clear hF hrw hnn
     go_wp2_with (at_builtin; refine nums_append (S:=w.heap.size) (xs:=catTo Ls i) (ys:=Ls i) rfl _ _ rfl rfl hR.out.1 (A i) (Ls i).length (C i) rfl rfl HRW.out HNN.out (by omega) hsz ?_)
     intro v2 w2 y1 y2
     obtain⟨a2,c2,hv2,_⟩:=y1.form
     subst hv2
     have HN:Hid (NumRow w2 w.heap.size (.slice a2 (catTo Ls (i+1)).length c2) (catTo Ls (i+1))∧Below w.heap.size w w2):=⟨y1,hR.out.2.grown y2 hsz (fun k e=>(World.ownsRow.lt hR.out.1 k e).1)⟩
     have HLN:Hid ((catTo Ls i ++ Ls i).length=(catTo Ls (i+1)).length):=rfl
     clear y1 y2 hR HRW HNN hc
     rw[HLN.out]
     go_wp2_with fail
     go_roundg (2 - (i+1))
     case measure=>omega
     case rel=>exact⟨i+1,a2,c2,by omega,rfl,by go_num,Nat.le_refl _,HN⟩
    ·obtain rfl:i=2:=by omega
     have dl:decide (((2:Nat):Int) < 2)=false:=by decide
     have HE:=hid_of hR.out
     clear hR
     go_wp2_with fail
     go_ret
     exact⟨a,cc,rfl,HE.out⟩
theorem concat_came (a1 a2:Option Addr) (n1 k1 n2 k2:Nat) (f1 f2:Nat→Int) (w:World) (t:TypeId) (h1:Came w a1 n1 f1) (h2:Came w a2 n2 f2) (hn1:1≤n1) (hm1:n1≤400) (hn2:1≤n2) (hm2:n2≤400):
  Calls Tryz.prog 123 #[.slice (some ⟨w.heap.size,0,none⟩) 2 2] (w.alloc (.cells #[.slice a1 n1 k1,.slice a2 n2 k2] t)) fun e w'=>∃ a c,e=.returned (.slice a (n1+n2) c)∧Came w' a (n1+n2) (fun i=>if i < n1 then f1 i else f2 (i - n1))∧Below w.heap.size w w':=by
 have hn:=heap_alloc_new w (.cells #[.slice a1 n1 k1,.slice a2 n2 k2] t)
 have hb:=bstart w (.cells #[.slice a1 n1 k1,.slice a2 n2 k2] t)
 generalize w.alloc _=W at hn hb
 have q1:=h1.called hb
 have q2:=h2.called hb
 have hT:TwoL W w.heap.size (fun i=>if i=0 then a1 else a2) (fun i=>if i=0 then k1 else k2) (fun i=>if i=0 then firstJ f1 n1 else firstJ f2 n2):=by
  refine⟨block_lt hn,fun i hi=>?_,fun i hi ad he=>?_,fun i hi ad he=>?_,fun i hi he=>?_,fun i hi=>?_⟩
  ·rw[cell_of_block hn i]
   rcases (show i=0∨i=1 by omega) with rfl | rfl <;> simp [firstJ_length]
  ·rcases (show i=0∨i=1 by omega) with rfl | rfl
   ·exact came_ivals q1 he
   ·exact came_ivals q2 he
  ·rcases (show i=0∨i=1 by omega) with rfl | rfl
   ·rcases q1 with q | ⟨g,off,e,hg,_⟩
    ·omega
    ·exact⟨g,off,by have:a1=some ad:=he; rw [this] at e; exact Option.some.inj e,hg⟩
   ·rcases q2 with q | ⟨g,off,e,hg,_⟩
    ·omega
    ·exact⟨g,off,by have:a2=some ad:=he; rw [this] at e; exact Option.some.inj e,hg⟩
  ·rcases (show i=0∨i=1 by omega) with rfl | rfl
   ·rcases q1 with q | ⟨g,off,e,hg,_⟩
    ·omega
    ·have:a1=none:=he
     rw[this] at e
     cases e
   ·rcases q2 with q | ⟨g,off,e,hg,_⟩
    ·omega
    ·have:a2=none:=he
     rw[this] at e
     cases e
  ·rcases (show i=0∨i=1 by omega) with rfl | rfl
   ·show (firstJ f1 n1).length≤400
    rw[firstJ_length]
    exact hm1
   ·show (firstJ f2 n2).length≤400
    rw[firstJ_length]
    exact hm2
 have hcat:catTo (fun i=>if i=0 then firstJ f1 n1 else firstJ f2 n2) 2=firstJ f1 n1 ++ firstJ f2 n2:=rfl
 have hlen:(catTo (fun i=>if i=0 then firstJ f1 n1 else firstJ f2 n2) 2).length=n1+n2:=by rw [hcat,List.length_append,firstJ_length,firstJ_length]
 refine (concat_two w.heap.size 2 _ _ _ W hT (by rw [hlen]; omega)).mono ?_
 rintro e w' ⟨a,c,rfl,hr,hb2⟩
 rw[hlen] at hr
 refine⟨a,c,by rw [hlen],?_,bnext hb hb2⟩
 rw[hcat] at hr
 exact came_cat hr
end
end Go.Proofs.YtklpiihnbokkkaaGreatDoor
