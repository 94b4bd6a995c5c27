/-
  Texts of the proof, put together.
-/
import Derived.Test.YtklpiihnbokkkaaGreatDoorZk12
import Derived.Deep.CutRange
import Derived.Lib.BitFns
import Derived.Lib.Slices
import Derived.Lib.Small
import Derived.Lib.Walk
namespace Go.Proofs.YtklpiihnbokkkaaGreatDoor
section
open Go.RowKit Go.Joins OutMath PutMath BlockMath PartMath
theorem i64_and7 (x:Int):bits .and .i64 x 7=x % 8:=by
 have h2:(BitVec.ofInt 64 (7:Int)).toNat=7:=by decide +kernel
 have h1:(BitVec.ofInt 64 x).toNat=(x % 18446744073709551616).toNat:=by
  rw[BitVec.toNat_ofInt]
  rfl
 show IntKind.i64.wrap ((BitVec.ofInt 64 x &&& BitVec.ofInt 64 (7:Int)).toNat:Int)=_
 rw[BitVec.toNat_and,h1,h2,IntKind.wrap_i64]
 have h3:=Nat.and_two_pow_sub_one_eq_mod (x % 18446744073709551616).toNat 3
 rw[show 2 ^ 3 - 1=7 from rfl,show 2 ^ 3=8 from rfl] at h3
 rw[h3]
 omega
theorem info_part:(Tryz.prog.info? 115).map (fun i=>(i.zero,i.size,i.bytes))=some (some (.agg #[.int .i64 0,.int .i64 0,.bool false]),3,24):=by kernel_rfl
def storedHead (c:Int) (t:ByteArray) (last:Bool):List Part:=[headP 0 last,(0,((-(c+3)) % 8).toNat,false),((t.size:Int),16,false),(65535 - (t.size:Int),16,false)]
def byteParts (l:List Int):List Part:=l.map fun y=>(y,8,false)
theorem byteParts_bits:∀ l:List Int,partBits (byteParts l)=byteBits l
 | []=>rfl
 | y :: l=>by
  show bitsP (y,8,false) ++ partBits (byteParts l)=pieceBits y 8 false ++ byteBits l
  rw[byteParts_bits l]
  rfl
theorem zero_bits (n:Nat):bitsP (0,n,false)=List.replicate n 0:=by
 refine List.eq_replicate_iff.mpr ⟨bitsP_length _,fun b hb=>?_⟩
 obtain⟨k,_,rfl⟩:=List.mem_map.mp hb
 simp[bitOf]
theorem stored_bits (k:Nat) (t:ByteArray) (last:Bool):partBits (storedHead k t last ++ byteParts (numsOf t))=headBits 0 last ++ storedBits (k+3) t:=by
 rw[partBits_app,byteParts_bits]
 show (bitsP (headP 0 last) ++ (bitsP (0,_,false) ++ (bitsP ((t.size:Int),16,false) ++ (bitsP (65535 - (t.size:Int),16,false) ++ [])))) ++ _=_
 rw[headP_bits (by omega),zero_bits]
 unfold storedBits fillBits
 rw[show ((-((k:Int)+3)) % 8).toNat=(8 - (k+3) % 8) % 8 by omega]
 simp only [List.append_assoc,List.append_nil]
 rfl
theorem stored_right (c:Int) (t:ByteArray) (last:Bool) (ht:t.size≤2600):∀ p∈storedHead c t last ++ byteParts (numsOf t),Right p:=by
 intro p hp
 rcases List.mem_append.mp hp with hp | hp
 ·unfold storedHead at hp
  simp only [List.mem_cons,List.not_mem_nil,or_false] at hp
  rcases hp with rfl | rfl | rfl | rfl
  ·exact headP_right (by omega) last
  ·refine⟨by simp,by simp,?_⟩
   show ((-(c+3)) % 8).toNat≤24
   omega
  ·refine⟨?_,?_,?_⟩ <;> simp only [] <;> omega
  ·refine⟨?_,?_,?_⟩ <;> simp only [] <;> omega
 ·obtain⟨y,hy,rfl⟩:=List.mem_map.mp hp
  obtain⟨b,_,rfl⟩:=List.mem_map.mp hy
  have:=UInt8.toNat_lt b
  refine⟨?_,?_,?_⟩ <;> simp only [] <;> omega
theorem bytes_take {t:ByteArray} {j:Nat} (h:j < t.size):byteParts ((numsOf t).take (j+1))=byteParts ((numsOf t).take j) ++ [(((t[j]'h).toNat:Int),8,false)]:=by
 have h1:(numsOf t)[j]?=some ((t[j]'h).toNat:Int):=by
  unfold numsOf
  rw[List.getElem?_map,Array.getElem?_toList,Array.getElem?_eq_getElem (show j < t.data.size from h)]
  rfl
 unfold byteParts
 rw[List.take_add_one,h1,List.map_append]
 rfl
theorem own_slice {w:World} {e:TypeId} {S m n:Nat} {v:Value} {L:List Value} (h:w.ownsRow S e m v n L) (hn:0 < n):∃ g cap,v=.slice (some ⟨g,0,none⟩) n cap:=by
 rcases h.2 with ⟨_,h0⟩ | ⟨g,cap,cur,rfl,_⟩
 ·omega
 ·exact⟨g,cap,rfl⟩
def StW (w X:World) (s:ByteArray) (c:Int) (L:List Part) (v:Value):Prop:=SBx w X s c∧X.ownsRow (w.heap.size+2) 115 3 v L.length (pcells L)
set_option maxRecDepth 100000 in
set_option maxHeartbeats 3200000 in
theorem stored_good (s:ByteArray) (c:Int) (t:ByteArray) (last:Bool) (w:World) (hs:s.size≤1048576) (hc1:-9223372036854775808≤c) (hc2:c≤9223372036854775807) (ht:t.size≤2600):
  Calls Tryz.prog 50 #[.agg #[.string s,.int .i64 c],.string t,.bool last] w fun e w'=>e=.returned (blkAns ((outSt s c).bind fun o=>bitsOut o (partBits (storedHead c t last ++ byteParts (numsOf t)))))∧Below w.heap.size w w':=by
 have dt:decide ((2600:Int) < (t.size:Int))=false:=decide_eq_false (by omega)
 have dt':decide (2600 < t.size)=false:=decide_eq_false (by omega)
 have HX:=hid_of (SBx.start w s c)
 go_enter Tryz.func50,Tryz.ntmps50
 go_wp2_with fail
 generalize (w.alloc _).alloc _=X at HX ⊢
 go_cut [8] from 14 to 29 (fun v wx=>Hid (SBx w wx s c)∧∃ g,v=.slice (some ⟨g,0,none⟩) 4 4∧Hid (wx.ownsRow (w.heap.size+2) 115 3 v 4 (pcells (storedHead c t last))))
 case first=>
  obtain⟨x0,x1,xl⟩:=HX.out.cells
  have e7:Hid (bits BinOp.and IntKind.i64 (IntKind.i64.wrap (-IntKind.i64.wrap (c+3))) 7=(((-(c+3)) % 8).toNat:Int)):=by
   show _=_
   rw[i64_and7,IntKind.wrap_i64,IntKind.wrap_i64]
   omega
  have e8:Hid (IntKind.i64.wrap (65535 - (t.size:Int))=65535 - (t.size:Int)):=by show _=_; rw [IntKind.wrap_i64]; omega
  have HP:Hid ((pcells (storedHead c t last)).toArray=#[.int .i64 (headP 0 last).1,.int .i64 3,.bool false,.int .i64 0,.int .i64 (((-(c+3)) % 8).toNat:Int),.bool false,.int .i64 (t.size:Int),.int .i64 16,.bool false,.int .i64 (65535 - (t.size:Int)),.int .i64 16,.bool false]):=rfl
  go_region_with (first | (go_at_call 75; refine (headPart_any 0 last _ (by omega)).mono ?_; rintro e w' ⟨rfl,hB⟩; have HY:=hid_of ((by first | exact HX.out | exact HX.out.drew:SBx w _ s c).called hB); clear HX hB x0 x1 xl; have HX:=HY; clear HY; obtain⟨x0,x1,xl⟩:=HX.out.cells) | (go_at_call 76; refine (numberPart_any _ _ _).mono ?_; rintro e w' ⟨rfl,hB⟩; have HY:=hid_of ((by first | exact HX.out | exact HX.out.drew:SBx w _ s c).called hB); clear HX hB x0 x1 xl; have HX:=HY; clear HY; obtain⟨x0,x1,xl⟩:=HX.out.cells))
  all_goals
   go_wp2_with fail
   go_meet
   case rel=>
    rw[e7.out,e8.out]
    exact⟨HX.out.called (bstart _ _),_,rfl,by have:=own_lit w' 115 (w.heap.size+2) (by have:=HX.out.res.2.2.2; omega) (storedHead c t last) (by simp [storedHead]); rw [HP.out] at this; exact this⟩
 case rest=>
  obtain⟨hX,g,rfl,hO⟩:=hcut
  clear HX X
  have HX:=hX
  have H0:Hid (StW w wc s c (storedHead c t last) (.slice (some ⟨g,0,none⟩) 4 4)):=⟨hX.out,hO.out⟩
  clear hX hO
  go_wp2_with fail
  go_loopg [8,32] (t.size+1) (fun gk v i w'=>∃ (j g1 c1:Nat),j≤t.size∧t.size - j≤gk∧i=.int .i64 j∧v=.slice (some ⟨g1,0,none⟩) (4+j) c1∧Hid (StW w w' s c (storedHead c t last ++ byteParts ((numsOf t).take j)) (.slice (some ⟨g1,0,none⟩) (4+j) c1)))
  case atStart=>exact⟨0,g,4,Nat.zero_le _,by omega,rfl,rfl,by simpa [byteParts] using H0⟩
  case round=>
   obtain⟨j,g1,cp1,hj,hgk,rfl,rfl,hS⟩:=hrel
   by_cases hlt:j < t.size
   ·have dl:decide ((j:Int) < (t.size:Int))=true:=decide_eq_true (by omega)
    have b0:(0:Int)≤(j:Int):=by omega
    have b1:(j:Int) < (t.size:Int):=by omega
    have HT:=hid_of (bytes_take hlt)
    have hw:wrap64 ((t[j]'hlt).toNat:Int)=((t[j]'hlt).toNat:Int):=by have:=UInt8.toNat_lt (t[j]'hlt); unfold wrap64; omega
    have hl:(storedHead c t last ++ byteParts ((numsOf t).take j)).length=4+j:=by simp [storedHead,byteParts,numsOf_length]; omega
    have HL:=hid_of hl
    clear hl
    go_wp2_with fail
    refine (numberPart_any _ _ _).mono ?_
    rintro e w' ⟨rfl,hB⟩
    have HS:Hid (StW w w' s c (storedHead c t last ++ byteParts ((numsOf t).take j)) (.slice (some ⟨g1,0,none⟩) (4+j) cp1)):=⟨hS.out.1.called hB,row_called hS.out.2 hB⟩
    clear hB hS
    go_wp2_with (at_builtin; refine parts_append Tryz.underlying118 info_part (S:=w.heap.size+2) (xs:=storedHead c t last ++ byteParts ((numsOf t).take j)) (ys:=[(((t[j]'hlt).toNat:Int),8,false)]) rfl _ _ rfl rfl (World.ownsRow.alloc HS.out.2 _) ⟨w'.heap.size,0,none⟩ 1 1 rfl rfl (news_part w' _ _ _ _ _ rfl) (by rw [HL.out]; simp only [List.length_singleton]; omega) (by have:=HS.out.1.res.2.2.2; simp; omega) ?_)
    intro v' w5 y1 y2 y3
    have y4:w5.ownsRow (w.heap.size+2) 115 3 v' (storedHead c t last ++ byteParts ((numsOf t).take (j+1))).length (pcells (storedHead c t last ++ byteParts ((numsOf t).take (j+1)))):=by
     rw[HT.out]
     simpa using y1
    have hl2:(storedHead c t last ++ byteParts ((numsOf t).take (j+1))).length=4+(j+1):=by simp [storedHead,byteParts,numsOf_length]; omega
    have hX5:SBx w w5 s c:=(HS.out.1.called (bstart w' (.cells #[.int .i64 ((t[j]'hlt).toNat:Int),.int .i64 8,.bool false] 115))).grown y2 (HS.out.2.lt g1 rfl).1
    obtain⟨g5,cp5,rfl⟩:=own_slice y4 (by omega)
    rw[hl2]
    have HN:Hid (StW w w5 s c (storedHead c t last ++ byteParts ((numsOf t).take (j+1))) (.slice (some ⟨g5,0,none⟩) (4+(j+1)) cp5)):=⟨hX5,by rw [hl2] at y4; rw [hl2]; exact y4⟩
    clear y1 y2 y3 y4 hX5 hl2
    go_wp2_with fail
    go_roundg (t.size - (j+1))
    case measure=>omega
    case rel=>exact⟨j+1,g5,cp5,by omega,Nat.le_refl _,by go_num,rfl,HN⟩
   ·obtain rfl:j=t.size:=by omega
    have dl:decide ((t.size:Int) < (t.size:Int))=false:=decide_eq_false (by omega)
    obtain⟨x0,x1,xl⟩:=hS.out.1.cells
    have hl:(storedHead c t last ++ byteParts (numsOf t)).length=4+t.size:=by simp [storedHead,byteParts,numsOf_length]; omega
    have hfull:(numsOf t).take t.size=numsOf t:=by rw [← numsOf_length,List.take_length]
    rw[hfull] at hS
    obtain⟨a2,c2,hv,_,_,_,hPC,_⟩:=pcame_of_own hS.out.2 rfl
    rw[hl] at hv
    cases hv
    have hW:=withParts_any s c _ cp1 _ wr hPC (stored_right c t last ht) (by rw [hl]; omega) (by unfold maxLen; omega) hc1 hc2
    rw[hl] at hW
    have HX:=hid_of hS.out.1
    clear hPC hS hl hfull
    go_wp2_with fail
    refine hW.mono ?_
    rintro e w5 ⟨rfl,hB⟩
    clear hW
    obtain⟨z0,z1,zf,zl⟩:=(HX.out.called hB).res
    have HBB:Hid (Below w.heap.size w w5):=(HX.out.called hB).1
    clear hB
    obtain⟨tt,n,b,he⟩:=blkAns_form ((outSt s c).bind fun o=>bitsOut o (partBits (storedHead c t last ++ byteParts (numsOf t))))
    rw[he]
    go_wp2_with fail
    refine bodyPost_ret (v:=.tuple #[.agg #[.string tt,.int .i64 n],.bool b]) ?_ rfl ⟨by rw [he],?_⟩
    ·simp[results,Tryz.results50,go_sem,z0,z1]
    ·exact two_below HBB.out (Nat.le_succ _) _ _
set_option maxHeartbeats 800000 in
theorem stored_answer:StoredAnswer:=by
 intro s c t last w hs hc1 hc2 ht
 by_cases h:t.size≤2600
 ·have hg:=stored_good s c t last w hs hc1 hc2 h
  have e:storedOut s c t last=(outSt s c).bind fun o=>bitsOut o (partBits (storedHead c t last ++ byteParts (numsOf t))):=by
   unfold storedOut
   rw[if_pos h]
   unfold outSt
   split
   ·rename_i hb
    have hf:=fits_of_outB s c hb
    obtain⟨k,rfl⟩:=Int.eq_ofNat_of_zero_le hf.2.1
    show bitsOut _ _=bitsOut _ _
    rw[stored_bits]
    rfl
   ·rfl
  rw[e]
  exact hg
 ·have dt:decide ((2600:Int) < (t.size:Int))=true:=decide_eq_true (by omega)
  have dt':decide (2600 < t.size)=true:=decide_eq_true (by omega)
  have e:storedOut s c t last=none:=if_neg h
  rw[e]
  have HX:=hid_of (SBx.start w s c)
  go_enter Tryz.func50,Tryz.ntmps50
  go_wp2_with fail
  generalize (w.alloc _).alloc _=X at HX ⊢
  obtain⟨z0,z1,zf,zl⟩:=HX.out.res
  refine bodyPost_ret (v:=.tuple #[.agg #[.string ⟨#[]⟩,.int .i64 0],.bool false]) ?_ rfl ⟨rfl,?_⟩
  ·simp[results,Tryz.results50,go_sem,z0,z1]
  ·exact HX.out.1
end
section
open Go.RowKit Go.Joins
theorem info_run:(Tryz.prog.info? 165).map (fun i=>(i.zero,i.size,i.bytes))=some (some (.agg #[.int .i64 0,.int .i64 0]),2,16):=by kernel_rfl
def dcells:List (Int×Int)→List Value
 | []=>[]
 | c :: l=>.int .i64 c.1 :: .int .i64 c.2 :: dcells l
theorem dcells_length:∀ l:List (Int×Int),(dcells l).length=l.length * 2
 | []=>rfl
 | c :: l=>by
  show (dcells l).length+1+1=(l.length+1) * 2
  rw[dcells_length l]
  omega
theorem dcells_app:∀ xs ys:List (Int×Int),dcells (xs ++ ys)=dcells xs ++ dcells ys
 | [],ys=>rfl
 | c :: l,ys=>by
  show Value.int .i64 c.1 :: .int .i64 c.2 :: dcells (l ++ ys)=Value.int .i64 c.1 :: .int .i64 c.2 :: (dcells l ++ dcells ys)
  rw[dcells_app l ys]
theorem dcells_get0:∀ (l:List (Int×Int)) (i:Nat),i < l.length→(dcells l)[i * 2]?=some (.int .i64 (l.getD i (0,0)).1)
 | [],i,h=>by simp at h
 | c :: l,0,_=>rfl
 | c :: l,i+1,h=>by
  rw[show (i+1) * 2=i * 2+1+1 by omega]
  show (dcells l)[i * 2]?=some (.int .i64 (l.getD i (0,0)).1)
  exact dcells_get0 l i (by simpa using h)
theorem dcells_get1:∀ (l:List (Int×Int)) (i:Nat),i < l.length→(dcells l)[i * 2+1]?=some (.int .i64 ((l.getD i (0,0)).2))
 | [],i,h=>by simp at h
 | c :: l,0,_=>rfl
 | c :: l,i+1,h=>by
  rw[show (i+1) * 2+1=i * 2+1+1+1 by omega]
  show (dcells l)[i * 2+1]?=some (.int .i64 ((l.getD i (0,0)).2))
  exact dcells_get1 l i (by simpa using h)
theorem dcells_one:∀ (l:List (Int×Int)),∀ u∈dcells l,u.oneCell'=true
 | [],u,h=>by cases h
 | c :: l,u,h=>by
  rcases List.mem_cons.mp h with rfl | h
  ·rfl
  ·rcases List.mem_cons.mp h with rfl | h
   ·rfl
   ·exact dcells_one l u h
def RunsLie (w:World) (B:Nat) (a:Option Addr) (L:List (Int×Int)):Prop:=
 L=[]∨∃ g off,a=some ⟨g,off,none⟩∧g < B∧g < w.heap.size∧∀ j u,(dcells L)[j]?=some u→w.cell? ⟨g,off+j,none⟩=some u
def Dst (w:World) (B:Nat) (a:Option Addr) (c:Nat) (L:List (Int×Int)):Prop:=L.length≤c∧(a=none→c=0)∧RunsLie w B a L
section
variable {w w':World} {B:Nat} {a:Option Addr} {c:Nat} {L:List (Int×Int)} {x:Int×Int}
theorem RunsLie.kept (h:RunsLie w B a L) (hb:Below B w w'):RunsLie w' B a L:=by
 rcases h with h | ⟨g,off,ha,h1,h2,h3⟩
 ·exact .inl h
 ·exact .inr ⟨g,off,ha,h1,Nat.lt_of_lt_of_le h2 hb.size,fun j u hu=>(hb.cell (p:=⟨g,off+j,none⟩) h1).trans (h3 j u hu)⟩
theorem Dst.kept (h:Dst w B a c L) (hb:Below B w w'):Dst w' B a c L:=⟨h.1,h.2.1,h.2.2.kept hb⟩
theorem RunsLie.mono {B':Nat} (h:RunsLie w B a L) (hB:B≤B'):RunsLie w B' a L:=by
 rcases h with h | ⟨g,off,ha,h1,h2,h3⟩
 ·exact .inl h
 ·exact .inr ⟨g,off,ha,by omega,h2,h3⟩
theorem Dst.mono {B':Nat} (h:Dst w B a c L) (hB:B≤B'):Dst w B' a c L:=⟨h.1,h.2.1,h.2.2.mono hB⟩
theorem Dst.cons (h:Dst w B a c (x :: L)):∃ g off d,a=some ⟨g,off,none⟩∧c=d+1∧L.length≤d∧g < B∧g < w.heap.size∧w.cell? ⟨g,off,none⟩=some (.int .i64 x.1)∧w.cell? ⟨g,off+1,none⟩=some (.int .i64 x.2)∧Dst w B (some ⟨g,off+2,none⟩) d L:=by
 obtain⟨h1,h2,h3⟩:=h
 rw[List.length_cons] at h1
 rcases h3 with h3 | ⟨g,off,ha,q1,q2,q3⟩
 ·cases h3
 ·refine⟨g,off,c - 1,ha,by omega,by omega,q1,q2,q3 0 _ rfl,q3 1 _ rfl,by omega,(fun e=>by cases e),.inr ⟨g,off+2,rfl,q1,q2,fun j u hu=>?_⟩⟩
  have:=q3 (j+2) u hu
  rw[show off+2+j=off+(j+2) by omega]
  exact this
theorem Dst.cell (h:Dst w B a c L) (hp:0 < L.length):∃ g off,a=some ⟨g,off,none⟩∧g < B∧g < w.heap.size∧∀ i,i < L.length→w.cell? ⟨g,off+i * 2,none⟩=some (.int .i64 (L.getD i (0,0)).1)∧w.cell? ⟨g,off+(i * 2+1),none⟩=some (.int .i64 ((L.getD i (0,0)).2)):=by
 rcases h.2.2 with h3 | ⟨g,off,ha,q1,q2,q3⟩
 ·rw[h3] at hp; simp at hp
 ·exact⟨g,off,ha,q1,q2,fun i hi=>⟨q3 _ _ (dcells_get0 L i hi),q3 _ _ (dcells_get1 L i hi)⟩⟩
theorem Dst.news (h:Dst w B a c L):∀ ad,a=some ad→∀ j u,(dcells L)[j]?=some u→w.cell? (ad.add j)=some u:=by
 intro ad e j u hu
 rcases h.2.2 with h3 | ⟨g,off,ha,q1,q2,q3⟩
 ·rw[h3] at hu; cases hu
 ·rw[ha] at e
  cases e
  rw[Addr.add_lit]
  exact q3 j u hu
theorem dst_of_own {S n:Nat} {v:Value} (h:w.ownsRow S 165 2 v n (dcells L)) (hn:n=L.length):∃ a c,v=.slice a L.length c∧Dst w w.heap.size a c L∧c≤maxLen:=by
 subst hn
 rcases h.2 with ⟨rfl,h0⟩ | ⟨g,cap,cur,rfl,hb,hg,hc,hm,hs,ht⟩
 ·exact⟨none,0,by rw [h0],⟨by omega,fun _=>rfl,.inl (List.eq_nil_of_length_eq_zero h0)⟩,Nat.zero_le _⟩
 ·refine⟨_,cap,rfl,⟨hc,(fun e=>by cases e),.inr ⟨g,0,rfl,block_lt hg,block_lt hg,fun j u hu=>?_⟩⟩,hm⟩
  have hj:j < L.length * 2:=by
   rcases Nat.lt_or_ge j (L.length * 2) with k | k
   ·exact k
   ·rw[List.getElem?_eq_none (by rw [dcells_length]; exact k)] at hu; cases hu
  rw[Nat.zero_add,h.cellAt j hj]
  exact hu
end
theorem runs_append {w:World} {S:Nat} {v:Value} {xs ys:List (Int×Int)} {ops:Array Oper} {rest:List Oper} {o:Oper} {a:Act} {Q:Exit→Act→World→Prop} (hgd:o.guard=none) (s x:Operand)
  (ho:o.op=.call { callee:=.builtin .append,args:=#[s,x],argTypes:=#[161,161] }) (hs:a.eval s=v) (h:w.ownsRow S 165 2 v xs.length (dcells xs)) (ao:Option Addr) (m c:Nat) (hx:a.eval x=.slice ao m c) (hm:ys.length=m)
  (hc:∀ ad,ao=some ad→∀ j u,(dcells ys)[j]?=some u→w.cell? (ad.add j)=some u) (hn:ao=none→m=0∧c=0)
  (h63:xs.length+ys.length≤100000) (hS:S≤w.heap.size)
  (hK:∀ v' w',w'.ownsRow S 165 2 v' (xs ++ ys).length (dcells (xs ++ ys))→w.grownBy w' v.ownBlock→wpList Tryz.prog ops Q rest (a.put o.dst v') w'):wpList Tryz.prog ops Q (o :: rest) a w:=by
 obtain⟨i0,hi0,hz0,hz1,hz2⟩:=info_parts info_run
 cases ao with
 | none=>
  obtain⟨rfl,rfl⟩:=hn rfl
  obtain rfl:ys=[]:=List.eq_nil_of_length_eq_zero hm
  refine wpList_append_own_none hgd s x _ ho S 165 i0 2 Tryz.underlying161 hi0 v _ _ hs h hx (hK v w (by simpa using h) ⟨rfl,rfl,rfl,Nat.le_refl _,fun _ _ _=>rfl⟩)
 | some ad=>
  refine wpList_append_own_at w hgd s x _ ho S 165 i0 _ 2 16 Tryz.underlying161 hi0 hz0 hz1 hz2 rfl (by omega) v _ _ hs h ad m c (dcells ys) hx (by rw [dcells_length,hm]) (hc ad rfl) (dcells_one ys) (by unfold maxLen; omega) (by omega) hS ?_
  intro v' w' hown hg _ _
  refine hK v' w' ?_ hg
  rw[List.length_append,dcells_app,hm]
  exact hown
end
section
open Go.RowKit Go.Joins RunsMath
def ivals (l:List Int):List Value:=l.map fun x=>Value.int .i64 x
theorem ivals_length (l:List Int):(ivals l).length=l.length:=by simp [ivals]
theorem ivals_app (xs ys:List Int):ivals (xs ++ ys)=ivals xs ++ ivals ys:=by simp [ivals]
theorem ivals_get (l:List Int) (i:Nat) (h:i < l.length):(ivals l)[i]?=some (.int .i64 (l.getD i 0)):=by
 unfold ivals
 rw[List.getElem?_map,List.getElem?_eq_getElem h,List.getD_eq_getElem?_getD,List.getElem?_eq_getElem h]
 rfl
theorem ivals_one (l:List Int):∀ u∈ivals l,u.oneCell'=true:=by
 intro u hu
 obtain⟨x,_,rfl⟩:=List.mem_map.mp hu
 rfl
def NumRow (w:World) (S:Nat) (v:Value) (l:List Int):Prop:=w.ownsRow S 3 1 v l.length (ivals l)
theorem NumRow.empty (w:World) (S:Nat) (h:S≤w.heap.size):NumRow (w.alloc (.cells #[] 3)) S (.slice (some ⟨w.heap.size,0,none⟩) 0 0) []:=
 ⟨rfl,.inr ⟨w.heap.size,0,#[],rfl,h,heap_alloc_new w _,Nat.le_refl _,Nat.zero_le _,rfl,rfl⟩⟩
theorem NumRow.form {w:World} {S:Nat} {v:Value} {l:List Int} (h:NumRow w S v l):∃ a c,v=.slice a l.length c∧(a=none→c=0)∧l.length≤c∧Came w a l.length (fun i=>l.getD i 0)∧∀ ad,a=some ad→∀ j u,(ivals l)[j]?=some u→w.cell? (ad.add j)=some u:=by
 rcases h.2 with ⟨rfl,h0⟩ | ⟨g,cap,cur,rfl,hb,hg,hc,hm,hs,ht⟩
 ·exact⟨none,0,by rw [h0],fun _=>rfl,by omega,.inl h0,fun ad e=>by cases e⟩
 ·refine⟨_,cap,rfl,(fun e=>by cases e),hc,.inr ⟨g,0,rfl,block_lt hg,fun j hj=>?_⟩,fun ad e j u hu=>?_⟩
  ·rw[Nat.zero_add,h.cellAt j (by omega)]
   exact ivals_get l j hj
  ·cases e
   have hj:j < l.length:=by
    rcases Nat.lt_or_ge j l.length with k | k
    ·exact k
    ·rw[List.getElem?_eq_none (by rw [ivals_length]; exact k)] at hu; cases hu
   rw[Addr.add_lit,Nat.zero_add,h.cellAt j (by omega)]
   exact hu
theorem NumRow.called {w w':World} {S:Nat} {v:Value} {l:List Int} (h:NumRow w S v l) (hb:Below w.heap.size w w'):NumRow w' S v l:=by
 refine⟨h.1,?_⟩
 rcases h.2 with h | ⟨g,cap,cur,rfl,h1,h2,h3⟩
 ·exact .inl h
 ·exact .inr ⟨g,cap,cur,rfl,h1,(hb.block g (block_lt h2)).trans h2,h3⟩
theorem nums_append {w:World} {S:Nat} {v:Value} {xs ys:List Int} {ops:Array Oper} {rest:List Oper} {o:Oper} {a:Act} {Q:Exit→Act→World→Prop} (hgd:o.guard=none) (s x:Operand)
  (ho:o.op=.call { callee:=.builtin .append,args:=#[s,x],argTypes:=#[25,25] }) (hs:a.eval s=v) (h:NumRow w S v xs) (ao:Option Addr) (m c:Nat) (hx:a.eval x=.slice ao m c) (hm:ys.length=m)
  (hc:∀ ad,ao=some ad→∀ j u,(ivals ys)[j]?=some u→w.cell? (ad.add j)=some u) (hn:ao=none→m=0∧c=0)
  (h63:xs.length+ys.length≤100000) (hS:S≤w.heap.size)
  (hK:∀ v' w',NumRow w' S v' (xs ++ ys)→w.grownBy w' v.ownBlock→wpList Tryz.prog ops Q rest (a.put o.dst v') w'):wpList Tryz.prog ops Q (o :: rest) a w:=by
 obtain⟨i0,hi0,hz0,hz1,hz2⟩:=info_parts info_int
 cases ao with
 | none=>
  obtain⟨rfl,rfl⟩:=hn rfl
  obtain rfl:ys=[]:=List.eq_nil_of_length_eq_zero hm
  refine wpList_append_own_none hgd s x _ ho S 3 i0 1 Tryz.underlying25 hi0 v _ _ hs h hx (hK v w (by rw [List.append_nil]; exact h) ⟨rfl,rfl,rfl,Nat.le_refl _,fun _ _ _=>rfl⟩)
 | some ad=>
  refine wpList_append_own_at w hgd s x _ ho S 3 i0 _ 1 8 Tryz.underlying25 hi0 hz0 hz1 hz2 rfl (by omega) v _ _ hs h ad m c (ivals ys) hx (by rw [ivals_length,hm,Nat.mul_one]) (hc ad rfl) (ivals_one ys) (by unfold maxLen; omega) (by omega) hS ?_
  intro v' w' hown hg _ _
  refine hK v' w' ?_ hg
  show w'.ownsRow S 3 1 v' (xs ++ ys).length (ivals (xs ++ ys))
  rw[List.length_append,ivals_app,hm]
  exact hown
end
section
open Go.RowKit Go.Joins
theorem sl_of_num {w:World} {S:Nat} {a:Option Addr} {n c:Nat} {O:List Int} (h:NumRow w S (.slice a n c) O) (hn:n=O.length):SL w S a n c (fun j=>O.getD j 0):=by
 rcases Nat.eq_zero_or_pos n with h0 | h0
 ·exact .inl h0
 ·obtain⟨g,_,ho⟩:=own_of_ownsRow h (by omega)
  obtain⟨cap,e⟩:=ho.form
  obtain⟨e1,e2,e3⟩:=Value.slice.inj e
  subst e1 e3
  have e4:fints (fun j=>O.getD j 0) n=ivals O:=by
   refine List.ext_getElem? (fun i=>?_)
   rcases Nat.lt_or_ge i O.length with q | q
   ·rw[ivals_get O i q,List.getElem?_eq_getElem (by rw [fints_length]; omega),fints_get]
   ·rw[List.getElem?_eq_none (by rw [fints_length]; omega),List.getElem?_eq_none (by rw [ivals_length]; exact q)]
  refine .inr ⟨g,rfl,?_⟩
  unfold IOwn
  rw[e4]
  exact ho
end
section
open Go.RowKit OutMath StepMath
theorem p2_pow (m:Nat):p2 m=((2 ^ m:Nat):Int):=(pow_cast m).symm
theorem from_next (c k j:Nat):((fromN c k (j+1):Nat):Int)=((fromN c k j:Nat):Int)+p2 (bitsN k j):=by
 rw[p2_pow,← Int.natCast_add]
 rfl
theorem ret_ii {k:IntKind} {a b c d:Int} (h:a=b) (h':c=d):Ending.returned (.tuple #[.int k a,.int k c])=.returned (.tuple #[.int k b,.int k d]):=by rw [h,h']
theorem ret_iii {k:IntKind} {a b c d x y:Int} (h:a=b) (h':c=d) (h2:x=y):Ending.returned (.tuple #[.int k a,.int k c,.int k x])=.returned (.tuple #[.int k b,.int k d,.int k y]):=by rw [h,h',h2]
end
section
open Go.Proofs StepMath
theorem bit_len_of {n c:Nat} (h1:2 ^ (c+1)≤n) (h2:n < 2 ^ (c+2)) (h:n < 18446744073709551616):Lib.bitLen n=c+2:=by
 rw[Lib.bitLen_shift (c+1) n h1 h]
 have hp:=Nat.two_pow_pos (c+1)
 have e:n / 2 ^ (c+1)=1:=by
  rw[Nat.pow_succ 2 (c+1)] at h2
  exact Nat.div_eq_of_lt_le (by omega) (by omega)
 rw[e]
 rfl
theorem len_sym:∀ n,n < 255→lenCode (n+3)=(257+((Lib.bitLen n - 3) * 4+n / 2 ^ (Lib.bitLen n - 3)),Lib.bitLen n - 3,n % 2 ^ (Lib.bitLen n - 3))∧Lib.bitLen n≤8:=by decide +kernel
theorem dist_first:∀ n,n < 4→distCode (n+1)=((Lib.bitLen n - 2) * 2+n / 2 ^ (Lib.bitLen n - 2),Lib.bitLen n - 2,n % 2 ^ (Lib.bitLen n - 2))∧Lib.bitLen n≤15:=by decide +kernel
theorem dist_from:∀ c,c < 14→fromN 1 2 (c * 2+2)=1+2 * 2 ^ c∧fromN 1 2 (c * 2+3)=1+3 * 2 ^ c∧fromN 1 2 (c * 2+4)=1+4 * 2 ^ c∧bitsN 2 (c * 2+2)=c∧bitsN 2 (c * 2+3)=c:=by decide +kernel
theorem dist_more {n c:Nat} (hc:c < 14) (h1:2 ^ (c+1)≤n) (h2:n < 2 ^ (c+2)):distCode (n+1)=(c * 2+n / 2 ^ c,c,n % 2 ^ c):=by
 obtain⟨f2,f3,f4,b2,b3⟩:=dist_from c hc
 have e1:2 ^ (c+1)=2 * 2 ^ c:=by rw [Nat.pow_succ,Nat.mul_comm]
 have e2:2 ^ (c+2)=4 * 2 ^ c:=by rw [Nat.pow_succ,Nat.pow_succ]; omega
 rw[e1] at h1
 rw[e2] at h2
 have hp:=Nat.two_pow_pos c
 have hm:=Nat.div_add_mod n (2 ^ c)
 have hl:=Nat.mod_lt n hp
 generalize 2 ^ c=p at *
 unfold distCode
 rcases Nat.lt_or_ge n (3 * p) with h | h
 ·have hq:n / p=2:=Nat.div_eq_of_lt_le (by omega) (by omega)
  rw[hq] at hm ⊢
  rw[find_told (j:=c * 2+2) (by omega) (by show n+1 < fromN 1 2 (c * 2+3); omega) (by omega) (by omega),b2,f2]
  congr 2
  omega
 ·have hq:n / p=3:=Nat.div_eq_of_lt_le (by omega) (by omega)
  rw[hq] at hm ⊢
  rw[find_told (j:=c * 2+3) (by omega) (by show n+1 < fromN 1 2 (c * 2+4); omega) (by omega) (by omega),b3,f3]
  congr 2
  omega
theorem dist_sym {n:Nat} (h:n < 32768):distCode (n+1)=((Lib.bitLen n - 2) * 2+n / 2 ^ (Lib.bitLen n - 2),Lib.bitLen n - 2,n % 2 ^ (Lib.bitLen n - 2))∧Lib.bitLen n≤15:=by
 rcases Nat.lt_or_ge n 4 with h4 | h4
 ·exact dist_first n h4
 ·have key:∃ c,c < 14∧2 ^ (c+1)≤n∧n < 2 ^ (c+2):=by
   have:∀ k,k < 14→n < 2 ^ (k+2)→∃ c,c < 14∧2 ^ (c+1)≤n∧n < 2 ^ (c+2):=by
    intro k
    induction k with
    | zero=>intro _ h; exact absurd h (by omega)
    | succ k ih=>
     intro hk hn
     rcases Nat.lt_or_ge n (2 ^ (k+2)) with q | q
     ·exact ih (by omega) q
     ·exact⟨k+1,hk,q,hn⟩
   exact this 13 (by omega) h
  obtain⟨c,hc,h1,h2⟩:=key
  have e:=bit_len_of h1 h2 (by omega)
  have ec:Lib.bitLen n - 2=c:=by omega
  rw[ec]
  exact⟨dist_more hc h1 h2,by omega⟩
end
section
open Go.RowKit Go.Joins OutMath StepMath
theorem tab_size:Lib.len8tab.size=256:=by decide +kernel
theorem tab_at:∀ n:Fin Lib.len8tab.size,(Lib.len8tab[n.val]'n.isLt).toNat=Lib.bitLen n.val∧Lib.bitLen n.val≤8:=by decide +kernel
set_option maxHeartbeats 4000000 in
set_option maxRecDepth 100000 in
theorem len64_any (x:Int) (w:World) (h0:0≤x) (h1:x≤65535):
  Calls Tryz.prog 219 #[.int .u64 x] w fun e w'=>e=.returned (.int .i64 ((Lib.bitLen x.toNat:Nat):Int))∧w'=w:=by
 have d0:decide ((4294967296:Int)≤x)=false:=decide_eq_false (by omega)
 have d1:decide ((65536:Int)≤x)=false:=decide_eq_false (by omega)
 have hz:(Lib.len8tab.size:Int)=256:=by rw [tab_size]; rfl
 by_cases h8:x < 256
 ·have d2:decide ((256:Int)≤x)=false:=decide_eq_false (by omega)
  go_enter Tryz.func219,Tryz.ntmps219
  go_wp2
  ·go_ret
   refine⟨ret_i ?_,rfl⟩
   have e:=tab_at ⟨x.toNat,by rw [tab_size]; omega⟩
   simp only at e
   rw[e.1]
   have e2:=e.2
   clear e
   unfold wrap64
   omega
  all_goals omega
 ·have d2:decide ((256:Int)≤x)=true:=decide_eq_true (by omega)
  go_enter Tryz.func219,Tryz.ntmps219
  go_wp2
  ·go_ret
   refine⟨ret_i ?_,rfl⟩
   have e:=tab_at ⟨(x / 256).toNat,by rw [tab_size]; omega⟩
   simp only at e
   rw[e.1,Lib.bitLen_shift8 x.toNat (by omega) (by omega),show x.toNat / 256=(x / 256).toNat by omega]
   have e2:=e.2
   clear e
   unfold wrap64
   omega
  all_goals omega
theorem len_any (x:Int) (w:World) (h0:0≤x) (h1:x≤65535):
  Calls Tryz.prog 208 #[.int .u64 x] w fun e w'=>e=.returned (.int .i64 ((Lib.bitLen x.toNat:Nat):Int))∧w'=w:=by
 go_enter Tryz.func208,Tryz.ntmps208
 go_wp2_with fail
 refine (len64_any x _ h0 h1).mono ?_
 rintro e w' ⟨rfl,rfl⟩
 go_wp2_with fail
 go_ret
 exact⟨rfl,rfl⟩
theorem symc_first (c p n:Nat) (hp:p≤2) (hc:c≤14) (h:n < 32768):wrap64 (wrap64 ((c:Int) * 2 ^ p)+(n:Int) / 2 ^ c)=((c * 2 ^ p+n / 2 ^ c:Nat):Int):=by
 have e1:(c:Int) * 2 ^ p=((c * 2 ^ p:Nat):Int):=by rw [Int.natCast_mul,pow_cast]
 have e2:(n:Int) / 2 ^ c=((n / 2 ^ c:Nat):Int):=by rw [Int.natCast_ediv,pow_cast]
 have h1:2 ^ p≤4:=Nat.pow_le_pow_right (n:=2) (by omega) hp
 have h2:c * 2 ^ p≤14 * 4:=Nat.mul_le_mul hc h1
 have h3:=Nat.div_le_self n (2 ^ c)
 rw[e1,e2]
 generalize c * 2 ^ p=q at *
 generalize n / 2 ^ c=r at *
 unfold wrap64
 omega
theorem symc_pow (c:Nat) (hc:c≤14):1≤2 ^ c∧2 ^ c≤16384:=⟨Nat.one_le_two_pow,Nat.pow_le_pow_right (n:=2) (j:=14) (by omega) hc⟩
theorem sym_extra (c n:Nat) (hc:c≤14) (h:n < 32768):bits .and .i64 (n:Int) (wrap64 (wrap64 (2 ^ c) - 1))=((n % 2 ^ c:Nat):Int):=by
 obtain⟨h1,h2⟩:=symc_pow c hc
 have e1:wrap64 (wrap64 ((2:Int) ^ c) - 1)=((2 ^ c - 1:Nat):Int):=by
  rw[← pow_cast]
  generalize 2 ^ c=q at *
  unfold wrap64
  omega
 rw[e1,PutMath.i64_and_nat _ _ (by omega) (by omega),Nat.and_two_pow_sub_one_eq_mod]
set_option maxHeartbeats 800000 in
theorem symbolOf_any (p n:Nat) (w:World) (hp:p≤2) (h:n < 32768) (hB:Lib.bitLen n≤15):
  Calls Tryz.prog 194 #[.int .i64 (n:Int),.int .i64 (p:Int)] w fun e w'=>e=.returned (.tuple #[.int .i64 (((Lib.bitLen n - (p+1)) * 2 ^ p+n / 2 ^ (Lib.bitLen n - (p+1)):Nat):Int),.int .i64 ((Lib.bitLen n - (p+1):Nat):Int),.int .i64 ((n % 2 ^ (Lib.bitLen n - (p+1)):Nat):Int)])∧Below w.heap.size w w':=by
 obtain⟨c,hc⟩:∃ c,c=Lib.bitLen n - (p+1):=⟨_,rfl⟩
 rw[← hc]
 have hc15:c≤14:=by omega
 go_enter Tryz.func194,Tryz.ntmps194
 go_wp2_with fail
 refine (len_any (n:Int) _ (by omega) (by omega)).mono ?_
 rintro e w' ⟨rfl,rfl⟩
 rw[Int.toNat_natCast]
 have hm:max 0 ((Lib.bitLen n:Int) - (p:Int) - 1)=(c:Int):=by omega
 clear hc
 go_wp2_with fail
 go_region
 go_wp2_with fail
 go_ret3
 exact⟨ret_iii (symc_first c p n hp hc15 h) rfl (sym_extra c n hc15 h),(Below.refl _ _).drew⟩
end
section
open Go.RowKit StepMath
def LengthCodeAnswer:Prop:=∀ (n:Int) (w:World),(Lit.int .i64 n).wf=true→Calls Tryz.prog 165 #[.int .i64 n] w fun e w'=>e=.returned (.tuple #[.int .i64 (LengthCodeOf n).1,.int .i64 (LengthCodeOf n).2.1,.int .i64 (LengthCodeOf n).2.2])∧Below w.heap.size w w'
end
section
open Go.RowKit Go.Joins OutMath StepMath
theorem isLength_any (x:Int) (w:World):
  Calls Tryz.prog 192 #[.int .i64 x] w fun e w'=>e=.returned (.bool (decide (3≤x∧x≤258)))∧w'=w:=by
 by_cases h:3≤x
 ·have d:decide ((3:Int)≤x)=true:=decide_eq_true h
  have d2:decide ((3:Int)≤x∧x≤258)=decide (x≤258):=by simp [h]
  rw[d2]
  clear d2
  go_enter Tryz.func192,Tryz.ntmps192
  go_wp2_with fail
  go_ret
  exact⟨rfl,rfl⟩
 ·have d:decide ((3:Int)≤x)=false:=decide_eq_false h
  have d2:decide ((3:Int)≤x∧x≤258)=false:=decide_eq_false (fun q=>h q.1)
  rw[d2]
  clear d2
  go_enter Tryz.func192,Tryz.ntmps192
  go_wp2_with fail
  go_ret
  exact⟨rfl,rfl⟩
theorem isLength_yes (x:Int) (w:World) (h:3≤x∧x≤258):
  Calls Tryz.prog 192 #[.int .i64 x] w fun e w'=>e=.returned (.bool true)∧w'=w:=by
 have:=isLength_any x w
 rwa [decide_eq_true h] at this
theorem isLength_no (x:Int) (w:World) (h:¬ (3≤x∧x≤258)):
  Calls Tryz.prog 192 #[.int .i64 x] w fun e w'=>e=.returned (.bool false)∧w'=w:=by
 have:=isLength_any x w
 rwa [decide_eq_false h] at this
set_option maxHeartbeats 800000 in
theorem lengthCode_answer:LengthCodeAnswer:=by
 intro n w _
 by_cases h:3≤n∧n≤258
 ·obtain⟨h3,h258⟩:=h
  obtain⟨m,rfl⟩:∃ m:Nat,n=(m:Int)+3:=⟨(n - 3).toNat,by omega⟩
  unfold LengthCodeOf
  rw[if_pos ⟨h3,h258⟩,show ((m:Int)+3).toNat=m+3 by omega]
  by_cases he:m=255
  ·subst he
   go_enter Tryz.func165,Tryz.ntmps165
   go_wp2_with fail
   refine (isLength_yes _ _ (by omega)).mono ?_
   rintro e w' ⟨rfl,rfl⟩
   go_wp2_with fail
   go_ret3
   exact⟨rfl,Below.refl _ _⟩
  ·have hl:=len_sym m (by omega)
   have hs:=fun w=>symbolOf_any 2 m w (by omega) (by omega) (by omega)
   rw[hl.1]
   have hB:=hl.2
   clear hl
   obtain⟨c,hc⟩:∃ c,c=Lib.bitLen m - 3:=⟨_,rfl⟩
   simp only [show 2+1=3 from rfl,← hc] at hs
   rw[← hc]
   have hq:=Nat.div_le_self m (2 ^ c)
   have hcl:c≤5:=by omega
   have d:((m:Int)+3 == 258)=false:=by simp; omega
   have hq2:(((c * 2 ^ 2+m / 2 ^ c:Nat):Int)=((c * 4+m / 2 ^ c:Nat):Int)):=rfl
   rw[hq2] at hs
   clear hc hB hq2
   generalize m / 2 ^ c=q at *
   generalize m % 2 ^ c=r at *
   obtain⟨s,hsm⟩:∃ s,s=c * 4+q:=⟨_,rfl⟩
   rw[← hsm] at hs ⊢
   have hsl:s≤300:=by omega
   clear hsm
   go_enter Tryz.func165,Tryz.ntmps165
   go_wp2_with fail
   refine (isLength_yes _ _ (by omega)).mono ?_
   rintro e w' ⟨rfl,rfl⟩
   go_wp2_with fail
   refine (hs _).mono ?_
   rintro e w1 ⟨rfl,hB1⟩
   have HB:=hid_of hB1
   clear hB1 hs
   go_wp2_with fail
   go_ret3
   exact⟨ret_iii (by omega) rfl rfl,HB.out⟩
 ·unfold LengthCodeOf
  rw[if_neg h]
  go_enter Tryz.func165,Tryz.ntmps165
  go_wp2_with fail
  refine (isLength_no _ _ h).mono ?_
  rintro e w' ⟨rfl,rfl⟩
  go_wp2_with fail
  go_ret3
  exact⟨rfl,Below.refl _ _⟩
end
section
open Go.RowKit StepMath
def DistCodeAnswer:Prop:=∀ (n:Int) (w:World),(Lit.int .i64 n).wf=true→Calls Tryz.prog 166 #[.int .i64 n] w fun e w'=>e=.returned (.tuple #[.int .i64 (DistCodeOf n).1,.int .i64 (DistCodeOf n).2.1,.int .i64 (DistCodeOf n).2.2])∧Below w.heap.size w w'
end
section
open Go.RowKit Go.Joins OutMath StepMath
theorem isDist_any (x:Int) (w:World):
  Calls Tryz.prog 193 #[.int .i64 x] w fun e w'=>e=.returned (.bool (decide (1≤x∧x≤32768)))∧w'=w:=by
 by_cases h:1≤x
 ·have d:decide ((1:Int)≤x)=true:=decide_eq_true h
  have d2:decide ((1:Int)≤x∧x≤32768)=decide (x≤32768):=by simp [h]
  rw[d2]
  clear d2
  go_enter Tryz.func193,Tryz.ntmps193
  go_wp2_with fail
  go_ret
  exact⟨rfl,rfl⟩
 ·have d:decide ((1:Int)≤x)=false:=decide_eq_false h
  have d2:decide ((1:Int)≤x∧x≤32768)=false:=decide_eq_false (fun q=>h q.1)
  rw[d2]
  clear d2
  go_enter Tryz.func193,Tryz.ntmps193
  go_wp2_with fail
  go_ret
  exact⟨rfl,rfl⟩
theorem isDist_yes (x:Int) (w:World) (h:1≤x∧x≤32768):
  Calls Tryz.prog 193 #[.int .i64 x] w fun e w'=>e=.returned (.bool true)∧w'=w:=by
 have:=isDist_any x w
 rwa [decide_eq_true h] at this
theorem isDist_no (x:Int) (w:World) (h:¬ (1≤x∧x≤32768)):
  Calls Tryz.prog 193 #[.int .i64 x] w fun e w'=>e=.returned (.bool false)∧w'=w:=by
 have:=isDist_any x w
 rwa [decide_eq_false h] at this
set_option maxHeartbeats 800000 in
theorem distCode_answer:DistCodeAnswer:=by
 intro n w _
 by_cases h:1≤n∧n≤32768
 ·obtain⟨h3,h258⟩:=h
  obtain⟨m,rfl⟩:∃ m:Nat,n=(m:Int)+1:=⟨(n - 1).toNat,by omega⟩
  unfold DistCodeOf
  rw[if_pos ⟨h3,h258⟩,show ((m:Int)+1).toNat=m+1 by omega]
  have hl:=dist_sym (n:=m) (by omega)
  have hs:=fun w=>symbolOf_any 1 m w (by omega) (by omega) hl.2
  rw[hl.1]
  have hB:=hl.2
  clear hl
  obtain⟨c,hc⟩:∃ c,c=Lib.bitLen m - 2:=⟨_,rfl⟩
  simp only [show 1+1=2 from rfl,← hc] at hs
  rw[← hc]
  have hq2:(((c * 2 ^ 1+m / 2 ^ c:Nat):Int)=((c * 2+m / 2 ^ c:Nat):Int)):=rfl
  rw[hq2] at hs
  clear hc hB hq2
  generalize c * 2+m / 2 ^ c=q at *
  generalize m % 2 ^ c=r at *
  go_enter Tryz.func166,Tryz.ntmps166
  go_wp2_with fail
  refine (isDist_yes _ _ (by omega)).mono ?_
  rintro e w' ⟨rfl,rfl⟩
  go_wp2_with fail
  refine (hs _).mono ?_
  rintro e w1 ⟨rfl,hB1⟩
  have HB:=hid_of hB1
  clear hB1 hs
  go_wp2_with fail
  go_ret3
  exact⟨rfl,HB.out⟩
 ·unfold DistCodeOf
  rw[if_neg h]
  go_enter Tryz.func166,Tryz.ntmps166
  go_wp2_with fail
  refine (isDist_no _ _ h).mono ?_
  rintro e w' ⟨rfl,rfl⟩
  go_wp2_with fail
  go_ret3
  exact⟨rfl,Below.refl _ _⟩
end
end Go.Proofs.YtklpiihnbokkkaaGreatDoor
