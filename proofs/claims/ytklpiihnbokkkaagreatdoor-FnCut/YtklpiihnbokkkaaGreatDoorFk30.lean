/-
  Texts of the proof, put together.
-/
import Derived.Test.YtklpiihnbokkkaaGreatDoorFk29
import Derived.Deep.CutRange
namespace Go.Proofs.YtklpiihnbokkkaaGreatDoor
section
open Go.RowKit Go.Joins OutMath PutMath BlockMath PartMath
theorem i64_and7 (x:Int):bits .and .i64 x 7=x % 8:=by
 have h2:(BitVec.ofInt 64 (7:Int)).toNat=7:=by decide +kernel
 have h1:(BitVec.ofInt 64 x).toNat=(x % 18446744073709551616).toNat:=by
  rw[BitVec.toNat_ofInt]
  rfl
 show IntKind.i64.wrap ((BitVec.ofInt 64 x &&& BitVec.ofInt 64 (7:Int)).toNat:Int)=_
 rw[BitVec.toNat_and,h1,h2,IntKind.wrap_i64]
 have h3:=Nat.and_two_pow_sub_one_eq_mod (x % 18446744073709551616).toNat 3
 rw[show 2 ^ 3 - 1=7 from rfl,show 2 ^ 3=8 from rfl] at h3
 rw[h3]
 omega
theorem info_part:(Tryz.prog.info? 115).map (fun i=>(i.zero,i.size,i.bytes))=some (some (.agg #[.int .i64 0,.int .i64 0,.bool false]),3,24):=by kernel_rfl
def storedHead (c:Int) (t:ByteArray) (last:Bool):List Part:=[headP 0 last,(0,((-(c+3)) % 8).toNat,false),((t.size:Int),16,false),(65535 - (t.size:Int),16,false)]
def byteParts (l:List Int):List Part:=l.map fun y=>(y,8,false)
theorem byteParts_bits:∀ l:List Int,partBits (byteParts l)=byteBits l
 | []=>rfl
 | y :: l=>by
  show bitsP (y,8,false) ++ partBits (byteParts l)=pieceBits y 8 false ++ byteBits l
  rw[byteParts_bits l]
  rfl
theorem zero_bits (n:Nat):bitsP (0,n,false)=List.replicate n 0:=by
 refine List.eq_replicate_iff.mpr ⟨bitsP_length _,fun b hb=>?_⟩
 obtain⟨k,_,rfl⟩:=List.mem_map.mp hb
 simp[bitOf]
theorem stored_bits (k:Nat) (t:ByteArray) (last:Bool):partBits (storedHead k t last ++ byteParts (numsOf t))=headBits 0 last ++ storedBits (k+3) t:=by
 rw[partBits_app,byteParts_bits]
 show (bitsP (headP 0 last) ++ (bitsP (0,_,false) ++ (bitsP ((t.size:Int),16,false) ++ (bitsP (65535 - (t.size:Int),16,false) ++ [])))) ++ _=_
 rw[headP_bits (by omega),zero_bits]
 unfold storedBits fillBits
 rw[show ((-((k:Int)+3)) % 8).toNat=(8 - (k+3) % 8) % 8 by omega]
 simp only [List.append_assoc,List.append_nil]
 rfl
theorem stored_right (c:Int) (t:ByteArray) (last:Bool) (ht:t.size≤2600):∀ p∈storedHead c t last ++ byteParts (numsOf t),Right p:=by
 intro p hp
 rcases List.mem_append.mp hp with hp | hp
 ·unfold storedHead at hp
  simp only [List.mem_cons,List.not_mem_nil,or_false] at hp
  rcases hp with rfl | rfl | rfl | rfl
  ·exact headP_right (by omega) last
  ·refine⟨by simp,by simp,?_⟩
   show ((-(c+3)) % 8).toNat≤24
   omega
  ·refine⟨?_,?_,?_⟩ <;> simp only [] <;> omega
  ·refine⟨?_,?_,?_⟩ <;> simp only [] <;> omega
 ·obtain⟨y,hy,rfl⟩:=List.mem_map.mp hp
  obtain⟨b,_,rfl⟩:=List.mem_map.mp hy
  have:=UInt8.toNat_lt b
  refine⟨?_,?_,?_⟩ <;> simp only [] <;> omega
theorem bytes_take {t:ByteArray} {j:Nat} (h:j < t.size):byteParts ((numsOf t).take (j+1))=byteParts ((numsOf t).take j) ++ [(((t[j]'h).toNat:Int),8,false)]:=by
 have h1:(numsOf t)[j]?=some ((t[j]'h).toNat:Int):=by
  unfold numsOf
  rw[List.getElem?_map,Array.getElem?_toList,Array.getElem?_eq_getElem (show j < t.data.size from h)]
  rfl
 unfold byteParts
 rw[List.take_add_one,h1,List.map_append]
 rfl
theorem own_slice {w:World} {e:TypeId} {S m n:Nat} {v:Value} {L:List Value} (h:w.ownsRow S e m v n L) (hn:0 < n):∃ g cap,v=.slice (some ⟨g,0,none⟩) n cap:=by
 rcases h.2 with ⟨_,h0⟩ | ⟨g,cap,cur,rfl,_⟩
 ·omega
 ·exact⟨g,cap,rfl⟩
def StW (w X:World) (s:ByteArray) (c:Int) (L:List Part) (v:Value):Prop:=SBx w X s c∧X.ownsRow (w.heap.size+2) 115 3 v L.length (pcells L)
set_option maxRecDepth 100000 in
set_option maxHeartbeats 3200000 in
theorem stored_good (s:ByteArray) (c:Int) (t:ByteArray) (last:Bool) (w:World) (hs:s.size≤1048576) (hc1:-9223372036854775808≤c) (hc2:c≤9223372036854775807) (ht:t.size≤2600):
  Calls Tryz.prog 50 #[.agg #[.string s,.int .i64 c],.string t,.bool last] w fun e w'=>e=.returned (blkAns ((outSt s c).bind fun o=>bitsOut o (partBits (storedHead c t last ++ byteParts (numsOf t)))))∧Below w.heap.size w w':=by
 have dt:decide ((2600:Int) < (t.size:Int))=false:=decide_eq_false (by omega)
 have dt':decide (2600 < t.size)=false:=decide_eq_false (by omega)
 have HX:=hid_of (SBx.start w s c)
 go_enter Tryz.func50,Tryz.ntmps50
 go_wp2_with fail
 generalize (w.alloc _).alloc _=X at HX ⊢
 go_cut [8] from 14 to 29 (fun v wx=>Hid (SBx w wx s c)∧∃ g,v=.slice (some ⟨g,0,none⟩) 4 4∧Hid (wx.ownsRow (w.heap.size+2) 115 3 v 4 (pcells (storedHead c t last))))
 case first=>
  obtain⟨x0,x1,xl⟩:=HX.out.cells
  have e7:Hid (bits BinOp.and IntKind.i64 (IntKind.i64.wrap (-IntKind.i64.wrap (c+3))) 7=(((-(c+3)) % 8).toNat:Int)):=by
   show _=_
   rw[i64_and7,IntKind.wrap_i64,IntKind.wrap_i64]
   omega
  have e8:Hid (IntKind.i64.wrap (65535 - (t.size:Int))=65535 - (t.size:Int)):=by show _=_; rw [IntKind.wrap_i64]; omega
  have HP:Hid ((pcells (storedHead c t last)).toArray=#[.int .i64 (headP 0 last).1,.int .i64 3,.bool false,.int .i64 0,.int .i64 (((-(c+3)) % 8).toNat:Int),.bool false,.int .i64 (t.size:Int),.int .i64 16,.bool false,.int .i64 (65535 - (t.size:Int)),.int .i64 16,.bool false]):=rfl
  go_region_with (first | (go_at_call 75; refine (headPart_any 0 last _ (by omega)).mono ?_; rintro e w' ⟨rfl,hB⟩; have HY:=hid_of ((by first | exact HX.out | exact HX.out.drew:SBx w _ s c).called hB); clear HX hB x0 x1 xl; have HX:=HY; clear HY; obtain⟨x0,x1,xl⟩:=HX.out.cells) | (go_at_call 76; refine (numberPart_any _ _ _).mono ?_; rintro e w' ⟨rfl,hB⟩; have HY:=hid_of ((by first | exact HX.out | exact HX.out.drew:SBx w _ s c).called hB); clear HX hB x0 x1 xl; have HX:=HY; clear HY; obtain⟨x0,x1,xl⟩:=HX.out.cells))
  all_goals
   go_wp2_with fail
   go_meet
   case rel=>
    rw[e7.out,e8.out]
    exact⟨HX.out.called (bstart _ _),_,rfl,by have:=own_lit w' 115 (w.heap.size+2) (by have:=HX.out.res.2.2.2; omega) (storedHead c t last) (by simp [storedHead]); rw [HP.out] at this; exact this⟩
 case rest=>
  obtain⟨hX,g,rfl,hO⟩:=hcut
  clear HX X
  have HX:=hX
  have H0:Hid (StW w wc s c (storedHead c t last) (.slice (some ⟨g,0,none⟩) 4 4)):=⟨hX.out,hO.out⟩
  clear hX hO
  go_wp2_with fail
  go_loopg [8,32] (t.size+1) (fun gk v i w'=>∃ (j g1 c1:Nat),j≤t.size∧t.size - j≤gk∧i=.int .i64 j∧v=.slice (some ⟨g1,0,none⟩) (4+j) c1∧Hid (StW w w' s c (storedHead c t last ++ byteParts ((numsOf t).take j)) (.slice (some ⟨g1,0,none⟩) (4+j) c1)))
  case atStart=>exact⟨0,g,4,Nat.zero_le _,by omega,rfl,rfl,by simpa [byteParts] using H0⟩
  case round=>
   obtain⟨j,g1,cp1,hj,hgk,rfl,rfl,hS⟩:=hrel
   by_cases hlt:j < t.size
   ·have dl:decide ((j:Int) < (t.size:Int))=true:=decide_eq_true (by omega)
    have b0:(0:Int)≤(j:Int):=by omega
    have b1:(j:Int) < (t.size:Int):=by omega
    have HT:=hid_of (bytes_take hlt)
    have hw:wrap64 ((t[j]'hlt).toNat:Int)=((t[j]'hlt).toNat:Int):=by have:=UInt8.toNat_lt (t[j]'hlt); unfold wrap64; omega
    have hl:(storedHead c t last ++ byteParts ((numsOf t).take j)).length=4+j:=by simp [storedHead,byteParts,numsOf_length]; omega
    have HL:=hid_of hl
    clear hl
    go_wp2_with fail
    refine (numberPart_any _ _ _).mono ?_
    rintro e w' ⟨rfl,hB⟩
    have HS:Hid (StW w w' s c (storedHead c t last ++ byteParts ((numsOf t).take j)) (.slice (some ⟨g1,0,none⟩) (4+j) cp1)):=⟨hS.out.1.called hB,row_called hS.out.2 hB⟩
    clear hB hS
    go_wp2_with (at_builtin; refine parts_append Tryz.underlying118 info_part (S:=w.heap.size+2) (xs:=storedHead c t last ++ byteParts ((numsOf t).take j)) (ys:=[(((t[j]'hlt).toNat:Int),8,false)]) rfl _ _ rfl rfl (World.ownsRow.alloc HS.out.2 _) ⟨w'.heap.size,0,none⟩ 1 1 rfl rfl (news_part w' _ _ _ _ _ rfl) (by rw [HL.out]; simp only [List.length_singleton]; omega) (by have:=HS.out.1.res.2.2.2; simp; omega) ?_)
    intro v' w5 y1 y2 y3
    have y4:w5.ownsRow (w.heap.size+2) 115 3 v' (storedHead c t last ++ byteParts ((numsOf t).take (j+1))).length (pcells (storedHead c t last ++ byteParts ((numsOf t).take (j+1)))):=by
     rw[HT.out]
     simpa using y1
    have hl2:(storedHead c t last ++ byteParts ((numsOf t).take (j+1))).length=4+(j+1):=by simp [storedHead,byteParts,numsOf_length]; omega
    have hX5:SBx w w5 s c:=(HS.out.1.called (bstart w' (.cells #[.int .i64 ((t[j]'hlt).toNat:Int),.int .i64 8,.bool false] 115))).grown y2 (HS.out.2.lt g1 rfl).1
    obtain⟨g5,cp5,rfl⟩:=own_slice y4 (by omega)
    rw[hl2]
    have HN:Hid (StW w w5 s c (storedHead c t last ++ byteParts ((numsOf t).take (j+1))) (.slice (some ⟨g5,0,none⟩) (4+(j+1)) cp5)):=⟨hX5,by rw [hl2] at y4; rw [hl2]; exact y4⟩
    clear y1 y2 y3 y4 hX5 hl2
    go_wp2_with fail
    go_roundg (t.size - (j+1))
    case measure=>omega
    case rel=>exact⟨j+1,g5,cp5,by omega,Nat.le_refl _,by go_num,rfl,HN⟩
   ·obtain rfl:j=t.size:=by omega
    have dl:decide ((t.size:Int) < (t.size:Int))=false:=decide_eq_false (by omega)
    obtain⟨x0,x1,xl⟩:=hS.out.1.cells
    have hl:(storedHead c t last ++ byteParts (numsOf t)).length=4+t.size:=by simp [storedHead,byteParts,numsOf_length]; omega
    have hfull:(numsOf t).take t.size=numsOf t:=by rw [← numsOf_length,List.take_length]
    rw[hfull] at hS
    obtain⟨a2,c2,hv,_,_,_,hPC,_⟩:=pcame_of_own hS.out.2 rfl
    rw[hl] at hv
    cases hv
    have hW:=withParts_any s c _ cp1 _ wr hPC (stored_right c t last ht) (by rw [hl]; omega) (by unfold maxLen; omega) hc1 hc2
    rw[hl] at hW
    have HX:=hid_of hS.out.1
    clear hPC hS hl hfull
    go_wp2_with fail
    refine hW.mono ?_
    rintro e w5 ⟨rfl,hB⟩
    clear hW
    obtain⟨z0,z1,zf,zl⟩:=(HX.out.called hB).res
    have HBB:Hid (Below w.heap.size w w5):=(HX.out.called hB).1
    clear hB
    obtain⟨tt,n,b,he⟩:=blkAns_form ((outSt s c).bind fun o=>bitsOut o (partBits (storedHead c t last ++ byteParts (numsOf t))))
    rw[he]
    go_wp2_with fail
    refine bodyPost_ret (v:=.tuple #[.agg #[.string tt,.int .i64 n],.bool b]) ?_ rfl ⟨by rw [he],?_⟩
    ·simp[results,Tryz.results50,go_sem,z0,z1]
    ·exact two_below HBB.out (Nat.le_succ _) _ _
set_option maxHeartbeats 800000 in
theorem stored_answer:StoredAnswer:=by
 intro s c t last w hs hc1 hc2 ht
 by_cases h:t.size≤2600
 ·have hg:=stored_good s c t last w hs hc1 hc2 h
  have e:storedOut s c t last=(outSt s c).bind fun o=>bitsOut o (partBits (storedHead c t last ++ byteParts (numsOf t))):=by
   unfold storedOut
   rw[if_pos h]
   unfold outSt
   split
   ·rename_i hb
    have hf:=fits_of_outB s c hb
    obtain⟨k,rfl⟩:=Int.eq_ofNat_of_zero_le hf.2.1
    show bitsOut _ _=bitsOut _ _
    rw[stored_bits]
    rfl
   ·rfl
  rw[e]
  exact hg
 ·have dt:decide ((2600:Int) < (t.size:Int))=true:=decide_eq_true (by omega)
  have dt':decide (2600 < t.size)=true:=decide_eq_true (by omega)
  have e:storedOut s c t last=none:=if_neg h
  rw[e]
  have HX:=hid_of (SBx.start w s c)
  go_enter Tryz.func50,Tryz.ntmps50
  go_wp2_with fail
  generalize (w.alloc _).alloc _=X at HX ⊢
  obtain⟨z0,z1,zf,zl⟩:=HX.out.res
  refine bodyPost_ret (v:=.tuple #[.agg #[.string ⟨#[]⟩,.int .i64 0],.bool false]) ?_ rfl ⟨rfl,?_⟩
  ·simp[results,Tryz.results50,go_sem,z0,z1]
  ·exact HX.out.1
end
section
open Go.RowKit Go.Joins
theorem sl_of_num {w:World} {S:Nat} {a:Option Addr} {n c:Nat} {O:List Int} (h:NumRow w S (.slice a n c) O) (hn:n=O.length):SL w S a n c (fun j=>O.getD j 0):=by
 rcases Nat.eq_zero_or_pos n with h0 | h0
 ·exact .inl h0
 ·obtain⟨g,_,ho⟩:=own_of_ownsRow h (by omega)
  obtain⟨cap,e⟩:=ho.form
  obtain⟨e1,e2,e3⟩:=Value.slice.inj e
  subst e1 e3
  have e4:fints (fun j=>O.getD j 0) n=ivals O:=by
   refine List.ext_getElem? (fun i=>?_)
   rcases Nat.lt_or_ge i O.length with q | q
   ·rw[ivals_get O i q,List.getElem?_eq_getElem (by rw [fints_length]; omega),fints_get]
   ·rw[List.getElem?_eq_none (by rw [fints_length]; omega),List.getElem?_eq_none (by rw [ivals_length]; exact q)]
  refine .inr ⟨g,rfl,?_⟩
  unfold IOwn
  rw[e4]
  exact ho
end
section
open Go.RowKit Go.Joins TokMath
def pieceV (t:Tok):Value:=if TokRight t then (if t.2.1=0 then .iface 234 (.int .u8 t.1) else .iface 237 (.agg #[.int .i64 t.2.1,.int .i64 t.2.2])) else .nilIface
theorem piece_byte {x:Int} (h0:0≤x) (h1:x≤255):pieceV (x,0,0)=.iface 234 (.int .u8 x):=by
 unfold pieceV
 rw[if_pos (show TokRight (x,0,0) from ⟨⟨h0,h1⟩,rfl⟩),if_pos rfl]
theorem piece_repeat {y z:Int} (hy:3≤y∧y≤258) (hz:1≤z∧z≤32768):pieceV (0,y,z)=.iface 237 (.agg #[.int .i64 y,.int .i64 z]):=by
 have hn:¬ y=0:=by omega
 unfold pieceV
 rw[if_pos (show TokRight (0,y,z) by unfold TokRight; rw [if_neg hn]; exact⟨rfl,hy,hz⟩),if_neg hn]
theorem piece_none {t:Tok} (h:¬ TokRight t):pieceV t=.nilIface:=by
 unfold pieceV
 rw[if_neg h]
set_option maxHeartbeats 1600000 in
theorem pieceOf_any (x y z:Int) (w:World):
  Calls Tryz.prog 163 #[.agg #[.int .i64 x,.int .i64 y,.int .i64 z]] w fun e w'=>e=.returned (pieceV (x,y,z))∧Below w.heap.size w w':=by
 have HB:=hid_of (bstart w (.cells #[.int .i64 x,.int .i64 y,.int .i64 z] 105))
 by_cases hy:y=0
 ·subst hy
  by_cases hz:z=0
  ·subst hz
   by_cases hx:0≤x∧x≤255
   ·have d0:decide ((0:Int)≤x)=true:=decide_eq_true hx.1
    have d1:decide (x≤255)=true:=decide_eq_true hx.2
    have hx0:=hx.1
    have hx1:=hx.2
    rw[piece_byte hx.1 hx.2]
    clear hx
    go_enter Tryz.func163,Tryz.ntmps163
    go_wp2_with fail
    go_ret
    exact⟨rfl,HB.out⟩
   ·have hn:¬ TokRight (x,0,0):=fun h=>hx h.1
    have d2:(x == 0)=false:=by
     simp
     omega
    rw[piece_none hn]
    by_cases hx0:0≤x
    ·have d0:decide ((0:Int)≤x)=true:=decide_eq_true hx0
     have d1:decide (x≤255)=false:=decide_eq_false (by omega)
     go_enter Tryz.func163,Tryz.ntmps163
     go_wp2_with fail
     go_ret
     exact⟨rfl,HB.out⟩
    ·have d0:decide ((0:Int)≤x)=false:=decide_eq_false hx0
     go_enter Tryz.func163,Tryz.ntmps163
     go_wp2_with fail
     go_ret
     exact⟨rfl,HB.out⟩
  ·have hn:¬ TokRight (x,0,z):=fun h=>hz h.2
   have dz:(z == 0)=false:=by
    simp
    omega
   rw[piece_none hn]
   by_cases hx:x=0
   ·subst hx
    have dn:=fun w=>isLength_no 0 w (by omega)
    go_enter Tryz.func163,Tryz.ntmps163
    go_wp2_with fail
    refine (dn _).mono ?_
    rintro e w1 ⟨rfl,rfl⟩
    go_wp2_with fail
    go_ret
    exact⟨rfl,HB.out⟩
   ·have dx:(x == 0)=false:=by
     simp
     omega
    go_enter Tryz.func163,Tryz.ntmps163
    go_wp2_with fail
    go_ret
    exact⟨rfl,HB.out⟩
 ·have dy:(y == 0)=false:=by
   simp
   omega
  by_cases hx:x=0
  ·subst hx
   by_cases h1:3≤y∧y≤258
   ·have dl:=fun w=>isLength_yes y w h1
    by_cases h2:1≤z∧z≤32768
    ·have dd:=fun w=>isDist_yes z w h2
     rw[piece_repeat h1 h2]
     go_enter Tryz.func163,Tryz.ntmps163
     go_wp2_with fail
     refine (dl _).mono ?_
     rintro e w1 ⟨rfl,rfl⟩
     go_wp2_with fail
     refine (dd _).mono ?_
     rintro e w2 ⟨rfl,rfl⟩
     go_wp2_with fail
     go_ret
     exact⟨rfl,HB.out⟩
    ·have dd:=fun w=>isDist_no z w h2
     have hn:¬ TokRight (0,y,z):=fun h=>by
      unfold TokRight at h
      rw[if_neg hy] at h
      exact h2 h.2.2
     rw[piece_none hn]
     go_enter Tryz.func163,Tryz.ntmps163
     go_wp2_with fail
     refine (dl _).mono ?_
     rintro e w1 ⟨rfl,rfl⟩
     go_wp2_with fail
     refine (dd _).mono ?_
     rintro e w2 ⟨rfl,rfl⟩
     go_wp2_with fail
     go_ret
     exact⟨rfl,HB.out⟩
   ·have dl:=fun w=>isLength_no y w h1
    have hn:¬ TokRight (0,y,z):=fun h=>by
     unfold TokRight at h
     rw[if_neg hy] at h
     exact h1 h.2.1
    rw[piece_none hn]
    go_enter Tryz.func163,Tryz.ntmps163
    go_wp2_with fail
    refine (dl _).mono ?_
    rintro e w1 ⟨rfl,rfl⟩
    go_wp2_with fail
    go_ret
    exact⟨rfl,HB.out⟩
  ·have dx:(x == 0)=false:=by
    simp
    omega
   have hn:¬ TokRight (x,y,z):=fun h=>by
    unfold TokRight at h
    rw[if_neg hy] at h
    exact hx h.1
   rw[piece_none hn]
   go_enter Tryz.func163,Tryz.ntmps163
   go_wp2_with fail
   go_ret
   exact⟨rfl,HB.out⟩
end
section
open Go.RowKit Go.Joins TokMath StepMath TellMath
theorem wf_small (x:Int) (h0:-9223372036854775808≤x) (h1:x≤9223372036854775807):(Lit.int .i64 x).wf=true:=by
 show (decide (IntKind.i64.min≤x) && decide (x≤IntKind.i64.max))=true
 rw[show IntKind.i64.min=-9223372036854775808 from rfl,show IntKind.i64.max=9223372036854775807 from rfl,decide_eq_true h0,decide_eq_true h1]
 rfl
def codV (s:Cod):Value:=.agg #[.int .i64 s.1,.int .i64 s.2.1,.int .i64 s.2.2]
set_option maxHeartbeats 400000 in
theorem newCoded_any (x y z:Int) (w:World):
  Calls Tryz.prog 164 #[.int .i64 x,.int .i64 y,.int .i64 z] w fun e w'=>e=.returned (codV (x,y,z))∧Below w.heap.size w w':=by
 go_enter Tryz.func164,Tryz.ntmps164
 go_wp2_with fail
 refine bodyPost_ret (v:=codV (x,y,z)) ?_ rfl ⟨rfl,?_⟩
 ·simp[results,Tryz.results164,go_sem,codV]
 ·exact bstart _ _
structure Stays (w0:World) (I:World→List (Bool×Cod)→Prop) (T:World→Nat→Prop):Prop where
 called:∀ {w w' S},I w S→Below w.heap.size w w'→I w' S∧∀ g,T w' g→T w g
 lt:∀ {w S g},I w S→T w g→g < w.heap.size
 below:∀ {w S},I w S→Below w0.heap.size w0 w
end
section
open Go.RowKit Go.Joins CodeMath
def CodesAnswer : Prop := ∀ (a : Option Addr) (n cap : Nat) (f : Nat → Int) (w : World), Came w a n f → n ≤ 1048576 → (∀ i, i < n → (Lit.int .i64 (f i)).wf = true) →
    (Coded f n → Calls Tryz.prog 167 #[.slice a n cap] w fun e w' => ∃ (a' : Option Addr) (cap' : Nat), e = .returned (.tuple #[.slice a' n cap', .bool true]) ∧ SL w' w.heap.size a' n cap' (codeOf f n) ∧ Below w.heap.size w w') ∧
    (¬ Coded f n → Calls Tryz.prog 167 #[.slice a n cap] w fun e w' => ∃ (a' : Option Addr) (cap' : Nat), e = .returned (.tuple #[.slice a' 0 cap', .bool false]) ∧ Below w.heap.size w w')
end
section
open Go.RowKit Go.Joins OutMath CodeMath
theorem nextAt_here (f:Nat→Int) (n i m:Nat) (hm:1≤m) (e:f i=(m:Int)) (s:Nat):upd (nextAt f n i) m (nextAt f n i m+1) s=nextAt f n (i+1) s:=by
 unfold upd nextAt
 by_cases h:s=m
 ·subst h
  rw[if_pos rfl,if_neg (by omega),if_neg (by omega)]
  show _=_+(cntS f s i+(if f i=s then 1 else 0))
  rw[if_pos e]
  omega
 ·rw[if_neg h]
  by_cases h0:s=0
  ·rw[if_pos h0,if_pos h0]
  ·rw[if_neg h0,if_neg h0]
   show _=_+(cntS f s i+(if f i=s then 1 else 0))
   rw[if_neg (by omega)]
   omega
theorem nextAt_skip (f:Nat→Int) (n i:Nat) (e:f i=0) (s:Nat):nextAt f n i s=nextAt f n (i+1) s:=by
 unfold nextAt
 by_cases h0:s=0
 ·rw[if_pos h0,if_pos h0]
 ·rw[if_neg h0,if_neg h0]
  show _=_+(cntS f s i+(if f i=s then 1 else 0))
  rw[if_neg (by omega)]
  omega
theorem wrote_here (f:Nat→Int) (n i:Nat) (j:Nat):upd (wrote f n i) i (codeOf f n i) j=wrote f n (i+1) j:=by
 unfold upd wrote
 by_cases h:j=i
 ·rw[if_pos h,if_pos (by omega),h]
 ·rw[if_neg h]
  by_cases h2:j < i
  ·rw[if_pos h2,if_pos (by omega)]
  ·rw[if_neg h2,if_neg (by omega)]
theorem wrote_skip (f:Nat→Int) (n i:Nat) (e:f i=0) (j:Nat):wrote f n i j=wrote f n (i+1) j:=by
 rw[← wrote_here f n i j]
 unfold upd
 by_cases h:j=i
 ·rw[if_pos h]
  unfold wrote codeOf
  rw[if_neg (by omega),if_pos (by omega)]
 ·rw[if_neg h]
def CodSt (w w':World) (f:Nat→Int) (n bn gc i:Nat):Prop:=
 Six w' bn 251 (nextAt f n i)∧IOwn w' w.heap.size gc n n (wrote f n i)∧bn≠gc∧w.heap.size≤bn∧Below w.heap.size w w'
set_option maxHeartbeats 1600000 in
theorem implCodes_good (a:Option Addr) (n cap:Nat) (f:Nat→Int) (w:World) (hC:Came w a n f) (hG:Coded f n):
  Calls Tryz.prog 167 #[.slice a n cap] w fun e w'=>∃ g:Nat,e=.returned (.tuple #[.slice (some ⟨g,0,none⟩) n n,.bool true])∧IOwn w' w.heap.size g n n (codeOf f n)∧Below w.heap.size w w':=by
 have HC:Hid (Came w a n f):=hC
 have HG:Hid (Coded f n):=hG
 have hm:=hG.1
 have hrm:=hG.2.2
 have hr0:=(room_bd f n).1
 clear hC hG
 go_enter Tryz.func167,Tryz.ntmps167
 go_wp2_with fail
 refine (count_yes a n cap f _ HC.out hm HG.out.2.1).mono ?_
 rintro e w1 ⟨rfl,hb1⟩
 go_wp2_with fail
 refine (fullTo_any (cs f n) _ (fun s=>by have:=cs_bd f n s; omega)).mono ?_
 rintro e w2 ⟨rfl,hb2⟩
 rw[full_room f n HG.out.2.1]
 have hS:Six w2 w1.heap.size 252 (cs f n):=by
  show _=_
  rw[hb2.block _ (by simp)]
  exact heap_alloc_new w1 _
 have hB:Below w.heap.size w w2:=bnext (bal hb1 _) hb2
 have k1:=hS.c
 have hz:=hS.lt
 clear hb1 hb2 hS
 have dr:decide (32768 < room f n)=false:=by simp; omega
 go_wp2_with fail
 refine (first_any (cs f n) _ (fun s=>by have:=cs_bd f n s; omega)).mono ?_
 rintro e w3 ⟨rfl,hb3⟩
 have hB3:Below w.heap.size w w3:=bnext hB hb3
 have hs3:=hB3.size
 have hmk:=make_ints (w3.alloc (.cells (six (first (cs f n))) 251)) n (by omega)
 rw[show (w3.alloc (.cells (six (first (cs f n))) 251)).heap.size=w3.heap.size+1 by simp] at hmk
 have H0:Hid (CodSt w ((w3.alloc (.cells (six (first (cs f n))) 251)).alloc (.cells (madeCells #[Value.int .i64 0] n) 3)) f n w3.heap.size (w3.heap.size+1) 0):=by
  refine⟨?_,?_,by omega,hs3,bal (bal hB3 _) _⟩
  ·refine Six.congr (g:=first (cs f n)) ?_ (fun s _=>nextAt_start f n s)
   show _=_
   rw[Below.heap_alloc _ _ _ (by simp)]
   exact heap_alloc_new w3 _
  ·have k:=IOwn.made (base:=w.heap.size) (w3.alloc (.cells (six (first (cs f n))) 251)) n (by unfold maxLen; omega) (by simp; omega)
   rw[show (w3.alloc (.cells (six (first (cs f n))) 251)).heap.size=w3.heap.size+1 by simp] at k
   exact k.congr (fun i _=>by unfold wrote; rw [if_neg (by omega)])
 clear k1 hz hB hb3
 generalize hw5:(w3.alloc (.cells (six (first (cs f n))) 251)).alloc (.cells (madeCells #[Value.int .i64 0] n) 3)=w5 at hmk H0
 clear hw5
 go_wp2_with fail
 go_loopw [29] (fun i w'=>∃ j:Nat,j≤n∧i=.int .i64 j∧Hid (CodSt w w' f n w3.heap.size (w3.heap.size+1) j)) (fun i _=>n - (intOf i).toNat)
 case atStart=>exact⟨0,Nat.zero_le _,rfl,H0⟩
 case round=>
  clear H0 hmk
  obtain⟨j,hj,rfl,hS⟩:=hrel
  by_cases hlt:j < n
  ·rcases HC.out with h0 | ⟨g,off,rfl,hg,hc⟩
   ·omega
   ·have c0:wr.cell? ⟨g,off+j,none⟩=some (.int .i64 (f j)):=(hS.out.2.2.2.2.cell (p:=⟨g,off+j,none⟩) hg).trans (hc j hlt)
    have hl2:g < wr.heap.size:=Nat.lt_of_lt_of_le hg hS.out.2.2.2.2.size
    clear hc
    obtain⟨i0,i1⟩:=HG.out.2.1 j hlt
    by_cases hpos:0 < f j
    ·obtain⟨m,hmj⟩:=Int.eq_ofNat_of_zero_le i0
     have hnb:=nextAt_bd f n hm j hj m (by omega)
     have HCD:Hid (nextAt f n j m=codeOf f n j):=nextAt_code f n j m (by omega) hmj
     have c1:=hS.out.1.c m (by omega)
     have f1:=hS.out.1.f m
     have l1:=hS.out.1.lt
     have c2:=hS.out.2.1.cell j hlt
     have f2:=hS.out.2.1.free j hlt
     have l2:=hS.out.2.1.lt
     have HS1:Hid (CodSt w ((wr.setCell ⟨w3.heap.size+1,j,none⟩ (.int .i64 (nextAt f n j m))).setCell ⟨w3.heap.size,m,none⟩ (.int .i64 (nextAt f n j m+1))) f n w3.heap.size (w3.heap.size+1) (j+1)):=by
      have s1:Six (wr.setCell ⟨w3.heap.size+1,j,none⟩ (.int .i64 (nextAt f n j m))) w3.heap.size 251 (nextAt f n j):=by
       show _=_
       rw[Below.heap_setCell _ _ _ _ (show w3.heap.size≠w3.heap.size+1 by omega)]
       exact hS.out.1
      have s2:=(hS.out.2.1.set j hlt (nextAt f n j m)).congr (f':=wrote f n (j+1)) (fun i _=>by rw [HCD.out]; exact wrote_here f n j i)
      refine⟨(s1.set m _).congr (fun i _=>nextAt_here f n j m (by omega) hmj i),s2.keep (Below.heap_setCell _ _ _ _ (show w3.heap.size+1≠w3.heap.size by omega)),by omega,hs3,?_⟩
      exact Below.setCell (p:=⟨w3.heap.size,m,none⟩) (Below.setCell (p:=⟨w3.heap.size+1,j,none⟩) hS.out.2.2.2.2 (by simp; omega) _) (by simpa using hs3) _
     have hmp:(0:Int) < (m:Int):=by omega
     have hm15:(m:Int)≤15:=by omega
     rw[hmj] at c0
     clear hmj hpos i0 i1
     have d:decide ((0:Int) < (m:Int))=true:=by simpa using hmp
     go_wp2_with fail
     go_roundw
     case rel=>exact⟨j+1,by omega,by go_num,HS1⟩
     case measure=>simp [intOf]; omega
    ·have e0:f j=0:=by omega
     have HS1:Hid (CodSt w wr f n w3.heap.size (w3.heap.size+1) (j+1)):=⟨hS.out.1.congr (fun i _=>nextAt_skip f n j e0 i),hS.out.2.1.congr (fun i _=>wrote_skip f n j e0 i),hS.out.2.2⟩
     rw[e0] at c0
     go_wp2_with fail
     go_roundw
     case rel=>exact⟨j+1,by omega,by go_num,HS1⟩
     case measure=>simp [intOf]; omega
  ·obtain rfl:j=n:=by omega
   go_wp2_with fail
   go_ret2
   exact⟨w3.heap.size+1,rfl,hS.out.2.1.congr (fun i hi=>by unfold wrote; rw [if_pos hi]),hS.out.2.2.2.2⟩
set_option maxHeartbeats 800000 in
theorem implCodes_bad (a:Option Addr) (n cap:Nat) (f:Nat→Int) (w:World) (hC:Came w a n f) (hn:n≤1048576) (hf:∀ i,i < n→(Lit.int .i64 (f i)).wf=true) (hb:¬ Coded f n):
  Calls Tryz.prog 167 #[.slice a n cap] w fun e w'=>e=.returned (.tuple #[.slice none 0 0,.bool false])∧Below w.heap.size w w':=by
 have HC:Hid (Came w a n f):=hC
 have HB:Hid (¬ Coded f n):=hb
 have HF:Hid (∀ i,i < n→(Lit.int .i64 (f i)).wf=true):=hf
 clear hC hb hf
 by_cases hk:n≤288∧OkLens f n
 ·obtain⟨hm,hok⟩:=hk
  have HO:Hid (OkLens f n):=hok
  have hr:=(room_bd f n).2 hok
  have hq:32768 < room f n:=by
   by_cases h:32768 < room f n
   ·exact h
   ·exact absurd ⟨hm,hok,by omega⟩ HB.out
  clear hok
  go_enter Tryz.func167,Tryz.ntmps167
  go_wp2_with fail
  refine (count_yes a n cap f _ HC.out hm HO.out).mono ?_
  rintro e w1 ⟨rfl,hb1⟩
  go_wp2_with fail
  refine (fullTo_any (cs f n) _ (fun s=>by have:=cs_bd f n s; omega)).mono ?_
  rintro e w2 ⟨rfl,hb2⟩
  rw[full_room f n HO.out]
  have hB:Below w.heap.size w w2:=bnext (bal hb1 _) hb2
  clear hb1 hb2
  have dr:decide (32768 < room f n)=true:=by simpa using hq
  go_wp2_with fail
  go_ret2
  exact⟨rfl,hB⟩
 ·have HK:Hid (¬ (n≤288∧OkLens f n)):=hk
  clear hk
  go_enter Tryz.func167,Tryz.ntmps167
  go_wp2_with fail
  refine (count_no a n cap f _ HC.out hn HF.out HK.out).mono ?_
  rintro e w1 ⟨rfl,hb1⟩
  have hB:Below w.heap.size w (w1.alloc (.cells (six fun _=>0) 252)):=bal hb1 _
  go_wp2_with fail
  go_ret2
  exact⟨rfl,hB⟩
theorem codes_answer:CodesAnswer:=by
 intro a n cap f w hC hn hf
 refine⟨fun hG=>?_,fun hG=>?_⟩
 ·refine (implCodes_good a n cap f w hC hG).mono ?_
  rintro e w1 ⟨g,rfl,hO,hb⟩
  exact⟨_,_,rfl,hO.sl,hb⟩
 ·refine (implCodes_bad a n cap f w hC hn hf hG).mono ?_
  rintro e w1 ⟨rfl,hb⟩
  exact⟨_,_,rfl,hb⟩
end
end Go.Proofs.YtklpiihnbokkkaaGreatDoor
