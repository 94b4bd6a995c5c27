/-
  Texts of the proof, put together.
-/
import Derived.Test.YtklpiihnbokkkaaGreatDoorFk11
import Derived.Test.YtklpiihnbokkkaaGreatDoorFk09
namespace Go.Proofs.YtklpiihnbokkkaaGreatDoor
section
namespace StandMath
open OutMath CodeMath TakeMath HitMath WayMath StepMath TokMath InfMath PutMath RunsMath TokLenMath TrimMath BlockMath PartMath BodyMath PackageMath WovenMath DeflMath SearchMath CheapMath
theorem pre_nums (t:ByteArray):SearchMath.pre (txt t) t.size=numsOf t:=by
 refine List.ext_getElem (by rw [pre_length,numsOf_length]) fun i h1 h2=>?_
 rw[pre_length] at h1
 have h1':i < t.data.size:=h1
 simp[SearchMath.pre,numsOf,txt,Array.getElem?_eq_getElem h1']
def ReadsAll (d:ByteArray) (t:ByteArray) (p:Nat) (Ty:List Int):Prop:=(p+7) / 8=d.size∧d.size≤11000∧1≤p∧∀ (s:ByteArray) (most:Nat),d.size≤s.size→(∀ i,i < p→bit s i=bit d i)→s.size≤12000→t.size≤most→most≤12000→inflateE s most=.ok (numsOf t,p,Ty)
theorem reads_one {kind:Nat} {t:ByteArray} {L:List Tok} {o:ByteArray×Nat} (hk:kind≤2) (hR:TokensRight L) (hr:run [] L=some (numsOf t)) (ht:t.size≤2600) (hb:blkOut kind ⟨#[]⟩ 0 t L true=some o) (hz:o.2≤88000):ReadsAll o.1 t o.2 [(kind:Int)]:=by
 have hlen:1≤o.2:=by
  have hb':=hb
  rw[show (0:Int)=((0:Nat):Int) from rfl,blkOut_bits hk empty_ok hR (fun _=>ht)] at hb'
  have:=(bitsOut_right hb' ((headBits_01 _ _).append (blkBits_01 _ _ _ _))).2.1
  rw[List.length_append,headBits_length] at this
  omega
 have hout:outB o.1 o.2=true:=by
  have hb':=hb
  rw[show (0:Int)=((0:Nat):Int) from rfl,blkOut_bits hk empty_ok hR (fun _=>ht)] at hb'
  exact (bitsOut_right hb' ((headBits_01 _ _).append (blkBits_01 _ _ _ _))).1
 obtain⟨g1,g2,g3,g4⟩:=fits_of_outB _ _ hout
 refine⟨by omega,by omega,hlen,fun s most h1 h2 h3 h4 h5=>(whole_block hk hR hr ht hb s ⟨h1,h2⟩ h4 h5 h3).1⟩
theorem reads_best {t:ByteArray} {L:List Tok} (hR:TokensRight L) (hr:run [] L=some (numsOf t)) (ht:t.size≤2600):∃ p Ty,ReadsAll (blkS (bestOut ⟨#[]⟩ 0 t L true)) t p Ty:=by
 obtain⟨o,ho,hz,_,_⟩:=best_some (s:=⟨#[]⟩) (c:=0) (t:=t) L true empty_out ht (by omega)
 rw[show ((0:Nat):Int)=0 from rfl] at ho
 obtain⟨kind,hk,hb⟩:=best_kind ho
 rw[ho]
 exact⟨_,_,reads_one hk hR hr ht hb (by omega)⟩
theorem bits_many {t:ByteArray} {L:List Tok} (hz:sizeL L=t.size) (ht:t.size≤2600) (hn:L.length≤t.size) (hR:TokensRight L):∀ k,k≤partsN L→∀ o,partsSt t L k=some o→3 * k≤o.2
 | 0,_,o,_=>by omega
 | k+1,hk,o',h=>by
  obtain⟨o,h1,h2,_⟩:=parts_some hz ht hn k (by omega)
  have ih:=bits_many hz ht hn hR k (by omega) o h1
  have h':bestOut o.1 (o.2:Int) (t.extract (off L k) (off L (k+1))) (prt L k) (lastP L k)=some o':=by
   have h4:(partsSt t L k).bind (fun o=>bestOut o.1 (o.2:Int) (t.extract (off L k) (off L (k+1))) (prt L k) (lastP L k))=some o':=h
   rw[h1] at h4
   exact h4
  obtain⟨kind,hk2,hb⟩:=best_kind h'
  rw[blkOut_bits hk2 h2 (prt_right hR k) (fun _=>by rw [cut_size t (by have:=off_le L (k+1); omega)]; have:=off_le L (k+1); omega)] at hb
  have:=(bitsOut_right hb ((headBits_01 _ _).append (blkBits_01 _ _ _ _))).2.1
  rw[List.length_append,headBits_length] at this
  omega
theorem reads_parts {t:ByteArray} {L:List Tok} (hR:TokensRight L) (hr:run [] L=some (numsOf t)) (ht:t.size≤2600) (hn:L.length≤t.size) (hL:L≠[]) (hsz:(blkS (partsSt t L (partsN L))).size≤11000):∃ p Ty,ReadsAll (blkS (partsSt t L (partsN L))) t p Ty:=by
 have hz:sizeL L=t.size:=by
  have:=run_size hr
  rw[numsOf_length] at this
  simpa using this.symm
 have hpos:0 < L.length:=List.length_pos_iff.mpr hL
 obtain⟨k,hk⟩:∃ k,partsN L=k+1:=⟨partsN L - 1,by unfold partsN; omega⟩
 rw[hk] at hsz ⊢
 obtain⟨o,h1,h2,_⟩:=parts_some hz ht hn k (by omega)
 obtain⟨o',h3,_,_⟩:=parts_some hz ht hn (k+1) (by omega)
 obtain⟨_,Ty,hT⟩:=parts_reads hr hz ht hn hR k (by omega) o h1
 have h':bestOut o.1 (o.2:Int) (t.extract (off L k) (off L (k+1))) (prt L k) (lastP L k)=some o':=by
  have h4:(partsSt t L k).bind (fun o=>bestOut o.1 (o.2:Int) (t.extract (off L k) (off L (k+1))) (prt L k) (lastP L k))=some o':=h3
  rw[h1] at h4
  exact h4
 obtain⟨kind,hk2,hb⟩:=best_kind h'
 have hlast:lastP L k=true:=by
  unfold lastP
  unfold partsN at hk
  simp
  omega
 have hoff:off L (k+1)=t.size:=by rw [off_all (by unfold partsN at hk; omega),hz]
 have hM:(numsOf t).take (off L (k+1))=(numsOf t).take (off L k) ++ numsOf (t.extract (off L k) (off L (k+1))):=by
  rw[nums_cut]
  have:=off_next L k
  have e:(numsOf t).take (off L k)=((numsOf t).take (off L (k+1))).take (off L k):=by rw [List.take_take,Nat.min_eq_left (by omega)]
  rw[e,List.take_append_drop]
 have hall:(numsOf t).take (off L (k+1))=numsOf t:=List.take_of_length_le (by rw [hoff,numsOf_length]; exact Nat.le_refl _)
 obtain⟨r1,r2,r3⟩:=one_more (O:=(numsOf t).take (off L k)) (M:=numsOf (t.extract (off L k) (off L (k+1)))) hk2 h2 (prt_right hR k) (by rw [← hM]; exact part_next hr k) (nums_bytes _) (fun _=>by rw [numsOf_length,cut_size t (by have:=off_le L (k+1); omega)]; have:=off_le L (k+1); omega) (by rw [str_nums]; exact hb)
 rw[h3] at hsz ⊢
 obtain⟨g1,g2,g3,g4⟩:=fits_of_outB _ _ r1
 have hlen:1≤o'.2:=by
  have h0:=hT o'.1 12000 0 (r2 o'.1 ⟨Nat.le_refl _,fun _ _=>rfl⟩) (by omega)
  have hb':=hb
  rw[blkOut_bits hk2 h2 (prt_right hR k) (fun _=>by rw [cut_size t (by have:=off_le L (k+1); omega)]; have:=off_le L (k+1); omega)] at hb'
  have:=(bitsOut_right hb' ((headBits_01 _ _).append (blkBits_01 _ _ _ _))).2.1
  rw[List.length_append,headBits_length] at this
  omega
 refine⟨o'.2,Ty ++ [(kind:Int)],?_,hsz,hlen,fun s most q1 q2 q3 q4 q5=>?_⟩
 ·show (o'.2+7) / 8=o'.1.size
  omega
 ·have hs:Ext o' s:=⟨q1,q2⟩
  have q6:o'.1.size≤s.size:=q1
  have hlen2:((numsOf t).take (off L k) ++ numsOf (t.extract (off L k) (off L (k+1)))).length≤most:=by
   rw[← hM,hall,numsOf_length]
   exact q4
  unfold inflateE
  have hk8:k≤8 * s.size:=by
   have:partsN L≤44:=by unfold partsN; omega
   have hk3:3 * (k+1)≤o'.2:=bits_many hz ht hn hR (k+1) (by omega) o' h3
   omega
  rw[if_pos ⟨q3,by omega,by omega⟩,Int.toNat_natCast,show 8 * s.size+1=(8 * s.size - k+1)+k by omega,hT s most (8 * s.size - k+1) (r2 s hs) q4,r3 s most (8 * s.size - k) Ty hs hlen2,hlast,if_pos rfl,← hM,hall]
theorem right_of {t:ByteArray} {L:List Tok} (hr:run [] L=some (numsOf t)) (ht:t.size≤2600):TokensRight L:=by
 have h1:=run_right hr
 have h2:=run_size hr
 have h3:=sizeL_le h1
 rw[numsOf_length] at h2
 exact⟨by simp at h2; omega,h1⟩
theorem length_of {t:ByteArray} {L:List Tok} (hr:run [] L=some (numsOf t)):L.length≤t.size:=by
 have h1:=run_right hr
 have h2:=run_size hr
 have h3:=sizeL_le h1
 rw[numsOf_length] at h2
 simp at h2
 omega
theorem defl_reads (t:ByteArray) (lv:Nat) (ht:t.size≤2600):∃ p Ty,ReadsAll (deflT t lv) t p Ty:=by
 have rg:run [] (greedyL t 4)=some (numsOf t):=by rw [← pre_nums]; exact way_all (txt_lt t) (by omega) (fun i _=>greedy_fine _ _ _ i)
 have rl:run [] (lazyL t 16)=some (numsOf t):=by rw [← pre_nums]; exact way_all (txt_lt t) (by omega) (fun i _=>lazy_fine _ _ _ i)
 have rc:run [] (cheapL t 64)=some (numsOf t):=by rw [← pre_nums]; exact way_all (txt_lt t) (by omega) (fun i hi=>take_fine hi)
 unfold deflT
 split
 ·obtain⟨o,ho,hz,_⟩:=stored_some (s:=⟨#[]⟩) (c:=0) (t:=t) true empty_out ht (by omega)
  rw[show ((0:Nat):Int)=0 from rfl] at ho
  rw[ho]
  exact⟨_,_,reads_one (kind:=0) (L:=greedyL t 4) (by omega) (right_of rg ht) rg ht ho (by omega)⟩
 ·split
  ·have hl:=length_of rg
   obtain⟨o,ho⟩:=fixed_some (L:=greedyL t 4) true (right_of rg ht).2 (by omega)
   rw[ho]
   refine⟨_,_,reads_one (kind:=1) (L:=greedyL t 4) (by omega) (right_of rg ht) rg ht ho ?_⟩
   have hb:blkOut 1 ⟨#[]⟩ ((0:Nat):Int) t (greedyL t 4) true=some o:=ho
   rw[blkOut_bits (by omega) empty_ok (right_of rg ht) (fun h=>by omega)] at hb
   have h2:=(bitsOut_right hb ((headBits_01 _ _).append (blkBits_01 _ _ _ _))).2.1
   rw[List.length_append,headBits_length] at h2
   have h3:(blkBits 1 (0+3) t (greedyL t 4)).length≤32 * (greedyL t 4).length+9:=by
    show (partBits (toksP fixed1 288 fixed2 32 (greedyL t 4) ++ [codeP fixed1 288 256])).length≤_
    have q1:=toks_bits (greedyL t 4)
    have q2:(partBits [codeP fixed1 288 256]).length≤9:=by
     rw[partBits_one,bitsP_length]
     exact fixed1_le 256
    rw[partBits_app,List.length_append]
    omega
   omega
  ·split
   ·exact reads_best (right_of rl ht) rl ht
   ·unfold packC
    by_cases hne:cheapL t 64=[]
    ·rw[if_pos hne]
     unfold shorter
     rw[if_neg (Nat.lt_irrefl _)]
     exact reads_best (right_of rc ht) rc ht
    ·rw[if_neg hne]
     unfold shorter
     split
     ·rename_i hlt
      obtain⟨o,ho,hz,hr,_⟩:=best_some (s:=⟨#[]⟩) (c:=0) (t:=t) (cheapL t 64) true empty_out ht (by omega)
      rw[show ((0:Nat):Int)=0 from rfl] at ho
      rw[ho] at hlt
      obtain⟨_,_,_,hfo⟩:=fits_of_outB _ _ hr
      have hlt':(blkS (partsSt t (cheapL t 64) (partsN (cheapL t 64)))).size < o.1.size:=hlt
      exact reads_parts (right_of rc ht) rc ht (length_of rc) hne (by omega)
     ·exact reads_best (right_of rc ht) rc ht
end StandMath
end
section
open Go.RowKit OutMath TakeMath BigMath BigTextMath BlockMath InfMath StandMath
theorem ba_ext {a b:ByteArray} (h:a.data.toList=b.data.toList):a=b:=by
 obtain⟨x⟩:=a
 obtain⟨y⟩:=b
 congr 1
 exact Array.ext' h
theorem ba_app (a b:ByteArray):(a ++ b).data.toList=a.data.toList ++ b.data.toList:=by
 obtain⟨x⟩:=a
 obtain⟨y⟩:=b
 show (ByteArray.mk x ++ ByteArray.mk y).data.toList=_
 simp
theorem ba_cut (a:ByteArray) (i j:Nat):(a.extract i j).data.toList=(a.data.toList.drop i).take (j - i):=by
 rw[ByteArray.data_extract,Array.toList_extract,List.extract_eq_take_drop]
theorem ba_len (a:ByteArray):a.data.toList.length=a.size:=by simp
theorem ba_get (a:ByteArray) (i:Nat):a.data[i]?=a.data.toList[i]?:=(Array.getElem?_toList).symm
theorem cat_cut (A B X:ByteArray) (h:A.size=2):(A ++ B ++ X).extract 2 (A ++ B ++ X).size=B ++ X:=by
 refine ba_ext ?_
 rw[ba_cut,ba_app,ba_app,ba_app,List.append_assoc,List.drop_append_of_le_length (by rw [ba_len,h]; exact Nat.le_refl _),List.drop_of_length_le (by rw [ba_len,h]; exact Nat.le_refl _),List.nil_append]
 refine List.take_of_length_le ?_
 rw[List.length_append,ba_len,ba_len,size_app,size_app,h]
 omega
theorem cat_end (B X:ByteArray):(B ++ X).extract B.size (B ++ X).size=X:=by
 refine ba_ext ?_
 rw[ba_cut,ba_app,List.drop_append_of_le_length (by rw [ba_len]; exact Nat.le_refl _),List.drop_of_length_le (by rw [ba_len]; exact Nat.le_refl _),List.nil_append]
 refine List.take_of_length_le ?_
 rw[ba_len,size_app]
 omega
theorem cat_bit (B X:ByteArray) (i:Nat) (h:i < 8 * B.size):bit (B ++ X) i=bit B i:=by
 unfold bit byteAt
 rw[ba_get,ba_get,ba_app,List.getElem?_append_left (by rw [ba_len]; omega)]
theorem str_app (x y:List Int):strOfNums (x ++ y)=strOfNums x ++ strOfNums y:=by
 refine ba_ext ?_
 rw[ba_app,strOfNums_data,strOfNums_data,strOfNums_data,List.map_append]
theorem byte_of {x:Int} (h0:0≤x) (h1:x < 256):((UInt8.ofNat x.toNat).toNat:Int)=x:=by
 rw[UInt8.toNat_ofNat',Nat.mod_eq_of_lt (by omega)]
 omega
theorem rb4 {a b c d:Int} (Y:ByteArray) (ha:0≤a∧a < 256) (hb:0≤b∧b < 256) (hc:0≤c∧c < 256) (hd:0≤d∧d < 256):rb (strOfNums [a,b,c,d] ++ Y) 0 4=16777216 * a+65536 * b+256 * c+d:=by
 have e0:=byte_of ha.1 ha.2
 have e1:=byte_of hb.1 hb.2
 have e2:=byte_of hc.1 hc.2
 have e3:=byte_of hd.1 hd.2
 unfold rb rb rb rb rb
 rw[ba_get,ba_get,ba_get,ba_get,ba_app,strOfNums_data]
 simp only [List.map_cons,List.map_nil,List.cons_append,List.nil_append,Nat.zero_add,List.getElem?_cons_zero,List.getElem?_cons_succ,Option.getD_some]
 omega
theorem rb2 {a b:Int} (Y:ByteArray) (ha:0≤a∧a < 256) (hb:0≤b∧b < 256):rb (strOfNums [a,b] ++ Y) 0 2=256 * a+b:=by
 have e0:=byte_of ha.1 ha.2
 have e1:=byte_of hb.1 hb.2
 unfold rb rb rb
 rw[ba_get,ba_get,ba_app,strOfNums_data]
 simp only [List.map_cons,List.map_nil,List.cons_append,List.nil_append,Nat.zero_add,List.getElem?_cons_zero,List.getElem?_cons_succ,Option.getD_some]
 omega
def zX (t:ByteArray) (lv:Nat) (X:ByteArray):ByteArray:=strOfNums (low (headN lv) 2) ++ deflT t lv ++ X
theorem head_size (lv:Nat):(strOfNums (low (headN lv) 2)).size=2:=(strOfNums_size _).trans (low_length _ _)
theorem zX_size (t:ByteArray) (lv:Nat) (X:ByteArray):(zX t lv X).size=2+(deflT t lv).size+X.size:=by
 unfold zX
 rw[size_app,size_app,head_size]
theorem zX_head (t:ByteArray) (lv:Nat) (X:ByteArray):rb (zX t lv X) 0 2=headN lv:=by
 have h:=headN_range lv
 unfold zX
 rw[low2 _ (by omega) (by omega),show strOfNums [headN lv / 256,headN lv % 256] ++ deflT t lv ++ X=strOfNums [headN lv / 256,headN lv % 256] ++ (deflT t lv ++ X) from ba_ext (by rw [ba_app,ba_app,ba_app,ba_app,List.append_assoc]),rb2 _ (by omega) (by omega)]
 omega
theorem zRead_on (hI:InflOk) (t X:ByteArray) (lv:Nat) (w:World) (hlv:lv≤3) (ht:t.size≤2600) (h3:3≤X.size) (hX:X.size≤100) (hG:OrderG w):
  Calls Tryz.prog 13 #[.string (zX t lv X),.int .i64 (t.size:Int)] w fun e w'=>e=.returned (rdV t X)∧Below w.heap.size w w':=by
 obtain⟨p,Ty,r1,r2,r3,r4⟩:=defl_reads t lv ht
 have hs:=zX_size t lv X
 have hb:(zX t lv X).extract 2 (zX t lv X).size=deflT t lv ++ X:=cat_cut _ _ _ (head_size lv)
 have hsz:(deflT t lv ++ X).size=(deflT t lv).size+X.size:=size_app _ _
 refine zRead hI (zX t lv X) (deflT t lv ++ X) X t lv p t.size Ty w (by omega) (by omega) hlv (zX_head t lv X) hb (by omega) ?_ ?_ ht hG
 ·rw[r1]
  exact cat_end _ _
 ·exact r4 _ _ (by omega) (fun i hi=>cat_bit _ _ i (by omega)) (by omega) (Nat.le_refl _) (by omega)
def zsum (t:ByteArray):ByteArray:=strOfNums (low (AdlerMath.adler 1 t) 4)
theorem zsum_size (t:ByteArray):(zsum t).size=4:=(strOfNums_size _).trans (low_length _ _)
theorem app_none (s:ByteArray):s ++ (⟨#[]⟩:ByteArray)=s:=ba_ext (by rw [ba_app]; simp)
theorem sum_rb (t Y:ByteArray):rb (zsum t ++ Y) 0 4=AdlerMath.adler 1 t:=by
 have h:=adler_range t
 unfold zsum
 rw[low4 _ h.1 h.2,rb4 Y (by omega) (by omega) (by omega) (by omega)]
 omega
theorem rd_right (t:ByteArray):rdV t (zsum t)=.tuple #[.string t,.int .i64 0]:=by
 have h:=sum_rb t ⟨#[]⟩
 rw[app_none] at h
 unfold rdV
 rw[if_pos ⟨by rw [zsum_size]; exact Nat.le_refl _,h⟩,if_neg (by rw [zsum_size]; omega)]
theorem rd_more (t Y:ByteArray) (hY:1≤Y.size):rdV t (zsum t ++ Y)=.tuple #[.string ⟨#[]⟩,.int .i64 4]:=by
 unfold rdV
 rw[if_pos ⟨by rw [size_app,zsum_size]; omega,sum_rb t Y⟩,if_pos (by rw [size_app,zsum_size]; omega)]
theorem rd_less (t X:ByteArray) (hX:X.size < 4):rdV t X=.tuple #[.string ⟨#[]⟩,.int .i64 3]:=by
 unfold rdV
 rw[if_neg (fun h=>by have:=h.1; omega)]
theorem rd_turned (t:ByteArray) (j:Nat) (y:Int) (hj:j < 4) (h0:0≤y) (h1:y < 256) (hne:y≠(low (AdlerMath.adler 1 t) 4).getD j 0):rdV t (strOfNums ((low (AdlerMath.adler 1 t) 4).set j y))=.tuple #[.string ⟨#[]⟩,.int .i64 3]:=by
 have h:=adler_range t
 unfold rdV
 rw[if_neg]
 rintro⟨_,h2⟩
 rw[low4 _ h.1 h.2] at hne h2
 generalize AdlerMath.adler 1 t=x at *
 have:j=0∨j=1∨j=2∨j=3:=by omega
 rcases this with rfl | rfl | rfl | rfl
 ·have e:=rb4 (a:=y) (b:=x / 65536 % 256) (c:=x / 256 % 256) (d:=x % 256) ⟨#[]⟩ ⟨h0,h1⟩ (by omega) (by omega) (by omega)
  rw[app_none] at e
  rw[show ([x / 16777216,x / 65536 % 256,x / 256 % 256,x % 256].set 0 y)=[y,x / 65536 % 256,x / 256 % 256,x % 256] from rfl,e] at h2
  exact hne (by show y=x / 16777216; omega)
 ·have e:=rb4 (a:=x / 16777216) (b:=y) (c:=x / 256 % 256) (d:=x % 256) ⟨#[]⟩ (by omega) ⟨h0,h1⟩ (by omega) (by omega)
  rw[app_none] at e
  rw[show ([x / 16777216,x / 65536 % 256,x / 256 % 256,x % 256].set 1 y)=[x / 16777216,y,x / 256 % 256,x % 256] from rfl,e] at h2
  exact hne (by show y=x / 65536 % 256; omega)
 ·have e:=rb4 (a:=x / 16777216) (b:=x / 65536 % 256) (c:=y) (d:=x % 256) ⟨#[]⟩ (by omega) (by omega) ⟨h0,h1⟩ (by omega)
  rw[app_none] at e
  rw[show ([x / 16777216,x / 65536 % 256,x / 256 % 256,x % 256].set 2 y)=[x / 16777216,x / 65536 % 256,y,x % 256] from rfl,e] at h2
  exact hne (by show y=x / 256 % 256; omega)
 ·have e:=rb4 (a:=x / 16777216) (b:=x / 65536 % 256) (c:=x / 256 % 256) (d:=y) ⟨#[]⟩ (by omega) (by omega) (by omega) ⟨h0,h1⟩
  rw[app_none] at e
  rw[show ([x / 16777216,x / 65536 % 256,x / 256 % 256,x % 256].set 3 y)=[x / 16777216,x / 65536 % 256,x / 256 % 256,y] from rfl,e] at h2
  exact hne (by show y=x % 256; omega)
theorem zX_more (t:ByteArray) (lv:Nat) (X Y:ByteArray):zX t lv X ++ Y=zX t lv (X ++ Y):=by
 unfold zX
 refine ba_ext ?_
 rw[ba_app,ba_app,ba_app,ba_app,ba_app,ba_app,List.append_assoc]
theorem zX_less (t:ByteArray) (lv:Nat) (X:ByteArray) (n:Nat) (h:2+(deflT t lv).size≤n):(zX t lv X).extract 0 n=zX t lv (X.extract 0 (n - (2+(deflT t lv).size))):=by
 unfold zX
 refine ba_ext ?_
 have hl:(strOfNums (low (headN lv) 2) ++ deflT t lv).data.toList.length=2+(deflT t lv).size:=by rw [ba_len,size_app,head_size]
 rw[ba_cut,ba_app _ X,ba_app _ (X.extract _ _),ba_cut,List.drop_zero,List.drop_zero,Nat.sub_zero,Nat.sub_zero,List.take_append,hl,List.take_of_length_le (by rw [hl]; exact h)]
theorem zX_set (t:ByteArray) (lv j:Nat) (L:List Int) (y:Int) (hL:∀ x∈L,0≤x∧x < 256):strOfNums ((bytesOf (zX t lv (strOfNums L))).set (2+(deflT t lv).size+j) y)=zX t lv (strOfNums (L.set j y)):=by
 have hb:bytesOf (zX t lv (strOfNums L))=bytesOf (strOfNums (low (headN lv) 2) ++ deflT t lv) ++ L:=by
  have e:bytesOf (strOfNums L)=L:=bytesOf_str (fun x hx=>by have:=hL x hx; omega)
  unfold zX
  show ((strOfNums (low (headN lv) 2) ++ deflT t lv ++ strOfNums L).data.toList.map _)=_
  rw[ba_app,List.map_append]
  show _ ++ bytesOf (strOfNums L)=_
  rw[e]
  rfl
 have hl:(bytesOf (strOfNums (low (headN lv) 2) ++ deflT t lv)).length=2+(deflT t lv).size:=by rw [bytesOf_length,size_app,head_size]
 rw[hb,List.set_append_right _ _ (by omega),hl,show 2+(deflT t lv).size+j - (2+(deflT t lv).size)=j by omega,str_app,str_back]
 rfl
theorem zX_byte (t:ByteArray) (lv j:Nat) (L:List Int) (hL:∀ x∈L,0≤x∧x < 256):(bytesOf (zX t lv (strOfNums L))).getD (2+(deflT t lv).size+j) 0=L.getD j 0:=by
 have hb:bytesOf (zX t lv (strOfNums L))=bytesOf (strOfNums (low (headN lv) 2) ++ deflT t lv) ++ L:=by
  have e:bytesOf (strOfNums L)=L:=bytesOf_str (fun x hx=>by have:=hL x hx; omega)
  unfold zX
  show ((strOfNums (low (headN lv) 2) ++ deflT t lv ++ strOfNums L).data.toList.map _)=_
  rw[ba_app,List.map_append]
  show _ ++ bytesOf (strOfNums L)=_
  rw[e]
  rfl
 have hl:(bytesOf (strOfNums (low (headN lv) 2) ++ deflT t lv)).length=2+(deflT t lv).size:=by rw [bytesOf_length,size_app,head_size]
 rw[hb,List.getD_eq_getElem?_getD,List.getElem?_append_right (by omega),hl,show 2+(deflT t lv).size+j - (2+(deflT t lv).size)=j by omega,← List.getD_eq_getElem?_getD]
theorem low_bytes (x:Int):∀ k,∀ y∈low x k,0≤y∧y < 256
 | 0,y,h=>by cases h
 | k+1,y,h=>by
  rcases List.mem_cons.mp h with rfl | h
  ·omega
  ·exact low_bytes x k y h
end
section
open Go.RowKit Go.Joins TokMath SearchMath DeflMath
theorem part_length (L:List Tok) (k:Nat):(prt L k).length=min 60 (L.length - 60 * k):=by
 unfold prt
 rw[List.length_take,List.length_drop]
theorem part_get {L:List Tok} {k j:Nat} (h:j < (prt L k).length):(prt L k).getD j (0,0,0)=L.getD (60 * k+j) (0,0,0):=by
 rw[part_length] at h
 unfold prt
 rw[List.getD_eq_getElem?_getD,List.getElem?_take,if_pos (by omega),List.getElem?_drop,← List.getD_eq_getElem?_getD]
theorem part_right {L:List Tok} (hR:∀ t∈L,TokRight t) (k:Nat):∀ t∈prt L k,TokRight t:=fun t ht=>hR t (List.mem_of_mem_drop (List.mem_of_mem_take ht))
theorem part_came {w:World} {g off':Nat} {L:List Tok} (h:TCame w (some ⟨g,off',none⟩) L.length (fun j=>L.getD j (0,0,0))) {k:Nat} (hk:60 * k < L.length):TCame w (some ⟨g,off'+60 * k * 3,none⟩) (prt L k).length (fun j=>(prt L k).getD j (0,0,0)):=by
 have h1:=h.part (k:=60 * k) (m:=(prt L k).length) (by rw [part_length]; omega)
 exact h1.congr fun j hj=>(part_get hj).symm
theorem cut_cut (t:ByteArray) (a n:Nat) (h:a+n≤t.size):(t.extract a t.size).extract 0 n=t.extract a (a+n):=by
 rw[ByteArray.extract_extract]
 congr 1
 omega
theorem cut_rest (t:ByteArray) (a n:Nat) (_h:a+n≤t.size):(t.extract a t.size).extract n (t.size - a)=t.extract (a+n) t.size:=by
 rw[ByteArray.extract_extract]
 congr 1
 omega
end
end Go.Proofs.YtklpiihnbokkkaaGreatDoor
