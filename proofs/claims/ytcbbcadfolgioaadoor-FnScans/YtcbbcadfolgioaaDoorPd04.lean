/-
  Texts of the proof, put together.
-/
import Derived.Test.YtcbbcadfolgioaaDoorPd03
namespace Go.Proofs.YtcbbcadfolgioaaDoor
section
open Go.RowKit OutMath PutMath TakeMath BitsMath RastMath
theorem packT_byte (f:Nat→Int) (n d j:Nat) (h:j < (n * d+7) / 8):(byteAt (packT f n d) j:Int)=packB f n d j:=by
 have hl:(packL f n d).length=(n * d+7) / 8:=packN_length _ _ _ _
 have hr:=packB_range f n d j
 have hg:(packL f n d)[j]'(by rw [hl]; exact h)=packB f n d j:=by
  have:=packN_get f n d ((n * d+7) / 8) j h
  rw[List.getD_eq_getElem?_getD,List.getElem?_eq_getElem (by rw [packN_length]; exact h)] at this
  exact this
 have hd:(packT f n d).data[j]?=some (UInt8.ofNat (packB f n d j).toNat):=by
  rw[← Array.getElem?_toList]
  show ((strOfNums (packL f n d)).data.toList)[j]?=_
  rw[strOfNums_data,List.getElem?_map,List.getElem?_eq_getElem (by rw [hl]; exact h),hg]
  rfl
 unfold byteAt
 rw[hd]
 show ((UInt8.ofNat (packB f n d j).toNat).toNat:Int)=_
 rw[UInt8.toNat_ofNat',Nat.mod_eq_of_lt (by omega)]
 omega
theorem smp_pack {f:Nat→Int} {n d:Nat} (hF:Fit12 f n d) (i:Nat) (hi:i < n):smp (packT f n d) d i=f i:=by
 have hf:=hF i hi
 rw[← unpack_pack hi hf.1 hf.2]
 refine hb_congr d fun k hk=>?_
 show bitOf (byteAt (packT f n d) ((i * d+k) / 8):Int) _=bitOf (packB f n d ((i * d+k) / 8)) _
 have hlt:i * d+k < n * d:=by
  have:(i+1) * d≤n * d:=Nat.mul_le_mul_right d hi
  rw[Nat.add_mul] at this
  omega
 rw[packT_byte f n d _ (by omega)]
end
section
namespace FiltMath
open TakeMath
def siz (x:Int):Int:=if x < 0 then -x else x
def paeth (a b c:Int):Int:=
 if siz (a+b - c - a)≤siz (a+b - c - b)∧siz (a+b - c - a)≤siz (a+b - c - c) then a else if siz (a+b - c - b)≤siz (a+b - c - c) then b else c
abbrev PR (x:Int):Prop:=-1000≤x∧x≤1000
theorem paeth_one (a b c:Int):paeth a b c=a∨paeth a b c=b∨paeth a b c=c:=by
 unfold paeth
 split
 ·exact .inl rfl
 ·split
  ·exact .inr (.inl rfl)
  ·exact .inr (.inr rfl)
theorem paeth_byte {a b c:Int} (ha:0≤a∧a < 256) (hb:0≤b∧b < 256) (hc:0≤c∧c < 256):0≤paeth a b c∧paeth a b c < 256:=by
 rcases paeth_one a b c with h | h | h <;> rw [h] <;> assumption
def told (k a b c:Int):Int:=if k=1 then a else if k=2 then b else if k=3 then (a+b) / 2 else if k=4 then paeth a b c else 0
theorem told_byte (k:Int) {a b c:Int} (ha:0≤a∧a < 256) (hb:0≤b∧b < 256) (hc:0≤c∧c < 256):0≤told k a b c∧told k a b c < 256:=by
 unfold told
 have:=paeth_byte ha hb hc
 split
 ·exact ha
 split
 ·exact hb
 split
 ·omega
 split
 ·exact this
 ·omega
def aheadB (r:Nat→Int) (unit at_:Nat):Int:=if unit≤at_ then r (at_ - unit) else 0
theorem ahead_byte {r:Nat→Int} (h:∀ i,0≤r i∧r i < 256) (u i:Nat):0≤aheadB r u i∧aheadB r u i < 256:=by
 unfold aheadB
 split
 ·exact h _
 ·omega
def says (k:Int) (r u:Nat→Int) (unit i:Nat):Int:=told k (aheadB r unit i) (u i) (aheadB u unit i)
theorem says_byte (k:Int) {r u:Nat→Int} (hr:∀ i,0≤r i∧r i < 256) (hu:∀ i,0≤u i∧u i < 256) (unit i:Nat):0≤says k r u unit i∧says k r u unit i < 256:=
 told_byte k (ahead_byte hr _ _) (hu i) (ahead_byte hu _ _)
theorem says_congr (k:Int) {r r' u:Nat→Int} {unit i:Nat} (h1:1≤unit) (h:∀ j,j < i→r j=r' j):says k r u unit i=says k r' u unit i:=by
 unfold says aheadB
 by_cases hq:unit≤i
 ·simp only [if_pos hq]
  rw[h (i - unit) (by omega)]
 ·simp only [if_neg hq]
def filtB (k:Int) (r u:Nat→Int) (unit i:Nat):Int:=(r i+256 - says k r u unit i) % 256
def filtL (k:Int) (r u:Nat→Int) (unit n:Nat):List Int:=(List.range n).map (filtB k r u unit)
theorem filtB_byte (k:Int) (r u:Nat→Int) (unit i:Nat):0≤filtB k r u unit i∧filtB k r u unit i < 256:=by unfold filtB; omega
theorem filtL_length (k:Int) (r u:Nat→Int) (unit n:Nat):(filtL k r u unit n).length=n:=by simp [filtL]
theorem filtL_get (k:Int) (r u:Nat→Int) (unit n i:Nat) (h:i < n):(filtL k r u unit n).getD i 0=filtB k r u unit i:=by simp [filtL,h]
def unfL (k:Int) (r u:Nat→Int) (unit:Nat):Nat→List Int
 | 0=>[]
 | n+1=>unfL k r u unit n ++ [(r n+says k (fun j=>(unfL k r u unit n).getD j 0) u unit n) % 256]
theorem unfL_length (k:Int) (r u:Nat→Int) (unit:Nat):∀ n,(unfL k r u unit n).length=n
 | 0=>rfl
 | n+1=>by simp [unfL,unfL_length k r u unit n]
theorem unfL_next (k:Int) (r u:Nat→Int) (unit n:Nat):unfL k r u unit (n+1)=unfL k r u unit n ++ [(r n+says k (fun j=>(unfL k r u unit n).getD j 0) u unit n) % 256]:=rfl
theorem unfL_byte (k:Int) (r u:Nat→Int) (unit:Nat):∀ n,∀ x∈unfL k r u unit n,0≤x∧x < 256
 | 0=>fun x h=>by cases h
 | n+1=>fun x h=>by
  rcases List.mem_append.1 h with h | h
  ·exact unfL_byte k r u unit n x h
  ·rw[List.mem_singleton.1 h]
   omega
theorem getD_byte13 {L:List Int} (h:∀ x∈L,0≤x∧x < 256) (i:Nat):0≤L.getD i 0∧L.getD i 0 < 256:=by
 by_cases hi:i < L.length
 ·rw[List.getD_eq_getElem?_getD,List.getElem?_eq_getElem hi]
  exact h _ (List.getElem_mem hi)
 ·rw[List.getD_eq_getElem?_getD,List.getElem?_eq_none (by omega)]
  show (0:Int)≤0∧(0:Int) < 256
  omega
theorem unfL_congr (k:Int) {r r' u u':Nat→Int} (unit:Nat):∀ n,(∀ i,i < n→r i=r' i)→(∀ i,i < n→u i=u' i)→unfL k r u unit n=unfL k r' u' unit n
 | 0,_,_=>rfl
 | n+1,h,hu=>by
  rw[unfL_next,unfL_next,unfL_congr k unit n (fun i hi=>h i (by omega)) (fun i hi=>hu i (by omega)),h n (by omega)]
  congr 3
  unfold says aheadB
  by_cases hq:unit≤n
  ·simp only [if_pos hq]
   rw[hu n (by omega),hu (n - unit) (by omega)]
  ·simp only [if_neg hq]
   rw[hu n (by omega)]
theorem unf_filt (k:Int) {r u:Nat→Int} {unit:Nat} (h1:1≤unit) (hr:∀ i,0≤r i∧r i < 256) (hu:∀ i,0≤u i∧u i < 256):∀ n,unfL k (filtB k r u unit) u unit n=(List.range n).map r
 | 0=>rfl
 | n+1=>by
  have ih:=unf_filt k h1 hr hu n
  rw[unfL_next,ih,List.range_succ,List.map_append]
  congr 1
  have e:says k (fun j=>((List.range n).map r).getD j 0) u unit n=says k r u unit n:=says_congr k h1 fun j hj=>by simp [hj]
  rw[e]
  unfold filtB
  have h2:=says_byte k hr hu unit n
  have h3:=hr n
  show [_]=[_]
  congr 1
  omega
def wgt (x:Int):Int:=if 127 < x then 256 - x else x
def wsum (r:Nat→Int):Nat→Int
 | 0=>0
 | n+1=>wsum r n+wgt (r n)
theorem wsum_range {r:Nat→Int} (h:∀ i,0≤r i∧r i < 256):∀ n:Nat,0≤wsum r n∧wsum r n≤128 * (n:Int)
 | 0=>by show (0:Int)≤0∧(0:Int)≤128 * 0; omega
 | n+1=>by
  have h1:=wsum_range h n
  have h2:=h n
  have h3:0≤wgt (r n)∧wgt (r n)≤128:=by unfold wgt; split <;> omega
  show 0≤wsum r n+wgt (r n)∧wsum r n+wgt (r n)≤_
  omega
theorem wsum_congr {r r':Nat→Int}:∀ n:Nat,(∀ i,i < n→r i=r' i)→wsum r n=wsum r' n
 | 0,_=>rfl
 | n+1,h=>by
  show wsum r n+wgt (r n)=wsum r' n+wgt (r' n)
  rw[wsum_congr n fun i hi=>h i (by omega),h n (by omega)]
def least (f:Nat→Int):Nat→Nat
 | 0=>0
 | n+1=>if f (n+1) < f (least f n) then n+1 else least f n
theorem least_le (f:Nat→Int):∀ n,least f n≤n
 | 0=>Nat.le_refl _
 | n+1=>by
  have:=least_le f n
  unfold least
  split
  ·exact Nat.le_refl _
  ·exact Nat.le_succ_of_le this
abbrev FiltR (k:Int) (row above:ByteArray) (unit:Int):Prop:=(0≤k∧k≤4)∧(1≤unit∧unit≤8)∧row.size=above.size∧row.size≤200
def bts (s:ByteArray) (i:Nat):Int:=(byteAt s i:Int)
theorem bts_byte (s:ByteArray) (i:Nat):0≤bts s i∧bts s i < 256:=by
 have:=byteAt_lt s i
 unfold bts
 omega
def filtT (k:Int) (row above:ByteArray) (unit:Nat):ByteArray:=strOfNums (filtL k (bts row) (bts above) unit row.size)
def unfT (k:Int) (row above:ByteArray) (unit:Nat):ByteArray:=strOfNums (unfL k (bts row) (bts above) unit row.size)
def weight (s:ByteArray):Int:=if s.size≤200 then wsum (bts s) s.size else -1
end FiltMath
end
section
namespace FiltMath
open TakeMath
def filtV (k:Int) (row above:ByteArray) (unit:Int):ByteArray:=if FiltR k row above unit then filtT k row above unit.toNat else ⟨#[]⟩
def unfV (k:Int) (row above:ByteArray) (unit:Int):ByteArray:=if FiltR k row above unit then unfT k row above unit.toNat else ⟨#[]⟩
theorem filtT_size (k:Int) (row above:ByteArray) (unit:Nat):(filtT k row above unit).size=row.size:=(strOfNums_size _).trans (filtL_length _ _ _ _ _)
theorem FiltR.kind {k j:Int} {row above:ByteArray} {unit:Int} (h:FiltR k row above unit) (hj:0≤j∧j≤4):FiltR j row above unit:=⟨hj,h.2⟩
def wk (row above:ByteArray) (unit:Nat) (k:Nat):Int:=weight (filtT (k:Int) row above unit)
def bestV (row above:ByteArray) (unit:Int):Int:=if FiltR 0 row above unit then (least (wk row above unit.toNat) 4:Nat) else 0
theorem bts_str {L:List Int} (h:∀ x∈L,0≤x∧x < 256) (i:Nat) (hi:i < L.length):bts (strOfNums L) i=L.getD i 0:=by
 have hx:=h _ (List.getElem_mem hi)
 unfold bts byteAt
 have e:(strOfNums L).data[i]?=some (UInt8.ofNat (L[i]).toNat):=by
  rw[← Array.getElem?_toList,strOfNums_data,List.getElem?_map,List.getElem?_eq_getElem hi]
  rfl
 rw[e,List.getD_eq_getElem?_getD,List.getElem?_eq_getElem hi]
 show ((UInt8.ofNat (L[i]).toNat).toNat:Int)=L[i]
 rw[UInt8.toNat_ofNat',Nat.mod_eq_of_lt (by omega)]
 omega
theorem str_bts (s:ByteArray):strOfNums ((List.range s.size).map (bts s))=s:=by
 obtain⟨d⟩:=s
 have e:(((List.range (ByteArray.size ⟨d⟩)).map (bts ⟨d⟩)).map fun n=>UInt8.ofNat n.toNat)=d.toList:=by
  apply List.ext_getElem?
  intro i
  rw[List.map_map,List.getElem?_map,Array.getElem?_toList (xs:=d)]
  by_cases h:i < d.size
  ·rw[List.getElem?_range (show i < ByteArray.size ⟨d⟩ from h),Array.getElem?_eq_getElem h]
   show some (UInt8.ofNat (bts ⟨d⟩ i).toNat)=some d[i]
   unfold bts byteAt
   rw[Array.getElem?_eq_getElem h]
   show some (UInt8.ofNat ((d[i].toNat:Int)).toNat)=_
   rw[Int.toNat_natCast,UInt8.ofNat_toNat]
  ·rw[List.getElem?_eq_none (by rw [List.length_range]; exact Nat.le_of_not_lt h),Array.getElem?_eq_none (by omega)]
   rfl
 unfold strOfNums
 rw[e]
theorem back_right {k:Int} {row above:ByteArray} {unit:Int} (h:FiltR k row above unit):FiltR k (filtV k row above unit) above unit∧unfV k (filtV k row above unit) above unit=row:=by
 have e1:filtV k row above unit=filtT k row above unit.toNat:=if_pos h
 have h2:FiltR k (filtT k row above unit.toNat) above unit:=⟨h.1,h.2.1,by rw [filtT_size]; exact h.2.2.1,by rw [filtT_size]; exact h.2.2.2⟩
 rw[e1]
 refine⟨h2,?_⟩
 unfold unfV
 rw[if_pos h2]
 unfold unfT
 rw[filtT_size]
 have hu:1≤unit.toNat:=by have:=h.2.1; omega
 rw[unfL_congr k (r':=filtB k (bts row) (bts above) unit.toNat) (u':=bts above) unit.toNat row.size (fun i hi=>?_) (fun _ _=>rfl),unf_filt k hu (bts_byte row) (bts_byte above) row.size]
 ·exact str_bts row
 ·unfold filtT
  rw[bts_str (fun x hx=>?_) i (by rw [filtL_length]; exact hi),filtL_get _ _ _ _ _ _ hi]
  obtain⟨j,_,rfl⟩:=List.mem_map.1 hx
  exact filtB_byte _ _ _ _ _
end FiltMath
end
section
namespace ScanMath
open Go.RowKit OutMath TakeMath RastMath FiltMath
def nums (s:ByteArray):List Int:=(List.range s.size).map (bts s)
theorem nums_length (s:ByteArray):(nums s).length=s.size:=by simp [nums]
theorem nums_get (s:ByteArray) (i:Nat) (h:i < s.size):(nums s).getD i 0=bts s i:=by simp [nums,h]
theorem nums_byte (s:ByteArray):∀ x∈nums s,0≤x∧x < 256:=fun x hx=>by
 obtain⟨j,_,rfl⟩:=List.mem_map.1 hx
 exact bts_byte s j
theorem text_ext {s t:ByteArray} (h:s.size=t.size) (e:∀ i,i < s.size→bts s i=bts t i):s=t:=by
 rw[← str_bts s,← str_bts t,← h]
 congr 1
 refine List.map_congr_left fun i hi=>e i (List.mem_range.mp hi)
theorem bts_cut (t:ByteArray) (a n i:Nat) (h:a+n≤t.size) (hi:i < n):bts (t.extract a (a+n)) i=bts t (a+i):=by
 unfold bts byteAt
 have e:(t.extract a (a+n)).data[i]?=t.data[a+i]?:=by
  rw[ByteArray.data_extract]
  rw[Array.getElem?_extract,if_pos]
  have:t.data.size=t.size:=rfl
  omega
 rw[e]
theorem cut_size (t:ByteArray) (a n:Nat) (h:a+n≤t.size):(t.extract a (a+n)).size=n:=by
 simp
 omega
def zeroT (n:Nat):ByteArray:=strOfNums (List.replicate n 0)
theorem zeroT_size (n:Nat):(zeroT n).size=n:=(strOfNums_size _).trans (List.length_replicate ..)
def unitN (N D:Nat):Nat:=if N * D / 8 < 1 then 1 else N * D / 8
theorem unitN_range {N D:Nat} (hN:N≤4) (hD:D≤16):1≤unitN N D∧unitN N D≤8:=by
 have h:=Nat.mul_le_mul hN hD
 unfold unitN
 split
 ·omega
 ·refine⟨by omega,?_⟩
  exact Nat.le_trans (Nat.div_le_div_right h) (by omega)
def rb (s D:Nat):Nat:=(s * D+7) / 8
def rowT (f:Nat→Int) (s D j:Nat):ByteArray:=packT (fun i=>f (j * s+i)) s D
theorem rowT_size (f:Nat→Int) (s D j:Nat):(rowT f s D j).size=rb s D:=by
 unfold rowT packT
 rw[strOfNums_size]
 exact packN_length _ _ _ _
def aboveT (f:Nat→Int) (s D:Nat):Nat→ByteArray
 | 0=>zeroT (rb s D)
 | j+1=>rowT f s D j
theorem aboveT_size (f:Nat→Int) (s D:Nat):∀ j,(aboveT f s D j).size=rb s D
 | 0=>zeroT_size _
 | j+1=>rowT_size f s D j
def kindV (way:Int) (row above:ByteArray) (u:Nat):Int:=if way=5 then bestV row above (u:Int) else way
theorem kindV_range {way:Int} (h:0≤way∧way≤5) (row above:ByteArray) (u:Nat):0≤kindV way row above u∧kindV way row above u≤4:=by
 unfold kindV
 split
 ·unfold bestV
  split
  ·have:=least_le (wk row above (u:Int).toNat) 4
   omega
  ·omega
 ·omega
def lineL (way:Int) (f:Nat→Int) (s D u j:Nat):List Int:=kindV way (rowT f s D j) (aboveT f s D j) u :: nums (filtV (kindV way (rowT f s D j) (aboveT f s D j) u) (rowT f s D j) (aboveT f s D j) (u:Int))
def linesL (way:Int) (f:Nat→Int) (s D u:Nat):Nat→List Int
 | 0=>[]
 | j+1=>linesL way f s D u j ++ lineL way f s D u j
theorem linesL_succ (way:Int) (f:Nat→Int) (s D u j:Nat):linesL way f s D u (j+1)=linesL way f s D u j ++ lineL way f s D u j:=rfl
section
variable {way:Int} {f:Nat→Int} {s D u:Nat}
theorem row_right (hw:0≤way∧way≤5) (hu:1≤u∧u≤8) (hb:rb s D≤200) (j:Nat):FiltR (kindV way (rowT f s D j) (aboveT f s D j) u) (rowT f s D j) (aboveT f s D j) (u:Int):=
 ⟨kindV_range hw _ _ _,⟨by omega,by omega⟩,by rw [rowT_size,aboveT_size],by rw [rowT_size]; exact hb⟩
theorem lineL_length (hw:0≤way∧way≤5) (hu:1≤u∧u≤8) (hb:rb s D≤200) (j:Nat):(lineL way f s D u j).length=rb s D+1:=by
 unfold lineL
 rw[List.length_cons,nums_length]
 unfold filtV
 rw[if_pos (row_right hw hu hb j),filtT_size,rowT_size]
theorem linesL_length (hw:0≤way∧way≤5) (hu:1≤u∧u≤8) (hb:rb s D≤200):∀ j,(linesL way f s D u j).length=j * (rb s D+1)
 | 0=>by simp [linesL]
 | j+1=>by
  rw[linesL_succ,List.length_append,linesL_length hw hu hb j,lineL_length hw hu hb,Nat.add_mul,Nat.one_mul]
theorem lineL_byte (hw:0≤way∧way≤5) (j:Nat):∀ x∈lineL way f s D u j,0≤x∧x < 256:=fun x hx=>by
 unfold lineL at hx
 rcases List.mem_cons.1 hx with rfl | h
 ·have:=kindV_range hw (rowT f s D j) (aboveT f s D j) u
  omega
 ·exact nums_byte _ x h
theorem linesL_byte (hw:0≤way∧way≤5):∀ j,∀ x∈linesL way f s D u j,0≤x∧x < 256
 | 0,x,hx=>by cases hx
 | j+1,x,hx=>by
  rw[linesL_succ] at hx
  rcases List.mem_append.1 hx with h | h
  ·exact linesL_byte hw j x h
  ·exact lineL_byte hw j x h
theorem linesL_at (hw:0≤way∧way≤5) (hu:1≤u∧u≤8) (hb:rb s D≤200) {H:Nat}:∀ {j i:Nat},j < H→i < rb s D+1→(linesL way f s D u H).getD (j * (rb s D+1)+i) 0=(lineL way f s D u j).getD i 0:=by
 induction H with
 | zero=>intro j i h; omega
 | succ H ih=>
  intro j i hj hi
  have hl:=linesL_length (f:=f) hw hu hb H
  rw[linesL_succ,List.getD_eq_getElem?_getD]
  by_cases e:j=H
  ·subst e
   rw[List.getElem?_append_right (by rw [hl]; omega),hl,Nat.add_sub_cancel_left,List.getD_eq_getElem?_getD]
  ·have h1:(j+1) * (rb s D+1)≤H * (rb s D+1):=Nat.mul_le_mul_right _ (by omega)
   rw[Nat.add_mul,Nat.one_mul] at h1
   rw[List.getElem?_append_left (by rw [hl]; omega),← List.getD_eq_getElem?_getD]
   exact ih (by omega) hi
end
def rrow (t:ByteArray) (a b u:Nat):Nat→ByteArray
 | 0=>unfT (bts t a) (t.extract (a+1) (a+1+b)) (zeroT b) u
 | j+1=>unfT (bts t (a+(j+1) * (b+1))) (t.extract (a+(j+1) * (b+1)+1) (a+(j+1) * (b+1)+1+b)) (rrow t a b u j) u
def rabove (t:ByteArray) (a b u:Nat):Nat→ByteArray
 | 0=>zeroT b
 | j+1=>rrow t a b u j
theorem rrow_form (t:ByteArray) (a b u j:Nat):rrow t a b u j=unfT (bts t (a+j * (b+1))) (t.extract (a+j * (b+1)+1) (a+j * (b+1)+1+b)) (rabove t a b u j) u:=by
 cases j with
 | zero=>simp [rrow,rabove]
 | succ j=>rfl
theorem unfT_size (k:Int) (row above:ByteArray) (unit:Nat):(unfT k row above unit).size=row.size:=(strOfNums_size _).trans (unfL_length _ _ _ _ _)
theorem rrow_step {way:Int} {f:Nat→Int} {s D u H a:Nat} {t:ByteArray} (hw:0≤way∧way≤5) (hu:1≤u∧u≤8) (hb:rb s D≤200) (hs:a+H * (rb s D+1)≤t.size) (ht:∀ i,i < H * (rb s D+1)→bts t (a+i)=(linesL way f s D u H).getD i 0) (j:Nat) (hj:j < H) (ha:rabove t a (rb s D) u j=aboveT f s D j):
  (0≤bts t (a+j * (rb s D+1))∧bts t (a+j * (rb s D+1))≤4)∧rrow t a (rb s D) u j=rowT f s D j:=by
 have hr:=row_right (f:=f) (s:=s) (D:=D) hw hu hb j
 have h1:(j+1) * (rb s D+1)≤H * (rb s D+1):=Nat.mul_le_mul_right _ (by omega)
 rw[Nat.add_mul,Nat.one_mul] at h1
 have hk:bts t (a+j * (rb s D+1))=kindV way (rowT f s D j) (aboveT f s D j) u:=by
  have:=ht (j * (rb s D+1)) (by omega)
  rw[this]
  have q:=linesL_at (f:=f) (u:=u) hw hu hb hj (show 0 < rb s D+1 by omega)
  rw[Nat.add_zero] at q
  rw[q]
  rfl
 have hc:t.extract (a+j * (rb s D+1)+1) (a+j * (rb s D+1)+1+rb s D)=filtV (kindV way (rowT f s D j) (aboveT f s D j) u) (rowT f s D j) (aboveT f s D j) (u:Int):=by
  have hz:(filtV (kindV way (rowT f s D j) (aboveT f s D j) u) (rowT f s D j) (aboveT f s D j) (u:Int)).size=rb s D:=by
   unfold filtV
   rw[if_pos hr,filtT_size,rowT_size]
  have hc0:=cut_size t (a+j * (rb s D+1)+1) (rb s D) (by omega)
  refine text_ext (hc0.trans hz.symm) fun i hi=>?_
  rw[hc0] at hi
  rw[bts_cut t _ _ i (by omega) hi,show a+j * (rb s D+1)+1+i=a+(j * (rb s D+1)+(i+1)) by omega,ht _ (by omega),linesL_at hw hu hb hj (by omega)]
  unfold lineL
  rw[List.getD_cons_succ,nums_get _ _ (by rw [hz]; exact hi)]
 refine⟨by rw [hk]; exact kindV_range hw _ _ _,?_⟩
 rw[rrow_form,hk,hc,ha]
 obtain⟨b1,b2⟩:=back_right hr
 unfold unfV at b2
 rw[if_pos b1] at b2
 exact b2
theorem rrow_back {way:Int} {f:Nat→Int} {s D u H a:Nat} {t:ByteArray} (hw:0≤way∧way≤5) (hu:1≤u∧u≤8) (hb:rb s D≤200) (hs:a+H * (rb s D+1)≤t.size) (ht:∀ i,i < H * (rb s D+1)→bts t (a+i)=(linesL way f s D u H).getD i 0):
  ∀ j,j < H→(0≤bts t (a+j * (rb s D+1))∧bts t (a+j * (rb s D+1))≤4)∧rrow t a (rb s D) u j=rowT f s D j:=by
 intro j
 induction j with
 | zero=>
  intro hj
  exact rrow_step hw hu hb hs ht 0 hj rfl
 | succ j ih=>
  intro hj
  exact rrow_step hw hu hb hs ht (j+1) hj (ih (by omega)).2
theorem smp_row {f:Nat→Int} {s D H:Nat} (hf:Fit12 f (H * s) D) {j i:Nat} (hj:j < H) (hi:i < s):smp (rowT f s D j) D i=f (j * s+i):=by
 have h1:(j+1) * s≤H * s:=Nat.mul_le_mul_right _ (by omega)
 rw[Nat.add_mul,Nat.one_mul] at h1
 exact smp_pack (f:=fun i=>f (j * s+i)) (fun k hk=>hf (j * s+k) (by omega)) i hi
theorem smp_range (t:ByteArray) (D i:Nat):0≤smp t D i∧smp t D i < p2 D:=hb_range (fun _=>bitOf_range _ _) D
def rsmp (t:ByteArray) (a s D u:Nat) (i:Nat):Int:=smp (rrow t a (rb s D) u (i / s)) D (i % s)
theorem rsmp_fit (t:ByteArray) (a s D u n:Nat):Fit12 (rsmp t a s D u) n D:=fun _ _=>smp_range _ _ _
theorem rsmp_at (t:ByteArray) (a s D u j:Nat) {i:Nat} (hi:i < s):rsmp t a s D u (j * s+i)=smp (rrow t a (rb s D) u j) D i:=by
 unfold rsmp
 have hs:0 < s:=by omega
 rw[Nat.add_comm,Nat.add_mul_div_right _ _ hs,Nat.div_eq_of_lt hi,Nat.zero_add,Nat.add_mul_mod_self_right,Nat.mod_eq_of_lt hi]
theorem rsmp_back {way:Int} {f:Nat→Int} {s D u H a:Nat} {t:ByteArray} (hw:0≤way∧way≤5) (hu:1≤u∧u≤8) (hb:rb s D≤200) (hs:a+H * (rb s D+1)≤t.size) (ht:∀ i,i < H * (rb s D+1)→bts t (a+i)=(linesL way f s D u H).getD i 0) (hf:Fit12 f (H * s) D) {i:Nat} (hi:i < H * s):rsmp t a s D u i=f i:=by
 have hs0:0 < s:=by
  rcases Nat.eq_zero_or_pos s with e | e
  ·rw[e,Nat.mul_zero] at hi; omega
  ·exact e
 have hj:i / s < H:=(Nat.div_lt_iff_lt_mul hs0).mpr hi
 have hm:i % s < s:=Nat.mod_lt _ hs0
 unfold rsmp
 rw[(rrow_back hw hu hb hs ht _ hj).2,smp_row hf hj hm,Nat.mul_comm,Nat.div_add_mod]
def partsL (L:Nat→List Int):Nat→List Int
 | 0=>[]
 | p+1=>partsL L p ++ L p
theorem partsL_succ (L:Nat→List Int) (p:Nat):partsL L (p+1)=partsL L p ++ L p:=rfl
def offP (cw ch:Nat→Nat) (N D:Nat):Nat→Nat
 | 0=>0
 | p+1=>offP cw ch N D p+ch p * (rb (cw p * N) D+1)
theorem offP_succ (cw ch:Nat→Nat) (N D p:Nat):offP cw ch N D (p+1)=offP cw ch N D p+ch p * (rb (cw p * N) D+1):=rfl
theorem offP_mono {cw ch : Nat → Nat} {N D p q : Nat} (h : p ≤ q) : offP cw ch N D p ≤ offP cw ch N D q := by
  induction q with
  | zero => obtain rfl : p = 0 := by omega
            exact Nat.le_refl _
  | succ q ih =>
    by_cases e : p = q + 1
    · rw [e]; exact Nat.le_refl _
    · exact Nat.le_trans (ih (by omega)) (Nat.le_add_right _ _)
theorem partsL_length {L:Nat→List Int} {cw ch:Nat→Nat} {N D:Nat}:∀ K,(∀ p,p < K→(L p).length=ch p * (rb (cw p * N) D+1))→(partsL L K).length=offP cw ch N D K
 | 0,_=>rfl
 | K+1,h=>by rw [partsL_succ,List.length_append,partsL_length K (fun p hp=>h p (by omega)),h K (by omega),offP_succ]
theorem partsL_byte {L:Nat→List Int}:∀ K,(∀ p,p < K→∀ x∈L p,0≤x∧x < 256)→∀ x∈partsL L K,0≤x∧x < 256
 | 0,_,x,hx=>by cases hx
 | K+1,h,x,hx=>by
  rw[partsL_succ] at hx
  rcases List.mem_append.1 hx with q | q
  ·exact partsL_byte K (fun p hp=>h p (by omega)) x q
  ·exact h K (by omega) x q
theorem partsL_at {L:Nat→List Int} {cw ch:Nat→Nat} {N D:Nat}:∀ K,(∀ p,p < K→(L p).length=ch p * (rb (cw p * N) D+1))→∀ p i,p < K→i < (L p).length→(partsL L K).getD (offP cw ch N D p+i) 0=(L p).getD i 0
 | 0,_,p,_,hp,_=>by omega
 | K+1,h,p,i,hp,hi=>by
  have hl:=partsL_length (L:=L) (cw:=cw) (ch:=ch) (N:=N) (D:=D) K (fun p hp=>h p (by omega))
  rw[partsL_succ,List.getD_eq_getElem?_getD]
  by_cases e:p=K
  ·subst e
   rw[List.getElem?_append_right (by rw [hl]; omega),hl,Nat.add_sub_cancel_left,List.getD_eq_getElem?_getD]
  ·have h1:offP cw ch N D (p+1)≤offP cw ch N D K:=offP_mono (by omega)
   rw[offP_succ,← h p (by omega)] at h1
   rw[List.getElem?_append_left (by rw [hl]; omega),← List.getD_eq_getElem?_getD]
   exact partsL_at K (fun p hp=>h p (by omega)) p i (by omega) hi
end ScanMath
end
section
open Go.RowKit RastMath PassMath
def FitsP (W H N:Nat) (x2 x3:Int) (p:Nat) (q:Ras):Prop:=q.x0=(pw W H p:Int)∧q.x1=(ph W H p:Int)∧q.x2=x2∧q.x3=x3∧q.n=pw W H p * ph W H p * N
theorem from_fits {W H N:Nat} {R:Nat→Ras} (hW:1≤W∧W≤24) (hH:1≤H∧H≤24) (hN:chan (R 0).x2=(N:Int)):joinR (W:Int) (H:Int) R=⟨(W:Int),(H:Int),(R 0).x2,(R 0).x3,W * H * N,joinF W H N (fun p k=>(R p).f k)⟩∧(FromR (W:Int) (H:Int) 7 R↔((∀ p,p < 7→FitsP W H N (R 0).x2 (R 0).x3 p (R p))∧RasR (W:Int) (H:Int) (R 0).x2 (R 0).x3 (W * H * N) (joinF W H N (fun p k=>(R p).f k)))):=by
 have ej:joinR (W:Int) (H:Int) R=⟨(W:Int),(H:Int),(R 0).x2,(R 0).x3,W * H * N,joinF W H N (fun p k=>(R p).f k)⟩:=by
  unfold joinR
  rw[hN]
  rfl
 have ep:passesR (joinR (W:Int) (H:Int) R)=passR W H (R 0).x2 (R 0).x3 N (joinF W H N (fun p k=>(R p).f k)):=by
  rw[ej]
  unfold passesR
  show passR (W:Int).toNat (H:Int).toNat (R 0).x2 (R 0).x3 (chan (R 0).x2).toNat _=_
  rw[hN]
  rfl
 refine⟨ej,?_⟩
 unfold FromR RasOk
 rw[ep,ej]
 constructor
 ·rintro⟨_,h1,h2⟩
  refine⟨fun p hp=>?_,h1⟩
  obtain⟨e0,e1,e2,e3,e4,_⟩:=h2 p hp
  exact⟨e0,e1,e2,e3,e4⟩
 ·rintro⟨h2,h1⟩
  refine⟨rfl,h1,fun p hp=>?_⟩
  obtain⟨e0,e1,e2,e3,e4⟩:=h2 p hp
  have hN1:1≤N:=by
   have:=chan_pos h1.2.2.1
   omega
  refine⟨e0,e1,e2,e3,e4,fun i hi=>?_⟩
  rw[e4] at hi
  exact (join_pass hN1 hW.2 hH.2 (fun p k=>(R p).f k) hp hi).symm
end
end Go.Proofs.YtcbbcadfolgioaaDoor
