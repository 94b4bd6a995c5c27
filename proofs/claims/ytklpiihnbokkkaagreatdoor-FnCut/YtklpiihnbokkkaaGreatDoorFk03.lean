/-
  Texts of the proof, put together.
-/
import Derived.Test.YtklpiihnbokkkaaGreatDoorFk02
namespace Go.Proofs.YtklpiihnbokkkaaGreatDoor
namespace TakeMath
open OutMath
def byteAt (s:ByteArray) (i:Nat):Nat:=(s.data[i]?.getD 0).toNat
theorem byteAt_lt (s:ByteArray) (i:Nat):byteAt s i < 256:=UInt8.toNat_lt _
theorem byteAt_get (s:ByteArray) (i:Nat) (h:i < s.size):(s[i]'h).toNat=byteAt s i:=by
 unfold byteAt
 have h':i < s.data.size:=h
 rw[Array.getElem?_eq_getElem h']
 rfl
def bit (s:ByteArray) (i:Nat):Int:=(byteAt s (i / 8):Int) / p2 (i % 8) % 2
theorem bit_01 (s:ByteArray) (i:Nat):0≤bit s i∧bit s i≤1:=by unfold bit; omega
def num (s:ByteArray) (a:Nat):Nat→Int
 | 0=>0
 | k+1=>num s a k+bit s (a+k) * p2 k
theorem mul01 (b q:Int) (h0:0≤b) (h1:b≤1) (hq:1≤q):0≤b * q∧b * q≤q:=by
 have:b=0∨b=1:=by omega
 rcases this with rfl | rfl <;> omega
theorem num_bd (s:ByteArray) (a:Nat):∀ k,0≤num s a k∧num s a k < p2 k
 | 0=>by simp [num,p2]
 | k+1=>by
  have h:=num_bd s a k
  have hb:=bit_01 s (a+k)
  have hm:=mul01 _ _ hb.1 hb.2 (p2_pos k)
  unfold num
  rw[p2_succ]
  omega
theorem p2_24 {n:Nat} (h:n≤24):p2 n≤16777216:=by
 have h1:=p2_le h
 have h2:p2 24=16777216:=by decide +kernel
 omega
theorem div_bd (x:Nat) (q:Int) (hq:1≤q):0≤(x:Int) / q∧(x:Int) / q≤x:=⟨Int.ediv_nonneg (by omega) (by omega),Int.ediv_le_self _ (by omega)⟩
theorem i64_and_nat (a b:Nat) (ha:a < 9223372036854775808) (hb:b < 9223372036854775808):bits .and .i64 (a:Int) (b:Int)=((a &&& b:Nat):Int):=by
 have h1:(BitVec.ofInt 64 (a:Int)).toNat=a:=by
  rw[BitVec.ofInt_natCast,BitVec.toNat_ofNat]; exact Nat.mod_eq_of_lt (by omega)
 have h2:(BitVec.ofInt 64 (b:Int)).toNat=b:=by
  rw[BitVec.ofInt_natCast,BitVec.toNat_ofNat]; exact Nat.mod_eq_of_lt (by omega)
 have hx:a &&& b < 2 ^ 63:=Nat.and_lt_two_pow _ (by omega)
 show IntKind.i64.wrap ((BitVec.ofInt 64 (a:Int) &&& BitVec.ofInt 64 (b:Int)).toNat:Int)=_
 rw[BitVec.toNat_and,h1,h2,IntKind.wrap_i64]
 omega
theorem i64_or_nat (a b:Nat) (ha:a < 9223372036854775808) (hb:b < 9223372036854775808):bits .or .i64 (a:Int) (b:Int)=((a ||| b:Nat):Int):=by
 have h1:(BitVec.ofInt 64 (a:Int)).toNat=a:=by
  rw[BitVec.ofInt_natCast,BitVec.toNat_ofNat]; exact Nat.mod_eq_of_lt (by omega)
 have h2:(BitVec.ofInt 64 (b:Int)).toNat=b:=by
  rw[BitVec.ofInt_natCast,BitVec.toNat_ofNat]; exact Nat.mod_eq_of_lt (by omega)
 have hx:a ||| b < 2 ^ 63:=Nat.or_lt_two_pow (by omega) (by omega)
 show IntKind.i64.wrap ((BitVec.ofInt 64 (a:Int) ||| BitVec.ofInt 64 (b:Int)).toNat:Int)=_
 rw[BitVec.toNat_or,h1,h2,IntKind.wrap_i64]
 omega
theorem and1 (x:Int) (h0:0≤x) (h1:x < 9223372036854775808):bits .and .i64 x 1=x % 2:=by
 obtain⟨n,rfl⟩:=Int.eq_ofNat_of_zero_le h0
 have:=i64_and_nat n 1 (by omega) (by omega)
 rw[nat_mask1] at this
 rw[show ((1:Nat):Int)=1 from rfl] at this
 rw[this]
 omega
theorem bit_and (s:ByteArray) (i:Nat):bits .and .i64 (Go.RowKit.wrap64 ((byteAt s (i / 8):Int) / 2 ^ (i % 8))) 1=bit s i:=by
 have h:=div_bd (byteAt s (i / 8)) (p2 (i % 8)) (p2_pos _)
 have hb:=byteAt_lt s (i / 8)
 have e:Go.RowKit.wrap64 ((byteAt s (i / 8):Int) / 2 ^ (i % 8))=(byteAt s (i / 8):Int) / p2 (i % 8):=by
  show Go.RowKit.wrap64 ((byteAt s (i / 8):Int) / p2 (i % 8))=_
  unfold Go.RowKit.wrap64; omega
 rw[e,and1 _ h.1 (by omega)]
 rfl
theorem or_bit (x b:Int) (k:Nat) (hk:k≤24) (h0:0≤x) (h1:x < p2 k) (b0:0≤b) (b1:b≤1):bits .or .i64 x (b * p2 k)=x+b * p2 k:=by
 have hm:=mul01 b (p2 k) b0 b1 (p2_pos k)
 have hp:=p2_24 hk
 obtain⟨n,rfl⟩:=Int.eq_ofNat_of_zero_le h0
 obtain⟨m,rfl⟩:=Int.eq_ofNat_of_zero_le b0
 rw[p2_nat] at h1 hm hp ⊢
 rw[show ((m:Int) * ((2 ^ k:Nat):Int))=((m * 2 ^ k:Nat):Int) from (Int.natCast_mul _ _).symm] at hm ⊢
 rw[i64_or_nat _ _ (by omega) (by omega),Nat.or_comm,nat_join k (m * 2 ^ k) n (by simp) (by omega)]
 omega
theorem or_bitW (x b:Int) (k:Nat) (hk:k≤24) (h0:0≤x) (h1:x < p2 k) (b0:0≤b) (b1:b≤1):bits .or .i64 x (Go.RowKit.wrap64 (b * 2 ^ k))=x+b * p2 k:=by
 have hm:=mul01 b (p2 k) b0 b1 (p2_pos k)
 have hp:=p2_24 hk
 have e:Go.RowKit.wrap64 (b * 2 ^ k)=b * p2 k:=by
  show Go.RowKit.wrap64 (b * p2 k)=_
  unfold Go.RowKit.wrap64; omega
 rw[e]
 exact or_bit x b k hk h0 h1 b0 b1
end TakeMath
end Go.Proofs.YtklpiihnbokkkaaGreatDoor

namespace Go.Proofs.YtklpiihnbokkkaaGreatDoor
namespace BitsMath
open OutMath PutMath TakeMath
theorem p2_add (a:Nat):∀ b,p2 (a+b)=p2 a * p2 b
 | 0=>by rw [p2_zero,Nat.add_zero]; omega
 | b+1=>by rw [← Nat.add_assoc,p2_succ,p2_add a b,p2_succ,← Int.mul_assoc,← Int.mul_assoc,Int.mul_comm 2 (p2 a)]
def AllB (xs:List Int):Prop:=∀ i,0≤xs.getD i 0∧xs.getD i 0 < 256
def bitAt (xs:List Int) (i:Nat):Int:=xs.getD (i / 8) 0 / p2 (i % 8) % 2
theorem pre_getD (xs:List Int) (c i:Nat):(pre xs c).getD i 0=xs.getD i 0:=by
 unfold pre
 split
 ·rw[List.getD_eq_getElem?_getD,List.getD_eq_getElem?_getD]
  rcases Nat.lt_trichotomy i xs.length with h | h | h
  ·rw[List.getElem?_append_left h]
  ·subst h
   rw[List.getElem?_append_right (Nat.le_refl _)]
   simp
  ·rw[List.getElem?_append_right (by omega),List.getElem?_eq_none (by simp; omega),List.getElem?_eq_none (by omega)]
 ·rfl
theorem bstep_getD {xs:List Int} {c:Nat} (b:Int) (h:Inv xs c) (i:Nat):(bstep xs c b).getD i 0=if i=c / 8 then xs.getD (c / 8) 0+b * p2 (c % 8) else xs.getD i 0:=by
 have hl:=pre_len h
 unfold bstep
 by_cases hi:i=c / 8
 ·rw[if_pos hi,hi,List.getD_eq_getElem?_getD,List.getElem?_set_self (by omega)]
  show (pre xs c).getD (c / 8) 0+_=_
  rw[pre_getD]
 ·rw[if_neg hi,List.getD_eq_getElem?_getD,List.getElem?_set_ne (by omega),← List.getD_eq_getElem?_getD,pre_getD]
theorem last_lt {xs:List Int} {c:Nat} (h:Inv xs c):0≤xs.getD (c / 8) 0∧xs.getD (c / 8) 0 < p2 (c % 8):=by
 have:=pre_last h
 rwa [pre_getD] at this
theorem allB_bstep {xs:List Int} {c:Nat} {b:Int} (h:Inv xs c) (ha:AllB xs) (h0:0≤b) (h1:b≤1):AllB (bstep xs c b):=by
 intro i
 rw[bstep_getD b h]
 split
 ·have hl:=last_lt h
  have hp:=PutMath.p2_8 (r:=c % 8) (by omega)
  have hm:=PutMath.mul01 b (p2 (c % 8)) h0 h1 (p2_pos _)
  omega
 ·exact ha i
theorem bitAt_old {xs:List Int} {c:Nat} (b:Int) (h:Inv xs c) (i:Nat) (hi:i < c):bitAt (bstep xs c b) i=bitAt xs i:=by
 unfold bitAt
 rw[bstep_getD b h]
 split
 ·rename_i e
  have hq:i % 8 < c % 8:=by omega
  obtain⟨d,hd⟩:∃ d,c % 8=i % 8+(d+1):=⟨c % 8 - i % 8 - 1,by omega⟩
  have hp:=p2_pos (i % 8)
  have e2:b * p2 (c % 8)=(b * p2 d * 2) * p2 (i % 8):=by
   rw[hd,p2_add,p2_succ]
   rw[Int.mul_comm (p2 (i % 8)),← Int.mul_assoc,← Int.mul_assoc,Int.mul_comm b 2,Int.mul_assoc 2 b,Int.mul_comm 2]
  rw[e2,e,Int.add_mul_ediv_right _ _ (by omega)]
  generalize xs.getD (c / 8) 0 / p2 (i % 8)=u
  generalize b * p2 d=v
  omega
 ·rfl
theorem bitAt_new {xs:List Int} {c:Nat} {b:Int} (h:Inv xs c) (h0:0≤b) (h1:b≤1):bitAt (bstep xs c b) c=b:=by
 unfold bitAt
 rw[bstep_getD b h,if_pos rfl]
 have hl:=last_lt h
 have hp:=p2_pos (c % 8)
 rw[Int.add_mul_ediv_right _ _ (by omega),Int.ediv_eq_zero_of_lt hl.1 hl.2]
 omega
section
variable {xs:List Int} {c:Nat} {f:Nat→Int}
theorem allB_puts (h:Inv xs c) (ha:AllB xs) (hf:∀ k,0≤f k∧f k≤1):∀ k,AllB (puts xs c f k)
 | 0=>ha
 | k+1=>allB_bstep (inv_puts h hf k) (allB_puts h ha hf k) (hf k).1 (hf k).2
theorem puts_old (h:Inv xs c) (hf:∀ k,0≤f k∧f k≤1) (i:Nat) (hi:i < c):∀ k,bitAt (puts xs c f k) i=bitAt xs i
 | 0=>rfl
 | k+1=>(bitAt_old (f k) (inv_puts h hf k) i (by omega)).trans (puts_old h hf i hi k)
theorem puts_new (h:Inv xs c) (hf:∀ k,0≤f k∧f k≤1) (i:Nat):∀ k,i < k→bitAt (puts xs c f k) (c+i)=f i
 | 0,hi=>by omega
 | k+1,hi=>by
  by_cases e:i=k
  ·subst e
   exact bitAt_new (inv_puts h hf i) (hf i).1 (hf i).2
  ·exact (bitAt_old (f k) (inv_puts h hf k) (c+i) (by omega)).trans (puts_new h hf i k (by omega))
end
theorem byteAt_str {ys:List Int} (ha:AllB ys) (i:Nat):((byteAt (strOfNums ys) i:Nat):Int)=ys.getD i 0:=by
 have hb:=ha i
 unfold byteAt
 have e:(strOfNums ys).data[i]?=(ys[i]?).map fun n=>UInt8.ofNat n.toNat:=by simp [strOfNums]
 rw[e]
 rw[List.getD_eq_getElem?_getD] at hb ⊢
 cases h:ys[i]? with
 | none=>simp
 | some y=>
  rw[h] at hb
  simp only [Option.map_some,Option.getD_some] at hb ⊢
  rw[UInt8.toNat_ofNat']
  omega
theorem bit_str {ys:List Int} (ha:AllB ys) (i:Nat):bit (strOfNums ys) i=bitAt ys i:=by
 unfold bit bitAt
 rw[byteAt_str ha]
theorem nums_back {ys:List Int} (ha:AllB ys):((strOfNums ys).data.toList.map fun b=>(b.toNat:Int))=ys:=by
 apply List.ext_getElem?
 intro i
 have hb:=ha i
 have e:(strOfNums ys).data.toList=ys.map fun n=>UInt8.ofNat n.toNat:=rfl
 rw[e,List.map_map,List.getElem?_map]
 rw[List.getD_eq_getElem?_getD] at hb
 cases h:ys[i]? with
 | none=>rfl
 | some y=>
  rw[h] at hb
  simp only [Option.getD_some] at hb
  simp only [Option.map_some,Function.comp]
  rw[UInt8.toNat_ofNat']
  congr 1
  omega
theorem outB_of_inv {ys:List Int} {c:Nat} (h:Inv ys c) (ha:AllB ys) (hc:c≤96000):outB (strOfNums ys) c=true:=by
 have hs:(strOfNums ys).size=(c+7) / 8:=(strOfNums_size ys).trans h.1
 have hf:Fits (strOfNums ys) c:=by
  unfold Fits
  rw[hs]
  omega
 by_cases h8:(c:Int) % 8=0
 ·exact outB_fit0 _ _ hf h8
 ·rw[outB_fit1 _ _ hf h8]
  unfold lastOk
  have e:last (strOfNums ys)=byteAt (strOfNums ys) (c / 8):=by
   unfold last byteAt
   rw[hs,show (c+7) / 8 - 1=c / 8 by omega]
  rw[e,byteAt_str ha,show ((c:Int) % 8).toNat=c % 8 by omega]
  exact decide_eq_true (last_lt h).2
theorem mod_split (x q:Int) (hq:1≤q):x % (2 * q)=x % q+x / q % 2 * q:=by
 have h1:=Int.emod_nonneg x (show q≠0 by omega)
 have h2:=Int.emod_lt_of_pos x (show 0 < q by omega)
 have h3:=Int.mul_ediv_add_emod x q
 have hm:=PutMath.mul01 (x / q % 2) q (by omega) (by omega) hq
 have e:x=(x % q+x / q % 2 * q)+(2 * q) * (x / q / 2):=by
  have h4:x / q=2 * (x / q / 2)+x / q % 2:=by omega
  have h5:q * (x / q)=2 * q * (x / q / 2)+x / q % 2 * q:=by
   conv=>lhs; rw [h4]
   rw[Int.mul_add,← Int.mul_assoc,Int.mul_comm q 2,Int.mul_comm q]
  omega
 conv=>lhs; rw [e]
 rw[Int.add_mul_emod_self_left]
 exact Int.emod_eq_of_lt (by omega) (by omega)
theorem num_of (s:ByteArray) (a:Nat) (x:Int):∀ k,(∀ i,i < k→bit s (a+i)=bitOf x i)→num s a k=x % p2 k
 | 0,_=>by rw [p2_zero]; show (0:Int)=_; omega
 | k+1,h=>by
  show num s a k+bit s (a+k) * p2 k=_
  rw[num_of s a x k (fun i hi=>h i (by omega)),h k (by omega),p2_succ,mod_split x (p2 k) (p2_pos k)]
  rfl
section
variable {v:Nat→Int} {n:Nat→Nat}
end
theorem code_step (x:Int) (n k:Nat) (hk:k < n):2 * (x / p2 (n - k))+bitOf x (n - 1 - k)=x / p2 (n - (k+1)):=by
 have e:n - k=n - (k+1)+1:=by omega
 have e2:n - 1 - k=n - (k+1):=by omega
 unfold bitOf
 rw[e,e2,p2_succ,Int.mul_comm 2 (p2 _),← Int.ediv_ediv_of_nonneg (by have:=p2_pos (n - (k+1)); omega)]
 generalize x / p2 (n - (k+1))=u
 omega
theorem num_one (s:ByteArray) (i:Nat):num s i 1=bit s i:=by
 show (0:Int)+bit s (i+0) * p2 0=_
 rw[p2_zero,Nat.add_zero]
 omega
end BitsMath
end Go.Proofs.YtklpiihnbokkkaaGreatDoor

namespace Go.Proofs.YtklpiihnbokkkaaGreatDoor
namespace BlockMath
open OutMath PutMath BitsMath
def numsOf (s:ByteArray):List Int:=s.data.toList.map fun b=>(b.toNat:Int)
theorem numsOf_length (s:ByteArray):(numsOf s).length=s.size:=by simp [numsOf]
theorem numsOf_allB (s:ByteArray):AllB (numsOf s):=fun i=>by
 unfold numsOf
 rw[List.getD_eq_getElem?_getD,List.getElem?_map]
 cases h:s.data.toList[i]? with
 | none=>simp
 | some y=>
  have:=UInt8.toNat_lt y
  simp only [Option.map_some,Option.getD_some]
  omega
theorem puts_congr {xs:List Int} {c:Nat} {f g:Nat→Int}:∀ k,(∀ i,i < k→f i=g i)→puts xs c f k=puts xs c g k
 | 0,_=>rfl
 | k+1,h=>by
  show bstep _ _ _=bstep _ _ _
  rw[puts_congr k (fun i hi=>h i (by omega)),h k (by omega)]
theorem puts_add (xs:List Int) (c:Nat) (f:Nat→Int) (m:Nat):∀ k,puts xs c f (m+k)=puts (puts xs c f m) (c+m) (fun i=>f (m+i)) k
 | 0=>rfl
 | k+1=>by
  show bstep (puts xs c f (m+k)) (c+(m+k)) (f (m+k))=bstep _ (c+m+k) (f (m+k))
  rw[puts_add xs c f m k,Nat.add_assoc]
def putB (xs:List Int) (c:Nat) (bs:List Int):List Int:=puts xs c (fun i=>bs.getD i 0) bs.length
def Bits01 (bs:List Int):Prop:=∀ i,0≤bs.getD i 0∧bs.getD i 0≤1
theorem Bits01.append {a b:List Int} (ha:Bits01 a) (hb:Bits01 b):Bits01 (a ++ b):=fun i=>by
 rw[List.getD_eq_getElem?_getD]
 by_cases h:i < a.length
 ·rw[List.getElem?_append_left h,← List.getD_eq_getElem?_getD]
  exact ha i
 ·rw[List.getElem?_append_right (by omega),← List.getD_eq_getElem?_getD]
  exact hb _
theorem putB_append (xs:List Int) (c:Nat) (a b:List Int):putB xs c (a ++ b)=putB (putB xs c a) (c+a.length) b:=by
 unfold putB
 rw[List.length_append,puts_add]
 have e1:puts xs c (fun i=>(a ++ b).getD i 0) a.length=puts xs c (fun i=>a.getD i 0) a.length:=puts_congr _ fun i hi=>by
  show (a ++ b).getD i 0=a.getD i 0
  rw[List.getD_eq_getElem?_getD,List.getElem?_append_left hi,← List.getD_eq_getElem?_getD]
 rw[e1]
 refine puts_congr _ fun i _=>?_
 show (a ++ b).getD (a.length+i) 0=b.getD i 0
 rw[List.getD_eq_getElem?_getD,List.getElem?_append_right (by omega),← List.getD_eq_getElem?_getD,Nat.add_sub_cancel_left]
theorem putB_inv {xs:List Int} {c:Nat} {bs:List Int} (h:Inv xs c) (h01:Bits01 bs):Inv (putB xs c bs) (c+bs.length):=inv_puts h h01 _
theorem putB_allB {xs:List Int} {c:Nat} {bs:List Int} (h:Inv xs c) (ha:AllB xs) (h01:Bits01 bs):AllB (putB xs c bs):=allB_puts h ha h01 _
def bitsOut (o:ByteArray×Nat) (bs:List Int):Option (ByteArray×Nat):=
 if outB o.1 o.2=true∧o.2+bs.length≤96000 then some (strOfNums (putB (numsOf o.1) o.2 bs),o.2+bs.length) else none
theorem bitsOut_some {s:ByteArray} {c:Nat} {bs:List Int} (h:outB s c=true) (hc:c+bs.length≤96000):bitsOut (s,c) bs=some (strOfNums (putB (numsOf s) c bs),c+bs.length):=if_pos ⟨h,hc⟩
theorem bitsOut_none {s:ByteArray} {c:Nat} {bs:List Int} (h:¬ (outB s c=true∧c+bs.length≤96000)):bitsOut (s,c) bs=none:=if_neg h
theorem bitsOut_right {o o':ByteArray×Nat} {bs:List Int} (h:bitsOut o bs=some o') (h01:Bits01 bs):outB o'.1 o'.2=true∧o'.2=o.2+bs.length∧o'.2≤96000∧numsOf o'.1=putB (numsOf o.1) o.2 bs∧o'.1=strOfNums (putB (numsOf o.1) o.2 bs)∧outB o.1 o.2=true:=by
 unfold bitsOut at h
 split at h
 ·rename_i hh
  cases h
  have hi:=bytes_inv o.1 o.2 hh.1
  have hA:=putB_allB hi (numsOf_allB o.1) h01
  exact⟨outB_of_inv (putB_inv hi h01) hA hh.2,rfl,hh.2,nums_back hA,rfl,hh.1⟩
 ·cases h
def pieceBits (x:Int) (n:Nat) (high:Bool):List Int:=(List.range n).map fun k=>bitOf x (if high then n - 1 - k else k)
theorem pieceBits_length (x:Int) (n:Nat) (high:Bool):(pieceBits x n high).length=n:=by simp [pieceBits]
theorem pieceBits_getD (x:Int) (n:Nat) (high:Bool) {k:Nat} (h:k < n):(pieceBits x n high).getD k 0=bitOf x (if high then n - 1 - k else k):=by
 unfold pieceBits
 rw[List.getD_eq_getElem?_getD,List.getElem?_map,List.getElem?_range h]
 rfl
theorem pieceBits_01 (x:Int) (n:Nat) (high:Bool):Bits01 (pieceBits x n high):=fun i=>by
 by_cases h:i < n
 ·rw[pieceBits_getD x n high h]
  exact bitOf_01 _ _
 ·rw[List.getD_eq_getElem?_getD,List.getElem?_eq_none (by rw [pieceBits_length]; omega)]
  simp
def fillBits (c:Nat):List Int:=List.replicate ((8 - c % 8) % 8) 0
theorem fillBits_length (c:Nat):(fillBits c).length=(8 - c % 8) % 8:=by simp [fillBits]
theorem zeros_getD (n i:Nat):(List.replicate n (0:Int)).getD i 0=0:=by
 rw[List.getD_eq_getElem?_getD,List.getElem?_replicate]
 split <;> rfl
theorem fillBits_01 (c:Nat):Bits01 (fillBits c):=fun i=>by
 unfold fillBits
 rw[zeros_getD]
 omega
def byteBits:List Int→List Int
 | []=>[]
 | y :: ys=>pieceBits y 8 false ++ byteBits ys
theorem byteBits_length:∀ ys:List Int,(byteBits ys).length=8 * ys.length
 | []=>rfl
 | y :: ys=>by
  show (pieceBits y 8 false ++ byteBits ys).length=_
  rw[List.length_append,pieceBits_length,byteBits_length ys,List.length_cons]
  omega
theorem byteBits_01:∀ ys:List Int,Bits01 (byteBits ys)
 | []=>fun i=>by rw [show (byteBits [])=[] from rfl]; simp
 | y :: ys=>(pieceBits_01 y 8 false).append (byteBits_01 ys)
end BlockMath
end Go.Proofs.YtklpiihnbokkkaaGreatDoor

namespace Go.Proofs.YtklpiihnbokkkaaGreatDoor
open Go.RowKit OutMath PutMath BitsMath BlockMath
def outSt (s:ByteArray) (c:Int):Option (ByteArray×Nat):=if outB s c=true then some (s,c.toNat) else none
def headBits (kind:Nat) (last:Bool):List Int:=pieceBits (if last then 1 else 0) 1 false ++ pieceBits (kind:Int) 2 false
theorem headBits_01 (kind:Nat) (last:Bool):Bits01 (headBits kind last):=(pieceBits_01 _ _ _).append (pieceBits_01 _ _ _)
theorem headBits_length (kind:Nat) (last:Bool):(headBits kind last).length=3:=by
 unfold headBits
 rw[List.length_append,pieceBits_length,pieceBits_length]
def storedBits (c:Nat) (t:ByteArray):List Int:=fillBits c ++ (pieceBits (t.size:Int) 16 false ++ (pieceBits (65535 - (t.size:Int)) 16 false ++ byteBits (numsOf t)))
def storedOut (s:ByteArray) (c:Int) (t:ByteArray) (last:Bool):Option (ByteArray×Nat):=
 if t.size≤2600 then (outSt s c).bind fun o=>bitsOut o (headBits 0 last ++ storedBits (o.2+3) t) else none
theorem byte_back:((fun n:Int=>UInt8.ofNat n.toNat) ∘ fun b:UInt8=>(b.toNat:Int))=id:=by
 funext b
 simp
theorem str_nums (s:ByteArray):strOfNums (numsOf s)=s:=by
 obtain⟨d⟩:=s
 simp[strOfNums,numsOf,byte_back]
def blkAns:Option (ByteArray×Nat)→Value
 | some o=>.tuple #[.agg #[.string o.1,.int .i64 (o.2:Int)],.bool true]
 | none=>.tuple #[.agg #[.string ⟨#[]⟩,.int .i64 0],.bool false]
theorem blkAns_form (o:Option (ByteArray×Nat)):∃ t n b,blkAns o=.tuple #[.agg #[.string t,.int .i64 n],.bool b]:=by
 cases o with
 | none=>exact⟨_,_,_,rfl⟩
 | some o=>exact⟨_,_,_,rfl⟩
end Go.Proofs.YtklpiihnbokkkaaGreatDoor

namespace Go.Proofs.YtklpiihnbokkkaaGreatDoor
namespace CodeMath
open OutMath
def OkLens (f:Nat→Int) (n:Nat):Prop:=∀ i,i < n→0≤f i∧f i≤15
def room (f:Nat→Int):Nat→Int
 | 0=>0
 | k+1=>room f k+(if 0 < f k then p2 (15 - f k).toNat else 0)
def cnt (f:Nat→Int):Nat→Int
 | 0=>0
 | k+1=>cnt f k+(if 0 < f k then 1 else 0)
def cntS (f:Nat→Int) (s:Int):Nat→Int
 | 0=>0
 | k+1=>cntS f s k+(if f k=s then 1 else 0)
def nx (f:Nat→Int) (n:Nat):Nat→Int
 | 0=>0
 | s+1=>2 * nx f n s+cntS f ((s+1:Nat):Int) n
def codeOf (f:Nat→Int) (n i:Nat):Int:=if f i≤0 then 0 else 2 * nx f n ((f i).toNat - 1)+cntS f (f i) i
theorem room_bd (f:Nat→Int):∀ k,0≤room f k∧(OkLens f k→room f k≤16384 * k)
 | 0=>by simp [room]
 | k+1=>by
  have h:=room_bd f k
  have hp:=p2_pos (15 - f k).toNat
  refine⟨by unfold room; split <;> omega,fun ho=>?_⟩
  have h2:=h.2 (fun i hi=>ho i (by omega))
  have h3:=ho k (by omega)
  have h4:0 < f k→p2 (15 - f k).toNat≤16384:=fun hf=>by
   have:=p2_le (show (15 - f k).toNat≤14 by omega)
   have e:p2 14=16384:=by decide +kernel
   omega
  unfold room
  split
  ·have:=h4 (by assumption); omega
  ·omega
theorem cnt_bd (f:Nat→Int):∀ k:Nat,0≤cnt f k∧cnt f k≤k
 | 0=>by simp [cnt]
 | k+1=>by have h:=cnt_bd f k; unfold cnt; split <;> omega
theorem cntS_bd (f:Nat→Int) (s:Int):∀ k:Nat,0≤cntS f s k∧cntS f s k≤k
 | 0=>by simp [cntS]
 | k+1=>by have h:=cntS_bd f s k; unfold cntS; split <;> omega
theorem cntS_mono (f : Nat → Int) (s : Int) {a : Nat} : ∀ {b : Nat}, a ≤ b → cntS f s a ≤ cntS f s b
  | 0, h => by have : a = 0 := by omega
               subst this; omega
  | b + 1, h => by
    by_cases e : a = b + 1
    · subst e; omega
    · have := cntS_mono f s (show a ≤ b by omega)
      show cntS f s a ≤ cntS f s b + (if f b = s then 1 else 0)
      split <;> omega
theorem cntS_lt (f:Nat→Int) (s:Int) {i n:Nat} (h:i < n) (e:f i=s):cntS f s i < cntS f s n:=by
 have h1:=cntS_mono f s (show i+1≤n by omega)
 have h2:cntS f s (i+1)=cntS f s i+1:=by
  show cntS f s i+(if f i=s then 1 else 0)=_
  rw[if_pos e]
 omega
theorem nx_bd (f:Nat→Int) (n:Nat) (hn:n≤288):∀ s,0≤nx f n s∧nx f n s+288≤288 * p2 s
 | 0=>by simp [nx,p2]
 | s+1=>by
  have h:=nx_bd f n hn s
  have hc:=cntS_bd f ((s+1:Nat):Int) n
  show 0≤2 * nx f n s+cntS f ((s+1:Nat):Int) n∧2 * nx f n s+cntS f ((s+1:Nat):Int) n+288≤_
  rw[p2_succ]
  omega
theorem nx_lt (f:Nat→Int) (n:Nat) (hn:n≤288) (s:Nat) (hs:s≤15):0≤nx f n s∧nx f n s≤9437184:=by
 have h:=nx_bd f n hn s
 have h2:=p2_le hs
 have e:p2 15=32768:=by decide +kernel
 omega
def kindOf (f:Nat→Int) (n:Nat):Int:=
 if cnt f n=0 then 1 else if room f n=32768 then 2 else if 32768 < room f n then 5 else if cnt f n=1∧room f n=16384 then 3 else 4
def Kind (f:Nat→Int) (n:Nat) (k:Int):Prop:=(k=0∧¬ (n≤288∧OkLens f n))∨(n≤288∧OkLens f n∧k=kindOf f n)
theorem nx_step (f:Nat→Int) (n t:Nat) (ht:1≤t):2 * nx f n (t - 1)+cntS f (t:Int) n=nx f n t:=by
 obtain⟨s,rfl⟩:∃ s,t=s+1:=⟨t - 1,by omega⟩
 rfl
def Coded (f:Nat→Int) (n:Nat):Prop:=n≤288∧OkLens f n∧room f n≤32768
theorem room_of_cnt (f:Nat→Int):∀ k,cnt f k=0→room f k=0
 | 0,_=>rfl
 | k+1,h=>by
  have hb:=cnt_bd f k
  have h':cnt f k+(if 0 < f k then 1 else 0)=0:=h
  by_cases hp:0 < f k
  ·rw[if_pos hp] at h'; omega
  ·rw[if_neg hp] at h'
   show room f k+(if 0 < f k then p2 (15 - f k).toNat else 0)=0
   rw[if_neg hp,room_of_cnt f k (by omega)]
   rfl
def cost (f c:Nat→Int):Nat→Int
 | 0=>0
 | k+1=>cost f c k+c k * f k
end CodeMath
end Go.Proofs.YtklpiihnbokkkaaGreatDoor

namespace Go.Proofs.YtklpiihnbokkkaaGreatDoor
namespace HitMath
open OutMath CodeMath TakeMath
def hi (s:ByteArray) (a:Nat):Nat→Int
 | 0=>0
 | k+1=>2 * hi s a k+bit s (a+k)
theorem hi_bd (s:ByteArray) (a:Nat):∀ k,0≤hi s a k∧hi s a k < p2 k
 | 0=>by simp [hi,p2]
 | k+1=>by
  have h:=hi_bd s a k
  have hb:=bit_01 s (a+k)
  unfold hi
  rw[p2_succ]
  omega
theorem p2_add (a b:Nat):p2 (a+b)=p2 a * p2 b:=by unfold p2; exact Int.pow_add 2 a b
theorem hi_div (s:ByteArray) (a k:Nat):∀ m,hi s a (k+m) / p2 m=hi s a k
 | 0=>by rw [p2_zero]; simp
 | m+1=>by
  have h:=hi_div s a k m
  have hb:=bit_01 s (a+(k+m))
  rw[p2_succ,← Int.ediv_ediv_of_nonneg (by omega)]
  have e:hi s a (k+(m+1)) / 2=hi s a (k+m):=by
   show (2 * hi s a (k+m)+bit s (a+(k+m))) / 2=_
   omega
  rw[e,h]
theorem nx_ge (f:Nat→Int) (n t:Nat):∀ d,p2 d * nx f n t≤nx f n (t+d)
 | 0=>by rw [p2_zero]; simp
 | d+1=>by
  have h:=nx_ge f n t d
  have hc:=cntS_bd f ((t+d+1:Nat):Int) n
  have e:nx f n (t+(d+1))=2 * nx f n (t+d)+cntS f ((t+d+1:Nat):Int) n:=rfl
  rw[e,p2_succ,Int.mul_assoc]
  omega
theorem code_in {f:Nat→Int} {n i k:Nat} (hi:i < n) (hk:1≤k) (e:f i=(k:Int)):2 * nx f n (k - 1)≤codeOf f n i∧codeOf f n i < nx f n k:=by
 unfold codeOf
 rw[if_neg (by omega),e,Int.toNat_natCast,← nx_step f n k hk]
 have h1:=cntS_bd f (k:Int) i
 have h2:=cntS_lt f (k:Int) hi e
 omega
theorem code_inj {f:Nat→Int} {n i j:Nat} (_hi:i < n) (_hj:j < n) (hp:0 < f i) (e:f i=f j) (h:codeOf f n i=codeOf f n j):i=j:=by
 unfold codeOf at h
 rw[if_neg (by omega),if_neg (by omega),e] at h
 rcases Nat.lt_trichotomy i j with q | q | q
 ·have:=cntS_lt f (f j) q e
  omega
 ·exact q
 ·have:=cntS_lt f (f j) q rfl
  omega
theorem prefix_free {f:Nat→Int} {n i j k d:Nat} (hi:i < n) (hj:j < n) (hk:1≤k) (ei:f i=(k:Int)) (ej:f j=((k+d:Nat):Int)) (h:codeOf f n j / p2 d=codeOf f n i):i=j:=by
 have hpd:=p2_pos d
 rcases Nat.eq_zero_or_pos d with rfl | hd
 ·rw[p2_zero,Int.ediv_one] at h
  exact code_inj hi hj (by omega) (by rw [ei,ej]; simp) h.symm
 ·exfalso
  have h1:=code_in hi hk ei
  have h2:=code_in hj (show 1≤k+d by omega) ej
  have h3:=nx_ge f n k (d - 1)
  have e2:k+d - 1=k+(d - 1):=by omega
  rw[e2] at h2
  have e3:p2 d=2 * p2 (d - 1):=by
   have:d=d - 1+1:=by omega
   rw[this,p2_succ]
   simp
  have h4:p2 d * nx f n k≤codeOf f n j:=by
   rw[e3,Int.mul_assoc]
   omega
  have h5:nx f n k≤codeOf f n j / p2 d:=by
   rw[Int.le_ediv_iff_mul_le (by omega),Int.mul_comm]
   exact h4
  omega
def part (s:Nat) (x:Int):Int:=if 1≤x∧x≤(s:Int) then p2 (s - x.toNat) else 0
theorem nx_add (f:Nat→Int) (n:Nat):∀ s,nx f (n+1) s=nx f n s+part s (f n)
 | 0=>by
  show (0:Int)=0+part 0 (f n)
  unfold part
  rw[if_neg (by omega)]
  rfl
 | s+1=>by
  show 2 * nx f (n+1) s+(cntS f ((s+1:Nat):Int) n+(if f n=((s+1:Nat):Int) then 1 else 0))=2 * nx f n s+cntS f ((s+1:Nat):Int) n+part (s+1) (f n)
  rw[nx_add f n s]
  unfold part
  by_cases h1:1≤f n∧f n≤(s:Int)
  ·rw[if_pos h1,if_neg (by omega),if_pos (by omega),show s+1 - (f n).toNat=s - (f n).toNat+1 by omega,p2_succ]
   omega
  ·by_cases h2:f n=((s+1:Nat):Int)
   ·rw[if_neg h1,if_pos h2,if_pos (by omega),show s+1 - (f n).toNat=0 by omega,p2_zero]
    omega
   ·rw[if_neg h1,if_neg h2,if_neg (by omega)]
    omega
theorem room_nx (f:Nat→Int):∀ n,OkLens f n→room f n=nx f n 15
 | 0,_=>by
  have e:∀ s,nx f 0 s=0:=by
   intro s
   induction s with
   | zero=>rfl
   | succ s ih=>show 2 * nx f 0 s+0=0; omega
  rw[e]
  rfl
 | n+1,h=>by
  have hn:=h n (by omega)
  rw[nx_add,← room_nx f n (fun i hi=>h i (by omega))]
  show room f n+(if 0 < f n then p2 (15 - f n).toNat else 0)=room f n+part 15 (f n)
  unfold part
  by_cases hp:0 < f n
  ·rw[if_pos hp,if_pos (by omega),show (15 - f n).toNat=15 - (f n).toNat by omega]
  ·rw[if_neg hp,if_neg (by omega)]
theorem nx_le {f:Nat→Int} {n:Nat} (h:Coded f n) (k:Nat) (hk:k≤15):nx f n k≤p2 k:=by
 obtain⟨_,h2,h3⟩:=h
 rw[room_nx f n h2] at h3
 have h4:=nx_ge f n k (15 - k)
 rw[show k+(15 - k)=15 by omega] at h4
 have e:p2 15=p2 (15 - k) * p2 k:=by rw [← p2_add,show 15 - k+k=15 by omega]
 have e2:p2 15=32768:=by decide +kernel
 have hp:=p2_pos (15 - k)
 exact Int.le_of_mul_le_mul_left (by omega) (show 0 < p2 (15 - k) by omega)
theorem code_lt {f:Nat→Int} {n i:Nat} (h:Coded f n) (hi:i < n):0≤codeOf f n i∧codeOf f n i < p2 (f i).toNat:=by
 have hok:=h.2.1 i hi
 by_cases hp:0 < f i
 ·have h1:=code_in hi (show 1≤(f i).toNat by omega) (show f i=((f i).toNat:Int) by omega)
  have h2:=nx_le h (f i).toNat (by omega)
  have h3:=(nx_bd f n h.1 ((f i).toNat - 1)).1
  omega
 ·unfold codeOf
  rw[if_pos (by omega)]
  have:=p2_pos (f i).toNat
  omega
def Hit (f:Nat→Int) (n:Nat) (s:ByteArray) (a:Nat) (i k:Nat):Prop:=i < n∧1≤k∧f i=(k:Int)∧codeOf f n i=hi s a k∧a+k≤8 * s.size
theorem hit_le {f:Nat→Int} {n:Nat} {s:ByteArray} {a i k j l:Nat} (h:Hit f n s a i k) (h':Hit f n s a j l) (hkl:k≤l):i=j∧k=l:=by
 obtain⟨h1,h2,h3,h4,h5⟩:=h
 obtain⟨g1,g2,g3,g4,g5⟩:=h'
 obtain⟨d,rfl⟩:=Nat.exists_eq_add_of_le hkl
 have e:i=j:=prefix_free h1 g1 h2 h3 g3 (by rw [g4,h4,hi_div])
 subst e
 exact⟨rfl,by omega⟩
theorem hit_one {f:Nat→Int} {n:Nat} {s:ByteArray} {a i k j l:Nat} (h:Hit f n s a i k) (h':Hit f n s a j l):i=j∧k=l:=by
 rcases Nat.le_total k l with q | q
 ·exact hit_le h h' q
 ·have:=hit_le h' h q
  exact⟨this.1.symm,this.2.symm⟩
end HitMath
open OutMath CodeMath TakeMath HitMath
end Go.Proofs.YtklpiihnbokkkaaGreatDoor

namespace Go.Proofs.YtklpiihnbokkkaaGreatDoor.WayMath
open OutMath CodeMath TakeMath HitMath
def Begins (f:Nat→Int) (n:Nat) (s:ByteArray) (a k:Nat):Prop:=∃ i,i < n∧f i≠0∧(k:Int)≤f i∧codeOf f n i / p2 (f i - k).toNat=hi s a k
def RunsOut (f:Nat→Int) (n:Nat) (s:ByteArray) (a:Nat):Prop:=(∀ i k,¬ Hit f n s a i k)∧∃ k,a+k=8 * s.size∧∀ j,j≤k→Begins f n s a j
def NoneBegins (f:Nat→Int) (n:Nat) (s:ByteArray) (a:Nat):Prop:=(∀ i k,¬ Hit f n s a i k)∧∃ k,a+k≤8 * s.size∧¬ Begins f n s a k
theorem out_not {f:Nat→Int} {n:Nat} {s:ByteArray} {a:Nat} (h:RunsOut f n s a):¬ NoneBegins f n s a:=fun h'=>by
 obtain⟨_,k,hk,hb⟩:=h
 obtain⟨_,k',hk',hn⟩:=h'
 exact hn (hb k' (by omega))
open Classical in
noncomputable def symW (f : Nat → Int) (n : Nat) (s : ByteArray) (a : Nat) : Nat × Nat × Nat :=
  if h : ∃ p : Nat × Nat, Hit f n s a p.1 p.2 then ((Classical.choose h).1, (Classical.choose h).2, 0) else if RunsOut f n s a then (0, 0, 2) else (0, 0, 1)
section
variable {f:Nat→Int} {n:Nat} {s:ByteArray} {a:Nat}
theorem symW_hit {i k:Nat} (h:Hit f n s a i k):symW f n s a=(i,k,0):=by
 have hex:∃ p:Nat×Nat,Hit f n s a p.1 p.2:=⟨(i,k),h⟩
 unfold symW
 rw[dif_pos hex]
 have h1:=Classical.choose_spec hex
 obtain⟨e1,e2⟩:=hit_one h1 h
 rw[e1,e2]
theorem symW_out (h:RunsOut f n s a):symW f n s a=(0,0,2):=by
 unfold symW
 rw[dif_neg (fun ⟨p,hp⟩=>h.1 p.1 p.2 hp),if_pos h]
theorem symW_none (h:NoneBegins f n s a):symW f n s a=(0,0,1):=by
 unfold symW
 rw[dif_neg (fun ⟨p,hp⟩=>h.1 p.1 p.2 hp),if_neg (fun k=>out_not k h)]
theorem hit_begins {i k j:Nat} (h:Hit f n s a i k) (hj:j≤k):Begins f n s a j:=by
 obtain⟨h1,h2,h3,h4,_⟩:=h
 refine⟨i,h1,by omega,by omega,?_⟩
 obtain⟨d,rfl⟩:=Nat.exists_eq_add_of_le hj
 have e:(f i - (j:Int)).toNat=d:=by omega
 rw[e,h4]
 exact hi_div s a j d
theorem begins_less {k j:Nat} (h:Begins f n s a k) (hj:j≤k) (_hc:∀ i,0≤codeOf f n i):Begins f n s a j:=by
 obtain⟨i,h1,h2,h3,h4⟩:=h
 refine⟨i,h1,h2,by omega,?_⟩
 obtain⟨d,rfl⟩:=Nat.exists_eq_add_of_le hj
 have e:(f i - (j:Int)).toNat=(f i - ((j+d:Nat):Int)).toNat+d:=by omega
 rw[e,p2_add,← Int.ediv_ediv_of_nonneg (Int.le_of_lt (p2_pos _)),h4]
 exact hi_div s a j d
end
theorem symW_small {f:Nat→Int} {n:Nat} {s:ByteArray} {a:Nat}:(symW f n s a).2.2=0∧Hit f n s a (symW f n s a).1 (symW f n s a).2.1∨(symW f n s a).2.2=2∧RunsOut f n s a∨(symW f n s a).2.2=1:=by
 by_cases h:∃ p:Nat×Nat,Hit f n s a p.1 p.2
 ·obtain⟨⟨i,k⟩,h⟩:=h
  rw[symW_hit h]
  exact .inl ⟨rfl,h⟩
 ·by_cases h2:RunsOut f n s a
  ·rw[symW_out h2]
   exact .inr (.inl ⟨rfl,h2⟩)
  ·right; right
   unfold symW
   rw[dif_neg h,if_neg h2]
end Go.Proofs.YtklpiihnbokkkaaGreatDoor.WayMath
