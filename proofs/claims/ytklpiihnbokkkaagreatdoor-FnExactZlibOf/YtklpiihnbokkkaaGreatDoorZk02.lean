/-
  Texts of the proof, put together.
-/
import Derived.Test.YtklpiihnbokkkaaGreatDoorZk01
namespace Go.Proofs.YtklpiihnbokkkaaGreatDoor
open Go.RowKit OutMath PutMath BitsMath BlockMath
def outSt (s:ByteArray) (c:Int):Option (ByteArray×Nat):=if outB s c=true then some (s,c.toNat) else none
theorem outSt_isNone (s:ByteArray) (c:Int):(outSt s c).isNone=!outB s c:=by
 unfold outSt
 cases outB s c <;> rfl
def headBits (kind:Nat) (last:Bool):List Int:=pieceBits (if last then 1 else 0) 1 false ++ pieceBits (kind:Int) 2 false
theorem headBits_01 (kind:Nat) (last:Bool):Bits01 (headBits kind last):=(pieceBits_01 _ _ _).append (pieceBits_01 _ _ _)
theorem headBits_length (kind:Nat) (last:Bool):(headBits kind last).length=3:=by
 unfold headBits
 rw[List.length_append,pieceBits_length,pieceBits_length]
theorem bind_bits (st:Option (ByteArray×Nat)) {a:List Int} (b:List Int) (h:Bits01 a):((st.bind fun o=>bitsOut o a).bind fun o=>bitsOut o b)=st.bind fun o=>bitsOut o (a ++ b):=by
 cases st with
 | none=>rfl
 | some o=>exact (bitsOut_append o b h).symm
def storedBits (c:Nat) (t:ByteArray):List Int:=fillBits c ++ (pieceBits (t.size:Int) 16 false ++ (pieceBits (65535 - (t.size:Int)) 16 false ++ byteBits (numsOf t)))
def storedOut (s:ByteArray) (c:Int) (t:ByteArray) (last:Bool):Option (ByteArray×Nat):=
 if t.size≤2600 then (outSt s c).bind fun o=>bitsOut o (headBits 0 last ++ storedBits (o.2+3) t) else none
theorem byte_back:((fun n:Int=>UInt8.ofNat n.toNat) ∘ fun b:UInt8=>(b.toNat:Int))=id:=by
 funext b
 simp
theorem str_nums (s:ByteArray):strOfNums (numsOf s)=s:=by
 obtain⟨d⟩:=s
 simp[strOfNums,numsOf,byte_back]
theorem str_two (s t:ByteArray):strOfNums (numsOf s ++ numsOf t)=s ++ t:=by
 have h:(s ++ t).data=s.data ++ t.data:=ByteArray.data_append
 have e:strOfNums (numsOf s ++ numsOf t)=⟨s.data ++ t.data⟩:=by
  simp[strOfNums,numsOf,byte_back]
 rw[e,← h]
theorem fill_bits {s:ByteArray} {c:Nat} (h:outB s c=true):bitsOut (s,c) (fillBits c)=some (s,8 * s.size):=by
 have hi:=bytes_inv s c h
 have hf:=fits_of_outB s c h
 obtain⟨q1,q2,q3,q4⟩:=hf
 have hl:c+(fillBits c).length=8 * s.size:=by rw [fillBits_length]; omega
 rw[bitsOut_some h (by rw [hl]; omega),hl,show putB (numsOf s) c (fillBits c)=numsOf s from putB_fill hi,str_nums]
theorem text_bits {s t:ByteArray} {c:Nat} (h:outB s c=true) (h8:c % 8=0):bitsOut (s,c) (byteBits (numsOf t))=if s.size+t.size≤12000 then some (s ++ t,c+8 * t.size) else none:=by
 have hi:=bytes_inv s c h
 have hf:=fits_of_outB s c h
 obtain⟨q1,q2,q3,q4⟩:=hf
 have hl:(byteBits (numsOf t)).length=8 * t.size:=by rw [byteBits_length,numsOf_length]
 by_cases hr:s.size+t.size≤12000
 ·rw[if_pos hr,bitsOut_some h (by rw [hl]; omega),hl,putB_bytes _ _ _ (by rw [numsOf_length]; omega) h8 (numsOf_allB t)]
  rw[str_two]
 ·rw[if_neg hr,bitsOut_none (fun q=>hr (by have:=q.2; rw [hl] at this; omega))]
theorem stored_parts {s:ByteArray} {c:Int} {t:ByteArray} {last:Bool} (h:t.size≤2600):storedOut s c t last=((outSt s c).bind fun o=>bitsOut o (headBits 0 last)).bind fun o=>bitsOut o (storedBits o.2 t):=by
 unfold storedOut
 rw[if_pos h]
 cases outSt s c with
 | none=>rfl
 | some o=>
  show bitsOut o (headBits 0 last ++ storedBits (o.2+3) t)=(bitsOut o (headBits 0 last)).bind fun o=>bitsOut o (storedBits o.2 t)
  rw[bitsOut_append _ _ (headBits_01 0 last)]
  cases h1:bitsOut o (headBits 0 last) with
  | none=>rfl
  | some o1=>
   have:=(bitsOut_right h1 (headBits_01 0 last)).2.1
   rw[headBits_length] at this
   show bitsOut o1 _=bitsOut o1 _
   rw[this]
def storedNums (s1:ByteArray) (t:ByteArray):Option (ByteArray×Nat):=(bitsOut (s1,8 * s1.size) (pieceBits (t.size:Int) 16 false)).bind fun o=>bitsOut o (pieceBits (65535 - (t.size:Int)) 16 false)
theorem stored_end {s1 t:ByteArray} {c1:Nat} (h:outB s1 c1=true):bitsOut (s1,c1) (storedBits c1 t)=(storedNums s1 t).bind fun o=>if o.1.size+t.size≤12000 then some (o.1 ++ t,o.2+8 * t.size) else none:=by
 unfold storedBits storedNums
 have hf:=(bitsOut_right (fill_bits h) (fillBits_01 c1)).1
 rw[bitsOut_append _ _ (fillBits_01 c1),fill_bits h]
 show bitsOut (s1,8 * s1.size) _=_
 rw[bitsOut_append _ _ (pieceBits_01 _ _ _)]
 cases h2:bitsOut (s1,8 * s1.size) (pieceBits (t.size:Int) 16 false) with
 | none=>rfl
 | some o2=>
  have k2:=bitsOut_right h2 (pieceBits_01 _ _ _)
  show bitsOut o2 _=(bitsOut o2 _).bind _
  rw[bitsOut_append _ _ (pieceBits_01 _ _ _)]
  cases h3:bitsOut o2 (pieceBits (65535 - (t.size:Int)) 16 false) with
  | none=>rfl
  | some o3=>
   have k3:=bitsOut_right h3 (pieceBits_01 _ _ _)
   obtain⟨s3,c3⟩:=o3
   have e2:=k2.2.1
   have e3:=k3.2.1
   rw[pieceBits_length] at e2 e3
   exact text_bits k3.1 (by simp only [] at e2 e3 ⊢; omega)
def blkAns:Option (ByteArray×Nat)→Value
 | some o=>.tuple #[.agg #[.string o.1,.int .i64 (o.2:Int)],.bool true]
 | none=>.tuple #[.agg #[.string ⟨#[]⟩,.int .i64 0],.bool false]
theorem blkAns_form (o:Option (ByteArray×Nat)):∃ t n b,blkAns o=.tuple #[.agg #[.string t,.int .i64 n],.bool b]:=by
 cases o with
 | none=>exact⟨_,_,_,rfl⟩
 | some o=>exact⟨_,_,_,rfl⟩
end Go.Proofs.YtklpiihnbokkkaaGreatDoor

namespace Go.Proofs.YtklpiihnbokkkaaGreatDoor
namespace CodeMath
open OutMath
def OkLens (f:Nat→Int) (n:Nat):Prop:=∀ i,i < n→0≤f i∧f i≤15
def room (f:Nat→Int):Nat→Int
 | 0=>0
 | k+1=>room f k+(if 0 < f k then p2 (15 - f k).toNat else 0)
def cnt (f:Nat→Int):Nat→Int
 | 0=>0
 | k+1=>cnt f k+(if 0 < f k then 1 else 0)
def cntS (f:Nat→Int) (s:Int):Nat→Int
 | 0=>0
 | k+1=>cntS f s k+(if f k=s then 1 else 0)
def nx (f:Nat→Int) (n:Nat):Nat→Int
 | 0=>0
 | s+1=>2 * nx f n s+cntS f ((s+1:Nat):Int) n
def codeOf (f:Nat→Int) (n i:Nat):Int:=if f i≤0 then 0 else 2 * nx f n ((f i).toNat - 1)+cntS f (f i) i
theorem room_bd (f:Nat→Int):∀ k,0≤room f k∧(OkLens f k→room f k≤16384 * k)
 | 0=>by simp [room]
 | k+1=>by
  have h:=room_bd f k
  have hp:=p2_pos (15 - f k).toNat
  refine⟨by unfold room; split <;> omega,fun ho=>?_⟩
  have h2:=h.2 (fun i hi=>ho i (by omega))
  have h3:=ho k (by omega)
  have h4:0 < f k→p2 (15 - f k).toNat≤16384:=fun hf=>by
   have:=p2_le (show (15 - f k).toNat≤14 by omega)
   have e:p2 14=16384:=by decide +kernel
   omega
  unfold room
  split
  ·have:=h4 (by assumption); omega
  ·omega
theorem cnt_bd (f:Nat→Int):∀ k:Nat,0≤cnt f k∧cnt f k≤k
 | 0=>by simp [cnt]
 | k+1=>by have h:=cnt_bd f k; unfold cnt; split <;> omega
theorem cntS_bd (f:Nat→Int) (s:Int):∀ k:Nat,0≤cntS f s k∧cntS f s k≤k
 | 0=>by simp [cntS]
 | k+1=>by have h:=cntS_bd f s k; unfold cntS; split <;> omega
theorem cntS_mono (f : Nat → Int) (s : Int) {a : Nat} : ∀ {b : Nat}, a ≤ b → cntS f s a ≤ cntS f s b
  | 0, h => by have : a = 0 := by omega
               subst this; omega
  | b + 1, h => by
    by_cases e : a = b + 1
    · subst e; omega
    · have := cntS_mono f s (show a ≤ b by omega)
      show cntS f s a ≤ cntS f s b + (if f b = s then 1 else 0)
      split <;> omega
theorem cntS_lt (f:Nat→Int) (s:Int) {i n:Nat} (h:i < n) (e:f i=s):cntS f s i < cntS f s n:=by
 have h1:=cntS_mono f s (show i+1≤n by omega)
 have h2:cntS f s (i+1)=cntS f s i+1:=by
  show cntS f s i+(if f i=s then 1 else 0)=_
  rw[if_pos e]
 omega
theorem nx_bd (f:Nat→Int) (n:Nat) (hn:n≤288):∀ s,0≤nx f n s∧nx f n s+288≤288 * p2 s
 | 0=>by simp [nx,p2]
 | s+1=>by
  have h:=nx_bd f n hn s
  have hc:=cntS_bd f ((s+1:Nat):Int) n
  show 0≤2 * nx f n s+cntS f ((s+1:Nat):Int) n∧2 * nx f n s+cntS f ((s+1:Nat):Int) n+288≤_
  rw[p2_succ]
  omega
theorem nx_lt (f:Nat→Int) (n:Nat) (hn:n≤288) (s:Nat) (hs:s≤15):0≤nx f n s∧nx f n s≤9437184:=by
 have h:=nx_bd f n hn s
 have h2:=p2_le hs
 have e:p2 15=32768:=by decide +kernel
 omega
def kindOf (f:Nat→Int) (n:Nat):Int:=
 if cnt f n=0 then 1 else if room f n=32768 then 2 else if 32768 < room f n then 5 else if cnt f n=1∧room f n=16384 then 3 else 4
def Kind (f:Nat→Int) (n:Nat) (k:Int):Prop:=(k=0∧¬ (n≤288∧OkLens f n))∨(n≤288∧OkLens f n∧k=kindOf f n)
theorem kindOf_bd (f:Nat→Int) (n:Nat):1≤kindOf f n∧kindOf f n≤5:=by
 unfold kindOf
 split
 ·omega
 ·split
  ·omega
  ·split
   ·omega
   ·split <;> omega
def outAt (f:Nat→Int) (n:Nat) (s:Int) (i:Nat):Nat→Int:=fun j=>if 0 < f j∧(f j < s∨f j=s∧j < i) then codeOf f n j else 0
theorem outAt_start (f:Nat→Int) (n j:Nat):outAt f n 1 0 j=0:=by
 unfold outAt
 rw[if_neg (by omega)]
theorem outAt_here (f:Nat→Int) (n:Nat) (t j:Nat) (ht:1≤t) (e:f j=(t:Int)) (i:Nat):(if i=j then 2 * nx f n (t - 1)+cntS f (t:Int) j else outAt f n t j i)=outAt f n t (j+1) i:=by
 by_cases hij:i=j
 ·subst hij
  rw[if_pos rfl]
  unfold outAt
  rw[if_pos (by omega)]
  unfold codeOf
  rw[if_neg (by omega),e,Int.toNat_natCast]
 ·rw[if_neg hij]
  unfold outAt
  by_cases h:0 < f i∧(f i < (t:Int)∨f i=(t:Int)∧i < j)
  ·rw[if_pos h,if_pos (by omega)]
  ·rw[if_neg h,if_neg (by omega)]
theorem outAt_skip (f:Nat→Int) (n:Nat) (t j:Nat) (e:¬ f j=(t:Int)) (i:Nat):outAt f n t j i=outAt f n t (j+1) i:=by
 unfold outAt
 by_cases h:0 < f i∧(f i < (t:Int)∨f i=(t:Int)∧i < j)
 ·rw[if_pos h,if_pos (by omega)]
 ·rw[if_neg h,if_neg ?_]
  intro k
  by_cases hij:i=j
  ·subst hij; omega
  ·omega
theorem outAt_turn (f:Nat→Int) (n t i:Nat) (hi:i < n):outAt f n t n i=outAt f n ((t+1:Nat):Int) 0 i:=by
 unfold outAt
 by_cases h:0 < f i∧(f i < (t:Int)∨f i=(t:Int)∧i < n)
 ·rw[if_pos h,if_pos (by omega)]
 ·rw[if_neg h,if_neg (by omega)]
theorem outAt_end (f:Nat→Int) (n i:Nat) (h:f i≤15):outAt f n ((16:Nat):Int) 0 i=codeOf f n i:=by
 unfold outAt
 by_cases k:0 < f i
 ·rw[if_pos (by omega)]
 ·rw[if_neg (by omega)]
  unfold codeOf
  rw[if_pos (by omega)]
theorem nx_step (f:Nat→Int) (n t:Nat) (ht:1≤t):2 * nx f n (t - 1)+cntS f (t:Int) n=nx f n t:=by
 obtain⟨s,rfl⟩:∃ s,t=s+1:=⟨t - 1,by omega⟩
 rfl
def Coded (f:Nat→Int) (n:Nat):Prop:=n≤288∧OkLens f n∧room f n≤32768
theorem room_of_cnt (f:Nat→Int):∀ k,cnt f k=0→room f k=0
 | 0,_=>rfl
 | k+1,h=>by
  have hb:=cnt_bd f k
  have h':cnt f k+(if 0 < f k then 1 else 0)=0:=h
  by_cases hp:0 < f k
  ·rw[if_pos hp] at h'; omega
  ·rw[if_neg hp] at h'
   show room f k+(if 0 < f k then p2 (15 - f k).toNat else 0)=0
   rw[if_neg hp,room_of_cnt f k (by omega)]
   rfl
theorem kind_good {f:Nat→Int} {n:Nat} {k:Int} (h:Kind f n k) (hG:Coded f n):k≠0∧k≠5:=by
 obtain⟨h1,h2,h3⟩:=hG
 rcases h with ⟨_,h⟩ | ⟨_,_,h⟩
 ·exact absurd ⟨h1,h2⟩ h
 ·have hb:=kindOf_bd f n
  refine⟨by omega,?_⟩
  rw[h]
  unfold kindOf
  split
  ·omega
  ·split
   ·omega
   ·rw[if_neg (by omega)]
    split <;> omega
theorem kind_bad {f:Nat→Int} {n:Nat} {k:Int} (h:Kind f n k) (hB:¬ Coded f n):k=0∨k=5:=by
 rcases h with ⟨h,_⟩ | ⟨h1,h2,h⟩
 ·exact .inl h
 ·right
  have hr:32768 < room f n:=by
   by_cases hq:32768 < room f n
   ·exact hq
   ·exact absurd ⟨h1,h2,by omega⟩ hB
  have hc:¬ cnt f n=0:=fun e=>by have:=room_of_cnt f n e; omega
  rw[h]
  unfold kindOf
  rw[if_neg hc,if_neg (by omega),if_pos hr]
def cost (f c:Nat→Int):Nat→Int
 | 0=>0
 | k+1=>cost f c k+c k * f k
end CodeMath
end Go.Proofs.YtklpiihnbokkkaaGreatDoor

namespace Go.Proofs.YtklpiihnbokkkaaGreatDoor
namespace HitMath
open OutMath CodeMath TakeMath
def hi (s:ByteArray) (a:Nat):Nat→Int
 | 0=>0
 | k+1=>2 * hi s a k+bit s (a+k)
theorem p2_add (a b:Nat):p2 (a+b)=p2 a * p2 b:=by unfold p2; exact Int.pow_add 2 a b
theorem nx_ge (f:Nat→Int) (n t:Nat):∀ d,p2 d * nx f n t≤nx f n (t+d)
 | 0=>by rw [p2_zero]; simp
 | d+1=>by
  have h:=nx_ge f n t d
  have hc:=cntS_bd f ((t+d+1:Nat):Int) n
  have e:nx f n (t+(d+1))=2 * nx f n (t+d)+cntS f ((t+d+1:Nat):Int) n:=rfl
  rw[e,p2_succ,Int.mul_assoc]
  omega
theorem code_in {f:Nat→Int} {n i k:Nat} (hi:i < n) (hk:1≤k) (e:f i=(k:Int)):2 * nx f n (k - 1)≤codeOf f n i∧codeOf f n i < nx f n k:=by
 unfold codeOf
 rw[if_neg (by omega),e,Int.toNat_natCast,← nx_step f n k hk]
 have h1:=cntS_bd f (k:Int) i
 have h2:=cntS_lt f (k:Int) hi e
 omega
def part (s:Nat) (x:Int):Int:=if 1≤x∧x≤(s:Int) then p2 (s - x.toNat) else 0
theorem nx_add (f:Nat→Int) (n:Nat):∀ s,nx f (n+1) s=nx f n s+part s (f n)
 | 0=>by
  show (0:Int)=0+part 0 (f n)
  unfold part
  rw[if_neg (by omega)]
  rfl
 | s+1=>by
  show 2 * nx f (n+1) s+(cntS f ((s+1:Nat):Int) n+(if f n=((s+1:Nat):Int) then 1 else 0))=2 * nx f n s+cntS f ((s+1:Nat):Int) n+part (s+1) (f n)
  rw[nx_add f n s]
  unfold part
  by_cases h1:1≤f n∧f n≤(s:Int)
  ·rw[if_pos h1,if_neg (by omega),if_pos (by omega),show s+1 - (f n).toNat=s - (f n).toNat+1 by omega,p2_succ]
   omega
  ·by_cases h2:f n=((s+1:Nat):Int)
   ·rw[if_neg h1,if_pos h2,if_pos (by omega),show s+1 - (f n).toNat=0 by omega,p2_zero]
    omega
   ·rw[if_neg h1,if_neg h2,if_neg (by omega)]
    omega
theorem room_nx (f:Nat→Int):∀ n,OkLens f n→room f n=nx f n 15
 | 0,_=>by
  have e:∀ s,nx f 0 s=0:=by
   intro s
   induction s with
   | zero=>rfl
   | succ s ih=>show 2 * nx f 0 s+0=0; omega
  rw[e]
  rfl
 | n+1,h=>by
  have hn:=h n (by omega)
  rw[nx_add,← room_nx f n (fun i hi=>h i (by omega))]
  show room f n+(if 0 < f n then p2 (15 - f n).toNat else 0)=room f n+part 15 (f n)
  unfold part
  by_cases hp:0 < f n
  ·rw[if_pos hp,if_pos (by omega),show (15 - f n).toNat=15 - (f n).toNat by omega]
  ·rw[if_neg hp,if_neg (by omega)]
theorem nx_le {f:Nat→Int} {n:Nat} (h:Coded f n) (k:Nat) (hk:k≤15):nx f n k≤p2 k:=by
 obtain⟨_,h2,h3⟩:=h
 rw[room_nx f n h2] at h3
 have h4:=nx_ge f n k (15 - k)
 rw[show k+(15 - k)=15 by omega] at h4
 have e:p2 15=p2 (15 - k) * p2 k:=by rw [← p2_add,show 15 - k+k=15 by omega]
 have e2:p2 15=32768:=by decide +kernel
 have hp:=p2_pos (15 - k)
 exact Int.le_of_mul_le_mul_left (by omega) (show 0 < p2 (15 - k) by omega)
theorem code_lt {f:Nat→Int} {n i:Nat} (h:Coded f n) (hi:i < n):0≤codeOf f n i∧codeOf f n i < p2 (f i).toNat:=by
 have hok:=h.2.1 i hi
 by_cases hp:0 < f i
 ·have h1:=code_in hi (show 1≤(f i).toNat by omega) (show f i=((f i).toNat:Int) by omega)
  have h2:=nx_le h (f i).toNat (by omega)
  have h3:=(nx_bd f n h.1 ((f i).toNat - 1)).1
  omega
 ·unfold codeOf
  rw[if_pos (by omega)]
  have:=p2_pos (f i).toNat
  omega
end HitMath
open OutMath CodeMath TakeMath HitMath
end Go.Proofs.YtklpiihnbokkkaaGreatDoor

namespace Go.Proofs.YtklpiihnbokkkaaGreatDoor.RunsMath
def sameN (f:Nat→Int) (n:Nat) (x:Int):Nat→Nat→Nat
 | 0,_=>0
 | m+1,i=>if i < n∧f i=x then 1+sameN f n x m (i+1) else 0
theorem same_le (f:Nat→Int) (n:Nat) (x:Int):∀ m i,sameN f n x m i≤m
 | 0,_=>Nat.le_refl _
 | m+1,i=>by
  have:=same_le f n x m (i+1)
  unfold sameN
  split <;> omega
theorem same_in (f:Nat→Int) (n:Nat) (x:Int):∀ m i,i≤n→i+sameN f n x m i≤n
 | 0,i,h=>h
 | m+1,i,h=>by
  unfold sameN
  split
  ·rename_i q
   have:=same_in f n x m (i+1) (by omega)
   omega
  ·omega
theorem same_told {f:Nat→Int} {n:Nat} {x:Int}:∀ {m i k:Nat},k≤m→i+k≤n→(∀ j,j < k→f (i+j)=x)→(k=m∨i+k=n∨f (i+k)≠x)→sameN f n x m i=k
 | 0,i,k,h1,_,_,_=>by
  obtain rfl:k=0:=by omega
  rfl
 | m+1,i,k,h1,h2,h3,h4=>by
  unfold sameN
  cases k with
  | zero=>
   rw[if_neg]
   rintro⟨q1,q2⟩
   rcases h4 with h | h | h
   ·omega
   ·omega
   ·exact h q2
  | succ k=>
   rw[if_pos ⟨by omega,h3 0 (by omega)⟩]
   have:=same_told (f:=f) (n:=n) (x:=x) (m:=m) (i:=i+1) (k:=k) (by omega) (by omega) (fun j hj=>by rw [show i+1+j=i+(j+1) by omega]; exact h3 (j+1) (by omega)) (by
    rcases h4 with h | h | h
    ·exact .inl (by omega)
    ·exact .inr (.inl (by omega))
    ·exact .inr (.inr (by rw [show i+1+k=i+(k+1) by omega]; exact h)))
   omega
def zerosAt (f:Nat→Int) (n i:Nat):Nat:=sameN f n 0 138 i
def sameAt (f:Nat→Int) (n i:Nat):Nat:=if i=0 then 0 else sameN f n (f (i - 1)) 6 i
def runAt (f:Nat→Int) (n i:Nat):(Int×Int)×Nat:=
 if 11≤zerosAt f n i then ((18,(zerosAt f n i:Int) - 11),zerosAt f n i)
 else if 3≤zerosAt f n i then ((17,(zerosAt f n i:Int) - 3),zerosAt f n i)
 else if 3≤sameAt f n i then ((16,(sameAt f n i:Int) - 3),sameAt f n i)
 else ((f i,0),1)
theorem zeros_le (f:Nat→Int) (n i:Nat):zerosAt f n i≤138:=same_le _ _ _ _ _
theorem sameAt_le (f:Nat→Int) (n i:Nat):sameAt f n i≤6:=by
 unfold sameAt
 split
 ·omega
 ·exact same_le _ _ _ _ _
theorem runAt_pos (f:Nat→Int) (n i:Nat):1≤(runAt f n i).2:=by
 unfold runAt
 split
 ·show 1≤zerosAt f n i; omega
 ·split
  ·show 1≤zerosAt f n i; omega
  ·split
   ·show 1≤sameAt f n i; omega
   ·exact Nat.le_refl _
theorem sameAt_in {f:Nat→Int} {n i:Nat} (h:i≤n):i+sameAt f n i≤n:=by
 unfold sameAt
 split
 ·omega
 ·exact same_in _ _ _ _ _ h
theorem runAt_in {f:Nat→Int} {n i:Nat} (h:i < n):i+(runAt f n i).2≤n:=by
 have h1:i+zerosAt f n i≤n:=same_in f n 0 138 i (by omega)
 have h2:=sameAt_in (f:=f) (show i≤n by omega)
 unfold runAt
 split
 ·exact h1
 ·split
  ·exact h1
  ·split
   ·exact h2
   ·exact h
def rest (f:Nat→Int) (n:Nat) (i:Nat):List (Int×Int):=
 if i < n then (runAt f n i).1 :: rest f n (i+max 1 (runAt f n i).2) else []
termination_by n - i
decreasing_by omega
theorem rest_more {f:Nat→Int} {n i:Nat} (h:i < n):rest f n i=(runAt f n i).1 :: rest f n (i+(runAt f n i).2):=by
 rw[rest,if_pos h,Nat.max_eq_right (runAt_pos f n i)]
theorem rest_none {f:Nat→Int} {n i:Nat} (h:¬ i < n):rest f n i=[]:=by rw [rest,if_neg h]
theorem rest_length (f:Nat→Int) (n:Nat):∀ d i,n - i=d→(rest f n i).length≤n - i:=by
 intro d
 induction d using Nat.strongRecOn with
 | _ d ih=>
  intro i hd
  by_cases h:i < n
  ·rw[rest_more h,List.length_cons]
   have h1:=runAt_pos f n i
   have h2:=ih (n - (i+(runAt f n i).2)) (by omega) (i+(runAt f n i).2) rfl
   omega
  ·rw[rest_none h]
   exact Nat.zero_le _
def bitsOf (s:Int):Nat:=if s=16 then 2 else if s=17 then 3 else if s=18 then 7 else 0
def Fine (f:Nat→Int) (n:Nat):Prop:=∀ i,i < n→0≤f i∧f i≤15
theorem runAt_fine {f:Nat→Int} {n i:Nat} (hf:Fine f n) (hi:i < n):0≤(runAt f n i).1.2∧(runAt f n i).1.2 < 2 ^ bitsOf (runAt f n i).1.1:=by
 have h1:=zeros_le f n i
 have h2:=sameAt_le f n i
 have h3:=hf i hi
 unfold runAt
 split
 ·show 0≤(zerosAt f n i:Int) - 11∧(zerosAt f n i:Int) - 11 < 2 ^ 7
  omega
 ·split
  ·show 0≤(zerosAt f n i:Int) - 3∧(zerosAt f n i:Int) - 3 < 2 ^ 3
   omega
  ·split
   ·show 0≤(sameAt f n i:Int) - 3∧(sameAt f n i:Int) - 3 < 2 ^ 2
    omega
   ·show (0:Int)≤0∧(0:Int) < 2 ^ bitsOf (f i)
    have:bitsOf (f i)=0:=by unfold bitsOf; rw [if_neg (by omega),if_neg (by omega),if_neg (by omega)]
    rw[this]
    omega
theorem rest_fine {f:Nat→Int} {n:Nat} (hf:Fine f n):∀ d i,n - i=d→∀ r∈rest f n i,0≤r.2∧r.2 < 2 ^ bitsOf r.1:=by
 intro d
 induction d using Nat.strongRecOn with
 | _ d ih=>
  intro i hd r hr
  by_cases h:i < n
  ·rw[rest_more h] at hr
   rcases List.mem_cons.mp hr with rfl | hr
   ·exact runAt_fine hf h
   ·have h1:=runAt_pos f n i
    exact ih (n - (i+(runAt f n i).2)) (by omega) (i+(runAt f n i).2) rfl r hr
  ·rw[rest_none h] at hr
   cases hr
/-! The way back. -/
def tell (out:List Int) (r:Int×Int):Option (List Int):=
 if r.1=16 then (if 0≤r.2∧r.2≤3∧0 < out.length then some (List.replicate (3+r.2).toNat (out.getD (out.length - 1) 0)) else none)
 else if r.1=17 then (if 0≤r.2∧r.2≤7 then some (List.replicate (3+r.2).toNat 0) else none)
 else if r.1=18 then (if 0≤r.2∧r.2≤127 then some (List.replicate (11+r.2).toNat 0) else none)
 else if 0≤r.1∧r.1≤15∧r.2=0 then some [r.1] else none
def back (z:Nat) (out:List Int):List (Int×Int)→Option (List Int)
 | []=>if out.length=z then some out else none
 | r :: R=>match tell out r with
  | none=>none
  | some more=>if out.length+more.length≤z then back z (out ++ more) R else none
end Go.Proofs.YtklpiihnbokkkaaGreatDoor.RunsMath

namespace Go.Proofs.YtklpiihnbokkkaaGreatDoor.StepMath
def bitsN (k j:Nat):Nat:=(j - k) / k
def fromN (c k:Nat):Nat→Nat
 | 0=>c
 | j+1=>fromN c k j+2 ^ bitsN k j
def findN (c k n:Nat):Nat→Nat
 | 0=>0
 | m+1=>if fromN c k m≤n then m else findN c k n m
theorem pow_pos2 (j:Nat):1≤2 ^ j:=Nat.one_le_two_pow
theorem from_lt (c k j:Nat):fromN c k j < fromN c k (j+1):=by
 have:=pow_pos2 (bitsN k j)
 show fromN c k j < fromN c k j+2 ^ bitsN k j
 omega
theorem from_mono (c k:Nat):∀ d i,fromN c k i≤fromN c k (i+d)
 | 0,_=>Nat.le_refl _
 | d+1,i=>Nat.le_trans (from_mono c k d i) (Nat.le_of_lt (from_lt c k (i+d)))
theorem from_le {c k i j:Nat} (h:i≤j):fromN c k i≤fromN c k j:=by
 obtain⟨d,rfl⟩:=Nat.exists_eq_add_of_le h
 exact from_mono c k d i
theorem find_spec {c k n:Nat} (hc:c≤n):∀ m,0 < m→findN c k n m < m∧fromN c k (findN c k n m)≤n∧∀ j,findN c k n m < j→j < m→n < fromN c k j
 | 0,h=>by omega
 | m+1,_=>by
  unfold findN
  split
  ·rename_i h
   exact⟨by omega,h,fun j h1 h2=>by omega⟩
  ·rename_i h
   rcases Nat.eq_zero_or_pos m with h0 | h0
   ·subst h0
    exact absurd hc h
   ·obtain⟨q1,q2,q3⟩:=find_spec (c:=c) (k:=k) hc m h0
    refine⟨by omega,q2,fun j h1 h2=>?_⟩
    rcases Nat.lt_or_ge j m with h3 | h3
    ·exact q3 j h1 h3
    ·have:j=m:=by omega
     subst this
     omega
theorem find_told {c k n m j:Nat} (h1:fromN c k j≤n) (h2:n < fromN c k (j+1)) (hj:j < m) (hc:c≤n):findN c k n m=j:=by
 obtain⟨q1,q2,q3⟩:=find_spec (c:=c) (k:=k) hc m (by omega)
 rcases Nat.lt_trichotomy (findN c k n m) j with h | h | h
 ·have:=q3 j h hj
  omega
 ·exact h
 ·have:=from_le (c:=c) (k:=k) (show j+1≤findN c k n m from h)
  omega
theorem find_in {c k n m:Nat} (hc:c≤n) (hm:n < fromN c k m):findN c k n m < m∧fromN c k (findN c k n m)≤n∧n < fromN c k (findN c k n m+1):=by
 have h0:0 < m:=by
  rcases Nat.eq_zero_or_pos m with h | h
  ·subst h
   have:n < c:=hm
   omega
  ·exact h
 obtain⟨q1,q2,q3⟩:=find_spec (c:=c) (k:=k) hc m h0
 refine⟨q1,q2,?_⟩
 rcases Nat.lt_or_ge (findN c k n m+1) m with h | h
 ·exact q3 _ (Nat.lt_succ_self _) h
 ·have:findN c k n m+1=m:=by omega
  rw[this]
  exact hm
theorem find_extra {c k n m:Nat} (hc:c≤n) (hm:n < fromN c k m):n - fromN c k (findN c k n m) < 2 ^ bitsN k (findN c k n m):=by
 obtain⟨_,h1,h2⟩:=find_in hc hm
 have:fromN c k (findN c k n m+1)=fromN c k (findN c k n m)+2 ^ bitsN k (findN c k n m):=rfl
 omega
theorem find_step (c k n m:Nat):findN c k n (m+1)=if fromN c k m≤n then m else findN c k n m:=rfl
/-! Lengths: steps of 4 from 3 on; the 28th would begin at 259. Distances: steps of 2 from 1 on; the 30th would begin at 32769. -/
theorem len_8:fromN 3 4 8=11:=by decide
theorem len_28:fromN 3 4 28=259:=by decide
theorem dist_4:fromN 1 2 4=5:=by decide
theorem dist_30:fromN 1 2 30=32769:=by decide
theorem len_small:∀ j,j≤8→fromN 3 4 j=3+j∧bitsN 4 j≤1:=by decide
theorem dist_small:∀ j,j≤4→fromN 1 2 j=1+j∧bitsN 2 j≤1:=by decide
theorem len_bits:∀ j,j < 28→bitsN 4 j≤5∧(j < 8→bitsN 4 j=0):=by decide
theorem dist_bits:∀ j,j < 30→bitsN 2 j≤13∧(j < 4→bitsN 2 j=0):=by decide
def lenCode (n:Nat):Nat×Nat×Nat:=if n < 258 then (257+findN 3 4 n 28,bitsN 4 (findN 3 4 n 28),n - fromN 3 4 (findN 3 4 n 28)) else (285,0,0)
def lenBits (s:Nat):Nat×Nat:=if s=285 then (0,258) else (bitsN 4 (s - 257),fromN 3 4 (s - 257))
def distCode (n:Nat):Nat×Nat×Nat:=(findN 1 2 n 30,bitsN 2 (findN 1 2 n 30),n - fromN 1 2 (findN 1 2 n 30))
def distBits (s:Nat):Nat×Nat:=(bitsN 2 s,fromN 1 2 s)
def LengthCodeOf (n:Int):Int×Int×Int:=if 3≤n∧n≤258 then (((lenCode n.toNat).1:Int),((lenCode n.toNat).2.1:Int),((lenCode n.toNat).2.2:Int)) else (0,0,0)
def DistCodeOf (n:Int):Int×Int×Int:=if 1≤n∧n≤32768 then (((distCode n.toNat).1:Int),((distCode n.toNat).2.1:Int),((distCode n.toNat).2.2:Int)) else (0,0,0)
def LengthOfR (s x:Int):Int×Bool:=if (257≤s∧s≤285)∧0≤x∧x < 2 ^ (lenBits s.toNat).1 then (((lenBits s.toNat).2:Int)+x,true) else (0,false)
def DistOfR (s x:Int):Int×Bool:=if (0≤s∧s≤29)∧0≤x∧x < 2 ^ (distBits s.toNat).1 then (((distBits s.toNat).2:Int)+x,true) else (0,false)
theorem len_fact {n:Nat} (h3:3≤n) (h:n < 258):findN 3 4 n 28 < 28∧fromN 3 4 (findN 3 4 n 28)≤n∧n - fromN 3 4 (findN 3 4 n 28) < 2 ^ bitsN 4 (findN 3 4 n 28):=by
 have h1:=len_28
 have h2:=find_in (c:=3) (k:=4) (n:=n) (m:=28) h3 (by omega)
 exact⟨h2.1,h2.2.1,find_extra h3 (by omega)⟩
theorem dist_fact {n:Nat} (h1:1≤n) (h:n≤32768):findN 1 2 n 30 < 30∧fromN 1 2 (findN 1 2 n 30)≤n∧n - fromN 1 2 (findN 1 2 n 30) < 2 ^ bitsN 2 (findN 1 2 n 30):=by
 have h2:=dist_30
 have h3:=find_in (c:=1) (k:=2) (n:=n) (m:=30) h1 (by omega)
 exact⟨h3.1,h3.2.1,find_extra h1 (by omega)⟩
theorem pow_cast (m:Nat):((2 ^ m:Nat):Int)=(2:Int) ^ m:=by
 induction m with
 | zero=>rfl
 | succ m ih=>rw [Nat.pow_succ,Int.pow_succ,Int.natCast_mul,ih]; rfl
theorem len_back {n:Int} (h3:3≤n) (h:n≤258):LengthOfR (LengthCodeOf n).1 (LengthCodeOf n).2.2=(n,true)∧0≤(LengthCodeOf n).2.2∧(LengthCodeOf n).2.2 < 2 ^ (LengthCodeOf n).2.1.toNat∧257≤(LengthCodeOf n).1∧(LengthCodeOf n).1≤285∧0≤(LengthCodeOf n).2.1∧(LengthCodeOf n).2.1≤5:=by
 obtain⟨m,rfl⟩:=Int.eq_ofNat_of_zero_le (show 0≤n by omega)
 unfold LengthCodeOf
 rw[if_pos ⟨h3,h⟩,Int.toNat_natCast]
 unfold lenCode
 split
 ·rename_i hlt
  obtain⟨f1,f2,f3⟩:=len_fact (show 3≤m by omega) hlt
  have f4:=len_bits _ f1
  have f5:=pow_cast (bitsN 4 (findN 3 4 m 28))
  have e1:((257+findN 3 4 m 28:Nat):Int).toNat=257+findN 3 4 m 28:=Int.toNat_natCast _
  have e2:lenBits (257+findN 3 4 m 28)=(bitsN 4 (findN 3 4 m 28),fromN 3 4 (findN 3 4 m 28)):=by
   unfold lenBits
   rw[if_neg (by omega),Nat.add_sub_cancel_left]
  refine⟨?_,?_,?_,?_,?_,?_,?_⟩
  ·show LengthOfR ((257+findN 3 4 m 28:Nat):Int) ((m - fromN 3 4 (findN 3 4 m 28):Nat):Int)=_
   unfold LengthOfR
   rw[e1,e2,if_pos ⟨by omega,by omega,by show ((m - fromN 3 4 (findN 3 4 m 28):Nat):Int) < 2 ^ bitsN 4 (findN 3 4 m 28); omega⟩]
   show (((fromN 3 4 (findN 3 4 m 28):Nat):Int)+((m - fromN 3 4 (findN 3 4 m 28):Nat):Int),true)=_
   congr 1
   omega
  ·show (0:Int)≤((m - fromN 3 4 (findN 3 4 m 28):Nat):Int)
   omega
  ·show ((m - fromN 3 4 (findN 3 4 m 28):Nat):Int) < 2 ^ ((bitsN 4 (findN 3 4 m 28):Nat):Int).toNat
   rw[Int.toNat_natCast]
   omega
  ·show (257:Int)≤((257+findN 3 4 m 28:Nat):Int)
   omega
  ·show ((257+findN 3 4 m 28:Nat):Int)≤285
   omega
  ·show (0:Int)≤((bitsN 4 (findN 3 4 m 28):Nat):Int)
   omega
  ·show ((bitsN 4 (findN 3 4 m 28):Nat):Int)≤5
   omega
 ·rename_i hlt
  obtain rfl:m=258:=by omega
  refine⟨by decide,by decide,by decide,by decide,by decide,by decide,by decide⟩
theorem dist_back {n:Int} (h1:1≤n) (h:n≤32768):DistOfR (DistCodeOf n).1 (DistCodeOf n).2.2=(n,true)∧0≤(DistCodeOf n).2.2∧(DistCodeOf n).2.2 < 2 ^ (DistCodeOf n).2.1.toNat∧0≤(DistCodeOf n).1∧(DistCodeOf n).1≤29∧0≤(DistCodeOf n).2.1∧(DistCodeOf n).2.1≤13:=by
 obtain⟨m,rfl⟩:=Int.eq_ofNat_of_zero_le (show 0≤n by omega)
 unfold DistCodeOf
 rw[if_pos ⟨h1,h⟩,Int.toNat_natCast]
 unfold distCode
 obtain⟨f1,f2,f3⟩:=dist_fact (show 1≤m by omega) (show m≤32768 by omega)
 have f4:=dist_bits _ f1
 have f5:=pow_cast (bitsN 2 (findN 1 2 m 30))
 refine⟨?_,?_,?_,?_,?_,?_,?_⟩
 ·show DistOfR ((findN 1 2 m 30:Nat):Int) ((m - fromN 1 2 (findN 1 2 m 30):Nat):Int)=_
  unfold DistOfR
  rw[Int.toNat_natCast,if_pos ⟨by omega,by omega,by show ((m - fromN 1 2 (findN 1 2 m 30):Nat):Int) < 2 ^ bitsN 2 (findN 1 2 m 30); omega⟩]
  show (((fromN 1 2 (findN 1 2 m 30):Nat):Int)+((m - fromN 1 2 (findN 1 2 m 30):Nat):Int),true)=_
  congr 1
  omega
 ·show (0:Int)≤((m - fromN 1 2 (findN 1 2 m 30):Nat):Int)
  omega
 ·show ((m - fromN 1 2 (findN 1 2 m 30):Nat):Int) < 2 ^ ((bitsN 2 (findN 1 2 m 30):Nat):Int).toNat
  rw[Int.toNat_natCast]
  omega
 ·show (0:Int)≤((findN 1 2 m 30:Nat):Int)
  omega
 ·show ((findN 1 2 m 30:Nat):Int)≤29
  omega
 ·show (0:Int)≤((bitsN 2 (findN 1 2 m 30):Nat):Int)
  omega
 ·show ((bitsN 2 (findN 1 2 m 30):Nat):Int)≤13
  omega
end Go.Proofs.YtklpiihnbokkkaaGreatDoor.StepMath

namespace Go.Proofs.YtklpiihnbokkkaaGreatDoor.InfMath
open OutMath CodeMath TakeMath HitMath StepMath TokMath RunsMath
section
variable (s:ByteArray) (most:Nat)
def orderL:List Nat:=[16,17,18,0,8,7,9,6,10,5,11,4,12,3,13,2,14,1,15]
def TabRight (n:Nat) (L:List Int):Prop:=(kindOf (fun i=>L.getD i 0) n=2∨kindOf (fun i=>L.getD i 0) n=3)∧L.getD 256 0≠0∧(kindOf (fun i=>(L.drop n).getD i 0) (L.length - n)=1∨kindOf (fun i=>(L.drop n).getD i 0) (L.length - n)=2∨kindOf (fun i=>(L.drop n).getD i 0) (L.length - n)=3)
instance (n:Nat) (L:List Int):Decidable (TabRight n L):=by unfold TabRight; exact inferInstance
def fixed1 (i:Nat):Int:=if i < 144 then 8 else if i < 256 then 9 else if i < 280 then 7 else 8
def fixed2 (_:Nat):Int:=5
end
end Go.Proofs.YtklpiihnbokkkaaGreatDoor.InfMath

namespace Go.Proofs.YtklpiihnbokkkaaGreatDoor
open CodeMath InfMath
theorem fixed1_coded:Coded fixed1 288:=by
 refine⟨by decide,fun i _=>?_,?_⟩
 ·unfold fixed1
  repeat' split
  all_goals omega
 ·decide +kernel
theorem fixed2_coded:Coded fixed2 32:=by
 refine⟨by decide,fun i _=>?_,?_⟩
 ·unfold fixed2
  omega
 ·decide +kernel
end Go.Proofs.YtklpiihnbokkkaaGreatDoor

namespace Go.Proofs.YtklpiihnbokkkaaGreatDoor
namespace TrimMath
open TokMath
def trimN (f:Nat→Int) (least:Nat):Nat→Nat
 | 0=>0
 | n+1=>if least < n+1∧f n=0 then trimN f least n else n+1
theorem trimN_zero {f:Nat→Int} {least n:Nat} (h:least < n+1) (h0:f n=0):trimN f least (n+1)=trimN f least n:=if_pos ⟨h,h0⟩
theorem trimN_keep {f:Nat→Int} {least n:Nat} (h0:f n≠0):trimN f least (n+1)=n+1:=if_neg fun h=>h0 h.2
theorem trimN_least {f:Nat→Int} {least:Nat}:∀ {n:Nat},n≤least→trimN f least n=n
 | 0,_=>rfl
 | _+1,h=>if_neg fun q=>by omega
theorem trimN_le (f:Nat→Int) (least:Nat):∀ n,trimN f least n≤n
 | 0=>Nat.le_refl _
 | n+1=>by
  unfold trimN
  split
  ·have:=trimN_le f least n
   omega
  ·exact Nat.le_refl _
theorem trimN_ge (f:Nat→Int) (least:Nat):∀ n,least≤n→least≤trimN f least n
 | 0,h=>h
 | n+1,h=>by
  unfold trimN
  split
  ·exact trimN_ge f least n (by omega)
  ·exact h
theorem trimN_out (f:Nat→Int) (least:Nat):∀ n i,trimN f least n≤i→i < n→f i=0
 | 0,i,_,h=>by omega
 | n+1,i,h1,h2=>by
  unfold trimN at h1
  split at h1
  ·rename_i q
   by_cases e:i=n
   ·rw[e]; exact q.2
   ·exact trimN_out f least n i h1 (by omega)
  ·omega
def TokensRight (L:List Tok):Prop:=L.length≤12000∧∀ t∈L,TokRight t
instance (L:List Tok):Decidable (TokensRight L):=by unfold TokensRight; exact inferInstance
end TrimMath
end Go.Proofs.YtklpiihnbokkkaaGreatDoor

namespace Go.Proofs.YtklpiihnbokkkaaGreatDoor
open Go.RowKit Go.Joins
def Own (e:TypeId) (w:World) (base g:Nat) (v:Value) (xs:List Value):Prop:=
 ∃ cap cur fz,v=.slice (some ⟨g,0,none⟩) xs.length cap∧base≤g∧w.heap[g]?=some (.cells cur e fz)∧(fz.2=0∨cap≤fz.1)∧xs.length≤cap∧cap≤maxLen∧cur.size=cap∧cur.toList.take xs.length=xs
section
variable {e:TypeId} {w w':World} {base g:Nat} {v:Value} {xs:List Value}
theorem Own.form (h:Own e w base g v xs):∃ cap,v=.slice (some ⟨g,0,none⟩) xs.length cap:=by
 obtain⟨cap,cur,fz,hv,_⟩:=h
 exact⟨cap,hv⟩
theorem Own.base_le (h:Own e w base g v xs):base≤g:=by
 obtain⟨cap,cur,fz,_,hb,_⟩:=h
 exact hb
theorem Own.lt (h:Own e w base g v xs):g < w.heap.size:=by
 obtain⟨cap,cur,fz,_,_,hg,_⟩:=h
 rcases Nat.lt_or_ge g w.heap.size with k | k
 ·exact k
 ·rw[Array.getElem?_eq_none k] at hg; cases hg
theorem Own.keep (h:Own e w base g v xs) (hk:w'.heap[g]?=w.heap[g]?):Own e w' base g v xs:=by
 obtain⟨cap,cur,fz,h1,h2,h3,h4⟩:=h
 exact⟨cap,cur,fz,h1,h2,hk.trans h3,h4⟩
theorem Own.alloc (h:Own e w base g v xs) (o:Obj):Own e (w.alloc o) base g v xs:=h.keep (Below.heap_alloc w o g h.lt)
theorem Own.drewN (h:Own e w base g v xs) (n:Nat):Own e (w.drewN n) base g v xs:=h.keep rfl
theorem Own.below {B:Nat} (h:Own e w base g v xs) (hb:Below B w w') (hg:g < B):Own e w' base g v xs:=h.keep (hb.block g hg)
theorem Own.mono {b:Nat} (h:Own e w base g v xs) (hb:b≤base):Own e w b g v xs:=by
 obtain⟨cap,cur,fz,h1,h2,h3⟩:=h
 exact⟨cap,cur,fz,h1,Nat.le_trans hb h2,h3⟩
theorem Own.cell (h:Own e w base g v xs) (j:Nat) (hj:j < xs.length):w.cell? ⟨g,j,none⟩=some xs[j]:=by
 obtain⟨cap,cur,fz,_,_,hg,_,_,_,_,ht⟩:=h
 have e1:w.cell? ⟨g,j,none⟩=cur[j]?:=cell_of_block hg j
 rw[e1]
 have e2:(cur.toList.take xs.length)[j]?=cur[j]?:=by
  rw[List.getElem?_take,if_pos hj]
  simp
 rw[← e2,ht,List.getElem?_eq_getElem hj]
theorem Own.free (h:Own e w base g v xs) (j:Nat) (hj:j < xs.length):w.frozen? ⟨g,j,none⟩=false:=by
 obtain⟨cap,cur,fz,_,_,hg,hf,hn,_⟩:=h
 obtain⟨lo,hi⟩:=fz
 simp only [World.frozen?,hg]
 simp only at hf
 rw[Bool.and_eq_false_iff]
 rcases hf with hf | hf
 ·right; simp; omega
 ·left; simp; omega
theorem Own.set (h:Own e w base g v xs) (j:Nat) (_hj:j < xs.length) (u:Value):Own e (w.setCell ⟨g,j,none⟩ u) base g v (xs.set j u):=by
 obtain⟨cap,cur,fz,h1,h2,hg,h4,h5,h6,h7,ht⟩:=h
 refine⟨cap,cur.setIfInBounds j u,fz,?_,h2,block_setCell (i:=j) hg u,h4,?_,h6,?_,?_⟩
 ·rw[List.length_set]; exact h1
 ·rw[List.length_set]; exact h5
 ·simpa using h7
 ·rw[List.length_set,Array.toList_setIfInBounds,List.take_set,ht]
theorem own_of_ownsRow {n:Nat} {b:Nat} (h:w.ownsRow b e 1 v n xs) (hn:0 < n):∃ g,b≤g∧Own e w b g v xs:=by
 obtain⟨hl,hh⟩:=h
 have hl':xs.length=n:=by simpa using hl
 rcases hh with ⟨_,h0⟩ | ⟨g,cap,cur,hv,hb,hg,hnc,hcm,hcs,ht⟩
 ·omega
 ·refine⟨g,hb,cap,cur,(0,0),by rw [hl']; exact hv,hb,hg,.inl rfl,by omega,hcm,by simpa using hcs,?_⟩
  rw[hl']; simpa using ht
theorem own_of_bytes (w:World) (e:TypeId) (s:ByteArray) (hs:s.size≤maxLen) (hb:base≤w.heap.size):
  Own e (w.drew.alloc (.cells (bytesRow s (grownCap w s.size 0 e)) e ((bytesRow s (grownCap w s.size 0 e)).size,(bytesRow s (grownCap w s.size 0 e)).size+1))) base w.heap.size (.slice (some ⟨w.heap.size,0,none⟩) s.size (grownCap w s.size 0 e)) (s.data.toList.map fun b=>.int .u8 b.toNat):=by
 have hl:(s.data.toList.map fun b=>Value.int .u8 (b.toNat:Int)).length=s.size:=by simp
 have hsz:(bytesRow s (grownCap w s.size 0 e)).size=grownCap w s.size 0 e:=by
  have:=grownCap_ge w s.size 0 e
  simp[bytesRow]
  omega
 refine⟨grownCap w s.size 0 e,_,_,by rw [hl],hb,heap_alloc_new w.drew _,.inr (by rw [hsz]; exact Nat.le_refl _),by rw [hl]; exact grownCap_ge w s.size 0 e,grownCap_le_maxLen w s.size 0 e hs,hsz,?_⟩
 rw[hl]
 unfold bytesRow
 rw[Array.toList_append,List.take_append_of_le_length (by simp)]
 rw[List.take_of_length_le (by simp)]
 simp
variable {P:Program}
theorem run_append1 (t ty:TypeId) (i:TypeInfo) (z:Value) (bytes:Nat) (ht:P.underlying t=some (.slice e)) (hi:P.info? e=some i) (hz:i.zero=some z) (hs1:i.size=1) (hby:i.bytes=bytes) (hzs:z.cells.size=1)
  (h:Own e w base g v xs) (ad:Addr) (c:Nat) (x:Value) (hx:w.cell? ad=some x) (hspot:ad.spot=none) (h1:x.oneCell'=true) (h63:xs.length+1≤maxLen) (hbytes:(xs.length+1) * bytes≤140737488355328):
  ∃ g' v' w',(Builtin.append_ #[t,t] ty #[v,.slice (some ad) 1 c]).run P w=.ok v' w'∧Own e w' base g' v' (xs ++ [x])∧(g'=g∨w.heap.size≤g')∧w.grownBy w' (some g):=by
 have hlt:=h.lt
 obtain⟨cap,cur,fz,hv,hb,hg,hf,hn,hcm,hcs,htk⟩:=id h
 have hnews:∀ (j:Nat) (u:Value),[x][j]?=some u→w.cell? (ad.add j)=some u:=by
  intro j u hj
  match j,hj with
  | 0,hj=>
   simp at hj
   subst hj
   obtain⟨ab,ao,asp⟩:=ad
   simp only at hspot
   subst hspot
   simpa [Addr.add] using hx
 subst hv
 by_cases hroom:xs.length+1≤cap
 ·have hc:∀ j,j < [x].length→(w.cell? ⟨g,0+xs.length * i.size+j,none⟩).isSome=true:=by
   intro j hj
   have:j=0:=by simpa using hj
   subst this
   rw[hs1,show 0+xs.length * 1+0=xs.length by omega,cell_of_block hg,Array.getElem?_eq_getElem (by omega)]
   rfl
  have hfz:∀ j,j < [x].length→w.frozen? ⟨g,0+xs.length * i.size+j,none⟩=false:=by
   intro j hj
   have:j=0:=by simpa using hj
   subst this
   rw[hs1,show 0+xs.length * 1+0=xs.length by omega]
   obtain⟨lo,hi'⟩:=fz
   simp only [World.frozen?,hg]
   simp only at hf
   rw[Bool.and_eq_false_iff]
   rcases hf with hf | hf
   ·right; simp; omega
   ·left; simp; omega
  have hr:=run_append_room_cells (P:=P) w t ty e i ht hi g 0 xs.length cap ad 1 c [x] (by simp [hs1]) hnews (by simpa using h1) hroom hc hfz
  rw[hs1,show 0+xs.length * 1=xs.length by omega] at hr
  refine⟨g,_,_,hr,?_,.inl rfl,?_⟩
  ·show Own e (w.setCell ⟨g,xs.length,none⟩ x) base g _ _
   refine⟨cap,cur.setIfInBounds xs.length x,fz,by simp,hb,block_setCell (i:=xs.length) hg x,hf,by simpa using hroom,hcm,by simpa using hcs,?_⟩
   rw[Array.toList_setIfInBounds]
   rw[List.length_append,List.length_singleton]
   have hlen:xs.length < cur.toList.length:=by simp; omega
   rw[List.take_succ_eq_append_getElem (by simpa using hlen)]
   rw[List.take_set,List.getElem_set_self]
   rw[htk,List.set_eq_of_length_le (by omega)]
  ·show w.grownBy (w.setCell ⟨g,xs.length,none⟩ x) (some g)
   refine⟨rfl,rfl,rfl,by simp,fun k hk hne=>?_⟩
   exact Below.heap_setCell w _ _ k (by simpa using hne)
 ·obtain⟨v',w',hrun,r1,r2⟩:=run_append_arg_grows (P:=P) w t ty e i z 1 bytes ht hi hz hs1 hby hzs (by decide) ⟨g,0,none⟩ xs.length cap xs (by simp) (fun j u hj=>by
   have hj':j < xs.length:=by
    rcases Nat.lt_or_ge j xs.length with k | k
    ·exact k
    ·rw[List.getElem?_eq_none k] at hj; cases hj
   rw[List.getElem?_eq_getElem hj'] at hj
   have:=h.cell j hj'
   rw[Addr.add_lit,Nat.zero_add,this,hj]) ad 1 c [x] (by simp) hnews (by omega) h63 hbytes
  obtain⟨g',hg',ho⟩:=own_of_ownsRow r1 (by omega)
  refine⟨g',v',w',hrun,ho.mono ?_,.inr hg',?_⟩
  ·omega
  ·obtain⟨a1,a2,a3,a4,a5⟩:=r2
   exact⟨a1,a2,a3,a4,fun k hk _=>a5 k hk (by simp)⟩
theorem wpList_append1 {ops:Array Oper} {rest:List Oper} {o:Oper} {a:Act} {Q:Exit→Act→World→Prop} (hgd:o.guard=none) (s y:Operand) (t:TypeId)
  (hop:o.op=.call { callee:=.builtin .append,args:=#[s,y],argTypes:=#[t,t] })
  (i:TypeInfo) (z:Value) (bytes:Nat) (ht:P.underlying t=some (.slice e)) (hi:P.info? e=some i) (hz:i.zero=some z) (hs1:i.size=1) (hby:i.bytes=bytes) (hzs:z.cells.size=1)
  (hs:a.eval s=v) (h:Own e w base g v xs) (ad:Addr) (c:Nat) (x:Value) (hy:a.eval y=.slice (some ad) 1 c) (hx:w.cell? ad=some x) (hspot:ad.spot=none) (h1:x.oneCell'=true) (h63:xs.length+1≤maxLen) (hbytes:(xs.length+1) * bytes≤140737488355328)
  (hK:∀ g' v' w',Own e w' base g' v' (xs ++ [x])→(g'=g∨w.heap.size≤g')→w.grownBy w' (some g)→wpList P ops Q rest (a.put o.dst v') w'):wpList P ops Q (o :: rest) a w:=by
 refine wpList_plain hgd fun K hK'=>?_
 obtain⟨g',v',w',hrun,r1,r2,r3⟩:=run_append1 (P:=P) t o.type i z bytes ht hi hz hs1 hby hzs h ad c x hx hspot h1 h63 hbytes
 unfold Oper.wp
 simp[execOp,hop,resolve,invoke,builtin,hs,hy,hrun,Result.andThen]
 exact hK' _ _ (hK g' v' w' r1 r2 r3)
theorem own_string (zs:List Int) (src dst:TypeId) (hsrc:P.underlying src=some (.slice e)) (he:P.underlying e=some (.int .u8)) (hd:P.underlying dst=some .string) (h:Own e w base g v (zs.map (Value.int .u8))):
  (convert src dst v).run P w=.ok (.string (strOfNums zs)) w:=by
 obtain⟨cap,hv⟩:=h.form
 subst hv
 refine run_convert_bytes_arg w src e hsrc he g 0 _ cap zs (by simp) (fun i hi=>?_) dst hd
 have hc:=h.cell i (by simpa using hi)
 have hi':i < zs.length:=by simpa using hi
 rw[Nat.zero_add,hc]
 simp[hi']
end
end Go.Proofs.YtklpiihnbokkkaaGreatDoor
