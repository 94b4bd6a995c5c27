/-
  Texts of the proof, put together.
-/
import Derived.Test.YtcbbcadfolgioaaDoorPf02
import Derived.Deep.RegionHeld3
namespace Go.Proofs.YtcbbcadfolgioaaDoor
section
open Go.RowKit Go.Joins
def updR (R:Nat→Ras) (j:Nat) (r:Ras):Nat→Ras:=fun i=>if i=j then r else R i
theorem updR_same (R:Nat→Ras) (j:Nat) (r:Ras):updR R j r j=r:=by simp [updR]
theorem updR_other (R:Nat→Ras) {j i:Nat} (r:Ras) (h:i≠j):updR R j r i=R i:=by simp [updR,h]
section
variable {w w':World} {base g m:Nat} {R:Nat→Ras} {A:Nat→Option Addr} {G C:Nat→Nat}
theorem ROwnA.head (h:ROwnA w base g m R A G C) (j:Nat) (hj:j < m) (a b c d:Int):
  ROwnA ((((w.setCell ⟨g,j * 5,none⟩ (.int .i64 a)).setCell ⟨g,j * 5+1,none⟩ (.int .i64 b)).setCell ⟨g,j * 5+2,none⟩ (.int .i64 c)).setCell ⟨g,j * 5+3,none⟩ (.int .i64 d)) base g m (updR R j ⟨a,b,c,d,(R j).n,(R j).f⟩) A G C:=by
 obtain⟨h1,⟨cur,hc,h2,h3⟩,h4,h5,h6⟩:=h
 have en:∀ i,(updR R j ⟨a,b,c,d,(R j).n,(R j).f⟩ i).n=(R i).n:=fun i=>by
  unfold updR
  split
  ·rename_i e; rw [e]
  ·rfl
 have ef:∀ i,(updR R j ⟨a,b,c,d,(R j).n,(R j).f⟩ i).f=(R i).f:=fun i=>by
  unfold updR
  split
  ·rename_i e; rw [e]
  ·rfl
 refine⟨h1,⟨(((cur.setIfInBounds (j * 5) (.int .i64 a)).setIfInBounds (j * 5+1) (.int .i64 b)).setIfInBounds (j * 5+2) (.int .i64 c)).setIfInBounds (j * 5+3) (.int .i64 d),?_,by simpa using h2,fun i hi=>?_⟩,fun i hi=>?_,fun i hi hn=>h5 i hi (by rw [← en i]; exact hn),fun i k hi hk hne hn1 hn2=>h6 i k hi hk hne (by rw [← en i]; exact hn1) (by rw [← en k]; exact hn2)⟩
 ·simp[World.setCell,Array.getElem?_modify,hc]
 ·obtain⟨q0,q1,q2,q3,q4⟩:=h3 i hi
  unfold HeadAt updR
  by_cases e:i=j
  ·subst e
   simp only [if_pos]
   refine⟨?_,?_,?_,?_,?_⟩
   ·rw[Array.getElem?_setIfInBounds_ne (by omega),Array.getElem?_setIfInBounds_ne (by omega),Array.getElem?_setIfInBounds_ne (by omega),Array.getElem?_setIfInBounds_self_of_lt (by omega)]
   ·rw[Array.getElem?_setIfInBounds_ne (by omega),Array.getElem?_setIfInBounds_ne (by omega),Array.getElem?_setIfInBounds_self_of_lt (by simp; omega)]
   ·rw[Array.getElem?_setIfInBounds_ne (by omega),Array.getElem?_setIfInBounds_self_of_lt (by simp; omega)]
   ·rw[Array.getElem?_setIfInBounds_self_of_lt (by simp; omega)]
   ·rw[Array.getElem?_setIfInBounds_ne (by omega),Array.getElem?_setIfInBounds_ne (by omega),Array.getElem?_setIfInBounds_ne (by omega),Array.getElem?_setIfInBounds_ne (by omega)]; exact q4
  ·simp only [if_neg e]
   refine⟨?_,?_,?_,?_,?_⟩
   all_goals rw [Array.getElem?_setIfInBounds_ne (by omega),Array.getElem?_setIfInBounds_ne (by omega),Array.getElem?_setIfInBounds_ne (by omega),Array.getElem?_setIfInBounds_ne (by omega)]
   all_goals assumption
 ·rw[en i,ef i]
  refine (h4 i hi).keep (fun hn=>?_)
  have hne:G i≠g:=h5 i hi hn
  repeat rw [heap_setCell_other _ _ _ _ (by exact hne)]
theorem ROwnA.row (h:ROwnA w base g m R A G C) (j:Nat) (hj:j < m) (f':Nat→Int) (hrow:RowOwn w' base (A j) (G j) (R j).n (C j) f') (hk:∀ b,b < w.heap.size→(0 < (R j).n→b≠G j)→w'.heap[b]?=w.heap[b]?):ROwnA w' base g m (updR R j ⟨(R j).x0,(R j).x1,(R j).x2,(R j).x3,(R j).n,f'⟩) A G C:=by
 have hg:=h.lt
 obtain⟨h1,⟨cur,hc,h2,h3⟩,h4,h5,h6⟩:=h
 have en:∀ i,(updR R j ⟨(R j).x0,(R j).x1,(R j).x2,(R j).x3,(R j).n,f'⟩ i).n=(R i).n:=fun i=>by
  unfold updR
  split
  ·rename_i e; rw [e]
  ·rfl
 refine⟨h1,⟨cur,(hk g hg (fun hn e=>h5 j hj hn e.symm)).trans hc,h2,fun i hi=>?_⟩,fun i hi=>?_,fun i hi hn=>h5 i hi (by rw [← en i]; exact hn),fun i k hi hk hne hn1 hn2=>h6 i k hi hk hne (by rw [← en i]; exact hn1) (by rw [← en k]; exact hn2)⟩
 ·have:=h3 i hi
  unfold updR
  by_cases e:i=j
  ·subst e; simpa [HeadAt] using this
  ·simpa [e] using this
 ·by_cases e:i=j
  ·subst e
   rw[updR_same]
   exact hrow
  ·rw[updR_other _ _ e]
   exact (h4 i hi).keep (fun hn=>hk _ ((h4 i hi).lt hn).1 (fun hn2=>h6 i j hi hj e hn hn2))
theorem ROwnA.congr {S:Nat→Ras} (h:ROwnA w base g m R A G C) (e:∀ j,j < m→R j=S j):ROwnA w base g m S A G C:=by
 obtain⟨h1,⟨cur,hc,h2,h3⟩,h4,h5,h6⟩:=h
 refine⟨h1,⟨cur,hc,h2,fun j hj=>by rw [← e j hj]; exact h3 j hj⟩,fun j hj=>by rw [← e j hj]; exact h4 j hj,fun j hj=>by rw [← e j hj]; exact h5 j hj,fun i j hi hj=>by rw [← e i hi,← e j hj]; exact h6 i j hi hj⟩
end
end
section
open Go.RowKit Go.Joins
theorem grown_of_alloc {w w':World} {o:Obj} {row:Option Nat} (h:(w.alloc o).grownBy w' row):w.grownBy w' row:=
 ⟨h.os,h.tape,h.output,Nat.le_trans (by simp) h.size,fun k hk hne=>(h.block k (by simp; omega) hne).trans (Below.heap_alloc w o k hk)⟩
theorem markRaster_mine (x0 x1 x2 x3:Int) (base g n cap:Nat) (f:Nat→Int) (k:Int) (w:World) (hO:IOwn w base g n cap f) (hn:n≤1048576) (h0:0≤k) (h1:k≤1073741824):
  Calls Tryd.prog 23 #[.agg #[.int .i64 x0,.int .i64 x1,.int .i64 x2,.int .i64 x3,.slice (some ⟨g,0,none⟩) n cap],.int .i64 k] w fun e w'=>e=.returned (.int .i64 (k+n))∧IOwn w' base g n cap (fun j=>k+j)∧w.grownBy w' (some g):=by
 have HO:=hid_of hO
 clear hO
 go_enter Tryd.func23,Tryd.ntmps23
 go_wp2_with fail
 refine (markIntS_own base g n cap f k _ (HO.out.alloc _) hn h0 h1).mono ?_
 rintro e w2 ⟨rfl,hO2,hg⟩
 have HG:=hid_of (And.intro hO2 (grown_of_alloc hg))
 clear hg hO2
 go_wp2_with fail
 go_ret
 exact⟨rfl,HG.out⟩
theorem markRaster_none (x0 x1 x2 x3:Int) (a:Option Addr) (cap:Nat) (k:Int) (w:World):
  Calls Tryd.prog 23 #[.agg #[.int .i64 x0,.int .i64 x1,.int .i64 x2,.int .i64 x3,.slice a 0 cap],.int .i64 k] w fun e w'=>e=.returned (.int .i64 k)∧Below w.heap.size w w':=by
 go_enter Tryd.func23,Tryd.ntmps23
 go_wp2_with fail
 refine (markIntS_none a cap k _).mono ?_
 rintro e w2 ⟨rfl,rfl⟩
 go_wp2_with fail
 go_ret
 exact⟨rfl,bstart _ _⟩
theorem markRaster_sl (x0 x1 x2 x3:Int) (base:Nat) (a:Option Addr) (n cap:Nat) (f:Nat→Int) (k:Int) (w:World) (hS:SL w base a n cap f) (hn:n≤1048576) (h0:0≤k) (h1:k≤1073741824):
  Calls Tryd.prog 23 #[.agg #[.int .i64 x0,.int .i64 x1,.int .i64 x2,.int .i64 x3,.slice a n cap],.int .i64 k] w fun e w'=>e=.returned (.int .i64 (k+n))∧SL w' base a n cap (fun j=>k+j)∧∃ row,(∀ g,row=some g→0 < n∧a=some ⟨g,0,none⟩∧base≤g)∧w.grownBy w' row:=by
 rcases Nat.eq_zero_or_pos n with e0 | e0
 ·subst e0
  refine (markRaster_none x0 x1 x2 x3 a cap k w).mono ?_
  rintro e w1 ⟨rfl,hB⟩
  exact⟨by simp,.inl rfl,none,(fun g hg=>by cases hg),⟨hB.os,hB.tape,hB.output,hB.size,fun b hb _=>hB.block b hb⟩⟩
 ·rcases hS with h | ⟨g,rfl,h⟩
  ·omega
  ·refine (markRaster_mine x0 x1 x2 x3 base g n cap f k w h hn h0 h1).mono ?_
   rintro e w1 ⟨rfl,hO,hg⟩
   exact⟨rfl,.inr ⟨g,rfl,hO⟩,some g,(fun g' hg'=>by cases hg'; exact⟨e0,rfl,h.base_le⟩),hg⟩
theorem heldRaster_same (x0 x1 x2 x3:Int) (a:Option Addr) (n cap:Nat) (k:Int) (w:World) (hC:Came w a n (fun j=>k+j)) (hn:n≤1048576) (h0:0≤k) (h1:k≤1073741824):
  Calls Tryd.prog 29 #[.agg #[.int .i64 x0,.int .i64 x1,.int .i64 x2,.int .i64 x3,.slice a n cap],.int .i64 k] w fun e w'=>e=.returned (.int .i64 (k+n))∧Below w.heap.size w w':=by
 have HC:=hid_of hC
 have dk:decide (k+(n:Int) < 0)=false:=decide_eq_false (by omega)
 clear hC
 go_enter Tryd.func29,Tryd.ntmps29
 go_wp2_with fail
 have HB:=hid_of (bstart w (.cells #[.int .i64 x0,.int .i64 x1,.int .i64 x2,.int .i64 x3,.slice a n cap] 26))
 generalize w.alloc (.cells #[.int .i64 x0,.int .i64 x1,.int .i64 x2,.int .i64 x3,.slice a n cap] 26)=W1 at HB ⊢
 refine (heldIntS_same a n cap k W1 (HC.out.called HB.out) hn h0 h1).mono ?_
 rintro e w2 ⟨rfl,hB2⟩
 have HB2:=hid_of (bnext HB.out hB2)
 clear hB2
 go_wp2_with fail
 go_ret
 exact⟨rfl,HB2.out⟩
theorem RCame.other {w0 w w':World} {a:Option Addr} {m g:Nat} {R:Nat→Ras} (_:RCame w a m R) (h0:RCame w0 a m R) (hg:w.grownBy w' (some g)) (hb:Below w0.heap.size w0 w) (hn:w0.heap.size≤g):RCame w' a m R:=
 h0.called ⟨hg.os.trans hb.os,hg.tape.trans hb.tape,hg.output.trans hb.output,Nat.le_trans hb.size hg.size,fun k hk=>(hg.block k (Nat.lt_of_lt_of_le hk hb.size) (fun e=>by have:=Option.some.inj e; omega)).trans (hb.block k hk)⟩
theorem RSL.other {w w':World} {base:Nat} {a:Option Addr} {m g:Nat} {R:Nat→Ras} (h:RSL w base a m R) (hg:w.grownBy w' (some g)) (hn:g < base):RSL w' base a m R:=by
 rcases h with h | ⟨g1,rfl,A,G,C,h⟩
 ·exact .inl h
 ·exact .inr ⟨g1,rfl,A,G,C,h.keep (fun b hb hl=>hg.block b hl (fun e=>by have:=Option.some.inj e; omega))⟩
end
section
namespace OutMath
def p2 (n:Nat):Int:=2 ^ n
theorem p2_zero:p2 0=1:=by simp [p2]
theorem p2_succ (n:Nat):p2 (n+1)=2 * p2 n:=by unfold p2; rw [Int.pow_succ]; omega
theorem p2_pos:∀ n,1≤p2 n
 | 0=>by simp [p2]
 | n+1=>by have:=p2_pos n; rw [p2_succ]; omega
theorem p2_mono (n:Nat):∀ m,p2 n≤p2 (n+m)
 | 0=>by simp
 | m+1=>by have:=p2_mono n m; have h:=p2_pos (n+m); rw [← Nat.add_assoc,p2_succ]; omega
theorem p2_le {n m:Nat} (h:n≤m):p2 n≤p2 m:=by
 obtain⟨k,rfl⟩:=Nat.exists_eq_add_of_le h
 exact p2_mono n k
theorem p2_61 {n:Nat} (h:n≤61):p2 n≤2305843009213693952:=by
 have h1:=p2_le h
 have h2:p2 61=2305843009213693952:=by decide +kernel
 omega
theorem p2_nat (n:Nat):p2 n=((2 ^ n:Nat):Int):=by unfold p2; simp
def last (s:ByteArray):Nat:=(s.data[s.size - 1]?.getD 0).toNat
end OutMath
end
section
namespace PutMath
open OutMath
def bitOf (x:Int) (k:Nat):Int:=x / p2 k % 2
theorem i64_and_nat (a b:Nat) (ha:a < 9223372036854775808) (hb:b < 9223372036854775808):bits .and .i64 (a:Int) (b:Int)=((a &&& b:Nat):Int):=by
 have h1:(BitVec.ofInt 64 (a:Int)).toNat=a:=by
  rw[BitVec.ofInt_natCast,BitVec.toNat_ofNat]; exact Nat.mod_eq_of_lt (by omega)
 have h2:(BitVec.ofInt 64 (b:Int)).toNat=b:=by
  rw[BitVec.ofInt_natCast,BitVec.toNat_ofNat]; exact Nat.mod_eq_of_lt (by omega)
 have hx:a &&& b < 2 ^ 63:=Nat.and_lt_two_pow _ (by omega)
 show IntKind.i64.wrap ((BitVec.ofInt 64 (a:Int) &&& BitVec.ofInt 64 (b:Int)).toNat:Int)=_
 rw[BitVec.toNat_and,h1,h2,IntKind.wrap_i64]
 omega
end PutMath
end
section
namespace TakeMath
open OutMath
def byteAt (s:ByteArray) (i:Nat):Nat:=(s.data[i]?.getD 0).toNat
theorem byteAt_lt (s:ByteArray) (i:Nat):byteAt s i < 256:=UInt8.toNat_lt _
theorem byteAt_get (s:ByteArray) (i:Nat) (h:i < s.size):(s[i]'h).toNat=byteAt s i:=by
 unfold byteAt
 have h':i < s.data.size:=h
 rw[Array.getElem?_eq_getElem h']
 rfl
def bit (s:ByteArray) (i:Nat):Int:=(byteAt s (i / 8):Int) / p2 (i % 8) % 2
theorem div_bd (x:Nat) (q:Int) (hq:1≤q):0≤(x:Int) / q∧(x:Int) / q≤x:=⟨Int.ediv_nonneg (by omega) (by omega),Int.ediv_le_self _ (by omega)⟩
theorem i64_and_nat (a b:Nat) (ha:a < 9223372036854775808) (hb:b < 9223372036854775808):bits .and .i64 (a:Int) (b:Int)=((a &&& b:Nat):Int):=by
 have h1:(BitVec.ofInt 64 (a:Int)).toNat=a:=by
  rw[BitVec.ofInt_natCast,BitVec.toNat_ofNat]; exact Nat.mod_eq_of_lt (by omega)
 have h2:(BitVec.ofInt 64 (b:Int)).toNat=b:=by
  rw[BitVec.ofInt_natCast,BitVec.toNat_ofNat]; exact Nat.mod_eq_of_lt (by omega)
 have hx:a &&& b < 2 ^ 63:=Nat.and_lt_two_pow _ (by omega)
 show IntKind.i64.wrap ((BitVec.ofInt 64 (a:Int) &&& BitVec.ofInt 64 (b:Int)).toNat:Int)=_
 rw[BitVec.toNat_and,h1,h2,IntKind.wrap_i64]
 omega
theorem i64_or_nat (a b:Nat) (ha:a < 9223372036854775808) (hb:b < 9223372036854775808):bits .or .i64 (a:Int) (b:Int)=((a ||| b:Nat):Int):=by
 have h1:(BitVec.ofInt 64 (a:Int)).toNat=a:=by
  rw[BitVec.ofInt_natCast,BitVec.toNat_ofNat]; exact Nat.mod_eq_of_lt (by omega)
 have h2:(BitVec.ofInt 64 (b:Int)).toNat=b:=by
  rw[BitVec.ofInt_natCast,BitVec.toNat_ofNat]; exact Nat.mod_eq_of_lt (by omega)
 have hx:a ||| b < 2 ^ 63:=Nat.or_lt_two_pow (by omega) (by omega)
 show IntKind.i64.wrap ((BitVec.ofInt 64 (a:Int) ||| BitVec.ofInt 64 (b:Int)).toNat:Int)=_
 rw[BitVec.toNat_or,h1,h2,IntKind.wrap_i64]
 omega
end TakeMath
end
section
namespace BitsMath
open OutMath PutMath TakeMath
theorem p2_add (a:Nat):∀ b,p2 (a+b)=p2 a * p2 b
 | 0=>by rw [p2_zero,Nat.add_zero]; omega
 | b+1=>by rw [← Nat.add_assoc,p2_succ,p2_add a b,p2_succ,← Int.mul_assoc,← Int.mul_assoc,Int.mul_comm 2 (p2 a)]
section
variable {xs:List Int} {c:Nat} {f:Nat→Int}
end
section
variable {v:Nat→Int} {n:Nat→Nat}
end
theorem code_step (x:Int) (n k:Nat) (hk:k < n):2 * (x / p2 (n - k))+bitOf x (n - 1 - k)=x / p2 (n - (k+1)):=by
 have e:n - k=n - (k+1)+1:=by omega
 have e2:n - 1 - k=n - (k+1):=by omega
 unfold bitOf
 rw[e,e2,p2_succ,Int.mul_comm 2 (p2 _),← Int.ediv_ediv_of_nonneg (by have:=p2_pos (n - (k+1)); omega)]
 generalize x / p2 (n - (k+1))=u
 omega
end BitsMath
end
section
namespace RastMath
open OutMath PutMath BitsMath
def hb (g:Nat→Int):Nat→Int
 | 0=>0
 | k+1=>2 * hb g k+g k
theorem hb_congr {g h:Nat→Int}:∀ m,(∀ k,k < m→g k=h k)→hb g m=hb h m
 | 0,_=>rfl
 | m+1,e=>by
  show 2 * hb g m+g m=2 * hb h m+h m
  rw[hb_congr m fun k hk=>e k (by omega),e m (by omega)]
theorem hb_range {g:Nat→Int} (h:∀ k,0≤g k∧g k≤1):∀ m,0≤hb g m∧hb g m < p2 m
 | 0=>by rw [p2_zero]; exact⟨Int.le_refl _,by show (0:Int) < 1; omega⟩
 | m+1=>by
  have h1:=hb_range h m
  have h2:=h m
  rw[p2_succ]
  show 0≤2 * hb g m+g m∧2 * hb g m+g m < 2 * p2 m
  omega
theorem hb_num (x:Int) (d:Nat) (h0:0≤x) (h1:x < p2 d):∀ j,j≤d→hb (fun k=>bitOf x (d - 1 - k)) j=x / p2 (d - j)
 | 0,_=>by
  show (0:Int)=_
  rw[Nat.sub_zero]
  exact (Int.ediv_eq_zero_of_lt h0 h1).symm
 | j+1,hj=>by
  show 2 * hb _ j+bitOf x (d - 1 - j)=_
  rw[hb_num x d h0 h1 j (by omega)]
  exact code_step x d j (by omega)
theorem bitOf_range (x:Int) (i:Nat):0≤bitOf x i∧bitOf x i≤1:=by
 unfold bitOf
 omega
def unpackS (b:Nat→Int) (d i:Nat):Int:=hb (fun k=>bitOf (b ((i * d+k) / 8)) (7 - (i * d+k) % 8)) d
end RastMath
end
section
open Go.RowKit OutMath PutMath TakeMath BitsMath RastMath
def smp (s:ByteArray) (d i:Nat):Int:=unpackS (fun j=>(byteAt s j:Int)) d i
def smps (s:ByteArray) (d n:Nat):List Int:=(List.range n).map (smp s d)
theorem smps_next (s:ByteArray) (d n:Nat):smps s d (n+1)=smps s d n ++ [smp s d n]:=by simp [smps,List.range_succ]
theorem smps_length (s:ByteArray) (d n:Nat):(smps s d n).length=n:=by simp [smps]
theorem p2_add (a:Nat):∀ b,p2 (a+b)=p2 a * p2 b
 | 0=>by rw [p2_zero,Nat.add_zero,Int.mul_one]
 | b+1=>by rw [← Nat.add_assoc,p2_succ,p2_add a b,p2_succ,Int.mul_left_comm]
theorem hb_split (g:Nat→Int) (a:Nat):∀ b,hb g (a+b)=hb g a * p2 b+hb (fun k=>g (a+k)) b
 | 0=>by show hb g a=hb g a * p2 0+0; rw [p2_zero]; omega
 | b+1=>by
  show 2 * hb g (a+b)+g (a+b)=hb g a * p2 (b+1)+(2 * hb (fun k=>g (a+k)) b+g (a+b))
  rw[hb_split g a b,p2_succ,Int.mul_left_comm]
  omega
theorem bitOf_mod (x:Int) {d m:Nat} (h:m < d):bitOf (x % p2 d) m=bitOf x m:=by
 unfold bitOf
 obtain⟨e,rfl⟩:∃ e,d=m+(e+1):=⟨d - m - 1,by omega⟩
 have hp:=p2_pos m
 have h1:x=x % p2 (m+(e+1))+p2 m * (2 * p2 e * (x / p2 (m+(e+1)))):=by
  have h2:=Int.emod_add_mul_ediv x (p2 (m+(e+1)))
  rw[p2_add m (e+1),p2_succ] at h2 ⊢
  rw[Int.mul_assoc] at h2
  exact h2.symm
 have h3:x / p2 m=x % p2 (m+(e+1)) / p2 m+2 * (p2 e * (x / p2 (m+(e+1)))):=by
  have h4:x / p2 m=(x % p2 (m+(e+1))+p2 m * (2 * p2 e * (x / p2 (m+(e+1))))) / p2 m:=congrArg (· / p2 m) h1
  rw[h4,Int.add_mul_ediv_left _ _ (by omega),Int.mul_assoc]
 rw[h3]
 omega
theorem bitOf_div (x:Int) (a m:Nat):bitOf (x / p2 a) m=bitOf x (a+m):=by
 unfold bitOf
 have:=p2_pos a
 rw[Int.ediv_ediv_of_nonneg (by omega),p2_add]
theorem smp_small (s:ByteArray) (d i:Nat) (h:i * d % 8+d≤8):smp s d i=(byteAt s (i * d / 8):Int) / p2 (8 - d - i * d % 8) % p2 d:=by
 generalize hr:i * d=r at h ⊢
 obtain⟨B,hB⟩:∃ B:Int,B=(byteAt s (r / 8):Int):=⟨_,rfl⟩
 rw[← hB]
 have hp:=p2_pos d
 have e:smp s d i=hb (fun k=>bitOf (B / p2 (8 - d - r % 8) % p2 d) (d - 1 - k)) d:=by
  refine hb_congr d fun k hk=>?_
  show bitOf (byteAt s ((i * d+k) / 8):Int) (7 - (i * d+k) % 8)=_
  rw[hr,show (r+k) / 8=r / 8 by omega,← hB,bitOf_mod _ (by omega),bitOf_div,show 7 - (r+k) % 8=8 - d - r % 8+(d - 1 - k) by omega]
 rw[e,hb_num _ d (Int.emod_nonneg _ (by omega)) (Int.emod_lt_of_pos _ (by omega)) d (Nat.le_refl _),Nat.sub_self,p2_zero]
 omega
theorem smp_two (s:ByteArray) (i:Nat):smp s 16 i=256 * (byteAt s (2 * i):Int)+(byteAt s (2 * i+1):Int):=by
 have e0:hb (fun k=>bitOf (byteAt s ((i * 16+k) / 8):Int) (7 - (i * 16+k) % 8)) 8=(byteAt s (2 * i):Int):=by
  have hl:=byteAt_lt s (2 * i)
  refine (hb_congr 8 (h:=fun k=>bitOf (byteAt s (2 * i):Int) (8 - 1 - k)) fun k hk=>?_).trans ?_
  ·show bitOf _ _=bitOf _ _
   rw[show (i * 16+k) / 8=2 * i by omega,show 7 - (i * 16+k) % 8=8 - 1 - k by omega]
  ·rw[hb_num _ 8 (by omega) (by rw [show p2 8=256 by decide +kernel]; omega) 8 (Nat.le_refl _),Nat.sub_self,p2_zero]
   omega
 have e1:hb (fun k=>(fun k=>bitOf (byteAt s ((i * 16+k) / 8):Int) (7 - (i * 16+k) % 8)) (8+k)) 8=(byteAt s (2 * i+1):Int):=by
  have hl:=byteAt_lt s (2 * i+1)
  refine (hb_congr 8 (h:=fun k=>bitOf (byteAt s (2 * i+1):Int) (8 - 1 - k)) fun k hk=>?_).trans ?_
  ·show bitOf _ _=bitOf _ _
   rw[show (i * 16+(8+k)) / 8=2 * i+1 by omega,show 7 - (i * 16+(8+k)) % 8=8 - 1 - k by omega]
  ·rw[hb_num _ 8 (by omega) (by rw [show p2 8=256 by decide +kernel]; omega) 8 (Nat.le_refl _),Nat.sub_self,p2_zero]
   omega
 have hs:=hb_split (fun k=>bitOf (byteAt s ((i * 16+k) / 8):Int) (7 - (i * 16+k) % 8)) 8 8
 show hb _ (8+8)=_
 rw[hs,e0,e1,show p2 8=256 by decide +kernel]
 omega
theorem and_mask (x:Int) (d:Nat) (h0:0≤x) (h1:x < 9223372036854775808) (hd:d≤16):bits .and .i64 x (p2 d - 1)=x % p2 d:=by
 obtain⟨n,rfl⟩:=Int.eq_ofNat_of_zero_le h0
 have hp:1≤2 ^ d:=Nat.one_le_two_pow
 have hle:2 ^ d≤2 ^ 16:=Nat.pow_le_pow_right (by omega) hd
 have:=TakeMath.i64_and_nat n (2 ^ d - 1) (by omega) (by omega)
 rw[Nat.and_two_pow_sub_one_eq_mod] at this
 rw[p2_nat,show (((2 ^ d:Nat):Int) - 1)=((2 ^ d - 1:Nat):Int) by omega,this,Int.natCast_emod]
theorem or_two (a b:Int) (h0:0≤a) (h1:a < 256) (h2:0≤b) (h3:b < 256):bits .or .i64 (a * 256) b=256 * a+b:=by
 obtain⟨n,rfl⟩:=Int.eq_ofNat_of_zero_le h0
 obtain⟨m,rfl⟩:=Int.eq_ofNat_of_zero_le h2
 have:=TakeMath.i64_or_nat (n * 256) m (by omega) (by omega)
 have e:n * 256 ||| m=n * 256+m:=by
  have:=Nat.two_pow_add_eq_or_of_lt (i:=8) (b:=m) (by omega) n
  rw[show (2:Nat) ^ 8=256 from rfl,Nat.mul_comm] at this
  exact this.symm
 rw[e] at this
 rw[show ((n:Int) * 256)=((n * 256:Nat):Int) by simp,this]
 omega
theorem five_place {d:Nat} (h:Five (d:Int)) (h16:¬ d=16) (i:Nat):i * d % 8+d≤8:=by
 have:d=1∨d=2∨d=4∨d=8:=by
  unfold Five at h
  omega
 rcases this with rfl | rfl | rfl | rfl <;> omega
end
section
open Go.RowKit OutMath PutMath BitsMath RastMath
def Fit12 (f:Nat→Int) (n d:Nat):Prop:=∀ i,i < n→0≤f i∧f i < p2 d
theorem Fit12.next {f:Nat→Int} {n d:Nat} (h:Fit12 f n d) (h0:0≤f n) (h1:f n < p2 d):Fit12 f (n+1) d:=fun i hi=>by
 by_cases e:i=n
 ·rw[e]; exact⟨h0,h1⟩
 ·exact h i (by omega)
end
section
open Go.RowKit RastMath
def RasR (x0 x1 x2 x3:Int) (n:Nat) (f:Nat→Int):Prop:=SideR x0∧SideR x1∧DepthR x2 x3∧(n:Int)=x0 * x1 * chan x2∧Fit12 f n x3.toNat
def RasPost (x0 x1 x2 x3:Int) (n:Nat) (f:Nat→Int) (w:World) (e:Ending) (w':World):Prop:=∃ b,e=.returned (.bool b)∧(b=true↔RasR x0 x1 x2 x3 n f)∧Below w.heap.size w w'
theorem ras_no {x0 x1 x2 x3:Int} {n:Nat} {f:Nat→Int} {w w':World} (h:¬ RasR x0 x1 x2 x3 n f) (hb:Below w.heap.size w w'):RasPost x0 x1 x2 x3 n f w (.returned (.bool false)) w':=⟨false,rfl,⟨(fun e=>by cases e),fun k=>absurd k h⟩,hb⟩
theorem ras_yes {x0 x1 x2 x3:Int} {n:Nat} {f:Nat→Int} {w w':World} (h:RasR x0 x1 x2 x3 n f) (hb:Below w.heap.size w w'):RasPost x0 x1 x2 x3 n f w (.returned (.bool true)) w':=⟨true,rfl,⟨fun _=>h,fun _=>rfl⟩,hb⟩
end
end Go.Proofs.YtcbbcadfolgioaaDoor
