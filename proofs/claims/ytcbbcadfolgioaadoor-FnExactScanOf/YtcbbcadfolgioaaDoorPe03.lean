/-
  Texts of the proof, put together.
-/
import Derived.Test.YtcbbcadfolgioaaDoorPe02
namespace Go.Proofs.YtcbbcadfolgioaaDoor
section
open Go.RowKit OutMath PutMath BitsMath RastMath
def Fit12 (f:Nat→Int) (n d:Nat):Prop:=∀ i,i < n→0≤f i∧f i < p2 d
theorem Fit12.next {f:Nat→Int} {n d:Nat} (h:Fit12 f n d) (h0:0≤f n) (h1:f n < p2 d):Fit12 f (n+1) d:=fun i hi=>by
 by_cases e:i=n
 ·rw[e]; exact⟨h0,h1⟩
 ·exact h i (by omega)
def bitsL (f:Nat→Int) (n d m:Nat):List Int:=(List.range m).map (rowBit f n d)
theorem bitsL_length (f:Nat→Int) (n d m:Nat):(bitsL f n d m).length=m:=by simp [bitsL]
theorem bitsL_next (f:Nat→Int) (n d m:Nat):bitsL f n d (m+1)=bitsL f n d m ++ [rowBit f n d m]:=by simp [bitsL,List.range_succ]
theorem bitsL_get (f:Nat→Int) (n d m i:Nat) (h:i < m):(bitsL f n d m).getD i 0=rowBit f n d i:=by simp [bitsL,List.getD_eq_getElem?_getD,h]
def packN (f:Nat→Int) (n d b:Nat):List Int:=(List.range b).map (packB f n d)
theorem packN_length (f:Nat→Int) (n d b:Nat):(packN f n d b).length=b:=by simp [packN]
theorem packN_next (f:Nat→Int) (n d b:Nat):packN f n d (b+1)=packN f n d b ++ [packB f n d b]:=by simp [packN,List.range_succ]
theorem packN_get (f:Nat→Int) (n d b i:Nat) (h:i < b):(packN f n d b).getD i 0=packB f n d i:=by simp [packN,List.getD_eq_getElem?_getD,h]
def packL (f:Nat→Int) (n d:Nat):List Int:=packN f n d ((n * d+7) / 8)
def packT (f:Nat→Int) (n d:Nat):ByteArray:=strOfNums (packL f n d)
theorem rowBit_in {f:Nat→Int} {n d j k:Nat} (hj:j < n) (hk:k < d):rowBit f n d (j * d+k)=bitOf (f j) (d - 1 - k):=by
 have hlt:j * d+k < n * d:=by
  have:(j+1) * d≤n * d:=Nat.mul_le_mul_right d hj
  rw[Nat.add_mul] at this
  omega
 unfold rowBit
 rw[if_pos hlt,show (j * d+k) / d=j by rw [Nat.mul_comm,Nat.mul_add_div (by omega),Nat.div_eq_of_lt hk]; omega,show (j * d+k) % d=k by rw [Nat.mul_comm,Nat.mul_add_mod,Nat.mod_eq_of_lt hk]]
theorem rowBit_out {f:Nat→Int} {n d m:Nat} (h:n * d≤m):rowBit f n d m=0:=by
 unfold rowBit
 rw[if_neg (by omega)]
theorem rowBit_old (f:Nat→Int) (j d m:Nat) (h:¬ (j * d≤m∧m < j * d+d)):rowBit f (j+1) d m=rowBit f j d m:=by
 unfold rowBit
 rw[Nat.add_mul,Nat.one_mul]
 by_cases h1:m < j * d
 ·rw[if_pos (by omega),if_pos h1]
 ·rw[if_neg (by omega),if_neg h1]
theorem packB_none (f:Nat→Int) (d m:Nat):packB f 0 d m=0:=by
 unfold packB
 refine (hb_congr 8 (h:=fun _=>0) fun k _=>?_).trans (hb_zero 8)
 exact rowBit_out (by omega)
theorem packB_small (f:Nat→Int) (j d:Nat) (h:j * d % 8+d≤8) (h0:0≤f j) (h1:f j < p2 d):
  (∃ q,packB f j d (j * d / 8)=q * p2 (d+(8 - d - j * d % 8))∧0≤q∧q < p2 (j * d % 8)∧packB f (j+1) d (j * d / 8)=packB f j d (j * d / 8)+f j * p2 (8 - d - j * d % 8))∧∀ m,¬ m=j * d / 8→packB f (j+1) d m=packB f j d m:=by
 obtain⟨r,hr⟩:∃ r,r=j * d:=⟨_,rfl⟩
 rw[← hr] at h ⊢
 obtain⟨a,ha⟩:∃ a,a=r % 8:=⟨_,rfl⟩
 obtain⟨sh,hsh⟩:∃ sh,sh=8 - d - a:=⟨_,rfl⟩
 rw[← ha] at h ⊢
 rw[← hsh]
 have e8:8=a+(d+sh):=by omega
 have hz:∀ (g:Nat→Int),(∀ k,k < sh→g (a+(d+k))=0)→hb g 8=hb g a * p2 (d+sh)+hb (fun k=>g (a+k)) d * p2 sh:=by
  intro g hg
  have s1:=hb_split g a (d+sh)
  have s2:=hb_split (fun k=>g (a+k)) d sh
  have s3:hb (fun k=>(fun k=>g (a+k)) (d+k)) sh=0:=(hb_congr sh (h:=fun _=>0) fun k hk=>hg k hk).trans (hb_zero sh)
  rw[s3,Int.add_zero] at s2
  rw[s2,← e8] at s1
  exact s1
 have ho:∀ k,k < sh→rowBit f (j+1) d (8 * (r / 8)+(a+(d+k)))=0:=fun k hk=>rowBit_out (by rw [Nat.add_mul,Nat.one_mul,← hr]; omega)
 have hp:∀ k,k < sh→rowBit f j d (8 * (r / 8)+(a+(d+k)))=0:=fun k hk=>rowBit_out (by rw [← hr]; omega)
 have p1:=hz (fun k=>rowBit f (j+1) d (8 * (r / 8)+k)) ho
 have p0:=hz (fun k=>rowBit f j d (8 * (r / 8)+k)) hp
 have m0:hb (fun k=>(fun k=>rowBit f j d (8 * (r / 8)+k)) (a+k)) d=0:=(hb_congr d (h:=fun _=>0) fun k hk=>rowBit_out (by rw [← hr]; omega)).trans (hb_zero d)
 have m1:hb (fun k=>(fun k=>rowBit f (j+1) d (8 * (r / 8)+k)) (a+k)) d=f j:=by
  refine (hb_congr d (h:=fun k=>bitOf (f j) (d - 1 - k)) fun k hk=>?_).trans ?_
  ·show rowBit f (j+1) d (8 * (r / 8)+(a+k))=_
   rw[show 8 * (r / 8)+(a+k)=j * d+k by rw [← hr]; omega]
   exact rowBit_in (by omega) hk
  ·rw[hb_num _ d h0 h1 d (Nat.le_refl _),Nat.sub_self,p2_zero]
   omega
 have q1:hb (fun k=>rowBit f (j+1) d (8 * (r / 8)+k)) a=hb (fun k=>rowBit f j d (8 * (r / 8)+k)) a:=hb_congr a fun k hk=>rowBit_old f j d _ (by rw [← hr]; omega)
 rw[m0,Int.zero_mul,Int.add_zero] at p0
 rw[m1,q1,← p0] at p1
 have hq:=hb_range (g:=fun k=>rowBit f j d (8 * (r / 8)+k)) (fun k=>rowBit_range f j d _) a
 refine⟨⟨_,p0,hq.1,hq.2,p1⟩,fun m hm=>hb_congr 8 fun k hk=>rowBit_old f j d _ ?_⟩
 rw[← hr]
 omega
theorem packB_two (f:Nat→Int) (j:Nat) (h0:0≤f j) (h1:f j < 65536):packB f (j+1) 16 (2 * j)=f j / 256∧packB f (j+1) 16 (2 * j+1)=f j % 256∧∀ m,¬ m=2 * j→¬ m=2 * j+1→packB f (j+1) 16 m=packB f j 16 m:=by
 have p8:p2 8=256:=by decide +kernel
 refine⟨?_,?_,fun m h2 h3=>hb_congr 8 fun k hk=>rowBit_old f j 16 _ (by omega)⟩
 ·refine (hb_congr 8 (h:=fun k=>bitOf (f j / p2 8) (8 - 1 - k)) fun k hk=>?_).trans ?_
  ·show rowBit f (j+1) 16 (8 * (2 * j)+k)=_
   rw[show 8 * (2 * j)+k=j * 16+k by omega,rowBit_in (by omega) (by omega),bitOf_div,show 8+(8 - 1 - k)=16 - 1 - k by omega]
  ·rw[hb_num _ 8 (Int.ediv_nonneg h0 (by omega)) (by rw [p8]; omega) 8 (Nat.le_refl _),Nat.sub_self,p2_zero,p8]
   omega
 ·refine (hb_congr 8 (h:=fun k=>bitOf (f j % p2 8) (8 - 1 - k)) fun k hk=>?_).trans ?_
  ·show rowBit f (j+1) 16 (8 * (2 * j+1)+k)=_
   rw[show 8 * (2 * j+1)+k=j * 16+(8+k) by omega,rowBit_in (by omega) (by omega),bitOf_mod _ (by omega),show 16 - 1 - (8+k)=8 - 1 - k by omega]
  ·rw[hb_num _ 8 (by rw [p8]; omega) (by rw [p8]; omega) 8 (Nat.le_refl _),Nat.sub_self,p2_zero,p8]
   omega
theorem u8_or_nat (a b:Nat) (ha:a < 256) (hb:b < 256):bits .or .u8 (a:Int) (b:Int)=((a ||| b:Nat):Int):=by
 have h1:(BitVec.ofInt 8 (a:Int)).toNat=a:=by
  rw[BitVec.ofInt_natCast,BitVec.toNat_ofNat]; exact Nat.mod_eq_of_lt (by omega)
 have h2:(BitVec.ofInt 8 (b:Int)).toNat=b:=by
  rw[BitVec.ofInt_natCast,BitVec.toNat_ofNat]; exact Nat.mod_eq_of_lt (by omega)
 have hx:a ||| b < 2 ^ 8:=Nat.or_lt_two_pow (by omega) (by omega)
 show IntKind.u8.wrap ((BitVec.ofInt 8 (a:Int) ||| BitVec.ofInt 8 (b:Int)).toNat:Int)=_
 rw[BitVec.toNat_or,h1,h2]
 show ((a ||| b:Nat):Int) % 256=_
 omega
theorem or_small (q x:Int) (a d sh:Nat) (h8:a+(d+sh)=8) (q0:0≤q) (q1:q < p2 a) (x0:0≤x) (x1:x < p2 d):bits .or .u8 (q * p2 (d+sh)) (x * p2 sh)=q * p2 (d+sh)+x * p2 sh:=by
 obtain⟨Q,rfl⟩:=Int.eq_ofNat_of_zero_le q0
 obtain⟨X,rfl⟩:=Int.eq_ofNat_of_zero_le x0
 rw[p2_nat] at q1 x1
 have hX:X < 2 ^ d:=by omega
 have hQ:Q < 2 ^ a:=by omega
 have hXs:X * 2 ^ sh < 2 ^ (d+sh):=by
  rw[Nat.pow_add]
  exact Nat.mul_lt_mul_of_pos_right hX (Nat.two_pow_pos sh)
 have hQs:(Q+1) * 2 ^ (d+sh)≤2 ^ 8:=by
  rw[← h8,Nat.pow_add 2 a]
  exact Nat.mul_le_mul_right _ hQ
 rw[Nat.add_mul,Nat.one_mul] at hQs
 have e:Q * 2 ^ (d+sh) ||| X * 2 ^ sh=Q * 2 ^ (d+sh)+X * 2 ^ sh:=by
  have:=Nat.two_pow_add_eq_or_of_lt hXs Q
  rw[Nat.mul_comm] at this
  exact this.symm
 have:=u8_or_nat (Q * 2 ^ (d+sh)) (X * 2 ^ sh) (by omega) (by omega)
 rw[e] at this
 rw[p2_nat,p2_nat,show ((Q:Int) * ((2 ^ (d+sh):Nat):Int))=((Q * 2 ^ (d+sh):Nat):Int) by simp,show ((X:Int) * ((2 ^ sh:Nat):Int))=((X * 2 ^ sh:Nat):Int) by simp,this]
 omega
def PackPost (f:Nat→Int) (n d:Nat) (w:World) (e:Ending) (w':World):Prop:=(Fit12 f n d→e=.returned (.tuple #[.string (packT f n d),.bool true]))∧(¬ Fit12 f n d→e=.returned (.tuple #[.string ⟨#[]⟩,.bool false]))∧Below w.heap.size w w'
end
section
open Go.RowKit RastMath
def RasR (x0 x1 x2 x3:Int) (n:Nat) (f:Nat→Int):Prop:=SideR x0∧SideR x1∧DepthR x2 x3∧(n:Int)=x0 * x1 * chan x2∧Fit12 f n x3.toNat
def RasPost (x0 x1 x2 x3:Int) (n:Nat) (f:Nat→Int) (w:World) (e:Ending) (w':World):Prop:=∃ b,e=.returned (.bool b)∧(b=true↔RasR x0 x1 x2 x3 n f)∧Below w.heap.size w w'
theorem ras_no {x0 x1 x2 x3:Int} {n:Nat} {f:Nat→Int} {w w':World} (h:¬ RasR x0 x1 x2 x3 n f) (hb:Below w.heap.size w w'):RasPost x0 x1 x2 x3 n f w (.returned (.bool false)) w':=⟨false,rfl,⟨(fun e=>by cases e),fun k=>absurd k h⟩,hb⟩
theorem ras_yes {x0 x1 x2 x3:Int} {n:Nat} {f:Nat→Int} {w w':World} (h:RasR x0 x1 x2 x3 n f) (hb:Below w.heap.size w w'):RasPost x0 x1 x2 x3 n f w (.returned (.bool true)) w':=⟨true,rfl,⟨fun _=>h,fun _=>rfl⟩,hb⟩
end
section
open Go.RowKit Go.Joins
theorem szIntS_any (a:Option Addr) (n cap:Nat) (l:Int) (w:World) (h0:0≤l) (h1:l≤1048576) (hn:n≤maxLen):
  Calls Tryd.prog 49 #[.slice a n cap,.int .i64 l] w fun e w'=>e=.returned (.int .i64 (if (n:Int)≤l then l - n else -1))∧w'=w:=by
 unfold maxLen at hn
 by_cases h:(n:Int)≤l
 ·rw[if_pos h]
  have d:decide (l - (n:Int) < 0)=false:=decide_eq_false (by omega)
  go_enter Tryd.func49,Tryd.ntmps49
  go_wp2_with fail
  go_ret
  exact⟨rfl,rfl⟩
 ·rw[if_neg h]
  have d:decide (l - (n:Int) < 0)=true:=decide_eq_true (by omega)
  go_enter Tryd.func49,Tryd.ntmps49
  go_wp2_with fail
  go_ret
  exact⟨rfl,rfl⟩
theorem szRaster_any (x0 x1 x2 x3:Int) (a:Option Addr) (n cap:Nat) (l:Int) (w:World) (h0:0≤l) (h1:l≤1048576) (hn:n≤maxLen):
  Calls Tryd.prog 18 #[.agg #[.int .i64 x0,.int .i64 x1,.int .i64 x2,.int .i64 x3,.slice a n cap],.int .i64 l] w fun e w'=>e=.returned (.int .i64 (if (n:Int)≤l then l - n else -1))∧Below w.heap.size w w':=by
 have hs:=fun W=>szIntS_any a n cap l W h0 h1 hn
 have hB:=hid_of (bstart w (.cells #[.int .i64 x0,.int .i64 x1,.int .i64 x2,.int .i64 x3,.slice a n cap] 41))
 unfold maxLen at hn
 by_cases h:(n:Int)≤l
 ·rw[if_pos h] at hs ⊢
  have d:decide (l - (n:Int) < 0)=false:=decide_eq_false (by omega)
  go_enter Tryd.func18,Tryd.ntmps18
  go_wp2_with fail
  refine (hs _).mono ?_
  rintro e w1 ⟨rfl,rfl⟩
  go_wp2_with fail
  go_ret
  exact⟨rfl,hB.out⟩
 ·rw[if_neg h] at hs ⊢
  go_enter Tryd.func18,Tryd.ntmps18
  go_wp2_with fail
  refine (hs _).mono ?_
  rintro e w1 ⟨rfl,rfl⟩
  go_wp2_with fail
  go_ret
  exact⟨rfl,hB.out⟩
def RasCopy (x0 x1 x2 x3:Int) (n:Nat) (f:Nat→Int) (w:World) (e:Ending) (w':World):Prop:=∃ g,e=.returned (.agg #[.int .i64 x0,.int .i64 x1,.int .i64 x2,.int .i64 x3,.slice (some ⟨g,0,none⟩) n n])∧IOwn w' w.heap.size g n n f∧Below w.heap.size w w'
set_option maxHeartbeats 1600000 in
theorem toRaster_any (x0 x1 x2 x3:Int) (a:Option Addr) (n cap:Nat) (f:Nat→Int) (w:World) (hC:Came w a n f) (hn:n≤1048576):
  Calls Tryd.prog 20 #[.agg #[.int .i64 x0,.int .i64 x1,.int .i64 x2,.int .i64 x3,.slice a n cap]] w (RasCopy x0 x1 x2 x3 n f w):=by
 have HC:=hid_of hC
 clear hC
 go_enter Tryd.func20,Tryd.ntmps20
 go_wp2_with fail
 have HB0:Hid (Below w.heap.size w (((w.alloc (.cells #[.int .i64 x0,.int .i64 x1,.int .i64 x2,.int .i64 x3,.slice a n cap] 41)).alloc (.cells #[.int .i64 0,.int .i64 0,.int .i64 0,.int .i64 0,.slice none 0 0] 26)).alloc (.cells #[.int .i64 x0,.int .i64 x1,.int .i64 x2,.int .i64 x3,.slice none 0 0] 26))):=bal (bal (bstart _ _) _) _
 have HS0:Hid ((((w.alloc (.cells #[.int .i64 x0,.int .i64 x1,.int .i64 x2,.int .i64 x3,.slice a n cap] 41)).alloc (.cells #[.int .i64 0,.int .i64 0,.int .i64 0,.int .i64 0,.slice none 0 0] 26)).alloc (.cells #[.int .i64 x0,.int .i64 x1,.int .i64 x2,.int .i64 x3,.slice none 0 0] 26)).heap.size=w.heap.size+3):=by
  show _=_
  simp
 have HR1:Hid ((((w.alloc (.cells #[.int .i64 x0,.int .i64 x1,.int .i64 x2,.int .i64 x3,.slice a n cap] 41)).alloc (.cells #[.int .i64 0,.int .i64 0,.int .i64 0,.int .i64 0,.slice none 0 0] 26)).alloc (.cells #[.int .i64 x0,.int .i64 x1,.int .i64 x2,.int .i64 x3,.slice none 0 0] 26)).heap[w.heap.size+1]?=some (.cells #[.int .i64 0,.int .i64 0,.int .i64 0,.int .i64 0,.slice none 0 0] 26 (0,0))):=by
  show (((w.heap.push _).push _).push _)[w.heap.size+1]?=_
  rw[Array.getElem?_push,if_neg (by simp),Array.getElem?_push,if_pos (by simp)]
 have HR2:Hid ((((w.alloc (.cells #[.int .i64 x0,.int .i64 x1,.int .i64 x2,.int .i64 x3,.slice a n cap] 41)).alloc (.cells #[.int .i64 0,.int .i64 0,.int .i64 0,.int .i64 0,.slice none 0 0] 26)).alloc (.cells #[.int .i64 x0,.int .i64 x1,.int .i64 x2,.int .i64 x3,.slice none 0 0] 26)).heap[w.heap.size+1+1]?=some (.cells #[.int .i64 x0,.int .i64 x1,.int .i64 x2,.int .i64 x3,.slice none 0 0] 26 (0,0))):=by
  show (((w.heap.push _).push _).push _)[w.heap.size+1+1]?=_
  rw[Array.getElem?_push,if_pos (by simp)]
 generalize ((w.alloc (.cells #[.int .i64 x0,.int .i64 x1,.int .i64 x2,.int .i64 x3,.slice a n cap] 41)).alloc (.cells #[.int .i64 0,.int .i64 0,.int .i64 0,.int .i64 0,.slice none 0 0] 26)).alloc (.cells #[.int .i64 x0,.int .i64 x1,.int .i64 x2,.int .i64 x3,.slice none 0 0] 26)=W3 at HB0 HS0 HR1 HR2 ⊢
 refine (toIntS_any a n cap f W3 (HC.out.called HB0.out) hn).mono ?_
 rintro e w4 ⟨rfl,hO4,hB4⟩
 have q1:w4.heap[w.heap.size+1]?=some (.cells #[.int .i64 0,.int .i64 0,.int .i64 0,.int .i64 0,.slice none 0 0] 26 (0,0)):=(hB4.block _ (by rw [HS0.out]; omega)).trans HR1.out
 have q2:w4.heap[w.heap.size+1+1]?=some (.cells #[.int .i64 x0,.int .i64 x1,.int .i64 x2,.int .i64 x3,.slice none 0 0] 26 (0,0)):=(hB4.block _ (by rw [HS0.out]; omega)).trans HR2.out
 rw[HS0.out] at hO4 ⊢
 have HO4:=hid_of hO4
 have HB4:=hid_of (bnext HB0.out hB4)
 have c0:w4.cell? ⟨w.heap.size+1+1,0,none⟩=some (.int .i64 x0):=(cell_of_block q2 0).trans rfl
 have c1:w4.cell? ⟨w.heap.size+1+1,1,none⟩=some (.int .i64 x1):=(cell_of_block q2 1).trans rfl
 have c2:w4.cell? ⟨w.heap.size+1+1,2,none⟩=some (.int .i64 x2):=(cell_of_block q2 2).trans rfl
 have c3:w4.cell? ⟨w.heap.size+1+1,3,none⟩=some (.int .i64 x3):=(cell_of_block q2 3).trans rfl
 have c4:w4.cell? ⟨w.heap.size+1+1,4,none⟩=some (.slice none 0 0):=(cell_of_block q2 4).trans rfl
 have b0:w4.cell? ⟨w.heap.size+1,0,none⟩=some (.int .i64 0):=(cell_of_block q1 0).trans rfl
 have b1:w4.cell? ⟨w.heap.size+1,1,none⟩=some (.int .i64 0):=(cell_of_block q1 1).trans rfl
 have b2:w4.cell? ⟨w.heap.size+1,2,none⟩=some (.int .i64 0):=(cell_of_block q1 2).trans rfl
 have b3:w4.cell? ⟨w.heap.size+1,3,none⟩=some (.int .i64 0):=(cell_of_block q1 3).trans rfl
 have b4:w4.cell? ⟨w.heap.size+1,4,none⟩=some (.slice none 0 0):=(cell_of_block q1 4).trans rfl
 have cf:∀ q,w4.frozen? ⟨w.heap.size+1+1,q,none⟩=false:=fun q=>by simp [World.frozen?,q2]
 have bf:∀ q,w4.frozen? ⟨w.heap.size+1,q,none⟩=false:=fun q=>by simp [World.frozen?,q1]
 have l1:=block_lt q1
 have l2:=block_lt q2
 clear q1 q2 hO4 hB4
 go_wp2_with fail
 refine bodyPost_ret (v:=.agg #[.int .i64 x0,.int .i64 x1,.int .i64 x2,.int .i64 x3,.slice (some ⟨w.heap.size+3,0,none⟩) n n]) ?_ rfl ⟨_,rfl,?_,?_⟩
 ·simp[results,Tryd.results20,go_sem, *]
 ·refine (HO4.out.mono (by omega)).keep ?_
  repeat' rw [Below.heap_setCell _ _ _ _ (by first | (simp; done) | (simp; omega))]
 ·repeat' refine Below.setCell ?_ (by first | (simp; done) | (simp; omega)) _
  exact HB4.out
set_option maxHeartbeats 1600000 in
theorem eqRaster_same (x0 x1 x2 x3:Int) (a b:Option Addr) (n c1 c2:Nat) (f:Nat→Int) (w:World) (ha:Came w a n f) (hb:Came w b n f) (hn:n≤1048576):
  Calls Tryd.prog 22 #[.agg #[.int .i64 x0,.int .i64 x1,.int .i64 x2,.int .i64 x3,.slice a n c1],.agg #[.int .i64 x0,.int .i64 x1,.int .i64 x2,.int .i64 x3,.slice b n c2]] w fun e w'=>e=.returned (.bool true)∧Below w.heap.size w w':=by
 have HA:=hid_of ha
 have HB:=hid_of hb
 clear ha hb
 have n0:(x0 != x0)=false:=by simp
 have n1:(x1 != x1)=false:=by simp
 have n2:(x2 != x2)=false:=by simp
 have n3:(x3 != x3)=false:=by simp
 go_enter Tryd.func22,Tryd.ntmps22
 go_wp2_with fail
 have HB0:Hid (Below w.heap.size w ((w.alloc (.cells #[.int .i64 x0,.int .i64 x1,.int .i64 x2,.int .i64 x3,.slice a n c1] 26)).alloc (.cells #[.int .i64 x0,.int .i64 x1,.int .i64 x2,.int .i64 x3,.slice b n c2] 26))):=bal (bstart _ _) _
 refine (eqIntS_same a b n c1 c2 f _ (HA.out.called HB0.out) (HB.out.called HB0.out) hn).mono ?_
 rintro e w1 ⟨rfl,hB1⟩
 have HB1:=hid_of (bnext HB0.out hB1)
 clear hB1
 go_wp2_with fail
 go_ret
 exact⟨rfl,HB1.out⟩
end
section
open Go.RowKit Go.Joins
structure Ras where
 x0:Int
 x1:Int
 x2:Int
 x3:Int
 n:Nat
 f:Nat→Int
abbrev rasA (r:Ras) (a:Option Addr) (c:Nat):Value:=.agg #[.int .i64 r.x0,.int .i64 r.x1,.int .i64 r.x2,.int .i64 r.x3,.slice a r.n c]
def Ras.same (r s:Ras):Prop:=r.x0=s.x0∧r.x1=s.x1∧r.x2=s.x2∧r.x3=s.x3∧r.n=s.n∧∀ i,i < r.n→r.f i=s.f i
theorem Ras.same.refl (r:Ras):r.same r:=⟨rfl,rfl,rfl,rfl,rfl,fun _ _=>rfl⟩
theorem Ras.same.symm {r s:Ras} (h:r.same s):s.same r:=⟨h.1.symm,h.2.1.symm,h.2.2.1.symm,h.2.2.2.1.symm,h.2.2.2.2.1.symm,fun i hi=>(h.2.2.2.2.2 i (by rw [h.2.2.2.2.1]; exact hi)).symm⟩
theorem Ras.same.trans {r s t:Ras} (h:r.same s) (k:s.same t):r.same t:=⟨h.1.trans k.1,h.2.1.trans k.2.1,h.2.2.1.trans k.2.2.1,h.2.2.2.1.trans k.2.2.2.1,h.2.2.2.2.1.trans k.2.2.2.2.1,fun i hi=>(h.2.2.2.2.2 i hi).trans (k.2.2.2.2.2 i (by rw [← h.2.2.2.2.1]; exact hi))⟩
def RasAt (w:World) (g o:Nat) (r:Ras) (a:Option Addr) (c:Nat):Prop:=
 w.cell? ⟨g,o,none⟩=some (.int .i64 r.x0)∧w.cell? ⟨g,o+1,none⟩=some (.int .i64 r.x1)∧w.cell? ⟨g,o+2,none⟩=some (.int .i64 r.x2)∧w.cell? ⟨g,o+3,none⟩=some (.int .i64 r.x3)∧w.cell? ⟨g,o+4,none⟩=some (.slice a r.n c)
theorem RasAt.same {w:World} {g o:Nat} {r s:Ras} {a:Option Addr} {c:Nat} (h:RasAt w g o r a c) (e:r.same s):RasAt w g o s a c:=by
 obtain⟨e0,e1,e2,e3,e4,_⟩:=e
 unfold RasAt at h ⊢
 rw[← e0,← e1,← e2,← e3,← e4]
 exact h
theorem Came.congr14 {w:World} {a:Option Addr} {n:Nat} {f f':Nat→Int} (h:Came w a n f) (e:∀ i,i < n→f i=f' i):Came w a n f':=by
 rcases h with h | ⟨g,off,ha,hg,hc⟩
 ·exact .inl h
 ·exact .inr ⟨g,off,ha,hg,fun j hj=>by rw [← e j hj]; exact hc j hj⟩
theorem Came.same {w:World} {a:Option Addr} {r s:Ras} (h:Came w a r.n r.f) (e:r.same s):Came w a s.n s.f:=by
 rw[← e.2.2.2.2.1]
 exact h.congr14 e.2.2.2.2.2
def RCame (w:World) (a:Option Addr) (m:Nat) (R:Nat→Ras):Prop:=
 m=0∨∃ (g off:Nat) (A:Nat→Option Addr) (C:Nat→Nat),a=some ⟨g,off,none⟩∧g < w.heap.size∧∀ j,j < m→RasAt w g (off+j * 5) (R j) (A j) (C j)∧Came w (A j) (R j).n (R j).f∧(R j).n≤C j∧C j≤maxLen
theorem RasAt.keep {w w':World} {g o:Nat} {r:Ras} {a:Option Addr} {c:Nat} (h:RasAt w g o r a c) (hb:w'.heap[g]?=w.heap[g]?):RasAt w' g o r a c:=by
 have e:∀ k,w'.cell? ⟨g,k,none⟩=w.cell? ⟨g,k,none⟩:=fun k=>World.cell?_of_block (a:=⟨g,k,none⟩) hb
 unfold RasAt at h ⊢
 simp only [e]
 exact h
theorem RCame.called {w w':World} {a:Option Addr} {m:Nat} {R:Nat→Ras} (h:RCame w a m R) (hb:Below w.heap.size w w'):RCame w' a m R:=by
 rcases h with h | ⟨g,off,A,C,ha,hg,hc⟩
 ·exact .inl h
 ·exact .inr ⟨g,off,A,C,ha,Nat.lt_of_lt_of_le hg hb.size,fun j hj=>⟨(hc j hj).1.keep (hb.block g hg),(hc j hj).2.1.called hb,(hc j hj).2.2⟩⟩
theorem RCame.congr {w:World} {a:Option Addr} {m:Nat} {R S:Nat→Ras} (h:RCame w a m R) (e:∀ j,j < m→(R j).same (S j)):RCame w a m S:=by
 rcases h with h | ⟨g,off,A,C,ha,hg,hc⟩
 ·exact .inl h
 ·exact .inr ⟨g,off,A,C,ha,hg,fun j hj=>⟨(hc j hj).1.same (e j hj),(hc j hj).2.1.same (e j hj),by rw [← (e j hj).2.2.2.2.1]; exact (hc j hj).2.2⟩⟩
def RowOwn (w:World) (base:Nat) (a:Option Addr) (G n c:Nat) (f:Nat→Int):Prop:=n≤c∧c≤maxLen∧(n=0∨a=some ⟨G,0,none⟩∧IOwn w base G n c f)
theorem RowOwn.came {w:World} {base:Nat} {a:Option Addr} {G n c:Nat} {f:Nat→Int} (h:RowOwn w base a G n c f):Came w a n f:=by
 obtain⟨_,_,q⟩:=h
 rcases q with q | ⟨rfl,q⟩
 ·exact .inl q
 ·exact q.sl.came
theorem RowOwn.keep {w w':World} {base:Nat} {a:Option Addr} {G n c:Nat} {f:Nat→Int} (h:RowOwn w base a G n c f) (hk:0 < n→w'.heap[G]?=w.heap[G]?):RowOwn w' base a G n c f:=by
 refine⟨h.1,h.2.1,?_⟩
 rcases Nat.eq_zero_or_pos n with e | e
 ·exact .inl e
 ·rcases h.2.2 with h | ⟨ha,h⟩
  ·exact .inl h
  ·exact .inr ⟨ha,h.keep (hk e)⟩
theorem RowOwn.lt {w:World} {base:Nat} {a:Option Addr} {G n c:Nat} {f:Nat→Int} (h:RowOwn w base a G n c f) (hn:0 < n):G < w.heap.size∧base≤G:=by
 rcases h.2.2 with h | ⟨_,h⟩
 ·omega
 ·exact⟨h.lt,h.base_le⟩
def HeadAt (cur:Array Value) (o:Nat) (r:Ras) (a:Option Addr) (c:Nat):Prop:=
 cur[o]?=some (.int .i64 r.x0)∧cur[o+1]?=some (.int .i64 r.x1)∧cur[o+2]?=some (.int .i64 r.x2)∧cur[o+3]?=some (.int .i64 r.x3)∧cur[o+4]?=some (.slice a r.n c)
def ROwnA (w:World) (base g m:Nat) (R:Nat→Ras) (A:Nat→Option Addr) (G C:Nat→Nat):Prop:=
 base≤g∧(∃ cur,w.heap[g]?=some (.cells cur 26 (0,0))∧m * 5≤cur.size∧∀ j,j < m→HeadAt cur (j * 5) (R j) (A j) (C j))∧
  (∀ j,j < m→RowOwn w base (A j) (G j) (R j).n (C j) (R j).f)∧(∀ j,j < m→0 < (R j).n→G j≠g)∧∀ i j,i < m→j < m→i≠j→0 < (R i).n→0 < (R j).n→G i≠G j
def ROwn (w:World) (base g m:Nat) (R:Nat→Ras):Prop:=∃ A G C,ROwnA w base g m R A G C
section
variable {w w':World} {base g m:Nat} {R S:Nat→Ras} {A:Nat→Option Addr} {G C:Nat→Nat}
theorem ROwnA.lt (h:ROwnA w base g m R A G C):g < w.heap.size:=by
 obtain⟨_,⟨cur,hc,_⟩,_⟩:=h
 exact block_lt hc
theorem ROwn.lt (h:ROwn w base g m R):g < w.heap.size:=by
 obtain⟨A,G,C,h⟩:=h
 exact h.lt
theorem ROwnA.keep (h:ROwnA w base g m R A G C) (hk:∀ b,base≤b→b < w.heap.size→w'.heap[b]?=w.heap[b]?):ROwnA w' base g m R A G C:=by
 have hg:=h.lt
 obtain⟨h1,⟨cur,hc,h2,h3⟩,h4,h5,h6⟩:=h
 exact⟨h1,⟨cur,(hk g h1 hg).trans hc,h2,h3⟩,fun j hj=>(h4 j hj).keep (fun hn=>hk _ ((h4 j hj).lt hn).2 ((h4 j hj).lt hn).1),h5,h6⟩
theorem ROwn.called (h:ROwn w base g m R) (hb:Below w.heap.size w w'):ROwn w' base g m R:=by
 obtain⟨A,G,C,h⟩:=h
 exact⟨A,G,C,h.keep (fun b _ hb'=>hb.block b hb')⟩
theorem ROwnA.at_ (h:ROwnA w base g m R A G C) (j:Nat) (hj:j < m):RasAt w g (j * 5) (R j) (A j) (C j):=by
 obtain⟨_,⟨cur,hc,_,h3⟩,_⟩:=h
 have e:∀ k,w.cell? ⟨g,k,none⟩=cur[k]?:=fun k=>by simp [World.cell?,hc]
 unfold RasAt
 simp only [e]
 exact h3 j hj
theorem ROwnA.free (h:ROwnA w base g m R A G C) (k:Nat):w.frozen? ⟨g,k,none⟩=false:=by
 obtain⟨_,⟨cur,hc,_⟩,_⟩:=h
 simp[World.frozen?,hc]
theorem ROwn.came (h:ROwn w base g m R):RCame w (some ⟨g,0,none⟩) m R:=by
 obtain⟨A,G,C,h⟩:=h
 refine .inr ⟨g,0,A,C,rfl,h.lt,fun j hj=>⟨by rw [Nat.zero_add]; exact h.at_ j hj,(h.2.2.1 j hj).came,(h.2.2.1 j hj).1,(h.2.2.1 j hj).2.1⟩⟩
theorem ROwn.mono {b:Nat} (h:ROwn w base g m R) (hb:b≤base):ROwn w b g m R:=by
 obtain⟨A,G,C,h1,h2,h3,h4⟩:=h
 refine⟨A,G,C,Nat.le_trans hb h1,h2,fun j hj=>⟨(h3 j hj).1,(h3 j hj).2.1,?_⟩,h4⟩
 rcases (h3 j hj).2.2 with h | ⟨ha,h⟩
 ·exact .inl h
 ·exact .inr ⟨ha,h.mono hb⟩
end
def RSL (w:World) (base:Nat) (a:Option Addr) (m:Nat) (R:Nat→Ras):Prop:=m=0∨∃ g,a=some ⟨g,0,none⟩∧ROwn w base g m R
theorem RSL.came {w:World} {base:Nat} {a:Option Addr} {m:Nat} {R:Nat→Ras} (h:RSL w base a m R):RCame w a m R:=by
 rcases h with h | ⟨g,rfl,h⟩
 ·exact .inl h
 ·exact h.came
theorem RSL.called {w w':World} {base:Nat} {a:Option Addr} {m:Nat} {R:Nat→Ras} (h:RSL w base a m R) (hb:Below w.heap.size w w'):RSL w' base a m R:=by
 rcases h with h | ⟨g,rfl,h⟩
 ·exact .inl h
 ·exact .inr ⟨g,rfl,h.called hb⟩
end
end Go.Proofs.YtcbbcadfolgioaaDoor
