/-
  Texts of the proof, put together.
-/
import Derived.Test.YtklpiihnbokkkaaGreatDoorFk14
import Derived.Lib.BitFns
namespace Go.Proofs.YtklpiihnbokkkaaGreatDoor.BookMath
open OutMath CodeMath TakeMath HitMath WayMath
def symsTo (f:Nat→Int) (t:Nat):Nat→List Int
 | 0=>[]
 | k+1=>if 0 < f k∧f k=(t:Int) then symsTo f t k ++ [(k:Int)] else symsTo f t k
theorem symsTo_here {f:Nat→Int} {t k:Nat} (h:0 < f k) (e:f k=(t:Int)):symsTo f t (k+1)=symsTo f t k ++ [(k:Int)]:=by
 rw[symsTo,if_pos ⟨h,e⟩]
theorem symsTo_skip {f:Nat→Int} {t k:Nat} (h:¬ (0 < f k∧f k=(t:Int))):symsTo f t (k+1)=symsTo f t k:=by
 rw[symsTo,if_neg h]
theorem symsTo_zero (f:Nat→Int):∀ k,symsTo f 0 k=[]
 | 0=>rfl
 | k+1=>by rw [symsTo_skip (by omega),symsTo_zero f k]
theorem symsTo_le (f:Nat→Int) (t:Nat):∀ k,(symsTo f t k).length≤k
 | 0=>Nat.le_refl _
 | k+1=>by
  have ih:=symsTo_le f t k
  by_cases h:0 < f k∧f k=(t:Int)
  ·rw[symsTo_here h.1 h.2,List.length_append]
   simp
   omega
  ·rw[symsTo_skip h]
   omega
theorem symsTo_length (f:Nat→Int) (t:Nat) (ht:1≤t):∀ k,((symsTo f t k).length:Int)=cntS f (t:Int) k
 | 0=>rfl
 | k+1=>by
  have ih:=symsTo_length f t ht k
  by_cases h:0 < f k∧f k=(t:Int)
  ·rw[symsTo_here h.1 h.2,List.length_append,cntS,if_pos h.2]
   simp
   omega
  ·rw[symsTo_skip h,cntS,if_neg (fun e=>h ⟨by omega,e⟩)]
   omega
theorem symsTo_get (f:Nat→Int) (t:Nat):∀ k j,j < (symsTo f t k).length→∃ i:Nat,(symsTo f t k).getD j 0=(i:Int)∧i < k∧f i=(t:Int)∧cntS f (t:Int) i=(j:Int)
 | 0,j,h=>by simp [symsTo] at h
 | k+1,j,h=>by
  by_cases hk:0 < f k∧f k=(t:Int)
  ·rw[symsTo_here hk.1 hk.2] at h ⊢
   rw[List.length_append] at h
   simp at h
   by_cases hj:j < (symsTo f t k).length
   ·obtain⟨i,h1,h2,h3⟩:=symsTo_get f t k j hj
    refine⟨i,?_,by omega,h3⟩
    rw[List.getD_eq_getElem?_getD,List.getElem?_append_left hj,← List.getD_eq_getElem?_getD]
    exact h1
   ·have e:j=(symsTo f t k).length:=by omega
    refine⟨k,?_,by omega,hk.2,?_⟩
    ·rw[List.getD_eq_getElem?_getD,List.getElem?_append_right (by omega),e]
     simp
    ·rw[e,symsTo_length f t (by omega) k]
  ·rw[symsTo_skip hk] at h ⊢
   obtain⟨i,h1,h2,h3⟩:=symsTo_get f t k j h
   exact⟨i,h1,by omega,h3⟩
section
variable {f:Nat→Int} {n:Nat} {s:ByteArray} {p:Nat}
theorem nx_succ (f:Nat→Int) (n k:Nat):nx f n (k+1)=2 * nx f n k+cntS f ((k+1:Nat):Int) n:=rfl
def Passed (f:Nat→Int) (n:Nat) (s:ByteArray) (p k:Nat):Prop:=∀ j,j < k→nx f n j≤hi s p j
theorem passed_start:Passed f n s p 0:=fun j h=>by omega
theorem passed_next {k:Nat} (h:Passed f n s p k) (hk:nx f n k≤hi s p k):Passed f n s p (k+1):=fun j hj=>by
 rcases (show j < k∨j=k by omega) with q | rfl
 ·exact h j q
 ·exact hk
theorem first_le {k:Nat} (h:Passed f n s p k):first (cs f n) k≤hi s p k:=by
 cases k with
 | zero=>exact Int.le_refl 0
 | succ k=>
  rw[first_nx f n (k+1) (by omega)]
  have h1:=h k (by omega)
  show 2 * nx f n k≤2 * hi s p k+bit s (p+k)
  have h2:=bit_01 s (p+k)
  omega
theorem find_hit {k j:Nat} (hp:p+k≤8 * s.size) (hj:j < (symsTo f k n).length) (e:hi s p k=first (cs f n) k+(j:Int)):∃ i:Nat,(symsTo f k n).getD j 0=(i:Int)∧Hit f n s p i k:=by
 have hk:1≤k:=by
  rcases Nat.eq_zero_or_pos k with h | h
  ·subst h
   rw[symsTo_zero] at hj
   simp at hj
  ·exact h
 obtain⟨i,h1,h2,h3,h4⟩:=symsTo_get f k n j hj
 refine⟨i,h1,h2,hk,h3,?_,hp⟩
 rw[e,first_nx f n k hk,← h4]
 unfold codeOf
 rw[if_neg (by omega),h3,Int.toNat_natCast]
theorem find_none {k:Nat} (h:¬ hi s p k - first (cs f n) k < ((symsTo f k n).length:Int)):nx f n k≤hi s p k:=by
 cases k with
 | zero=>
  show (0:Int)≤_
  exact (hi_bd s p 0).1
 | succ k=>
  rw[symsTo_length f (k+1) (by omega),first_nx f n (k+1) (by omega)] at h
  rw[nx_succ]
  have:k+1 - 1=k:=rfl
  rw[this] at h
  omega
theorem no_short {i k j:Nat} (h:Passed f n s p k) (hj:j < k):¬ Hit f n s p i j:=fun ⟨h1,h2,h3,h4,_⟩=>by
 have q:=(code_in h1 h2 h3).2
 have:=h j hj
 omega
theorem code_nonneg (hn:n≤288) (i:Nat):0≤codeOf f n i:=by
 unfold codeOf
 split
 ·exact Int.le_refl _
 ·have h1:=(nx_bd f n hn ((f i).toNat - 1)).1
  have h2:=(cntS_bd f (f i) i).1
  omega
theorem over_none {k:Nat} (hok:OkLens f n) (hk:k≤15) (hp:p+k≤8 * s.size) (h:Passed f n s p k) (hb:¬ hi s p k * p2 (15 - k) < nx f n 15):NoneBegins f n s p:=by
 have hnb:¬ Begins f n s p k:=by
  rintro⟨i,h1,h2,h3,h4⟩
  have hi15:=hok i h1
  obtain⟨m,hm⟩:∃ m:Nat,f i=(m:Int):=⟨(f i).toNat,by omega⟩
  have hm1:1≤m:=by omega
  have q:=(code_in h1 hm1 hm).2
  obtain⟨d,hd⟩:∃ d,m=k+d:=⟨m - k,by omega⟩
  have e1:(f i - (k:Int)).toNat=d:=by omega
  rw[e1] at h4
  have q2:=nx_ge f n m (15 - m)
  rw[show m+(15 - m)=15 by omega] at q2
  have e2:p2 (15 - k)=p2 d * p2 (15 - m):=by rw [← p2_add]; congr 1; omega
  apply hb
  have hd0:=p2_pos d
  have hm0:=p2_pos (15 - m)
  have q3:hi s p k * p2 d≤codeOf f n i:=by
   rw[← h4]
   exact Int.ediv_mul_le _ (by omega)
  have q4:hi s p k * p2 d * p2 (15 - m)≤codeOf f n i * p2 (15 - m):=Int.mul_le_mul_of_nonneg_right q3 (by omega)
  have q5:codeOf f n i * p2 (15 - m) < nx f n m * p2 (15 - m):=Int.mul_lt_mul_of_pos_right q hm0
  rw[e2,← Int.mul_assoc]
  rw[Int.mul_comm (p2 (15 - m))] at q2
  omega
 refine⟨fun i j hit=>?_,k,hp,hnb⟩
 rcases Nat.lt_or_ge j k with q | q
 ·exact no_short h q hit
 ·exact hnb (hit_begins hit q)
theorem code_of_count (f:Nat→Int) (t:Nat) (ht:1≤t):∀ n (c:Int),0≤c→c < cntS f (t:Int) n→∃ i,i < n∧f i=(t:Int)∧cntS f (t:Int) i=c
 | 0,c,h0,h=>by
  have:cntS f (t:Int) 0=0:=rfl
  omega
 | n+1,c,h0,h=>by
  by_cases hc:c < cntS f (t:Int) n
  ·obtain⟨i,h1,h2⟩:=code_of_count f t ht n c h0 hc
   exact⟨i,by omega,h2⟩
  ·rw[cntS] at h
   by_cases e:f n=(t:Int)
   ·rw[if_pos e] at h
    exact⟨n,by omega,e,by omega⟩
   ·rw[if_neg e] at h
    omega
theorem climb {x:Int} {k:Nat}:∀ d,nx f n k≤x→x * p2 d < nx f n (k+d)→∃ m,k < m∧m≤k+d∧2 * nx f n (m - 1)≤x * p2 (m - k)∧x * p2 (m - k) < nx f n m
 | 0,h,h2=>by
  rw[p2_zero,Nat.add_zero] at h2
  omega
 | d+1,h,h2=>by
  by_cases hd:x * p2 d < nx f n (k+d)
  ·obtain⟨m,h3,h4,h5⟩:=climb d h hd
   exact⟨m,h3,by omega,h5⟩
  ·refine⟨k+d+1,by omega,by omega,?_,?_⟩
   ·rw[show k+d+1 - 1=k+d by omega,show k+d+1 - k=d+1 by omega,p2_succ]
    have e:x * (2 * p2 d)=2 * (x * p2 d):=by rw [← Int.mul_assoc,Int.mul_comm x 2,Int.mul_assoc]
    omega
   ·rw[show k+d+1 - k=d+1 by omega]
    exact h2
theorem begins_of {k:Nat} (hk:k≤15) (h:nx f n k≤hi s p k) (hb:hi s p k * p2 (15 - k) < nx f n 15):Begins f n s p k:=by
 obtain⟨m,h1,h2,h3,h4⟩:=climb (15 - k) h (by rw [show k+(15 - k)=15 by omega]; exact hb)
 have e:nx f n m=2 * nx f n (m - 1)+cntS f (m:Int) n:=(nx_step f n m (by omega)).symm
 obtain⟨i,q1,q2,q3⟩:=code_of_count f m (by omega) n (hi s p k * p2 (m - k) - 2 * nx f n (m - 1)) (by omega) (by omega)
 refine⟨i,q1,by omega,by omega,?_⟩
 have ec:codeOf f n i=hi s p k * p2 (m - k):=by
  unfold codeOf
  rw[if_neg (by omega),q2,Int.toNat_natCast,q3]
  omega
 have ed:(f i - (k:Int)).toNat=m - k:=by omega
 rw[ec,ed]
 exact Int.mul_ediv_cancel _ (by have:=p2_pos (m - k); omega)
theorem out_of {k:Nat} (hn:n≤288) (hk:k≤15) (hp:p+k=8 * s.size) (h:Passed f n s p (k+1)) (hb:hi s p k * p2 (15 - k) < nx f n 15):RunsOut f n s p:=by
 refine⟨fun i j hit=>?_,k,hp,fun j hj=>begins_less (begins_of hk (h k (by omega)) hb) hj (code_nonneg hn)⟩
 rcases Nat.lt_or_ge j (k+1) with q | q
 ·exact no_short h q hit
 ·have:=hit.2.2.2.2
  omega
end
end Go.Proofs.YtklpiihnbokkkaaGreatDoor.BookMath

namespace Go.Proofs.YtklpiihnbokkkaaGreatDoor
namespace HitMath
open OutMath CodeMath TakeMath
theorem or_low (x b:Int) (h0:0≤x) (h1:x≤65536) (b0:0≤b) (b1:b≤1):bits .or .i64 (2 * x) b=2 * x+b:=by
 obtain⟨n,rfl⟩:=Int.eq_ofNat_of_zero_le h0
 obtain⟨m,rfl⟩:=Int.eq_ofNat_of_zero_le b0
 have k:=i64_or_nat (2 * n) m (by omega) (by omega)
 have j:=Nat.two_pow_add_eq_or_of_lt (i:=1) (b:=m) (by omega) n
 rw[show (2:Nat) ^ 1=2 from rfl] at j
 rw[← j] at k
 rw[show (2:Int) * (n:Int)=((2 * n:Nat):Int) by omega,k]
 omega
theorem hi_lt (s:ByteArray) (a k:Nat) (hk:k≤15):0≤hi s a k∧hi s a k≤32768:=by
 have h:=hi_bd s a k
 have h2:=p2_le hk
 have e:p2 15=32768:=by decide +kernel
 omega
end HitMath
end Go.Proofs.YtklpiihnbokkkaaGreatDoor

namespace Go.Proofs.YtklpiihnbokkkaaGreatDoor
open Go.RowKit Go.Joins OutMath CodeMath TakeMath HitMath WayMath BookMath InfMath
def Book (w:World) (S C bk:Nat) (V:Nat→Value) (f:Nat→Int) (n:Nat):Prop:=
 S≤bk∧bk < C∧C≤w.heap.size∧
 (∀ i,i < 16→w.cell? ⟨bk,i,none⟩=some (V i)∧NumRow w S (V i) (symsTo f i n)∧∀ k,(V i).ownBlock=some k→k < C)∧
 (∀ i,i < 16→w.cell? ⟨bk,16+i,none⟩=some (.int .i64 (first (cs f n) i)))∧w.cell? ⟨bk,32,none⟩=some (.int .i64 (nx f n 15))
theorem row_kept {w w':World} {S C:Nat} {v:Value} {L:List Int} (h:NumRow w S v L) (hv:∀ k,v.ownBlock=some k→k < C) (hk:∀ k,S≤k→k < C→w'.heap[k]?=w.heap[k]?):NumRow w' S v L:=by
 refine⟨h.1,?_⟩
 rcases h.2 with q | ⟨g,cap,cur,rfl,h1,h2,h3⟩
 ·exact .inl q
 ·exact .inr ⟨g,cap,cur,rfl,h1,(hk g h1 (hv g rfl)).trans h2,h3⟩
theorem Book.kept {w w':World} {S C bk:Nat} {V:Nat→Value} {f:Nat→Int} {n:Nat} (h:Book w S C bk V f n) (hk:∀ k,S≤k→k < C→w'.heap[k]?=w.heap[k]?) (hs:w.heap.size≤w'.heap.size):Book w' S C bk V f n:=by
 obtain⟨h1,h2,h3,h4,h5,h6⟩:=h
 have e:=hk bk h1 h2
 refine⟨h1,h2,Nat.le_trans h3 hs,fun i hi=>?_,fun i hi=>?_,?_⟩
 ·obtain⟨q1,q2,q3⟩:=h4 i hi
  exact⟨(World.cell?_of_block (a:=⟨bk,i,none⟩) e).trans q1,row_kept q2 q3 hk,q3⟩
 ·exact (World.cell?_of_block (a:=⟨bk,16+i,none⟩) e).trans (h5 i hi)
 ·exact (World.cell?_of_block (a:=⟨bk,32,none⟩) e).trans h6
def Held (w:World) (fb rb:Nat) (vo vt:Value) (S C:Nat):Prop:=∀ k,S≤k→k < C→Safe w fb rb vo vt k
theorem Held.step {w w':World} {fb rb:Nat} {vo vt vo' vt':Value} {S C:Nat} (h:Held w fb rb vo vt S C) (hs:Step fb rb w vo vt w' vo' vt'):Held w' fb rb vo' vt' S C:=fun k h1 h2=>(hs.block k (h k h1 h2)).1
theorem Book.step {w w':World} {fb rb:Nat} {vo vt vo' vt':Value} {S C bk:Nat} {V:Nat→Value} {f:Nat→Int} {n:Nat} (h:Book w S C bk V f n) (hh:Held w fb rb vo vt S C) (hs:Step fb rb w vo vt w' vo' vt'):Book w' S C bk V f n:=h.kept (fun k h1 h2=>(hs.block k (hh k h1 h2)).2) hs.size
section
variable {w:World} {S C bk:Nat} {V:Nat→Value} {f:Nat→Int} {n:Nat}
set_option maxHeartbeats 400000 in
theorem begins_any (h:Book w S C bk V f n) (x:Int) (k d:Nat) (hk:k+d=15) (hx0:0≤x) (hx1:x * p2 d≤65536):
  Calls Tryz.prog 201 #[.pointer (some ⟨bk,0,none⟩),.int .i64 x,.int .i64 (k:Int)] w fun e w'=>e=.returned (.bool (decide (x * p2 d < nx f n 15)))∧∃ m,w'=w.drewN m:=by
 have c32:=h.2.2.2.2.2
 have hl:bk < w.heap.size:=Nat.lt_of_lt_of_le h.2.1 h.2.2.1
 clear h
 have e1:(15:Int) - (k:Int)=(d:Int):=by omega
 have e0:IntKind.i64.wrap ((15:Int) - (k:Int))=(d:Int):=by rw [e1,IntKind.wrap_i64]; omega
 have hd:d≤15:=by omega
 have hd0:(0:Int)≤(d:Int):=by omega
 have h0:0≤x * p2 d:=Int.mul_nonneg hx0 (by have:=p2_pos d; omega)
 have HW:Hid (wrap64 (x * 2 ^ d)=x * p2 d):=by
  show wrap64 (x * 2 ^ d)=x * p2 d
  have:x * 2 ^ d=x * p2 d:=rfl
  rw[this]
  unfold wrap64
  omega
 generalize nx f n 15=z at c32
 go_enter Tryz.func201,Tryz.ntmps201
 go_wp2_with fail
 go_quiet (fail)
 go_wp2_with fail
 go_ret
 exact⟨ret_b (by rw [HW.out]),_,rfl⟩
set_option maxHeartbeats 400000 in
theorem find_yes (h:Book w S C bk V f n) (hn:n≤288) (x:Int) (k j:Nat) (hk:k≤15) (hj:j < (symsTo f k n).length) (hx:x=first (cs f n) k+(j:Int)):
  Calls Tryz.prog 202 #[.pointer (some ⟨bk,0,none⟩),.int .i64 x,.int .i64 (k:Int)] w fun e w'=>e=.returned (.tuple #[.int .i64 ((symsTo f k n).getD j 0),.bool true])∧w'=w:=by
 obtain⟨q1,q2,_⟩:=h.2.2.2.1 k (by omega)
 have q3:=h.2.2.2.2.1 k (by omega)
 have hl:bk < w.heap.size:=Nat.lt_of_lt_of_le h.2.1 h.2.2.1
 have hfb:=first_lt (cs f n) (fun s=>⟨(cs_bd f n s).1,Int.le_trans (cs_bd f n s).2 (by omega)⟩) k hk
 have hle:=symsTo_le f k n
 clear h
 obtain⟨a,c,hv,_,_,hcame,_⟩:=q2.form
 rw[hv] at q1
 clear q2 hv
 have hcell:∃ g off,a=some ⟨g,off,none⟩∧g < w.heap.size∧w.cell? ⟨g,off+j,none⟩=some (.int .i64 ((symsTo f k n).getD j 0)):=by
  rcases hcame with q | ⟨g,off,q4,q5,q6⟩
  ·omega
  ·exact⟨g,off,q4,q5,q6 j hj⟩
 obtain⟨g,off,rfl,hg,hc⟩:=hcell
 clear hcame
 generalize (symsTo f k n).getD j 0=y at hc
 generalize (symsTo f k n).length=len at *
 generalize first (cs f n) k=z at *
 have e1:IntKind.i64.wrap (x - z)=(j:Int):=by rw [hx,IntKind.wrap_i64]; omega
 have e2:x - z=(j:Int):=by omega
 have hk0:(0:Int)≤(k:Int):=by omega
 have hk1:(k:Int) < 16:=by omega
 have hj0:(0:Int)≤(j:Int):=by omega
 have hj1:(j:Int) < (len:Int):=by omega
 have d1:decide ((len:Int)≤(j:Int))=false:=decide_eq_false (by omega)
 clear hx hfb
 go_enter Tryz.func202,Tryz.ntmps202
 go_wp2_with fail
 go_ret2
 exact⟨rfl,rfl⟩
set_option maxHeartbeats 400000 in
theorem find_no (h:Book w S C bk V f n) (hn:n≤288) (x:Int) (k:Nat) (hk:k≤15) (hx0:0≤x) (hx1:x≤65536) (hx:¬ x - first (cs f n) k < ((symsTo f k n).length:Int)):
  Calls Tryz.prog 202 #[.pointer (some ⟨bk,0,none⟩),.int .i64 x,.int .i64 (k:Int)] w fun e w'=>e=.returned (.tuple #[.int .i64 0,.bool false])∧w'=w:=by
 obtain⟨q1,q2,_⟩:=h.2.2.2.1 k (by omega)
 have q3:=h.2.2.2.2.1 k (by omega)
 have hl:bk < w.heap.size:=Nat.lt_of_lt_of_le h.2.1 h.2.2.1
 have hfb:=first_lt (cs f n) (fun s=>⟨(cs_bd f n s).1,Int.le_trans (cs_bd f n s).2 (by omega)⟩) k hk
 clear h
 obtain⟨a,c,hv,_⟩:=q2.form
 rw[hv] at q1
 clear q2 hv
 generalize (symsTo f k n).length=len at *
 generalize first (cs f n) k=z at *
 have e1:IntKind.i64.wrap (x - z)=x - z:=by rw [IntKind.wrap_i64]; omega
 have hk0:(0:Int)≤(k:Int):=by omega
 have hk1:(k:Int) < 16:=by omega
 have d1:decide ((len:Int)≤x - z)=true:=decide_eq_true (by omega)
 go_enter Tryz.func202,Tryz.ntmps202
 go_wp2_with fail
 go_ret2
 exact⟨rfl,rfl⟩
end
end Go.Proofs.YtklpiihnbokkkaaGreatDoor

namespace Go.Proofs.YtklpiihnbokkkaaGreatDoor
open Go.RowKit Go.Joins OutMath CodeMath TakeMath HitMath WayMath BookMath InfMath
def SymPost (B:Nat) (w:World) (fb rb:Nat) (s:ByteArray) (p:Nat) (O:List Int) (most:Nat) (Ty:List Int) (vo vt:Value) (f:Nat→Int) (n:Nat) (e:Ending) (w':World):Prop:=
 Step fb rb w vo vt w' vo vt∧((∃ y p',symE s f n p=.ok (y,p')∧p < p'∧p'≤8 * s.size∧y < n∧e=.returned (.tuple #[.int .i64 (y:Int),.nilIface])∧PS B w' fb rb s p' O most Ty vo vt)∨
 (∃ c,symE s f n p=.error c∧e=.returned (.tuple #[.int .i64 0,errV c])))
def SyRing (B:Nat) (w:World) (fb rb:Nat) (s:ByteArray) (p:Nat) (O:List Int) (most:Nat) (Ty:List Int) (vo vt:Value) (S C bk:Nat) (V:Nat→Value) (f:Nat→Int) (n k:Nat) (w':World):Prop:=
 PS B w' fb rb s (p+k) O most Ty vo vt∧Step fb rb w vo vt w' vo vt∧Book w' S C bk V f n∧Held w' fb rb vo vt S C∧Passed f n s p k∧p+k≤8 * s.size
theorem SyRing.draw {B:Nat} {w:World} {fb rb:Nat} {s:ByteArray} {p:Nat} {O:List Int} {most:Nat} {Ty:List Int} {vo vt:Value} {S C bk:Nat} {V:Nat→Value} {f:Nat→Int} {n k:Nat} {w':World} (h:SyRing B w fb rb s p O most Ty vo vt S C bk V f n k w') (m:Nat):SyRing B w fb rb s p O most Ty vo vt S C bk V f n k (w'.drewN m):=by
 have hb:Below w'.heap.size w' (w'.drewN m):=⟨rfl,rfl,rfl,Nat.le_refl _,fun _ _=>rfl⟩
 have st:Step fb rb w' vo vt (w'.drewN m) vo vt:=Step.called hb
 exact⟨h.1.called hb,h.2.1.trans st,h.2.2.1.step h.2.2.2.1 st,h.2.2.2.1.step st,h.2.2.2.2⟩
theorem num_one (s:ByteArray) (a:Nat):num s a 1=bit s a:=by
 show 0+bit s (a+0) * p2 0=bit s a
 rw[p2_zero,Nat.add_zero]
 omega
section
variable (B:Nat) (w:World) (fb rb:Nat) (s:ByteArray) (p:Nat) (O:List Int) (most:Nat) (Ty:List Int) (vo vt:Value) (S C bk:Nat) (V:Nat→Value) (f:Nat→Int) (n:Nat)
set_option maxRecDepth 100000 in
set_option maxHeartbeats 1600000 in
theorem takeSymbol_any (h:PS B w fb rb s p O most Ty vo vt) (hs:s.size≤12000) (hp:p≤8 * s.size) (hB:Book w S C bk V f n) (hH:Held w fb rb vo vt S C) (hn:n≤288) (hok:OkLens f n) (_hroom:nx f n 15≤32768):
  Calls Tryz.prog 180 #[.pointer (some ⟨fb,0,none⟩),.pointer (some ⟨bk,0,none⟩)] w (SymPost B w fb rb s p O most Ty vo vt f n):=by
 have H0:Hid (SyRing B w fb rb s p O most Ty vo vt S C bk V f n 0 w):=⟨h,Step.refl w,hB,hH,passed_start,hp⟩
 have HOK:=hid_of hok
 clear h hB hH hok
 go_enter Tryz.func180,Tryz.ntmps180
 go_wp2_with fail
 go_loopg [6,7] 17 (fun gk v u w'=>∃ k:Nat,k≤15∧v=.int .i64 (hi s p k)∧u=.int .i64 (k:Int)∧16 - k≤gk∧Hid (SyRing B w fb rb s p O most Ty vo vt S C bk V f n k w'))
 case atStart=>exact⟨0,by omega,rfl,rfl,by omega,H0⟩
 case round=>
  clear H0
  obtain⟨k,hk,rfl,rfl,hgk,hS⟩:=hrel
  have hbd:=hi_bd s p k
  obtain⟨d,hd⟩:∃ d,k+d=15:=⟨15 - k,by omega⟩
  have hd':15 - k=d:=by omega
  have hmul:hi s p k * p2 d≤65536:=by
   have q1:hi s p k * p2 d≤p2 k * p2 d:=Int.mul_le_mul_of_nonneg_right (by omega) (by have:=p2_pos d; omega)
   rw[← p2_add,hd] at q1
   have:p2 15=32768:=by decide +kernel
   omega
  have hb:=begins_any hS.out.2.2.1 (hi s p k) k d hd hbd.1 hmul
  by_cases hlt:hi s p k * p2 d < nx f n 15
  ·rw[decide_eq_true hlt] at hb
   have hx1:=hi_lt s p k hk
   by_cases hj:hi s p k - first (cs f n) k < ((symsTo f k n).length:Int)
   ·have hfl:=first_le hS.out.2.2.2.2.1
    obtain⟨j,hjj⟩:=Int.eq_ofNat_of_zero_le (show 0≤hi s p k - first (cs f n) k by omega)
    have hjl:j < (symsTo f k n).length:=by omega
    obtain⟨i,hi1,hit⟩:=find_hit hS.out.2.2.2.2.2 hjl (show hi s p k=first (cs f n) k+(j:Int) by omega)
    have hf:=fun (w:World) (hB:Book w S C bk V f n)=>find_yes hB hn (hi s p k) k j hk hjl (by omega)
    rw[hi1] at hf
    have HP:Hid (∀ m,SymPost B w fb rb s p O most Ty vo vt f n (.returned (.tuple #[.int .i64 (i:Int),.nilIface])) (wr.drewN m)):=fun m=>by
     refine⟨(hS.out.draw m).2.1,.inl ⟨i,p+k,?_,by have:=hit.2.1; omega,hit.2.2.2.2,hit.1,rfl,(hS.out.draw m).1⟩⟩
     unfold symE
     rw[symW_hit hit]
     rfl
    have HBK:Hid (∀ m,Book (wr.drewN m) S C bk V f n):=fun m=>(hS.out.draw m).2.2.1
    clear hS hi1 hit hjl hjj hfl hj hlt hmul hbd hx1
    generalize hi s p k=x at *
    go_wp2_with fail
    refine hb.mono ?_
    rintro e w1 ⟨rfl,m,rfl⟩
    clear hb
    go_wp2_with fail
    refine (hf _ (HBK.out m)).mono ?_
    rintro e w2 ⟨rfl,rfl⟩
    clear hf HBK
    go_wp2_with fail
    go_ret2
    exact HP.out m
   ·have hnx:=find_none hj
    have hf:=fun (w:World) (hB:Book w S C bk V f n)=>find_no hB hn (hi s p k) k hk hx1.1 (by omega) hj
    have HBK:Hid (∀ m,Book (wr.drewN m) S C bk V f n):=fun m=>(hS.out.draw m).2.2.1
    have hpass:=passed_next hS.out.2.2.2.2.1 hnx
    have hk15:k < 15:=by
     rcases Nat.lt_or_ge k 15 with q | q
     ·exact q
     ·obtain rfl:k=15:=by omega
      obtain rfl:d=0:=by omega
      rw[p2_zero] at hlt
      omega
    by_cases h1:p+k+1≤8 * s.size
    ·have htk:=fun (m:Nat)=>take_yes B (wr.drewN m) fb rb s (p+k) O most Ty vo vt (hS.out.draw m).1 hs 1 (by omega) h1
     rw[num_one] at htk
     have h01:=bit_01 s (p+k)
     have HO:Hid (bits .or .i64 (hi s p k * 2) (bit s (p+k))=hi s p (k+1)):=by
      show bits .or .i64 (hi s p k * 2) (bit s (p+k))=hi s p (k+1)
      rw[Int.mul_comm]
      exact or_low _ _ hx1.1 (by omega) h01.1 h01.2
     have HNX:Hid (∀ m w',PS B w' fb rb s (p+k+1) O most Ty vo vt→(wr.drewN m).grownBy w' (some rb)→SyRing B w fb rb s p O most Ty vo vt S C bk V f n (k+1) w'):=fun m w' q1 q2=>by
      have st:Step fb rb (wr.drewN m) vo vt w' vo vt:=Step.one q2 (fun k e=>.inr (.inl (by cases e; rfl)))
      have hd:=hS.out.draw m
      exact⟨q1,hd.2.1.trans st,hd.2.2.1.step hd.2.2.2.1 st,hd.2.2.2.1.step st,hpass,h1⟩
     clear hS hj hlt hmul hbd hpass hnx
     generalize hxe:hi s p (k+1)=x1 at *
     have HX:=hid_of hxe
     clear hxe
     generalize hi s p k=x at *
     generalize bit s (p+k)=b at *
     go_wp2_with fail
     refine hb.mono ?_
     rintro e w1 ⟨rfl,m,rfl⟩
     clear hb
     go_wp2_with fail
     refine (hf _ (HBK.out m)).mono ?_
     rintro e w2 ⟨rfl,rfl⟩
     clear hf HBK
     go_wp2_with fail
     refine (htk m).mono ?_
     rintro e w3 ⟨rfl,q1,q2⟩
     have HN:=hid_of (HNX.out m w3 q1 q2)
     clear htk q1 q2 HNX
     go_wp2_with fail
     rw[HO.out]
     go_roundg (16 - (k+1))
     case measure=>omega
     case rel=>exact⟨k+1,by omega,by rw [HX.out],by go_num,Nat.le_refl _,HN⟩
    ·have htk:=fun (m:Nat)=>take_no B (wr.drewN m) fb rb s (p+k) O most Ty vo vt (hS.out.draw m).1 hs hS.out.2.2.2.2.2 1 (by omega) h1
     have hout:=out_of (f:=f) (n:=n) (s:=s) (p:=p) (k:=k) hn hk (by have:=hS.out.2.2.2.2.2; omega) hpass (by rw [hd']; exact hlt)
     have HP:Hid (∀ m w',(wr.drewN m).grownBy w' (some rb)→SymPost B w fb rb s p O most Ty vo vt f n (.returned (.tuple #[.int .i64 0,errV 2])) w'):=fun m w' q2=>by
      have st:Step fb rb (wr.drewN m) vo vt w' vo vt:=Step.one q2 (fun k e=>.inr (.inl (by cases e; rfl)))
      refine⟨(hS.out.draw m).2.1.trans st,.inr ⟨2,?_,rfl⟩⟩
      unfold symE
      rw[symW_out hout]
      rfl
     clear hS hj hlt hmul hbd hpass hnx hout
     generalize hi s p k=x at *
     go_wp2_with fail
     refine hb.mono ?_
     rintro e w1 ⟨rfl,m,rfl⟩
     clear hb
     go_wp2_with fail
     refine (hf _ (HBK.out m)).mono ?_
     rintro e w2 ⟨rfl,rfl⟩
     clear hf HBK
     go_wp2_with fail
     refine (htk m).mono ?_
     rintro e w3 ⟨rfl,q1,q2⟩
     have HN:=hid_of (HP.out m w3 q2)
     clear htk q1 q2 HP
     go_wp2_with fail
     go_ret2
     exact HN.out
  ·rw[decide_eq_false hlt] at hb
   have hno:=over_none (f:=f) (n:=n) (s:=s) (p:=p) (k:=k) HOK.out hk hS.out.2.2.2.2.2 hS.out.2.2.2.2.1 (by rw [hd']; exact hlt)
   have HP:Hid (∀ m,SymPost B w fb rb s p O most Ty vo vt f n (.returned (.tuple #[.int .i64 0,errV 6])) (wr.drewN m)):=fun m=>by
    refine⟨(hS.out.draw m).2.1,.inr ⟨6,?_,rfl⟩⟩
    unfold symE
    rw[symW_none hno]
    rfl
   clear hS hlt hmul hbd hno
   generalize hi s p k=x at *
   go_wp2_with fail
   refine hb.mono ?_
   rintro e w1 ⟨rfl,m,rfl⟩
   clear hb
   go_wp2_with fail
   go_ret2
   exact HP.out m
end
end Go.Proofs.YtklpiihnbokkkaaGreatDoor

namespace Go.Proofs.YtklpiihnbokkkaaGreatDoor
open Go.RowKit Go.Joins
theorem as_literal (v:Value) (w:World):(Instr.typeAssert (.iface 234 v) 232 234 true).run Tryz.prog w=.ok (.tuple #[v,.bool true]) w:=by
 simp[Instr.typeAssert,run_underlying Tryz.underlying234]
theorem no_literal (v:Value) (w:World):(Instr.typeAssert (.iface 237 v) 232 234 true).run Tryz.prog w=.ok (.tuple #[.int .u8 0,.bool false]) w:=by
 simp[Instr.typeAssert,run_underlying Tryz.underlying234]
theorem as_repeat (v:Value) (w:World):(Instr.typeAssert (.iface 237 v) 232 237 true).run Tryz.prog w=.ok (.tuple #[v,.bool true]) w:=by
 simp[Instr.typeAssert,run_underlying Tryz.underlying237]
theorem nil_literal (w:World):(Instr.typeAssert .nilIface 232 234 true).run Tryz.prog w=.ok (.tuple #[.int .u8 0,.bool false]) w:=by
 simp[Instr.typeAssert,run_underlying Tryz.underlying234]
theorem nil_repeat (w:World):(Instr.typeAssert .nilIface 232 237 true).run Tryz.prog w=.ok (.tuple #[.agg #[.int .i64 0,.int .i64 0],.bool false]) w:=by
 simp[Instr.typeAssert,run_underlying Tryz.underlying237]
end Go.Proofs.YtklpiihnbokkkaaGreatDoor

namespace Go.Proofs.YtklpiihnbokkkaaGreatDoor
open Go.RowKit Go.Joins TokMath
def Moved (w w':World) (v v':Value):Prop:=w.grownBy w' v.ownBlock∧(v'.ownBlock=v.ownBlock∨∀ k,v'.ownBlock=some k→w.heap.size≤k)
theorem Moved.next {w w' w1:World} {v v' v1:Value} {o:Obj} (h:Moved w w' v v') (hg:(w'.alloc o).grownBy w1 v'.ownBlock) (hv:v1.ownBlock=v'.ownBlock∨v1.ownBlock=some (w'.heap.size+1)):Moved w w1 v v1:=by
 obtain⟨h1,h2⟩:=h
 have hs:=h1.size
 have hsz:(w'.alloc o).heap.size=w'.heap.size+1:=World.size_alloc _ _
 have hs2:=hg.size
 have hb:=bstart w' o
 refine⟨⟨hg.os.trans (hb.os.trans h1.os),hg.tape.trans (hb.tape.trans h1.tape),hg.output.trans (hb.output.trans h1.output),by omega,fun k hk hne=>?_⟩,?_⟩
 ·refine (hg.block k (by omega) (fun e=>?_)).trans ((hb.block k (by omega)).trans (h1.block k hk hne))
  rcases h2 with q | q
  ·exact hne (by rw [e,q])
  ·have:=q k e.symm
   omega
 ·rcases hv with q | q
  ·rcases h2 with q1 | q1
   ·exact .inl (q.trans q1)
   ·exact .inr (fun k e=>q1 k (by rw [← q]; exact e))
  ·refine .inr (fun k e=>?_)
   rw[q] at e
   have:=Option.some.inj e
   omega
theorem Moved.start (w:World) (v:Value) (o:Obj):Moved w (w.alloc o) v v:=⟨grown_called (bstart w o) _,.inl rfl⟩
theorem Moved.refl (w:World) (v:Value):Moved w w v v:=⟨grown_called (Below.refl _ _) _,.inl rfl⟩
set_option maxHeartbeats 1600000 in
theorem with_byte_own (S:Nat) (a:Option Addr) (n c:Nat) (O:List Int) (x:Int) (w:World) (hO:OR w S (.slice a n c) O) (hn:O.length≤90000) (hS:S≤w.heap.size):
  Calls Tryz.prog 205 #[.slice a n c,.iface 234 (.int .u8 x)] w fun e w'=>∃ v',e=.returned (.tuple #[v',.bool true])∧OR w' S v' (O ++ [x])∧Moved w w' (.slice a n c) v':=by
 have HO:=hid_of hO
 have t1:=as_literal
 clear hO
 go_enter Tryz.func205,Tryz.ntmps205
 go_wp2_with (at_builtin; refine bytes_append1 (S:=S) (xs:=O) rfl _ _ rfl rfl (World.ownsRow.alloc HO.out _) w.heap.size 1 x rfl (by simp) (by omega) (by simp; omega) ?_)
 intro v1 w5 y1 y2 y3
 have HN:Hid (OR w5 S v1 (O ++ [x])∧Moved w w5 (.slice a n c) v1):=⟨y1,(Moved.refl w _).next y2 y3⟩
 clear y1 y2 y3 HO
 go_wp2_with fail
 go_ret2
 exact⟨v1,rfl,HN.out⟩
theorem with_far_own (a:Option Addr) (n c:Nat) (y z:Int) (w:World) (hz:(n:Int) < z):
  Calls Tryz.prog 205 #[.slice a n c,.iface 237 (.agg #[.int .i64 y,.int .i64 z])] w fun e w'=>e=.returned (.tuple #[.slice none 0 0,.bool false])∧Below w.heap.size w w':=by
 have t1:=no_literal
 have t2:=as_repeat
 have d:decide ((n:Int) < z)=true:=decide_eq_true hz
 go_enter Tryz.func205,Tryz.ntmps205
 go_wp2_with fail
 go_ret2
 exact⟨rfl,bstart _ _⟩
def WpO (S:Nat) (w w':World) (y z:Int) (v v':Value) (O:List Int):Prop:=OR w' S v' O∧Moved w w' v v'∧w'.heap[w.heap.size]?=some (.cells #[.int .i64 y,.int .i64 z] 237 (0,0))∧v'.ownBlock≠some w.heap.size
theorem WpO.next {S:Nat} {w w' w1:World} {y z q:Int} {v v' v1:Value} {O:List Int} {o:Obj} (h:WpO S w w' y z v v' O) (y1:OR w1 S v1 (O ++ [q])) (y2:(w'.alloc o).grownBy w1 v'.ownBlock) (y3:v1.ownBlock=v'.ownBlock∨v1.ownBlock=some (w'.heap.size+1)):WpO S w w1 y z v v1 (O ++ [q]):=by
 obtain⟨h1,h2,h3,h4⟩:=h
 have ht:=block_lt h3
 have hsz:(w'.alloc o).heap.size=w'.heap.size+1:=World.size_alloc _ _
 refine⟨y1,h2.next y2 y3,?_,fun e=>?_⟩
 ·exact (y2.block _ (by omega) (fun e=>h4 e.symm)).trans (((bstart w' o).block _ ht).trans h3)
 ·rcases y3 with q | q
  ·exact h4 (by rw [← q]; exact e)
  ·rw[q] at e
   have:=Option.some.inj e
   omega
set_option maxHeartbeats 3200000 in
theorem with_repeat_own (S:Nat) (a:Option Addr) (n c T d:Nat) (O:List Int) (w:World) (hO:OR w S (.slice a n c) O) (hnO:n=O.length) (hn:n≤90000) (hS:S≤w.heap.size) (hT:T≤300) (hd1:1≤d) (hdn:d≤n):
  Calls Tryz.prog 205 #[.slice a n c,.iface 237 (.agg #[.int .i64 (T:Int),.int .i64 (d:Int)])] w fun e w'=>∃ a' c',e=.returned (.tuple #[.slice a' (n+T) c',.bool true])∧OR w' S (.slice a' (n+T) c') (copyN d T O)∧Moved w w' (.slice a n c) (.slice a' (n+T) c'):=by
 have t1:=no_literal
 have t2:=as_repeat
 have d1:decide ((n:Int) < (d:Int))=false:=decide_eq_false (by omega)
 have d2:decide (n < d)=false:=decide_eq_false (by omega)
 have H0:Hid (WpO S w (w.alloc (.cells #[.int .i64 (T:Int),.int .i64 (d:Int)] 237)) (T:Int) (d:Int) (.slice a n c) (.slice a n c) (copyN d 0 O)):=by
  refine⟨World.ownsRow.alloc hO _,Moved.start _ _ _,heap_alloc_new w _,fun e=>?_⟩
  have:=(World.ownsRow.lt hO _ e).2
  omega
 have HNO:=hid_of hnO
 clear hO hnO
 go_enter Tryz.func205,Tryz.ntmps205
 go_wp2_with fail
 go_loopg [0,26] (T+1) (fun gk v y w'=>∃ (j n2 c2:Nat) (a2:Option Addr),v=.slice a2 n2 c2∧j≤T∧y=.int .i64 j∧T - j≤gk∧n≤n2∧n2≤n+300∧Hid (n2=n+j∧WpO S w w' (T:Int) (d:Int) (.slice a n c) (.slice a2 n2 c2) (copyN d j O)))
 case atStart=>exact⟨0,n,c,a,rfl,Nat.zero_le _,rfl,by omega,Nat.le_refl _,by omega,rfl,H0.out⟩
 case round=>
  clear H0
  obtain⟨j,n2,c2,a2,rfl,hj,rfl,hgk2,hn2,hn3,hS2⟩:=hrel
  have m1:=cell_of_block hS2.out.2.2.2.1 0
  have m2:=cell_of_block hS2.out.2.2.2.1 1
  have mt:=block_lt hS2.out.2.2.2.1
  have hlen:n2=(copyN d j O).length:=by
   obtain⟨a',c',e⟩:=hS2.out.2.1.form
   cases e
   rfl
  obtain⟨g2,cp2,hcl,mg,cq⟩:=hS2.out.2.1.cell (j:=n2 - d) (by omega)
  cases hcl
  have HLEN:=hid_of hlen
  by_cases hjt:j < T
  ·have dj:decide ((j:Int) < (T:Int))=true:=decide_eq_true (by omega)
   have k1:(((copyN d j O).length:Int) - (d:Int)).toNat=(copyN d j O).length - d:=by omega
   have k2:(0:Int)≤((copyN d j O).length:Int) - (d:Int):=by omega
   have k3:((copyN d j O).length:Int) - (d:Int) < ((copyN d j O).length:Int):=by omega
   have k4:(copyN d j O).length - d < (copyN d j O).length:=by omega
   have hown:=hS2.out.2.1
   obtain⟨q,hq⟩:∃ q,q=(copyN d j O).getD ((copyN d j O).length - d) 0:=⟨_,rfl⟩
   rw[← hq] at cq
   have HQ:Hid (copyN d (j+1) O=copyN d j O ++ [q]):=by
    show copyN d (j+1) O=copyN d j O ++ [q]
    rw[copy_snoc,hq]
   have hS3:=hid_of hS2.out
   clear hq hlen HLEN
   generalize hL:copyN d j O=L at *
   have HL:=hid_of hL
   clear hL hS2
   have HOW:=hid_of hown
   clear hown
   generalize hN:L.length=N at *
   have HN:=hid_of hN
   clear hN
   go_wp2_with (at_builtin; refine bytes_append1 (S:=S) (xs:=L) rfl _ _ rfl rfl (World.ownsRow.alloc HOW.out _) wr.heap.size 1 q rfl (by simp) (by have:=HN.out; omega) (by have:=hS3.out.2.2.1.1.size; simp; omega) ?_)
   intro v1 w5 y1 y2 y3
   have HC5:Hid (WpO S w w5 (T:Int) (d:Int) (.slice a n c) v1 (copyN d (j+1) O)):=by
    rw[HQ.out]
    exact hS3.out.2.next y1 y2 y3
   have hf:=OR.form y1
   clear y1 y2 y3
   obtain⟨a1,c1,rfl⟩:=hf
   rw[List.length_append,List.length_singleton,HN.out] at *
   go_wp2_with fail
   go_roundg (T - (j+1))
   case measure=>omega
   case rel=>exact⟨j+1,N+1,c1,a1,rfl,by omega,by go_num,Nat.le_refl _,by omega,by have:=hS3.out.1; omega,by have:=hS3.out.1; omega,HC5.out⟩
  ·obtain rfl:j=T:=by omega
   have dj:decide ((j:Int) < (j:Int))=false:=decide_eq_false (by omega)
   have hn4:=hS2.out.1
   have HZ:Hid (OR wr S (.slice (some ⟨g2,0,none⟩) (n+j) c2) (copyN d j O)∧Moved w wr (.slice a n c) (.slice (some ⟨g2,0,none⟩) (n+j) c2)):=by
    rw[← hn4]
    exact⟨hS2.out.2.1,hS2.out.2.2.1⟩
   clear hS2
   rw[hn4]
   go_wp2_with fail
   go_ret2
   exact⟨_,c2,rfl,HZ.out⟩
end Go.Proofs.YtklpiihnbokkkaaGreatDoor

namespace Go.Proofs.YtklpiihnbokkkaaGreatDoor
open Go.RowKit OutMath StepMath
theorem ret_iii {k:IntKind} {a b c d x y:Int} (h:a=b) (h':c=d) (h2:x=y):Ending.returned (.tuple #[.int k a,.int k c,.int k x])=.returned (.tuple #[.int k b,.int k d,.int k y]):=by rw [h,h',h2]
theorem ret_ib {k:IntKind} {a b:Int} {c d:Bool} (h:a=b) (h':c=d):Ending.returned (.tuple #[.int k a,.bool c])=.returned (.tuple #[.int k b,.bool d]):=by rw [h,h']
end Go.Proofs.YtklpiihnbokkkaaGreatDoor

namespace Go.Proofs.YtklpiihnbokkkaaGreatDoor
open Go.Proofs StepMath
theorem bit_len_of {n c:Nat} (h1:2 ^ (c+1)≤n) (h2:n < 2 ^ (c+2)) (h:n < 18446744073709551616):Lib.bitLen n=c+2:=by
 rw[Lib.bitLen_shift (c+1) n h1 h]
 have hp:=Nat.two_pow_pos (c+1)
 have e:n / 2 ^ (c+1)=1:=by
  rw[Nat.pow_succ 2 (c+1)] at h2
  exact Nat.div_eq_of_lt_le (by omega) (by omega)
 rw[e]
 rfl
theorem len_sym:∀ n,n < 255→lenCode (n+3)=(257+((Lib.bitLen n - 3) * 4+n / 2 ^ (Lib.bitLen n - 3)),Lib.bitLen n - 3,n % 2 ^ (Lib.bitLen n - 3))∧Lib.bitLen n≤8:=by decide +kernel
theorem dist_first:∀ n,n < 4→distCode (n+1)=((Lib.bitLen n - 2) * 2+n / 2 ^ (Lib.bitLen n - 2),Lib.bitLen n - 2,n % 2 ^ (Lib.bitLen n - 2))∧Lib.bitLen n≤15:=by decide +kernel
theorem dist_from:∀ c,c < 14→fromN 1 2 (c * 2+2)=1+2 * 2 ^ c∧fromN 1 2 (c * 2+3)=1+3 * 2 ^ c∧fromN 1 2 (c * 2+4)=1+4 * 2 ^ c∧bitsN 2 (c * 2+2)=c∧bitsN 2 (c * 2+3)=c:=by decide +kernel
theorem dist_more {n c:Nat} (hc:c < 14) (h1:2 ^ (c+1)≤n) (h2:n < 2 ^ (c+2)):distCode (n+1)=(c * 2+n / 2 ^ c,c,n % 2 ^ c):=by
 obtain⟨f2,f3,f4,b2,b3⟩:=dist_from c hc
 have e1:2 ^ (c+1)=2 * 2 ^ c:=by rw [Nat.pow_succ,Nat.mul_comm]
 have e2:2 ^ (c+2)=4 * 2 ^ c:=by rw [Nat.pow_succ,Nat.pow_succ]; omega
 rw[e1] at h1
 rw[e2] at h2
 have hp:=Nat.two_pow_pos c
 have hm:=Nat.div_add_mod n (2 ^ c)
 have hl:=Nat.mod_lt n hp
 generalize 2 ^ c=p at *
 unfold distCode
 rcases Nat.lt_or_ge n (3 * p) with h | h
 ·have hq:n / p=2:=Nat.div_eq_of_lt_le (by omega) (by omega)
  rw[hq] at hm ⊢
  rw[find_told (j:=c * 2+2) (by omega) (by show n+1 < fromN 1 2 (c * 2+3); omega) (by omega) (by omega),b2,f2]
  congr 2
  omega
 ·have hq:n / p=3:=Nat.div_eq_of_lt_le (by omega) (by omega)
  rw[hq] at hm ⊢
  rw[find_told (j:=c * 2+3) (by omega) (by show n+1 < fromN 1 2 (c * 2+4); omega) (by omega) (by omega),b3,f3]
  congr 2
  omega
theorem dist_sym {n:Nat} (h:n < 32768):distCode (n+1)=((Lib.bitLen n - 2) * 2+n / 2 ^ (Lib.bitLen n - 2),Lib.bitLen n - 2,n % 2 ^ (Lib.bitLen n - 2))∧Lib.bitLen n≤15:=by
 rcases Nat.lt_or_ge n 4 with h4 | h4
 ·exact dist_first n h4
 ·have key:∃ c,c < 14∧2 ^ (c+1)≤n∧n < 2 ^ (c+2):=by
   have:∀ k,k < 14→n < 2 ^ (k+2)→∃ c,c < 14∧2 ^ (c+1)≤n∧n < 2 ^ (c+2):=by
    intro k
    induction k with
    | zero=>intro _ h; exact absurd h (by omega)
    | succ k ih=>
     intro hk hn
     rcases Nat.lt_or_ge n (2 ^ (k+2)) with q | q
     ·exact ih (by omega) q
     ·exact⟨k+1,hk,q,hn⟩
   exact this 13 (by omega) h
  obtain⟨c,hc,h1,h2⟩:=key
  have e:=bit_len_of h1 h2 (by omega)
  have ec:Lib.bitLen n - 2=c:=by omega
  rw[ec]
  exact⟨dist_more hc h1 h2,by omega⟩
theorem len_least:∀ j,j < 28→lenBits (257+j)=(j / 4 - 1,3+(j - (j / 4 - 1) * 4) * 2 ^ (j / 4 - 1))∧j / 4 - 1≤5:=by decide +kernel
theorem dist_least:∀ j,j < 30→distBits j=(j / 2 - 1,1+(j - (j / 2 - 1) * 2) * 2 ^ (j / 2 - 1))∧j / 2 - 1≤13:=by decide +kernel
end Go.Proofs.YtklpiihnbokkkaaGreatDoor
