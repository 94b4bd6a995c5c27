/-
  Texts of the proof, put together.
-/
import Derived.Test.YtklpiihnbokkkaaGreatDoorFk15
import Derived.Lib.Slices
import Derived.Lib.Small
import Derived.Lib.Walk
namespace Go.Proofs.YtklpiihnbokkkaaGreatDoor
section
open Go.RowKit Go.Joins OutMath StepMath
theorem tab_size:Lib.len8tab.size=256:=by decide +kernel
theorem tab_at:∀ n:Fin Lib.len8tab.size,(Lib.len8tab[n.val]'n.isLt).toNat=Lib.bitLen n.val∧Lib.bitLen n.val≤8:=by decide +kernel
set_option maxHeartbeats 4000000 in
set_option maxRecDepth 100000 in
theorem len64_any (x:Int) (w:World) (h0:0≤x) (h1:x≤65535):
  Calls Tryz.prog 219 #[.int .u64 x] w fun e w'=>e=.returned (.int .i64 ((Lib.bitLen x.toNat:Nat):Int))∧w'=w:=by
 have d0:decide ((4294967296:Int)≤x)=false:=decide_eq_false (by omega)
 have d1:decide ((65536:Int)≤x)=false:=decide_eq_false (by omega)
 have hz:(Lib.len8tab.size:Int)=256:=by rw [tab_size]; rfl
 by_cases h8:x < 256
 ·have d2:decide ((256:Int)≤x)=false:=decide_eq_false (by omega)
  go_enter Tryz.func219,Tryz.ntmps219
  go_wp2
  ·go_ret
   refine⟨ret_i ?_,rfl⟩
   have e:=tab_at ⟨x.toNat,by rw [tab_size]; omega⟩
   simp only at e
   rw[e.1]
   have e2:=e.2
   clear e
   unfold wrap64
   omega
  all_goals omega
 ·have d2:decide ((256:Int)≤x)=true:=decide_eq_true (by omega)
  go_enter Tryz.func219,Tryz.ntmps219
  go_wp2
  ·go_ret
   refine⟨ret_i ?_,rfl⟩
   have e:=tab_at ⟨(x / 256).toNat,by rw [tab_size]; omega⟩
   simp only at e
   rw[e.1,Lib.bitLen_shift8 x.toNat (by omega) (by omega),show x.toNat / 256=(x / 256).toNat by omega]
   have e2:=e.2
   clear e
   unfold wrap64
   omega
  all_goals omega
theorem len_any (x:Int) (w:World) (h0:0≤x) (h1:x≤65535):
  Calls Tryz.prog 208 #[.int .u64 x] w fun e w'=>e=.returned (.int .i64 ((Lib.bitLen x.toNat:Nat):Int))∧w'=w:=by
 go_enter Tryz.func208,Tryz.ntmps208
 go_wp2_with fail
 refine (len64_any x _ h0 h1).mono ?_
 rintro e w' ⟨rfl,rfl⟩
 go_wp2_with fail
 go_ret
 exact⟨rfl,rfl⟩
theorem symc_first (c p n:Nat) (hp:p≤2) (hc:c≤14) (h:n < 32768):wrap64 (wrap64 ((c:Int) * 2 ^ p)+(n:Int) / 2 ^ c)=((c * 2 ^ p+n / 2 ^ c:Nat):Int):=by
 have e1:(c:Int) * 2 ^ p=((c * 2 ^ p:Nat):Int):=by rw [Int.natCast_mul,pow_cast]
 have e2:(n:Int) / 2 ^ c=((n / 2 ^ c:Nat):Int):=by rw [Int.natCast_ediv,pow_cast]
 have h1:2 ^ p≤4:=Nat.pow_le_pow_right (n:=2) (by omega) hp
 have h2:c * 2 ^ p≤14 * 4:=Nat.mul_le_mul hc h1
 have h3:=Nat.div_le_self n (2 ^ c)
 rw[e1,e2]
 generalize c * 2 ^ p=q at *
 generalize n / 2 ^ c=r at *
 unfold wrap64
 omega
theorem symc_pow (c:Nat) (hc:c≤14):1≤2 ^ c∧2 ^ c≤16384:=⟨Nat.one_le_two_pow,Nat.pow_le_pow_right (n:=2) (j:=14) (by omega) hc⟩
theorem sym_extra (c n:Nat) (hc:c≤14) (h:n < 32768):bits .and .i64 (n:Int) (wrap64 (wrap64 (2 ^ c) - 1))=((n % 2 ^ c:Nat):Int):=by
 obtain⟨h1,h2⟩:=symc_pow c hc
 have e1:wrap64 (wrap64 ((2:Int) ^ c) - 1)=((2 ^ c - 1:Nat):Int):=by
  rw[← pow_cast]
  generalize 2 ^ c=q at *
  unfold wrap64
  omega
 rw[e1,PutMath.i64_and_nat _ _ (by omega) (by omega),Nat.and_two_pow_sub_one_eq_mod]
set_option maxHeartbeats 800000 in
theorem symbolOf_any (p n:Nat) (w:World) (hp:p≤2) (h:n < 32768) (hB:Lib.bitLen n≤15):
  Calls Tryz.prog 194 #[.int .i64 (n:Int),.int .i64 (p:Int)] w fun e w'=>e=.returned (.tuple #[.int .i64 (((Lib.bitLen n - (p+1)) * 2 ^ p+n / 2 ^ (Lib.bitLen n - (p+1)):Nat):Int),.int .i64 ((Lib.bitLen n - (p+1):Nat):Int),.int .i64 ((n % 2 ^ (Lib.bitLen n - (p+1)):Nat):Int)])∧Below w.heap.size w w':=by
 obtain⟨c,hc⟩:∃ c,c=Lib.bitLen n - (p+1):=⟨_,rfl⟩
 rw[← hc]
 have hc15:c≤14:=by omega
 go_enter Tryz.func194,Tryz.ntmps194
 go_wp2_with fail
 refine (len_any (n:Int) _ (by omega) (by omega)).mono ?_
 rintro e w' ⟨rfl,rfl⟩
 rw[Int.toNat_natCast]
 have hm:max 0 ((Lib.bitLen n:Int) - (p:Int) - 1)=(c:Int):=by omega
 clear hc
 go_wp2_with fail
 go_region
 go_wp2_with fail
 go_ret3
 exact⟨ret_iii (symc_first c p n hp hc15 h) rfl (sym_extra c n hc15 h),(Below.refl _ _).drew⟩
end
section
open Go.RowKit Go.Joins OutMath StepMath
theorem bits_count (j p:Nat) (h:j < 30):max 0 (wrap64 ((j:Int) / 2 ^ p - 1))=((j / 2 ^ p - 1:Nat):Int):=by
 have hd:((j:Int) / 2 ^ p)=((j / 2 ^ p:Nat):Int):=by
  rw[Int.natCast_ediv,pow_cast]
 have hl:=Nat.div_le_self j (2 ^ p)
 rw[hd]
 generalize j / 2 ^ p=q at *
 unfold wrap64
 omega
theorem symbolBits_any (p j:Nat) (w:World) (_hp:p≤2) (h:j < 30):
  Calls Tryz.prog 223 #[.int .i64 (j:Int),.int .i64 (p:Int)] w fun e w'=>e=.returned (.int .i64 ((j / 2 ^ p - 1:Nat):Int))∧w'=w:=by
 go_enter Tryz.func223,Tryz.ntmps223
 go_wp2_with fail
 go_ret
 exact⟨ret_i (bits_count j p h),rfl⟩
theorem num_least (p j:Nat) (hp:p=1∨p=2) (h:j < 30):wrap64 (wrap64 ((j:Int) - wrap64 (((j / 2 ^ p - 1:Nat):Int) * 2 ^ p)) * 2 ^ (j / 2 ^ p - 1))=(((j - (j / 2 ^ p - 1) * 2 ^ p) * 2 ^ (j / 2 ^ p - 1):Nat):Int):=by
 have key:∀ j:Nat,j < 30→(wrap64 (wrap64 ((j:Int) - wrap64 (((j / 2 ^ 1 - 1:Nat):Int) * 2 ^ 1)) * 2 ^ (j / 2 ^ 1 - 1))=(((j - (j / 2 ^ 1 - 1) * 2 ^ 1) * 2 ^ (j / 2 ^ 1 - 1):Nat):Int))∧(wrap64 (wrap64 ((j:Int) - wrap64 (((j / 2 ^ 2 - 1:Nat):Int) * 2 ^ 2)) * 2 ^ (j / 2 ^ 2 - 1))=(((j - (j / 2 ^ 2 - 1) * 2 ^ 2) * 2 ^ (j / 2 ^ 2 - 1):Nat):Int)):=by decide +kernel
 rcases hp with rfl | rfl
 ·exact (key j h).1
 ·exact (key j h).2
theorem numberOf_any (p j:Nat) (w:World) (hp:p=1∨p=2) (h:j < 30):
  Calls Tryz.prog 224 #[.int .i64 (j:Int),.int .i64 (p:Int)] w fun e w'=>e=.returned (.int .i64 (((j - (j / 2 ^ p - 1) * 2 ^ p) * 2 ^ (j / 2 ^ p - 1):Nat):Int))∧w'=w:=by
 have hn:=num_least p j hp h
 obtain⟨c,hc⟩:∃ c,c=j / 2 ^ p - 1:=⟨_,rfl⟩
 have hs:=fun w=>symbolBits_any p j w (by omega) h
 have hc14:j / 2 ^ p - 1≤14:=by
  rcases hp with rfl | rfl <;> omega
 rw[← hc] at hn hs hc14 ⊢
 have HN:=hid_of hn
 clear hn hc
 go_enter Tryz.func224,Tryz.ntmps224
 go_wp2_with fail
 refine (hs _).mono ?_
 rintro e w' ⟨rfl,rfl⟩
 go_wp2_with fail
 go_ret
 exact⟨ret_i HN.out,rfl⟩
theorem pow_named (c:Nat) (hc:c≤14):∃ q:Nat,(q:Int)=2 ^ c∧wrap64 ((2:Int) ^ c)=(q:Int)∧q≤16384:=by
 obtain⟨h1,h2⟩:=symc_pow c hc
 refine⟨2 ^ c,pow_cast c,?_,h2⟩
 rw[← pow_cast]
 generalize 2 ^ c=q at *
 unfold wrap64
 omega
end
section
open Go.RowKit StepMath
def LengthCodeAnswer:Prop:=∀ (n:Int) (w:World),(Lit.int .i64 n).wf=true→Calls Tryz.prog 165 #[.int .i64 n] w fun e w'=>e=.returned (.tuple #[.int .i64 (LengthCodeOf n).1,.int .i64 (LengthCodeOf n).2.1,.int .i64 (LengthCodeOf n).2.2])∧Below w.heap.size w w'
end
section
open Go.RowKit StepMath
def LengthOfAnswer:Prop:=∀ (s x:Int) (w:World),(Lit.int .i64 s).wf=true→(Lit.int .i64 x).wf=true→Calls Tryz.prog 215 #[.int .i64 s,.int .i64 x] w fun e w'=>e=.returned (.tuple #[.int .i64 (LengthOfR s x).1,.bool (LengthOfR s x).2])∧Below w.heap.size w w'
end
section
open Go.RowKit Go.Joins OutMath StepMath
theorem isLength_any (x:Int) (w:World):
  Calls Tryz.prog 192 #[.int .i64 x] w fun e w'=>e=.returned (.bool (decide (3≤x∧x≤258)))∧w'=w:=by
 by_cases h:3≤x
 ·have d:decide ((3:Int)≤x)=true:=decide_eq_true h
  have d2:decide ((3:Int)≤x∧x≤258)=decide (x≤258):=by simp [h]
  rw[d2]
  clear d2
  go_enter Tryz.func192,Tryz.ntmps192
  go_wp2_with fail
  go_ret
  exact⟨rfl,rfl⟩
 ·have d:decide ((3:Int)≤x)=false:=decide_eq_false h
  have d2:decide ((3:Int)≤x∧x≤258)=false:=decide_eq_false (fun q=>h q.1)
  rw[d2]
  clear d2
  go_enter Tryz.func192,Tryz.ntmps192
  go_wp2_with fail
  go_ret
  exact⟨rfl,rfl⟩
theorem isLength_yes (x:Int) (w:World) (h:3≤x∧x≤258):
  Calls Tryz.prog 192 #[.int .i64 x] w fun e w'=>e=.returned (.bool true)∧w'=w:=by
 have:=isLength_any x w
 rwa [decide_eq_true h] at this
theorem isLength_no (x:Int) (w:World) (h:¬ (3≤x∧x≤258)):
  Calls Tryz.prog 192 #[.int .i64 x] w fun e w'=>e=.returned (.bool false)∧w'=w:=by
 have:=isLength_any x w
 rwa [decide_eq_false h] at this
set_option maxHeartbeats 800000 in
theorem lengthCode_answer:LengthCodeAnswer:=by
 intro n w _
 by_cases h:3≤n∧n≤258
 ·obtain⟨h3,h258⟩:=h
  obtain⟨m,rfl⟩:∃ m:Nat,n=(m:Int)+3:=⟨(n - 3).toNat,by omega⟩
  unfold LengthCodeOf
  rw[if_pos ⟨h3,h258⟩,show ((m:Int)+3).toNat=m+3 by omega]
  by_cases he:m=255
  ·subst he
   go_enter Tryz.func165,Tryz.ntmps165
   go_wp2_with fail
   refine (isLength_yes _ _ (by omega)).mono ?_
   rintro e w' ⟨rfl,rfl⟩
   go_wp2_with fail
   go_ret3
   exact⟨rfl,Below.refl _ _⟩
  ·have hl:=len_sym m (by omega)
   have hs:=fun w=>symbolOf_any 2 m w (by omega) (by omega) (by omega)
   rw[hl.1]
   have hB:=hl.2
   clear hl
   obtain⟨c,hc⟩:∃ c,c=Lib.bitLen m - 3:=⟨_,rfl⟩
   simp only [show 2+1=3 from rfl,← hc] at hs
   rw[← hc]
   have hq:=Nat.div_le_self m (2 ^ c)
   have hcl:c≤5:=by omega
   have d:((m:Int)+3 == 258)=false:=by simp; omega
   have hq2:(((c * 2 ^ 2+m / 2 ^ c:Nat):Int)=((c * 4+m / 2 ^ c:Nat):Int)):=rfl
   rw[hq2] at hs
   clear hc hB hq2
   generalize m / 2 ^ c=q at *
   generalize m % 2 ^ c=r at *
   obtain⟨s,hsm⟩:∃ s,s=c * 4+q:=⟨_,rfl⟩
   rw[← hsm] at hs ⊢
   have hsl:s≤300:=by omega
   clear hsm
   go_enter Tryz.func165,Tryz.ntmps165
   go_wp2_with fail
   refine (isLength_yes _ _ (by omega)).mono ?_
   rintro e w' ⟨rfl,rfl⟩
   go_wp2_with fail
   refine (hs _).mono ?_
   rintro e w1 ⟨rfl,hB1⟩
   have HB:=hid_of hB1
   clear hB1 hs
   go_wp2_with fail
   go_ret3
   exact⟨ret_iii (by omega) rfl rfl,HB.out⟩
 ·unfold LengthCodeOf
  rw[if_neg h]
  go_enter Tryz.func165,Tryz.ntmps165
  go_wp2_with fail
  refine (isLength_no _ _ h).mono ?_
  rintro e w' ⟨rfl,rfl⟩
  go_wp2_with fail
  go_ret3
  exact⟨rfl,Below.refl _ _⟩
end
section
open Go.RowKit Go.Joins OutMath StepMath
theorem lengthBits_any (j:Nat) (w:World) (h:j < 28):
  Calls Tryz.prog 214 #[.int .i64 (257+(j:Int))] w fun e w'=>e=.returned (.int .i64 ((j / 4 - 1:Nat):Int))∧w'=w:=by
 have d:((257:Int)+(j:Int) == 285)=false:=by simp; omega
 have hs:∀ w,Calls Tryz.prog 223 #[.int .i64 (257+(j:Int) - 257),.int .i64 2] w fun e w'=>e=.returned (.int .i64 ((j / 4 - 1:Nat):Int))∧w'=w:=fun w=>by
  rw[show (257:Int)+(j:Int) - 257=(j:Int) by omega]
  exact symbolBits_any 2 j w (by omega) (by omega)
 go_enter Tryz.func214,Tryz.ntmps214
 go_wp2_with fail
 refine (hs _).mono ?_
 rintro e w' ⟨rfl,rfl⟩
 go_wp2_with fail
 go_ret
 exact⟨rfl,rfl⟩
theorem lengthBits_last (w:World):
  Calls Tryz.prog 214 #[.int .i64 285] w fun e w'=>e=.returned (.int .i64 0)∧w'=w:=by
 go_enter Tryz.func214,Tryz.ntmps214
 go_wp2_with fail
 go_ret
 exact⟨rfl,rfl⟩
set_option maxHeartbeats 1600000 in
theorem lengthOf_answer:LengthOfAnswer:=by
 intro s x w _ _
 by_cases h1:257≤s
 ·by_cases h2:s≤285
  ·by_cases h3:0≤x
   ·have d1:decide (s < 257)=false:=decide_eq_false (by omega)
    have d2:decide ((285:Int) < s)=false:=decide_eq_false (by omega)
    have d3:decide (x < 0)=false:=decide_eq_false (by omega)
    by_cases h4:s=285
    ·subst h4
     by_cases h5:x < 1
     ·obtain rfl:x=0:=by omega
      have he:LengthOfR 285 0=(258,true):=by decide
      rw[he]
      go_enter Tryz.func215,Tryz.ntmps215
      go_wp2_with fail
      refine (lengthBits_last _).mono ?_
      rintro e w' ⟨rfl,rfl⟩
      go_wp2_with fail
      go_ret2
      exact⟨rfl,Below.refl _ _⟩
     ·have he:LengthOfR 285 x=(0,false):=by
       unfold LengthOfR
       rw[if_neg (fun q=>h5 q.2.2)]
      have d4:decide ((1:Int)≤x)=true:=decide_eq_true (by omega)
      rw[he]
      go_enter Tryz.func215,Tryz.ntmps215
      go_wp2_with fail
      refine (lengthBits_last _).mono ?_
      rintro e w' ⟨rfl,rfl⟩
      go_wp2_with fail
      go_ret2
      exact⟨rfl,Below.refl _ _⟩
    ·obtain⟨j,rfl⟩:∃ j:Nat,s=257+(j:Int):=⟨(s - 257).toNat,by omega⟩
     have hj:j < 28:=by omega
     obtain⟨hl,hc5⟩:=len_least j hj
     have d4:((257:Int)+(j:Int) == 285)=false:=by simp; omega
     have hlb:=fun w=>lengthBits_any j w hj
     have hnum:∀ w,Calls Tryz.prog 224 #[.int .i64 (257+(j:Int) - 257),.int .i64 2] w fun e w'=>e=.returned (.int .i64 (((j - (j / 4 - 1) * 4) * 2 ^ (j / 4 - 1):Nat):Int))∧w'=w:=fun w=>by
      rw[show (257:Int)+(j:Int) - 257=(j:Int) by omega]
      exact numberOf_any 2 j w (.inr rfl) (by omega)
     have hsz:(j - (j / 4 - 1) * 4) * 2 ^ (j / 4 - 1)≤1000:=(show ∀ j,j < 28→(j - (j / 4 - 1) * 4) * 2 ^ (j / 4 - 1)≤1000 by decide +kernel) j hj
     unfold LengthOfR
     rw[show ((257:Int)+(j:Int)).toNat=257+j by omega,hl]
     generalize (j - (j / 4 - 1) * 4) * 2 ^ (j / 4 - 1)=z at *
     generalize j / 4 - 1=c at *
     obtain⟨q,hq1,hq2,hq3⟩:=pow_named c (by omega)
     show Calls Tryz.prog 215 _ _ fun e w'=>e=.returned (.tuple #[.int .i64 (if (257≤257+(j:Int)∧257+(j:Int)≤285)∧0≤x∧x < 2 ^ c then (((3+z:Nat):Int)+x,true) else (0,false)).1,.bool (if (257≤257+(j:Int)∧257+(j:Int)≤285)∧0≤x∧x < 2 ^ c then (((3+z:Nat):Int)+x,true) else (0,false)).2])∧_
     rw[← hq1]
     clear hq1 hl
     by_cases h5:x < (q:Int)
     ·have d5:decide ((q:Int)≤x)=false:=decide_eq_false (by omega)
      rw[if_pos ⟨⟨h1,h2⟩,h3,h5⟩]
      go_enter Tryz.func215,Tryz.ntmps215
      go_wp2_with fail
      refine (hlb _).mono ?_
      rintro e w' ⟨rfl,rfl⟩
      go_wp2_with fail
      refine (hnum _).mono ?_
      rintro e w1 ⟨rfl,rfl⟩
      clear hlb hnum
      go_wp2_with fail
      go_ret2
      exact⟨ret_ib (by omega) rfl,Below.refl _ _⟩
     ·have d5:decide ((q:Int)≤x)=true:=decide_eq_true (by omega)
      rw[if_neg (fun q=>h5 q.2.2)]
      go_enter Tryz.func215,Tryz.ntmps215
      go_wp2_with fail
      refine (hlb _).mono ?_
      rintro e w' ⟨rfl,rfl⟩
      go_wp2_with fail
      go_ret2
      exact⟨rfl,Below.refl _ _⟩
   ·have he:LengthOfR s x=(0,false):=by
     unfold LengthOfR
     rw[if_neg (fun q=>h3 q.2.1)]
    have d1:decide (s < 257)=false:=decide_eq_false (by omega)
    have d2:decide ((285:Int) < s)=false:=decide_eq_false (by omega)
    have d3:decide (x < 0)=true:=decide_eq_true (by omega)
    rw[he]
    go_enter Tryz.func215,Tryz.ntmps215
    go_wp2_with fail
    go_ret2
    exact⟨rfl,Below.refl _ _⟩
  ·have he:LengthOfR s x=(0,false):=by
    unfold LengthOfR
    rw[if_neg (fun q=>h2 q.1.2)]
   have d1:decide (s < 257)=false:=decide_eq_false (by omega)
   have d2:decide ((285:Int) < s)=true:=decide_eq_true (by omega)
   rw[he]
   go_enter Tryz.func215,Tryz.ntmps215
   go_wp2_with fail
   go_ret2
   exact⟨rfl,Below.refl _ _⟩
 ·have he:LengthOfR s x=(0,false):=by
   unfold LengthOfR
   rw[if_neg (fun q=>h1 q.1.1)]
  have d1:decide (s < 257)=true:=decide_eq_true (by omega)
  rw[he]
  go_enter Tryz.func215,Tryz.ntmps215
  go_wp2_with fail
  go_ret2
  exact⟨rfl,Below.refl _ _⟩
end
section
open Go.RowKit StepMath
def DistCodeAnswer:Prop:=∀ (n:Int) (w:World),(Lit.int .i64 n).wf=true→Calls Tryz.prog 166 #[.int .i64 n] w fun e w'=>e=.returned (.tuple #[.int .i64 (DistCodeOf n).1,.int .i64 (DistCodeOf n).2.1,.int .i64 (DistCodeOf n).2.2])∧Below w.heap.size w w'
end
section
open Go.RowKit StepMath
def DistOfAnswer:Prop:=∀ (s x:Int) (w:World),(Lit.int .i64 s).wf=true→(Lit.int .i64 x).wf=true→Calls Tryz.prog 217 #[.int .i64 s,.int .i64 x] w fun e w'=>e=.returned (.tuple #[.int .i64 (DistOfR s x).1,.bool (DistOfR s x).2])∧Below w.heap.size w w'
end
section
open Go.RowKit Go.Joins OutMath StepMath
theorem isDist_any (x:Int) (w:World):
  Calls Tryz.prog 193 #[.int .i64 x] w fun e w'=>e=.returned (.bool (decide (1≤x∧x≤32768)))∧w'=w:=by
 by_cases h:1≤x
 ·have d:decide ((1:Int)≤x)=true:=decide_eq_true h
  have d2:decide ((1:Int)≤x∧x≤32768)=decide (x≤32768):=by simp [h]
  rw[d2]
  clear d2
  go_enter Tryz.func193,Tryz.ntmps193
  go_wp2_with fail
  go_ret
  exact⟨rfl,rfl⟩
 ·have d:decide ((1:Int)≤x)=false:=decide_eq_false h
  have d2:decide ((1:Int)≤x∧x≤32768)=false:=decide_eq_false (fun q=>h q.1)
  rw[d2]
  clear d2
  go_enter Tryz.func193,Tryz.ntmps193
  go_wp2_with fail
  go_ret
  exact⟨rfl,rfl⟩
theorem isDist_yes (x:Int) (w:World) (h:1≤x∧x≤32768):
  Calls Tryz.prog 193 #[.int .i64 x] w fun e w'=>e=.returned (.bool true)∧w'=w:=by
 have:=isDist_any x w
 rwa [decide_eq_true h] at this
theorem isDist_no (x:Int) (w:World) (h:¬ (1≤x∧x≤32768)):
  Calls Tryz.prog 193 #[.int .i64 x] w fun e w'=>e=.returned (.bool false)∧w'=w:=by
 have:=isDist_any x w
 rwa [decide_eq_false h] at this
set_option maxHeartbeats 800000 in
theorem distCode_answer:DistCodeAnswer:=by
 intro n w _
 by_cases h:1≤n∧n≤32768
 ·obtain⟨h3,h258⟩:=h
  obtain⟨m,rfl⟩:∃ m:Nat,n=(m:Int)+1:=⟨(n - 1).toNat,by omega⟩
  unfold DistCodeOf
  rw[if_pos ⟨h3,h258⟩,show ((m:Int)+1).toNat=m+1 by omega]
  have hl:=dist_sym (n:=m) (by omega)
  have hs:=fun w=>symbolOf_any 1 m w (by omega) (by omega) hl.2
  rw[hl.1]
  have hB:=hl.2
  clear hl
  obtain⟨c,hc⟩:∃ c,c=Lib.bitLen m - 2:=⟨_,rfl⟩
  simp only [show 1+1=2 from rfl,← hc] at hs
  rw[← hc]
  have hq2:(((c * 2 ^ 1+m / 2 ^ c:Nat):Int)=((c * 2+m / 2 ^ c:Nat):Int)):=rfl
  rw[hq2] at hs
  clear hc hB hq2
  generalize c * 2+m / 2 ^ c=q at *
  generalize m % 2 ^ c=r at *
  go_enter Tryz.func166,Tryz.ntmps166
  go_wp2_with fail
  refine (isDist_yes _ _ (by omega)).mono ?_
  rintro e w' ⟨rfl,rfl⟩
  go_wp2_with fail
  refine (hs _).mono ?_
  rintro e w1 ⟨rfl,hB1⟩
  have HB:=hid_of hB1
  clear hB1 hs
  go_wp2_with fail
  go_ret3
  exact⟨rfl,HB.out⟩
 ·unfold DistCodeOf
  rw[if_neg h]
  go_enter Tryz.func166,Tryz.ntmps166
  go_wp2_with fail
  refine (isDist_no _ _ h).mono ?_
  rintro e w' ⟨rfl,rfl⟩
  go_wp2_with fail
  go_ret3
  exact⟨rfl,Below.refl _ _⟩
end
section
open Go.RowKit Go.Joins OutMath StepMath
theorem distBits_any (j:Nat) (w:World) (h:j < 30):
  Calls Tryz.prog 216 #[.int .i64 (j:Int)] w fun e w'=>e=.returned (.int .i64 ((j / 2 - 1:Nat):Int))∧w'=w:=by
 have hs:=fun w=>symbolBits_any 1 j w (by omega) h
 go_enter Tryz.func216,Tryz.ntmps216
 go_wp2_with fail
 refine (hs _).mono ?_
 rintro e w' ⟨rfl,rfl⟩
 go_wp2_with fail
 go_ret
 exact⟨rfl,rfl⟩
set_option maxHeartbeats 1600000 in
theorem distOf_answer:DistOfAnswer:=by
 intro s x w _ _
 by_cases h1:0≤s
 ·by_cases h2:s≤29
  ·by_cases h3:0≤x
   ·obtain⟨j,rfl⟩:=Int.eq_ofNat_of_zero_le h1
    have d2:decide ((29:Int) < (j:Int))=false:=decide_eq_false (by omega)
    have d2':decide (29 < j)=false:=decide_eq_false (by omega)
    have d3:decide (x < 0)=false:=decide_eq_false (by omega)
    have hj:j < 30:=by omega
    obtain⟨hl,hc5⟩:=dist_least j hj
    have hlb:=fun w=>distBits_any j w hj
    have hnum:=fun w=>numberOf_any 1 j w (.inl rfl) (by omega)
    simp only [Nat.pow_one] at hnum
    have hsz:(j - (j / 2 - 1) * 2) * 2 ^ (j / 2 - 1)≤100000:=(show ∀ j,j < 30→(j - (j / 2 - 1) * 2) * 2 ^ (j / 2 - 1)≤100000 by decide +kernel) j hj
    unfold DistOfR
    rw[show ((j:Int)).toNat=j by omega,hl]
    generalize (j - (j / 2 - 1) * 2) * 2 ^ (j / 2 - 1)=z at *
    generalize j / 2 - 1=c at *
    obtain⟨q,hq1,hq2,hq3⟩:=pow_named c (by omega)
    show Calls Tryz.prog 217 _ _ fun e w'=>e=.returned (.tuple #[.int .i64 (if (0≤(j:Int)∧(j:Int)≤29)∧0≤x∧x < 2 ^ c then (((1+z:Nat):Int)+x,true) else (0,false)).1,.bool (if (0≤(j:Int)∧(j:Int)≤29)∧0≤x∧x < 2 ^ c then (((1+z:Nat):Int)+x,true) else (0,false)).2])∧_
    rw[← hq1]
    clear hq1 hl
    by_cases h5:x < (q:Int)
    ·have d5:decide ((q:Int)≤x)=false:=decide_eq_false (by omega)
     rw[if_pos ⟨⟨h1,h2⟩,h3,h5⟩]
     go_enter Tryz.func217,Tryz.ntmps217
     go_wp2_with fail
     refine (hlb _).mono ?_
     rintro e w' ⟨rfl,rfl⟩
     go_wp2_with fail
     refine (hnum _).mono ?_
     rintro e w1 ⟨rfl,rfl⟩
     clear hlb hnum
     go_wp2_with fail
     go_ret2
     exact⟨ret_ib (by omega) rfl,Below.refl _ _⟩
    ·have d5:decide ((q:Int)≤x)=true:=decide_eq_true (by omega)
     rw[if_neg (fun q=>h5 q.2.2)]
     go_enter Tryz.func217,Tryz.ntmps217
     go_wp2_with fail
     refine (hlb _).mono ?_
     rintro e w' ⟨rfl,rfl⟩
     go_wp2_with fail
     go_ret2
     exact⟨rfl,Below.refl _ _⟩
   ·have he:DistOfR s x=(0,false):=by
     unfold DistOfR
     rw[if_neg (fun q=>h3 q.2.1)]
    have d1:decide (s < 0)=false:=decide_eq_false (by omega)
    have d2:decide ((29:Int) < s)=false:=decide_eq_false (by omega)
    have d3:decide (x < 0)=true:=decide_eq_true (by omega)
    rw[he]
    go_enter Tryz.func217,Tryz.ntmps217
    go_wp2_with fail
    go_ret2
    exact⟨rfl,Below.refl _ _⟩
  ·have he:DistOfR s x=(0,false):=by
    unfold DistOfR
    rw[if_neg (fun q=>h2 q.1.2)]
   have d1:decide (s < 0)=false:=decide_eq_false (by omega)
   have d2:decide ((29:Int) < s)=true:=decide_eq_true (by omega)
   rw[he]
   go_enter Tryz.func217,Tryz.ntmps217
   go_wp2_with fail
   go_ret2
   exact⟨rfl,Below.refl _ _⟩
 ·have he:DistOfR s x=(0,false):=by
   unfold DistOfR
   rw[if_neg (fun q=>h1 q.1.1)]
  have d1:decide (s < 0)=true:=decide_eq_true (by omega)
  rw[he]
  go_enter Tryz.func217,Tryz.ntmps217
  go_wp2_with fail
  go_ret2
  exact⟨rfl,Below.refl _ _⟩
end
section
open Go.RowKit Go.Joins OutMath TakeMath TokMath InfMath
theorem bytesAt_next (s:ByteArray) (p j:Nat):bytesAt s p (j+1)=bytesAt s p j ++ [num s (p+8 * j) 8]:=by simp [bytesAt,List.range_succ]
theorem bytesAt_length (s:ByteArray) (p j:Nat):(bytesAt s p j).length=j:=by simp [bytesAt]
theorem wrap_u8 {z:Int} (h0:0≤z) (h1:z < 256):IntKind.u8.wrap z=z:=by
 simp[IntKind.wrap,IntKind.signed,IntKind.bits]
 omega
end
section
open Go.RowKit Go.Joins OutMath CodeMath TakeMath HitMath WayMath StepMath TokMath InfMath
theorem sym_cases (f:Nat→Int) (n:Nat) (s:ByteArray) (p:Nat):(∃ y k,1≤k∧y < n∧p+k≤8 * s.size∧symR f n s p 0=(y,p+k,0)∧symE s f n p=.ok (y,p+k))∨(∃ c,(c=2∨c=6)∧symR f n s p 0=(0,p,c)∧symE s f n p=.error c):=by
 have h:=symW_small (f:=f) (n:=n) (s:=s) (a:=p)
 unfold symR symE
 rw[if_neg (fun h=>h rfl)]
 generalize symW f n s p=W at h
 obtain⟨y,k,x⟩:=W
 rcases h with ⟨hx,hit⟩ | ⟨hx,_⟩ | hx
 ·have hx':x=0:=hx
  subst hx'
  have hit':Hit f n s p y k:=hit
  refine .inl ⟨y,k,?_,hit'.1,hit'.2.2.2.2,by simp,by simp⟩
  have h0:=hit'.2.1
  have h1:=hit'.2.2.1
  omega
 ·have hx':x=2:=hx
  subst hx'
  exact .inr ⟨2,.inl rfl,by simp,by simp⟩
 ·have hx':x=1:=hx
  subst hx'
  exact .inr ⟨6,.inr rfl,by simp,by simp⟩
theorem lenBits_small {y:Nat} (h1:257≤y) (h2:y≤285):(lenBits y).1≤5∧1≤(lenBits y).2∧((lenBits y).2:Int)+2 ^ (lenBits y).1≤300:=by
 obtain⟨j,rfl⟩:=Nat.le.dest h1
 have hj:j < 29:=by omega
 clear h1 h2
 revert hj j
 decide +kernel
theorem distBits_small {q:Nat} (h:q≤29):(distBits q).1≤13∧1≤(distBits q).2∧((distBits q).2:Int)+2 ^ (distBits q).1≤40000:=by
 have hj:q < 30:=by omega
 clear h
 revert hj q
 decide +kernel
theorem len_of {y:Nat} {x:Int} (h1:257≤y) (h2:y≤285) (h3:0≤x) (h4:x < 2 ^ (lenBits y).1):LengthOfR (y:Int) x=((lenBits y).2+x,true):=by
 unfold LengthOfR
 rw[Int.toNat_natCast,if_pos ⟨⟨by omega,by omega⟩,h3,h4⟩]
theorem dist_of {q:Nat} {x:Int} (h2:q≤29) (h3:0≤x) (h4:x < 2 ^ (distBits q).1):DistOfR (q:Int) x=((distBits q).2+x,true):=by
 unfold DistOfR
 rw[Int.toNat_natCast,if_pos ⟨⟨by omega,by omega⟩,h3,h4⟩]
section
variable {s:ByteArray} {most:Nat} {f1:Nat→Int} {n1:Nat} {f2:Nat→Int} {n2:Nat} {m p:Nat} {O:List Int}
theorem syms_err {c:Nat} (h:symE s f1 n1 p=.error c):symbolsF s most f1 n1 f2 n2 (m+1) p O=.error c:=by
 rw[symbolsF,h]
theorem syms_end {p1:Nat} (h:symE s f1 n1 p=.ok (256,p1)):symbolsF s most f1 n1 f2 n2 (m+1) p O=.ok (O,p1):=by
 rw[symbolsF,h]
 rfl
theorem syms_byte {y p1:Nat} (h:symE s f1 n1 p=.ok (y,p1)) (hy:y < 256):symbolsF s most f1 n1 f2 n2 (m+1) p O=if O.length=most then .error 8 else symbolsF s most f1 n1 f2 n2 m p1 (O ++ [(y:Int)]):=by
 rw[symbolsF,h]
 show (if y=256 then _ else if y < 256 then _ else _)=_
 rw[if_neg (by omega),if_pos hy]
theorem syms_over {y p1:Nat} (h:symE s f1 n1 p=.ok (y,p1)) (hy:285 < y):symbolsF s most f1 n1 f2 n2 (m+1) p O=.error 6:=by
 rw[symbolsF,h]
 show (if y=256 then _ else if y < 256 then _ else if 285 < y then _ else _)=_
 rw[if_neg (by omega),if_neg (by omega),if_pos hy]
noncomputable def farE (s : ByteArray) (most : Nat) (f1 : Nat → Int) (n1 : Nat) (f2 : Nat → Int) (n2 m y p1 : Nat) (O : List Int) : Except Nat (List Int × Nat) :=
  match takeE s p1 (lenBits y).1 with
        | .error x => .error x
        | .ok (x, p2) => match symE s f2 n2 p2 with
          | .error x => .error x
          | .ok (q, p3) =>
            if 29 < q then .error 6
            else match takeE s p3 (distBits q).1 with
              | .error x => .error x
              | .ok (z, p4) =>
                if (O.length : Int) < (distBits q).2 + z then .error 7
                else if (most : Int) - O.length < (lenBits y).2 + x then .error 8
                else symbolsF s most f1 n1 f2 n2 m p4 (copyN ((distBits q).2 + z).toNat ((lenBits y).2 + x).toNat O)
theorem syms_far {y p1:Nat} (h:symE s f1 n1 p=.ok (y,p1)) (h1:257≤y) (h2:y≤285):symbolsF s most f1 n1 f2 n2 (m+1) p O=farE s most f1 n1 f2 n2 m y p1 O:=by
 rw[symbolsF,h]
 show (if y=256 then _ else if y < 256 then _ else if 285 < y then _ else _)=_
 rw[if_neg (by omega),if_neg (by omega),if_neg (by omega)]
 rfl
theorem far_err {y p1 c:Nat} (h:takeE s p1 (lenBits y).1=.error c):farE s most f1 n1 f2 n2 m y p1 O=.error c:=by
 rw[farE,h]
theorem far_err2 {y p1 p2 c:Nat} {x:Int} (h:takeE s p1 (lenBits y).1=.ok (x,p2)) (h2:symE s f2 n2 p2=.error c):farE s most f1 n1 f2 n2 m y p1 O=.error c:=by
 rw[farE,h]
 simp only [h2]
theorem far_over {y p1 p2 q p3:Nat} {x:Int} (h:takeE s p1 (lenBits y).1=.ok (x,p2)) (h2:symE s f2 n2 p2=.ok (q,p3)) (hq:29 < q):farE s most f1 n1 f2 n2 m y p1 O=.error 6:=by
 rw[farE,h]
 simp only [h2]
 rw[if_pos hq]
theorem far_err3 {y p1 p2 q p3 c:Nat} {x:Int} (h:takeE s p1 (lenBits y).1=.ok (x,p2)) (h2:symE s f2 n2 p2=.ok (q,p3)) (hq:¬ 29 < q) (h3:takeE s p3 (distBits q).1=.error c):farE s most f1 n1 f2 n2 m y p1 O=.error c:=by
 rw[farE,h]
 simp only [h2]
 rw[if_neg hq,h3]
theorem far_go {y p1 p2 q p3 p4:Nat} {x z:Int} (h:takeE s p1 (lenBits y).1=.ok (x,p2)) (h2:symE s f2 n2 p2=.ok (q,p3)) (hq:¬ 29 < q) (h3:takeE s p3 (distBits q).1=.ok (z,p4)):farE s most f1 n1 f2 n2 m y p1 O=if (O.length:Int) < (distBits q).2+z then .error 7 else if (most:Int) - O.length < (lenBits y).2+x then .error 8 else symbolsF s most f1 n1 f2 n2 m p4 (copyN ((distBits q).2+z).toNat ((lenBits y).2+x).toNat O):=by
 rw[farE,h]
 simp only [h2]
 rw[if_neg hq,h3]
end
end
end Go.Proofs.YtklpiihnbokkkaaGreatDoor
