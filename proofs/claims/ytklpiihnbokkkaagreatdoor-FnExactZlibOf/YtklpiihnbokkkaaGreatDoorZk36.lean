/-
  Texts of the proof, put together.
-/
import Derived.Test.YtklpiihnbokkkaaGreatDoorZk13
namespace Go.Proofs.YtklpiihnbokkkaaGreatDoor
section
open Go.RowKit Go.Joins OutMath StepMath
theorem bits4 {j:Nat} (h:4≤j):((j:Int) - 4).tdiv 4=((bitsN 4 j:Nat):Int):=by
 rw[Int.tdiv_eq_ediv_of_nonneg (by omega)]
 unfold bitsN
 omega
set_option maxHeartbeats 800000 in
theorem specLenBits (j:Nat) (w:World) (h:j < 28):
  Calls Tryz.prog 152 #[.int .i64 (257+(j:Int))] w fun e w'=>e=.returned (.tuple #[.int .i64 ((bitsN 4 j:Nat):Int),.int .i64 ((fromN 3 4 j:Nat):Int)])∧w'=w:=by
 by_cases h8:j < 8
 ·have e1:=(len_small j (by omega)).1
  have e2:=(len_bits j h).2 h8
  rw[e1,e2]
  have d:decide ((257:Int)+(j:Int) < 265)=true:=decide_eq_true (by omega)
  have d2:(257:Int)+(j:Int) < 265:=by omega
  go_enter Tryz.func152,Tryz.ntmps152
  go_wp2_with fail
  go_ret2
  exact⟨ret_ii rfl (by omega),rfl⟩
 ·have d:decide ((257:Int)+(j:Int) < 265)=false:=decide_eq_false (by omega)
  have d2:¬ (257:Int)+(j:Int) < 265:=by omega
  have d3:((257:Int)+(j:Int) == 285)=false:=by simp; omega
  have hq:((257:Int)+(j:Int) - 261).tdiv 4=((bitsN 4 j:Nat):Int):=by
   rw[show (257:Int)+(j:Int) - 261=(j:Int) - 4 by omega]
   exact bits4 (by omega)
  have hb:=(len_bits j h).1
  go_enter Tryz.func152,Tryz.ntmps152
  go_wp2_with fail
  go_loop [5,6] (fun x i=>∃ q:Nat,8≤q∧q≤j∧i=.int .i64 (257+(q:Int))∧x=.int .i64 ((fromN 3 4 q:Nat):Int)) (fun _ i=>300 - (intOf i).toNat)
  case atStart=>exact⟨8,by omega,by omega,rfl,by rw [len_8]; rfl⟩
  case round=>
   obtain⟨q,hq1,hq2,rfl,rfl⟩:=hrel
   have hf:=from_le (c:=3) (k:=4) (show q≤28 by omega)
   rw[len_28] at hf
   by_cases hlt:q < j
   ·have g1:decide ((257:Int)+(q:Int) < 257+(j:Int))=true:=decide_eq_true (by omega)
    have g2:(257:Int)+(q:Int) < 257+(j:Int):=by omega
    have g3:((257:Int)+(q:Int) - 261).tdiv 4=((bitsN 4 q:Nat):Int):=by
     rw[show (257:Int)+(q:Int) - 261=(q:Int) - 4 by omega]
     exact bits4 (by omega)
    have g4:=(len_bits q (by omega)).1
    have g5:=p2_le (show bitsN 4 q≤5 by omega)
    have g6:p2 5=32:=by decide +kernel
    have g7:=p2_pos (bitsN 4 q)
    have HN:=hid_of (from_next 3 4 q)
    go_wp2_with fail
    refine (pow_any _ _ (by omega)).mono ?_
    rintro e w1 ⟨rfl,rfl⟩
    go_wp2_with fail
    go_round
    case rel=>exact⟨q+1,by omega,by omega,by go_num,by rw [HN.out]⟩
    case measure=>simp [intOf]; omega
   ·obtain rfl:q=j:=by omega
    go_wp2_with fail
    go_ret2
    exact⟨rfl,rfl⟩
def lenSt (n q:Nat):Nat×Nat×Nat:=if q=0 then (285,0,258) else (257+findN 3 4 n q,bitsN 4 (findN 3 4 n q),fromN 3 4 (findN 3 4 n q))
theorem lenSt_hit {n q:Nat} (h:fromN 3 4 q≤n):lenSt n (q+1)=(257+q,bitsN 4 q,fromN 3 4 q):=by
 unfold lenSt
 rw[if_neg (by omega),find_step,if_pos h]
theorem lenSt_miss {n q:Nat} (h:¬ fromN 3 4 q≤n) (h3:3≤n):lenSt n (q+1)=lenSt n q:=by
 have hq:q≠0:=fun e=>by subst e; exact h h3
 unfold lenSt
 rw[if_neg (by omega),if_neg hq,find_step,if_neg h]
theorem lenSt_done {n:Nat}:lenSt n 28=(257+findN 3 4 n 28,bitsN 4 (findN 3 4 n 28),fromN 3 4 (findN 3 4 n 28)):=rfl
set_option maxHeartbeats 1600000 in
theorem specLenCode_in (n:Nat) (w:World) (h3:3≤n) (h:n < 258):
  Calls Tryz.prog 108 #[.int .i64 (n:Int)] w fun e w'=>e=.returned (.tuple #[.int .i64 (((lenCode n).1:Nat):Int),.int .i64 (((lenCode n).2.1:Nat):Int),.int .i64 (((lenCode n).2.2:Nat):Int)])∧w'=w:=by
 have hc:lenCode n=(257+findN 3 4 n 28,bitsN 4 (findN 3 4 n 28),n - fromN 3 4 (findN 3 4 n 28)):=by
  unfold lenCode
  rw[if_pos h]
 rw[hc]
 have hfa:=len_fact h3 h
 have d1:decide ((n:Int) < 258)=true:=decide_eq_true (by omega)
 go_enter Tryz.func108,Tryz.ntmps108
 go_wp2_with fail
 refine (in_yes _ _ _ _ (by omega) (by omega)).mono ?_
 rintro e w1 ⟨rfl,rfl⟩
 go_wp2_with fail
 go_loop [5,6,7,8] (fun x y z i=>∃ q:Nat,q≤28∧i=.int .i64 (257+(q:Int))∧x=.int .i64 ((lenSt n q).1:Nat)∧y=.int .i64 ((lenSt n q).2.1:Nat)∧z=.int .i64 ((lenSt n q).2.2:Nat)) (fun _ _ _ i=>300 - (intOf i).toNat)
 case atStart=>exact⟨0,by omega,rfl,rfl,rfl,rfl⟩
 case round=>
  obtain⟨q,hq,rfl,rfl,rfl,rfl⟩:=hrel
  by_cases hlt:q < 28
  ·have g1:decide ((257:Int)+(q:Int) < 285)=true:=decide_eq_true (by omega)
   have g2:(257:Int)+(q:Int) < 285:=by omega
   have hlb:=specLenBits q w1 hlt
   go_wp2_with fail
   refine hlb.mono ?_
   rintro e w2 ⟨rfl,rfl⟩
   clear hlb
   by_cases hf:fromN 3 4 q≤n
   ·have HN:=hid_of (lenSt_hit hf)
    have d:decide (((fromN 3 4 q:Nat):Int)≤(n:Int))=true:=decide_eq_true (by omega)
    go_wp2_with fail
    go_round
    case rel=>exact⟨q+1,by omega,by go_num,by rw [HN.out]; rfl,by rw [HN.out],by rw [HN.out]⟩
    case measure=>simp [intOf]; omega
   ·have HN:=hid_of (lenSt_miss hf h3)
    have d:decide (((fromN 3 4 q:Nat):Int)≤(n:Int))=false:=decide_eq_false (by omega)
    go_wp2_with fail
    go_round
    case rel=>exact⟨q+1,by omega,by go_num,by rw [HN.out],by rw [HN.out],by rw [HN.out]⟩
    case measure=>simp [intOf]; omega
  ·obtain rfl:q=28:=by omega
   rw[lenSt_done]
   have hr1:=hfa.2.1
   have g0:=(len_bits _ hfa.1).1
   have g1:=hfa.1
   obtain⟨j,hj⟩:∃ j,j=findN 3 4 n 28:=⟨_,rfl⟩
   obtain⟨z,hz⟩:∃ z,z=fromN 3 4 j:=⟨_,rfl⟩
   rw[← hj] at hr1 g0 g1
   rw[← hz] at hr1
   rw[← hj,← hz]
   have HJ:=hid_of hj
   have HZ:=hid_of hz
   clear hfa hc hj hz
   go_wp2_with fail
   go_ret3
   refine⟨ret_iii ?_ ?_ ?_,rfl⟩
   ·rw[← HJ.out]
   ·rw[← HJ.out]
   ·rw[← HJ.out,← HZ.out]; omega
theorem specLenCode_last (w:World):
  Calls Tryz.prog 108 #[.int .i64 258] w fun e w'=>e=.returned (.tuple #[.int .i64 285,.int .i64 0,.int .i64 0])∧w'=w:=by
 go_enter Tryz.func108,Tryz.ntmps108
 go_wp2_with fail
 refine (in_yes _ _ _ _ (by omega) (by omega)).mono ?_
 rintro e w1 ⟨rfl,rfl⟩
 go_wp2_with fail
 go_loop [5,6,7,8] (fun x y z i=>x=.int .i64 285∧y=.int .i64 0∧z=.int .i64 258∧i=.int .i64 257) (fun _ _ _ _=>0)
 case atStart=>exact⟨rfl,rfl,rfl,rfl⟩
 case round=>
  obtain⟨rfl,rfl,rfl,rfl⟩:=hrel
  go_wp2_with fail
  go_ret3
  exact⟨rfl,rfl⟩
theorem specLenCode_out (n:Int) (w:World) (h:¬ (3≤n∧n≤258)):
  Calls Tryz.prog 108 #[.int .i64 n] w fun e w'=>e=.returned (.tuple #[.int .i64 0,.int .i64 0,.int .i64 0])∧w'=w:=by
 go_enter Tryz.func108,Tryz.ntmps108
 go_wp2_with fail
 refine (in_no _ _ _ _ h).mono ?_
 rintro e w1 ⟨rfl,rfl⟩
 go_wp2_with fail
 go_ret3
 exact⟨rfl,rfl⟩
theorem specLenCode (n:Int) (w:World):
  Calls Tryz.prog 108 #[.int .i64 n] w fun e w'=>e=.returned (.tuple #[.int .i64 (LengthCodeOf n).1,.int .i64 (LengthCodeOf n).2.1,.int .i64 (LengthCodeOf n).2.2])∧w'=w:=by
 unfold LengthCodeOf
 by_cases h:3≤n∧n≤258
 ·rw[if_pos h]
  obtain⟨m,rfl⟩:=Int.eq_ofNat_of_zero_le (show 0≤n by omega)
  rw[Int.toNat_natCast]
  by_cases h1:m < 258
  ·exact specLenCode_in m w (by omega) h1
  ·obtain rfl:m=258:=by omega
   exact specLenCode_last w
 ·rw[if_neg h]
  exact specLenCode_out n w h
end
section
open Go.RowKit Go.Joins OutMath StepMath
theorem bits2 {j:Nat} (h:2≤j):((j:Int) - 2).tdiv 2=((bitsN 2 j:Nat):Int):=by
 rw[Int.tdiv_eq_ediv_of_nonneg (by omega)]
 unfold bitsN
 omega
set_option maxHeartbeats 800000 in
theorem specDistBits (j:Nat) (w:World) (h:j < 30):
  Calls Tryz.prog 153 #[.int .i64 (j:Int)] w fun e w'=>e=.returned (.tuple #[.int .i64 ((bitsN 2 j:Nat):Int),.int .i64 ((fromN 1 2 j:Nat):Int)])∧w'=w:=by
 by_cases h4:j < 4
 ·have e1:=(dist_small j (by omega)).1
  have e2:=(dist_bits j h).2 h4
  rw[e1,e2]
  have d:decide ((j:Int) < 4)=true:=decide_eq_true (by omega)
  go_enter Tryz.func153,Tryz.ntmps153
  go_wp2_with fail
  go_ret2
  exact⟨ret_ii rfl (by omega),rfl⟩
 ·have d:decide ((j:Int) < 4)=false:=decide_eq_false (by omega)
  have hq:=bits2 (show 2≤j by omega)
  have hb:=(dist_bits j h).1
  go_enter Tryz.func153,Tryz.ntmps153
  go_wp2_with fail
  go_loop [4,5] (fun x i=>∃ q:Nat,4≤q∧q≤j∧i=.int .i64 (q:Int)∧x=.int .i64 ((fromN 1 2 q:Nat):Int)) (fun _ i=>300 - (intOf i).toNat)
  case atStart=>exact⟨4,by omega,by omega,rfl,by rw [dist_4]; rfl⟩
  case round=>
   obtain⟨q,hq1,hq2,rfl,rfl⟩:=hrel
   have hf:=from_le (c:=1) (k:=2) (show q≤30 by omega)
   rw[dist_30] at hf
   by_cases hlt:q < j
   ·have g3:=bits2 (show 2≤q by omega)
    have g4:=(dist_bits q (by omega)).1
    have g5:=p2_le (show bitsN 2 q≤13 by omega)
    have g6:p2 13=8192:=by decide +kernel
    have g7:=p2_pos (bitsN 2 q)
    have HN:=hid_of (from_next 1 2 q)
    go_wp2_with fail
    refine (pow_any _ _ (by omega)).mono ?_
    rintro e w1 ⟨rfl,rfl⟩
    go_wp2_with fail
    go_round
    case rel=>exact⟨q+1,by omega,by omega,by go_num,by rw [HN.out]⟩
    case measure=>simp [intOf]; omega
   ·obtain rfl:q=j:=by omega
    go_wp2_with fail
    go_ret2
    exact⟨rfl,rfl⟩
def distSt (n q:Nat):Nat×Nat×Nat:=(findN 1 2 n q,bitsN 2 (findN 1 2 n q),fromN 1 2 (findN 1 2 n q))
theorem distSt_hit {n q:Nat} (h:fromN 1 2 q≤n):distSt n (q+1)=(q,bitsN 2 q,fromN 1 2 q):=by
 unfold distSt
 rw[find_step,if_pos h]
theorem distSt_miss {n q:Nat} (h:¬ fromN 1 2 q≤n):distSt n (q+1)=distSt n q:=by
 unfold distSt
 rw[find_step,if_neg h]
theorem distSt_zero (n:Nat):distSt n 0=(0,0,1):=by
 show (0,bitsN 2 0,1)=_
 rw[show bitsN 2 0=0 by decide]
theorem distSt_done {n:Nat}:distSt n 30=(findN 1 2 n 30,bitsN 2 (findN 1 2 n 30),fromN 1 2 (findN 1 2 n 30)):=rfl
set_option maxHeartbeats 1600000 in
theorem specDistCode_in (n:Nat) (w:World) (h1:1≤n) (h:n≤32768):
  Calls Tryz.prog 109 #[.int .i64 (n:Int)] w fun e w'=>e=.returned (.tuple #[.int .i64 (((distCode n).1:Nat):Int),.int .i64 (((distCode n).2.1:Nat):Int),.int .i64 (((distCode n).2.2:Nat):Int)])∧w'=w:=by
 have hc:distCode n=(findN 1 2 n 30,bitsN 2 (findN 1 2 n 30),n - fromN 1 2 (findN 1 2 n 30)):=rfl
 rw[hc]
 have hfa:=dist_fact h1 h
 go_enter Tryz.func109,Tryz.ntmps109
 go_wp2_with fail
 refine (in_yes _ _ _ _ (by omega) (by omega)).mono ?_
 rintro e w1 ⟨rfl,rfl⟩
 go_wp2_with fail
 go_loop [5,6,7,8] (fun x y z i=>∃ q:Nat,q≤30∧i=.int .i64 (q:Int)∧x=.int .i64 ((distSt n q).1:Nat)∧y=.int .i64 ((distSt n q).2.1:Nat)∧z=.int .i64 ((distSt n q).2.2:Nat)) (fun _ _ _ i=>300 - (intOf i).toNat)
 case atStart=>exact⟨0,by omega,rfl,by rw [distSt_zero]; rfl,by rw [distSt_zero]; rfl,by rw [distSt_zero]; rfl⟩
 case round=>
  obtain⟨q,hq,rfl,rfl,rfl,rfl⟩:=hrel
  by_cases hlt:q < 30
  ·have g1:decide ((q:Int) < 30)=true:=decide_eq_true (by omega)
   have hlb:=specDistBits q w1 hlt
   go_wp2_with fail
   refine hlb.mono ?_
   rintro e w2 ⟨rfl,rfl⟩
   clear hlb
   by_cases hf:fromN 1 2 q≤n
   ·have HN:=hid_of (distSt_hit hf)
    have d:decide (((fromN 1 2 q:Nat):Int)≤(n:Int))=true:=decide_eq_true (by omega)
    go_wp2_with fail
    go_round
    case rel=>exact⟨q+1,by omega,by go_num,by rw [HN.out],by rw [HN.out],by rw [HN.out]⟩
    case measure=>simp [intOf]; omega
   ·have HN:=hid_of (distSt_miss hf)
    have d:decide (((fromN 1 2 q:Nat):Int)≤(n:Int))=false:=decide_eq_false (by omega)
    go_wp2_with fail
    go_round
    case rel=>exact⟨q+1,by omega,by go_num,by rw [HN.out],by rw [HN.out],by rw [HN.out]⟩
    case measure=>simp [intOf]; omega
  ·obtain rfl:q=30:=by omega
   rw[distSt_done]
   have hr1:=hfa.2.1
   have g0:=(dist_bits _ hfa.1).1
   have g1:=hfa.1
   obtain⟨j,hj⟩:∃ j,j=findN 1 2 n 30:=⟨_,rfl⟩
   obtain⟨z,hz⟩:∃ z,z=fromN 1 2 j:=⟨_,rfl⟩
   rw[← hj] at hr1 g0 g1
   rw[← hz] at hr1
   rw[← hj,← hz]
   have HJ:=hid_of hj
   have HZ:=hid_of hz
   clear hfa hc hj hz
   go_wp2_with fail
   go_ret3
   refine⟨ret_iii ?_ ?_ ?_,rfl⟩
   ·rw[← HJ.out]
   ·rw[← HJ.out]
   ·rw[← HJ.out,← HZ.out]; omega
theorem specDistCode_out (n:Int) (w:World) (h:¬ (1≤n∧n≤32768)):
  Calls Tryz.prog 109 #[.int .i64 n] w fun e w'=>e=.returned (.tuple #[.int .i64 0,.int .i64 0,.int .i64 0])∧w'=w:=by
 go_enter Tryz.func109,Tryz.ntmps109
 go_wp2_with fail
 refine (in_no _ _ _ _ h).mono ?_
 rintro e w1 ⟨rfl,rfl⟩
 go_wp2_with fail
 go_ret3
 exact⟨rfl,rfl⟩
theorem specDistCode (n:Int) (w:World):
  Calls Tryz.prog 109 #[.int .i64 n] w fun e w'=>e=.returned (.tuple #[.int .i64 (DistCodeOf n).1,.int .i64 (DistCodeOf n).2.1,.int .i64 (DistCodeOf n).2.2])∧w'=w:=by
 unfold DistCodeOf
 by_cases h:1≤n∧n≤32768
 ·rw[if_pos h]
  obtain⟨m,rfl⟩:=Int.eq_ofNat_of_zero_le (show 0≤n by omega)
  rw[Int.toNat_natCast]
  exact specDistCode_in m w (by omega) (by omega)
 ·rw[if_neg h]
  exact specDistCode_out n w h
end
section
open Go.RowKit Go.Joins Go.Sort TokMath StepMath CheapMath
theorem code_range (y:Int):(0≤(LengthCodeOf y).1∧(LengthCodeOf y).1≤285)∧0≤(LengthCodeOf y).2.1∧(LengthCodeOf y).2.1≤5:=by
 by_cases h:3≤y∧y≤258
 ·have:=len_back h.1 h.2
  exact⟨⟨by omega,this.2.2.2.2.1⟩,this.2.2.2.2.2.1,this.2.2.2.2.2.2⟩
 ·unfold LengthCodeOf
  rw[if_neg h]
  exact⟨⟨by show (0:Int)≤0; omega,by show (0:Int)≤285; omega⟩,by show (0:Int)≤0; omega,by show (0:Int)≤5; omega⟩
theorem dcode_range (z:Int):0≤(DistCodeOf z).2.1∧(DistCodeOf z).2.1≤13:=by
 by_cases h:1≤z∧z≤32768
 ·have:=dist_back h.1 h.2
  exact⟨this.2.2.2.2.2.1,this.2.2.2.2.2.2⟩
 ·unfold DistCodeOf
  rw[if_neg h]
  exact⟨by show (0:Int)≤0; omega,by show (0:Int)≤13; omega⟩
set_option maxHeartbeats 1600000 in
theorem specCost7 (x y z:Int) (w:World):
  Calls Tryz.prog 72 #[.agg #[.int .i64 x,.int .i64 y,.int .i64 z]] w fun e w'=>e=.returned (.int .i64 (costT (x,y,z)))∧∃ k os',w'=grow (w.drewN k) os':=by
 have HG:Hid (∃ k os',w.alloc (.cells #[.int .i64 x,.int .i64 y,.int .i64 z] 105)=grow (w.drewN k) os'):=⟨0,_,by rw [alloc_eq_grow]; rfl⟩
 by_cases hy:y=0
 ·subst hy
  by_cases hx:x < 144
  ·have e:costT (x,0,z)=8:=by
    rw[cost_byte,if_pos hx]
   have d:decide (x < 144)=true:=decide_eq_true hx
   rw[e]
   go_enter Tryz.func72,Tryz.ntmps72
   go_wp2_with fail
   go_ret
   exact⟨rfl,HG.out⟩
  ·have e:costT (x,0,z)=9:=by
    rw[cost_byte,if_neg hx]
   have d:decide (x < 144)=false:=decide_eq_false hx
   rw[e]
   go_enter Tryz.func72,Tryz.ntmps72
   go_wp2_with fail
   go_ret
   exact⟨rfl,HG.out⟩
 ·have dy:(y == 0)=false:=by simp; omega
  have hl:=fun w=>specLenCode y w
  have hd:=fun w=>specDistCode z w
  have e:costT (x,y,z)=(if (LengthCodeOf y).1 < 280 then 7 else 8)+(LengthCodeOf y).2.1+5+(DistCodeOf z).2.1:=by
   unfold costT
   rw[if_neg hy]
  have r1:=code_range y
  have r2:=dcode_range z
  rw[e]
  clear e
  generalize (LengthCodeOf y).1=s at *
  generalize (LengthCodeOf y).2.1=b at *
  generalize (LengthCodeOf y).2.2=q at *
  generalize (DistCodeOf z).1=s2 at *
  generalize (DistCodeOf z).2.1=m at *
  generalize (DistCodeOf z).2.2=q2 at *
  obtain⟨⟨r3,r4⟩,r5,r6⟩:=r1
  obtain⟨r7,r8⟩:=r2
  by_cases h8:s < 280
  ·have d:decide (s < 280)=true:=decide_eq_true h8
   rw[if_pos h8]
   go_enter Tryz.func72,Tryz.ntmps72
   go_wp2_with fail
   refine (hl _).mono ?_
   rintro e w1 ⟨rfl,rfl⟩
   go_wp2_with fail
   refine (hd _).mono ?_
   rintro e w2 ⟨rfl,rfl⟩
   clear hl hd
   go_wp2_with fail
   go_ret
   exact⟨ret_i (by omega),HG.out⟩
  ·have d:decide (s < 280)=false:=decide_eq_false h8
   rw[if_neg h8]
   go_enter Tryz.func72,Tryz.ntmps72
   go_wp2_with fail
   refine (hl _).mono ?_
   rintro e w1 ⟨rfl,rfl⟩
   go_wp2_with fail
   refine (hd _).mono ?_
   rintro e w2 ⟨rfl,rfl⟩
   clear hl hd
   go_wp2_with fail
   go_ret
   exact⟨ret_i (by omega),HG.out⟩
end
section
open Go.RowKit Go.Joins TokMath StepMath CheapMath
theorem dearer_any (c:Int) (b:Bool) (w:World) (h0:0≤c) (h1:c≤100):Calls Tryz.prog 178 #[.int .i64 c,.bool b] w fun e w'=>e=.returned (.int .i64 (if b then c+1 else c))∧w'=w:=by
 cases b
 ·go_enter Tryz.func178,Tryz.ntmps178
  go_wp2_with fail
  go_ret
  exact⟨rfl,rfl⟩
 ·go_enter Tryz.func178,Tryz.ntmps178
  go_wp2_with fail
  go_ret
  exact⟨rfl,rfl⟩
set_option maxHeartbeats 1600000 in
theorem price_any (x y z:Int) (w:World) (wy:(Lit.int .i64 y).wf=true) (wz:(Lit.int .i64 z).wf=true):
  Calls Tryz.prog 136 #[.agg #[.int .i64 x,.int .i64 y,.int .i64 z]] w fun e w'=>e=.returned (.int .i64 (costT (x,y,z)))∧Below w.heap.size w w':=by
 have HG:Hid (Below w.heap.size w (w.alloc (.cells #[.int .i64 x,.int .i64 y,.int .i64 z] 105))):=bstart _ _
 by_cases hy:y=0
 ·subst hy
  clear wy wz
  have hd:=fun b w=>dearer_any 8 b w (by omega) (by omega)
  by_cases hx:x < 144
  ·have e:costT (x,0,z)=8:=by
    rw[cost_byte,if_pos hx]
   have d:decide (144≤x)=false:=decide_eq_false (by omega)
   rw[e]
   go_enter Tryz.func136,Tryz.ntmps136
   go_wp2_with fail
   refine (hd _ _).mono ?_
   rintro e w1 ⟨rfl,rfl⟩
   clear hd
   go_wp2_with fail
   go_ret
   exact⟨rfl,HG.out⟩
  ·have e:costT (x,0,z)=9:=by
    rw[cost_byte,if_neg hx]
   have d:decide (144≤x)=true:=decide_eq_true (by omega)
   rw[e]
   go_enter Tryz.func136,Tryz.ntmps136
   go_wp2_with fail
   refine (hd _ _).mono ?_
   rintro e w1 ⟨rfl,rfl⟩
   clear hd
   go_wp2_with fail
   go_ret
   exact⟨rfl,HG.out⟩
 ·have dy:(y == 0)=false:=by simp; omega
  have hl:=fun w=>lengthCode_answer y w wy
  have hd:=fun w=>distCode_answer z w wz
  have hdr:=fun b w=>dearer_any 7 b w (by omega) (by omega)
  have e:costT (x,y,z)=(if (LengthCodeOf y).1 < 280 then 7 else 8)+(LengthCodeOf y).2.1+5+(DistCodeOf z).2.1:=by
   unfold costT
   rw[if_neg hy]
  have r1:=code_range y
  have r2:=dcode_range z
  rw[e]
  clear e wy wz
  generalize (LengthCodeOf y).1=s at *
  generalize (LengthCodeOf y).2.1=b at *
  generalize (LengthCodeOf y).2.2=q at *
  generalize (DistCodeOf z).1=s2 at *
  generalize (DistCodeOf z).2.1=m at *
  generalize (DistCodeOf z).2.2=q2 at *
  obtain⟨⟨r3,r4⟩,r5,r6⟩:=r1
  obtain⟨r7,r8⟩:=r2
  by_cases h8:s < 280
  ·have d:decide (280≤s)=false:=decide_eq_false (by omega)
   rw[if_pos h8]
   go_enter Tryz.func136,Tryz.ntmps136
   go_wp2_with fail
   refine (hl _).mono ?_
   rintro e w1 ⟨rfl,hB1⟩
   have f2:w1.cell? ⟨w.heap.size,2,none⟩=some (.int .i64 z):=(hB1.cell (p:=⟨w.heap.size,2,none⟩) (by simp)).trans (by simp)
   have HB1:=hid_of (bnext HG.out hB1)
   clear hB1
   go_wp2_with fail
   refine (hd _).mono ?_
   rintro e w2 ⟨rfl,hB2⟩
   have HB2:=hid_of (bnext HB1.out hB2)
   clear hl hd hB2
   go_wp2_with fail
   refine (hdr _ _).mono ?_
   rintro e w3 ⟨rfl,rfl⟩
   clear hdr
   go_wp2_with fail
   go_ret
   exact⟨ret_i (by omega),HB2.out⟩
  ·have d:decide (280≤s)=true:=decide_eq_true (by omega)
   rw[if_neg h8]
   go_enter Tryz.func136,Tryz.ntmps136
   go_wp2_with fail
   refine (hl _).mono ?_
   rintro e w1 ⟨rfl,hB1⟩
   have f2:w1.cell? ⟨w.heap.size,2,none⟩=some (.int .i64 z):=(hB1.cell (p:=⟨w.heap.size,2,none⟩) (by simp)).trans (by simp)
   have HB1:=hid_of (bnext HG.out hB1)
   clear hB1
   go_wp2_with fail
   refine (hd _).mono ?_
   rintro e w2 ⟨rfl,hB2⟩
   have HB2:=hid_of (bnext HB1.out hB2)
   clear hl hd hB2
   go_wp2_with fail
   refine (hdr _ _).mono ?_
   rintro e w3 ⟨rfl,rfl⟩
   clear hdr
   go_wp2_with fail
   go_ret
   exact⟨ret_i (by omega),HB2.out⟩
end
section
open Go.RowKit Go.Joins TokMath
theorem make_toks (w:World) (n:Nat) (hn:n≤1048576):(Instr.makeSlice 72 (.int .i64 n) (.int .i64 n)).run Tryz.prog w=.ok (.slice (some ⟨w.heap.size,0,none⟩) n n) (w.alloc (.cells (madeCells #[.int .i64 0,.int .i64 0,.int .i64 0] (n * 3)) 105)):=by
 obtain⟨i0,hi0,hz0,hz1,hz2⟩:=info_parts info_tok
 have h:=run_make (P:=Tryz.prog) w 72 105 i0 (.agg #[.int .i64 0,.int .i64 0,.int .i64 0]) Tryz.underlying72 hi0 hz0 .i64 .i64 n n (by omega) (by omega) (by rw [hz2]; omega) (by omega)
 rw[hz1,Int.toNat_natCast] at h
 exact h
theorem made_tok (n j:Nat) (hj:j < n * 3):(madeCells #[Value.int .i64 0,.int .i64 0,.int .i64 0] (n * 3))[j]?=some (.int .i64 0):=by
 unfold madeCells
 rw[Array.getElem?_map,Array.getElem?_range,if_pos hj]
 show some ((#[Value.int .i64 0,.int .i64 0,.int .i64 0])[j % 3]!)=_
 have h:j % 3 < 3:=Nat.mod_lt _ (by omega)
 generalize j % 3=q at h
 match q,h with
 | 0,_=>rfl
 | 1,_=>rfl
 | 2,_=>rfl
theorem TOwn.made (w:World) (base n:Nat) (hb:base≤w.heap.size):TOwn (w.alloc (.cells (madeCells #[.int .i64 0,.int .i64 0,.int .i64 0] (n * 3)) 105)) base w.heap.size n (fun _=>(0,0,0)):=
 ⟨hb,_,heap_alloc_new w _,by rw [size_madeCells]; exact Nat.le_refl _,fun j hj=>⟨made_tok n _ (by omega),made_tok n _ (by omega),made_tok n _ (by omega)⟩⟩
end
end Go.Proofs.YtklpiihnbokkkaaGreatDoor
