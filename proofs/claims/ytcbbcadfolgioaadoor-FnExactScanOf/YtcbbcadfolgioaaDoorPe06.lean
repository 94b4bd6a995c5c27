/-
  Texts of the proof, put together.
-/
import Derived.Test.YtcbbcadfolgioaaDoorPe05
namespace Go.Proofs.YtcbbcadfolgioaaDoor
section
open Go.RowKit Go.Joins RastMath PassMath
abbrev stepT (p:Int):Value:=.tuple #[.int .i64 (stepV px p),.int .i64 (stepV py p),.int .i64 (stepV pdx p),.int .i64 (stepV pdy p)]
set_option maxHeartbeats 1600000 in
theorem specPassStep (p:Int) (w:World):Calls Tryd.prog 60 #[.int .i64 p] w fun e w'=>e=.returned (stepT p)∧w'=w:=by
 by_cases h:PassR p
 ·obtain rfl | rfl | rfl | rfl | rfl | rfl | rfl:p=0∨p=1∨p=2∨p=3∨p=4∨p=5∨p=6:=by unfold PassR at h; omega
  all_goals
   clear h
   go_enter Tryd.func60,Tryd.ntmps60
   go_wp2_with fail
   refine bodyPost_ret (v:=stepT _) ?_ rfl ⟨rfl,rfl⟩
   simp[results,Tryd.results60,go_sem,stepT,stepV,PassR,px,py,pdx,pdy]
 ·have e:stepT p=.tuple #[.int .i64 0,.int .i64 0,.int .i64 0,.int .i64 0]:=by unfold stepT stepV; simp only [if_neg h]
  rw[e]
  clear e
  unfold PassR at h
  have b0:(p == 0)=false:=by simp; omega
  have b1:(p == 1)=false:=by simp; omega
  have b2:(p == 2)=false:=by simp; omega
  have b3:(p == 3)=false:=by simp; omega
  have b4:(p == 4)=false:=by simp; omega
  have b5:(p == 5)=false:=by simp; omega
  have b6:(p == 6)=false:=by simp; omega
  clear h
  go_enter Tryd.func60,Tryd.ntmps60
  go_wp2_with fail
  refine bodyPost_ret (v:=.tuple #[.int .i64 0,.int .i64 0,.int .i64 0,.int .i64 0]) ?_ rfl ⟨rfl,rfl⟩
  simp[results,Tryd.results60,go_sem]
theorem specCount (size frm step:Nat) (w:World) (hs:1≤step) (h1:size≤100) (h3:step≤100):Calls Tryd.prog 91 #[.int .i64 (size:Int),.int .i64 (frm:Int),.int .i64 (step:Int)] w fun e w'=>e=.returned (.int .i64 (cntP size frm step:Int))∧w'=w:=by
 have HC:Hid (∀ i,i < cntP size frm step↔frm+i * step < size):=fun i=>cntP_lt hs i
 have hc:cntP size frm step≤size:=cntP_le
 go_enter Tryd.func91,Tryd.ntmps91
 go_wp2_with fail
 go_loop [7,8] (fun n x=>∃ j y:Nat,j≤cntP size frm step∧Hid (y=frm+j * step)∧n=.int .i64 (j:Int)∧x=.int .i64 (y:Int)) (fun n _=>cntP size frm step - (intOf n).toNat)
 case atStart=>exact⟨0,frm,Nat.zero_le _,(by show frm=frm+0 * step; omega),rfl,rfl⟩
 case round=>
  obtain⟨j,y,hj,hy,rfl,rfl⟩:=hrel
  by_cases hlt:j < cntP size frm step
  ·have hys:y < size:=by rw [hy.out]; exact (HC.out j).mp hlt
   have d:decide ((y:Int) < (size:Int))=true:=decide_eq_true (by omega)
   go_wp2_with fail
   go_round
   case rel=>exact⟨j+1,y+step,by omega,(by show y+step=_; rw [hy.out,Nat.add_mul,Nat.one_mul]; omega),by go_num,by go_num⟩
   case measure=>simp [intOf]; omega
  ·obtain rfl:j=cntP size frm step:=by omega
   have hys:¬ y < size:=by rw [hy.out]; exact fun h=>absurd ((HC.out _).mpr h) (Nat.lt_irrefl _)
   have d:decide ((y:Int) < (size:Int))=false:=decide_eq_false (by omega)
   go_wp2_with fail
   go_ret
   exact⟨rfl,rfl⟩
theorem stepV_nat {p:Nat} (f:Nat→Nat) (h:p < 7):stepV f (p:Int)=(f p:Int):=by
 unfold stepV
 rw[if_pos (show PassR (p:Int) from ⟨by omega,by omega⟩)]
 rfl
set_option maxHeartbeats 1600000 in
theorem specPassSize_in (W H p:Nat) (w:World) (hW:1≤W∧W≤24) (hH:1≤H∧H≤24) (hp:p < 7):Calls Tryd.prog 59 #[.int .i64 (W:Int),.int .i64 (H:Int),.int .i64 (p:Int)] w fun e w'=>e=.returned (.tuple #[.int .i64 (pw W H p:Int),.int .i64 (ph W H p:Int)])∧w'=w:=by
 have s0:=fun V=>specSide (W:Int) V
 have s1:=fun V=>specSide (H:Int) V
 rw[decide_eq_true (show SideR (W:Int) from ⟨by omega,by omega⟩)] at s0
 rw[decide_eq_true (show SideR (H:Int) from ⟨by omega,by omega⟩)] at s1
 have s2:=fun V=>in_yes (p:Int) 0 6 V (by omega) (by omega)
 have s3:=fun V=>specPassStep (p:Int) V
 unfold stepT at s3
 rw[stepV_nat px hp,stepV_nat py hp,stepV_nat pdx hp,stepV_nat pdy hp] at s3
 have a1:=pdx_pos hp
 have a2:=pdy_pos hp
 have s4:=fun V=>specCount W (px p) (pdx p) V a1.1 (by omega) (by omega)
 have s5:=fun V=>specCount H (py p) (pdy p) V a2.1 (by omega) (by omega)
 have HW:Hid (pw W H p=if cntP W (px p) (pdx p)=0∨cntP H (py p) (pdy p)=0 then 0 else cntP W (px p) (pdx p)):=rfl
 have HH:Hid (ph W H p=if cntP W (px p) (pdx p)=0∨cntP H (py p) (pdy p)=0 then 0 else cntP H (py p) (pdy p)):=rfl
 have c1:cntP W (px p) (pdx p)≤W:=cntP_le
 have c2:cntP H (py p) (pdy p)≤H:=cntP_le
 generalize cntP W (px p) (pdx p)=A at *
 generalize cntP H (py p) (pdy p)=B at *
 generalize pw W H p=PW at *
 generalize ph W H p=PH at *
 by_cases hz:A=0∨B=0
 ·have e1:=HW.out
  have e2:=HH.out
  rw[if_pos hz] at e1 e2
  subst e1 e2
  rcases Nat.eq_zero_or_pos A with hA | hA
  ·subst hA
   clear hz HW HH
   go_enter Tryd.func59,Tryd.ntmps59
   go_wp2_with fail
   refine (s0 _).mono ?_
   rintro e w1 ⟨rfl,rfl⟩
   go_wp2_with fail
   refine (s1 _).mono ?_
   rintro e w1 ⟨rfl,rfl⟩
   go_wp2_with fail
   refine (s2 _).mono ?_
   rintro e w1 ⟨rfl,rfl⟩
   go_wp2_with fail
   refine (s3 _).mono ?_
   rintro e w1 ⟨rfl,rfl⟩
   go_wp2_with fail
   refine (s4 _).mono ?_
   rintro e w1 ⟨rfl,rfl⟩
   go_wp2_with fail
   refine (s5 _).mono ?_
   rintro e w1 ⟨rfl,rfl⟩
   go_wp2_with fail
   refine bodyPost_ret (v:=.tuple #[.int .i64 _,.int .i64 _]) ?_ rfl ⟨rfl,rfl⟩
   simp[results,Tryd.results59,go_sem]
  ·obtain rfl:B=0:=by omega
   have bz:((A:Int) == 0)=false:=by simp; omega
   clear hz HW HH
   go_enter Tryd.func59,Tryd.ntmps59
   go_wp2_with fail
   refine (s0 _).mono ?_
   rintro e w1 ⟨rfl,rfl⟩
   go_wp2_with fail
   refine (s1 _).mono ?_
   rintro e w1 ⟨rfl,rfl⟩
   go_wp2_with fail
   refine (s2 _).mono ?_
   rintro e w1 ⟨rfl,rfl⟩
   go_wp2_with fail
   refine (s3 _).mono ?_
   rintro e w1 ⟨rfl,rfl⟩
   go_wp2_with fail
   refine (s4 _).mono ?_
   rintro e w1 ⟨rfl,rfl⟩
   go_wp2_with fail
   refine (s5 _).mono ?_
   rintro e w1 ⟨rfl,rfl⟩
   go_wp2_with fail
   refine bodyPost_ret (v:=.tuple #[.int .i64 _,.int .i64 _]) ?_ rfl ⟨rfl,rfl⟩
   simp[results,Tryd.results59,go_sem]
 ·have e1:=HW.out
  have e2:=HH.out
  rw[if_neg hz] at e1 e2
  subst e1 e2
  have bz:((PW:Int) == 0)=false:=by simp; omega
  have bz2:((PH:Int) == 0)=false:=by simp; omega
  clear hz HW HH
  go_enter Tryd.func59,Tryd.ntmps59
  go_wp2_with fail
  refine (s0 _).mono ?_
  rintro e w1 ⟨rfl,rfl⟩
  go_wp2_with fail
  refine (s1 _).mono ?_
  rintro e w1 ⟨rfl,rfl⟩
  go_wp2_with fail
  refine (s2 _).mono ?_
  rintro e w1 ⟨rfl,rfl⟩
  go_wp2_with fail
  refine (s3 _).mono ?_
  rintro e w1 ⟨rfl,rfl⟩
  go_wp2_with fail
  refine (s4 _).mono ?_
  rintro e w1 ⟨rfl,rfl⟩
  go_wp2_with fail
  refine (s5 _).mono ?_
  rintro e w1 ⟨rfl,rfl⟩
  go_wp2_with fail
  refine bodyPost_ret (v:=.tuple #[.int .i64 _,.int .i64 _]) ?_ rfl ⟨rfl,rfl⟩
  simp[results,Tryd.results59,go_sem]
end
section
theorem if_wanted {c A E:Prop} [Decidable c] (hc:c) (h:A):if c then A else E:=by rw [if_pos hc]; exact h
theorem wanted_none {o:Oper} {y:Nat→Option Bool} (h:o.guard=none):Region.wanted o y=true:=by simp [Region.wanted,h]
end
end Go.Proofs.YtcbbcadfolgioaaDoor
