/-
  Texts of the proof, put together.
-/
import Derived.Test.YtklpiihnbokkkaaGreatDoorZk13
namespace Go.Proofs.YtklpiihnbokkkaaGreatDoor
section
open Go.RowKit Go.Joins TokMath
def pieceV (t:Tok):Value:=if TokRight t then (if t.2.1=0 then .iface 234 (.int .u8 t.1) else .iface 237 (.agg #[.int .i64 t.2.1,.int .i64 t.2.2])) else .nilIface
theorem piece_byte {x:Int} (h0:0≤x) (h1:x≤255):pieceV (x,0,0)=.iface 234 (.int .u8 x):=by
 unfold pieceV
 rw[if_pos (show TokRight (x,0,0) from ⟨⟨h0,h1⟩,rfl⟩),if_pos rfl]
theorem piece_repeat {y z:Int} (hy:3≤y∧y≤258) (hz:1≤z∧z≤32768):pieceV (0,y,z)=.iface 237 (.agg #[.int .i64 y,.int .i64 z]):=by
 have hn:¬ y=0:=by omega
 unfold pieceV
 rw[if_pos (show TokRight (0,y,z) by unfold TokRight; rw [if_neg hn]; exact⟨rfl,hy,hz⟩),if_neg hn]
theorem piece_none {t:Tok} (h:¬ TokRight t):pieceV t=.nilIface:=by
 unfold pieceV
 rw[if_neg h]
set_option maxHeartbeats 1600000 in
theorem pieceOf_any (x y z:Int) (w:World):
  Calls Tryz.prog 163 #[.agg #[.int .i64 x,.int .i64 y,.int .i64 z]] w fun e w'=>e=.returned (pieceV (x,y,z))∧Below w.heap.size w w':=by
 have HB:=hid_of (bstart w (.cells #[.int .i64 x,.int .i64 y,.int .i64 z] 105))
 by_cases hy:y=0
 ·subst hy
  by_cases hz:z=0
  ·subst hz
   by_cases hx:0≤x∧x≤255
   ·have d0:decide ((0:Int)≤x)=true:=decide_eq_true hx.1
    have d1:decide (x≤255)=true:=decide_eq_true hx.2
    have hx0:=hx.1
    have hx1:=hx.2
    rw[piece_byte hx.1 hx.2]
    clear hx
    go_enter Tryz.func163,Tryz.ntmps163
    go_wp2_with fail
    go_ret
    exact⟨rfl,HB.out⟩
   ·have hn:¬ TokRight (x,0,0):=fun h=>hx h.1
    have d2:(x == 0)=false:=by
     simp
     omega
    rw[piece_none hn]
    by_cases hx0:0≤x
    ·have d0:decide ((0:Int)≤x)=true:=decide_eq_true hx0
     have d1:decide (x≤255)=false:=decide_eq_false (by omega)
     go_enter Tryz.func163,Tryz.ntmps163
     go_wp2_with fail
     go_ret
     exact⟨rfl,HB.out⟩
    ·have d0:decide ((0:Int)≤x)=false:=decide_eq_false hx0
     go_enter Tryz.func163,Tryz.ntmps163
     go_wp2_with fail
     go_ret
     exact⟨rfl,HB.out⟩
  ·have hn:¬ TokRight (x,0,z):=fun h=>hz h.2
   have dz:(z == 0)=false:=by
    simp
    omega
   rw[piece_none hn]
   by_cases hx:x=0
   ·subst hx
    have dn:=fun w=>isLength_no 0 w (by omega)
    go_enter Tryz.func163,Tryz.ntmps163
    go_wp2_with fail
    refine (dn _).mono ?_
    rintro e w1 ⟨rfl,rfl⟩
    go_wp2_with fail
    go_ret
    exact⟨rfl,HB.out⟩
   ·have dx:(x == 0)=false:=by
     simp
     omega
    go_enter Tryz.func163,Tryz.ntmps163
    go_wp2_with fail
    go_ret
    exact⟨rfl,HB.out⟩
 ·have dy:(y == 0)=false:=by
   simp
   omega
  by_cases hx:x=0
  ·subst hx
   by_cases h1:3≤y∧y≤258
   ·have dl:=fun w=>isLength_yes y w h1
    by_cases h2:1≤z∧z≤32768
    ·have dd:=fun w=>isDist_yes z w h2
     rw[piece_repeat h1 h2]
     go_enter Tryz.func163,Tryz.ntmps163
     go_wp2_with fail
     refine (dl _).mono ?_
     rintro e w1 ⟨rfl,rfl⟩
     go_wp2_with fail
     refine (dd _).mono ?_
     rintro e w2 ⟨rfl,rfl⟩
     go_wp2_with fail
     go_ret
     exact⟨rfl,HB.out⟩
    ·have dd:=fun w=>isDist_no z w h2
     have hn:¬ TokRight (0,y,z):=fun h=>by
      unfold TokRight at h
      rw[if_neg hy] at h
      exact h2 h.2.2
     rw[piece_none hn]
     go_enter Tryz.func163,Tryz.ntmps163
     go_wp2_with fail
     refine (dl _).mono ?_
     rintro e w1 ⟨rfl,rfl⟩
     go_wp2_with fail
     refine (dd _).mono ?_
     rintro e w2 ⟨rfl,rfl⟩
     go_wp2_with fail
     go_ret
     exact⟨rfl,HB.out⟩
   ·have dl:=fun w=>isLength_no y w h1
    have hn:¬ TokRight (0,y,z):=fun h=>by
     unfold TokRight at h
     rw[if_neg hy] at h
     exact h1 h.2.1
    rw[piece_none hn]
    go_enter Tryz.func163,Tryz.ntmps163
    go_wp2_with fail
    refine (dl _).mono ?_
    rintro e w1 ⟨rfl,rfl⟩
    go_wp2_with fail
    go_ret
    exact⟨rfl,HB.out⟩
  ·have dx:(x == 0)=false:=by
    simp
    omega
   have hn:¬ TokRight (x,y,z):=fun h=>by
    unfold TokRight at h
    rw[if_neg hy] at h
    exact hx h.1
   rw[piece_none hn]
   go_enter Tryz.func163,Tryz.ntmps163
   go_wp2_with fail
   go_ret
   exact⟨rfl,HB.out⟩
end
section
open Go.RowKit Go.Joins
theorem as_literal (v:Value) (w:World):(Instr.typeAssert (.iface 234 v) 232 234 true).run Tryz.prog w=.ok (.tuple #[v,.bool true]) w:=by
 simp[Instr.typeAssert,run_underlying Tryz.underlying234]
theorem no_literal (v:Value) (w:World):(Instr.typeAssert (.iface 237 v) 232 234 true).run Tryz.prog w=.ok (.tuple #[.int .u8 0,.bool false]) w:=by
 simp[Instr.typeAssert,run_underlying Tryz.underlying234]
theorem as_repeat (v:Value) (w:World):(Instr.typeAssert (.iface 237 v) 232 237 true).run Tryz.prog w=.ok (.tuple #[v,.bool true]) w:=by
 simp[Instr.typeAssert,run_underlying Tryz.underlying237]
theorem nil_literal (w:World):(Instr.typeAssert .nilIface 232 234 true).run Tryz.prog w=.ok (.tuple #[.int .u8 0,.bool false]) w:=by
 simp[Instr.typeAssert,run_underlying Tryz.underlying234]
theorem nil_repeat (w:World):(Instr.typeAssert .nilIface 232 237 true).run Tryz.prog w=.ok (.tuple #[.agg #[.int .i64 0,.int .i64 0],.bool false]) w:=by
 simp[Instr.typeAssert,run_underlying Tryz.underlying237]
end
section
open Go.RowKit Go.Joins TokMath StepMath TellMath
theorem wf_small (x:Int) (h0:-9223372036854775808≤x) (h1:x≤9223372036854775807):(Lit.int .i64 x).wf=true:=by
 show (decide (IntKind.i64.min≤x) && decide (x≤IntKind.i64.max))=true
 rw[show IntKind.i64.min=-9223372036854775808 from rfl,show IntKind.i64.max=9223372036854775807 from rfl,decide_eq_true h0,decide_eq_true h1]
 rfl
def codV (s:Cod):Value:=.agg #[.int .i64 s.1,.int .i64 s.2.1,.int .i64 s.2.2]
set_option maxHeartbeats 400000 in
theorem newCoded_any (x y z:Int) (w:World):
  Calls Tryz.prog 164 #[.int .i64 x,.int .i64 y,.int .i64 z] w fun e w'=>e=.returned (codV (x,y,z))∧Below w.heap.size w w':=by
 go_enter Tryz.func164,Tryz.ntmps164
 go_wp2_with fail
 refine bodyPost_ret (v:=codV (x,y,z)) ?_ rfl ⟨rfl,?_⟩
 ·simp[results,Tryz.results164,go_sem,codV]
 ·exact bstart _ _
structure Stays (w0:World) (I:World→List (Bool×Cod)→Prop) (T:World→Nat→Prop):Prop where
 called:∀ {w w' S},I w S→Below w.heap.size w w'→I w' S∧∀ g,T w' g→T w g
 lt:∀ {w S g},I w S→T w g→g < w.heap.size
 below:∀ {w S},I w S→Below w0.heap.size w0 w
end
section
namespace CodeMath
open OutMath
def cs (f:Nat→Int) (k:Nat):Nat→Int:=fun s=>if s=0 then 0 else cntS f s k
theorem cs_start (f:Nat→Int) (s:Nat):cs f 0 s=0:=by unfold cs; split <;> rfl
theorem cs_step (f:Nat→Int) (k:Nat) (h:0≤f k) (s:Nat):cs f (k+1) s=cs f k s+(if 0 < f k∧s=(f k).toNat then 1 else 0):=by
 unfold cs
 by_cases h0:s=0
 ·subst h0
  rw[if_pos rfl,if_pos rfl,if_neg (by omega)]
  omega
 ·rw[if_neg h0,if_neg h0]
  show cntS f s k+(if f k=s then 1 else 0)=_
  by_cases h1:f k=s
  ·rw[if_pos h1,if_pos (by omega)]
  ·rw[if_neg h1,if_neg (by omega)]
theorem cs_bd (f:Nat→Int) (k s:Nat):0≤cs f k s∧cs f k s≤k:=by
 unfold cs
 split
 ·omega
 ·exact cntS_bd f s k
def fullS (g:Nat→Int):Nat→Int
 | 0=>0
 | k+1=>fullS g k+g k * p2 (15 - k)
theorem fullS_step (f:Nat→Int) (n:Nat) (h:0≤f n):∀ k,k≤16→fullS (cs f (n+1)) k=fullS (cs f n) k+(if 0 < f n∧f n < k then p2 (15 - f n).toNat else 0)
 | 0,_=>by
  rw[if_neg (by omega)]
  rfl
 | k+1,hk=>by
  have ih:=fullS_step f n h k (by omega)
  show fullS (cs f (n+1)) k+cs f (n+1) k * p2 (15 - k)=fullS (cs f n) k+cs f n k * p2 (15 - k)+_
  rw[ih,cs_step f n h k,Int.add_mul]
  by_cases h1:0 < f n
  ·by_cases h2:k=(f n).toNat
   ·rw[if_neg (by omega),if_pos ⟨h1,h2⟩,if_pos (by omega),show (15 - f n).toNat=15 - k by omega]
    omega
   ·rw[if_neg (show ¬ (0 < f n∧k=(f n).toNat) by omega)]
    by_cases h3:f n < k
    ·rw[if_pos (by omega),if_pos (by omega)]
     omega
    ·rw[if_neg (by omega),if_neg (by omega)]
     omega
  ·rw[if_neg (by omega),if_neg (by omega),if_neg (by omega)]
   omega
theorem fullS_zero:∀ k,fullS (fun _=>0) k=0
 | 0=>rfl
 | k+1=>by
  show fullS (fun _=>0) k+0 * p2 (15 - k)=0
  rw[fullS_zero k,Int.zero_mul]
  rfl
theorem fullS_congr {g g':Nat→Int} (h:∀ s,g s=g' s):∀ k,fullS g k=fullS g' k
 | 0=>rfl
 | k+1=>by
  show fullS g k+g k * p2 (15 - k)=fullS g' k+g' k * p2 (15 - k)
  rw[fullS_congr h k,h k]
theorem full_room (f:Nat→Int):∀ n,OkLens f n→fullS (cs f n) 16=room f n
 | 0,_=>by rw [fullS_congr (cs_start f),fullS_zero]; rfl
 | n+1,h=>by
  have hn:=h n (by omega)
  rw[fullS_step f n hn.1 16 (by omega),full_room f n (fun i hi=>h i (by omega))]
  show _=room f n+(if 0 < f n then p2 (15 - f n).toNat else 0)
  by_cases h1:0 < f n
  ·rw[if_pos (by omega),if_pos h1]
  ·rw[if_neg (by omega),if_neg h1]
theorem fullS_bd (g:Nat→Int) (hg:∀ s,0≤g s∧g s≤288):∀ k,0≤fullS g k∧fullS g k≤9437184 * k
 | 0=>by simp [fullS]
 | k+1=>by
  have ih:=fullS_bd g hg k
  have h:=hg k
  have hp:=p2_pos (15 - k)
  have hq:=p2_le (show 15 - k≤15 by omega)
  have e:p2 15=32768:=by decide +kernel
  have a:0≤g k * p2 (15 - k):=Int.mul_nonneg h.1 (by omega)
  have b:g k * p2 (15 - k)≤288 * p2 (15 - k):=Int.mul_le_mul_of_nonneg_right h.2 (by omega)
  show 0≤fullS g k+g k * p2 (15 - k)∧fullS g k+g k * p2 (15 - k)≤_
  omega
theorem shl_part (g:Nat→Int) (hg:∀ s,0≤g s∧g s≤288) (k:Nat):0≤g k * p2 (15 - k)∧g k * p2 (15 - k)≤9437184:=by
 have h:=hg k
 have hp:=p2_pos (15 - k)
 have hq:=p2_le (show 15 - k≤15 by omega)
 have e:p2 15=32768:=by decide +kernel
 have a:0≤g k * p2 (15 - k):=Int.mul_nonneg h.1 (by omega)
 have b:g k * p2 (15 - k)≤288 * p2 (15 - k):=Int.mul_le_mul_of_nonneg_right h.2 (by omega)
 omega
theorem cnt_step (f:Nat→Int) (k:Nat):cnt f (k+1)=cnt f k+(if 0 < f k then 1 else 0):=rfl
def sumS (g:Nat→Int):Nat→Int
 | 0=>0
 | k+1=>sumS g k+g k
theorem sumS_step (f:Nat→Int) (n:Nat) (h:0≤f n):∀ k,k≤16→sumS (cs f (n+1)) k=sumS (cs f n) k+(if 0 < f n∧f n < k then 1 else 0)
 | 0,_=>by rw [if_neg (by omega)]; rfl
 | k+1,hk=>by
  have ih:=sumS_step f n h k (by omega)
  show sumS (cs f (n+1)) k+cs f (n+1) k=sumS (cs f n) k+cs f n k+_
  rw[ih,cs_step f n h k]
  by_cases h1:0 < f n
  ·by_cases h2:k=(f n).toNat
   ·rw[if_neg (by omega),if_pos ⟨h1,h2⟩,if_pos (by omega)]
    omega
   ·rw[if_neg (show ¬ (0 < f n∧k=(f n).toNat) by omega)]
    by_cases h3:f n < k
    ·rw[if_pos (by omega),if_pos (by omega)]
     omega
    ·rw[if_neg (by omega),if_neg (by omega)]
     omega
  ·rw[if_neg (by omega),if_neg (by omega),if_neg (by omega)]
   omega
theorem sum_cnt (f:Nat→Int):∀ n,OkLens f n→sumS (cs f n) 16=cnt f n
 | 0,_=>by
  have:∀ k,sumS (cs f 0) k=0:=by
   intro k
   induction k with
   | zero=>rfl
   | succ k ih=>show sumS (cs f 0) k+cs f 0 k=0; rw [ih,cs_start]; rfl
  rw[this]
  rfl
 | n+1,h=>by
  have hn:=h n (by omega)
  rw[sumS_step f n hn.1 16 (by omega),sum_cnt f n (fun i hi=>h i (by omega)),cnt_step]
  by_cases h1:0 < f n
  ·rw[if_pos (by omega),if_pos h1]
  ·rw[if_neg (by omega),if_neg h1]
def one1:Nat→Int:=fun s=>if s=1 then 1 else 0
theorem cs_none {f:Nat→Int} {n:Nat} (h:OkLens f n):cnt f n=0↔∀ s,s < 16→cs f n s=0:=by
 rw[← sum_cnt f n h]
 have b:=fun s=>(cs_bd f n s).1
 generalize cs f n=g at b
 constructor
 ·intro e
  have key:∀ k,k≤16→sumS g k≤sumS g 16∧0≤sumS g k:=by
   have mono:∀ d k,sumS g k≤sumS g (k+d):=by
    intro d k
    induction d with
    | zero=>exact Int.le_refl _
    | succ d ih=>show _≤sumS g (k+d)+g (k+d); have:=b (k+d); omega
   intro k hk
   have m:=mono (16 - k) k
   have z:=mono k 0
   rw[show k+(16 - k)=16 by omega] at m
   rw[Nat.zero_add] at z
   exact⟨m,z⟩
  intro s hs
  have k1:=key s (by omega)
  have k2:=key (s+1) (by omega)
  have e2:sumS g (s+1)=sumS g s+g s:=rfl
  have:=b s
  omega
 ·intro e
  have key:∀ k,k≤16→sumS g k=0:=by
   intro k
   induction k with
   | zero=>intro _; rfl
   | succ k ih=>intro hk; show sumS g k+g k=0; rw [ih (by omega),e k (by omega)]; rfl
  exact key 16 (by omega)
theorem cs_single {f:Nat→Int} {n:Nat} (h:OkLens f n):(cnt f n=1∧room f n=16384)↔∀ s,s < 16→cs f n s=one1 s:=by
 rw[← sum_cnt f n h,← full_room f n h]
 have b:=fun s=>(cs_bd f n s).1
 have z:cs f n 0=0:=rfl
 generalize cs f n=g at b z
 have e1:sumS g 16=g 0+g 1+g 2+g 3+g 4+g 5+g 6+g 7+g 8+g 9+g 10+g 11+g 12+g 13+g 14+g 15:=by
  simp only [sumS]; omega
 have e2:fullS g 16=g 0 * 32768+g 1 * 16384+g 2 * 8192+g 3 * 4096+g 4 * 2048+g 5 * 1024+g 6 * 512+g 7 * 256+g 8 * 128+g 9 * 64+g 10 * 32+g 11 * 16+g 12 * 8+g 13 * 4+g 14 * 2+g 15:=by
  simp only [fullS,p2]; omega
 rw[e1,e2]
 have b1:=b 1
 have b2:=b 2
 have b3:=b 3
 have b4:=b 4
 have b5:=b 5
 have b6:=b 6
 have b7:=b 7
 have b8:=b 8
 have b9:=b 9
 have b10:=b 10
 have b11:=b 11
 have b12:=b 12
 have b13:=b 13
 have b14:=b 14
 have b15:=b 15
 constructor
 ·rintro⟨p,q⟩ s hs
  have r:8192 * (g 2+g 3+g 4+g 5+g 6+g 7+g 8+g 9+g 10+g 11+g 12+g 13+g 14+g 15)≤0:=by omega
  have hz:∀ t,t < 16→t≠1→g t=0:=by
   intro t ht h1
   rcases (show t=0∨t=2∨t=3∨t=4∨t=5∨t=6∨t=7∨t=8∨t=9∨t=10∨t=11∨t=12∨t=13∨t=14∨t=15 by omega) with rfl | rfl | rfl | rfl | rfl | rfl | rfl | rfl | rfl | rfl | rfl | rfl | rfl | rfl | rfl <;> omega
  unfold one1
  by_cases h1:s=1
  ·subst h1
   rw[if_pos rfl]
   omega
  ·rw[if_neg h1,hz s hs h1]
 ·intro e
  have c:=fun s (hs:s < 16)=>e s hs
  rw[c 0 (by omega),c 1 (by omega),c 2 (by omega),c 3 (by omega),c 4 (by omega),c 5 (by omega),c 6 (by omega),c 7 (by omega),c 8 (by omega),c 9 (by omega),c 10 (by omega),c 11 (by omega),c 12 (by omega),c 13 (by omega),c 14 (by omega),c 15 (by omega)]
  decide +kernel
end CodeMath
end
section
namespace CodeMath
open OutMath
def first (g:Nat→Int):Nat→Int
 | 0=>0
 | 1=>0
 | s+2=>2 * (first g (s+1)+g (s+1))
theorem first_nx (f:Nat→Int) (n:Nat):∀ s,1≤s→first (cs f n) s=2 * nx f n (s - 1)
 | 0,h=>by omega
 | 1,_=>rfl
 | s+2,_=>by
  show 2 * (first (cs f n) (s+1)+cs f n (s+1))=2 * nx f n (s+1)
  rw[first_nx f n (s+1) (by omega)]
  show 2 * (2 * nx f n s+cs f n (s+1))=2 * (2 * nx f n s+cntS f ((s+1:Nat):Int) n)
  unfold cs
  rw[if_neg (by omega)]
theorem first_step (g:Nat→Int) (t:Nat) (h:2≤t):first g t=2 * (first g (t - 1)+g (t - 1)):=by
 obtain⟨s,rfl⟩:∃ s,t=s+2:=⟨t - 2,by omega⟩
 rfl
theorem first_bd (g:Nat→Int) (hg:∀ s,0≤g s∧g s≤288):∀ s,0≤first g s∧first g s+576≤576 * p2 s
 | 0=>by rw [p2_zero]; exact⟨Int.le_refl _,by show (0:Int)+576≤_; omega⟩
 | 1=>by
  have e:p2 1=2:=by decide +kernel
  rw[e]
  exact⟨Int.le_refl _,by show (0:Int)+576≤_; omega⟩
 | s+2=>by
  have ih:=first_bd g hg (s+1)
  have h:=hg (s+1)
  show 0≤2 * (first g (s+1)+g (s+1))∧2 * (first g (s+1)+g (s+1))+576≤_
  rw[p2_succ]
  omega
theorem first_lt (g:Nat→Int) (hg:∀ s,0≤g s∧g s≤288) (s:Nat) (hs:s≤15):0≤first g s∧first g s≤18874368:=by
 have h:=first_bd g hg s
 have h2:=p2_le hs
 have e:p2 15=32768:=by decide +kernel
 omega
def firstTo (g:Nat→Int) (t:Nat):Nat→Int:=fun s=>if s < t then first g s else 0
theorem firstTo_start (g:Nat→Int) (s:Nat):firstTo g 2 s=0:=by
 unfold firstTo
 split
 ·rename_i h
  rcases (show s=0∨s=1 by omega) with rfl | rfl <;> rfl
 ·rfl
def nextAt (f:Nat→Int) (n i:Nat):Nat→Int:=fun s=>if s=0 then 0 else 2 * nx f n (s - 1)+cntS f s i
theorem nextAt_start (f:Nat→Int) (n s:Nat):first (cs f n) s=nextAt f n 0 s:=by
 unfold nextAt
 by_cases h:s=0
 ·subst h; rfl
 ·rw[if_neg h,first_nx f n s (by omega)]
  show _=_+0
  omega
theorem nextAt_bd (f:Nat→Int) (n:Nat) (hn:n≤288) (i:Nat) (hi:i≤n) (s:Nat) (hs:s≤15):0≤nextAt f n i s∧nextAt f n i s≤20000000:=by
 unfold nextAt
 split
 ·omega
 ·have h:=nx_lt f n hn (s - 1) (by omega)
  have c:=cntS_bd f s i
  omega
theorem nextAt_code (f:Nat→Int) (n i s:Nat) (hs:1≤s) (e:f i=(s:Int)):nextAt f n i s=codeOf f n i:=by
 unfold nextAt codeOf
 rw[if_neg (by omega),if_neg (by omega),e,Int.toNat_natCast]
def wrote (f:Nat→Int) (n i:Nat):Nat→Int:=fun j=>if j < i then codeOf f n j else 0
end CodeMath
end
section
open Go.RowKit Go.Joins
abbrev six (g:Nat→Int):Array Value:=#[.int .i64 (g 0),.int .i64 (g 1),.int .i64 (g 2),.int .i64 (g 3),.int .i64 (g 4),.int .i64 (g 5),.int .i64 (g 6),.int .i64 (g 7),.int .i64 (g 8),.int .i64 (g 9),.int .i64 (g 10),.int .i64 (g 11),.int .i64 (g 12),.int .i64 (g 13),.int .i64 (g 14),.int .i64 (g 15)]
def Six (w:World) (b:Nat) (t:TypeId) (g:Nat→Int):Prop:=w.heap[b]?=some (.cells (fints g 16).toArray t (0,0))
theorem Six.c {w:World} {b:Nat} {t:TypeId} {g:Nat→Int} (h:Six w b t g) (i:Nat) (hi:i < 16):w.cell? ⟨b,i,none⟩=some (.int .i64 (g i)):=by
 have k:=cell_of_block h i
 rw[k,List.getElem?_toArray,List.getElem?_eq_getElem (by rw [fints_length]; exact hi),fints_get]
theorem Six.f {w:World} {b:Nat} {t:TypeId} {g:Nat→Int} (h:Six w b t g) (i:Nat):w.frozen? ⟨b,i,none⟩=false:=unfrozen_of_block h i
theorem Six.lt {w:World} {b:Nat} {t:TypeId} {g:Nat→Int} (h:Six w b t g):b < w.heap.size:=block_lt h
theorem Six.set {w:World} {b:Nat} {t:TypeId} {g:Nat→Int} (h:Six w b t g) (i:Nat) (x:Int):Six (w.setCell ⟨b,i,none⟩ (.int .i64 x)) b t (upd g i x):=by
 have k:=block_setCell (i:=i) h (.int .i64 x)
 unfold Six
 rw[k,← fints_set]
 simp
theorem Six.congr {w:World} {b:Nat} {t:TypeId} {g g':Nat→Int} (h:Six w b t g) (e:∀ i,i < 16→g i=g' i):Six w b t g':=by
 unfold Six at h ⊢
 rw[← fints_congr e]
 exact h
end
section
open Go.RowKit Go.Joins
theorem info_made:(Tryz.prog.info? 3).map (fun i=>(i.zero,i.size,i.bytes))=some (some (.int .i64 0),1,8):=by kernel_rfl
theorem make_ints (w:World) (n:Nat) (hn:n≤1048576):(Instr.makeSlice 25 (.int .i64 n) (.int .i64 n)).run Tryz.prog w=.ok (.slice (some ⟨w.heap.size,0,none⟩) n n) (w.alloc (.cells (madeCells #[Value.int .i64 0] n) 3)):=by
 obtain⟨i0,hi0,hz0,hz1,hz2⟩:=info_parts info_made
 have h:=run_make (P:=Tryz.prog) w 25 3 i0 (.int .i64 0) Tryz.underlying25 hi0 hz0 .i64 .i64 n n (by omega) (by omega) (by rw [hz2]; omega) (by omega)
 rw[hz1,Int.toNat_natCast,Nat.mul_one] at h
 exact h
end
section
open Go.RowKit Go.Joins OutMath CodeMath
theorem cs_here (f:Nat→Int) (k:Nat) (h:0 < f k) (s:Nat):upd (cs f k) (f k).toNat (cs f k (f k).toNat+1) s=cs f (k+1) s:=by
 rw[cs_step f k (by omega)]
 unfold upd
 by_cases h1:s=(f k).toNat
 ·rw[if_pos h1,if_pos ⟨h,h1⟩,h1]
 ·rw[if_neg h1,if_neg (by omega)]
  omega
theorem cs_skip (f:Nat→Int) (k:Nat) (h:f k=0) (s:Nat):cs f k s=cs f (k+1) s:=by
 rw[cs_step f k (by omega),if_neg (by omega)]
 omega
def CntSt (w w':World) (f:Nat→Int) (j:Nat):Prop:=Six w' (w.heap.size+1) 252 (cs f j)∧Six w' w.heap.size 252 (fun _=>0)∧Below w.heap.size w w'∧OkLens f j
theorem cnt_start (w:World) (f:Nat→Int):CntSt w ((w.alloc (.cells (six fun _=>0) 252)).alloc (.cells (six fun _=>0) 252)) f 0:=by
 refine⟨?_,?_,bal (bstart _ _) _,fun i hi=>absurd hi (Nat.not_lt_zero i)⟩
 ·refine Six.congr (g:=fun _=>0) ?_ (fun s _=>(cs_start f s).symm)
  have k:=heap_alloc_new (w.alloc (.cells (six fun _=>0) 252)) (.cells (six fun _=>0) 252)
  rw[show (w.alloc (.cells (six fun _=>0) 252)).heap.size=w.heap.size+1 by simp] at k
  exact k
 ·show _=_
  rw[Below.heap_alloc _ _ _ (by simp)]
  exact heap_alloc_new w _
set_option maxHeartbeats 800000 in
theorem count_yes (a:Option Addr) (n cap:Nat) (f:Nat→Int) (w:World) (hC:Came w a n f) (hm:n≤288) (hok:OkLens f n):
  Calls Tryz.prog 183 #[.slice a n cap] w fun e w'=>e=.returned (.tuple #[.agg (six (cs f n)),.bool true])∧Below w.heap.size w w':=by
 have HC:Hid (Came w a n f):=hC
 have HO:Hid (OkLens f n):=hok
 have H0:=hid_of (cnt_start w f)
 clear hC hok
 go_enter Tryz.func183,Tryz.ntmps183
 go_wp2_with fail
 go_loopw [13] (fun i w'=>∃ j:Nat,j≤n∧i=.int .i64 j∧Hid (CntSt w w' f j)) (fun i _=>n - (intOf i).toNat)
 case atStart=>exact⟨0,Nat.zero_le _,rfl,H0⟩
 case round=>
  clear H0
  obtain⟨j,hj,rfl,hS⟩:=hrel
  by_cases hlt:j < n
  ·rcases HC.out with h0 | ⟨g,off,rfl,hg,hc⟩
   ·omega
   ·have c0:wr.cell? ⟨g,off+j,none⟩=some (.int .i64 (f j)):=(hS.out.2.2.1.cell (p:=⟨g,off+j,none⟩) hg).trans (hc j hlt)
    have hl2:g < wr.heap.size:=Nat.lt_of_lt_of_le hg hS.out.2.2.1.size
    clear hc
    obtain⟨i0,i1⟩:=HO.out j hlt
    have hok1:Hid (OkLens f (j+1)):=fun i hi=>HO.out i (by omega)
    by_cases hpos:0 < f j
    ·obtain⟨m,hmj⟩:=Int.eq_ofNat_of_zero_le i0
     have cm:=hS.out.1.c m (by omega)
     have fm:=hS.out.1.f m
     have hlb:=hS.out.1.lt
     have hcb:=cs_bd f j m
     have HS1:Hid (CntSt w (wr.setCell ⟨w.heap.size+1,m,none⟩ (.int .i64 (cs f j m+1))) f (j+1)):=by
      refine⟨(hS.out.1.set m _).congr (fun i _=>?_),?_,Below.setCell (p:=⟨w.heap.size+1,m,none⟩) hS.out.2.2.1 (Nat.le_succ _) _,hok1.out⟩
      ·have:=cs_here f j hpos i
       rw[show (f j).toNat=m by omega] at this
       exact this
      ·show _=_
       rw[Below.heap_setCell _ _ _ _ (show w.heap.size≠w.heap.size+1 by omega)]
       exact hS.out.2.1
     rw[hmj] at c0 hpos
     have d:decide ((0:Int) < (m:Int))=true:=by simpa using hpos
     go_wp2_with fail
     go_roundw
     case rel=>exact⟨j+1,by omega,by go_num,HS1⟩
     case measure=>simp [intOf]; omega
    ·have e0:f j=0:=by omega
     have HS1:Hid (CntSt w wr f (j+1)):=⟨hS.out.1.congr (fun i _=>cs_skip f j e0 i),hS.out.2.1,hS.out.2.2.1,hok1.out⟩
     rw[e0] at c0
     go_wp2_with fail
     go_roundw
     case rel=>exact⟨j+1,by omega,by go_num,HS1⟩
     case measure=>simp [intOf]; omega
  ·obtain rfl:j=n:=by omega
   have cc:=hS.out.1.c
   have fc:=hS.out.1.f
   have lc:=hS.out.1.lt
   have cr:=hS.out.2.1.c
   have fr:=hS.out.2.1.f
   have hB:=hS.out.2.2.1
   go_wp2_with fail
   refine bodyPost_ret (v:=.tuple #[.agg (six (cs f j)),.bool true]) (by simp [results,Tryz.results183,go_sem,cr]) rfl ⟨rfl,?_⟩
   iterate 16 refine Below.setCell ?_ (by simp) _
   exact hB
theorem count_long (a:Option Addr) (n cap:Nat) (w:World) (hn:n≤1048576) (hm:¬ n≤288):
  Calls Tryz.prog 183 #[.slice a n cap] w fun e w'=>e=.returned (.tuple #[.agg (six fun _=>0),.bool false])∧Below w.heap.size w w':=by
 go_enter Tryz.func183,Tryz.ntmps183
 go_wp2_with fail
 exact bodyPost_ret (v:=.tuple #[.agg (six fun _=>0),.bool false]) (by simp [results,Tryz.results183,go_sem]) rfl ⟨rfl,bal (bstart _ _) _⟩
set_option maxHeartbeats 800000 in
theorem count_bad (a:Option Addr) (n cap:Nat) (f:Nat→Int) (w:World) (hC:Came w a n f) (hm:n≤288) (hf:∀ i,i < n→(Lit.int .i64 (f i)).wf=true) (hb:¬ OkLens f n):
  Calls Tryz.prog 183 #[.slice a n cap] w fun e w'=>e=.returned (.tuple #[.agg (six fun _=>0),.bool false])∧Below w.heap.size w w':=by
 have HC:Hid (Came w a n f):=hC
 have HB:Hid (¬ OkLens f n):=hb
 have HF:Hid (∀ i,i < n→(Lit.int .i64 (f i)).wf=true):=hf
 have H0:=hid_of (cnt_start w f)
 clear hC hb hf
 go_enter Tryz.func183,Tryz.ntmps183
 go_wp2_with fail
 go_loopw [13] (fun i w'=>∃ j:Nat,j≤n∧i=.int .i64 j∧Hid (CntSt w w' f j)) (fun i _=>n - (intOf i).toNat)
 case atStart=>exact⟨0,Nat.zero_le _,rfl,H0⟩
 case round=>
  clear H0
  obtain⟨j,hj,rfl,hS⟩:=hrel
  by_cases hlt:j < n
  ·rcases HC.out with h0 | ⟨g,off,rfl,hg,hc⟩
   ·omega
   ·have c0:wr.cell? ⟨g,off+j,none⟩=some (.int .i64 (f j)):=(hS.out.2.2.1.cell (p:=⟨g,off+j,none⟩) hg).trans (hc j hlt)
    have hl2:g < wr.heap.size:=Nat.lt_of_lt_of_le hg hS.out.2.2.1.size
    clear hc
    by_cases hin:0≤f j∧f j≤15
    ·obtain⟨i0,i1⟩:=hin
     have hok1:Hid (OkLens f (j+1)):=fun i hi=>by
      by_cases e:i=j
      ·rw[e]; exact⟨i0,i1⟩
      ·exact hS.out.2.2.2 i (by omega)
     by_cases hpos:0 < f j
     ·obtain⟨m,hmj⟩:=Int.eq_ofNat_of_zero_le i0
      have cm:=hS.out.1.c m (by omega)
      have fm:=hS.out.1.f m
      have hlb:=hS.out.1.lt
      have hcb:=cs_bd f j m
      have HS1:Hid (CntSt w (wr.setCell ⟨w.heap.size+1,m,none⟩ (.int .i64 (cs f j m+1))) f (j+1)):=by
       refine⟨(hS.out.1.set m _).congr (fun i _=>?_),?_,Below.setCell (p:=⟨w.heap.size+1,m,none⟩) hS.out.2.2.1 (Nat.le_succ _) _,hok1.out⟩
       ·have:=cs_here f j hpos i
        rw[show (f j).toNat=m by omega] at this
        exact this
       ·show _=_
        rw[Below.heap_setCell _ _ _ _ (show w.heap.size≠w.heap.size+1 by omega)]
        exact hS.out.2.1
      rw[hmj] at c0 hpos
      have d:decide ((0:Int) < (m:Int))=true:=by simpa using hpos
      go_wp2_with fail
      go_roundw
      case rel=>exact⟨j+1,by omega,by go_num,HS1⟩
      case measure=>simp [intOf]; omega
     ·have e0:f j=0:=by omega
      have HS1:Hid (CntSt w wr f (j+1)):=⟨hS.out.1.congr (fun i _=>cs_skip f j e0 i),hS.out.2.1,hS.out.2.2.1,hok1.out⟩
      rw[e0] at c0
      go_wp2_with fail
      go_roundw
      case rel=>exact⟨j+1,by omega,by go_num,HS1⟩
      case measure=>simp [intOf]; omega
    ·have cr:=hS.out.2.1.c
     have fr:=hS.out.2.1.f
     have lr:=hS.out.2.1.lt
     have hB:=hS.out.2.2.1
     by_cases q0:f j < 0
     ·have d0:decide (f j < 0)=true:=by simpa using q0
      clear hin
      go_wp2_with fail
      refine bodyPost_ret (v:=.tuple #[.agg (six fun _=>0),.bool false]) (by simp [results,Tryz.results183,go_sem,cr]) rfl ⟨rfl,?_⟩
      iterate 16 refine Below.setCell ?_ (by simp) _
      exact hB
     ·have d0:decide (f j < 0)=false:=by simpa using q0
      have q1:15 < f j:=by omega
      have d1:decide (15 < f j)=true:=by simpa using q1
      clear hin
      go_wp2_with fail
      refine bodyPost_ret (v:=.tuple #[.agg (six fun _=>0),.bool false]) (by simp [results,Tryz.results183,go_sem,cr]) rfl ⟨rfl,?_⟩
      iterate 16 refine Below.setCell ?_ (by simp) _
      exact hB
  ·obtain rfl:j=n:=by omega
   exact absurd hS.out.2.2.2 HB.out
theorem count_no (a:Option Addr) (n cap:Nat) (f:Nat→Int) (w:World) (hC:Came w a n f) (hn:n≤1048576) (hf:∀ i,i < n→(Lit.int .i64 (f i)).wf=true) (hb:¬ (n≤288∧OkLens f n)):
  Calls Tryz.prog 183 #[.slice a n cap] w fun e w'=>e=.returned (.tuple #[.agg (six fun _=>0),.bool false])∧Below w.heap.size w w':=by
 by_cases hm:n≤288
 ·exact count_bad a n cap f w hC hm hf (fun h=>hb ⟨hm,h⟩)
 ·exact count_long a n cap w hn hm
end
section
open Go.RowKit Go.Joins OutMath CodeMath
theorem six_index (g:Nat→Int) (k:Nat) (hk:k < 16) (w:World):(Instr.index 252 (.agg (six g)) (.int .i64 (k:Int))).run Tryz.prog w=.ok (.int .i64 (g k)) w:=by
 have h:(0:Int)≤k∧(k:Int) < 16:=by omega
 have e:(fints g 16)[k]?=some (.int .i64 (g k)):=by
  rw[List.getElem?_eq_getElem (by rw [fints_length]; exact hk),fints_get]
 show (Instr.index 252 (.agg (fints g 16).toArray) (.int .i64 (k:Int))).run Tryz.prog w=_
 simp[Instr.index,run_underlying Tryz.underlying252,asIntOf,go_sem,hk,e]
set_option maxHeartbeats 800000 in
theorem fullTo_any (g:Nat→Int) (w:World) (hg:∀ s,0≤g s∧g s≤288):
  Calls Tryz.prog 185 #[.agg (six g)] w fun e w'=>e=.returned (.int .i64 (fullS g 16))∧Below w.heap.size w w':=by
 have HG:Hid (∀ s,0≤g s∧g s≤288):=hg
 clear hg
 go_enter Tryz.func185,Tryz.ntmps185
 go_wp2_with fail
 go_loop [3,7] (fun x i=>∃ j:Nat,j≤16∧i=.int .i64 j∧x=.int .i64 (fullS g j)) (fun _ i=>16 - (intOf i).toNat)
 case atStart=>exact⟨0,Nat.zero_le _,rfl,rfl⟩
 case round=>
  obtain⟨j,hj,rfl,rfl⟩:=hrel
  have hb:=fullS_bd g HG.out j
  by_cases hlt:j < 16
  ·have hix:=fun w=>six_index g j hlt w
   have hp:=shl_part g HG.out j
   have hgj:=HG.out j
   have HR:Hid (fullS g (j+1)=fullS g j+g j * p2 (15 - j)):=rfl
   have e15:((15:Int) - (j:Int)).toNat=15 - j:=by omega
   have HW:Hid (wrap64 (fullS g j+wrap64 (g j * 2 ^ (15 - j)))=fullS g (j+1)):=by
    show wrap64 (fullS g j+wrap64 (g j * p2 (15 - j)))=fullS g j+g j * p2 (15 - j)
    unfold wrap64
    omega
   go_wp2_with fail
   go_round
   case rel=>exact⟨j+1,by omega,by go_num,by rw [HW.out]⟩
   case measure=>simp [intOf]; omega
  ·obtain rfl:j=16:=by omega
   go_wp2_with fail
   go_ret
   exact⟨rfl,bstart _ _⟩
end
section
open Go.RowKit Go.Joins OutMath CodeMath
theorem firstTo_here (g:Nat→Int) (t:Nat) (s:Nat):upd (firstTo g t) t (first g t) s=firstTo g (t+1) s:=by
 unfold upd firstTo
 by_cases h:s=t
 ·rw[if_pos h,if_pos (by omega),h]
 ·rw[if_neg h]
  by_cases h2:s < t
  ·rw[if_pos h2,if_pos (by omega)]
  ·rw[if_neg h2,if_neg (by omega)]
def FirSt (w w':World) (g:Nat→Int) (t:Nat):Prop:=
 Six w' w.heap.size 252 g∧Six w' (w.heap.size+1) 251 (fun _=>0)∧Six w' (w.heap.size+2) 251 (firstTo g t)∧Below w.heap.size w w'
theorem fir_start (w:World) (g:Nat→Int):FirSt w (((w.alloc (.cells (six g) 252)).alloc (.cells (six fun _=>0) 251)).alloc (.cells (six fun _=>0) 251)) g 2:=by
 have z1:(w.alloc (.cells (six g) 252)).heap.size=w.heap.size+1:=by simp
 have z2:((w.alloc (.cells (six g) 252)).alloc (.cells (six fun _=>0) 251)).heap.size=w.heap.size+2:=by simp
 refine⟨?_,?_,?_,bal (bal (bstart _ _) _) _⟩
 ·show _=_
  rw[Below.heap_alloc _ _ _ (by simp; omega),Below.heap_alloc _ _ _ (by simp)]
  exact heap_alloc_new w _
 ·show _=_
  rw[Below.heap_alloc _ _ _ (by simp)]
  have k:=heap_alloc_new (w.alloc (.cells (six g) 252)) (.cells (six fun _=>0) 251)
  rw[z1] at k
  exact k
 ·refine Six.congr (g:=fun _=>0) ?_ (fun s _=>(firstTo_start g s).symm)
  have k:=heap_alloc_new ((w.alloc (.cells (six g) 252)).alloc (.cells (six fun _=>0) 251)) (.cells (six fun _=>0) 251)
  rw[z2] at k
  exact k
set_option maxHeartbeats 1600000 in
theorem first_any (g:Nat→Int) (w:World) (hg:∀ s,0≤g s∧g s≤288):
  Calls Tryz.prog 184 #[.agg (six g)] w fun e w'=>e=.returned (.agg (six (first g)))∧Below w.heap.size w w':=by
 have HG:Hid (∀ s,0≤g s∧g s≤288):=hg
 have H0:=hid_of (fir_start w g)
 clear hg
 go_enter Tryz.func184,Tryz.ntmps184
 go_wp2_with fail
 go_loopw [4] (fun i w'=>∃ t:Nat,2≤t∧t≤16∧i=.int .i64 t∧Hid (FirSt w w' g t)) (fun i _=>16 - (intOf i).toNat)
 case atStart=>exact⟨2,by omega,by omega,rfl,H0⟩
 case round=>
  clear H0
  obtain⟨t,ht1,ht2,rfl,hS⟩:=hrel
  by_cases hlt:t≤15
  ·obtain⟨u,rfl⟩:∃ u,t=u+1:=⟨t - 1,by omega⟩
   have c0:=hS.out.1.c u (by omega)
   have c1:=hS.out.2.2.1.c u (by omega)
   have c2:=hS.out.2.2.1.c (u+1) (by omega)
   have f2:=hS.out.2.2.1.f (u+1)
   have l2:=hS.out.2.2.1.lt
   have e1:firstTo g (u+1) u=first g u:=by unfold firstTo; rw [if_pos (by omega)]
   have e2:firstTo g (u+1) (u+1)=0:=by unfold firstTo; rw [if_neg (by omega)]
   rw[e1] at c1
   rw[e2] at c2
   have hb:=first_lt g HG.out u (by omega)
   have hgb:=HG.out u
   have HE:Hid (first g (u+1)=2 * (first g u+g u)):=first_step g (u+1) (by omega)
   clear e1 e2
   go_wp2_with fail
   go_region
   all_goals
    have HS1:Hid (FirSt w ((wr.setCell ⟨w.heap.size+1+1,u+1,none⟩ (.int .i64 (2 * (first g u+g u)))).drew) g (u+1+1)):=by
     refine⟨?_,?_,?_,(Below.setCell (p:=⟨w.heap.size+2,u+1,none⟩) hS.out.2.2.2 (by simp) _).drew⟩
     ·show (wr.setCell ⟨w.heap.size+2,u+1,none⟩ _).heap[_]?=_
      rw[Below.heap_setCell _ _ _ _ (show w.heap.size≠w.heap.size+2 by omega)]
      exact hS.out.1
     ·show (wr.setCell ⟨w.heap.size+2,u+1,none⟩ _).heap[_]?=_
      rw[Below.heap_setCell _ _ _ _ (show w.heap.size+1≠w.heap.size+2 by omega)]
      exact hS.out.2.1
     ·have k:=(hS.out.2.2.1.set (u+1) (2 * (first g u+g u))).congr (g':=firstTo g (u+1+1)) (fun i _=>by rw [← HE.out]; exact firstTo_here g (u+1) i)
      exact k
    go_wp2_with fail
    go_roundw
    case rel=>exact⟨u+1+1,by omega,by omega,by go_num,HS1⟩
    case measure=>simp [intOf]; omega
  ·obtain rfl:t=16:=by omega
   have cr:=hS.out.2.1.c
   have fr:=hS.out.2.1.f
   have lr:=hS.out.2.1.lt
   have hB:=hS.out.2.2.2
   have e1:∀ i,i < 16→firstTo g 16 i=first g i:=fun i hi=>by unfold firstTo; rw [if_pos hi]
   have cc:∀ i,i < 16→wr.cell? ⟨w.heap.size+1+1,i,none⟩=some (.int .i64 (first g i)):=fun i hi=>by rw [← e1 i hi]; exact hS.out.2.2.1.c i hi
   clear e1
   go_wp2_with fail
   refine bodyPost_ret (v:=.agg (six (first g))) (by simp [results,Tryz.results184,go_sem,cr]) rfl ⟨rfl,?_⟩
   iterate 16 refine Below.setCell ?_ (by simp) _
   exact hB
end
section
open Go.RowKit Go.Joins CodeMath
def CodesAnswer : Prop := ∀ (a : Option Addr) (n cap : Nat) (f : Nat → Int) (w : World), Came w a n f → n ≤ 1048576 → (∀ i, i < n → (Lit.int .i64 (f i)).wf = true) →
    (Coded f n → Calls Tryz.prog 167 #[.slice a n cap] w fun e w' => ∃ (a' : Option Addr) (cap' : Nat), e = .returned (.tuple #[.slice a' n cap', .bool true]) ∧ SL w' w.heap.size a' n cap' (codeOf f n) ∧ Below w.heap.size w w') ∧
    (¬ Coded f n → Calls Tryz.prog 167 #[.slice a n cap] w fun e w' => ∃ (a' : Option Addr) (cap' : Nat), e = .returned (.tuple #[.slice a' 0 cap', .bool false]) ∧ Below w.heap.size w w')
end
end Go.Proofs.YtklpiihnbokkkaaGreatDoor
