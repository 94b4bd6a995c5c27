/-
  Texts of the proof, put together.
-/
import Derived.Test.YtklpiihnbokkkaaGreatDoorFk16
namespace Go.Proofs.YtklpiihnbokkkaaGreatDoor
section
open Go.RowKit Go.Joins OutMath CodeMath TakeMath HitMath WayMath StepMath TokMath BookMath InfMath
noncomputable def lenE (s:ByteArray) (y p:Nat):Except Nat (Int×Nat):=if 285 < y then .error 6 else match takeE s p (lenBits y).1 with
 | .error c=>.error c
 | .ok (x,p2)=>.ok ((lenBits y).2+x,p2)
noncomputable def distE (s:ByteArray) (f:Nat→Int) (n p:Nat):Except Nat (Int×Nat):=match symE s f n p with
 | .error c=>.error c
 | .ok (q,p3)=>if 29 < q then .error 6 else match takeE s p3 (distBits q).1 with
  | .error c=>.error c
  | .ok (z,p4)=>.ok ((distBits q).2+z,p4)
theorem syms_piece {s:ByteArray} {most:Nat} {f1:Nat→Int} {n1:Nat} {f2:Nat→Int} {n2 m p:Nat} {O:List Int} {y p1:Nat} (h:symE s f1 n1 p=.ok (y,p1)) (h1:257≤y):symbolsF s most f1 n1 f2 n2 (m+1) p O=match lenE s y p1 with
  | .error c=>.error c
  | .ok (T,p2)=>match distE s f2 n2 p2 with
   | .error c=>.error c
   | .ok (D,p4)=>if (O.length:Int) < D then .error 7 else if (most:Int) - O.length < T then .error 8 else symbolsF s most f1 n1 f2 n2 m p4 (copyN D.toNat T.toNat O):=by
 by_cases h2:285 < y
 ·rw[syms_over h h2]
  unfold lenE
  rw[if_pos h2]
 ·rw[syms_far h h1 (by omega)]
  unfold lenE
  rw[if_neg h2]
  cases e1:takeE s p1 (lenBits y).1 with
  | error c=>rw [far_err e1]
  | ok r=>
   obtain⟨x,p2⟩:=r
   dsimp only
   unfold distE
   cases e2:symE s f2 n2 p2 with
   | error c=>rw [far_err2 e1 e2]
   | ok r2=>
    obtain⟨q,p3⟩:=r2
    dsimp only
    by_cases hq:29 < q
    ·rw[far_over e1 e2 hq,if_pos hq]
    ·rw[if_neg hq]
     cases e3:takeE s p3 (distBits q).1 with
     | error c=>rw [far_err3 e1 e2 hq e3]
     | ok r3=>
      obtain⟨z,p4⟩:=r3
      rw[far_go e1 e2 hq e3]
def NumPost (B:Nat) (w:World) (fb rb:Nat) (s:ByteArray) (O:List Int) (most:Nat) (Ty:List Int) (vo vt:Value) (hi:Nat) (res:Except Nat (Int×Nat)) (e:Ending) (w':World):Prop:=
 Step fb rb w vo vt w' vo vt∧((∃ (x p':Nat),res=.ok ((x:Int),p')∧p'≤8 * s.size∧1≤x∧x≤hi∧e=.returned (.tuple #[.int .i64 (x:Int),.nilIface])∧PS B w' fb rb s p' O most Ty vo vt)∨
 (∃ c,res=.error c∧e=.returned (.tuple #[.int .i64 0,errV c])))
theorem wf_piece {x:Int} (h0:0≤x) (h1:x≤1000000):(Lit.int .i64 x).wf=true:=by
 simp[Lit.wf,IntKind.min,IntKind.max,IntKind.bits,IntKind.signed]
 omega
theorem implLenBits (y:Nat) (w:World) (h1:257≤y) (h2:y≤285):
  Calls Tryz.prog 214 #[.int .i64 (y:Int)] w fun e w'=>e=.returned (.int .i64 ((lenBits y).1:Int))∧w'=w:=by
 by_cases h:y=285
 ·subst h
  exact lengthBits_last w
 ·have hk:=lengthBits_any (y - 257) w (by omega)
  rw[show (257:Int)+((y - 257:Nat):Int)=(y:Int) by omega] at hk
  have e:(lenBits y).1=(y - 257) / 4 - 1:=by
   unfold lenBits
   rw[if_neg h]
   show (y - 257 - 4) / 4=_
   omega
  rw[e]
  exact hk
theorem implDistBits (q:Nat) (w:World) (h2:q≤29):
  Calls Tryz.prog 216 #[.int .i64 (q:Int)] w fun e w'=>e=.returned (.int .i64 ((distBits q).1:Int))∧w'=w:=by
 have hk:=distBits_any q w (by omega)
 have e:(distBits q).1=q / 2 - 1:=by
  show (q - 2) / 2=_
  omega
 rw[e]
 exact hk
section
variable (B:Nat) (w:World) (fb rb:Nat) (s:ByteArray) (p:Nat) (O:List Int) (most:Nat) (Ty:List Int) (vo vt:Value)
theorem step_read {w w':World} {fb rb:Nat} {vo vt:Value} (h:w.grownBy w' (some rb)):Step fb rb w vo vt w' vo vt:=Step.one h (fun k e=>.inr (.inl (by cases e; rfl)))
set_option maxHeartbeats 800000 in
theorem takeLength_any (h:PS B w fb rb s p O most Ty vo vt) (hs:s.size≤12000) (hp:p≤8 * s.size) (y:Nat) (hy:257≤y) (hy2:y≤288):
  Calls Tryz.prog 203 #[.pointer (some ⟨fb,0,none⟩),.int .i64 (y:Int)] w (NumPost B w fb rb s O most Ty vo vt 300 (lenE s y p)):=by
 by_cases h1:285 < y
 ·have d1:decide ((285:Int) < (y:Int))=true:=decide_eq_true (by omega)
  have HP:Hid (NumPost B w fb rb s O most Ty vo vt 300 (lenE s y p) (.returned (.tuple #[.int .i64 0,errV 6])) w):=⟨Step.refl w,.inr ⟨6,by unfold lenE; rw [if_pos h1],rfl⟩⟩
  clear h
  go_enter Tryz.func203,Tryz.ntmps203
  go_wp2_with fail
  go_ret2
  exact HP.out
 ·have d1:decide ((285:Int) < (y:Int))=false:=decide_eq_false (by omega)
  have hlb:=implLenBits y w hy (by omega)
  have hsm:=lenBits_small hy (show y≤285 by omega)
  by_cases h2:p+(lenBits y).1≤8 * s.size
  ·have htk:=take_yes B w fb rb s p O most Ty vo vt h hs (lenBits y).1 (by omega) h2
   have hnb:0≤num s p (lenBits y).1∧num s p (lenBits y).1 < 2 ^ (lenBits y).1:=num_bd s p (lenBits y).1
   have hof:=fun w=>lengthOf_answer (y:Int) (num s p (lenBits y).1) w (wf_piece (by omega) (by omega)) (wf_piece (by omega) (by have:=hsm.2.2; omega))
   rw[len_of hy (by omega) hnb.1 hnb.2] at hof
   dsimp only at hof
   obtain⟨T,hT⟩:=Int.eq_ofNat_of_zero_le (show 0≤((lenBits y).2:Int)+num s p (lenBits y).1 by omega)
   rw[hT] at hof
   have HP:Hid (∀ w' w'',w.grownBy w' (some rb)→PS B w' fb rb s (p+(lenBits y).1) O most Ty vo vt→Below w'.heap.size w' w''→NumPost B w fb rb s O most Ty vo vt 300 (lenE s y p) (.returned (.tuple #[.int .i64 (T:Int),.nilIface])) w''):=fun w' w'' q1 q2 q3=>by
    refine⟨(step_read q1).trans (Step.called q3),.inl ⟨T,p+(lenBits y).1,?_,h2,by omega,by have:=hsm.2.2; omega,rfl,q2.called q3⟩⟩
    unfold lenE takeE
    rw[if_neg h1,if_pos h2]
    dsimp only
    rw[hT]
   clear h hsm hnb hT
   generalize num s p (lenBits y).1=x at *
   generalize (lenBits y).1=b at *
   go_enter Tryz.func203,Tryz.ntmps203
   go_wp2_with fail
   refine hlb.mono ?_
   rintro e w1 ⟨rfl,rfl⟩
   clear hlb
   go_wp2_with fail
   refine htk.mono ?_
   rintro e w2 ⟨rfl,q1,q2⟩
   have HQ:=hid_of (HP.out w2 · q2 q1)
   clear htk q1 q2 HP
   go_wp2_with fail
   refine (hof _).mono ?_
   rintro e w3 ⟨rfl,q3⟩
   have HR:=hid_of (HQ.out w3 q3)
   clear hof q3 HQ
   go_wp2_with fail
   go_ret2
   exact HR.out
  ·have htk:=take_no B w fb rb s p O most Ty vo vt h hs hp (lenBits y).1 (by omega) h2
   have HP:Hid (∀ w',w.grownBy w' (some rb)→NumPost B w fb rb s O most Ty vo vt 300 (lenE s y p) (.returned (.tuple #[.int .i64 0,errV 2])) w'):=fun w' q1=>by
    refine⟨step_read q1,.inr ⟨2,?_,rfl⟩⟩
    unfold lenE takeE
    rw[if_neg h1,if_neg h2]
   clear h hsm
   generalize (lenBits y).1=b at *
   go_enter Tryz.func203,Tryz.ntmps203
   go_wp2_with fail
   refine hlb.mono ?_
   rintro e w1 ⟨rfl,rfl⟩
   clear hlb
   go_wp2_with fail
   refine htk.mono ?_
   rintro e w2 ⟨rfl,q1,q2⟩
   have HQ:=hid_of (HP.out w2 q2)
   clear htk q1 q2 HP
   go_wp2_with fail
   go_ret2
   exact HQ.out
variable (S C bk:Nat) (V:Nat→Value) (f:Nat→Int) (n:Nat)
set_option maxHeartbeats 800000 in
theorem takeDist_any (h:PS B w fb rb s p O most Ty vo vt) (hs:s.size≤12000) (hp:p≤8 * s.size) (hB:Book w S C bk V f n) (hH:Held w fb rb vo vt S C) (hn:n≤288) (hok:OkLens f n) (hroom:nx f n 15≤32768):
  Calls Tryz.prog 204 #[.pointer (some ⟨fb,0,none⟩),.pointer (some ⟨bk,0,none⟩)] w (NumPost B w fb rb s O most Ty vo vt 40000 (distE s f n p)):=by
 have hsy:=takeSymbol_any B w fb rb s p O most Ty vo vt S C bk V f n h hs hp hB hH hn hok hroom
 clear h hB hH hok hroom
 go_enter Tryz.func204,Tryz.ntmps204
 go_wp2_with fail
 refine hsy.mono ?_
 clear hsy
 rintro e w1 ⟨hst,⟨q,p3,hsE,hlt,hp3,hqn,rfl,hps⟩ | ⟨c,hsE,rfl⟩⟩
 ·by_cases h1:29 < q
  ·have d1:decide ((29:Int) < (q:Int))=true:=decide_eq_true (by omega)
   have HP:Hid (NumPost B w fb rb s O most Ty vo vt 40000 (distE s f n p) (.returned (.tuple #[.int .i64 0,errV 6])) w1):=⟨hst,.inr ⟨6,by unfold distE; rw [hsE]; dsimp only; rw [if_pos h1],rfl⟩⟩
   clear hst hps
   go_wp2_with fail
   go_ret2
   exact HP.out
  ·have d1:decide ((29:Int) < (q:Int))=false:=decide_eq_false (by omega)
   have hlb:=implDistBits q w1 (by omega)
   have hsm:=distBits_small (show q≤29 by omega)
   by_cases h2:p3+(distBits q).1≤8 * s.size
   ·have htk:=take_yes B w1 fb rb s p3 O most Ty vo vt hps hs (distBits q).1 (by omega) h2
    have hnb:0≤num s p3 (distBits q).1∧num s p3 (distBits q).1 < 2 ^ (distBits q).1:=num_bd s p3 (distBits q).1
    have hof:=fun w=>distOf_answer (q:Int) (num s p3 (distBits q).1) w (wf_piece (by omega) (by omega)) (wf_piece (by omega) (by have:=hsm.2.2; omega))
    rw[dist_of (by omega) hnb.1 hnb.2] at hof
    dsimp only at hof
    obtain⟨T,hT⟩:=Int.eq_ofNat_of_zero_le (show 0≤((distBits q).2:Int)+num s p3 (distBits q).1 by omega)
    rw[hT] at hof
    have HP:Hid (∀ w' w'',w1.grownBy w' (some rb)→PS B w' fb rb s (p3+(distBits q).1) O most Ty vo vt→Below w'.heap.size w' w''→NumPost B w fb rb s O most Ty vo vt 40000 (distE s f n p) (.returned (.tuple #[.int .i64 (T:Int),.nilIface])) w''):=fun w' w'' q1 q2 q3=>by
     refine⟨hst.trans ((step_read q1).trans (Step.called q3)),.inl ⟨T,p3+(distBits q).1,?_,h2,by omega,by have:=hsm.2.2; omega,rfl,q2.called q3⟩⟩
     unfold distE takeE
     rw[hsE]
     dsimp only
     rw[if_neg h1,if_pos h2]
     dsimp only
     rw[hT]
    clear hst hps hsm hnb hT hsE
    generalize num s p3 (distBits q).1=x at *
    generalize (distBits q).1=b at *
    go_wp2_with fail
    refine hlb.mono ?_
    rintro e w1 ⟨rfl,rfl⟩
    clear hlb
    go_wp2_with fail
    refine htk.mono ?_
    rintro e w2 ⟨rfl,q1,q2⟩
    have HQ:=hid_of (HP.out w2 · q2 q1)
    clear htk q1 q2 HP
    go_wp2_with fail
    refine (hof _).mono ?_
    rintro e w3 ⟨rfl,q3⟩
    have HR:=hid_of (HQ.out w3 q3)
    clear hof q3 HQ
    go_wp2_with fail
    go_ret2
    exact HR.out
   ·have htk:=take_no B w1 fb rb s p3 O most Ty vo vt hps hs hp3 (distBits q).1 (by omega) h2
    have HP:Hid (∀ w',w1.grownBy w' (some rb)→NumPost B w fb rb s O most Ty vo vt 40000 (distE s f n p) (.returned (.tuple #[.int .i64 0,errV 2])) w'):=fun w' q1=>by
     refine⟨hst.trans (step_read q1),.inr ⟨2,?_,rfl⟩⟩
     unfold distE takeE
     rw[hsE]
     dsimp only
     rw[if_neg h1,if_neg h2]
    clear hst hps hsm hsE
    generalize (distBits q).1=b at *
    go_wp2_with fail
    refine hlb.mono ?_
    rintro e w1 ⟨rfl,rfl⟩
    clear hlb
    go_wp2_with fail
    refine htk.mono ?_
    rintro e w2 ⟨rfl,q1,q2⟩
    have HQ:=hid_of (HP.out w2 q2)
    clear htk q1 q2 HP
    go_wp2_with fail
    go_ret2
    exact HQ.out
 ·have HP:Hid (NumPost B w fb rb s O most Ty vo vt 40000 (distE s f n p) (.returned (.tuple #[.int .i64 0,errV c])) w1):=⟨hst,.inr ⟨c,by unfold distE; rw [hsE],rfl⟩⟩
  clear hst
  go_wp2_with fail
  go_ret2
  exact HP.out
def FarPost (B:Nat) (w:World) (fb rb:Nat) (s:ByteArray) (y p:Nat) (O:List Int) (most:Nat) (Ty:List Int) (vo vt:Value) (f:Nat→Int) (n:Nat) (e:Ending) (w':World):Prop:=
 Step fb rb w vo vt w' vo vt∧((∃ (T D p2 p4:Nat),lenE s y p=.ok ((T:Int),p2)∧distE s f n p2=.ok ((D:Int),p4)∧p4≤8 * s.size∧T≤300∧1≤D∧D≤40000∧e=.returned (.tuple #[.iface 237 (.agg #[.int .i64 (T:Int),.int .i64 (D:Int)]),.nilIface])∧PS B w' fb rb s p4 O most Ty vo vt)∨
 (∃ c,(lenE s y p=.error c∨∃ T p2,lenE s y p=.ok (T,p2)∧distE s f n p2=.error c)∧e=.returned (.tuple #[.nilIface,errV c])))
set_option maxHeartbeats 800000 in
theorem takePiece_far (h:PS B w fb rb s p O most Ty vo vt) (hs:s.size≤12000) (hp:p≤8 * s.size) (hB:Book w S C bk V f n) (hH:Held w fb rb vo vt S C) (hn:n≤288) (hok:OkLens f n) (hroom:nx f n 15≤32768) (y:Nat) (hy:257≤y) (hy2:y≤288):
  Calls Tryz.prog 181 #[.pointer (some ⟨fb,0,none⟩),.int .i64 (y:Int),.pointer (some ⟨bk,0,none⟩)] w (FarPost B w fb rb s y p O most Ty vo vt f n):=by
 have d0:decide ((y:Int) < 256)=false:=decide_eq_false (by omega)
 have htl:=takeLength_any B w fb rb s p O most Ty vo vt h hs hp y hy hy2
 have HBB:=hid_of hB
 have HHH:=hid_of hH
 have HOK:=hid_of hok
 have HRM:=hid_of hroom
 clear h hB hH hok hroom
 go_enter Tryz.func181,Tryz.ntmps181
 go_wp2_with fail
 refine htl.mono ?_
 clear htl
 rintro e w1 ⟨hst,⟨T,p2,hlE,hp2,hT1,hT2,rfl,hps⟩ | ⟨c,hlE,rfl⟩⟩
 ·have htd:=takeDist_any B w1 fb rb s p2 O most Ty vo vt S C bk V f n hps hs hp2 (HBB.out.step HHH.out hst) (HHH.out.step hst) hn HOK.out HRM.out
  have HLE:=hid_of hlE
  have HST:=hid_of hst
  clear hps hlE hst HBB HHH HOK HRM
  go_wp2_with fail
  refine htd.mono ?_
  clear htd
  rintro e w2 ⟨hst2,⟨D,p4,hdE,hp4,hD1,hD2,rfl,hps2⟩ | ⟨c,hdE,rfl⟩⟩
  ·have HP:Hid (FarPost B w fb rb s y p O most Ty vo vt f n (.returned (.tuple #[.iface 237 (.agg #[.int .i64 (T:Int),.int .i64 (D:Int)]),.nilIface])) w2):=⟨HST.out.trans hst2,.inl ⟨T,D,p2,p4,HLE.out,hdE,hp4,hT2,hD1,hD2,rfl,hps2⟩⟩
   clear hst2 hdE hps2 HLE HST
   go_wp2_with fail
   go_ret2
   exact HP.out
  ·have HP:Hid (FarPost B w fb rb s y p O most Ty vo vt f n (.returned (.tuple #[.nilIface,errV c])) w2):=⟨HST.out.trans hst2,.inr ⟨c,.inr ⟨_,p2,HLE.out,hdE⟩,rfl⟩⟩
   clear hst2 hdE HLE HST
   go_wp2_with fail
   go_ret2
   exact HP.out
 ·have HP:Hid (FarPost B w fb rb s y p O most Ty vo vt f n (.returned (.tuple #[.nilIface,errV c])) w1):=⟨hst,.inr ⟨c,.inl hlE,rfl⟩⟩
  clear hst hlE
  go_wp2_with fail
  go_ret2
  exact HP.out
theorem takePiece_byte (fb bk:Nat) (w:World) (y:Nat) (hy:y < 256):
  Calls Tryz.prog 181 #[.pointer (some ⟨fb,0,none⟩),.int .i64 (y:Int),.pointer (some ⟨bk,0,none⟩)] w fun e w'=>e=.returned (.tuple #[.iface 234 (.int .u8 (y:Int)),.nilIface])∧w'=w:=by
 have d0:decide ((y:Int) < 256)=true:=decide_eq_true (by omega)
 go_enter Tryz.func181,Tryz.ntmps181
 go_wp2_with fail
 go_ret2
 exact⟨rfl,rfl⟩
end
end
section
open Go.RowKit Go.Joins OutMath CodeMath TakeMath HitMath WayMath StepMath TokMath BookMath InfMath
section
variable (B:Nat) (w:World) (fb rb:Nat) (s:ByteArray) (p:Nat) (O:List Int) (most:Nat) (Ty:List Int) (vo vt:Value)
def PutPost (B:Nat) (w:World) (fb rb:Nat) (s:ByteArray) (p:Nat) (O':List Int) (most:Nat) (Ty:List Int) (vo vt:Value) (e:Ending) (w':World):Prop:=
 (O'.length≤most∧e=.returned .nilIface∧∃ vo',PS B w' fb rb s p O' most Ty vo' vt∧Step fb rb w vo vt w' vo' vt)∨(¬ O'.length≤most∧e=.returned (errV 8)∧Step fb rb w vo vt w' vo vt)
set_option maxHeartbeats 800000 in
theorem put_done (h:PS B w fb rb s p O most Ty vo vt) (_hm:most≤12000) (pc:Value) (O':List Int) (_hl:O'.length≤100000)
  (hw:Calls Tryz.prog 205 #[vo,pc] w fun e w'=>∃ v',e=.returned (.tuple #[v',.bool true])∧OR w' B v' O'∧Moved w w' vo v'):
  Calls Tryz.prog 182 #[.pointer (some ⟨fb,0,none⟩),pc] w (PutPost B w fb rb s p O' most Ty vo vt):=by
 have c1:=h.1.cells.2.1
 have hlf:=h.ltf
 have HH:=hid_of h
 clear h
 go_enter Tryz.func182,Tryz.ntmps182
 go_wp2_with fail
 refine hw.mono ?_
 clear hw
 rintro e w1 ⟨v',rfl,hO,hM⟩
 obtain⟨k1,k2,k3⟩:=HH.out.made hO hM.1 hM.2
 have e2:=k1.cells.2.2.1
 have e1:=k1.cells.2.1
 have f1:=k1.free 1
 have hl1:=k1.lt
 have hst:Step fb rb w vo vt w1 vo vt:=Step.one hM.1 (fun k e=>.inr (.inr (.inl e)))
 obtain⟨a,c,hv⟩:=hO.form
 subst hv
 by_cases hle:O'.length≤most
 ·have d1:decide ((most:Int) < (O'.length:Int))=false:=decide_eq_false (by omega)
  have d2:decide (most < O'.length)=false:=decide_eq_false (by omega)
  have HP:Hid (PutPost B w fb rb s p O' most Ty vo vt (.returned .nilIface) (w1.setCell ⟨fb,1,none⟩ (.slice a O'.length c))):=.inl ⟨hle,rfl,_,k2,k3⟩
  clear HH hO hM k1 k2 k3 hst hle
  go_wp2_with fail
  go_ret
  exact HP.out
 ·have d1:decide ((most:Int) < (O'.length:Int))=true:=decide_eq_true (by omega)
  have d2:decide (most < O'.length)=true:=decide_eq_true (by omega)
  have HP:Hid (PutPost B w fb rb s p O' most Ty vo vt (.returned (errV 8)) w1):=.inr ⟨hle,rfl,hst⟩
  clear HH hO hM k1 k2 k3 hst hle
  go_wp2_with fail
  go_ret
  exact HP.out
theorem put_byte (h:PS B w fb rb s p O most Ty vo vt) (hm:most≤12000) (hO:O.length≤most) (x:Int):
  Calls Tryz.prog 182 #[.pointer (some ⟨fb,0,none⟩),.iface 234 (.int .u8 x)] w (PutPost B w fb rb s p (O ++ [x]) most Ty vo vt):=by
 have hor:=h.2.2.1
 obtain⟨a,c,hv⟩:=hor.form
 subst hv
 exact put_done B w fb rb s p O most Ty _ vt h hm _ (O ++ [x]) (by simp; omega) (with_byte_own B a O.length c O x w hor (by omega) h.2.2.2.2.2.2.2.2.2.2)
theorem put_repeat (h:PS B w fb rb s p O most Ty vo vt) (hm:most≤12000) (hO:O.length≤most) (T D:Nat) (hT:T≤300) (hD:1≤D) (hD2:D≤O.length):
  Calls Tryz.prog 182 #[.pointer (some ⟨fb,0,none⟩),.iface 237 (.agg #[.int .i64 (T:Int),.int .i64 (D:Int)])] w (PutPost B w fb rb s p (copyN D T O) most Ty vo vt):=by
 have hor:=h.2.2.1
 obtain⟨a,c,hv⟩:=hor.form
 subst hv
 have hw:=with_repeat_own B a O.length c T D O w hor rfl (by omega) h.2.2.2.2.2.2.2.2.2.2 hT hD hD2
 have hl:(copyN D T O).length=O.length+T:=by
  rw[copy_length]
 exact put_done B w fb rb s p O most Ty _ vt h hm _ (copyN D T O) (by omega) (hw.mono fun e w' ⟨a',c',q1,q2,q3⟩=>⟨_,q1,q2,q3⟩)
set_option maxHeartbeats 800000 in
theorem put_far (h:PS B w fb rb s p O most Ty vo vt) (T D:Nat) (hD2:O.length < D):
  Calls Tryz.prog 182 #[.pointer (some ⟨fb,0,none⟩),.iface 237 (.agg #[.int .i64 (T:Int),.int .i64 (D:Int)])] w fun e w'=>e=.returned (errV 7)∧Step fb rb w vo vt w' vo vt:=by
 have c1:=h.1.cells.2.1
 have hlf:=h.ltf
 have hor:=h.2.2.1
 obtain⟨a,c,hv⟩:=hor.form
 subst hv
 have hw:=with_far_own a O.length c (T:Int) (D:Int) w (by omega)
 clear h hor
 go_enter Tryz.func182,Tryz.ntmps182
 go_wp2_with fail
 refine hw.mono ?_
 clear hw
 rintro e w1 ⟨rfl,hB⟩
 have HS:Hid (Step fb rb w (.slice a O.length c) vt w1 (.slice a O.length c) vt):=Step.called hB
 clear hB
 go_wp2_with fail
 go_ret
 exact⟨rfl,HS.out⟩
end
theorem take_mono {s:ByteArray} {p n:Nat} {x:Int} {p':Nat} (h:takeE s p n=.ok (x,p')):p'=p+n:=by
 unfold takeE at h
 split at h
 ·cases h
  rfl
 ·cases h
theorem len_mono {s:ByteArray} {y p:Nat} {T:Int} {p2:Nat} (h:lenE s y p=.ok (T,p2)):p≤p2:=by
 unfold lenE at h
 split at h
 ·cases h
 ·cases e:takeE s p (lenBits y).1 with
  | error c=>
   rw[e] at h
   cases h
  | ok r=>
   obtain⟨x,p'⟩:=r
   rw[e] at h
   cases h
   have:=take_mono e
   omega
theorem sym_mono {s:ByteArray} {f:Nat→Int} {n p q p3:Nat} (h:symE s f n p=.ok (q,p3)):p < p3:=by
 rcases sym_cases f n s p with ⟨y,k,h1,_,_,_,h5⟩ | ⟨c,_,_,h5⟩
 ·rw[h5] at h
  cases h
  omega
 ·rw[h5] at h
  cases h
theorem dist_mono {s:ByteArray} {f:Nat→Int} {n p:Nat} {D:Int} {p4:Nat} (h:distE s f n p=.ok (D,p4)):p≤p4:=by
 unfold distE at h
 cases e:symE s f n p with
 | error c=>
  rw[e] at h
  cases h
 | ok r=>
  obtain⟨q,p3⟩:=r
  rw[e] at h
  dsimp only at h
  have l1:=sym_mono e
  split at h
  ·cases h
  ·cases e2:takeE s p3 (distBits q).1 with
   | error c=>
    rw[e2] at h
    cases h
   | ok r=>
    obtain⟨x,p'⟩:=r
    rw[e2] at h
    cases h
    have:=take_mono e2
    omega
def BlkPost (B:Nat) (w:World) (fb rb:Nat) (s:ByteArray) (most:Nat) (Ty:List Int) (vo vt:Value) (res:Except Nat (List Int×Nat)) (e:Ending) (w':World):Prop:=
 (∃ O' p' vo',res=.ok (O',p')∧p'≤8 * s.size∧O'.length≤most∧e=.returned .nilIface∧PS B w' fb rb s p' O' most Ty vo' vt∧Step fb rb w vo vt w' vo' vt)∨
 (∃ c,res=.error c∧e=.returned (errV c)∧Below B w w')
def PcRing (B:Nat) (w:World) (fb rb:Nat) (s:ByteArray) (most:Nat) (Ty:List Int) (vo vt:Value) (S1 C1 b1:Nat) (V1:Nat→Value) (f1:Nat→Int) (n1 S2 C2 b2:Nat) (V2:Nat→Value) (f2:Nat→Int) (n2:Nat) (res:Except Nat (List Int×Nat)) (m p:Nat) (O:List Int) (vo':Value) (w':World):Prop:=
 PS B w' fb rb s p O most Ty vo' vt∧Step fb rb w vo vt w' vo' vt∧(Book w' S1 C1 b1 V1 f1 n1∧Held w' fb rb vo' vt S1 C1)∧(Book w' S2 C2 b2 V2 f2 n2∧Held w' fb rb vo' vt S2 C2)∧p≤8 * s.size∧O.length≤most∧8 * s.size+1≤m+p∧res=symbolsF s most f1 n1 f2 n2 m p O
section
variable (B:Nat) (w:World) (fb rb:Nat) (s:ByteArray) (p:Nat) (O:List Int) (most:Nat) (Ty:List Int) (vo vt:Value) (S1 C1 b1:Nat) (V1:Nat→Value) (f1:Nat→Int) (n1 S2 C2 b2:Nat) (V2:Nat→Value) (f2:Nat→Int) (n2:Nat)
set_option maxRecDepth 100000 in
set_option maxHeartbeats 1600000 in
theorem takePieces_any (h:PS B w fb rb s p O most Ty vo vt) (hs:s.size≤12000) (hp:p≤8 * s.size) (hm:most≤12000) (hO:O.length≤most) (hB1:Book w S1 C1 b1 V1 f1 n1) (hH1:Held w fb rb vo vt S1 C1) (hn1:n1≤288) (hok1:OkLens f1 n1) (hr1:nx f1 n1 15≤32768) (hB2:Book w S2 C2 b2 V2 f2 n2) (hH2:Held w fb rb vo vt S2 C2) (hn2:n2≤288) (hok2:OkLens f2 n2) (hr2:nx f2 n2 15≤32768):
  Calls Tryz.prog 141 #[.pointer (some ⟨fb,0,none⟩),.pointer (some ⟨b1,0,none⟩),.pointer (some ⟨b2,0,none⟩)] w (BlkPost B w fb rb s most Ty vo vt (symbolsF s most f1 n1 f2 n2 (8 * s.size+1) p O)):=by
 obtain⟨res,hres⟩:∃ res,res=symbolsF s most f1 n1 f2 n2 (8 * s.size+1) p O:=⟨_,rfl⟩
 rw[← hres]
 have H0:Hid (PcRing B w fb rb s most Ty vo vt S1 C1 b1 V1 f1 n1 S2 C2 b2 V2 f2 n2 res (8 * s.size+1) p O vo w):=⟨h,Step.refl w,⟨hB1,hH1⟩,⟨hB2,hH2⟩,hp,hO,by omega,hres⟩
 have HPS:=hid_of h
 have HK1:=hid_of (And.intro hok1 hr1)
 have HK2:=hid_of (And.intro hok2 hr2)
 clear h hB1 hH1 hok1 hr1 hB2 hH2 hok2 hr2 hres hO hp
 go_enter Tryz.func141,Tryz.ntmps141
 go_wp2_with fail
 go_loopg [] (8 * s.size+2) (fun gk w'=>∃ (m p:Nat) (O:List Int) (vo':Value),m≤gk∧Hid (PcRing B w fb rb s most Ty vo vt S1 C1 b1 V1 f1 n1 S2 C2 b2 V2 f2 n2 res m p O vo' w'))
 case atStart=>exact⟨8 * s.size+1,p,O,vo,by omega,H0⟩
 case round=>
  clear H0
  obtain⟨m,p,O,vo1,hgk,hR⟩:=hrel
  obtain⟨m1,rfl⟩:∃ m1,m=m1+1:=⟨m - 1,by have:=hR.out.2.2.2.2.1; have:=hR.out.2.2.2.2.2.2.1; omega⟩
  have hsy:=takeSymbol_any B wr fb rb s p O most Ty vo1 vt S1 C1 b1 V1 f1 n1 hR.out.1 hs hR.out.2.2.2.2.1 hR.out.2.2.1.1 hR.out.2.2.1.2 hn1 HK1.out.1 HK1.out.2
  go_wp2_with fail
  refine hsy.mono ?_
  clear hsy
  rintro e w1 ⟨hst,⟨y,p1,hsE,hlt,hp1,hyn,rfl,hps⟩ | ⟨c,hsE,rfl⟩⟩
  ·by_cases hy:y=256
   ·subst hy
    have HP:Hid (BlkPost B w fb rb s most Ty vo vt res (.returned .nilIface) w1):=.inl ⟨O,p1,vo1,hR.out.2.2.2.2.2.2.2.trans (syms_end hsE),hp1,hR.out.2.2.2.2.2.1,rfl,hps,hR.out.2.1.trans hst⟩
    clear hR hst hps
    go_wp2_with fail
    go_ret
    exact HP.out
   ·have dy:((y:Int) == 256)=false:=by simp; omega
    have HST:=hid_of hst
    have HPS1:=hid_of hps
    have HE:=hid_of hsE
    clear hst hps hsE
    by_cases hyl:y < 256
    ·have htp:=takePiece_byte fb b2 w1 y hyl
     have hpb:=put_byte B w1 fb rb s p1 O most Ty vo1 vt HPS1.out hm hR.out.2.2.2.2.2.1 (y:Int)
     go_wp2_with fail
     refine htp.mono ?_
     rintro e w2 ⟨rfl,rfl⟩
     clear htp
     go_wp2_with fail
     refine hpb.mono ?_
     clear hpb
     rintro e w3 (⟨hle,rfl,vo2,hps2,hst2⟩ | ⟨hle,rfl,hst2⟩)
     ·have HN:Hid (PcRing B w fb rb s most Ty vo vt S1 C1 b1 V1 f1 n1 S2 C2 b2 V2 f2 n2 res m1 p1 (O ++ [(y:Int)]) vo2 w3):=by
       obtain⟨q1,q2,⟨q3,q4⟩,⟨q5,q6⟩,q7,q8,q9,q10⟩:=hR.out
       have st:=HST.out.trans hst2
       refine⟨hps2,q2.trans st,⟨q3.step q4 st,q4.step st⟩,⟨q5.step q6 st,q6.step st⟩,hp1,hle,by omega,?_⟩
       rw[q10,syms_byte HE.out hyl,if_neg (by rw [List.length_append,List.length_singleton] at hle; omega)]
      clear hR HST HPS1 hps2 hst2 HE hle
      go_wp2_with fail
      go_roundg m1
      case measure=>omega
      case rel=>exact⟨m1,p1,_,vo2,Nat.le_refl _,HN⟩
     ·have HP:Hid (BlkPost B w fb rb s most Ty vo vt res (.returned (errV 8)) w3):=by
       obtain⟨q1,q2,_,_,q7,q8,q9,q10⟩:=hR.out
       refine .inr ⟨8,?_,rfl,HPS.out.below (q2.trans (HST.out.trans hst2))⟩
       rw[q10,syms_byte HE.out hyl,if_pos (by rw [List.length_append,List.length_singleton] at hle; omega)]
      clear hR HST HPS1 hst2 HE hle
      go_wp2_with fail
      go_ret
      exact HP.out
    ·have hRo:=hR.out
     have htp:=takePiece_far B w1 fb rb s p1 O most Ty vo1 vt S2 C2 b2 V2 f2 n2 HPS1.out hs hp1 (hRo.2.2.2.1.1.step hRo.2.2.2.1.2 HST.out) (hRo.2.2.2.1.2.step HST.out) hn2 HK2.out.1 HK2.out.2 y (by omega) (by omega)
     clear hRo HPS1
     go_wp2_with fail
     refine htp.mono ?_
     clear htp
     rintro e w2 ⟨hst2,⟨T,D,p2,p4,hlE,hdE,hp4,hT,hD1,hD2,rfl,hps2⟩ | ⟨c,hcE,rfl⟩⟩
     ·have HEQ:Hid (res=if (O.length:Int) < (D:Int) then .error 7 else if (most:Int) - O.length < (T:Int) then .error 8 else symbolsF s most f1 n1 f2 n2 m1 p4 (copyN D T O)):=by
       show res=_
       rw[hR.out.2.2.2.2.2.2.2,syms_piece HE.out (by omega),hlE]
       dsimp only
       rw[hdE]
       rfl
      have hpp:p1≤p4:=by
       have l1:=len_mono hlE
       have l2:=dist_mono hdE
       omega
      have HST2:=hid_of (HST.out.trans hst2)
      have HPS2:=hid_of hps2
      clear hlE hdE hst2 hps2 HST HE
      by_cases hfar:O.length < D
      ·have hpf:=put_far B w2 fb rb s p4 O most Ty vo1 vt HPS2.out T D hfar
       have HE7:Hid (res=.error 7):=HEQ.out.trans (if_pos (by omega))
       clear HEQ
       go_wp2_with fail
       refine hpf.mono ?_
       clear hpf
       rintro e w3 ⟨rfl,hst3⟩
       have HP:Hid (BlkPost B w fb rb s most Ty vo vt res (.returned (errV 7)) w3):=.inr ⟨7,HE7.out,rfl,HPS.out.below (hR.out.2.1.trans (HST2.out.trans hst3))⟩
       clear hR HST2 HPS2 hst3 HE7
       go_wp2_with fail
       go_ret
       exact HP.out
      ·have hpr:=put_repeat B w2 fb rb s p4 O most Ty vo1 vt HPS2.out hm hR.out.2.2.2.2.2.1 T D hT hD1 (by omega)
       have hcl:(copyN D T O).length=O.length+T:=copy_length D T O
       go_wp2_with fail
       refine hpr.mono ?_
       clear hpr
       rintro e w3 (⟨hle,rfl,vo2,hps3,hst3⟩ | ⟨hle,rfl,hst3⟩)
       ·have HN:Hid (PcRing B w fb rb s most Ty vo vt S1 C1 b1 V1 f1 n1 S2 C2 b2 V2 f2 n2 res m1 p4 (copyN D T O) vo2 w3):=by
         obtain⟨q1,q2,⟨q3,q4⟩,⟨q5,q6⟩,q7,q8,q9,q10⟩:=hR.out
         have st:=HST2.out.trans hst3
         refine⟨hps3,q2.trans st,⟨q3.step q4 st,q4.step st⟩,⟨q5.step q6 st,q6.step st⟩,hp4,hle,by omega,?_⟩
         rw[HEQ.out,if_neg (by omega),if_neg (by omega)]
        clear hR HST2 HPS2 hps3 hst3 HEQ hle hcl
        go_wp2_with fail
        go_roundg m1
        case measure=>omega
        case rel=>exact⟨m1,p4,_,vo2,Nat.le_refl _,HN⟩
       ·have HP:Hid (BlkPost B w fb rb s most Ty vo vt res (.returned (errV 8)) w3):=by
         obtain⟨q1,q2,_,_,q7,q8,q9,q10⟩:=hR.out
         refine .inr ⟨8,?_,rfl,HPS.out.below (q2.trans (HST2.out.trans hst3))⟩
         rw[HEQ.out,if_neg (by omega),if_pos (by omega)]
        clear hR HST2 HPS2 hst3 HEQ hle hcl
        go_wp2_with fail
        go_ret
        exact HP.out
     ·have HP:Hid (BlkPost B w fb rb s most Ty vo vt res (.returned (errV c)) w2):=by
       refine .inr ⟨c,?_,rfl,HPS.out.below (hR.out.2.1.trans (HST.out.trans hst2))⟩
       rw[hR.out.2.2.2.2.2.2.2,syms_piece HE.out (by omega)]
       rcases hcE with q | ⟨T,p2,q1,q2⟩
       ·rw[q]
       ·rw[q1]
        dsimp only
        rw[q2]
      clear hR HST hst2 HE hcE
      go_wp2_with fail
      go_ret
      exact HP.out
  ·have HP:Hid (BlkPost B w fb rb s most Ty vo vt res (.returned (errV c)) w1):=.inr ⟨c,hR.out.2.2.2.2.2.2.2.trans (syms_err hsE),rfl,HPS.out.below (hR.out.2.1.trans hst)⟩
   clear hR hst
   go_wp2_with fail
   go_ret
   exact HP.out
end
end
section
open Go.RowKit Go.Joins OutMath CodeMath TakeMath InfMath
section
variable {w0 w w':World} {b:Nat} {s:ByteArray} {p:Nat} {O:List Int} {most c:Nat} {Ty:List Int} {vo vt:Value} {g3:Nat} {F:Nat→Int}
end
theorem order_small:∀ i,i < 19→orderL.getD i 0 < 19:=by decide
theorem order_back:∀ i,i < 19→orderL.idxOf (orderL.getD i 0)=i:=by decide
theorem order_all:∀ j,j < 19→orderL.idxOf j < 19∧orderL.getD (orderL.idxOf j) 0=j:=by decide
theorem third_next (s:ByteArray) (p i:Nat) (hi:i < 19):∀ j,j < 19→upd (thirdF s p i) (orderL.getD i 0) (num s (p+3 * i) 3) j=thirdF s p (i+1) j:=by
 intro j hj
 unfold upd thirdF
 by_cases h:j=orderL.getD i 0
 ·subst h
  rw[if_pos rfl,order_back i hi,if_pos (by omega)]
 ·rw[if_neg h]
  have hne:orderL.idxOf j≠i:=fun e=>h (by rw [← e,(order_all j hj).2])
  by_cases h2:orderL.idxOf j < i
  ·rw[if_pos h2,if_pos (by omega)]
  ·rw[if_neg h2,if_neg (by omega)]
theorem third_start (s:ByteArray) (p:Nat):thirdF s p 0=fun _=>0:=by
 funext i
 unfold thirdF
 rw[if_neg (by omega)]
end
section
open Go.RowKit Go.Joins
theorem info_made:(Tryz.prog.info? 3).map (fun i=>(i.zero,i.size,i.bytes))=some (some (.int .i64 0),1,8):=by kernel_rfl
theorem make_ints (w:World) (n:Nat) (hn:n≤1048576):(Instr.makeSlice 25 (.int .i64 n) (.int .i64 n)).run Tryz.prog w=.ok (.slice (some ⟨w.heap.size,0,none⟩) n n) (w.alloc (.cells (madeCells #[Value.int .i64 0] n) 3)):=by
 obtain⟨i0,hi0,hz0,hz1,hz2⟩:=info_parts info_made
 have h:=run_make (P:=Tryz.prog) w 25 3 i0 (.int .i64 0) Tryz.underlying25 hi0 hz0 .i64 .i64 n n (by omega) (by omega) (by rw [hz2]; omega) (by omega)
 rw[hz1,Int.toNat_natCast,Nat.mul_one] at h
 exact h
end
section
open Go.RowKit Go.Joins
abbrev six (g:Nat→Int):Array Value:=#[.int .i64 (g 0),.int .i64 (g 1),.int .i64 (g 2),.int .i64 (g 3),.int .i64 (g 4),.int .i64 (g 5),.int .i64 (g 6),.int .i64 (g 7),.int .i64 (g 8),.int .i64 (g 9),.int .i64 (g 10),.int .i64 (g 11),.int .i64 (g 12),.int .i64 (g 13),.int .i64 (g 14),.int .i64 (g 15)]
def Six (w:World) (b:Nat) (t:TypeId) (g:Nat→Int):Prop:=w.heap[b]?=some (.cells (fints g 16).toArray t (0,0))
theorem Six.c {w:World} {b:Nat} {t:TypeId} {g:Nat→Int} (h:Six w b t g) (i:Nat) (hi:i < 16):w.cell? ⟨b,i,none⟩=some (.int .i64 (g i)):=by
 have k:=cell_of_block h i
 rw[k,List.getElem?_toArray,List.getElem?_eq_getElem (by rw [fints_length]; exact hi),fints_get]
theorem Six.f {w:World} {b:Nat} {t:TypeId} {g:Nat→Int} (h:Six w b t g) (i:Nat):w.frozen? ⟨b,i,none⟩=false:=unfrozen_of_block h i
theorem Six.lt {w:World} {b:Nat} {t:TypeId} {g:Nat→Int} (h:Six w b t g):b < w.heap.size:=block_lt h
theorem Six.set {w:World} {b:Nat} {t:TypeId} {g:Nat→Int} (h:Six w b t g) (i:Nat) (x:Int):Six (w.setCell ⟨b,i,none⟩ (.int .i64 x)) b t (upd g i x):=by
 have k:=block_setCell (i:=i) h (.int .i64 x)
 unfold Six
 rw[k,← fints_set]
 simp
theorem Six.congr {w:World} {b:Nat} {t:TypeId} {g g':Nat→Int} (h:Six w b t g) (e:∀ i,i < 16→g i=g' i):Six w b t g':=by
 unfold Six at h ⊢
 rw[← fints_congr e]
 exact h
end
end Go.Proofs.YtklpiihnbokkkaaGreatDoor
