/-
  Texts of the proof, put together.
-/
import Derived.Test.YtklpiihnbokkkaaGreatDoorFk23
import Derived.Test.YtklpiihnbokkkaaGreatDoorFk25
namespace Go.Proofs.YtklpiihnbokkkaaGreatDoor
section
open Go.RowKit Go.Joins OutMath CodeMath TakeMath HitMath WayMath StepMath TokMath BookMath InfMath RunsMath
theorem came_first {w:World} {K n:Nat} {a:Option Addr} {c:Nat} {f:Nat→Int} (h:NumRow w K (.slice a n c) (firstJ f n)):Came w a n f:=by
 obtain⟨a',c',hv,_,_,hC,_⟩:=h.form
 rw[firstJ_length] at hv hC
 cases hv
 rcases hC with q | ⟨g,off,q1,q2,q3⟩
 ·exact .inl q
 ·refine .inr ⟨g,off,q1,q2,fun j hj=>?_⟩
  rw[q3 j hj]
  show some (Value.int .i64 ((firstJ f n).getD j 0))=_
  rw[firstJ_getD f hj]
theorem block_fixed (s:ByteArray) (most p:Nat) (O:List Int):blockP s most 1 p O=symbolsF s most fixed1 288 fixed2 32 (8 * s.size+1) p O:=by
 unfold blockP
 rw[if_neg (by decide),if_pos rfl]
theorem block_stored (s:ByteArray) (most p:Nat) (O:List Int):blockP s most 0 p O=storedE s most p O:=by
 unfold blockP
 rw[if_pos rfl]
theorem block_none (s:ByteArray) (most p:Nat) (O:List Int):blockP s most 3 p O=.error 3:=by
 unfold blockP
 rw[if_neg (by decide),if_neg (by decide),if_neg (by decide)]
theorem blk_form {B:Nat} {w:World} {fb rb:Nat} {s:ByteArray} {most:Nat} {Ty:List Int} {vo vt:Value} {res:Except Nat (List Int×Nat)} {e:Ending} {w':World} (h:BlkPost B w fb rb s most Ty vo vt res e w'):e=.returned .nilIface∨∃ c,e=.returned (errV c):=by
 rcases h with ⟨_,_,_,_,_,_,y4,_⟩ | ⟨c,_,y2,_⟩
 ·exact .inl y4
 ·exact .inr ⟨c,y2⟩
theorem blk_from {B:Nat} {w w1:World} {fb rb:Nat} {s:ByteArray} {p:Nat} {O:List Int} {most:Nat} {Ty:List Int} {vo vt:Value} {res:Except Nat (List Int×Nat)} (hps:PS B w fb rb s p O most Ty vo vt) (st:Step fb rb w vo vt w1 vo vt) {e:Ending} {w':World} (hP:BlkPost B w1 fb rb s most Ty vo vt res e w'):BlkPost B w fb rb s most Ty vo vt res e w':=by
 rcases hP with ⟨O',p',vo',y1,y2,y3,y4,y5,y6⟩ | ⟨c,y1,y2,y3⟩
 ·exact .inl ⟨O',p',vo',y1,y2,y3,y4,y5,st.trans y6⟩
 ·exact .inr ⟨c,y1,y2,(hps.below st).trans y3⟩
section
variable (B:Nat) (w:World) (fb rb:Nat) (s:ByteArray) (p:Nat) (O:List Int) (most:Nat) (Ty:List Int) (vo vt:Value)
set_option maxHeartbeats 1600000 in
theorem takeFixed_any (h:PS B w fb rb s p O most Ty vo vt) (hs:s.size≤12000) (hp:p≤8 * s.size) (hm:most≤12000) (hO:O.length≤most):
  Calls Tryz.prog 94 #[.pointer (some ⟨fb,0,none⟩)] w (BlkPost B w fb rb s most Ty vo vt (blockP s most 1 p O)):=by
 have HPS:=hid_of h
 rw[block_fixed]
 have hfx:=implFixed w
 have htb:=fun (w1:World) (a1:Option Addr) (c1:Nat) (a2:Option Addr) (c2:Nat) (hb:Below w.heap.size w w1) (q1:Came w1 a1 288 fixed1) (q2:Came w1 a2 32 fixed2)=>two_books B fb rb s p O most Ty vo vt a1 288 c1 fixed1 w1 q1 fixed1_coded a2 32 c2 fixed2 q2 fixed2_coded (h.called hb) hs hp hm hO
 clear h
 generalize symbolsF s most fixed1 288 fixed2 32 (8 * s.size+1) p O=res at *
 go_enter Tryz.func94,Tryz.ntmps94
 go_wp2_with fail
 refine hfx.mono ?_
 clear hfx
 rintro e w1 ⟨a1,c1,a2,c2,K,rfl,r1,r2,_,b1,_⟩
 have htb1:=htb w1 a1 c1 a2 c2 b1 (came_first r1) (came_first r2)
 have HF:Hid (∀ e w',BlkPost B w1 fb rb s most Ty vo vt res e w'→BlkPost B w fb rb s most Ty vo vt res e w'):=fun e w' hP=>blk_from HPS.out (Step.called b1) hP
 clear htb r1 r2 b1 HPS
 go_wp2_with fail
 refine htb1.mono ?_
 clear htb1
 rintro e w7 ⟨b1,rfl,htb2⟩
 go_wp2_with fail
 refine htb2.mono ?_
 clear htb2
 rintro e w8 ⟨b2,rfl,htb3⟩
 go_wp2_with fail
 refine htb3.mono ?_
 clear htb3
 intro e w9 hP
 have HP:=hid_of (HF.out e w9 hP)
 have hform:=blk_form hP
 clear hP HF
 rcases hform with rfl | ⟨c,rfl⟩
 all_goals
  go_wp2_with fail
  go_ret
  exact HP.out
theorem takeNone_any (_h:PS B w fb rb s p O most Ty vo vt):
  Calls Tryz.prog 96 #[.pointer (some ⟨fb,0,none⟩)] w (BlkPost B w fb rb s most Ty vo vt (blockP s most 3 p O)):=by
 have HP:Hid (BlkPost B w fb rb s most Ty vo vt (blockP s most 3 p O) (.returned (errV 3)) w):=.inr ⟨3,block_none s most p O,rfl,Below.refl _ _⟩
 clear _h
 go_enter Tryz.func96,Tryz.ntmps96
 go_wp2_with fail
 go_ret
 exact HP.out
theorem store_func (W:World) (g o:Nat) (f:Fn) (xs ys:Array Value) (h1:(W.cell? ⟨g,o,none⟩).isSome=true) (h2:W.frozen? ⟨g,o,none⟩=false):(store ⟨g,o,none⟩ (Value.func f xs ys)).run Tryz.prog W=.ok () (W.setCell ⟨g,o,none⟩ (Value.func f xs ys)):=by
 rw[run_store _ _ _ _ _ rfl]
 cases e:W.cell? ⟨g,o,none⟩ with
 | none=>
  rw[e] at h1
  cases h1
 | some v=>
  dsimp only
  rw[h2]
  rfl
def TkbPost (B:Nat) (w:World) (fb rb:Nat) (s:ByteArray) (p:Nat) (O:List Int) (most:Nat) (Ty:List Int) (vo vt:Value) (e:Ending) (w':World):Prop:=
 (∃ O' p' vo' vt',p+3≤8 * s.size∧blockP s most (num s (p+1) 2) (p+3) O=.ok (O',p')∧p'≤8 * s.size∧O'.length≤most∧e=.returned (.tuple #[.bool (decide (num s p 1=1)),.nilIface])∧PS B w' fb rb s p' O' most (Ty ++ [num s (p+1) 2]) vo' vt'∧Step fb rb w vo vt w' vo' vt')∨
 (∃ c x,(¬ p+3≤8 * s.size∧c=2∨p+3≤8 * s.size∧blockP s most (num s (p+1) 2) (p+3) O=.error c)∧e=.returned (.tuple #[.bool x,errV c])∧Below B w w')
theorem head_of (s:ByteArray) (p:Nat):num s p 3 / 2=num s (p+1) 2∧num s p 3 % 2=num s p 1:=by
 have h1:=num_split s p 1 2
 have b1:=num_bd s p 1
 have b2:=num_bd s (p+1) 2
 rw[show p2 1=2 by decide +kernel] at h1 b1
 rw[show 1+2=3 from rfl] at h1
 omega
set_option maxRecDepth 100000 in
set_option maxHeartbeats 3200000 in
theorem takeBlock_any (h:PS B w fb rb s p O most Ty vo vt) (hs:s.size≤12000) (hp:p≤8 * s.size) (hm:most≤12000) (hO:O.length≤most) (hG:OrderG w) (hGB:1 < B) (hT:Ty.length≤96000):
  Calls Tryz.prog 57 #[.pointer (some ⟨fb,0,none⟩)] w (TkbPost B w fb rb s p O most Ty vo vt):=by
 have HPS:=hid_of h
 have HG:=hid_of hG
 clear h hG
 by_cases h3:p+3≤8 * s.size
 ·have htk:=take_yes B w fb rb s p O most Ty vo vt HPS.out hs 3 (by omega) h3
  obtain⟨e1,e2⟩:=head_of s p
  have q0:=num_bd s p 3
  rw[show p2 3=8 by decide +kernel] at q0
  have ea:=and1 (num s p 3) q0.1 (by omega)
  rw[e2] at ea
  have HPO:Hid (∀ w' e',(∃ O' p' vo' vt',blockP s most (num s (p+1) 2) (p+3) O=.ok (O',p')∧p'≤8 * s.size∧O'.length≤most∧e'=.returned (.tuple #[.bool (decide (num s p 1=1)),.nilIface])∧PS B w' fb rb s p' O' most (Ty ++ [num s (p+1) 2]) vo' vt'∧Step fb rb w vo vt w' vo' vt')∨(∃ c x,blockP s most (num s (p+1) 2) (p+3) O=.error c∧e'=.returned (.tuple #[.bool x,errV c])∧Below B w w')→TkbPost B w fb rb s p O most Ty vo vt e' w'):=fun w' e' q=>by
   rcases q with ⟨O',p',vo',vt',y⟩ | ⟨c,x,y1,y2,y3⟩
   ·exact .inl ⟨O',p',vo',vt',h3,y⟩
   ·exact .inr ⟨c,x,.inr ⟨h3,y1⟩,y2,y3⟩
  have hlast:(num s p 1=0∨num s p 1=1):=by
   have:=num_bd s p 1
   rw[show p2 1=2 by decide +kernel] at this
   omega
  have hk4:0≤num s (p+1) 2∧num s (p+1) 2 < 4:=by
   have:=num_bd s (p+1) 2
   rw[show p2 2=4 by decide +kernel] at this
   exact this
  clear e2
  generalize num s p 3=x at *
  generalize num s p 1=l1 at *
  generalize num s (p+1) 2=k at *
  go_enter Tryz.func57,Tryz.ntmps57
  go_wp2_with fail
  refine htk.mono ?_
  clear htk
  rintro e w1 ⟨rfl,hS1,hg1⟩
  have HS1:=hid_of hS1
  have HT1:Hid (Step fb rb w vo vt w1 vo vt):=step_read hg1
  have c3:=hS1.1.cells.2.2.2
  have hl1:=hS1.ltf
  obtain⟨av,cv,hvt,_⟩:=hS1.2.2.2.1.form
  have hNR:=hS1.2.2.2.1
  have hBl:=hS1.2.2.2.2.2.2.2.2.2.2
  have HVT:=hid_of hvt
  rw[hvt] at c3 hNR
  have HNR:=hid_of hNR
  clear hS1 hg1 hNR hvt
  go_wp2_with (at_builtin; refine nums_append1 (S:=B) (xs:=Ty) rfl _ _ rfl rfl (World.ownsRow.alloc HNR.out _) w1.heap.size 1 k rfl (by simp) (by omega) (by simp; omega) ?_)
  intro v2 w2 y1 y2 y3
  have hgr:w1.grownBy w2 vt.ownBlock:=by
   rw[HVT.out]
   exact (grown_called (bstart w1 _) _).trans y2
  have hmv:v2.ownBlock=vt.ownBlock∨∀ k,v2.ownBlock=some k→w1.heap.size≤k:=by
   rcases y3 with q | q
   ·exact .inl (by rw [HVT.out]; exact q)
   ·refine .inr (fun k e=>?_)
    rw[q] at e
    have:=Option.some.inj e
    omega
  obtain⟨k1,k2,k3⟩:=HS1.out.typed y1 hgr hmv
  have n3:=k1.cells.2.2.2
  have nf:=k1.free 3
  have nl:=k1.lt
  obtain⟨a2,c2,hv2,_⟩:=y1.form
  rw[List.length_append,List.length_singleton] at hv2
  subst hv2
  have HS2:=hid_of k2
  have HT2:=hid_of (HT1.out.trans k3)
  clear HS1 HT1 HNR y1 y2 y3 hgr hmv k1 k2 k3 HVT c3
  have hst:=fun (W:World) (o:Nat) (f:Fn) (xs ys:Array Value)=>store_func W w2.heap.size o f xs ys
  have hG2:OrderG (w2.setCell ⟨fb,3,none⟩ (.slice a2 (Ty.length+1) c2)):=HG.out.below (HPS.out.below HT2.out) hGB
  have HAL:=hid_of (fun (o:Obj)=>And.intro (HS2.out.called (bstart (w2.setCell ⟨fb,3,none⟩ (.slice a2 (Ty.length+1) c2)) o)) (And.intro (HT2.out.trans (Step.called (bstart (w2.setCell ⟨fb,3,none⟩ (.slice a2 (Ty.length+1) c2)) o))) (hG2.below ((bstart (w2.setCell ⟨fb,3,none⟩ (.slice a2 (Ty.length+1) c2)) o).mono HS2.out.2.2.2.2.2.2.2.2.2.2) hGB)))
  clear hG2 HG HS2 HT2
  have HFIN:Hid (∀ (w3:World) (e:Ending) (w':World),Step fb rb w vo vt w3 vo (.slice a2 (Ty.length+1) c2)→BlkPost B w3 fb rb s most (Ty ++ [k]) vo (.slice a2 (Ty.length+1) c2) (blockP s most k (p+3) O) e w'→(e=.returned .nilIface∧TkbPost B w fb rb s p O most Ty vo vt (.returned (.tuple #[.bool (decide (l1=1)),.nilIface])) w')∨∃ c,e=.returned (errV c)∧∀ x,TkbPost B w fb rb s p O most Ty vo vt (.returned (.tuple #[.bool x,errV c])) w'):=fun w3 e w' st hP=>by
   rcases hP with ⟨O',p',vo',y1,y2,y3,y4,y5,y6⟩ | ⟨c,y1,y2,y3⟩
   ·exact .inl ⟨y4,HPO.out w' _ (.inl ⟨O',p',vo',_,y1,y2,y3,rfl,y5,st.trans y6⟩)⟩
   ·exact .inr ⟨c,y2,fun x=>HPO.out w' _ (.inr ⟨c,x,y1,rfl,(HPS.out.below st).trans y3⟩)⟩
  have HCL:Hid (∀ w3,PS B w3 fb rb s (p+3) O most (Ty ++ [k]) vo (.slice a2 (Ty.length+1) c2)→OrderG w3→
    (k=0→Calls Tryz.prog 93 #[.pointer (some ⟨fb,0,none⟩)] w3 (BlkPost B w3 fb rb s most (Ty ++ [k]) vo (.slice a2 (Ty.length+1) c2) (blockP s most k (p+3) O)))∧
    (k=1→Calls Tryz.prog 94 #[.pointer (some ⟨fb,0,none⟩)] w3 (BlkPost B w3 fb rb s most (Ty ++ [k]) vo (.slice a2 (Ty.length+1) c2) (blockP s most k (p+3) O)))∧
    (k=2→Calls Tryz.prog 95 #[.pointer (some ⟨fb,0,none⟩)] w3 (BlkPost B w3 fb rb s most (Ty ++ [k]) vo (.slice a2 (Ty.length+1) c2) (blockP s most k (p+3) O)))∧
    (k=3→Calls Tryz.prog 96 #[.pointer (some ⟨fb,0,none⟩)] w3 (BlkPost B w3 fb rb s most (Ty ++ [k]) vo (.slice a2 (Ty.length+1) c2) (blockP s most k (p+3) O)))):=fun w3 hps hg=>by
   refine⟨fun e=>?_,fun e=>?_,fun e=>?_,fun e=>?_⟩
   ·subst e
    rw[block_stored]
    exact takeStored_any B w3 fb rb s (p+3) O most _ vo _ hps hs h3 hm hO
   ·subst e
    exact takeFixed_any B w3 fb rb s (p+3) O most _ vo _ hps hs h3 hm hO
   ·subst e
    exact takeWoven_any B w3 fb rb s (p+3) O most _ vo _ hps hs h3 hm hO hg hGB
   ·subst e
    exact takeNone_any B w3 fb rb s (p+3) O most _ vo _ hps
  clear HPO HPS
  rcases (show k=0∨k=1∨k=2∨k=3 by omega) with hk | hk | hk | hk
  ·have HC:=hid_of (fun w3 q1 q2=>(HCL.out w3 q1 q2).1 hk)
   clear HCL
   generalize blockP s most k (p+3) O=res at *
   subst hk
   rcases hlast with rfl | rfl
   all_goals
    go_wp2_with fail
    obtain⟨z1,z2,z3⟩:=HAL.out (.cells #[.func (.func 93) #[.pointer (some ⟨fb,0,none⟩)] #[],.func (.func 94) #[.pointer (some ⟨fb,0,none⟩)] #[],.func (.func 95) #[.pointer (some ⟨fb,0,none⟩)] #[],.func (.func 96) #[.pointer (some ⟨fb,0,none⟩)] #[]] 135)
    refine (HC.out _ z1 z3).mono ?_
    intro e w4 hP
    have HE:=hid_of (HFIN.out _ e w4 z2 hP)
    clear z1 z2 z3 hP HC HFIN HAL
    rcases HE.out with ⟨rfl,hE⟩ | ⟨c,rfl,hE⟩
    all_goals
     have HX:=hid_of hE
     clear hE HE
     go_wp2_with fail
     go_ret2
     first | exact HX.out | exact HX.out _
  ·have HC:=hid_of (fun w3 q1 q2=>(HCL.out w3 q1 q2).2.1 hk)
   clear HCL
   generalize blockP s most k (p+3) O=res at *
   subst hk
   rcases hlast with rfl | rfl
   all_goals
    go_wp2_with fail
    obtain⟨z1,z2,z3⟩:=HAL.out (.cells #[.func (.func 93) #[.pointer (some ⟨fb,0,none⟩)] #[],.func (.func 94) #[.pointer (some ⟨fb,0,none⟩)] #[],.func (.func 95) #[.pointer (some ⟨fb,0,none⟩)] #[],.func (.func 96) #[.pointer (some ⟨fb,0,none⟩)] #[]] 135)
    refine (HC.out _ z1 z3).mono ?_
    intro e w4 hP
    have HE:=hid_of (HFIN.out _ e w4 z2 hP)
    clear z1 z2 z3 hP HC HFIN HAL
    rcases HE.out with ⟨rfl,hE⟩ | ⟨c,rfl,hE⟩
    all_goals
     have HX:=hid_of hE
     clear hE HE
     go_wp2_with fail
     go_ret2
     first | exact HX.out | exact HX.out _
  ·have HC:=hid_of (fun w3 q1 q2=>(HCL.out w3 q1 q2).2.2.1 hk)
   clear HCL
   generalize blockP s most k (p+3) O=res at *
   subst hk
   rcases hlast with rfl | rfl
   all_goals
    go_wp2_with fail
    obtain⟨z1,z2,z3⟩:=HAL.out (.cells #[.func (.func 93) #[.pointer (some ⟨fb,0,none⟩)] #[],.func (.func 94) #[.pointer (some ⟨fb,0,none⟩)] #[],.func (.func 95) #[.pointer (some ⟨fb,0,none⟩)] #[],.func (.func 96) #[.pointer (some ⟨fb,0,none⟩)] #[]] 135)
    refine (HC.out _ z1 z3).mono ?_
    intro e w4 hP
    have HE:=hid_of (HFIN.out _ e w4 z2 hP)
    clear z1 z2 z3 hP HC HFIN HAL
    rcases HE.out with ⟨rfl,hE⟩ | ⟨c,rfl,hE⟩
    all_goals
     have HX:=hid_of hE
     clear hE HE
     go_wp2_with fail
     go_ret2
     first | exact HX.out | exact HX.out _
  ·have HC:=hid_of (fun w3 q1 q2=>(HCL.out w3 q1 q2).2.2.2 hk)
   clear HCL
   generalize blockP s most k (p+3) O=res at *
   subst hk
   rcases hlast with rfl | rfl
   all_goals
    go_wp2_with fail
    obtain⟨z1,z2,z3⟩:=HAL.out (.cells #[.func (.func 93) #[.pointer (some ⟨fb,0,none⟩)] #[],.func (.func 94) #[.pointer (some ⟨fb,0,none⟩)] #[],.func (.func 95) #[.pointer (some ⟨fb,0,none⟩)] #[],.func (.func 96) #[.pointer (some ⟨fb,0,none⟩)] #[]] 135)
    refine (HC.out _ z1 z3).mono ?_
    intro e w4 hP
    have HE:=hid_of (HFIN.out _ e w4 z2 hP)
    clear z1 z2 z3 hP HC HFIN HAL
    rcases HE.out with ⟨rfl,hE⟩ | ⟨c,rfl,hE⟩
    all_goals
     have HX:=hid_of hE
     clear hE HE
     go_wp2_with fail
     go_ret2
     first | exact HX.out | exact HX.out _
 ·have htk:=take_no B w fb rb s p O most Ty vo vt HPS.out hs hp 3 (by omega) h3
  go_enter Tryz.func57,Tryz.ntmps57
  go_wp2_with fail
  refine htk.mono ?_
  clear htk
  rintro e w1 ⟨rfl,hS1,hg1⟩
  have HP:Hid (TkbPost B w fb rb s p O most Ty vo vt (.returned (.tuple #[.bool false,errV 2])) w1):=.inr ⟨2,false,.inl ⟨h3,rfl⟩,rfl,HPS.out.below (step_read hg1)⟩
  clear hS1 hg1 HPS HG
  go_wp2_with fail
  go_ret2
  exact HP.out
end
end
section
open Go.RowKit Go.Joins OutMath CodeMath TakeMath HitMath WayMath StepMath TokMath BookMath InfMath RunsMath
def InflPost (w:World) (s:ByteArray) (most:Int) (res:Except Nat (List Int×Nat×List Int)) (e:Ending) (w':World):Prop:=
 Below w.heap.size w w'∧((∃ (O:List Int) (p:Nat) (Ty:List Int) (fb rb:Nat) (vo vt:Value) (n:Nat),res=.ok (O,p,Ty)∧p≤8 * s.size∧Ty.length≤p∧s.size≤12000∧most=(n:Int)∧e=.returned (.tuple #[.pointer (some ⟨fb,0,none⟩),.nilIface])∧PS w.heap.size w' fb rb s p O n Ty vo vt)∨(∃ c,res=.error c∧e=.returned (.tuple #[.pointer none,errV c])))
def IpRing (w0:World) (fb rb:Nat) (s:ByteArray) (most:Nat) (res:Except Nat (List Int×Nat×List Int)) (m p:Nat) (O Ty:List Int) (vo vt:Value) (w':World):Prop:=
 PS w0.heap.size w' fb rb s p O most Ty vo vt∧Below w0.heap.size w0 w'∧OrderG w'∧p≤8 * s.size∧O.length≤most∧Ty.length≤p∧8 * s.size+1≤m+p∧res=blocksP s most m p O Ty
theorem blocksP_short {s:ByteArray} {most m p:Nat} {O Ty:List Int} (h:¬ p+3≤8 * s.size):blocksP s most (m+1) p O Ty=.error 2:=by
 rw[blocksP,if_neg h]
theorem blocksP_err {s:ByteArray} {most m p c:Nat} {O Ty:List Int} (h:p+3≤8 * s.size) (e:blockP s most (num s (p+1) 2) (p+3) O=.error c):blocksP s most (m+1) p O Ty=.error c:=by
 rw[blocksP,if_pos h,e]
theorem blocksP_go {s:ByteArray} {most m p:Nat} {O Ty O':List Int} {p':Nat} (h:p+3≤8 * s.size) (e:blockP s most (num s (p+1) 2) (p+3) O=.ok (O',p')):blocksP s most (m+1) p O Ty=if num s p 1=0 then blocksP s most m p' O' (Ty ++ [num s (p+1) 2]) else .ok (O',p',Ty ++ [num s (p+1) 2]):=by
 rw[blocksP,if_pos h,e]
theorem blockP_go {s:ByteArray} {most:Nat} {k:Int} {p:Nat} {O O':List Int} {p':Nat} (h:blockP s most k p O=.ok (O',p')):p≤p':=by
 rcases block_alike s most k p O with ⟨r,q1,q2⟩ | ⟨c,c',q1,q2⟩
 ·rw[h] at q1
  cases q1
  exact block_go q2
 ·rw[h] at q1
  cases q1
set_option maxRecDepth 100000 in
set_option maxHeartbeats 3200000 in
theorem inflated_in (s:ByteArray) (most:Nat) (w:World) (hs:s.size≤12000) (hm:most≤12000) (hG:OrderG w):
  Calls Tryz.prog 25 #[.string s,.int .i64 (most:Int)] w (InflPost w s most (blocksP s most (8 * s.size+1) 0 [] [])):=by
 have d1:decide ((12000:Int) < (s.size:Int))=false:=decide_eq_false (by omega)
 have d2:decide (12000 < s.size)=false:=decide_eq_false (by omega)
 have d3:decide ((12000:Int) < (most:Int))=false:=decide_eq_false (by omega)
 have d4:decide (12000 < most)=false:=decide_eq_false (by omega)
 have d5:decide ((most:Int) < 0)=false:=decide_eq_false (by omega)
 obtain⟨res,hres⟩:∃ res,res=blocksP s most (8 * s.size+1) 0 [] []:=⟨_,rfl⟩
 rw[← hres]
 have hGB:=hG.1
 have H0:Hid (IpRing w (w.heap.size+1) w.heap.size s most res (8 * s.size+1) 0 [] [] (.slice none 0 0) (.slice none 0 0) ((w.alloc (.cells #[.string s,.int .i64 0] 55)).alloc (.cells #[.pointer (some ⟨w.heap.size,0,none⟩),.slice none 0 0,.int .i64 (most:Int),.slice none 0 0] 52))):=by
  have hsz:(w.alloc (.cells #[.string s,.int .i64 0] 55)).heap.size=w.heap.size+1:=World.size_alloc _ _
  have hb:Below w.heap.size w ((w.alloc (.cells #[.string s,.int .i64 0] 55)).alloc (.cells #[.pointer (some ⟨w.heap.size,0,none⟩),.slice none 0 0,.int .i64 (most:Int),.slice none 0 0] 52)):=bal (bstart w _) _
  refine⟨⟨?_,?_,OR.nil _ _,NumRow.nil _ _,.inl rfl,⟨by simp [Value.ownBlock],by simp [Value.ownBlock]⟩,⟨by simp [Value.ownBlock],by simp [Value.ownBlock]⟩,by omega,by omega,Nat.le_refl _,hb.size⟩,hb,hG.below hb hGB,by omega,by simp,by simp,by omega,hres⟩
  ·have h:=heap_alloc_new (w.alloc (.cells #[.string s,.int .i64 0] 55)) (.cells #[.pointer (some ⟨w.heap.size,0,none⟩),.slice none 0 0,.int .i64 (most:Int),.slice none 0 0] 52)
   rw[hsz] at h
   exact h
  ·exact (Below.heap_alloc _ _ _ (by simp)).trans (heap_alloc_new w _)
 clear hres hG
 go_enter Tryz.func25,Tryz.ntmps25
 go_wp2_with fail
 generalize World.alloc (w.alloc _) _=W at H0
 go_loopg [] (8 * s.size+2) (fun gk w'=>∃ (m p:Nat) (O Ty:List Int) (vo vt:Value),m≤gk∧Hid (IpRing w (w.heap.size+1) w.heap.size s most res m p O Ty vo vt w'))
 case atStart=>exact⟨8 * s.size+1,0,[],[],_,_,by omega,H0⟩
 case round=>
  clear H0
  obtain⟨m,p,O,Ty,vo,vt,hgk,hR⟩:=hrel
  obtain⟨m1,rfl⟩:∃ m1,m=m1+1:=⟨m - 1,by have:=hR.out.2.2.2.1; have:=hR.out.2.2.2.2.2.2.1; omega⟩
  have htb:=takeBlock_any w.heap.size wr (w.heap.size+1) w.heap.size s p O most Ty vo vt hR.out.1 hs hR.out.2.2.2.1 hm hR.out.2.2.2.2.1 hR.out.2.2.1 hGB (by have:=hR.out.2.2.2.1; have:=hR.out.2.2.2.2.2.1; omega)
  go_wp2_with fail
  refine htb.mono ?_
  clear htb
  rintro e w1 (⟨O',p',vo',vt',h3,hbk,hp',hO',rfl,hps,hst⟩ | ⟨c,x,hcc,rfl,hbl⟩)
  ·have hgo:=blocksP_go (m:=m1) (Ty:=Ty) h3 hbk
   have hmo:=blockP_go hbk
   have hb1:=hR.out.2.1.trans (hR.out.1.below hst)
   have hog:OrderG w1:=hR.out.2.2.1.below (hR.out.1.below hst) hGB
   have hTl:(Ty ++ [num s (p+1) 2]).length≤p':=by
    have:=hR.out.2.2.2.2.2.1
    rw[List.length_append,List.length_singleton]
    omega
   have hl01:num s p 1=0∨num s p 1=1:=by
    have:=num_bd s p 1
    rw[show p2 1=2 by decide +kernel] at this
    omega
   have hres:=hR.out.2.2.2.2.2.2.2.trans hgo
   have hmp:=hR.out.2.2.2.2.2.2.1
   rcases hl01 with h0 | h0
   ·rw[h0,if_pos rfl] at hres
    have HN:Hid (IpRing w (w.heap.size+1) w.heap.size s most res m1 p' O' (Ty ++ [num s (p+1) 2]) vo' vt' w1):=⟨hps,hb1,hog,hp',hO',hTl,by omega,hres⟩
    rw[h0,show decide ((0:Int)=1)=false from rfl]
    clear hR hps hst hb1 hog hres hgo hbk hTl h0
    go_wp2_with fail
    go_roundg m1
    case measure=>omega
    case rel=>exact⟨m1,p',O',_,vo',vt',Nat.le_refl _,HN⟩
   ·rw[h0,if_neg (by decide)] at hres
    have HP:Hid (InflPost w s most res (.returned (.tuple #[.pointer (some ⟨w.heap.size+1,0,none⟩),.nilIface])) w1):=⟨hb1,.inl ⟨O',p',_,_,_,vo',vt',most,hres,hp',hTl,hs,rfl,rfl,hps⟩⟩
    rw[h0,show decide ((1:Int)=1)=true from rfl]
    clear hR hps hst hb1 hog hres hgo hbk hTl h0
    go_wp2_with fail
    go_ret2
    exact HP.out
  ·have HP:Hid (InflPost w s most res (.returned (.tuple #[.pointer none,errV c])) w1):=by
    refine⟨hR.out.2.1.trans hbl,.inr ⟨c,hR.out.2.2.2.2.2.2.2.trans ?_,rfl⟩⟩
    rcases hcc with ⟨q1,q2⟩ | ⟨q1,q2⟩
    ·rw[q2]
     exact blocksP_short q1
    ·exact blocksP_err q1 q2
   clear hR hcc hbl
   go_wp2_with fail
   go_ret2
   exact HP.out
theorem inflated_long (s:ByteArray) (most:Int) (w:World) (hs:s.size≤1048576) (h:¬ (s.size≤12000∧0≤most∧most≤12000)):
  Calls Tryz.prog 25 #[.string s,.int .i64 most] w (InflPost w s most (.error 1)):=by
 have HP:Hid (InflPost w s most (.error 1) (.returned (.tuple #[.pointer none,errV 1])) w):=⟨Below.refl _ _,.inr ⟨1,rfl,rfl⟩⟩
 by_cases h1:12000 < s.size
 ·have d1:decide ((12000:Int) < (s.size:Int))=true:=decide_eq_true (by omega)
  have d2:decide (12000 < s.size)=true:=decide_eq_true h1
  go_enter Tryz.func25,Tryz.ntmps25
  go_wp2_with fail
  go_ret2
  exact HP.out
 ·have d1:decide ((12000:Int) < (s.size:Int))=false:=decide_eq_false (by omega)
  have d2:decide (12000 < s.size)=false:=decide_eq_false h1
  by_cases h2:most < 0
  ·have d3:decide (most < 0)=true:=decide_eq_true h2
   go_enter Tryz.func25,Tryz.ntmps25
   go_wp2_with fail
   go_ret2
   exact HP.out
  ·have d3:decide (most < 0)=false:=decide_eq_false h2
   have d4:decide (12000 < most)=true:=decide_eq_true (by omega)
   go_enter Tryz.func25,Tryz.ntmps25
   go_wp2_with fail
   go_ret2
   exact HP.out
theorem inflated_any (s:ByteArray) (most:Int) (w:World) (hs:s.size≤1048576) (hG:OrderG w):
  Calls Tryz.prog 25 #[.string s,.int .i64 most] w (InflPost w s most (inflateP s most)):=by
 unfold inflateP
 by_cases h:s.size≤12000∧0≤most∧most≤12000
 ·rw[if_pos h]
  obtain⟨n,rfl⟩:=Int.eq_ofNat_of_zero_le h.2.1
  exact inflated_in s n w h.1 (by omega) hG
 ·rw[if_neg h]
  exact inflated_long s most w hs h
end
section
open Go.RowKit Go.Joins TokMath InfMath
theorem or_text {w:World} {base:Nat} {vo:Value} {O:List Int} (h:OR w base vo O) (W:World) (hW:∀ g,g < w.heap.size→W.heap[g]?=w.heap[g]?):(convert 22 9 vo).run Tryz.prog W=.ok (.string (strOfNums O)) W:=by
 rcases h.2 with ⟨rfl,h0⟩ | ⟨g,cap,cur,rfl,hb,hg,hc,hm,hs,ht⟩
 ·obtain rfl:O=[]:=List.eq_nil_of_length_eq_zero h0
  exact run_convert_bytes_nil W 22 5 Tryz.underlying22 Tryz.underlying5 0 0 9 Tryz.underlying9
 ·refine run_convert_bytes_arg W 22 5 Tryz.underlying22 Tryz.underlying5 g 0 O.length cap O rfl (fun i hi=>?_) 9 Tryz.underlying9
  rw[Nat.zero_add,World.cell?_of_block (a:=⟨g,i,none⟩) (hW g (block_lt hg)),h.cellAt i (by omega)]
  unfold u8l
  rw[List.getElem?_map,List.getElem?_eq_getElem hi,List.getD_eq_getElem?_getD,List.getElem?_eq_getElem hi]
  rfl
end
section
open Go.RowKit Go.Joins OutMath TokMath InfMath
theorem inflateP_ok {s:ByteArray} {most:Int} {r:List Int×Nat×List Int} (h:inflateE s most=.ok r):inflateP s most=.ok r:=by
 rcases inflate_alike s most with ⟨r',h1,h2⟩ | ⟨c,c',_,h2⟩
 ·rw[h] at h2
  cases h2
  exact h1
 ·rw[h] at h2
  cases h2
set_option maxRecDepth 100000 in
set_option maxHeartbeats 3200000 in
theorem implInflate_ok (s:ByteArray) (most:Int) (O:List Int) (p:Nat) (Ty:List Int) (w:World) (hs:s.size≤12000) (hG:OrderG w) (h:inflateE s most=.ok (O,p,Ty)):
  Calls Tryz.prog 11 #[.string s,.int .i64 most] w fun e w'=>e=.returned (.tuple #[.string (strOfNums O),.int .i64 (((p+7) / 8:Nat):Int),.int .i64 0])∧Below w.heap.size w w':=by
 have hi:=inflated_any s most w (by omega) hG
 rw[inflateP_ok h] at hi
 go_enter Tryz.func11,Tryz.ntmps11
 go_wp2_with fail
 refine hi.mono ?_
 clear hi
 rintro e w1 ⟨hB,⟨O',p',Ty',fb,rb,vo,vt,n,hr,hp,hT,hsz,hmo,rfl,hps⟩ | ⟨c,hr,rfl⟩⟩
 ·cases hr
  have hcs:=hps.1.cells
  have hrd:=hps.2.1
  have hl:=hps.ltf
  have hlr:=hps.ltr
  have hcv:=or_text hps.2.2.1 w1.drew (fun g _=>rfl)
  have HBB:=hid_of hB
  obtain⟨av,cv,hv⟩:=hps.2.2.1.form
  subst hv
  have HBF:Hid (∀ W:World,Calls Tryz.prog 27 #[.int .i64 (p:Int)] W fun e w'=>e=.returned (.int .i64 (((p+7) / 8:Nat):Int))∧w'=W):=fun W=>by
   have hb:=bytesFor_any (p:Int) W (by omega) (by omega)
   rw[show ((p:Int)+7) / 8=(((p+7) / 8:Nat):Int) by omega] at hb
   exact hb
  obtain⟨c0,c1,_,_⟩:=hcs
  have d1:w1.cell? ⟨rb,1,none⟩=some (.int .i64 (p:Int)):=hrd.c1
  clear hps hB hrd
  go_wp2_with fail
  go_region_with (go_at_call 27; refine (HBF.out _).mono ?_; rintro e w' ⟨rfl,rfl⟩)
  all_goals
   go_wp2_with fail
   refine bodyPost_ret (v:=.tuple #[.string (strOfNums O),.int .i64 (((p+7) / 8:Nat):Int),.int .i64 0]) ?_ rfl ⟨rfl,?_⟩
   ·simp[results,Tryz.results11,go_sem]
   ·first | exact HBB.out | exact HBB.out.drew
 ·cases hr
end
section
open Go.RowKit
def StoredAnswer:Prop:=∀ (s:ByteArray) (c:Int) (t:ByteArray) (last:Bool) (w:World),s.size≤1048576→-9223372036854775808≤c→c≤9223372036854775807→t.size≤1048576→
 Calls Tryz.prog 50 #[.agg #[.string s,.int .i64 c],.string t,.bool last] w fun e w'=>e=.returned (blkAns (storedOut s c t last))∧Below w.heap.size w w'
end
section
open Go.RowKit TokMath
def FixedAnswer:Prop:=∀ (s:ByteArray) (c:Int) (a:Option Addr) (cp:Nat) (L:List Tok) (last:Bool) (w:World),s.size≤1048576→-9223372036854775808≤c→c≤9223372036854775807→TCame w a L.length (fun j=>L.getD j (0,0,0))→L.length≤1048576→
 Calls Tryz.prog 52 #[.agg #[.string s,.int .i64 c],.slice a L.length cp,.bool last] w fun e w'=>e=.returned (blkAns (fixedOut s c L last))∧Below w.heap.size w w'
end
section
open Go.RowKit Go.Joins TokMath SearchMath DeflMath
theorem sizeL_take {L:List Tok} {j:Nat} (h:j < L.length):sizeL (L.take (j+1))=sizeL (L.take j)+sizeT (L.getD j (0,0,0)):=by
 rw[List.take_add_one,List.getElem?_eq_getElem h,sizeL_app,List.getD_eq_getElem?_getD,List.getElem?_eq_getElem h]
 rfl
theorem sizeT_max {x y z:Int} (h:TokRight (x,y,z)):max 1 y=((sizeT (x,y,z):Nat):Int):=by
 unfold sizeT TokRight at *
 simp only [] at h ⊢
 split at h
 ·rename_i q
  rw[if_pos q,q]
  rfl
 ·rename_i q
  rw[if_neg q]
  omega
theorem sizeL_le258:∀ {L:List Tok},(∀ t∈L,TokRight t)→sizeL L≤258 * L.length
 | [],_=>Nat.le_refl _
 | t :: R,h=>by
  have h2:=sizeL_le258 fun u hu=>h u (List.mem_cons_of_mem t hu)
  have h1:sizeT t≤258:=by
   have:=h t List.mem_cons_self
   unfold TokRight at this
   unfold sizeT
   split <;> rename_i q
   ·omega
   ·rw[if_neg q] at this
    omega
  show sizeT t+sizeL R≤258 * (R.length+1)
  omega
theorem stepSize10 (x y z:Int) (w:World):
  Calls Tryz.prog 122 #[.agg #[.int .i64 x,.int .i64 y,.int .i64 z]] w fun e w'=>e=.returned (.int .i64 (max 1 y))∧Below w.heap.size w w':=by
 have hmx:(if (1:Int) < y then y else 1)=max 1 y:=by split <;> omega
 go_enter Tryz.func122,Tryz.ntmps122
 go_wp2_with fail
 go_ret
 refine⟨?_,bstart _ _⟩
 first | rfl | (rw [hmx]) | (simp only [hmx])
set_option maxHeartbeats 1600000 in
theorem madeSize_any (a:Option Addr) (c:Nat) (L:List Tok) (w:World) (hC:TCame w a L.length (fun j=>L.getD j (0,0,0))) (hn:L.length≤1048576) (hR:∀ t∈L,TokRight t):
  Calls Tryz.prog 91 #[.slice a L.length c] w fun e w'=>e=.returned (.int .i64 (sizeL L:Nat))∧Below w.heap.size w w':=by
 have HC:=hid_of hC
 have HR:=hid_of hR
 clear hC hR
 go_enter Tryz.func91,Tryz.ntmps91
 go_wp2_with fail
 go_loopg [3,8] (L.length+1) (fun gk v i w'=>∃ (j z:Nat),j≤L.length∧L.length - j≤gk∧i=.int .i64 j∧v=.int .i64 z∧z≤258 * j∧Hid (Below w.heap.size w w'∧z=sizeL (L.take j)))
 case atStart=>exact⟨0,0,Nat.zero_le _,by omega,rfl,rfl,by omega,Below.refl _ _,rfl⟩
 case round=>
  obtain⟨j,z,hj,hgk,rfl,rfl,hz1,hS⟩:=hrel
  by_cases hlt:j < L.length
  ·have dl:decide ((j:Int) < (L.length:Int))=true:=decide_eq_true (by omega)
   rcases HC.out with q | ⟨g,off,rfl,hg,hc⟩
   ·omega
   obtain⟨c0,c1,c2⟩:w.cell? ⟨g,off+j * 3,none⟩=some (.int .i64 (L.getD j (0,0,0)).1)∧w.cell? ⟨g,off+j * 3+1,none⟩=some (.int .i64 (L.getD j (0,0,0)).2.1)∧w.cell? ⟨g,off+j * 3+2,none⟩=some (.int .i64 (L.getD j (0,0,0)).2.2):=hc j hlt
   have HST:=hid_of (sizeL_take hlt)
   have HIN:Hid (L.getD j (0,0,0)∈L):=by
    rw[List.getD_eq_getElem?_getD,List.getElem?_eq_getElem hlt]
    exact List.getElem_mem hlt
   have HB8:Hid (sizeL (L.take (j+1))≤258 * (j+1)):=by
    have:=sizeL_le258 (L:=L.take (j+1)) fun t ht=>HR.out t (List.mem_of_mem_take ht)
    rw[List.length_take] at this
    exact Nat.le_trans this (Nat.mul_le_mul_left _ (Nat.min_le_left _ _))
   obtain⟨⟨x,y,q⟩,hr⟩:∃ r,r=L.getD j (0,0,0):=⟨_,rfl⟩
   rw[← hr] at c0 c1 c2 HST HIN
   have f0:wr.cell? ⟨g,off+j * 3,none⟩=some (.int .i64 x):=(hS.out.1.cell (p:=⟨g,off+j * 3,none⟩) hg).trans c0
   have f1:wr.cell? ⟨g,off+j * 3+1,none⟩=some (.int .i64 y):=(hS.out.1.cell (p:=⟨g,off+j * 3+1,none⟩) hg).trans c1
   have f2:wr.cell? ⟨g,off+j * 3+2,none⟩=some (.int .i64 q):=(hS.out.1.cell (p:=⟨g,off+j * 3+2,none⟩) hg).trans c2
   have hl2:g < wr.heap.size:=Nat.lt_of_lt_of_le hg hS.out.1.size
   have hss:=fun W=>stepSize10 x y q W
   rw[sizeT_max (HR.out _ HIN.out)] at hss
   obtain⟨k,hk⟩:∃ k,k=sizeT (x,y,q):=⟨_,rfl⟩
   rw[← hk] at hss
   have hk8:z+k≤258 * (j+1):=by
    have h1:=HST.out
    have h2:=HB8.out
    have h3:=hS.out.2
    omega
   have HK:=hid_of hk
   clear hc c0 c1 c2 hr hk
   go_wp2_with fail
   refine (hss _).mono ?_
   rintro e w2 ⟨rfl,hB2⟩
   have HB2:Hid (Below w.heap.size w w2):=bnext (bal hS.out.1 _) hB2
   have HZ:Hid (z+k=sizeL (L.take (j+1))):=by
    show z+k=_
    rw[HST.out,← HK.out,← hS.out.2]
   clear hss f0 f1 f2 hB2
   go_wp2_with fail
   go_roundg (L.length - (j+1))
   case measure=>omega
   case rel=>exact⟨j+1,z+k,by omega,Nat.le_refl _,by go_num,by go_num,hk8,HB2.out,HZ.out⟩
  ·obtain rfl:j=L.length:=by omega
   have dl:decide ((L.length:Int) < (L.length:Int))=false:=decide_eq_false (by omega)
   go_wp2_with fail
   go_ret
   refine⟨?_,hS.out.1⟩
   rw[hS.out.2,List.take_length]
   rfl
end
end Go.Proofs.YtklpiihnbokkkaaGreatDoor
