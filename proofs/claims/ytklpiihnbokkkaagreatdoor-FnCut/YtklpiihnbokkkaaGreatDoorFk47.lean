/-
  Texts of the proof, put together.
-/
import Derived.Test.YtklpiihnbokkkaaGreatDoorFk16
namespace Go.Proofs.YtklpiihnbokkkaaGreatDoor
section
open Go.RowKit Go.Joins Go.Sort TokMath StepMath CheapMath
theorem code_range (y:Int):(0≤(LengthCodeOf y).1∧(LengthCodeOf y).1≤285)∧0≤(LengthCodeOf y).2.1∧(LengthCodeOf y).2.1≤5:=by
 by_cases h:3≤y∧y≤258
 ·have:=len_back h.1 h.2
  exact⟨⟨by omega,this.2.2.2.2.1⟩,this.2.2.2.2.2.1,this.2.2.2.2.2.2⟩
 ·unfold LengthCodeOf
  rw[if_neg h]
  exact⟨⟨by show (0:Int)≤0; omega,by show (0:Int)≤285; omega⟩,by show (0:Int)≤0; omega,by show (0:Int)≤5; omega⟩
theorem dcode_range (z:Int):0≤(DistCodeOf z).2.1∧(DistCodeOf z).2.1≤13:=by
 by_cases h:1≤z∧z≤32768
 ·have:=dist_back h.1 h.2
  exact⟨this.2.2.2.2.2.1,this.2.2.2.2.2.2⟩
 ·unfold DistCodeOf
  rw[if_neg h]
  exact⟨by show (0:Int)≤0; omega,by show (0:Int)≤13; omega⟩
end
section
open Go.RowKit Go.Joins TokMath StepMath CheapMath
theorem dearer_any (c:Int) (b:Bool) (w:World) (h0:0≤c) (h1:c≤100):Calls Tryz.prog 178 #[.int .i64 c,.bool b] w fun e w'=>e=.returned (.int .i64 (if b then c+1 else c))∧w'=w:=by
 cases b
 ·go_enter Tryz.func178,Tryz.ntmps178
  go_wp2_with fail
  go_ret
  exact⟨rfl,rfl⟩
 ·go_enter Tryz.func178,Tryz.ntmps178
  go_wp2_with fail
  go_ret
  exact⟨rfl,rfl⟩
set_option maxHeartbeats 1600000 in
theorem price_any (x y z:Int) (w:World) (wy:(Lit.int .i64 y).wf=true) (wz:(Lit.int .i64 z).wf=true):
  Calls Tryz.prog 136 #[.agg #[.int .i64 x,.int .i64 y,.int .i64 z]] w fun e w'=>e=.returned (.int .i64 (costT (x,y,z)))∧Below w.heap.size w w':=by
 have HG:Hid (Below w.heap.size w (w.alloc (.cells #[.int .i64 x,.int .i64 y,.int .i64 z] 105))):=bstart _ _
 by_cases hy:y=0
 ·subst hy
  clear wy wz
  have hd:=fun b w=>dearer_any 8 b w (by omega) (by omega)
  by_cases hx:x < 144
  ·have e:costT (x,0,z)=8:=by
    rw[cost_byte,if_pos hx]
   have d:decide (144≤x)=false:=decide_eq_false (by omega)
   rw[e]
   go_enter Tryz.func136,Tryz.ntmps136
   go_wp2_with fail
   refine (hd _ _).mono ?_
   rintro e w1 ⟨rfl,rfl⟩
   clear hd
   go_wp2_with fail
   go_ret
   exact⟨rfl,HG.out⟩
  ·have e:costT (x,0,z)=9:=by
    rw[cost_byte,if_neg hx]
   have d:decide (144≤x)=true:=decide_eq_true (by omega)
   rw[e]
   go_enter Tryz.func136,Tryz.ntmps136
   go_wp2_with fail
   refine (hd _ _).mono ?_
   rintro e w1 ⟨rfl,rfl⟩
   clear hd
   go_wp2_with fail
   go_ret
   exact⟨rfl,HG.out⟩
 ·have dy:(y == 0)=false:=by simp; omega
  have hl:=fun w=>lengthCode_answer y w wy
  have hd:=fun w=>distCode_answer z w wz
  have hdr:=fun b w=>dearer_any 7 b w (by omega) (by omega)
  have e:costT (x,y,z)=(if (LengthCodeOf y).1 < 280 then 7 else 8)+(LengthCodeOf y).2.1+5+(DistCodeOf z).2.1:=by
   unfold costT
   rw[if_neg hy]
  have r1:=code_range y
  have r2:=dcode_range z
  rw[e]
  clear e wy wz
  generalize (LengthCodeOf y).1=s at *
  generalize (LengthCodeOf y).2.1=b at *
  generalize (LengthCodeOf y).2.2=q at *
  generalize (DistCodeOf z).1=s2 at *
  generalize (DistCodeOf z).2.1=m at *
  generalize (DistCodeOf z).2.2=q2 at *
  obtain⟨⟨r3,r4⟩,r5,r6⟩:=r1
  obtain⟨r7,r8⟩:=r2
  by_cases h8:s < 280
  ·have d:decide (280≤s)=false:=decide_eq_false (by omega)
   rw[if_pos h8]
   go_enter Tryz.func136,Tryz.ntmps136
   go_wp2_with fail
   refine (hl _).mono ?_
   rintro e w1 ⟨rfl,hB1⟩
   have f2:w1.cell? ⟨w.heap.size,2,none⟩=some (.int .i64 z):=(hB1.cell (p:=⟨w.heap.size,2,none⟩) (by simp)).trans (by simp)
   have HB1:=hid_of (bnext HG.out hB1)
   clear hB1
   go_wp2_with fail
   refine (hd _).mono ?_
   rintro e w2 ⟨rfl,hB2⟩
   have HB2:=hid_of (bnext HB1.out hB2)
   clear hl hd hB2
   go_wp2_with fail
   refine (hdr _ _).mono ?_
   rintro e w3 ⟨rfl,rfl⟩
   clear hdr
   go_wp2_with fail
   go_ret
   exact⟨ret_i (by omega),HB2.out⟩
  ·have d:decide (280≤s)=true:=decide_eq_true (by omega)
   rw[if_neg h8]
   go_enter Tryz.func136,Tryz.ntmps136
   go_wp2_with fail
   refine (hl _).mono ?_
   rintro e w1 ⟨rfl,hB1⟩
   have f2:w1.cell? ⟨w.heap.size,2,none⟩=some (.int .i64 z):=(hB1.cell (p:=⟨w.heap.size,2,none⟩) (by simp)).trans (by simp)
   have HB1:=hid_of (bnext HG.out hB1)
   clear hB1
   go_wp2_with fail
   refine (hd _).mono ?_
   rintro e w2 ⟨rfl,hB2⟩
   have HB2:=hid_of (bnext HB1.out hB2)
   clear hl hd hB2
   go_wp2_with fail
   refine (hdr _ _).mono ?_
   rintro e w3 ⟨rfl,rfl⟩
   clear hdr
   go_wp2_with fail
   go_ret
   exact⟨ret_i (by omega),HB2.out⟩
end
section
open Go.RowKit Go.Joins TokMath
theorem make_toks (w:World) (n:Nat) (hn:n≤1048576):(Instr.makeSlice 72 (.int .i64 n) (.int .i64 n)).run Tryz.prog w=.ok (.slice (some ⟨w.heap.size,0,none⟩) n n) (w.alloc (.cells (madeCells #[.int .i64 0,.int .i64 0,.int .i64 0] (n * 3)) 105)):=by
 obtain⟨i0,hi0,hz0,hz1,hz2⟩:=info_parts info_tok
 have h:=run_make (P:=Tryz.prog) w 72 105 i0 (.agg #[.int .i64 0,.int .i64 0,.int .i64 0]) Tryz.underlying72 hi0 hz0 .i64 .i64 n n (by omega) (by omega) (by rw [hz2]; omega) (by omega)
 rw[hz1,Int.toNat_natCast] at h
 exact h
theorem made_tok (n j:Nat) (hj:j < n * 3):(madeCells #[Value.int .i64 0,.int .i64 0,.int .i64 0] (n * 3))[j]?=some (.int .i64 0):=by
 unfold madeCells
 rw[Array.getElem?_map,Array.getElem?_range,if_pos hj]
 show some ((#[Value.int .i64 0,.int .i64 0,.int .i64 0])[j % 3]!)=_
 have h:j % 3 < 3:=Nat.mod_lt _ (by omega)
 generalize j % 3=q at h
 match q,h with
 | 0,_=>rfl
 | 1,_=>rfl
 | 2,_=>rfl
theorem TOwn.made (w:World) (base n:Nat) (hb:base≤w.heap.size):TOwn (w.alloc (.cells (madeCells #[.int .i64 0,.int .i64 0,.int .i64 0] (n * 3)) 105)) base w.heap.size n (fun _=>(0,0,0)):=
 ⟨hb,_,heap_alloc_new w _,by rw [size_madeCells]; exact Nat.le_refl _,fun j hj=>⟨made_tok n _ (by omega),made_tok n _ (by omega),made_tok n _ (by omega)⟩⟩
end
end Go.Proofs.YtklpiihnbokkkaaGreatDoor
