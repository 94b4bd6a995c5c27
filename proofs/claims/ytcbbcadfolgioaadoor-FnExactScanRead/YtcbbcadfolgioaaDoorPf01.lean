/-
  Texts of the proof, put together.
-/
import Derived.Test.YtcbbcadfolgioaaDoorRows
import Derived.Lib.SmallJoins
import Derived.Deep.QuietTactic
namespace Go.Proofs.YtcbbcadfolgioaaDoor
section
open Go.RowKit Go.Joins
theorem of_laid:laidOutB Tryd.prog=true:=by kernel_rfl
theorem bcell {W w1:World} (hb:Below W.heap.size W w1):(∀ b o,b < W.heap.size→w1.cell? ⟨b,o,none⟩=W.cell? ⟨b,o,none⟩)∧(∀ b o,b < W.heap.size→w1.frozen? ⟨b,o,none⟩=W.frozen? ⟨b,o,none⟩):=
 ⟨fun b o h=>hb.cell (p:=⟨b,o,none⟩) h,fun b o h=>hb.frozen (p:=⟨b,o,none⟩) h⟩
theorem bnext {a b c:World} (h:Below a.heap.size a b) (k:Below b.heap.size b c):Below a.heap.size a c:=h.trans (k.mono h.size)
theorem bal {a b:World} (h:Below a.heap.size a b) (o:Obj):Below a.heap.size a (b.alloc o):=h.alloc h.size o
theorem bstart (a:World) (o:Obj):Below a.heap.size a (a.alloc o):=(Below.refl _ _).alloc (Nat.le_refl _) o
theorem bdraws {a b:World} (h:Below a.heap.size a b) (n:Nat):Below a.heap.size a (b.drewN n):=h.trans ⟨rfl,rfl,rfl,Nat.le_refl _,fun _ _=>rfl⟩
theorem hid_of {p:Prop} (h:p):Hid p:=h
theorem grow_cell {w:World} (o:Obj) {b:Nat} (h:b < w.heap.size) (i:Nat):(w.alloc o).cell? ⟨b,i,none⟩=w.cell? ⟨b,i,none⟩:=(bstart w o).cell (p:=⟨b,i,none⟩) h
theorem grow_lt {w:World} (o:Obj) {b:Nat} (h:b < w.heap.size):b < (w.alloc o).heap.size:=by simp; omega
theorem block_lt {w:World} {b:Nat} {o:Obj} (h:w.heap[b]?=some o):b < w.heap.size:=by
 rcases Nat.lt_or_ge b w.heap.size with k | k
 ·exact k
 ·rw[Array.getElem?_eq_none k] at h; cases h
end
section
namespace PassMath
def px (p:Nat):Nat:=[0,4,0,2,0,1,0].getD p 0
def py (p:Nat):Nat:=[0,0,4,0,2,0,1].getD p 0
def pdx (p:Nat):Nat:=[8,8,4,4,2,2,1].getD p 0
def pdy (p:Nat):Nat:=[8,8,8,4,4,2,2].getD p 0
theorem pdx_pos {p:Nat} (h:p < 7):1≤pdx p∧pdx p≤8:=by
 have:∀ p,p < 7→1≤pdx p∧pdx p≤8:=by decide +kernel
 exact this p h
theorem pdy_pos {p:Nat} (h:p < 7):1≤pdy p∧pdy p≤8:=by
 have:∀ p,p < 7→1≤pdy p∧pdy p≤8:=by decide +kernel
 exact this p h
theorem px_le {p:Nat} (h:p < 7):px p≤4∧py p≤4:=by
 have:∀ p,p < 7→px p≤4∧py p≤4:=by decide +kernel
 exact this p h
def cntP (size frm step:Nat):Nat:=if frm < size then (size - frm - 1) / step+1 else 0
theorem cntP_lt {size frm step:Nat} (hs:1≤step) (i:Nat):i < cntP size frm step↔frm+i * step < size:=by
 unfold cntP
 by_cases h:frm < size
 ·rw[if_pos h]
  constructor
  ·intro hi
   have h1:i≤(size - frm - 1) / step:=by omega
   have h2:=(Nat.le_div_iff_mul_le hs).mp h1
   omega
  ·intro hi
   have h1:i≤(size - frm - 1) / step:=(Nat.le_div_iff_mul_le hs).mpr (by omega)
   omega
 ·rw[if_neg h]
  constructor
  ·intro hi; omega
  ·intro hi; have:=Nat.zero_le (i * step); omega
theorem cntP_le {size frm step:Nat}:cntP size frm step≤size:=by
 unfold cntP
 split
 ·have:=Nat.div_le_self (size - frm - 1) step
  omega
 ·omega
def pw (W H p:Nat):Nat:=if cntP W (px p) (pdx p)=0∨cntP H (py p) (pdy p)=0 then 0 else cntP W (px p) (pdx p)
def ph (W H p:Nat):Nat:=if cntP W (px p) (pdx p)=0∨cntP H (py p) (pdy p)=0 then 0 else cntP H (py p) (pdy p)
theorem pw_le (W H p:Nat):pw W H p≤W:=by
 unfold pw
 split
 ·omega
 ·exact cntP_le
theorem ph_le (W H p:Nat):ph W H p≤H:=by
 unfold ph
 split
 ·omega
 ·exact cntP_le
theorem col_lt {W H p i:Nat} (hp:p < 7) (hi:i < pw W H p):px p+i * pdx p < W:=by
 unfold pw at hi
 split at hi
 ·omega
 ·exact (cntP_lt (pdx_pos hp).1 i).mp hi
theorem row_lt {W H p j:Nat} (hp:p < 7) (hj:j < ph W H p):py p+j * pdy p < H:=by
 unfold ph at hj
 split at hj
 ·omega
 ·exact (cntP_lt (pdy_pos hp).1 j).mp hj
def passAt (X Y:Nat):Nat:=
 if Y % 2=1 then 6 else if X % 2=1 then 5 else if Y % 4=2 then 4 else if X % 4=2 then 3 else if Y % 8=4 then 2 else if X % 8=4 then 1 else 0
theorem passAt_lt (X Y:Nat):passAt X Y < 7:=by
 unfold passAt
 repeat' split
 all_goals omega
theorem passAt_own {p i j:Nat} (hp:p < 7) (hi:i < 24) (hj:j < 24):passAt (px p+i * pdx p) (py p+j * pdy p)=p:=by
 have:∀ p,p < 7→∀ i,i < 24→∀ j,j < 24→passAt (px p+i * pdx p) (py p+j * pdy p)=p:=by decide +kernel
 exact this p hp i hi j hj
theorem passAt_col {X Y:Nat} (hX:X < 24) (hY:Y < 24):px (passAt X Y)+(X - px (passAt X Y)) / pdx (passAt X Y) * pdx (passAt X Y)=X∧py (passAt X Y)+(Y - py (passAt X Y)) / pdy (passAt X Y) * pdy (passAt X Y)=Y:=by
 have:∀ X,X < 24→∀ Y,Y < 24→px (passAt X Y)+(X - px (passAt X Y)) / pdx (passAt X Y) * pdx (passAt X Y)=X∧py (passAt X Y)+(Y - py (passAt X Y)) / pdy (passAt X Y) * pdy (passAt X Y)=Y:=by decide +kernel
 exact this X hX Y hY
def pixels (W H:Nat):Nat→Nat
 | 0=>0
 | p+1=>pixels W H p+pw W H p * ph W H p
def posP (W H n p k:Nat):Nat:=((py p+k / n / pw W H p * pdy p) * W+px p+k / n % pw W H p * pdx p) * n+k % n
def pasM (W n m:Nat):Nat:=passAt (m / n % W) (m / n / W)
def idxM (W H n m:Nat):Nat:=((m / n / W - py (pasM W n m)) / pdy (pasM W n m) * pw W H (pasM W n m)+(m / n % W - px (pasM W n m)) / pdx (pasM W n m)) * n+m % n
section
variable {W H n p k m:Nat}
theorem k_parts (hn:1≤n) (hk:k < pw W H p * ph W H p * n):1≤pw W H p∧k / n < pw W H p * ph W H p∧k / n / pw W H p < ph W H p∧k / n % pw W H p < pw W H p:=by
 have h1:k / n < pw W H p * ph W H p:=(Nat.div_lt_iff_lt_mul hn).mpr hk
 have h0:1≤pw W H p:=by
  rcases Nat.eq_zero_or_pos (pw W H p) with e | e
  ·rw[e,Nat.zero_mul] at h1; exact absurd h1 (Nat.not_lt_zero _)
  ·exact e
 exact⟨h0,h1,(Nat.div_lt_iff_lt_mul h0).mpr (by rw [Nat.mul_comm]; exact h1),Nat.mod_lt _ h0⟩
theorem pix_parts {X Y c:Nat} (hc:c < n) (hX:X < W):((Y * W+X) * n+c) / n=Y * W+X∧((Y * W+X) * n+c) % n=c∧(Y * W+X) / W=Y∧(Y * W+X) % W=X:=by
 have hn:0 < n:=by omega
 have hW:0 < W:=by omega
 refine⟨?_,?_,?_,?_⟩
 ·rw[Nat.add_comm,Nat.add_mul_div_right _ _ hn,Nat.div_eq_of_lt hc,Nat.zero_add]
 ·rw[Nat.add_comm,Nat.add_mul_mod_self_right,Nat.mod_eq_of_lt hc]
 ·rw[Nat.add_comm,Nat.add_mul_div_right _ _ hW,Nat.div_eq_of_lt hX,Nat.zero_add]
 ·rw[Nat.add_comm,Nat.add_mul_mod_self_right,Nat.mod_eq_of_lt hX]
theorem pos_form (W H n p k:Nat):posP W H n p k=((py p+k / n / pw W H p * pdy p) * W+(px p+k / n % pw W H p * pdx p)) * n+k % n:=by
 unfold posP
 rw[Nat.add_assoc]
theorem pix_lt {X Y c:Nat} (hc:c < n) (hX:X < W) (hY:Y < H):(Y * W+X) * n+c < W * H * n:=by
 have h1:Y * W+X+1≤W * H:=by
  have:=Nat.mul_le_mul_right W (show Y+1≤H by omega)
  rw[Nat.add_mul,Nat.one_mul,Nat.mul_comm H W] at this
  omega
 have h2:=Nat.mul_le_mul_right n h1
 rw[Nat.add_mul,Nat.one_mul] at h2
 omega
theorem pos_lt (hn:1≤n) (hp:p < 7) (hk:k < pw W H p * ph W H p * n):posP W H n p k < W * H * n:=by
 obtain⟨_,_,h2,h3⟩:=k_parts hn hk
 rw[pos_form]
 exact pix_lt (Nat.mod_lt _ hn) (col_lt hp h3) (row_lt hp h2)
theorem pos_back (hn:1≤n) (hW:W≤24) (hH:H≤24) (hp:p < 7) (hk:k < pw W H p * ph W H p * n):pasM W n (posP W H n p k)=p∧idxM W H n (posP W H n p k)=k:=by
 obtain⟨h0,_,h2,h3⟩:=k_parts hn hk
 have hX:=col_lt hp h3
 have hY:=row_lt hp h2
 obtain⟨e1,e2,e3,e4⟩:=pix_parts (n:=n) (W:=W) (Y:=py p+k / n / pw W H p * pdy p) (Nat.mod_lt k hn) hX
 have hp':pasM W n (posP W H n p k)=p:=by
  unfold pasM
  rw[pos_form,e1,e3,e4]
  exact passAt_own hp (by have:=pw_le W H p; omega) (by have:=ph_le W H p; omega)
 refine⟨hp',?_⟩
 unfold idxM
 rw[hp',pos_form,e1,e2,e3,e4,Nat.add_sub_cancel_left,Nat.add_sub_cancel_left,Nat.mul_div_cancel _ (pdx_pos hp).1,Nat.mul_div_cancel _ (pdy_pos hp).1,Nat.mul_comm (k / n / pw W H p),Nat.div_add_mod,Nat.mul_comm,Nat.div_add_mod]
theorem idx_back (hn:1≤n) (hW:1≤W∧W≤24) (hH:H≤24) (hm:m < W * H * n):pasM W n m < 7∧idxM W H n m < pw W H (pasM W n m) * ph W H (pasM W n m) * n∧posP W H n (pasM W n m) (idxM W H n m)=m:=by
 have h1:m / n < W * H:=(Nat.div_lt_iff_lt_mul hn).mpr hm
 have hY:m / n / W < H:=(Nat.div_lt_iff_lt_mul hW.1).mpr (by rw [Nat.mul_comm]; exact h1)
 have hX:m / n % W < W:=Nat.mod_lt _ hW.1
 have hp:pasM W n m < 7:=passAt_lt _ _
 obtain⟨c1,c2⟩:=passAt_col (X:=m / n % W) (Y:=m / n / W) (Nat.lt_of_lt_of_le hX hW.2) (Nat.lt_of_lt_of_le hY hH)
 have c1':px (pasM W n m)+(m / n % W - px (pasM W n m)) / pdx (pasM W n m) * pdx (pasM W n m)=m / n % W:=c1
 have c2':py (pasM W n m)+(m / n / W - py (pasM W n m)) / pdy (pasM W n m) * pdy (pasM W n m)=m / n / W:=c2
 have hi:(m / n % W - px (pasM W n m)) / pdx (pasM W n m) < cntP W (px (pasM W n m)) (pdx (pasM W n m)):=(cntP_lt (pdx_pos hp).1 _).mpr (by rw [c1']; exact hX)
 have hj:(m / n / W - py (pasM W n m)) / pdy (pasM W n m) < cntP H (py (pasM W n m)) (pdy (pasM W n m)):=(cntP_lt (pdy_pos hp).1 _).mpr (by rw [c2']; exact hY)
 have hne:¬ (cntP W (px (pasM W n m)) (pdx (pasM W n m))=0∨cntP H (py (pasM W n m)) (pdy (pasM W n m))=0):=by
  rintro (e | e)
  ·rw[e] at hi; exact absurd hi (Nat.not_lt_zero _)
  ·rw[e] at hj; exact absurd hj (Nat.not_lt_zero _)
 have ew:pw W H (pasM W n m)=cntP W (px (pasM W n m)) (pdx (pasM W n m)):=by unfold pw; rw [if_neg hne]
 have eh:ph W H (pasM W n m)=cntP H (py (pasM W n m)) (pdy (pasM W n m)):=by unfold ph; rw [if_neg hne]
 rw[← ew] at hi
 rw[← eh] at hj
 have hcn:m % n < n:=Nat.mod_lt _ hn
 obtain⟨e1,e2,e3,e4⟩:=pix_parts (n:=n) (W:=pw W H (pasM W n m)) (Y:=(m / n / W - py (pasM W n m)) / pdy (pasM W n m)) hcn hi
 refine⟨hp,?_,?_⟩
 ·exact pix_lt hcn hi hj
 ·rw[pos_form]
  unfold idxM
  rw[e1,e2,e3,e4,c1',c2',Nat.mul_comm (m / n / W) W,Nat.div_add_mod,Nat.mul_comm (m / n) n,Nat.div_add_mod]
end
def passF (W H n:Nat) (f:Nat→Int) (p k:Nat):Int:=f (posP W H n p k)
theorem pass_at {W H n p i j c:Nat} {f:Nat→Int} (hi:i < pw W H p) (hc:c < n):passF W H n f p ((j * pw W H p+i) * n+c)=f (((py p+j * pdy p) * W+(px p+i * pdx p)) * n+c):=by
 obtain⟨e1,e2,e3,e4⟩:=pix_parts (n:=n) (W:=pw W H p) (X:=i) (Y:=j) hc hi
 unfold passF
 rw[pos_form,e1,e2,e3,e4]
def joinF (W H n:Nat) (L:Nat→Nat→Int) (m:Nat):Int:=L (pasM W n m) (idxM W H n m)
theorem join_pass {W H n:Nat} (hn:1≤n) (hW:W≤24) (hH:H≤24) (L:Nat→Nat→Int) {p k:Nat} (hp:p < 7) (hk:k < pw W H p * ph W H p * n):passF W H n (joinF W H n L) p k=L p k:=by
 obtain⟨e1,e2⟩:=pos_back hn hW hH hp hk
 unfold passF joinF
 rw[e1,e2]
end PassMath
end
section
open Go.RowKit Go.Joins PassMath
def GridG (w:World):Prop:=0 < w.heap.size∧∀ p,p < 7→w.cell? ⟨0,p * 4,none⟩=some (.int .i64 (px p:Int))∧w.cell? ⟨0,p * 4+1,none⟩=some (.int .i64 (py p:Int))∧w.cell? ⟨0,p * 4+2,none⟩=some (.int .i64 (pdx p:Int))∧w.cell? ⟨0,p * 4+3,none⟩=some (.int .i64 (pdy p:Int))
theorem GridG.below {B:Nat} {w w':World} (h:GridG w) (hb:Below B w w') (hB:0 < B):GridG w':=by
 have e:∀ k,w'.cell? ⟨0,k,none⟩=w.cell? ⟨0,k,none⟩:=fun k=>World.cell?_of_block (a:=⟨0,k,none⟩) (hb.block _ hB)
 refine⟨Nat.lt_of_lt_of_le h.1 hb.size,fun p hp=>?_⟩
 rw[e,e,e,e]
 exact h.2 p hp
theorem GridG.called {w w':World} (h:GridG w) (hb:Below w.heap.size w w'):GridG w':=h.below hb h.1
end
section
open Go.ChangeShapes Go.WideShapes Go.ChangeAt Go.RowKit Go.Joins PassMath
theorem gGrid : Tryd.prog.globalNamed "loop.example/g00099/impl.passGrids" = some 0 := by kernel_rfl
theorem gGridType:(Tryd.prog.globals[0]?).map (·.type)=some 66:=by kernel_rfl
theorem cellsGrid:Tryd.prog.cellsOf 65=4:=by kernel_rfl
theorem cellsInt14:Tryd.prog.cellsOf 3=1:=by kernel_rfl
def gridD {H:Type} (a b c d:Int):DataW H:=.agg [.lit (.int .i64 a),.lit (.int .i64 b),.lit (.int .i64 c),.lit (.int .i64 d)]
section
variable {H:Type} {enc:TypeId×Value→H} {w:World} {base:Nat} {sp:Nat→Bool} {held:Bool} {fuel:Nat}
theorem int_cells {cs:List Value} {a:Int} {y:DataW H×List MemPlace} (h:DataW.trod enc Tryd.prog w base sp held fuel 3 cs=some y) (hy:y.1=.lit (.int .i64 a)):cs=[.int .i64 a]:=by
 obtain⟨z,hc,hx,_⟩:=DataW.trod_int Tryd.underlying3 h
 rw[hx] at hy
 simp at hy
 rw[hc,hy]
theorem grid_cells {cs:List Value} {a b c d:Int} {y:DataW H×List MemPlace} (h:DataW.trod enc Tryd.prog w base sp held fuel 65 cs=some y) (hy:y.1=gridD a b c d):cs[0]?=some (.int .i64 a)∧cs[1]?=some (.int .i64 b)∧cs[2]?=some (.int .i64 c)∧cs[3]?=some (.int .i64 d):=by
 obtain⟨xs,n,_,hx,hl,hn,hf⟩:=DataW.trod_struct Tryd.underlying65 h
 have q0:=hf 0 _ rfl
 have q1:=hf 1 _ rfl
 have q2:=hf 2 _ rfl
 have q3:=hf 3 _ rfl
 rw[hx] at hy
 clear hf h hx
 unfold gridD at hy
 match xs,hn with
 | [y0,y1,y2,y3],_=>
  simp at hy
  obtain⟨e0,e1,e2,e3⟩:=hy
  have r0:=int_cells (q0.trans rfl) e0
  have r1:=int_cells (q1.trans rfl) e1
  have r2:=int_cells (q2.trans rfl) e2
  have r3:=int_cells (q3.trans rfl) e3
  simp only [List.getElem_toArray,List.getElem_cons_zero,List.getElem_cons_succ,cellsInt14] at r0 r1 r2 r3
  refine⟨?_,?_,?_,?_⟩
  ·have:=congrArg (·[0]?) r0
   simpa [List.getElem?_take,List.getElem?_drop] using this
  ·have:=congrArg (·[0]?) r1
   simpa [List.getElem?_take,List.getElem?_drop] using this
  ·have:=congrArg (·[0]?) r2
   simpa [List.getElem?_take,List.getElem?_drop] using this
  ·have:=congrArg (·[0]?) r3
   simpa [List.getElem?_take,List.getElem?_drop] using this
def gridsD {H:Type}:List (DataW H):=[gridD 0 0 8 8,gridD 4 0 8 8,gridD 0 4 4 8,gridD 2 0 4 4,gridD 0 2 2 4,gridD 1 0 2 2,gridD 0 1 1 2]
theorem gridsD_at (p:Nat) (hp:p < 7):(gridsD:List (DataW H))[p]?=some (gridD (px p:Int) (py p:Int) (pdx p:Int) (pdy p:Int)):=by
 match p,hp with
 | 0,_=>rfl
 | 1,_=>rfl
 | 2,_=>rfl
 | 3,_=>rfl
 | 4,_=>rfl
 | 5,_=>rfl
 | 6,_=>rfl
 | k+7,hk=>omega
theorem grids_cells {cs:List Value} {q:List MemPlace} (h:DataW.trod enc Tryd.prog w base sp held fuel 66 cs=some (.agg gridsD,q)) (p:Nat) (hp:p < 7):cs[p * 4]?=some (.int .i64 (px p:Int))∧cs[p * 4+1]?=some (.int .i64 (py p:Int))∧cs[p * 4+2]?=some (.int .i64 (pdx p:Int))∧cs[p * 4+3]?=some (.int .i64 (pdy p:Int)):=by
 obtain⟨xs,n,_,hx,hl,hn,hf⟩:=DataW.trod_array Tryd.underlying66 h
 have q:=hf p hp
 rw[cellsGrid] at q
 have hm:(gridsD:List (DataW H))=xs.map (·.1):=by
  have:=congrArg Prod.fst hx
  simpa using this
 have ha:=gridsD_at (H:=H) p hp
 rw[hm,List.getElem?_map] at ha
 rcases hy:xs[p]? with _ | y
 ·rw[hy] at ha
  cases ha
 ·rw[hy] at ha q
  have e:y.1=gridD (px p:Int) (py p:Int) (pdx p:Int) (pdy p:Int):=by simpa using ha
  obtain⟨r0,r1,r2,r3⟩:=grid_cells q e
  refine⟨?_,?_,?_,?_⟩
  ·simpa [List.getElem?_take,List.getElem?_drop] using r0
  ·simpa [List.getElem?_take,List.getElem?_drop] using r1
  ·simpa [List.getElem?_take,List.getElem?_drop] using r2
  ·simpa [List.getElem?_take,List.getElem?_drop] using r3
end
theorem grid_laid {W : World} {rest : List (String × DataW Unit)} (h : laidMet Tryd.prog (("loop.example/g00099/impl.passGrids", Rows.laid_loop_example_g00099_impl_passGrids) :: rest) W) : GridG W := by
 obtain⟨ps,⟨g',t',cs,fuel,p,q,hg',ht',hvar,hd,_,_⟩,_⟩:=h
 obtain rfl:=Option.some.inj (gGrid.symm.trans hg')
 obtain rfl:=Option.some.inj (gGridType.symm.trans ht')
 have hc:∀ i v,cs.toList[i]?=some v→W.cell? ⟨0,i,none⟩=some v:=fun i v hv=>(World.var?_cell gGrid hvar i).trans (by simpa using hv)
 have hall:=fun p hp=>grids_cells hd p hp
 refine⟨?_,fun p hp=>⟨hc _ _ (hall p hp).1,hc _ _ (hall p hp).2.1,hc _ _ (hall p hp).2.2.1,hc _ _ (hall p hp).2.2.2⟩⟩
 have h0:=hc _ _ (hall 0 (by omega)).1
 exact World.block_lt_of_cell? W _ h0
end
section
open Go.RowKit Go.Joins
def Own (e:TypeId) (w:World) (base g:Nat) (v:Value) (xs:List Value):Prop:=
 ∃ cap cur fz,v=.slice (some ⟨g,0,none⟩) xs.length cap∧base≤g∧w.heap[g]?=some (.cells cur e fz)∧(fz.2=0∨cap≤fz.1)∧xs.length≤cap∧cap≤maxLen∧cur.size=cap∧cur.toList.take xs.length=xs
section
variable {e:TypeId} {w w':World} {base g:Nat} {v:Value} {xs:List Value}
theorem Own.form (h:Own e w base g v xs):∃ cap,v=.slice (some ⟨g,0,none⟩) xs.length cap:=by
 obtain⟨cap,cur,fz,hv,_⟩:=h
 exact⟨cap,hv⟩
theorem Own.base_le (h:Own e w base g v xs):base≤g:=by
 obtain⟨cap,cur,fz,_,hb,_⟩:=h
 exact hb
theorem Own.lt (h:Own e w base g v xs):g < w.heap.size:=by
 obtain⟨cap,cur,fz,_,_,hg,_⟩:=h
 rcases Nat.lt_or_ge g w.heap.size with k | k
 ·exact k
 ·rw[Array.getElem?_eq_none k] at hg; cases hg
theorem Own.keep (h:Own e w base g v xs) (hk:w'.heap[g]?=w.heap[g]?):Own e w' base g v xs:=by
 obtain⟨cap,cur,fz,h1,h2,h3,h4⟩:=h
 exact⟨cap,cur,fz,h1,h2,hk.trans h3,h4⟩
theorem Own.alloc (h:Own e w base g v xs) (o:Obj):Own e (w.alloc o) base g v xs:=h.keep (Below.heap_alloc w o g h.lt)
theorem Own.drewN (h:Own e w base g v xs) (n:Nat):Own e (w.drewN n) base g v xs:=h.keep rfl
theorem Own.below {B:Nat} (h:Own e w base g v xs) (hb:Below B w w') (hg:g < B):Own e w' base g v xs:=h.keep (hb.block g hg)
theorem Own.mono {b:Nat} (h:Own e w base g v xs) (hb:b≤base):Own e w b g v xs:=by
 obtain⟨cap,cur,fz,h1,h2,h3⟩:=h
 exact⟨cap,cur,fz,h1,Nat.le_trans hb h2,h3⟩
theorem Own.cell (h:Own e w base g v xs) (j:Nat) (hj:j < xs.length):w.cell? ⟨g,j,none⟩=some xs[j]:=by
 obtain⟨cap,cur,fz,_,_,hg,_,_,_,_,ht⟩:=h
 have e1:w.cell? ⟨g,j,none⟩=cur[j]?:=cell_of_block hg j
 rw[e1]
 have e2:(cur.toList.take xs.length)[j]?=cur[j]?:=by
  rw[List.getElem?_take,if_pos hj]
  simp
 rw[← e2,ht,List.getElem?_eq_getElem hj]
theorem Own.free (h:Own e w base g v xs) (j:Nat) (hj:j < xs.length):w.frozen? ⟨g,j,none⟩=false:=by
 obtain⟨cap,cur,fz,_,_,hg,hf,hn,_⟩:=h
 obtain⟨lo,hi⟩:=fz
 simp only [World.frozen?,hg]
 simp only at hf
 rw[Bool.and_eq_false_iff]
 rcases hf with hf | hf
 ·right; simp; omega
 ·left; simp; omega
theorem Own.set (h:Own e w base g v xs) (j:Nat) (_hj:j < xs.length) (u:Value):Own e (w.setCell ⟨g,j,none⟩ u) base g v (xs.set j u):=by
 obtain⟨cap,cur,fz,h1,h2,hg,h4,h5,h6,h7,ht⟩:=h
 refine⟨cap,cur.setIfInBounds j u,fz,?_,h2,block_setCell (i:=j) hg u,h4,?_,h6,?_,?_⟩
 ·rw[List.length_set]; exact h1
 ·rw[List.length_set]; exact h5
 ·simpa using h7
 ·rw[List.length_set,Array.toList_setIfInBounds,List.take_set,ht]
theorem own_of_ownsRow {n:Nat} {b:Nat} (h:w.ownsRow b e 1 v n xs) (hn:0 < n):∃ g,b≤g∧Own e w b g v xs:=by
 obtain⟨hl,hh⟩:=h
 have hl':xs.length=n:=by simpa using hl
 rcases hh with ⟨_,h0⟩ | ⟨g,cap,cur,hv,hb,hg,hnc,hcm,hcs,ht⟩
 ·omega
 ·refine⟨g,hb,cap,cur,(0,0),by rw [hl']; exact hv,hb,hg,.inl rfl,by omega,hcm,by simpa using hcs,?_⟩
  rw[hl']; simpa using ht
variable {P:Program}
theorem run_append1 (t ty:TypeId) (i:TypeInfo) (z:Value) (bytes:Nat) (ht:P.underlying t=some (.slice e)) (hi:P.info? e=some i) (hz:i.zero=some z) (hs1:i.size=1) (hby:i.bytes=bytes) (hzs:z.cells.size=1)
  (h:Own e w base g v xs) (ad:Addr) (c:Nat) (x:Value) (hx:w.cell? ad=some x) (hspot:ad.spot=none) (h1:x.oneCell'=true) (h63:xs.length+1≤maxLen) (hbytes:(xs.length+1) * bytes≤140737488355328):
  ∃ g' v' w',(Builtin.append_ #[t,t] ty #[v,.slice (some ad) 1 c]).run P w=.ok v' w'∧Own e w' base g' v' (xs ++ [x])∧(g'=g∨w.heap.size≤g')∧w.grownBy w' (some g):=by
 have hlt:=h.lt
 obtain⟨cap,cur,fz,hv,hb,hg,hf,hn,hcm,hcs,htk⟩:=id h
 have hnews:∀ (j:Nat) (u:Value),[x][j]?=some u→w.cell? (ad.add j)=some u:=by
  intro j u hj
  match j,hj with
  | 0,hj=>
   simp at hj
   subst hj
   obtain⟨ab,ao,asp⟩:=ad
   simp only at hspot
   subst hspot
   simpa [Addr.add] using hx
 subst hv
 by_cases hroom:xs.length+1≤cap
 ·have hc:∀ j,j < [x].length→(w.cell? ⟨g,0+xs.length * i.size+j,none⟩).isSome=true:=by
   intro j hj
   have:j=0:=by simpa using hj
   subst this
   rw[hs1,show 0+xs.length * 1+0=xs.length by omega,cell_of_block hg,Array.getElem?_eq_getElem (by omega)]
   rfl
  have hfz:∀ j,j < [x].length→w.frozen? ⟨g,0+xs.length * i.size+j,none⟩=false:=by
   intro j hj
   have:j=0:=by simpa using hj
   subst this
   rw[hs1,show 0+xs.length * 1+0=xs.length by omega]
   obtain⟨lo,hi'⟩:=fz
   simp only [World.frozen?,hg]
   simp only at hf
   rw[Bool.and_eq_false_iff]
   rcases hf with hf | hf
   ·right; simp; omega
   ·left; simp; omega
  have hr:=run_append_room_cells (P:=P) w t ty e i ht hi g 0 xs.length cap ad 1 c [x] (by simp [hs1]) hnews (by simpa using h1) hroom hc hfz
  rw[hs1,show 0+xs.length * 1=xs.length by omega] at hr
  refine⟨g,_,_,hr,?_,.inl rfl,?_⟩
  ·show Own e (w.setCell ⟨g,xs.length,none⟩ x) base g _ _
   refine⟨cap,cur.setIfInBounds xs.length x,fz,by simp,hb,block_setCell (i:=xs.length) hg x,hf,by simpa using hroom,hcm,by simpa using hcs,?_⟩
   rw[Array.toList_setIfInBounds]
   rw[List.length_append,List.length_singleton]
   have hlen:xs.length < cur.toList.length:=by simp; omega
   rw[List.take_succ_eq_append_getElem (by simpa using hlen)]
   rw[List.take_set,List.getElem_set_self]
   rw[htk,List.set_eq_of_length_le (by omega)]
  ·show w.grownBy (w.setCell ⟨g,xs.length,none⟩ x) (some g)
   refine⟨rfl,rfl,rfl,by simp,fun k hk hne=>?_⟩
   exact Below.heap_setCell w _ _ k (by simpa using hne)
 ·obtain⟨v',w',hrun,r1,r2⟩:=run_append_arg_grows (P:=P) w t ty e i z 1 bytes ht hi hz hs1 hby hzs (by decide) ⟨g,0,none⟩ xs.length cap xs (by simp) (fun j u hj=>by
   have hj':j < xs.length:=by
    rcases Nat.lt_or_ge j xs.length with k | k
    ·exact k
    ·rw[List.getElem?_eq_none k] at hj; cases hj
   rw[List.getElem?_eq_getElem hj'] at hj
   have:=h.cell j hj'
   rw[Addr.add_lit,Nat.zero_add,this,hj]) ad 1 c [x] (by simp) hnews (by omega) h63 hbytes
  obtain⟨g',hg',ho⟩:=own_of_ownsRow r1 (by omega)
  refine⟨g',v',w',hrun,ho.mono ?_,.inr hg',?_⟩
  ·omega
  ·obtain⟨a1,a2,a3,a4,a5⟩:=r2
   exact⟨a1,a2,a3,a4,fun k hk _=>a5 k hk (by simp)⟩
theorem wpList_append1 {ops:Array Oper} {rest:List Oper} {o:Oper} {a:Act} {Q:Exit→Act→World→Prop} (hgd:o.guard=none) (s y:Operand) (t:TypeId)
  (hop:o.op=.call { callee:=.builtin .append,args:=#[s,y],argTypes:=#[t,t] })
  (i:TypeInfo) (z:Value) (bytes:Nat) (ht:P.underlying t=some (.slice e)) (hi:P.info? e=some i) (hz:i.zero=some z) (hs1:i.size=1) (hby:i.bytes=bytes) (hzs:z.cells.size=1)
  (hs:a.eval s=v) (h:Own e w base g v xs) (ad:Addr) (c:Nat) (x:Value) (hy:a.eval y=.slice (some ad) 1 c) (hx:w.cell? ad=some x) (hspot:ad.spot=none) (h1:x.oneCell'=true) (h63:xs.length+1≤maxLen) (hbytes:(xs.length+1) * bytes≤140737488355328)
  (hK:∀ g' v' w',Own e w' base g' v' (xs ++ [x])→(g'=g∨w.heap.size≤g')→w.grownBy w' (some g)→wpList P ops Q rest (a.put o.dst v') w'):wpList P ops Q (o :: rest) a w:=by
 refine wpList_plain hgd fun K hK'=>?_
 obtain⟨g',v',w',hrun,r1,r2,r3⟩:=run_append1 (P:=P) t o.type i z bytes ht hi hz hs1 hby hzs h ad c x hx hspot h1 h63 hbytes
 unfold Oper.wp
 simp[execOp,hop,resolve,invoke,builtin,hs,hy,hrun,Result.andThen]
 exact hK' _ _ (hK g' v' w' r1 r2 r3)
theorem own_string (zs:List Int) (src dst:TypeId) (hsrc:P.underlying src=some (.slice e)) (he:P.underlying e=some (.int .u8)) (hd:P.underlying dst=some .string) (h:Own e w base g v (zs.map (Value.int .u8))):
  (convert src dst v).run P w=.ok (.string (strOfNums zs)) w:=by
 obtain⟨cap,hv⟩:=h.form
 subst hv
 refine run_convert_bytes_arg w src e hsrc he g 0 _ cap zs (by simp) (fun i hi=>?_) dst hd
 have hc:=h.cell i (by simpa using hi)
 have hi':i < zs.length:=by simpa using hi
 rw[Nat.zero_add,hc]
 simp[hi']
end
end
end Go.Proofs.YtcbbcadfolgioaaDoor
