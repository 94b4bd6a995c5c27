/-
  Texts of the proof, put together.
-/
import Derived.Test.YtcbbcadfolgioaaDoorRows
import Derived.Lib.SmallJoins
import Derived.Deep.QuietTactic
namespace Go.Proofs.YtcbbcadfolgioaaDoor
section
open Go.RowKit Go.Joins
theorem of_laid:laidOutB Tryd.prog=true:=by kernel_rfl
theorem bcell {W w1:World} (hb:Below W.heap.size W w1):(∀ b o,b < W.heap.size→w1.cell? ⟨b,o,none⟩=W.cell? ⟨b,o,none⟩)∧(∀ b o,b < W.heap.size→w1.frozen? ⟨b,o,none⟩=W.frozen? ⟨b,o,none⟩):=
 ⟨fun b o h=>hb.cell (p:=⟨b,o,none⟩) h,fun b o h=>hb.frozen (p:=⟨b,o,none⟩) h⟩
theorem bnext {a b c:World} (h:Below a.heap.size a b) (k:Below b.heap.size b c):Below a.heap.size a c:=h.trans (k.mono h.size)
theorem bal {a b:World} (h:Below a.heap.size a b) (o:Obj):Below a.heap.size a (b.alloc o):=h.alloc h.size o
theorem bstart (a:World) (o:Obj):Below a.heap.size a (a.alloc o):=(Below.refl _ _).alloc (Nat.le_refl _) o
theorem bdraws {a b:World} (h:Below a.heap.size a b) (n:Nat):Below a.heap.size a (b.drewN n):=h.trans ⟨rfl,rfl,rfl,Nat.le_refl _,fun _ _=>rfl⟩
theorem hid_of {p:Prop} (h:p):Hid p:=h
theorem grow_cell {w:World} (o:Obj) {b:Nat} (h:b < w.heap.size) (i:Nat):(w.alloc o).cell? ⟨b,i,none⟩=w.cell? ⟨b,i,none⟩:=(bstart w o).cell (p:=⟨b,i,none⟩) h
theorem grow_lt {w:World} (o:Obj) {b:Nat} (h:b < w.heap.size):b < (w.alloc o).heap.size:=by simp; omega
theorem block_lt {w:World} {b:Nat} {o:Obj} (h:w.heap[b]?=some o):b < w.heap.size:=by
 rcases Nat.lt_or_ge b w.heap.size with k | k
 ·exact k
 ·rw[Array.getElem?_eq_none k] at h; cases h
end
section
open Go.RowKit Go.Joins
def IsRow (k:IntKind) (w:World) (a:Option Addr) (len cap:Nat) (zs:List Int):Prop:=
 (a=none∧len=0∧cap=0∧zs=[])∨
 ∃ x,a=some x∧len≤cap∧cap≤maxLen∧zs.length=cap∧(∀ i,i < zs.length→w.cell? (x.add i)=some (.int k (zs.getD i 0)))∧∀ n∈zs,(Lit.int k n).wf=true
def CodeAt (w:World) (base:Nat) (a:Option Addr) (len:Nat):Prop:=
 len=0∨∃ bc off,a=some ⟨bc,off,none⟩∧bc < base∧∀ j,j < len→∃ x:Int,w.cell? ⟨bc,off+j,none⟩=some (.int .u8 x)∧0≤x∧x≤255
theorem CodeAt.below {w w':World} {base:Nat} {a:Option Addr} {len:Nat} (h:CodeAt w base a len) (hb:Below base w w'):CodeAt w' base a len:=by
 rcases h with h | ⟨bc,off,ha,hlt,hc⟩
 ·exact .inl h
 ·refine .inr ⟨bc,off,ha,hlt,fun j hj=>?_⟩
  obtain⟨x,h1,h2⟩:=hc j hj
  exact⟨x,(hb.cell (p:=⟨bc,off+j,none⟩) hlt).trans h1,h2⟩
theorem codeAt_of_row {w:World} {a:Option Addr} {len cap:Nat} {zs:List Int} (h:IsRow .u8 w a len cap zs):CodeAt w w.heap.size a len∧len≤cap∧cap≤maxLen:=by
 rcases h with ⟨_,rfl,rfl,_⟩ | ⟨x,rfl,hl,hm,hz,hc,hw⟩
 ·exact⟨.inl rfl,Nat.le_refl _,Nat.zero_le _⟩
 ·refine⟨?_,hl,hm⟩
  rcases Nat.eq_zero_or_pos len with h0 | h0
  ·exact .inl h0
  ·right
   obtain⟨b,off,spot⟩:=x
   have h1:=hc 0 (by omega)
   have hspot:spot=none:=by simpa [Addr.add] using World.cell?_spot h1
   subst hspot
   have hadd:∀ j,(⟨b,off,none⟩:Addr).add j=⟨b,off+j,none⟩:=fun j=>Addr.add_lit _ _ _
   refine⟨b,off,rfl,?_,fun j hj=>?_⟩
   ·rw[hadd] at h1
    exact World.block_lt_of_cell? w _ h1
   ·have h2:=hc j (by omega)
    rw[hadd] at h2
    have hmem:zs.getD j 0∈zs:=by
     rw[List.getD_eq_getElem?_getD,List.getElem?_eq_getElem (by omega)]
     exact List.getElem_mem _
    have h3:=hw _ hmem
    obtain⟨h4,h5⟩:=bounds_u8 h3
    exact⟨_,h2,h4,by omega⟩
end
section
namespace PassMath
def px (p:Nat):Nat:=[0,4,0,2,0,1,0].getD p 0
def py (p:Nat):Nat:=[0,0,4,0,2,0,1].getD p 0
def pdx (p:Nat):Nat:=[8,8,4,4,2,2,1].getD p 0
def pdy (p:Nat):Nat:=[8,8,8,4,4,2,2].getD p 0
theorem pdx_pos {p:Nat} (h:p < 7):1≤pdx p∧pdx p≤8:=by
 have:∀ p,p < 7→1≤pdx p∧pdx p≤8:=by decide +kernel
 exact this p h
theorem pdy_pos {p:Nat} (h:p < 7):1≤pdy p∧pdy p≤8:=by
 have:∀ p,p < 7→1≤pdy p∧pdy p≤8:=by decide +kernel
 exact this p h
theorem px_le {p:Nat} (h:p < 7):px p≤4∧py p≤4:=by
 have:∀ p,p < 7→px p≤4∧py p≤4:=by decide +kernel
 exact this p h
def cntP (size frm step:Nat):Nat:=if frm < size then (size - frm - 1) / step+1 else 0
theorem cntP_lt {size frm step:Nat} (hs:1≤step) (i:Nat):i < cntP size frm step↔frm+i * step < size:=by
 unfold cntP
 by_cases h:frm < size
 ·rw[if_pos h]
  constructor
  ·intro hi
   have h1:i≤(size - frm - 1) / step:=by omega
   have h2:=(Nat.le_div_iff_mul_le hs).mp h1
   omega
  ·intro hi
   have h1:i≤(size - frm - 1) / step:=(Nat.le_div_iff_mul_le hs).mpr (by omega)
   omega
 ·rw[if_neg h]
  constructor
  ·intro hi; omega
  ·intro hi; have:=Nat.zero_le (i * step); omega
theorem cntP_le {size frm step:Nat}:cntP size frm step≤size:=by
 unfold cntP
 split
 ·have:=Nat.div_le_self (size - frm - 1) step
  omega
 ·omega
def pw (W H p:Nat):Nat:=if cntP W (px p) (pdx p)=0∨cntP H (py p) (pdy p)=0 then 0 else cntP W (px p) (pdx p)
def ph (W H p:Nat):Nat:=if cntP W (px p) (pdx p)=0∨cntP H (py p) (pdy p)=0 then 0 else cntP H (py p) (pdy p)
theorem pw_le (W H p:Nat):pw W H p≤W:=by
 unfold pw
 split
 ·omega
 ·exact cntP_le
theorem ph_le (W H p:Nat):ph W H p≤H:=by
 unfold ph
 split
 ·omega
 ·exact cntP_le
theorem col_lt {W H p i:Nat} (hp:p < 7) (hi:i < pw W H p):px p+i * pdx p < W:=by
 unfold pw at hi
 split at hi
 ·omega
 ·exact (cntP_lt (pdx_pos hp).1 i).mp hi
theorem row_lt {W H p j:Nat} (hp:p < 7) (hj:j < ph W H p):py p+j * pdy p < H:=by
 unfold ph at hj
 split at hj
 ·omega
 ·exact (cntP_lt (pdy_pos hp).1 j).mp hj
def passAt (X Y:Nat):Nat:=
 if Y % 2=1 then 6 else if X % 2=1 then 5 else if Y % 4=2 then 4 else if X % 4=2 then 3 else if Y % 8=4 then 2 else if X % 8=4 then 1 else 0
theorem passAt_lt (X Y:Nat):passAt X Y < 7:=by
 unfold passAt
 repeat' split
 all_goals omega
theorem passAt_own {p i j:Nat} (hp:p < 7) (hi:i < 24) (hj:j < 24):passAt (px p+i * pdx p) (py p+j * pdy p)=p:=by
 have:∀ p,p < 7→∀ i,i < 24→∀ j,j < 24→passAt (px p+i * pdx p) (py p+j * pdy p)=p:=by decide +kernel
 exact this p hp i hi j hj
theorem passAt_col {X Y:Nat} (hX:X < 24) (hY:Y < 24):px (passAt X Y)+(X - px (passAt X Y)) / pdx (passAt X Y) * pdx (passAt X Y)=X∧py (passAt X Y)+(Y - py (passAt X Y)) / pdy (passAt X Y) * pdy (passAt X Y)=Y:=by
 have:∀ X,X < 24→∀ Y,Y < 24→px (passAt X Y)+(X - px (passAt X Y)) / pdx (passAt X Y) * pdx (passAt X Y)=X∧py (passAt X Y)+(Y - py (passAt X Y)) / pdy (passAt X Y) * pdy (passAt X Y)=Y:=by decide +kernel
 exact this X hX Y hY
def pixels (W H:Nat):Nat→Nat
 | 0=>0
 | p+1=>pixels W H p+pw W H p * ph W H p
def posP (W H n p k:Nat):Nat:=((py p+k / n / pw W H p * pdy p) * W+px p+k / n % pw W H p * pdx p) * n+k % n
def pasM (W n m:Nat):Nat:=passAt (m / n % W) (m / n / W)
def idxM (W H n m:Nat):Nat:=((m / n / W - py (pasM W n m)) / pdy (pasM W n m) * pw W H (pasM W n m)+(m / n % W - px (pasM W n m)) / pdx (pasM W n m)) * n+m % n
section
variable {W H n p k m:Nat}
theorem k_parts (hn:1≤n) (hk:k < pw W H p * ph W H p * n):1≤pw W H p∧k / n < pw W H p * ph W H p∧k / n / pw W H p < ph W H p∧k / n % pw W H p < pw W H p:=by
 have h1:k / n < pw W H p * ph W H p:=(Nat.div_lt_iff_lt_mul hn).mpr hk
 have h0:1≤pw W H p:=by
  rcases Nat.eq_zero_or_pos (pw W H p) with e | e
  ·rw[e,Nat.zero_mul] at h1; exact absurd h1 (Nat.not_lt_zero _)
  ·exact e
 exact⟨h0,h1,(Nat.div_lt_iff_lt_mul h0).mpr (by rw [Nat.mul_comm]; exact h1),Nat.mod_lt _ h0⟩
theorem pix_parts {X Y c:Nat} (hc:c < n) (hX:X < W):((Y * W+X) * n+c) / n=Y * W+X∧((Y * W+X) * n+c) % n=c∧(Y * W+X) / W=Y∧(Y * W+X) % W=X:=by
 have hn:0 < n:=by omega
 have hW:0 < W:=by omega
 refine⟨?_,?_,?_,?_⟩
 ·rw[Nat.add_comm,Nat.add_mul_div_right _ _ hn,Nat.div_eq_of_lt hc,Nat.zero_add]
 ·rw[Nat.add_comm,Nat.add_mul_mod_self_right,Nat.mod_eq_of_lt hc]
 ·rw[Nat.add_comm,Nat.add_mul_div_right _ _ hW,Nat.div_eq_of_lt hX,Nat.zero_add]
 ·rw[Nat.add_comm,Nat.add_mul_mod_self_right,Nat.mod_eq_of_lt hX]
theorem pos_form (W H n p k:Nat):posP W H n p k=((py p+k / n / pw W H p * pdy p) * W+(px p+k / n % pw W H p * pdx p)) * n+k % n:=by
 unfold posP
 rw[Nat.add_assoc]
theorem pix_lt {X Y c:Nat} (hc:c < n) (hX:X < W) (hY:Y < H):(Y * W+X) * n+c < W * H * n:=by
 have h1:Y * W+X+1≤W * H:=by
  have:=Nat.mul_le_mul_right W (show Y+1≤H by omega)
  rw[Nat.add_mul,Nat.one_mul,Nat.mul_comm H W] at this
  omega
 have h2:=Nat.mul_le_mul_right n h1
 rw[Nat.add_mul,Nat.one_mul] at h2
 omega
theorem pos_lt (hn:1≤n) (hp:p < 7) (hk:k < pw W H p * ph W H p * n):posP W H n p k < W * H * n:=by
 obtain⟨_,_,h2,h3⟩:=k_parts hn hk
 rw[pos_form]
 exact pix_lt (Nat.mod_lt _ hn) (col_lt hp h3) (row_lt hp h2)
theorem pos_back (hn:1≤n) (hW:W≤24) (hH:H≤24) (hp:p < 7) (hk:k < pw W H p * ph W H p * n):pasM W n (posP W H n p k)=p∧idxM W H n (posP W H n p k)=k:=by
 obtain⟨h0,_,h2,h3⟩:=k_parts hn hk
 have hX:=col_lt hp h3
 have hY:=row_lt hp h2
 obtain⟨e1,e2,e3,e4⟩:=pix_parts (n:=n) (W:=W) (Y:=py p+k / n / pw W H p * pdy p) (Nat.mod_lt k hn) hX
 have hp':pasM W n (posP W H n p k)=p:=by
  unfold pasM
  rw[pos_form,e1,e3,e4]
  exact passAt_own hp (by have:=pw_le W H p; omega) (by have:=ph_le W H p; omega)
 refine⟨hp',?_⟩
 unfold idxM
 rw[hp',pos_form,e1,e2,e3,e4,Nat.add_sub_cancel_left,Nat.add_sub_cancel_left,Nat.mul_div_cancel _ (pdx_pos hp).1,Nat.mul_div_cancel _ (pdy_pos hp).1,Nat.mul_comm (k / n / pw W H p),Nat.div_add_mod,Nat.mul_comm,Nat.div_add_mod]
theorem idx_back (hn:1≤n) (hW:1≤W∧W≤24) (hH:H≤24) (hm:m < W * H * n):pasM W n m < 7∧idxM W H n m < pw W H (pasM W n m) * ph W H (pasM W n m) * n∧posP W H n (pasM W n m) (idxM W H n m)=m:=by
 have h1:m / n < W * H:=(Nat.div_lt_iff_lt_mul hn).mpr hm
 have hY:m / n / W < H:=(Nat.div_lt_iff_lt_mul hW.1).mpr (by rw [Nat.mul_comm]; exact h1)
 have hX:m / n % W < W:=Nat.mod_lt _ hW.1
 have hp:pasM W n m < 7:=passAt_lt _ _
 obtain⟨c1,c2⟩:=passAt_col (X:=m / n % W) (Y:=m / n / W) (Nat.lt_of_lt_of_le hX hW.2) (Nat.lt_of_lt_of_le hY hH)
 have c1':px (pasM W n m)+(m / n % W - px (pasM W n m)) / pdx (pasM W n m) * pdx (pasM W n m)=m / n % W:=c1
 have c2':py (pasM W n m)+(m / n / W - py (pasM W n m)) / pdy (pasM W n m) * pdy (pasM W n m)=m / n / W:=c2
 have hi:(m / n % W - px (pasM W n m)) / pdx (pasM W n m) < cntP W (px (pasM W n m)) (pdx (pasM W n m)):=(cntP_lt (pdx_pos hp).1 _).mpr (by rw [c1']; exact hX)
 have hj:(m / n / W - py (pasM W n m)) / pdy (pasM W n m) < cntP H (py (pasM W n m)) (pdy (pasM W n m)):=(cntP_lt (pdy_pos hp).1 _).mpr (by rw [c2']; exact hY)
 have hne:¬ (cntP W (px (pasM W n m)) (pdx (pasM W n m))=0∨cntP H (py (pasM W n m)) (pdy (pasM W n m))=0):=by
  rintro (e | e)
  ·rw[e] at hi; exact absurd hi (Nat.not_lt_zero _)
  ·rw[e] at hj; exact absurd hj (Nat.not_lt_zero _)
 have ew:pw W H (pasM W n m)=cntP W (px (pasM W n m)) (pdx (pasM W n m)):=by unfold pw; rw [if_neg hne]
 have eh:ph W H (pasM W n m)=cntP H (py (pasM W n m)) (pdy (pasM W n m)):=by unfold ph; rw [if_neg hne]
 rw[← ew] at hi
 rw[← eh] at hj
 have hcn:m % n < n:=Nat.mod_lt _ hn
 obtain⟨e1,e2,e3,e4⟩:=pix_parts (n:=n) (W:=pw W H (pasM W n m)) (Y:=(m / n / W - py (pasM W n m)) / pdy (pasM W n m)) hcn hi
 refine⟨hp,?_,?_⟩
 ·exact pix_lt hcn hi hj
 ·rw[pos_form]
  unfold idxM
  rw[e1,e2,e3,e4,c1',c2',Nat.mul_comm (m / n / W) W,Nat.div_add_mod,Nat.mul_comm (m / n) n,Nat.div_add_mod]
end
def passF (W H n:Nat) (f:Nat→Int) (p k:Nat):Int:=f (posP W H n p k)
theorem pass_at {W H n p i j c:Nat} {f:Nat→Int} (hi:i < pw W H p) (hc:c < n):passF W H n f p ((j * pw W H p+i) * n+c)=f (((py p+j * pdy p) * W+(px p+i * pdx p)) * n+c):=by
 obtain⟨e1,e2,e3,e4⟩:=pix_parts (n:=n) (W:=pw W H p) (X:=i) (Y:=j) hc hi
 unfold passF
 rw[pos_form,e1,e2,e3,e4]
def joinF (W H n:Nat) (L:Nat→Nat→Int) (m:Nat):Int:=L (pasM W n m) (idxM W H n m)
theorem join_pass {W H n:Nat} (hn:1≤n) (hW:W≤24) (hH:H≤24) (L:Nat→Nat→Int) {p k:Nat} (hp:p < 7) (hk:k < pw W H p * ph W H p * n):passF W H n (joinF W H n L) p k=L p k:=by
 obtain⟨e1,e2⟩:=pos_back hn hW hH hp hk
 unfold passF joinF
 rw[e1,e2]
theorem pass_join {W H n:Nat} (hn:1≤n) (hW:1≤W∧W≤24) (hH:H≤24) (f:Nat→Int) {L:Nat→Nat→Int} (hL:∀ p,p < 7→∀ k,k < pw W H p * ph W H p * n→L p k=passF W H n f p k) {m:Nat} (hm:m < W * H * n):joinF W H n L m=f m:=by
 obtain⟨h1,h2,h3⟩:=idx_back hn hW hH hm
 unfold joinF
 rw[hL _ h1 _ h2]
 unfold passF
 rw[h3]
end PassMath
end
section
open Go.RowKit Go.Joins PassMath
def GridG (w:World):Prop:=0 < w.heap.size∧∀ p,p < 7→w.cell? ⟨0,p * 4,none⟩=some (.int .i64 (px p:Int))∧w.cell? ⟨0,p * 4+1,none⟩=some (.int .i64 (py p:Int))∧w.cell? ⟨0,p * 4+2,none⟩=some (.int .i64 (pdx p:Int))∧w.cell? ⟨0,p * 4+3,none⟩=some (.int .i64 (pdy p:Int))
theorem GridG.below {B:Nat} {w w':World} (h:GridG w) (hb:Below B w w') (hB:0 < B):GridG w':=by
 have e:∀ k,w'.cell? ⟨0,k,none⟩=w.cell? ⟨0,k,none⟩:=fun k=>World.cell?_of_block (a:=⟨0,k,none⟩) (hb.block _ hB)
 refine⟨Nat.lt_of_lt_of_le h.1 hb.size,fun p hp=>?_⟩
 rw[e,e,e,e]
 exact h.2 p hp
theorem GridG.called {w w':World} (h:GridG w) (hb:Below w.heap.size w w'):GridG w':=h.below hb h.1
end
section
open Go.ChangeShapes Go.WideShapes Go.ChangeAt Go.RowKit Go.Joins PassMath
theorem gGrid : Tryd.prog.globalNamed "loop.example/g00099/impl.passGrids" = some 0 := by kernel_rfl
theorem gGridType:(Tryd.prog.globals[0]?).map (·.type)=some 66:=by kernel_rfl
theorem cellsGrid:Tryd.prog.cellsOf 65=4:=by kernel_rfl
theorem cellsInt14:Tryd.prog.cellsOf 3=1:=by kernel_rfl
def gridD {H:Type} (a b c d:Int):DataW H:=.agg [.lit (.int .i64 a),.lit (.int .i64 b),.lit (.int .i64 c),.lit (.int .i64 d)]
section
variable {H:Type} {enc:TypeId×Value→H} {w:World} {base:Nat} {sp:Nat→Bool} {held:Bool} {fuel:Nat}
theorem int_cells {cs:List Value} {a:Int} {y:DataW H×List MemPlace} (h:DataW.trod enc Tryd.prog w base sp held fuel 3 cs=some y) (hy:y.1=.lit (.int .i64 a)):cs=[.int .i64 a]:=by
 obtain⟨z,hc,hx,_⟩:=DataW.trod_int Tryd.underlying3 h
 rw[hx] at hy
 simp at hy
 rw[hc,hy]
theorem grid_cells {cs:List Value} {a b c d:Int} {y:DataW H×List MemPlace} (h:DataW.trod enc Tryd.prog w base sp held fuel 65 cs=some y) (hy:y.1=gridD a b c d):cs[0]?=some (.int .i64 a)∧cs[1]?=some (.int .i64 b)∧cs[2]?=some (.int .i64 c)∧cs[3]?=some (.int .i64 d):=by
 obtain⟨xs,n,_,hx,hl,hn,hf⟩:=DataW.trod_struct Tryd.underlying65 h
 have q0:=hf 0 _ rfl
 have q1:=hf 1 _ rfl
 have q2:=hf 2 _ rfl
 have q3:=hf 3 _ rfl
 rw[hx] at hy
 clear hf h hx
 unfold gridD at hy
 match xs,hn with
 | [y0,y1,y2,y3],_=>
  simp at hy
  obtain⟨e0,e1,e2,e3⟩:=hy
  have r0:=int_cells (q0.trans rfl) e0
  have r1:=int_cells (q1.trans rfl) e1
  have r2:=int_cells (q2.trans rfl) e2
  have r3:=int_cells (q3.trans rfl) e3
  simp only [List.getElem_toArray,List.getElem_cons_zero,List.getElem_cons_succ,cellsInt14] at r0 r1 r2 r3
  refine⟨?_,?_,?_,?_⟩
  ·have:=congrArg (·[0]?) r0
   simpa [List.getElem?_take,List.getElem?_drop] using this
  ·have:=congrArg (·[0]?) r1
   simpa [List.getElem?_take,List.getElem?_drop] using this
  ·have:=congrArg (·[0]?) r2
   simpa [List.getElem?_take,List.getElem?_drop] using this
  ·have:=congrArg (·[0]?) r3
   simpa [List.getElem?_take,List.getElem?_drop] using this
def gridsD {H:Type}:List (DataW H):=[gridD 0 0 8 8,gridD 4 0 8 8,gridD 0 4 4 8,gridD 2 0 4 4,gridD 0 2 2 4,gridD 1 0 2 2,gridD 0 1 1 2]
theorem gridsD_at (p:Nat) (hp:p < 7):(gridsD:List (DataW H))[p]?=some (gridD (px p:Int) (py p:Int) (pdx p:Int) (pdy p:Int)):=by
 match p,hp with
 | 0,_=>rfl
 | 1,_=>rfl
 | 2,_=>rfl
 | 3,_=>rfl
 | 4,_=>rfl
 | 5,_=>rfl
 | 6,_=>rfl
 | k+7,hk=>omega
theorem grids_cells {cs:List Value} {q:List MemPlace} (h:DataW.trod enc Tryd.prog w base sp held fuel 66 cs=some (.agg gridsD,q)) (p:Nat) (hp:p < 7):cs[p * 4]?=some (.int .i64 (px p:Int))∧cs[p * 4+1]?=some (.int .i64 (py p:Int))∧cs[p * 4+2]?=some (.int .i64 (pdx p:Int))∧cs[p * 4+3]?=some (.int .i64 (pdy p:Int)):=by
 obtain⟨xs,n,_,hx,hl,hn,hf⟩:=DataW.trod_array Tryd.underlying66 h
 have q:=hf p hp
 rw[cellsGrid] at q
 have hm:(gridsD:List (DataW H))=xs.map (·.1):=by
  have:=congrArg Prod.fst hx
  simpa using this
 have ha:=gridsD_at (H:=H) p hp
 rw[hm,List.getElem?_map] at ha
 rcases hy:xs[p]? with _ | y
 ·rw[hy] at ha
  cases ha
 ·rw[hy] at ha q
  have e:y.1=gridD (px p:Int) (py p:Int) (pdx p:Int) (pdy p:Int):=by simpa using ha
  obtain⟨r0,r1,r2,r3⟩:=grid_cells q e
  refine⟨?_,?_,?_,?_⟩
  ·simpa [List.getElem?_take,List.getElem?_drop] using r0
  ·simpa [List.getElem?_take,List.getElem?_drop] using r1
  ·simpa [List.getElem?_take,List.getElem?_drop] using r2
  ·simpa [List.getElem?_take,List.getElem?_drop] using r3
end
theorem grid_laid {W : World} {rest : List (String × DataW Unit)} (h : laidMet Tryd.prog (("loop.example/g00099/impl.passGrids", Rows.laid_loop_example_g00099_impl_passGrids) :: rest) W) : GridG W := by
 obtain⟨ps,⟨g',t',cs,fuel,p,q,hg',ht',hvar,hd,_,_⟩,_⟩:=h
 obtain rfl:=Option.some.inj (gGrid.symm.trans hg')
 obtain rfl:=Option.some.inj (gGridType.symm.trans ht')
 have hc:∀ i v,cs.toList[i]?=some v→W.cell? ⟨0,i,none⟩=some v:=fun i v hv=>(World.var?_cell gGrid hvar i).trans (by simpa using hv)
 have hall:=fun p hp=>grids_cells hd p hp
 refine⟨?_,fun p hp=>⟨hc _ _ (hall p hp).1,hc _ _ (hall p hp).2.1,hc _ _ (hall p hp).2.2.1,hc _ _ (hall p hp).2.2.2⟩⟩
 have h0:=hc _ _ (hall 0 (by omega)).1
 exact World.block_lt_of_cell? W _ h0
end
end Go.Proofs.YtcbbcadfolgioaaDoor
