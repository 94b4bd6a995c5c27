/-
  Texts of the proof, put together.
-/
import Derived.Test.YtcbbcadfolgioaaDoorPb01
import Derived.WalkLawsBesides
import Derived.BigQuiet
namespace Go.Proofs.YtcbbcadfolgioaaDoor
section
open Go.ChangeShapes Go.WideShapes Go.ChangeAt Go.RowKit Go.Joins Go.Deep
set_option maxRecDepth 100000 in
theorem open_rasters {H:Type} {enc:TypeId×Value→H} {W:World} {fuel:Nat} {a:Option Addr} {len cap:Nat} {x:DataW H×List MemPlace} (h:DataW.trod enc Tryd.prog W 0 (fun _=>true) true fuel 48 [.slice a len cap]=some x):
  ∃ R:Nat→Ras,RCame W a len R∧len≤maxLen:=by
 have ce:Tryd.prog.cellsOf 41=5:=by kernel_rfl
 have ci:Tryd.prog.cellsOf 3=1:=by kernel_rfl
 have cl:Tryd.prog.cellsOf 24=1:=by kernel_rfl
 rcases open_slice Tryd.underlying48 h with ⟨hcs,_⟩ | ⟨ad,l,c,m,n,D,Pl,hcs,_,hl,hm,hmm,_,hx⟩
 ·simp at hcs
  obtain⟨rfl,rfl,rfl⟩:=hcs
  exact⟨fun _=>⟨0,0,0,0,0,fun _=>0⟩,.inl rfl,Nat.zero_le _⟩
 ·simp at hcs
  obtain⟨rfl,rfl,rfl⟩:=hcs
  have hlm:len≤m:=by rw [hmm]; split <;> omega
  have each:∀ i,i < len→∃ q:Ras×Option Addr×Nat,(W.cell? (ad.add (i * 5))=some (.int .i64 q.1.x0)∧W.cell? (ad.add (i * 5+1))=some (.int .i64 q.1.x1)∧W.cell? (ad.add (i * 5+2))=some (.int .i64 q.1.x2)∧W.cell? (ad.add (i * 5+3))=some (.int .i64 q.1.x3)∧W.cell? (ad.add (i * 5+4))=some (.slice q.2.1 q.1.n q.2.2))∧Came W q.2.1 q.1.n q.1.f∧q.1.n≤q.2.2∧q.2.2≤maxLen:=by
   intro i hi
   obtain⟨cs',h1,h2⟩:=hx i (by omega)
   rw[ce] at h1
   obtain⟨_,hlen,hcell⟩:=World.cells?_some h1
   obtain⟨xs,k,hk,hxy,_,hxl,hf⟩:=DataW.trod_struct Tryd.underlying41 h2
   match xs,hxl,cs',hlen with
   | [y0,y1,y2,y3,y4],_,[v0,v1,v2,v3,v4],_=>
    have g0:=hf 0 _ rfl
    have g1:=hf 1 _ rfl
    have g2:=hf 2 _ rfl
    have g3:=hf 3 _ rfl
    have g4:=hf 4 _ rfl
    simp[ci,cl] at g0 g1 g2 g3 g4
    obtain⟨x0,e0,_,f0⟩:=DataW.trod_int Tryd.underlying3 g0
    obtain⟨x1,e1,_,f1⟩:=DataW.trod_int Tryd.underlying3 g1
    obtain⟨x2,e2,_,f2⟩:=DataW.trod_int Tryd.underlying3 g2
    obtain⟨x3,e3,_,f3⟩:=DataW.trod_int Tryd.underlying3 g3
    simp at e0 e1 e2 e3
    have k0:=hcell 0 (by omega)
    have k1:=hcell 1 (by omega)
    have k2:=hcell 2 (by omega)
    have k3:=hcell 3 (by omega)
    have k4:=hcell 4 (by omega)
    rw[add_add] at k0 k1 k2 k3 k4
    rcases open_ints Tryd.underlying24 Tryd.underlying3 (by kernel_rfl) g4 with ⟨hcs,_⟩ | ⟨x9,l9,c9,zs,hcs,_,hl9,hm9,hz,_,hcell9,hwz⟩
    ·simp at hcs
     refine⟨(⟨x0,x1,x2,x3,0,fun _=>0⟩,none,0),⟨?_,?_,?_,?_,?_⟩,.inl rfl,Nat.le_refl _,Nat.zero_le _⟩
     ·simpa [e0] using k0
     ·simpa [e1] using k1
     ·simpa [e2] using k2
     ·simpa [e3] using k3
     ·simpa [hcs] using k4
    ·simp at hcs
     have hrow:IsRow .i64 W (some x9) l9 c9 zs:=.inr ⟨_,rfl,hl9,hm9,by simpa using hz,hcell9,hwz⟩
     obtain⟨hC,_,_⟩:=came_of_row hrow
     refine⟨(⟨x0,x1,x2,x3,l9,fun j=>zs.getD j 0⟩,some x9,c9),⟨?_,?_,?_,?_,?_⟩,hC,hl9,hm9⟩
     ·simpa [e0] using k0
     ·simpa [e1] using k1
     ·simpa [e2] using k2
     ·simpa [e3] using k3
     ·simpa [hcs] using k4
  obtain⟨q,hq⟩:=(haveI:Inhabited (Ras×Option Addr×Nat):=⟨(⟨0,0,0,0,0,fun _=>0⟩,none,0)⟩; choose_lt each)
  refine⟨fun j=>(q j).1,?_,by omega⟩
  rcases Nat.eq_zero_or_pos len with h0 | h0
  ·exact .inl h0
  ·obtain⟨b,off,spot⟩:=ad
   have h1:=(hq 0 (by omega)).1.1
   have hspot:spot=none:=by simpa [Addr.add] using World.cell?_spot h1
   subst hspot
   have hadd:∀ j,(⟨b,off,none⟩:Addr).add j=⟨b,off+j,none⟩:=fun j=>Addr.add_lit _ _ _
   refine .inr ⟨b,off,fun j=>(q j).2.1,fun j=>(q j).2.2,rfl,?_,fun j hj=>⟨?_,(hq j hj).2⟩⟩
   ·rw[hadd] at h1
    exact World.block_lt_of_cell? W _ h1
   ·obtain⟨⟨k0,k1,k2,k3,k4⟩,_⟩:=hq j hj
    rw[hadd] at k0 k1 k2 k3 k4
    rw[← Nat.add_assoc] at k1 k2 k3 k4
    exact⟨k0,k1,k2,k3,k4⟩
end
section
namespace PassMath
def px (p:Nat):Nat:=[0,4,0,2,0,1,0].getD p 0
def py (p:Nat):Nat:=[0,0,4,0,2,0,1].getD p 0
def pdx (p:Nat):Nat:=[8,8,4,4,2,2,1].getD p 0
def pdy (p:Nat):Nat:=[8,8,8,4,4,2,2].getD p 0
theorem pdx_pos {p:Nat} (h:p < 7):1≤pdx p∧pdx p≤8:=by
 have:∀ p,p < 7→1≤pdx p∧pdx p≤8:=by decide +kernel
 exact this p h
theorem pdy_pos {p:Nat} (h:p < 7):1≤pdy p∧pdy p≤8:=by
 have:∀ p,p < 7→1≤pdy p∧pdy p≤8:=by decide +kernel
 exact this p h
theorem px_le {p:Nat} (h:p < 7):px p≤4∧py p≤4:=by
 have:∀ p,p < 7→px p≤4∧py p≤4:=by decide +kernel
 exact this p h
def cntP (size frm step:Nat):Nat:=if frm < size then (size - frm - 1) / step+1 else 0
theorem cntP_lt {size frm step:Nat} (hs:1≤step) (i:Nat):i < cntP size frm step↔frm+i * step < size:=by
 unfold cntP
 by_cases h:frm < size
 ·rw[if_pos h]
  constructor
  ·intro hi
   have h1:i≤(size - frm - 1) / step:=by omega
   have h2:=(Nat.le_div_iff_mul_le hs).mp h1
   omega
  ·intro hi
   have h1:i≤(size - frm - 1) / step:=(Nat.le_div_iff_mul_le hs).mpr (by omega)
   omega
 ·rw[if_neg h]
  constructor
  ·intro hi; omega
  ·intro hi; have:=Nat.zero_le (i * step); omega
theorem cntP_le {size frm step:Nat}:cntP size frm step≤size:=by
 unfold cntP
 split
 ·have:=Nat.div_le_self (size - frm - 1) step
  omega
 ·omega
def pw (W H p:Nat):Nat:=if cntP W (px p) (pdx p)=0∨cntP H (py p) (pdy p)=0 then 0 else cntP W (px p) (pdx p)
def ph (W H p:Nat):Nat:=if cntP W (px p) (pdx p)=0∨cntP H (py p) (pdy p)=0 then 0 else cntP H (py p) (pdy p)
theorem pw_le (W H p:Nat):pw W H p≤W:=by
 unfold pw
 split
 ·omega
 ·exact cntP_le
theorem ph_le (W H p:Nat):ph W H p≤H:=by
 unfold ph
 split
 ·omega
 ·exact cntP_le
theorem col_lt {W H p i:Nat} (hp:p < 7) (hi:i < pw W H p):px p+i * pdx p < W:=by
 unfold pw at hi
 split at hi
 ·omega
 ·exact (cntP_lt (pdx_pos hp).1 i).mp hi
theorem row_lt {W H p j:Nat} (hp:p < 7) (hj:j < ph W H p):py p+j * pdy p < H:=by
 unfold ph at hj
 split at hj
 ·omega
 ·exact (cntP_lt (pdy_pos hp).1 j).mp hj
def passAt (X Y:Nat):Nat:=
 if Y % 2=1 then 6 else if X % 2=1 then 5 else if Y % 4=2 then 4 else if X % 4=2 then 3 else if Y % 8=4 then 2 else if X % 8=4 then 1 else 0
theorem passAt_lt (X Y:Nat):passAt X Y < 7:=by
 unfold passAt
 repeat' split
 all_goals omega
theorem passAt_own {p i j:Nat} (hp:p < 7) (hi:i < 24) (hj:j < 24):passAt (px p+i * pdx p) (py p+j * pdy p)=p:=by
 have:∀ p,p < 7→∀ i,i < 24→∀ j,j < 24→passAt (px p+i * pdx p) (py p+j * pdy p)=p:=by decide +kernel
 exact this p hp i hi j hj
theorem passAt_col {X Y:Nat} (hX:X < 24) (hY:Y < 24):px (passAt X Y)+(X - px (passAt X Y)) / pdx (passAt X Y) * pdx (passAt X Y)=X∧py (passAt X Y)+(Y - py (passAt X Y)) / pdy (passAt X Y) * pdy (passAt X Y)=Y:=by
 have:∀ X,X < 24→∀ Y,Y < 24→px (passAt X Y)+(X - px (passAt X Y)) / pdx (passAt X Y) * pdx (passAt X Y)=X∧py (passAt X Y)+(Y - py (passAt X Y)) / pdy (passAt X Y) * pdy (passAt X Y)=Y:=by decide +kernel
 exact this X hX Y hY
def pixels (W H:Nat):Nat→Nat
 | 0=>0
 | p+1=>pixels W H p+pw W H p * ph W H p
def posP (W H n p k:Nat):Nat:=((py p+k / n / pw W H p * pdy p) * W+px p+k / n % pw W H p * pdx p) * n+k % n
def pasM (W n m:Nat):Nat:=passAt (m / n % W) (m / n / W)
def idxM (W H n m:Nat):Nat:=((m / n / W - py (pasM W n m)) / pdy (pasM W n m) * pw W H (pasM W n m)+(m / n % W - px (pasM W n m)) / pdx (pasM W n m)) * n+m % n
section
variable {W H n p k m:Nat}
theorem k_parts (hn:1≤n) (hk:k < pw W H p * ph W H p * n):1≤pw W H p∧k / n < pw W H p * ph W H p∧k / n / pw W H p < ph W H p∧k / n % pw W H p < pw W H p:=by
 have h1:k / n < pw W H p * ph W H p:=(Nat.div_lt_iff_lt_mul hn).mpr hk
 have h0:1≤pw W H p:=by
  rcases Nat.eq_zero_or_pos (pw W H p) with e | e
  ·rw[e,Nat.zero_mul] at h1; exact absurd h1 (Nat.not_lt_zero _)
  ·exact e
 exact⟨h0,h1,(Nat.div_lt_iff_lt_mul h0).mpr (by rw [Nat.mul_comm]; exact h1),Nat.mod_lt _ h0⟩
theorem pix_parts {X Y c:Nat} (hc:c < n) (hX:X < W):((Y * W+X) * n+c) / n=Y * W+X∧((Y * W+X) * n+c) % n=c∧(Y * W+X) / W=Y∧(Y * W+X) % W=X:=by
 have hn:0 < n:=by omega
 have hW:0 < W:=by omega
 refine⟨?_,?_,?_,?_⟩
 ·rw[Nat.add_comm,Nat.add_mul_div_right _ _ hn,Nat.div_eq_of_lt hc,Nat.zero_add]
 ·rw[Nat.add_comm,Nat.add_mul_mod_self_right,Nat.mod_eq_of_lt hc]
 ·rw[Nat.add_comm,Nat.add_mul_div_right _ _ hW,Nat.div_eq_of_lt hX,Nat.zero_add]
 ·rw[Nat.add_comm,Nat.add_mul_mod_self_right,Nat.mod_eq_of_lt hX]
theorem pos_form (W H n p k:Nat):posP W H n p k=((py p+k / n / pw W H p * pdy p) * W+(px p+k / n % pw W H p * pdx p)) * n+k % n:=by
 unfold posP
 rw[Nat.add_assoc]
theorem pix_lt {X Y c:Nat} (hc:c < n) (hX:X < W) (hY:Y < H):(Y * W+X) * n+c < W * H * n:=by
 have h1:Y * W+X+1≤W * H:=by
  have:=Nat.mul_le_mul_right W (show Y+1≤H by omega)
  rw[Nat.add_mul,Nat.one_mul,Nat.mul_comm H W] at this
  omega
 have h2:=Nat.mul_le_mul_right n h1
 rw[Nat.add_mul,Nat.one_mul] at h2
 omega
theorem pos_lt (hn:1≤n) (hp:p < 7) (hk:k < pw W H p * ph W H p * n):posP W H n p k < W * H * n:=by
 obtain⟨_,_,h2,h3⟩:=k_parts hn hk
 rw[pos_form]
 exact pix_lt (Nat.mod_lt _ hn) (col_lt hp h3) (row_lt hp h2)
theorem pos_back (hn:1≤n) (hW:W≤24) (hH:H≤24) (hp:p < 7) (hk:k < pw W H p * ph W H p * n):pasM W n (posP W H n p k)=p∧idxM W H n (posP W H n p k)=k:=by
 obtain⟨h0,_,h2,h3⟩:=k_parts hn hk
 have hX:=col_lt hp h3
 have hY:=row_lt hp h2
 obtain⟨e1,e2,e3,e4⟩:=pix_parts (n:=n) (W:=W) (Y:=py p+k / n / pw W H p * pdy p) (Nat.mod_lt k hn) hX
 have hp':pasM W n (posP W H n p k)=p:=by
  unfold pasM
  rw[pos_form,e1,e3,e4]
  exact passAt_own hp (by have:=pw_le W H p; omega) (by have:=ph_le W H p; omega)
 refine⟨hp',?_⟩
 unfold idxM
 rw[hp',pos_form,e1,e2,e3,e4,Nat.add_sub_cancel_left,Nat.add_sub_cancel_left,Nat.mul_div_cancel _ (pdx_pos hp).1,Nat.mul_div_cancel _ (pdy_pos hp).1,Nat.mul_comm (k / n / pw W H p),Nat.div_add_mod,Nat.mul_comm,Nat.div_add_mod]
theorem idx_back (hn:1≤n) (hW:1≤W∧W≤24) (hH:H≤24) (hm:m < W * H * n):pasM W n m < 7∧idxM W H n m < pw W H (pasM W n m) * ph W H (pasM W n m) * n∧posP W H n (pasM W n m) (idxM W H n m)=m:=by
 have h1:m / n < W * H:=(Nat.div_lt_iff_lt_mul hn).mpr hm
 have hY:m / n / W < H:=(Nat.div_lt_iff_lt_mul hW.1).mpr (by rw [Nat.mul_comm]; exact h1)
 have hX:m / n % W < W:=Nat.mod_lt _ hW.1
 have hp:pasM W n m < 7:=passAt_lt _ _
 obtain⟨c1,c2⟩:=passAt_col (X:=m / n % W) (Y:=m / n / W) (Nat.lt_of_lt_of_le hX hW.2) (Nat.lt_of_lt_of_le hY hH)
 have c1':px (pasM W n m)+(m / n % W - px (pasM W n m)) / pdx (pasM W n m) * pdx (pasM W n m)=m / n % W:=c1
 have c2':py (pasM W n m)+(m / n / W - py (pasM W n m)) / pdy (pasM W n m) * pdy (pasM W n m)=m / n / W:=c2
 have hi:(m / n % W - px (pasM W n m)) / pdx (pasM W n m) < cntP W (px (pasM W n m)) (pdx (pasM W n m)):=(cntP_lt (pdx_pos hp).1 _).mpr (by rw [c1']; exact hX)
 have hj:(m / n / W - py (pasM W n m)) / pdy (pasM W n m) < cntP H (py (pasM W n m)) (pdy (pasM W n m)):=(cntP_lt (pdy_pos hp).1 _).mpr (by rw [c2']; exact hY)
 have hne:¬ (cntP W (px (pasM W n m)) (pdx (pasM W n m))=0∨cntP H (py (pasM W n m)) (pdy (pasM W n m))=0):=by
  rintro (e | e)
  ·rw[e] at hi; exact absurd hi (Nat.not_lt_zero _)
  ·rw[e] at hj; exact absurd hj (Nat.not_lt_zero _)
 have ew:pw W H (pasM W n m)=cntP W (px (pasM W n m)) (pdx (pasM W n m)):=by unfold pw; rw [if_neg hne]
 have eh:ph W H (pasM W n m)=cntP H (py (pasM W n m)) (pdy (pasM W n m)):=by unfold ph; rw [if_neg hne]
 rw[← ew] at hi
 rw[← eh] at hj
 have hcn:m % n < n:=Nat.mod_lt _ hn
 obtain⟨e1,e2,e3,e4⟩:=pix_parts (n:=n) (W:=pw W H (pasM W n m)) (Y:=(m / n / W - py (pasM W n m)) / pdy (pasM W n m)) hcn hi
 refine⟨hp,?_,?_⟩
 ·exact pix_lt hcn hi hj
 ·rw[pos_form]
  unfold idxM
  rw[e1,e2,e3,e4,c1',c2',Nat.mul_comm (m / n / W) W,Nat.div_add_mod,Nat.mul_comm (m / n) n,Nat.div_add_mod]
end
def passF (W H n:Nat) (f:Nat→Int) (p k:Nat):Int:=f (posP W H n p k)
theorem pass_at {W H n p i j c:Nat} {f:Nat→Int} (hi:i < pw W H p) (hc:c < n):passF W H n f p ((j * pw W H p+i) * n+c)=f (((py p+j * pdy p) * W+(px p+i * pdx p)) * n+c):=by
 obtain⟨e1,e2,e3,e4⟩:=pix_parts (n:=n) (W:=pw W H p) (X:=i) (Y:=j) hc hi
 unfold passF
 rw[pos_form,e1,e2,e3,e4]
def joinF (W H n:Nat) (L:Nat→Nat→Int) (m:Nat):Int:=L (pasM W n m) (idxM W H n m)
theorem join_pass {W H n:Nat} (hn:1≤n) (hW:W≤24) (hH:H≤24) (L:Nat→Nat→Int) {p k:Nat} (hp:p < 7) (hk:k < pw W H p * ph W H p * n):passF W H n (joinF W H n L) p k=L p k:=by
 obtain⟨e1,e2⟩:=pos_back hn hW hH hp hk
 unfold passF joinF
 rw[e1,e2]
end PassMath
end
section
open Go.RowKit Go.Joins PassMath
def GridG (w:World):Prop:=0 < w.heap.size∧∀ p,p < 7→w.cell? ⟨0,p * 4,none⟩=some (.int .i64 (px p:Int))∧w.cell? ⟨0,p * 4+1,none⟩=some (.int .i64 (py p:Int))∧w.cell? ⟨0,p * 4+2,none⟩=some (.int .i64 (pdx p:Int))∧w.cell? ⟨0,p * 4+3,none⟩=some (.int .i64 (pdy p:Int))
theorem GridG.below {B:Nat} {w w':World} (h:GridG w) (hb:Below B w w') (hB:0 < B):GridG w':=by
 have e:∀ k,w'.cell? ⟨0,k,none⟩=w.cell? ⟨0,k,none⟩:=fun k=>World.cell?_of_block (a:=⟨0,k,none⟩) (hb.block _ hB)
 refine⟨Nat.lt_of_lt_of_le h.1 hb.size,fun p hp=>?_⟩
 rw[e,e,e,e]
 exact h.2 p hp
theorem GridG.called {w w':World} (h:GridG w) (hb:Below w.heap.size w w'):GridG w':=h.below hb h.1
end
section
open Go.ChangeShapes Go.WideShapes Go.ChangeAt Go.RowKit Go.Joins PassMath
theorem gGrid : Tryd.prog.globalNamed "loop.example/g00099/impl.passGrids" = some 0 := by kernel_rfl
theorem gGridType:(Tryd.prog.globals[0]?).map (·.type)=some 66:=by kernel_rfl
theorem cellsGrid:Tryd.prog.cellsOf 65=4:=by kernel_rfl
theorem cellsInt14:Tryd.prog.cellsOf 3=1:=by kernel_rfl
def gridD {H:Type} (a b c d:Int):DataW H:=.agg [.lit (.int .i64 a),.lit (.int .i64 b),.lit (.int .i64 c),.lit (.int .i64 d)]
section
variable {H:Type} {enc:TypeId×Value→H} {w:World} {base:Nat} {sp:Nat→Bool} {held:Bool} {fuel:Nat}
theorem int_cells {cs:List Value} {a:Int} {y:DataW H×List MemPlace} (h:DataW.trod enc Tryd.prog w base sp held fuel 3 cs=some y) (hy:y.1=.lit (.int .i64 a)):cs=[.int .i64 a]:=by
 obtain⟨z,hc,hx,_⟩:=DataW.trod_int Tryd.underlying3 h
 rw[hx] at hy
 simp at hy
 rw[hc,hy]
theorem grid_cells {cs:List Value} {a b c d:Int} {y:DataW H×List MemPlace} (h:DataW.trod enc Tryd.prog w base sp held fuel 65 cs=some y) (hy:y.1=gridD a b c d):cs[0]?=some (.int .i64 a)∧cs[1]?=some (.int .i64 b)∧cs[2]?=some (.int .i64 c)∧cs[3]?=some (.int .i64 d):=by
 obtain⟨xs,n,_,hx,hl,hn,hf⟩:=DataW.trod_struct Tryd.underlying65 h
 have q0:=hf 0 _ rfl
 have q1:=hf 1 _ rfl
 have q2:=hf 2 _ rfl
 have q3:=hf 3 _ rfl
 rw[hx] at hy
 clear hf h hx
 unfold gridD at hy
 match xs,hn with
 | [y0,y1,y2,y3],_=>
  simp at hy
  obtain⟨e0,e1,e2,e3⟩:=hy
  have r0:=int_cells (q0.trans rfl) e0
  have r1:=int_cells (q1.trans rfl) e1
  have r2:=int_cells (q2.trans rfl) e2
  have r3:=int_cells (q3.trans rfl) e3
  simp only [List.getElem_toArray,List.getElem_cons_zero,List.getElem_cons_succ,cellsInt14] at r0 r1 r2 r3
  refine⟨?_,?_,?_,?_⟩
  ·have:=congrArg (·[0]?) r0
   simpa [List.getElem?_take,List.getElem?_drop] using this
  ·have:=congrArg (·[0]?) r1
   simpa [List.getElem?_take,List.getElem?_drop] using this
  ·have:=congrArg (·[0]?) r2
   simpa [List.getElem?_take,List.getElem?_drop] using this
  ·have:=congrArg (·[0]?) r3
   simpa [List.getElem?_take,List.getElem?_drop] using this
def gridsD {H:Type}:List (DataW H):=[gridD 0 0 8 8,gridD 4 0 8 8,gridD 0 4 4 8,gridD 2 0 4 4,gridD 0 2 2 4,gridD 1 0 2 2,gridD 0 1 1 2]
theorem gridsD_at (p:Nat) (hp:p < 7):(gridsD:List (DataW H))[p]?=some (gridD (px p:Int) (py p:Int) (pdx p:Int) (pdy p:Int)):=by
 match p,hp with
 | 0,_=>rfl
 | 1,_=>rfl
 | 2,_=>rfl
 | 3,_=>rfl
 | 4,_=>rfl
 | 5,_=>rfl
 | 6,_=>rfl
 | k+7,hk=>omega
theorem grids_cells {cs:List Value} {q:List MemPlace} (h:DataW.trod enc Tryd.prog w base sp held fuel 66 cs=some (.agg gridsD,q)) (p:Nat) (hp:p < 7):cs[p * 4]?=some (.int .i64 (px p:Int))∧cs[p * 4+1]?=some (.int .i64 (py p:Int))∧cs[p * 4+2]?=some (.int .i64 (pdx p:Int))∧cs[p * 4+3]?=some (.int .i64 (pdy p:Int)):=by
 obtain⟨xs,n,_,hx,hl,hn,hf⟩:=DataW.trod_array Tryd.underlying66 h
 have q:=hf p hp
 rw[cellsGrid] at q
 have hm:(gridsD:List (DataW H))=xs.map (·.1):=by
  have:=congrArg Prod.fst hx
  simpa using this
 have ha:=gridsD_at (H:=H) p hp
 rw[hm,List.getElem?_map] at ha
 rcases hy:xs[p]? with _ | y
 ·rw[hy] at ha
  cases ha
 ·rw[hy] at ha q
  have e:y.1=gridD (px p:Int) (py p:Int) (pdx p:Int) (pdy p:Int):=by simpa using ha
  obtain⟨r0,r1,r2,r3⟩:=grid_cells q e
  refine⟨?_,?_,?_,?_⟩
  ·simpa [List.getElem?_take,List.getElem?_drop] using r0
  ·simpa [List.getElem?_take,List.getElem?_drop] using r1
  ·simpa [List.getElem?_take,List.getElem?_drop] using r2
  ·simpa [List.getElem?_take,List.getElem?_drop] using r3
end
theorem grid_laid {W : World} {rest : List (String × DataW Unit)} (h : laidMet Tryd.prog (("loop.example/g00099/impl.passGrids", Rows.laid_loop_example_g00099_impl_passGrids) :: rest) W) : GridG W := by
 obtain⟨ps,⟨g',t',cs,fuel,p,q,hg',ht',hvar,hd,_,_⟩,_⟩:=h
 obtain rfl:=Option.some.inj (gGrid.symm.trans hg')
 obtain rfl:=Option.some.inj (gGridType.symm.trans ht')
 have hc:∀ i v,cs.toList[i]?=some v→W.cell? ⟨0,i,none⟩=some v:=fun i v hv=>(World.var?_cell gGrid hvar i).trans (by simpa using hv)
 have hall:=fun p hp=>grids_cells hd p hp
 refine⟨?_,fun p hp=>⟨hc _ _ (hall p hp).1,hc _ _ (hall p hp).2.1,hc _ _ (hall p hp).2.2.1,hc _ _ (hall p hp).2.2.2⟩⟩
 have h0:=hc _ _ (hall 0 (by omega)).1
 exact World.block_lt_of_cell? W _ h0
end
section
open Go.RowKit Go.Joins
theorem info_i64:(Tryd.prog.info? 3).map (fun i=>(i.zero,i.size,i.bytes))=some (some (.int .i64 0),1,8):=by kernel_rfl
theorem make_ints (w:World) (n:Nat) (hn:n≤1048576):(Instr.makeSlice 24 (.int .i64 n) (.int .i64 n)).run Tryd.prog w=.ok (.slice (some ⟨w.heap.size,0,none⟩) n n) (w.alloc (.cells (madeCells #[Value.int .i64 0] n) 3)):=by
 obtain⟨i0,hi0,hz0,hz1,hz2⟩:=info_parts info_i64
 have h:=run_make (P:=Tryd.prog) w 24 3 i0 (.int .i64 0) Tryd.underlying24 hi0 hz0 .i64 .i64 n n (by omega) (by omega) (by rw [hz2]; omega) (by omega)
 rw[hz1,Int.toNat_natCast,Nat.mul_one] at h
 exact h
set_option maxHeartbeats 800000 in
theorem toIntS_any (a:Option Addr) (n cap:Nat) (f:Nat→Int) (w:World) (hr:Came w a n f) (hn:n≤1048576):
  Calls Tryd.prog 52 #[.slice a n cap] w fun e w'=>e=.returned (.slice (some ⟨w.heap.size,0,none⟩) n n)∧IOwn w' w.heap.size w.heap.size n n f∧Below w.heap.size w w':=by
 have hm:=make_ints w n hn
 have hO:=IOwn.made (base:=w.heap.size) w n (by unfold maxLen; omega) (Nat.le_refl _)
 have hB:Below w.heap.size w (w.alloc (.cells (madeCells #[Value.int .i64 0] n) 3)):=bstart _ _
 generalize w.alloc (.cells (madeCells #[Value.int .i64 0] n) 3)=w1 at hm hO hB
 have HO:Hid (IOwn w1 w.heap.size w.heap.size n n (fun _=>0)):=hO
 have HB:Hid (Below w.heap.size w w1):=hB
 have HR:Hid (Came w a n f):=hr
 clear hO hr hB
 go_enter Tryd.func52,Tryd.ntmps52
 go_wp2_with fail
 go_loopw [4] (fun i w'=>∃ (j:Nat) (h:Nat→Int),j≤n∧i=.int .i64 j∧Hid (∀ i,i < j→h i=f i)∧Hid (IOwn w' w.heap.size w.heap.size n n h)∧Hid (Below w.heap.size w w')) (fun i _=>n - (intOf i).toNat)
 case atStart=>exact⟨0,_,Nat.zero_le _,rfl,fun i hi=>absurd hi (Nat.not_lt_zero i),HO,HB⟩
 case round=>
  obtain⟨j,h,hj,rfl,hh,hOj,hBj⟩:=hrel
  by_cases hlt:j < n
  ·rcases HR.out with h0 | ⟨g,off,rfl,hg,hc⟩
   ·omega
   ·have c0:wr.cell? ⟨g,off+j,none⟩=some (.int .i64 (f j)):=(hBj.out.cell (p:=⟨g,off+j,none⟩) hg).trans (hc j hlt)
    have c1:=hOj.out.cell j hlt
    have f1:=hOj.out.free j hlt
    have hl:=hOj.out.lt
    have hl2:g < wr.heap.size:=Nat.lt_of_lt_of_le hg hBj.out.size
    have HO1:Hid (IOwn (wr.setCell ⟨w.heap.size,j,none⟩ (.int .i64 (f j))) w.heap.size w.heap.size n n (upd h j (f j))):=hOj.out.set j hlt _
    have HB1:Hid (Below w.heap.size w (wr.setCell ⟨w.heap.size,j,none⟩ (.int .i64 (f j)))):=Below.setCell (p:=⟨w.heap.size,j,none⟩) hBj.out (Nat.le_refl _) _
    have HH:Hid (∀ i,i < j+1→upd h j (f j) i=f i):=by
     intro i hi
     unfold upd
     by_cases e:i=j
     ·rw[if_pos e,e]
     ·rw[if_neg e]; exact hh.out i (by omega)
    clear hc
    go_wp2_with fail
    go_roundw
    case rel=>exact⟨j+1,_,by omega,by go_num,HH,HO1,HB1⟩
    case measure=>simp [intOf]; omega
  ·obtain rfl:j=n:=by omega
   go_wp2_with fail
   go_ret
   exact⟨rfl,hOj.out.congr hh.out,hBj.out⟩
set_option maxHeartbeats 800000 in
theorem eqIntS_same (a b:Option Addr) (n c1 c2:Nat) (f:Nat→Int) (w:World) (ha:Came w a n f) (hb:Came w b n f) (hn:n≤1048576):
  Calls Tryd.prog 53 #[.slice a n c1,.slice b n c2] w fun e w'=>e=.returned (.bool true)∧Below w.heap.size w w':=by
 have HA:Hid (Came w a n f):=ha
 have HB:Hid (Came w b n f):=hb
 clear ha hb
 go_enter Tryd.func53,Tryd.ntmps53
 go_wp2_with fail
 go_loopw [5] (fun i w'=>∃ (j:Nat),j≤n∧i=.int .i64 j∧Hid (Below w.heap.size w w')) (fun i _=>n - (intOf i).toNat)
 case atStart=>exact⟨0,Nat.zero_le _,rfl,Below.refl _ _⟩
 case round=>
  obtain⟨j,hj,rfl,hBj⟩:=hrel
  by_cases hlt:j < n
  ·rcases HA.out with h0 | ⟨g,off,rfl,hg,hc⟩
   ·omega
   ·rcases HB.out with h0 | ⟨g',off',rfl,hg',hc'⟩
    ·omega
    ·have k0:wr.cell? ⟨g,off+j,none⟩=some (.int .i64 (f j)):=(hBj.out.cell (p:=⟨g,off+j,none⟩) hg).trans (hc j hlt)
     have k1:wr.cell? ⟨g',off'+j,none⟩=some (.int .i64 (f j)):=(hBj.out.cell (p:=⟨g',off'+j,none⟩) hg').trans (hc' j hlt)
     have l0:g < wr.heap.size:=Nat.lt_of_lt_of_le hg hBj.out.size
     have l1:g' < wr.heap.size:=Nat.lt_of_lt_of_le hg' hBj.out.size
     clear hc hc'
     go_wp2_with fail
     go_region
     all_goals
      go_wp2_with fail
      go_roundw
      case rel=>exact⟨j+1,by omega,by go_num,hBj.out.drew⟩
      case measure=>simp [intOf]; omega
  ·go_wp2_with fail
   go_ret
   exact⟨rfl,hBj.out⟩
theorem IOwn.came {w:World} {base g n cap:Nat} {f:Nat→Int} (h:IOwn w base g n cap f):Came w (some ⟨g,0,none⟩) n f:=
 .inr ⟨g,0,rfl,h.lt,fun j hj=>by rw [Nat.zero_add]; exact h.cell j hj⟩
end
end Go.Proofs.YtcbbcadfolgioaaDoor
