/-
  Texts of the proof, put together.
-/
import Derived.Test.YtdpfnkcogneanaaDoorRows
import Derived.Lib.SmallJoins
import Derived.Deep.QuietTactic
import Derived.Deep.AppendLies
import Derived.WalkLawsBesides
namespace Go.Proofs.YtdpfnkcogneanaaDoor
section
open Go.RowKit Go.Joins
theorem of_laid:laidOutB Tryd.prog=true:=by kernel_rfl
theorem bnext {a b c:World} (h:Below a.heap.size a b) (k:Below b.heap.size b c):Below a.heap.size a c:=h.trans (k.mono h.size)
theorem bal {a b:World} (h:Below a.heap.size a b) (o:Obj):Below a.heap.size a (b.alloc o):=h.alloc h.size o
theorem bstart (a:World) (o:Obj):Below a.heap.size a (a.alloc o):=(Below.refl _ _).alloc (Nat.le_refl _) o
theorem bdraws {a b:World} (h:Below a.heap.size a b) (n:Nat):Below a.heap.size a (b.drewN n):=h.trans ⟨rfl,rfl,rfl,Nat.le_refl _,fun _ _=>rfl⟩
theorem hid_of {p:Prop} (h:p):Hid p:=h
theorem block_lt {w:World} {b:Nat} {o:Obj} (h:w.heap[b]?=some o):b < w.heap.size:=by
 rcases Nat.lt_or_ge b w.heap.size with k | k
 ·exact k
 ·rw[Array.getElem?_eq_none k] at h; cases h
end
section
namespace PassMath
def px (p:Nat):Nat:=[0,4,0,2,0,1,0].getD p 0
def py (p:Nat):Nat:=[0,0,4,0,2,0,1].getD p 0
def pdx (p:Nat):Nat:=[8,8,4,4,2,2,1].getD p 0
def pdy (p:Nat):Nat:=[8,8,8,4,4,2,2].getD p 0
theorem pdx_pos {p:Nat} (h:p < 7):1≤pdx p∧pdx p≤8:=by
 have:∀ p,p < 7→1≤pdx p∧pdx p≤8:=by decide +kernel
 exact this p h
theorem pdy_pos {p:Nat} (h:p < 7):1≤pdy p∧pdy p≤8:=by
 have:∀ p,p < 7→1≤pdy p∧pdy p≤8:=by decide +kernel
 exact this p h
theorem px_le {p:Nat} (h:p < 7):px p≤4∧py p≤4:=by
 have:∀ p,p < 7→px p≤4∧py p≤4:=by decide +kernel
 exact this p h
def cntP (size frm step:Nat):Nat:=if frm < size then (size - frm - 1) / step+1 else 0
theorem cntP_lt {size frm step:Nat} (hs:1≤step) (i:Nat):i < cntP size frm step↔frm+i * step < size:=by
 unfold cntP
 by_cases h:frm < size
 ·rw[if_pos h]
  constructor
  ·intro hi
   have h1:i≤(size - frm - 1) / step:=by omega
   have h2:=(Nat.le_div_iff_mul_le hs).mp h1
   omega
  ·intro hi
   have h1:i≤(size - frm - 1) / step:=(Nat.le_div_iff_mul_le hs).mpr (by omega)
   omega
 ·rw[if_neg h]
  constructor
  ·intro hi; omega
  ·intro hi; have:=Nat.zero_le (i * step); omega
theorem cntP_le {size frm step:Nat}:cntP size frm step≤size:=by
 unfold cntP
 split
 ·have:=Nat.div_le_self (size - frm - 1) step
  omega
 ·omega
def pw (W H p:Nat):Nat:=if cntP W (px p) (pdx p)=0∨cntP H (py p) (pdy p)=0 then 0 else cntP W (px p) (pdx p)
def ph (W H p:Nat):Nat:=if cntP W (px p) (pdx p)=0∨cntP H (py p) (pdy p)=0 then 0 else cntP H (py p) (pdy p)
theorem pw_le (W H p:Nat):pw W H p≤W:=by
 unfold pw
 split
 ·omega
 ·exact cntP_le
theorem ph_le (W H p:Nat):ph W H p≤H:=by
 unfold ph
 split
 ·omega
 ·exact cntP_le
def pixels (W H:Nat):Nat→Nat
 | 0=>0
 | p+1=>pixels W H p+pw W H p * ph W H p
section
variable {W H n p k m:Nat}
end
end PassMath
end
section
open Go.RowKit Go.Joins PassMath
def GridG (w:World):Prop:=0 < w.heap.size∧∀ p,p < 7→w.cell? ⟨0,p * 4,none⟩=some (.int .i64 (px p:Int))∧w.cell? ⟨0,p * 4+1,none⟩=some (.int .i64 (py p:Int))∧w.cell? ⟨0,p * 4+2,none⟩=some (.int .i64 (pdx p:Int))∧w.cell? ⟨0,p * 4+3,none⟩=some (.int .i64 (pdy p:Int))
theorem GridG.below {B:Nat} {w w':World} (h:GridG w) (hb:Below B w w') (hB:0 < B):GridG w':=by
 have e:∀ k,w'.cell? ⟨0,k,none⟩=w.cell? ⟨0,k,none⟩:=fun k=>World.cell?_of_block (a:=⟨0,k,none⟩) (hb.block _ hB)
 refine⟨Nat.lt_of_lt_of_le h.1 hb.size,fun p hp=>?_⟩
 rw[e,e,e,e]
 exact h.2 p hp
theorem GridG.called {w w':World} (h:GridG w) (hb:Below w.heap.size w w'):GridG w':=h.below hb h.1
end
section
open Go.ChangeShapes Go.WideShapes Go.ChangeAt Go.RowKit Go.Joins PassMath
theorem gGrid : Tryd.prog.globalNamed "loop.example/g00099/impl.passGrids" = some 0 := by kernel_rfl
theorem gGridType:(Tryd.prog.globals[0]?).map (·.type)=some 90:=by kernel_rfl
theorem cellsGrid:Tryd.prog.cellsOf 89=4:=by kernel_rfl
theorem cellsInt14:Tryd.prog.cellsOf 3=1:=by kernel_rfl
def gridD {H:Type} (a b c d:Int):DataW H:=.agg [.lit (.int .i64 a),.lit (.int .i64 b),.lit (.int .i64 c),.lit (.int .i64 d)]
section
variable {H:Type} {enc:TypeId×Value→H} {w:World} {base:Nat} {sp:Nat→Bool} {held:Bool} {fuel:Nat}
theorem int_cells {cs:List Value} {a:Int} {y:DataW H×List MemPlace} (h:DataW.trod enc Tryd.prog w base sp held fuel 3 cs=some y) (hy:y.1=.lit (.int .i64 a)):cs=[.int .i64 a]:=by
 obtain⟨z,hc,hx,_⟩:=DataW.trod_int Tryd.underlying3 h
 rw[hx] at hy
 simp at hy
 rw[hc,hy]
theorem grid_cells {cs:List Value} {a b c d:Int} {y:DataW H×List MemPlace} (h:DataW.trod enc Tryd.prog w base sp held fuel 89 cs=some y) (hy:y.1=gridD a b c d):cs[0]?=some (.int .i64 a)∧cs[1]?=some (.int .i64 b)∧cs[2]?=some (.int .i64 c)∧cs[3]?=some (.int .i64 d):=by
 obtain⟨xs,n,_,hx,hl,hn,hf⟩:=DataW.trod_struct Tryd.underlying89 h
 have q0:=hf 0 _ rfl
 have q1:=hf 1 _ rfl
 have q2:=hf 2 _ rfl
 have q3:=hf 3 _ rfl
 rw[hx] at hy
 clear hf h hx
 unfold gridD at hy
 match xs,hn with
 | [y0,y1,y2,y3],_=>
  simp at hy
  obtain⟨e0,e1,e2,e3⟩:=hy
  have r0:=int_cells (q0.trans rfl) e0
  have r1:=int_cells (q1.trans rfl) e1
  have r2:=int_cells (q2.trans rfl) e2
  have r3:=int_cells (q3.trans rfl) e3
  simp only [List.getElem_toArray,List.getElem_cons_zero,List.getElem_cons_succ,cellsInt14] at r0 r1 r2 r3
  refine⟨?_,?_,?_,?_⟩
  ·have:=congrArg (·[0]?) r0
   simpa [List.getElem?_take,List.getElem?_drop] using this
  ·have:=congrArg (·[0]?) r1
   simpa [List.getElem?_take,List.getElem?_drop] using this
  ·have:=congrArg (·[0]?) r2
   simpa [List.getElem?_take,List.getElem?_drop] using this
  ·have:=congrArg (·[0]?) r3
   simpa [List.getElem?_take,List.getElem?_drop] using this
def gridsD {H:Type}:List (DataW H):=[gridD 0 0 8 8,gridD 4 0 8 8,gridD 0 4 4 8,gridD 2 0 4 4,gridD 0 2 2 4,gridD 1 0 2 2,gridD 0 1 1 2]
theorem gridsD_at (p:Nat) (hp:p < 7):(gridsD:List (DataW H))[p]?=some (gridD (px p:Int) (py p:Int) (pdx p:Int) (pdy p:Int)):=by
 match p,hp with
 | 0,_=>rfl
 | 1,_=>rfl
 | 2,_=>rfl
 | 3,_=>rfl
 | 4,_=>rfl
 | 5,_=>rfl
 | 6,_=>rfl
 | k+7,hk=>omega
theorem grids_cells {cs:List Value} {q:List MemPlace} (h:DataW.trod enc Tryd.prog w base sp held fuel 90 cs=some (.agg gridsD,q)) (p:Nat) (hp:p < 7):cs[p * 4]?=some (.int .i64 (px p:Int))∧cs[p * 4+1]?=some (.int .i64 (py p:Int))∧cs[p * 4+2]?=some (.int .i64 (pdx p:Int))∧cs[p * 4+3]?=some (.int .i64 (pdy p:Int)):=by
 obtain⟨xs,n,_,hx,hl,hn,hf⟩:=DataW.trod_array Tryd.underlying90 h
 have q:=hf p hp
 rw[cellsGrid] at q
 have hm:(gridsD:List (DataW H))=xs.map (·.1):=by
  have:=congrArg Prod.fst hx
  simpa using this
 have ha:=gridsD_at (H:=H) p hp
 rw[hm,List.getElem?_map] at ha
 rcases hy:xs[p]? with _ | y
 ·rw[hy] at ha
  cases ha
 ·rw[hy] at ha q
  have e:y.1=gridD (px p:Int) (py p:Int) (pdx p:Int) (pdy p:Int):=by simpa using ha
  obtain⟨r0,r1,r2,r3⟩:=grid_cells q e
  refine⟨?_,?_,?_,?_⟩
  ·simpa [List.getElem?_take,List.getElem?_drop] using r0
  ·simpa [List.getElem?_take,List.getElem?_drop] using r1
  ·simpa [List.getElem?_take,List.getElem?_drop] using r2
  ·simpa [List.getElem?_take,List.getElem?_drop] using r3
end
theorem grid_laid {W : World} {rest : List (String × DataW Unit)} (h : laidMet Tryd.prog (("loop.example/g00099/impl.passGrids", Rows.laid_loop_example_g00099_impl_passGrids) :: rest) W) : GridG W := by
 obtain⟨ps,⟨g',t',cs,fuel,p,q,hg',ht',hvar,hd,_,_⟩,_⟩:=h
 obtain rfl:=Option.some.inj (gGrid.symm.trans hg')
 obtain rfl:=Option.some.inj (gGridType.symm.trans ht')
 have hc:∀ i v,cs.toList[i]?=some v→W.cell? ⟨0,i,none⟩=some v:=fun i v hv=>(World.var?_cell gGrid hvar i).trans (by simpa using hv)
 have hall:=fun p hp=>grids_cells hd p hp
 refine⟨?_,fun p hp=>⟨hc _ _ (hall p hp).1,hc _ _ (hall p hp).2.1,hc _ _ (hall p hp).2.2.1,hc _ _ (hall p hp).2.2.2⟩⟩
 have h0:=hc _ _ (hall 0 (by omega)).1
 exact World.block_lt_of_cell? W _ h0
end
section
open Go.RowKit Go.Joins
section
variable {w w':World} {base g n cap:Nat} {f:Nat→Int}
end
def Came (w:World) (a:Option Addr) (n:Nat) (f:Nat→Int):Prop:=
 n=0∨∃ g off,a=some ⟨g,off,none⟩∧g < w.heap.size∧∀ j,j < n→w.cell? ⟨g,off+j,none⟩=some (.int .i64 (f j))
theorem Came.called {w w':World} {a:Option Addr} {n:Nat} {f:Nat→Int} (h:Came w a n f) (hb:Below w.heap.size w w'):Came w' a n f:=by
 rcases h with h | ⟨g,off,ha,hg,hc⟩
 ·exact .inl h
 ·exact .inr ⟨g,off,ha,Nat.lt_of_lt_of_le hg hb.size,fun j hj=>(hb.cell (p:=⟨g,off+j,none⟩) hg).trans (hc j hj)⟩
end
section
namespace RastMath
def chan (c:Int):Int:=if c=0∨c=3 then 1 else if c=2 then 3 else if c=4 then 2 else if c=6 then 4 else 0
abbrev Five (d:Int):Prop:=d=1∨d=2∨d=4∨d=8∨d=16
abbrev DepthR (c d:Int):Prop:=(c=0∧Five d)∨(c=3∧Five d∧d≠16)∨((c=2∨c=4∨c=6)∧(d=8∨d=16))
abbrev SideR (n:Int):Prop:=1≤n∧n≤24
def rowB (w c d:Int):Int:=if SideR w∧DepthR c d then (w * chan c * d+7) / 8 else 0
theorem chan_range (c:Int):0≤chan c∧chan c≤4:=by
 unfold chan
 repeat' split
 all_goals omega
theorem chan_pos {c d:Int} (h:DepthR c d):1≤chan c:=by
 unfold chan
 rcases h with ⟨rfl,_⟩ | ⟨rfl,_⟩ | ⟨rfl | rfl | rfl,_⟩ <;> decide
theorem depth_five {c d:Int} (h:DepthR c d):Five d:=by
 rcases h with ⟨_,h⟩ | ⟨_,h,_⟩ | ⟨_,h⟩
 ·exact h
 ·exact h
 ·exact .inr (.inr (.inr h))
theorem five_range {d:Int} (h:Five d):1≤d∧d≤16:=by
 unfold Five at h
 omega
end RastMath
end
section
namespace OutMath
def p2 (n:Nat):Int:=2 ^ n
end OutMath
end
section
namespace RastMath
open OutMath
def hb (g:Nat→Int):Nat→Int
 | 0=>0
 | k+1=>2 * hb g k+g k
end RastMath
end
section
open Go.RowKit Go.Joins
structure Ras where
 x0:Int
 x1:Int
 x2:Int
 x3:Int
 n:Nat
 f:Nat→Int
def Ras.same (r s:Ras):Prop:=r.x0=s.x0∧r.x1=s.x1∧r.x2=s.x2∧r.x3=s.x3∧r.n=s.n∧∀ i,i < r.n→r.f i=s.f i
theorem Ras.same.refl (r:Ras):r.same r:=⟨rfl,rfl,rfl,rfl,rfl,fun _ _=>rfl⟩
theorem Ras.same.symm {r s:Ras} (h:r.same s):s.same r:=⟨h.1.symm,h.2.1.symm,h.2.2.1.symm,h.2.2.2.1.symm,h.2.2.2.2.1.symm,fun i hi=>(h.2.2.2.2.2 i (by rw [h.2.2.2.2.1]; exact hi)).symm⟩
theorem Ras.same.trans {r s t:Ras} (h:r.same s) (k:s.same t):r.same t:=⟨h.1.trans k.1,h.2.1.trans k.2.1,h.2.2.1.trans k.2.2.1,h.2.2.2.1.trans k.2.2.2.1,h.2.2.2.2.1.trans k.2.2.2.2.1,fun i hi=>(h.2.2.2.2.2 i hi).trans (k.2.2.2.2.2 i (by rw [← h.2.2.2.2.1]; exact hi))⟩
theorem Came.congr14 {w:World} {a:Option Addr} {n:Nat} {f f':Nat→Int} (h:Came w a n f) (e:∀ i,i < n→f i=f' i):Came w a n f':=by
 rcases h with h | ⟨g,off,ha,hg,hc⟩
 ·exact .inl h
 ·exact .inr ⟨g,off,ha,hg,fun j hj=>by rw [← e j hj]; exact hc j hj⟩
theorem Came.same {w:World} {a:Option Addr} {r s:Ras} (h:Came w a r.n r.f) (e:r.same s):Came w a s.n s.f:=by
 rw[← e.2.2.2.2.1]
 exact h.congr14 e.2.2.2.2.2
section
variable {w w':World} {base g m:Nat} {R S:Nat→Ras} {A:Nat→Option Addr} {G C:Nat→Nat}
end
end
section
namespace FiltMath
abbrev PR (x:Int):Prop:=-1000≤x∧x≤1000
end FiltMath
end
section
namespace ScanMath
open Go.RowKit OutMath RastMath FiltMath
def rb (s D:Nat):Nat:=(s * D+7) / 8
section
variable {way:Int} {f:Nat→Int} {s D u:Nat}
end
def offP (cw ch:Nat→Nat) (N D:Nat):Nat→Nat
 | 0=>0
 | p+1=>offP cw ch N D p+ch p * (rb (cw p * N) D+1)
theorem offP_succ (cw ch:Nat→Nat) (N D p:Nat):offP cw ch N D (p+1)=offP cw ch N D p+ch p * (rb (cw p * N) D+1):=rfl
end ScanMath
end
section
namespace ScanMath
open Go.RowKit OutMath RastMath FiltMath PassMath
def cntL (lace:Bool):Nat:=if lace then 7 else 1
def cwL (lace:Bool) (W H p:Nat):Nat:=if lace then pw W H p else W
def chL (lace:Bool) (W H p:Nat):Nat:=if lace then ph W H p else H
theorem pw_pos {W H p:Nat} (h:1≤ph W H p):1≤pw W H p:=by
 unfold ph at h
 unfold pw
 split at h
 ·omega
 ·rename_i e
  rw[if_neg e]
  omega
section
variable {lace:Bool} {W H N D p:Nat}
theorem cwL_le (lace:Bool) (W H p:Nat):cwL lace W H p≤W:=by
 unfold cwL
 split
 ·exact pw_le W H p
 ·exact Nat.le_refl _
theorem chL_le (lace:Bool) (W H p:Nat):chL lace W H p≤H:=by
 unfold chL
 split
 ·exact ph_le W H p
 ·exact Nat.le_refl _
theorem cwL_pos (hW:1≤W) (h:1≤chL lace W H p):1≤cwL lace W H p:=by
 unfold cwL
 unfold chL at h
 split
 ·rename_i e
  rw[if_pos e] at h
  exact pw_pos h
 ·exact hW
theorem cntL_le (lace:Bool):cntL lace≤7:=by
 unfold cntL
 split <;> omega
def scanN (lace:Bool) (W H N D:Nat):Nat:=offP (cwL lace W H) (chL lace W H) N D (cntL lace)
theorem rb_small {s D:Nat} (hs:s≤96) (hD:D≤16):rb s D≤200:=by
 have:=Nat.mul_le_mul hs hD
 unfold rb
 omega
theorem part_s (hW:W≤24) (hN:N≤4):cwL lace W H p * N≤96:=Nat.mul_le_mul (Nat.le_trans (cwL_le _ _ _ _) hW) hN
end
section
variable {lace:Bool} {W H N D:Nat} {c d:Int}
end
end ScanMath
end
section
open Go.RowKit RastMath PassMath ScanMath
def scanB (W H c d:Int) (lace:Bool):Int:=if SideR W∧SideR H∧DepthR c d then (scanN lace W.toNat H.toNat (chan c).toNat d.toNat:Int) else 0
theorem scanB_in {W H N D:Nat} {c d:Int} {lace:Bool} (hW:1≤W∧W≤24) (hH:1≤H∧H≤24) (hd:DepthR c d) (hN:chan c=(N:Int)) (hD:d=(D:Int)):scanB (W:Int) (H:Int) c d lace=(scanN lace W H N D:Int):=by
 unfold scanB
 rw[if_pos ⟨⟨by omega,by omega⟩,⟨by omega,by omega⟩,hd⟩,hN,hD]
 rfl
def ScanBytesAnswer:Prop:=∀ (W H c d:Int) (lace:Bool) (w:World),(Lit.int .i64 W).wf=true→(Lit.int .i64 H).wf=true→(Lit.int .i64 c).wf=true→(Lit.int .i64 d).wf=true→GridG w→
 Calls Tryd.prog 12 #[.int .i64 W,.int .i64 H,.int .i64 c,.int .i64 d,.bool lace] w fun e w'=>e=.returned (.int .i64 (scanB W H c d lace))∧Below w.heap.size w w'
end
section
open Go.RowKit
theorem in_yes (x a b:Int) (w:World) (h1:a≤x) (h2:x≤b):
  Calls Tryd.prog 37 #[.int .i64 x,.int .i64 a,.int .i64 b] w fun e w'=>e=.returned (.bool true)∧w'=w:=by
 go_enter Tryd.func37,Tryd.ntmps37
 go_wp2
 go_ret
 exact⟨rfl,rfl⟩
theorem in_no (x a b:Int) (w:World) (h:¬ (a≤x∧x≤b)):
  Calls Tryd.prog 37 #[.int .i64 x,.int .i64 a,.int .i64 b] w fun e w'=>e=.returned (.bool false)∧w'=w:=by
 by_cases h1:a≤x
 ·have h2:¬ x≤b:=fun k=>h ⟨h1,k⟩
  clear h
  go_enter Tryd.func37,Tryd.ntmps37
  go_wp2
  go_ret
  exact⟨rfl,rfl⟩
 ·clear h
  go_enter Tryd.func37,Tryd.ntmps37
  go_wp2
  go_ret
  exact⟨rfl,rfl⟩
end
section
open Go.RowKit Go.Joins RastMath
theorem beq_no {a b:Int} (h:¬ a=b):(a == b)=false:=by simpa using h
theorem specChannels (c:Int) (w:World):Calls Tryd.prog 50 #[.int .i64 c] w fun e w'=>e=.returned (.int .i64 (chan c))∧w'=w:=by
 unfold chan
 by_cases h0:c=0
 ·subst h0
  go_enter Tryd.func50,Tryd.ntmps50
  go_wp2_with fail
  go_ret
  exact⟨rfl,rfl⟩
 by_cases h3:c=3
 ·subst h3
  go_enter Tryd.func50,Tryd.ntmps50
  go_wp2_with fail
  go_ret
  exact⟨rfl,rfl⟩
 by_cases h2:c=2
 ·subst h2
  go_enter Tryd.func50,Tryd.ntmps50
  go_wp2_with fail
  go_ret
  exact⟨rfl,rfl⟩
 by_cases h4:c=4
 ·subst h4
  go_enter Tryd.func50,Tryd.ntmps50
  go_wp2_with fail
  go_ret
  exact⟨rfl,rfl⟩
 by_cases h6:c=6
 ·subst h6
  go_enter Tryd.func50,Tryd.ntmps50
  go_wp2_with fail
  go_ret
  exact⟨rfl,rfl⟩
 rw[if_neg (by omega),if_neg h2,if_neg h4,if_neg h6]
 have b0:=beq_no h0
 have b3:=beq_no h3
 have b2:=beq_no h2
 have b4:=beq_no h4
 have b6:=beq_no h6
 go_enter Tryd.func50,Tryd.ntmps50
 go_wp2_with fail
 go_ret
 exact⟨rfl,rfl⟩
set_option maxHeartbeats 1600000 in
theorem specDepthOk (c d:Int) (w:World):Calls Tryd.prog 43 #[.int .i64 c,.int .i64 d] w fun e w'=>e=.returned (.bool (decide (DepthR c d)))∧w'=w:=by
 have hd:d=1∨d=2∨d=4∨d=8∨d=16∨¬ Five d:=by
  unfold Five
  omega
 have hc:c=0∨c=3∨c=2∨c=4∨c=6∨(¬ c=0∧¬ c=3∧¬ c=2∧¬ c=4∧¬ c=6):=by omega
 rcases hc with rfl | rfl | rfl | rfl | rfl | ⟨h0,h3,h2,h4,h6⟩
 all_goals
  rcases hd with rfl | rfl | rfl | rfl | rfl | hd
 all_goals
  first
   | (rw [decide_eq_true (show DepthR _ _ by unfold DepthR Five; omega)])
   | (rw [decide_eq_false (show ¬ DepthR _ _ by unfold DepthR Five; omega)])
   | (rw [decide_eq_false (show ¬ DepthR _ _ from fun h=>hd (depth_five h))])
  try (have e0:=beq_no h0; have e3:=beq_no h3; have e2:=beq_no h2; have e4:=beq_no h4; have e6:=beq_no h6; clear h0 h3 h2 h4 h6)
  try (unfold Five at hd; have g1:=beq_no (a:=d) (b:=1) (by omega); have g2:=beq_no (a:=d) (b:=2) (by omega); have g4:=beq_no (a:=d) (b:=4) (by omega); have g8:=beq_no (a:=d) (b:=8) (by omega); have g16:=beq_no (a:=d) (b:=16) (by omega); clear hd)
  go_enter Tryd.func43,Tryd.ntmps43
  go_wp2_with fail
  go_ret
  exact⟨rfl,rfl⟩
theorem specSide (n:Int) (w:World):Calls Tryd.prog 42 #[.int .i64 n] w fun e w'=>e=.returned (.bool (decide (SideR n)))∧w'=w:=by
 by_cases h:SideR n
 ·rw[decide_eq_true h]
  go_enter Tryd.func42,Tryd.ntmps42
  go_wp2_with fail
  refine (in_yes n 1 24 _ h.1 h.2).mono ?_
  rintro e w1 ⟨rfl,rfl⟩
  go_wp2_with fail
  go_ret
  exact⟨rfl,rfl⟩
 ·rw[decide_eq_false h]
  go_enter Tryd.func42,Tryd.ntmps42
  go_wp2_with fail
  refine (in_no n 1 24 _ h).mono ?_
  rintro e w1 ⟨rfl,rfl⟩
  go_wp2_with fail
  go_ret
  exact⟨rfl,rfl⟩
set_option maxHeartbeats 800000 in
theorem specRowBytes (x c d:Int) (w:World):Calls Tryd.prog 45 #[.int .i64 x,.int .i64 c,.int .i64 d] w fun e w'=>e=.returned (.int .i64 (rowB x c d))∧w'=w:=by
 unfold rowB
 by_cases hx:SideR x
 ·have hs:=specSide x
  rw[decide_eq_true hx] at hs
  by_cases hd:DepthR c d
  ·have hk:=specDepthOk c d
   rw[decide_eq_true hd] at hk
   rw[if_pos ⟨hx,hd⟩]
   have hc:=chan_range c
   have h5:=five_range (depth_five hd)
   have hch:=specChannels c
   obtain⟨x0,x1⟩:=hx
   generalize chan c=n at hc hch ⊢
   have m1:0≤x * n∧x * n≤96:=⟨Int.mul_nonneg (by omega) hc.1,by
    have:=Int.mul_le_mul x1 hc.2 hc.1 (by omega)
    omega⟩
   have m2:0≤x * n * d∧x * n * d≤1536:=⟨Int.mul_nonneg m1.1 (by omega),by
    have:=Int.mul_le_mul m1.2 h5.2 (by omega) (by omega)
    omega⟩
   go_enter Tryd.func45,Tryd.ntmps45
   go_wp2_with fail
   refine (hs _).mono ?_
   rintro e w1 ⟨rfl,rfl⟩
   go_wp2_with fail
   refine (hk _).mono ?_
   rintro e w1 ⟨rfl,rfl⟩
   go_wp2_with fail
   refine (hch _).mono ?_
   rintro e w1 ⟨rfl,rfl⟩
   go_wp2_with fail
   go_ret
   exact⟨rfl,rfl⟩
  ·have hk:=specDepthOk c d
   rw[decide_eq_false hd] at hk
   rw[if_neg (fun h=>hd h.2)]
   go_enter Tryd.func45,Tryd.ntmps45
   go_wp2_with fail
   refine (hs _).mono ?_
   rintro e w1 ⟨rfl,rfl⟩
   go_wp2_with fail
   refine (hk _).mono ?_
   rintro e w1 ⟨rfl,rfl⟩
   go_wp2_with fail
   go_ret
   exact⟨rfl,rfl⟩
 ·have hs:=specSide x
  rw[decide_eq_false hx] at hs
  rw[if_neg (fun h=>hx h.1)]
  go_enter Tryd.func45,Tryd.ntmps45
  go_wp2_with fail
  refine (hs _).mono ?_
  rintro e w1 ⟨rfl,rfl⟩
  go_wp2_with fail
  go_ret
  exact⟨rfl,rfl⟩
end
end Go.Proofs.YtdpfnkcogneanaaDoor
