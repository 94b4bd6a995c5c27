/-
  Texts of the proof, put together.
-/
import Derived.Test.YtcbbcadfolgioaaDoorPb04
namespace Go.Proofs.YtcbbcadfolgioaaDoor
section
open Go.RowKit Go.Joins
def leftR (R:Nat→Ras) (l:Int):Nat→Int
 | 0=>l
 | j+1=>leftR R l j - ((R j).n:Int)
theorem leftR_down (R : Nat → Ras) (l : Int) : ∀ {i j : Nat}, i ≤ j → leftR R l j ≤ leftR R l i
  | i, 0, h => by obtain rfl : i = 0 := by omega
                  exact Int.le_refl _
  | i, j + 1, h => by
    by_cases e : i = j + 1
    · rw [e]; exact Int.le_refl _
    · have := leftR_down R l (show i ≤ j by omega)
      show leftR R l j - ((R j).n : Int) ≤ _
      omega
def FitsR (R:Nat→Ras) (m:Nat) (l:Int):Prop:=0≤leftR R (l - m) m
theorem FitsR.each {R:Nat→Ras} {m:Nat} {l:Int} (h:FitsR R m l):(m:Int)≤l∧∀ j,j < m→((R j).n:Int)≤l∧0≤leftR R (l - m) j:=by
 have h0:=leftR_down R (l - m) (Nat.zero_le m)
 unfold FitsR at h
 have e0:leftR R (l - m) 0=l - m:=rfl
 refine⟨by omega,fun j hj=>?_⟩
 have h1:=leftR_down R (l - m) (show j+1≤m by omega)
 have h2:=leftR_down R (l - m) (Nat.zero_le j)
 have e1:leftR R (l - m) (j+1)=leftR R (l - m) j - ((R j).n:Int):=rfl
 omega
set_option maxHeartbeats 1600000 in
theorem szRasterS_any (a:Option Addr) (m c:Nat) (R:Nat→Ras) (l:Int) (w:World) (ha:RCame w a m R) (h0:0≤l) (h1:l≤1048576) (hm:m≤maxLen):
  Calls Tryd.prog 26 #[.slice a m c,.int .i64 l] w fun e w'=>(∃ z:Int,e=.returned (.int .i64 z)∧((0≤z∧FitsR R m l)∨(z < 0∧¬ FitsR R m l)))∧Below w.heap.size w w':=by
 have HA:=hid_of ha
 clear ha
 unfold maxLen at hm
 by_cases hml:(m:Int)≤l
 ·have d0:decide (l - (m:Int) < 0)=false:=decide_eq_false (by omega)
  go_enter Tryd.func26,Tryd.ntmps26
  go_wp2_with fail
  go_loopw [1,5] (fun z i w'=>∃ j:Nat,j≤m∧i=.int .i64 (j:Int)∧z=.int .i64 (leftR R (l - m) j)∧0≤leftR R (l - m) j∧Hid (Below w.heap.size w w')) (fun _ i _=>m - (intOf i).toNat)
  case atStart=>exact⟨0,Nat.zero_le _,rfl,rfl,(by show 0≤l - (m:Int); omega),Below.refl _ _⟩
  case round=>
   obtain⟨j,hj,rfl,rfl,hpos,hS⟩:=hrel
   by_cases hlt:j < m
   ·have dl:decide ((j:Int) < (m:Int))=true:=decide_eq_true (by omega)
    rcases HA.out.called hS.out with q | ⟨g1,o1,A1,C1,rfl,hg1,hc1⟩
    ·omega
    obtain⟨⟨k0,k1,k2,k3,k4⟩,_,hcap,hcm⟩:=hc1 j hlt
    have hle:=leftR_down R (l - m) (Nat.zero_le j)
    have e0:leftR R (l - m) 0=l - m:=rfl
    have HE:Hid (leftR R (l - m) (j+1)=leftR R (l - m) j - ((R j).n:Int)):=rfl
    have HF:Hid (leftR R (l - m) m≤leftR R (l - m) (j+1)):=leftR_down R (l - m) hlt
    have hsz:=fun W=>szRaster_any (R j).x0 (R j).x1 (R j).x2 (R j).x3 (A1 j) (R j).n (C1 j) (leftR R (l - m) j) W hpos (by omega) (by omega)
    clear hc1 hcap hcm e0
    generalize hM:leftR R (l - m) j=M at *
    generalize (R j).x0=x0 at *
    generalize (R j).x1=x1 at *
    generalize (R j).x2=x2 at *
    generalize (R j).x3=x3 at *
    generalize A1 j=y1 at *
    generalize C1 j=y2 at *
    generalize (R j).n=N at *
    by_cases hfit:(N:Int)≤M
    ·rw[if_pos hfit] at hsz
     have d1:decide (M - (N:Int) < 0)=false:=decide_eq_false (by omega)
     go_wp2_with fail
     refine (hsz _).mono ?_
     rintro e w4 ⟨rfl,hB4⟩
     have HB4:=hid_of (bnext hS.out hB4)
     clear hB4
     go_wp2_with fail
     go_roundw
     case rel=>exact⟨j+1,by omega,by go_num,by rw [HE.out],by rw [HE.out]; omega,HB4⟩
     case measure=>simp [intOf]; omega
    ·rw[if_neg hfit] at hsz
     have HNF:Hid (¬ FitsR R m l):=fun h=>by
      have h1:0≤leftR R (l - m) m:=h
      have h2:=HF.out
      rw[HE.out] at h2
      omega
     go_wp2_with fail
     refine (hsz _).mono ?_
     rintro e w4 ⟨rfl,hB4⟩
     have HB4:=hid_of (bnext hS.out hB4)
     clear hB4
     go_wp2_with fail
     go_ret
     exact⟨⟨-1,rfl,.inr ⟨by omega,HNF.out⟩⟩,HB4.out⟩
   ·obtain rfl:j=m:=by omega
    have dl:decide ((j:Int) < (j:Int))=false:=decide_eq_false (by omega)
    go_wp2_with fail
    go_ret
    exact⟨⟨_,rfl,.inl ⟨hpos,hpos⟩⟩,hS.out⟩
 ·have d0:decide (l - (m:Int) < 0)=true:=decide_eq_true (by omega)
  have HNF:Hid (¬ FitsR R m l):=fun h=>hml h.each.1
  go_enter Tryd.func26,Tryd.ntmps26
  go_wp2_with fail
  go_ret
  exact⟨⟨-1,rfl,.inr ⟨by omega,HNF.out⟩⟩,Below.refl _ _⟩
theorem info_ras:(Tryd.prog.info? 26).map (fun i=>(i.zero,i.size,i.bytes))=some (some (.agg #[.int .i64 0,.int .i64 0,.int .i64 0,.int .i64 0,.slice none 0 0]),5,56):=by kernel_rfl
theorem make_ras (w:World) (n:Nat) (hn:n≤1048576):(Instr.makeSlice 28 (.int .i64 n) (.int .i64 n)).run Tryd.prog w=.ok (.slice (some ⟨w.heap.size,0,none⟩) n n) (w.alloc (.cells (madeCells #[.int .i64 0,.int .i64 0,.int .i64 0,.int .i64 0,.slice none 0 0] (n * 5)) 26)):=by
 obtain⟨i0,hi0,hz0,hz1,hz2⟩:=info_parts info_ras
 have h:=run_make (P:=Tryd.prog) w 28 26 i0 _ Tryd.underlying28 hi0 hz0 .i64 .i64 n n (by omega) (by omega) (by rw [hz2]; omega) (by omega)
 rw[hz1,Int.toNat_natCast] at h
 exact h
section
variable {w:World} {base g j:Nat} {R:Nat→Ras} {A:Nat→Option Addr} {G C:Nat→Nat}
theorem ROwnA.push {cur:Array Value} {a:Option Addr} {G' c:Nat} (h:ROwnA w base g j R A G C) (hc:w.heap[g]?=some (.cells cur 26 (0,0))) (hs:(j+1) * 5≤cur.size) (hr:RowOwn w base a G' (R j).n c (R j).f) (hg:G'≠g) (hG:∀ i,i < j→G i≠G'):
  ROwnA (((((w.setCell ⟨g,j * 5,none⟩ (.int .i64 (R j).x0)).setCell ⟨g,j * 5+1,none⟩ (.int .i64 (R j).x1)).setCell ⟨g,j * 5+2,none⟩ (.int .i64 (R j).x2)).setCell ⟨g,j * 5+3,none⟩ (.int .i64 (R j).x3)).setCell ⟨g,j * 5+4,none⟩ (.slice a (R j).n c)) base g (j+1) R (fun i=>if i=j then a else A i) (fun i=>if i=j then G' else G i) (fun i=>if i=j then c else C i):=by
 obtain⟨h1,⟨cur',hc',_,h3⟩,h4,h5,h6⟩:=h
 obtain rfl:cur=cur':=by rw [hc] at hc'; cases hc'; rfl
 refine⟨h1,⟨((((cur.setIfInBounds (j * 5) (.int .i64 (R j).x0)).setIfInBounds (j * 5+1) (.int .i64 (R j).x1)).setIfInBounds (j * 5+2) (.int .i64 (R j).x2)).setIfInBounds (j * 5+3) (.int .i64 (R j).x3)).setIfInBounds (j * 5+4) (.slice a (R j).n c),?_,by simpa using hs,fun i hi=>?_⟩,fun i hi=>?_,fun i hi hn=>?_,fun i k hi hk hne hn1 hn2=>?_⟩
 ·simp[World.setCell,Array.getElem?_modify,hc]
 ·unfold HeadAt
  by_cases e:i=j
  ·subst e
   simp only [if_pos]
   refine⟨?_,?_,?_,?_,?_⟩
   ·rw[Array.getElem?_setIfInBounds_ne (by omega),Array.getElem?_setIfInBounds_ne (by omega),Array.getElem?_setIfInBounds_ne (by omega),Array.getElem?_setIfInBounds_ne (by omega),Array.getElem?_setIfInBounds_self_of_lt (by omega)]
   ·rw[Array.getElem?_setIfInBounds_ne (by omega),Array.getElem?_setIfInBounds_ne (by omega),Array.getElem?_setIfInBounds_ne (by omega),Array.getElem?_setIfInBounds_self_of_lt (by simp; omega)]
   ·rw[Array.getElem?_setIfInBounds_ne (by omega),Array.getElem?_setIfInBounds_ne (by omega),Array.getElem?_setIfInBounds_self_of_lt (by simp; omega)]
   ·rw[Array.getElem?_setIfInBounds_ne (by omega),Array.getElem?_setIfInBounds_self_of_lt (by simp; omega)]
   ·rw[Array.getElem?_setIfInBounds_self_of_lt (by simp; omega)]
  ·obtain⟨q0,q1,q2,q3,q4⟩:=h3 i (by omega)
   simp only [if_neg e]
   refine⟨?_,?_,?_,?_,?_⟩
   all_goals rw [Array.getElem?_setIfInBounds_ne (by omega),Array.getElem?_setIfInBounds_ne (by omega),Array.getElem?_setIfInBounds_ne (by omega),Array.getElem?_setIfInBounds_ne (by omega),Array.getElem?_setIfInBounds_ne (by omega)]
   all_goals assumption
 ·by_cases e:i=j
  ·subst e
   simp only [if_pos]
   refine hr.keep (fun _=>?_)
   repeat rw [heap_setCell_other _ _ _ _ (by exact hg)]
  ·simp only [if_neg e]
   refine (h4 i (by omega)).keep (fun hn=>?_)
   have hne:G i≠g:=h5 i (by omega) hn
   repeat rw [heap_setCell_other _ _ _ _ (by exact hne)]
 ·by_cases e:i=j
  ·simp only [if_pos e]; exact hg
  ·simp only [if_neg e]; exact h5 i (by omega) hn
 ·by_cases e:i=j
  ·simp only [if_pos e,if_neg (show ¬ k=j by omega)]
   exact fun q=>hG k (by omega) q.symm
  ·by_cases e2:k=j
   ·simp only [if_neg e,if_pos e2]
    exact hG i (by omega)
   ·simp only [if_neg e,if_neg e2]
    exact h6 i k (by omega) (by omega) hne hn1 hn2
end
def RToI (w w':World) (m:Nat) (R:Nat→Ras) (j:Nat):Prop:=
 (∃ A G C,ROwnA w' w.heap.size w.heap.size j R A G C∧∀ i,i < j→G i < w'.heap.size)∧(∃ cur,w'.heap[w.heap.size]?=some (.cells cur 26 (0,0))∧cur.size=m * 5)∧Below w.heap.size w w'
theorem rto_next {w w1 w2:World} {m:Nat} {R:Nat→Ras} {j g':Nat} (h:RToI w w1 m R j) (hj:j < m) (hb:Below w1.heap.size w1 w2) (hO:IOwn w2 w1.heap.size g' (R j).n (R j).n (R j).f) (hn:(R j).n≤maxLen):
  RToI w (((((w2.setCell ⟨w.heap.size,j * 5,none⟩ (.int .i64 (R j).x0)).setCell ⟨w.heap.size,j * 5+1,none⟩ (.int .i64 (R j).x1)).setCell ⟨w.heap.size,j * 5+2,none⟩ (.int .i64 (R j).x2)).setCell ⟨w.heap.size,j * 5+3,none⟩ (.int .i64 (R j).x3)).setCell ⟨w.heap.size,j * 5+4,none⟩ (.slice (some ⟨g',0,none⟩) (R j).n (R j).n)) m R (j+1):=by
 obtain⟨⟨A,G,C,hA,hG⟩,⟨cur,hc,hs⟩,hB⟩:=h
 have hlt:=block_lt hc
 have hc2:w2.heap[w.heap.size]?=some (.cells cur 26 (0,0)):=(hb.block _ hlt).trans hc
 have hA2:ROwnA w2 w.heap.size w.heap.size j R A G C:=hA.keep (fun b _ hb'=>hb.block b hb')
 have hge:=hO.base_le
 have hgl:=hO.lt
 refine⟨⟨_,_,_,hA2.push (c:=(R j).n) hc2 (by omega) ⟨Nat.le_refl _,hn,.inr ⟨rfl,hO.mono hB.size⟩⟩ (by omega) (fun i hi=>by have:=hG i hi; omega),fun i hi=>?_⟩,⟨((((cur.setIfInBounds (j * 5) (.int .i64 (R j).x0)).setIfInBounds (j * 5+1) (.int .i64 (R j).x1)).setIfInBounds (j * 5+2) (.int .i64 (R j).x2)).setIfInBounds (j * 5+3) (.int .i64 (R j).x3)).setIfInBounds (j * 5+4) (.slice (some ⟨g',0,none⟩) (R j).n (R j).n),?_,by simpa using hs⟩,?_⟩
 ·have e:(((((w2.setCell ⟨w.heap.size,j * 5,none⟩ (.int .i64 (R j).x0)).setCell ⟨w.heap.size,j * 5+1,none⟩ (.int .i64 (R j).x1)).setCell ⟨w.heap.size,j * 5+2,none⟩ (.int .i64 (R j).x2)).setCell ⟨w.heap.size,j * 5+3,none⟩ (.int .i64 (R j).x3)).setCell ⟨w.heap.size,j * 5+4,none⟩ (.slice (some ⟨g',0,none⟩) (R j).n (R j).n)).heap.size=w2.heap.size:=by simp [World.setCell]
  rw[e]
  by_cases q:i=j
  ·simp only [if_pos q]; exact hgl
  ·simp only [if_neg q]
   exact Nat.lt_of_lt_of_le (hG i (by omega)) hb.size
 ·simp[World.setCell,Array.getElem?_modify,hc2]
 ·iterate 5 refine Below.setCell ?_ (by exact Nat.le_refl _) _
  exact bnext hB hb
theorem rto_cell {w w':World} {m:Nat} {R:Nat→Ras} {j:Nat} (h:RToI w w' m R j):w.heap.size < w'.heap.size∧(∀ k,w'.frozen? ⟨w.heap.size,k,none⟩=false)∧∀ k,k < m * 5→∃ u,w'.cell? ⟨w.heap.size,k,none⟩=some u:=by
 obtain⟨_,⟨cur,hc,hs⟩,_⟩:=h
 refine⟨block_lt hc,fun k=>by simp [World.frozen?,hc],fun k hk=>?_⟩
 have hk':k < cur.size:=by omega
 exact⟨cur[k],by simp [World.cell?,hc,hk']⟩
theorem RToI.called {w w1 w2:World} {m:Nat} {R:Nat→Ras} {j:Nat} (h:RToI w w1 m R j) (hb:Below w1.heap.size w1 w2):RToI w w2 m R j:=by
 obtain⟨⟨A,G,C,hA,hG⟩,⟨cur,hc,hs⟩,hB⟩:=h
 exact⟨⟨A,G,C,hA.keep (fun b _ hb'=>hb.block b hb'),fun i hi=>Nat.lt_of_lt_of_le (hG i hi) hb.size⟩,⟨cur,(hb.block _ (block_lt hc)).trans hc,hs⟩,bnext hB hb⟩
set_option maxRecDepth 100000 in
set_option maxHeartbeats 3200000 in
theorem toRasterS_any (a:Option Addr) (m c:Nat) (R:Nat→Ras) (w:World) (hC:RCame w a m R) (hm:m≤1048576) (hn:∀ j,j < m→(R j).n≤1048576):
  Calls Tryd.prog 28 #[.slice a m c] w fun e w'=>e=.returned (.slice (some ⟨w.heap.size,0,none⟩) m m)∧ROwn w' w.heap.size w.heap.size m R∧Below w.heap.size w w':=by
 have HC:=hid_of hC
 have HN:=hid_of hn
 have hmk:=make_ras w m hm
 have H0:Hid (RToI w (w.alloc (.cells (madeCells #[.int .i64 0,.int .i64 0,.int .i64 0,.int .i64 0,.slice none 0 0] (m * 5)) 26)) m R 0):=
  ⟨⟨fun _=>none,fun _=>0,fun _=>0,⟨Nat.le_refl _,⟨_,heap_alloc_new w _,by omega,fun i hi=>absurd hi (Nat.not_lt_zero i)⟩,fun i hi=>absurd hi (Nat.not_lt_zero i),fun i hi=>absurd hi (Nat.not_lt_zero i),fun i _ hi=>absurd hi (Nat.not_lt_zero i)⟩,fun i hi=>absurd hi (Nat.not_lt_zero i)⟩,⟨_,heap_alloc_new w _,by rw [size_madeCells]⟩,bstart _ _⟩
 generalize w.alloc (.cells (madeCells #[.int .i64 0,.int .i64 0,.int .i64 0,.int .i64 0,.slice none 0 0] (m * 5)) 26)=w0 at hmk H0
 clear hC hn
 go_enter Tryd.func28,Tryd.ntmps28
 go_wp2_with fail
 go_loopw [4] (fun i w'=>∃ j:Nat,j≤m∧i=.int .i64 (j:Int)∧Hid (RToI w w' m R j)) (fun i _=>m - (intOf i).toNat)
 case atStart=>exact⟨0,Nat.zero_le _,rfl,H0⟩
 case round=>
  clear H0 hmk
  obtain⟨j,hj,rfl,hS⟩:=hrel
  by_cases hlt:j < m
  ·have dl:decide ((j:Int) < (m:Int))=true:=decide_eq_true (by omega)
   rcases HC.out.called hS.out.2.2 with q | ⟨g1,o1,A1,C1,rfl,hg1,hc1⟩
   ·omega
   obtain⟨⟨k0,k1,k2,k3,k4⟩,ca,_⟩:=hc1 j hlt
   have hnj:=HN.out j hlt
   have hto:=fun (W:World) (h:Came W (A1 j) (R j).n (R j).f)=>toRaster_any (R j).x0 (R j).x1 (R j).x2 (R j).x3 (A1 j) (R j).n (C1 j) (R j).f W h hnj
   have HCa:=hid_of ca
   have HNX:=fun {w2:World} {g':Nat} hb hO=>hid_of (rto_next (w2:=w2) (g':=g') hS.out hlt hb hO (by unfold maxLen; omega))
   clear hc1 ca
   generalize (R j).x0=x0 at *
   generalize (R j).x1=x1 at *
   generalize (R j).x2=x2 at *
   generalize (R j).x3=x3 at *
   generalize (R j).f=f at *
   generalize (R j).n=N at *
   generalize A1 j=y1 at *
   generalize C1 j=y2 at *
   go_wp2_with fail
   refine (hto _ HCa.out).mono ?_
   rintro e w2 ⟨g2,rfl,hO2,hB2⟩
   have HN2:=HNX hB2 hO2
   obtain⟨p1,p2,p3⟩:=rto_cell (hS.out.called hB2)
   obtain⟨u0,q0⟩:=p3 (j * 5) (by omega)
   obtain⟨u1,q1⟩:=p3 (j * 5+1) (by omega)
   obtain⟨u2,q2⟩:=p3 (j * 5+2) (by omega)
   obtain⟨u3,q3⟩:=p3 (j * 5+3) (by omega)
   obtain⟨u4,q4⟩:=p3 (j * 5+4) (by omega)
   clear p3 hO2 hB2 HNX
   go_wp2_with fail
   go_roundw
   case rel=>exact⟨j+1,by omega,by go_num,HN2⟩
   case measure=>simp [intOf]; omega
  ·obtain rfl:j=m:=by omega
   have dl:decide ((j:Int) < (j:Int))=false:=decide_eq_false (by omega)
   obtain⟨⟨A,G,C,hA,_⟩,_,hB⟩:=hS.out
   have HZ:Hid (ROwn wr w.heap.size w.heap.size j R∧Below w.heap.size w wr):=⟨⟨A,G,C,hA⟩,hB⟩
   clear hA hB hS
   go_wp2_with fail
   go_ret
   exact⟨rfl,HZ.out⟩
end
section
open Go.RowKit Go.Joins
theorem grown_of_alloc {w w':World} {o:Obj} {row:Option Nat} (h:(w.alloc o).grownBy w' row):w.grownBy w' row:=
 ⟨h.os,h.tape,h.output,Nat.le_trans (by simp) h.size,fun k hk hne=>(h.block k (by simp; omega) hne).trans (Below.heap_alloc w o k hk)⟩
theorem markRaster_mine (x0 x1 x2 x3:Int) (base g n cap:Nat) (f:Nat→Int) (k:Int) (w:World) (hO:IOwn w base g n cap f) (hn:n≤1048576) (h0:0≤k) (h1:k≤1073741824):
  Calls Tryd.prog 23 #[.agg #[.int .i64 x0,.int .i64 x1,.int .i64 x2,.int .i64 x3,.slice (some ⟨g,0,none⟩) n cap],.int .i64 k] w fun e w'=>e=.returned (.int .i64 (k+n))∧IOwn w' base g n cap (fun j=>k+j)∧w.grownBy w' (some g):=by
 have HO:=hid_of hO
 clear hO
 go_enter Tryd.func23,Tryd.ntmps23
 go_wp2_with fail
 refine (markIntS_own base g n cap f k _ (HO.out.alloc _) hn h0 h1).mono ?_
 rintro e w2 ⟨rfl,hO2,hg⟩
 have HG:=hid_of (And.intro hO2 (grown_of_alloc hg))
 clear hg hO2
 go_wp2_with fail
 go_ret
 exact⟨rfl,HG.out⟩
theorem markRaster_none (x0 x1 x2 x3:Int) (a:Option Addr) (cap:Nat) (k:Int) (w:World):
  Calls Tryd.prog 23 #[.agg #[.int .i64 x0,.int .i64 x1,.int .i64 x2,.int .i64 x3,.slice a 0 cap],.int .i64 k] w fun e w'=>e=.returned (.int .i64 k)∧Below w.heap.size w w':=by
 go_enter Tryd.func23,Tryd.ntmps23
 go_wp2_with fail
 refine (markIntS_none a cap k _).mono ?_
 rintro e w2 ⟨rfl,rfl⟩
 go_wp2_with fail
 go_ret
 exact⟨rfl,bstart _ _⟩
theorem markRaster_sl (x0 x1 x2 x3:Int) (base:Nat) (a:Option Addr) (n cap:Nat) (f:Nat→Int) (k:Int) (w:World) (hS:SL w base a n cap f) (hn:n≤1048576) (h0:0≤k) (h1:k≤1073741824):
  Calls Tryd.prog 23 #[.agg #[.int .i64 x0,.int .i64 x1,.int .i64 x2,.int .i64 x3,.slice a n cap],.int .i64 k] w fun e w'=>e=.returned (.int .i64 (k+n))∧SL w' base a n cap (fun j=>k+j)∧∃ row,(∀ g,row=some g→0 < n∧a=some ⟨g,0,none⟩∧base≤g)∧w.grownBy w' row:=by
 rcases Nat.eq_zero_or_pos n with e0 | e0
 ·subst e0
  refine (markRaster_none x0 x1 x2 x3 a cap k w).mono ?_
  rintro e w1 ⟨rfl,hB⟩
  exact⟨by simp,.inl rfl,none,(fun g hg=>by cases hg),⟨hB.os,hB.tape,hB.output,hB.size,fun b hb _=>hB.block b hb⟩⟩
 ·rcases hS with h | ⟨g,rfl,h⟩
  ·omega
  ·refine (markRaster_mine x0 x1 x2 x3 base g n cap f k w h hn h0 h1).mono ?_
   rintro e w1 ⟨rfl,hO,hg⟩
   exact⟨rfl,.inr ⟨g,rfl,hO⟩,some g,(fun g' hg'=>by cases hg'; exact⟨e0,rfl,h.base_le⟩),hg⟩
theorem heldRaster_same (x0 x1 x2 x3:Int) (a:Option Addr) (n cap:Nat) (k:Int) (w:World) (hC:Came w a n (fun j=>k+j)) (hn:n≤1048576) (h0:0≤k) (h1:k≤1073741824):
  Calls Tryd.prog 29 #[.agg #[.int .i64 x0,.int .i64 x1,.int .i64 x2,.int .i64 x3,.slice a n cap],.int .i64 k] w fun e w'=>e=.returned (.int .i64 (k+n))∧Below w.heap.size w w':=by
 have HC:=hid_of hC
 have dk:decide (k+(n:Int) < 0)=false:=decide_eq_false (by omega)
 clear hC
 go_enter Tryd.func29,Tryd.ntmps29
 go_wp2_with fail
 have HB:=hid_of (bstart w (.cells #[.int .i64 x0,.int .i64 x1,.int .i64 x2,.int .i64 x3,.slice a n cap] 26))
 generalize w.alloc (.cells #[.int .i64 x0,.int .i64 x1,.int .i64 x2,.int .i64 x3,.slice a n cap] 26)=W1 at HB ⊢
 refine (heldIntS_same a n cap k W1 (HC.out.called HB.out) hn h0 h1).mono ?_
 rintro e w2 ⟨rfl,hB2⟩
 have HB2:=hid_of (bnext HB.out hB2)
 clear hB2
 go_wp2_with fail
 go_ret
 exact⟨rfl,HB2.out⟩
end
section
namespace RastMath
def chan (c:Int):Int:=if c=0∨c=3 then 1 else if c=2 then 3 else if c=4 then 2 else if c=6 then 4 else 0
abbrev Five (d:Int):Prop:=d=1∨d=2∨d=4∨d=8∨d=16
abbrev DepthR (c d:Int):Prop:=(c=0∧Five d)∨(c=3∧Five d∧d≠16)∨((c=2∨c=4∨c=6)∧(d=8∨d=16))
abbrev SideR (n:Int):Prop:=1≤n∧n≤24
theorem chan_range (c:Int):0≤chan c∧chan c≤4:=by
 unfold chan
 repeat' split
 all_goals omega
theorem chan_pos {c d:Int} (h:DepthR c d):1≤chan c:=by
 unfold chan
 rcases h with ⟨rfl,_⟩ | ⟨rfl,_⟩ | ⟨rfl | rfl | rfl,_⟩ <;> decide
theorem depth_five {c d:Int} (h:DepthR c d):Five d:=by
 rcases h with ⟨_,h⟩ | ⟨_,h,_⟩ | ⟨_,h⟩
 ·exact h
 ·exact h
 ·exact .inr (.inr (.inr h))
theorem five_range {d:Int} (h:Five d):1≤d∧d≤16:=by
 unfold Five at h
 omega
end RastMath
end
section
namespace OutMath
def p2 (n:Nat):Int:=2 ^ n
theorem p2_zero:p2 0=1:=by simp [p2]
theorem p2_succ (n:Nat):p2 (n+1)=2 * p2 n:=by unfold p2; rw [Int.pow_succ]; omega
theorem p2_pos:∀ n,1≤p2 n
 | 0=>by simp [p2]
 | n+1=>by have:=p2_pos n; rw [p2_succ]; omega
theorem p2_mono (n:Nat):∀ m,p2 n≤p2 (n+m)
 | 0=>by simp
 | m+1=>by have:=p2_mono n m; have h:=p2_pos (n+m); rw [← Nat.add_assoc,p2_succ]; omega
theorem p2_le {n m:Nat} (h:n≤m):p2 n≤p2 m:=by
 obtain⟨k,rfl⟩:=Nat.exists_eq_add_of_le h
 exact p2_mono n k
theorem p2_61 {n:Nat} (h:n≤61):p2 n≤2305843009213693952:=by
 have h1:=p2_le h
 have h2:p2 61=2305843009213693952:=by decide +kernel
 omega
end OutMath
end
section
namespace RastMath
open OutMath
def hb (g:Nat→Int):Nat→Int
 | 0=>0
 | k+1=>2 * hb g k+g k
end RastMath
end
section
open Go.RowKit OutMath RastMath
def Fit12 (f:Nat→Int) (n d:Nat):Prop:=∀ i,i < n→0≤f i∧f i < p2 d
theorem Fit12.next {f:Nat→Int} {n d:Nat} (h:Fit12 f n d) (h0:0≤f n) (h1:f n < p2 d):Fit12 f (n+1) d:=fun i hi=>by
 by_cases e:i=n
 ·rw[e]; exact⟨h0,h1⟩
 ·exact h i (by omega)
end
section
open Go.RowKit RastMath
def RasR (x0 x1 x2 x3:Int) (n:Nat) (f:Nat→Int):Prop:=SideR x0∧SideR x1∧DepthR x2 x3∧(n:Int)=x0 * x1 * chan x2∧Fit12 f n x3.toNat
def RasPost (x0 x1 x2 x3:Int) (n:Nat) (f:Nat→Int) (w:World) (e:Ending) (w':World):Prop:=∃ b,e=.returned (.bool b)∧(b=true↔RasR x0 x1 x2 x3 n f)∧Below w.heap.size w w'
theorem ras_no {x0 x1 x2 x3:Int} {n:Nat} {f:Nat→Int} {w w':World} (h:¬ RasR x0 x1 x2 x3 n f) (hb:Below w.heap.size w w'):RasPost x0 x1 x2 x3 n f w (.returned (.bool false)) w':=⟨false,rfl,⟨(fun e=>by cases e),fun k=>absurd k h⟩,hb⟩
theorem ras_yes {x0 x1 x2 x3:Int} {n:Nat} {f:Nat→Int} {w w':World} (h:RasR x0 x1 x2 x3 n f) (hb:Below w.heap.size w w'):RasPost x0 x1 x2 x3 n f w (.returned (.bool true)) w':=⟨true,rfl,⟨fun _=>h,fun _=>rfl⟩,hb⟩
end
end Go.Proofs.YtcbbcadfolgioaaDoor
