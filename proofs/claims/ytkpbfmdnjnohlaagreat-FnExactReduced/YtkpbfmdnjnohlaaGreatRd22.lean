/-
  Texts of the proof, put together.
-/
import Derived.Test.YtkpbfmdnjnohlaaGreatRd03
namespace Go.Proofs.YtkpbfmdnjnohlaaGreat
open Go.RowKit Go.Joins HeadMath
theorem isTable_any (n:Int) (w:World):Calls Tryz.prog 135 #[.int .i64 n] w fun e w'=>e=.returned (.bool (decide (1≤n∧n≤256)))∧w'=w:=by
 by_cases h1:1≤n
 ·have d1:decide (1≤n)=true:=decide_eq_true h1
  have hh:decide (1≤n∧n≤256)=decide (n≤256):=decide_eq_decide.mpr ⟨fun h=>h.2,fun h=>⟨h1,h⟩⟩
  rw[hh]
  clear h1 hh
  generalize hb:decide (n≤256)=b
  go_enter Tryz.func135,Tryz.ntmps135
  go_wp2_with fail
  go_ret
  exact⟨rfl,rfl⟩
 ·have d1:decide (1≤n)=false:=decide_eq_false h1
  rw[decide_eq_false (fun h:1≤n∧n≤256=>h1 h.1)]
  clear h1
  go_enter Tryz.func135,Tryz.ntmps135
  go_wp2_with fail
  go_ret
  exact⟨rfl,rfl⟩
theorem numbers_any (x y z:Int) (w:World):Calls Tryz.prog 110 #[.agg #[.int .i64 x,.int .i64 y,.int .i64 z]] w fun e w'=>(∃ a,e=.returned (.slice a 3 3)∧Came w' a 3 (col3 (x,y,z)))∧Below w.heap.size w w':=by
 have HC:Hid (∀ W:World,Came (W.alloc (.cells #[.int .i64 x,.int .i64 y,.int .i64 z] 3)) (some ⟨W.heap.size,0,none⟩) 3 (col3 (x,y,z))):=fun W=>by
  refine .inr ⟨W.heap.size,0,rfl,by simp,fun j hj=>?_⟩
  rw[Nat.zero_add,cell_of_block (heap_alloc_new W _) j]
  match j,hj with
  | 0,_=>rfl
  | 1,_=>rfl
  | 2,_=>rfl
  | k+3,hk=>omega
 go_enter Tryz.func110,Tryz.ntmps110
 go_wp2_with fail
 go_ret
 refine⟨⟨_,rfl,?_⟩,bal (bstart _ _) _⟩
 have h:=HC.out (w.alloc (.cells #[.int .i64 x,.int .i64 y,.int .i64 z] 74))
 simpa using h
theorem rgb_box {w:World} {b:Nat} {x y z:Int} (h:w.heap[b]?=some (.cells #[.int .i64 x,.int .i64 y,.int .i64 z] 74 (0,0))):w.cell? ⟨b,0,none⟩=some (.int .i64 x)∧w.cell? ⟨b,1,none⟩=some (.int .i64 y)∧w.cell? ⟨b,2,none⟩=some (.int .i64 z):=
 ⟨(cell_of_block h 0).trans rfl,(cell_of_block h 1).trans rfl,(cell_of_block h 2).trans rfl⟩
set_option maxRecDepth 100000 in
set_option maxHeartbeats 6400000 in
theorem implTableText (a:Option Addr) (n cap:Nat) (F:Nat→Rgb3) (w:World) (hC:RgbCame w a n F) (hn:n≤1048576):
  Calls Tryz.prog 125 #[.slice a n cap] w (TabPost F n w):=by
 have hi:=isTable_any (n:Int)
 by_cases h1:1≤(n:Int)∧(n:Int)≤256
 ·rw[decide_eq_true h1] at hi
  have HC:=hid_of hC
  have H1:=hid_of h1
  have H0:=hid_of (TbB.start0 w F)
  have k8:((8:Nat):Int)=8:=rfl
  clear hC
  go_enter Tryz.func125,Tryz.ntmps125
  go_wp2_with fail
  refine (hi _).mono ?_
  rintro e w1 ⟨rfl,rfl⟩
  go_wp2_with fail
  go_loopw [4,13] (fun v i w'=>∃ j:Nat,j≤n∧i=.int .i64 j∧Hid (TbB w1 w' v F j)) (fun _ i _=>n - (intOf i).toNat)
  case atStart=>exact⟨0,Nat.zero_le _,rfl,H0⟩
  case round=>
   clear H0 hi
   obtain⟨j,hj,rfl,hS⟩:=hrel
   by_cases hlt:j < n
   ·rcases HC.out with h0 | ⟨g,off,rfl,hg,hc⟩
    ·omega
    ·obtain⟨q0,q1,q2⟩:=hc j hlt
     have c0:=(hS.out.2.2.cell (p:=⟨g,off+j * 3,none⟩) hg).trans q0
     have c1:=(hS.out.2.2.cell (p:=⟨g,off+j * 3+1,none⟩) hg).trans q1
     have c2:=(hS.out.2.2.cell (p:=⟨g,off+j * 3+2,none⟩) hg).trans q2
     have lg:g < wr.heap.size:=Nat.lt_of_lt_of_le hg hS.out.2.2.size
     obtain⟨⟨x,y,z⟩,hFj⟩:∃ c:Rgb3,F j=c:=⟨_,rfl⟩
     have HF:=hid_of hFj
     rw[hFj] at c0 c1 c2
     have hnum:=numbers_any x y z
     have HX:Hid ((wr.alloc (.cells #[.int .i64 x,.int .i64 y,.int .i64 z] 74)).heap[wr.heap.size]?=some (.cells #[.int .i64 x,.int .i64 y,.int .i64 z] 74 (0,0))):=heap_alloc_new wr _
     have HS1:Hid (TbB w1 (wr.alloc (.cells #[.int .i64 x,.int .i64 y,.int .i64 z] 74)) u4 F j):=hS.out.called (bstart _ _)
     clear hc q0 q1 q2 hFj hS
     go_wp2_with fail
     clear c0 c1 c2 lg
     generalize wr.alloc (.cells #[.int .i64 x,.int .i64 y,.int .i64 z] 74)=W2 at HX HS1 ⊢
     generalize wr.heap.size=X at HX ⊢
     refine (hnum W2).mono ?_
     rintro e w3 ⟨⟨a3,rfl,hC3⟩,hB3⟩
     have HX3:=hid_of ((hB3.block _ (block_lt HX.out)).trans HX.out)
     have HS3:=hid_of (HS1.out.called hB3)
     have HC3:=hid_of hC3
     clear hB3 HX HS1 hC3 hnum
     have hsm:=samples_any a3 3 3 8 (col3 (x,y,z)) w3 HC3.out (by omega) (by omega)
     rw[k8] at hsm
     go_wp2_with fail
     refine hsm.mono ?_
     rintro e w4 ⟨b,rfl,hb,rfl⟩
     have hb2:b=true↔RgbR (F j):=by
      rw[hb,HF.out]
      exact col3_fit (x,y,z)
     obtain⟨k0,k1,k2⟩:=rgb_box HX3.out
     have lx:=block_lt HX3.out
     clear hsm hb HC3
     cases b
     ·have HN:Hid (¬ TableR F n):=fun k=>absurd (hb2.mpr (k.2 j hlt)) (by simp)
      have HB:=hid_of HS3.out.2.2
      clear hb2 HS3
      go_wp2_with fail
      exact bodyPost_ret (v:=.tuple #[.string ⟨#[]⟩,.bool false]) (by simp [results,Tryz.results125,go_sem]) rfl ⟨.inr ⟨HN.out,rfl⟩,HB.out⟩
     ·have hcr:RgbR (F j):=hb2.mp rfl
      have hcx:RgbR (x,y,z):=by rw [← HF.out]; exact hcr
      obtain⟨r0,r1,r2⟩:=hcx
      have e0:IntKind.u8.wrap x=x:=by show x % 256=x; simp only at r0; omega
      have e1:IntKind.u8.wrap y=y:=by show y % 256=y; simp only at r1; omega
      have e2:IntKind.u8.wrap z=z:=by show z % 256=z; simp only at r2; omega
      have HCR:=hid_of hcr
      have HNX:Hid (∀ w2 v',w2.ownsRow w1.heap.size 5 1 v' (3 * j+3) (t8 (colN F j) ++ t8 [x,y,z])→∀ o,(w4.alloc o).grownBy w2 u4.ownBlock→TbB w1 w2 v' F (j+1)):=fun w2 v' k o hg=>by
       refine TbB.next (HS3.out.called (bstart _ o)) HCR.out ?_ hg
       rw[HF.out]
       exact k
      clear hb2 hcr r0 r1 r2 HCR
      go_wp2_with (at_builtin; refine bytes_three (S:=w1.heap.size) (k:=3 * j) (xs:=colN F j) rfl _ _ rfl rfl (World.ownsRow.alloc HS3.out.1 _) w4.heap.size 3 x y z rfl (heap_alloc_new w4 _) (by have:=H1.out; omega) (by have:=HS3.out.2.2.size; simp; omega) ?_)
      intro v' w5 hown hgr
      have HN:=hid_of (HNX.out w5 v' hown _ hgr)
      clear hown hgr HNX HS3
      go_wp2_with fail
      go_roundw
      case rel=>exact⟨j+1,by omega,by go_num,HN⟩
      case measure=>simp [intOf]; omega
   ·obtain rfl:j=n:=by omega
    have hcv:=hS.out.text (by have:=H1.out; omega)
    have HR:Hid (TableR F j):=⟨by have:=H1.out; omega,hS.out.2.1⟩
    have HB2:=hid_of hS.out.2.2
    clear hS
    go_wp2_with fail
    exact bodyPost_ret (v:=.tuple #[.string (tableT F j),.bool true]) (by simp [results,Tryz.results125,go_sem]) rfl ⟨.inl ⟨HR.out,rfl⟩,HB2.out⟩
 ·rw[decide_eq_false h1] at hi
  have HX:Hid (¬ TableR F n):=fun h=>h1 (by have:=h.1; omega)
  clear h1
  go_enter Tryz.func125,Tryz.ntmps125
  go_wp2_with fail
  refine (hi _).mono ?_
  rintro e w1 ⟨rfl,rfl⟩
  go_wp2_with fail
  exact bodyPost_ret (v:=.tuple #[.string ⟨#[]⟩,.bool false]) (by simp [results,Tryz.results125,go_sem]) rfl ⟨.inr ⟨HX.out,rfl⟩,Below.refl _ _⟩
end Go.Proofs.YtkpbfmdnjnohlaaGreat
