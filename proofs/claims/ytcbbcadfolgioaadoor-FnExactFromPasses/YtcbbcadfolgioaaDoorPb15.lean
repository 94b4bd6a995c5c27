/-
  Texts of the proof, put together.
-/
import Derived.Test.YtcbbcadfolgioaaDoorPb14
import Derived.Test.YtcbbcadfolgioaaDoorPb11
import Derived.Test.YtcbbcadfolgioaaDoorPb13
namespace Go.Proofs.YtcbbcadfolgioaaDoor
section
open Go.RowKit Go.Joins RastMath PassMath
theorem passShape_any (W H x2 x3 p:Int) (v:Value) (w:World) (hG:GridG w):
  Calls Tryd.prog 36 #[.agg #[.int .i64 W,.int .i64 H,.int .i64 x2,.int .i64 x3,v],.int .i64 p] w fun e w'=>e=.returned (.agg #[.int .i64 (wideV W H p),.int .i64 (highV W H p),.int .i64 x2,.int .i64 x3,.slice none 0 0])∧Below w.heap.size w w':=by
 have hsz:=fun V (h:GridG V)=>passSize_any W H p V h
 generalize wideV W H p=A at *
 generalize highV W H p=B at *
 have HX:Hid (((w.alloc (.cells #[.int .i64 W,.int .i64 H,.int .i64 x2,.int .i64 x3,v] 26)).alloc (.cells #[.int .i64 0,.int .i64 0,.int .i64 0,.int .i64 0,.slice none 0 0] 26)).heap[w.heap.size]?=some (.cells #[.int .i64 W,.int .i64 H,.int .i64 x2,.int .i64 x3,v] 26 (0,0))):=
  (Below.heap_alloc (w.alloc _) _ _ (by simp)).trans (heap_alloc_new w _)
 have HZ:Hid (((w.alloc (.cells #[.int .i64 W,.int .i64 H,.int .i64 x2,.int .i64 x3,v] 26)).alloc (.cells #[.int .i64 0,.int .i64 0,.int .i64 0,.int .i64 0,.slice none 0 0] 26)).heap[w.heap.size+1]?=some (.cells #[.int .i64 0,.int .i64 0,.int .i64 0,.int .i64 0,.slice none 0 0] 26 (0,0))):=by
  have:=heap_alloc_new (w.alloc (.cells #[.int .i64 W,.int .i64 H,.int .i64 x2,.int .i64 x3,v] 26)) (.cells #[.int .i64 0,.int .i64 0,.int .i64 0,.int .i64 0,.slice none 0 0] 26)
  rw[show (w.alloc (.cells #[.int .i64 W,.int .i64 H,.int .i64 x2,.int .i64 x3,v] 26)).heap.size=w.heap.size+1 by simp] at this
  exact this
 have HB:=hid_of (bal (bstart w (.cells #[.int .i64 W,.int .i64 H,.int .i64 x2,.int .i64 x3,v] 26)) (.cells #[.int .i64 0,.int .i64 0,.int .i64 0,.int .i64 0,.slice none 0 0] 26))
 have HG:=hid_of (hG.called HB.out)
 clear hG
 go_enter Tryd.func36,Tryd.ntmps36
 go_wp2_with fail
 generalize (w.alloc (.cells #[.int .i64 W,.int .i64 H,.int .i64 x2,.int .i64 x3,v] 26)).alloc (.cells #[.int .i64 0,.int .i64 0,.int .i64 0,.int .i64 0,.slice none 0 0] 26)=W1 at HX HZ HB HG ⊢
 refine (hsz W1 HG.out).mono ?_
 rintro e w1 ⟨rfl,hB1⟩
 have HX1:=hid_of ((hB1.block _ (block_lt HX.out)).trans HX.out)
 have HZ1:=hid_of ((hB1.block _ (block_lt HZ.out)).trans HZ.out)
 have HB1:=hid_of (bnext HB.out hB1)
 clear hB1 HX HZ HB HG hsz
 have k2:w1.cell? ⟨w.heap.size,2,none⟩=some (.int .i64 x2):=(cell_of_block HX1.out 2).trans rfl
 have k3:w1.cell? ⟨w.heap.size,3,none⟩=some (.int .i64 x3):=(cell_of_block HX1.out 3).trans rfl
 have lx:=block_lt HX1.out
 have z0:w1.cell? ⟨w.heap.size+1,0,none⟩=some (.int .i64 0):=(cell_of_block HZ1.out 0).trans rfl
 have z1:w1.cell? ⟨w.heap.size+1,1,none⟩=some (.int .i64 0):=(cell_of_block HZ1.out 1).trans rfl
 have z2:w1.cell? ⟨w.heap.size+1,2,none⟩=some (.int .i64 0):=(cell_of_block HZ1.out 2).trans rfl
 have z3:w1.cell? ⟨w.heap.size+1,3,none⟩=some (.int .i64 0):=(cell_of_block HZ1.out 3).trans rfl
 have z4:w1.cell? ⟨w.heap.size+1,4,none⟩=some (.slice none 0 0):=(cell_of_block HZ1.out 4).trans rfl
 have zf:∀ k,w1.frozen? ⟨w.heap.size+1,k,none⟩=false:=unfrozen_of_block HZ1.out
 have lz:=block_lt HZ1.out
 go_wp2_with fail
 refine bodyPost_ret (v:=.agg #[.int .i64 A,.int .i64 B,.int .i64 x2,.int .i64 x3,.slice none 0 0]) ?_ rfl ⟨rfl,?_⟩
 ·simp[results,Tryd.results36,go_sem, *]
 ·iterate 5 refine Below.setCell ?_ (by simp) _
  exact HB1.out
set_option maxHeartbeats 1600000 in
theorem hasShape_any (x0 x1 x2 x3 y0 y1 y2 y3:Int) (u v:Value) (w:World):
  Calls Tryd.prog 81 #[.agg #[.int .i64 x0,.int .i64 x1,.int .i64 x2,.int .i64 x3,u],.agg #[.int .i64 y0,.int .i64 y1,.int .i64 y2,.int .i64 y3,v]] w fun e w'=>e=.returned (.bool (decide (x0=y0∧x1=y1∧x2=y2∧x3=y3)))∧Below w.heap.size w w':=by
 have HB:=hid_of (bal (bstart w (.cells #[.int .i64 x0,.int .i64 x1,.int .i64 x2,.int .i64 x3,u] 26)) (.cells #[.int .i64 y0,.int .i64 y1,.int .i64 y2,.int .i64 y3,v] 26))
 obtain⟨b,hb⟩:∃ b,b=decide (x0=y0∧x1=y1∧x2=y2∧x3=y3):=⟨_,rfl⟩
 rw[← hb]
 by_cases h0:x0=y0
 ·have e0:(x0 == y0)=true:=by simpa using h0
  by_cases h1:x1=y1
  ·have e1:(x1 == y1)=true:=by simpa using h1
   by_cases h2:x2=y2
   ·have e2:(x2 == y2)=true:=by simpa using h2
    obtain rfl:b=decide (x3=y3):=by rw [hb]; exact decide_eq_decide.mpr ⟨fun h=>h.2.2.2,fun h=>⟨h0,h1,h2,h⟩⟩
    clear hb h0 h1 h2
    by_cases h3:x3=y3
    ·have e3:(x3 == y3)=true:=by simpa using h3
     rw[decide_eq_true h3]
     clear h3
     go_enter Tryd.func81,Tryd.ntmps81
     go_wp2_with fail
     go_ret
     exact⟨rfl,HB.out⟩
    ·have e3:(x3 == y3)=false:=by simpa using h3
     rw[decide_eq_false h3]
     clear h3
     go_enter Tryd.func81,Tryd.ntmps81
     go_wp2_with fail
     go_ret
     exact⟨rfl,HB.out⟩
   ·have e2:(x2 == y2)=false:=by simpa using h2
    obtain rfl:b=false:=by rw [hb]; exact decide_eq_false fun h=>h2 h.2.2.1
    clear hb h0 h1 h2
    go_enter Tryd.func81,Tryd.ntmps81
    go_wp2_with fail
    go_ret
    exact⟨rfl,HB.out⟩
  ·have e1:(x1 == y1)=false:=by simpa using h1
   obtain rfl:b=false:=by rw [hb]; exact decide_eq_false fun h=>h1 h.2.1
   clear hb h0 h1
   go_enter Tryd.func81,Tryd.ntmps81
   go_wp2_with fail
   go_ret
   exact⟨rfl,HB.out⟩
 ·have e0:(x0 == y0)=false:=by simpa using h0
  obtain rfl:b=false:=by rw [hb]; exact decide_eq_false fun h=>h0 h.1
  clear hb h0
  go_enter Tryd.func81,Tryd.ntmps81
  go_wp2_with fail
  go_ret
  exact⟨rfl,HB.out⟩
end
section
open Go.RowKit Go.Joins RastMath PassMath
theorem ras_value {w:World} {b:Nat} {x0 x1 x2 x3:Int} {v:Value} (h:w.heap[b]?=some (.cells #[.int .i64 x0,.int .i64 x1,.int .i64 x2,.int .i64 x3,v] 26 (0,0))):w.cell? ⟨b,0,none⟩=some (.int .i64 x0)∧w.cell? ⟨b,1,none⟩=some (.int .i64 x1)∧w.cell? ⟨b,2,none⟩=some (.int .i64 x2)∧w.cell? ⟨b,3,none⟩=some (.int .i64 x3)∧w.cell? ⟨b,4,none⟩=some v∧b < w.heap.size:=
 ⟨(cell_of_block h 0).trans rfl,(cell_of_block h 1).trans rfl,(cell_of_block h 2).trans rfl,(cell_of_block h 3).trans rfl,(cell_of_block h 4).trans rfl,block_lt h⟩
end
end Go.Proofs.YtcbbcadfolgioaaDoor
