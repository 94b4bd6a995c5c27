/-
  Texts of the proof, put together.
-/
import Derived.Test.YtklpiihnbokkkaaGreatDoorFk39
namespace Go.Proofs.YtklpiihnbokkkaaGreatDoor
open Go.RowKit Go.Joins RunsMath
theorem at_ret {w W:World} {v0 v1:Value} {post:Ending→World→Prop} {ac:Act} (hc:W.heap[w.heap.size]?=some (.cells #[v0,v1] 165 (0,0))) (h4:ac.tmps[4]?.getD undef=.pointer (some ⟨w.heap.size,0,none⟩)) (hd:ac.defers=[]) (h:post (.returned (.agg #[v0,v1])) W):bodyPost Tryz.prog Tryz.f213 post Exit.ret ac W:=by
 have c0:W.cell? ⟨w.heap.size,0,none⟩=some v0:=cell_of_block hc 0
 have c1:W.cell? ⟨w.heap.size,1,none⟩=some v1:=cell_of_block hc 1
 exact bodyPost_ret (v:=.agg #[v0,v1]) (by simp [results,Tryz.results213,go_sem,h4,c0,c1]) hd h
def AtPost (f:Nat→Int) (n i:Nat) (w:World) (e:Ending) (w':World):Prop:=e=.returned (.agg #[.int .i64 (runAt f n i).1.1,.int .i64 (runAt f n i).1.2])∧Below w.heap.size w w'
theorem AtPost.mk {f:Nat→Int} {n i k:Nat} {w w':World} {s x:Int} (h:runAt f n i=((s,x),k)) (hb:Below w.heap.size w w'):AtPost f n i w (.returned (.agg #[.int .i64 s,.int .i64 x])) w':=by
 refine⟨?_,hb⟩
 rw[h]
theorem at_end {f:Nat→Int} {n i k m:Nat} {w:World} {s x:Int} {ac:Act} (h:runAt f n i=((s,x),k)) (h4:ac.tmps[4]?.getD undef=.pointer (some ⟨w.heap.size,0,none⟩)) (hd:ac.defers=[]):
  bodyPost Tryz.prog Tryz.f213 (AtPost f n i w) Exit.ret ac ((((w.alloc (.cells #[.int .i64 0,.int .i64 0] 165)).drewN m).setCell ⟨w.heap.size,0,none⟩ (.int .i64 s)).setCell ⟨w.heap.size,1,none⟩ (.int .i64 x)):=by
 have hr:((w.alloc (.cells #[.int .i64 0,.int .i64 0] 165)).drewN m).heap[w.heap.size]?=some (.cells #[.int .i64 0,.int .i64 0] 165 (0,0)):=heap_alloc_new w _
 exact at_ret (w:=w) (two_set hr _ _) h4 hd (AtPost.mk h (two_below (bdraws (bstart _ _) m) (Nat.le_refl _) _ _))
set_option maxHeartbeats 4000000 in
theorem at_any (a:Option Addr) (n cap:Nat) (f:Nat→Int) (i:Nat) (w:World) (hC:Came w a n f) (hn:n≤1048576) (hi:i < n):
  Calls Tryz.prog 213 #[.slice a n cap,.int .i64 (i:Int)] w (AtPost f n i w):=by
 have hal:=fun (m:Nat)=>alike_any a n cap f i ((w.alloc (.cells #[.int .i64 0,.int .i64 0] 165)).drewN m) (hC.called (bdraws (bstart w _) m)) hn hi
 have hpos:=alike_pos (f:=f) hi
 have hin:=same_in f n (f i) n i (by omega)
 obtain⟨q,hq⟩:∃ q,q=sameN f n (f i) n i:=⟨_,rfl⟩
 have eq:alikeN f n i=q:=hq.symm
 rw[eq] at hal
 rw[← hq] at hpos hin
 have HQ:=hid_of hq
 clear eq hq
 rcases hC with h0 | ⟨g,off,rfl,hg,hc⟩
 ·omega
 have ci:=hc i hi
 have HC:=hid_of hc
 clear hc
 by_cases h0:f i=0
 ·have d0:(f i == 0)=true:=by simpa using h0
  by_cases h1:11≤q
  ·have e1:decide ((11:Int)≤(q:Int))=true:=decide_eq_true (by omega)
   by_cases h2:q≤138
   ·have e2:decide ((q:Int)≤138)=true:=decide_eq_true (by omega)
    have e3:(q:Int)≤138:=by omega
    have e4:min (q:Int) 138=(q:Int):=by omega
    have HA:Hid (runAt f n i=((18,(q:Int) - 11),q)):=by
     have e:=at_18 hi HQ.out h0 h1
     rw[Nat.min_eq_left h2] at e
     exact e
    go_enter Tryz.func213,Tryz.ntmps213
    go_wp2_with fail
    go_quiet ((go_at_call 222; exact Calls.quiet_of (hal _)))
    go_wp2_with fail
    exact at_end HA.out rfl rfl
   ·have e2:decide ((q:Int)≤138)=false:=decide_eq_false (by omega)
    have e3:¬ (q:Int)≤138:=by omega
    have e4:min (q:Int) 138=138:=by omega
    have HA:Hid (runAt f n i=((18,127),138)):=by
     have e:=at_18 hi HQ.out h0 h1
     rw[Nat.min_eq_right (by omega)] at e
     exact e
    go_enter Tryz.func213,Tryz.ntmps213
    go_wp2_with fail
    go_quiet ((go_at_call 222; exact Calls.quiet_of (hal _)))
    go_wp2_with fail
    exact at_end HA.out rfl rfl
  ·have e1:decide ((11:Int)≤(q:Int))=false:=decide_eq_false (by omega)
   by_cases h2:3≤q
   ·have e2:decide ((3:Int)≤(q:Int))=true:=decide_eq_true (by omega)
    have HA:=hid_of (at_17 hi HQ.out h0 h1 h2)
    go_enter Tryz.func213,Tryz.ntmps213
    go_wp2_with fail
    go_quiet ((go_at_call 222; exact Calls.quiet_of (hal _)))
    go_wp2_with fail
    exact at_end HA.out rfl rfl
   ·have e2:decide ((3:Int)≤(q:Int))=false:=decide_eq_false (by omega)
    have HA:Hid (runAt f n i=((0,0),1)):=by
     have e:=at_x hi HQ.out (fun _=>h2) (fun h=>h2 h.2.2)
     rw[h0] at e
     exact e
    by_cases hi0:0 < i
    ·have cp:=HC.out (i - 1) (by omega)
     have p0:decide (0 < (i:Int))=true:=decide_eq_true (by omega)
     have p1:((i:Int) - 1).toNat=i - 1:=by omega
     have p2:(i:Int) - 1 < (n:Int):=by omega
     have p3:(0:Int)≤(i:Int) - 1:=by omega
     go_enter Tryz.func213,Tryz.ntmps213
     go_wp2_with fail
     go_quiet ((go_at_call 222; exact Calls.quiet_of (hal _)))
     go_wp2_with fail
     all_goals exact at_end HA.out rfl rfl
    ·have p0:decide (0 < (i:Int))=false:=decide_eq_false (by omega)
     go_enter Tryz.func213,Tryz.ntmps213
     go_wp2_with fail
     go_quiet ((go_at_call 222; exact Calls.quiet_of (hal _)))
     go_wp2_with fail
     exact at_end HA.out rfl rfl
 ·have d0:(f i == 0)=false:=by simpa using h0
  by_cases hi0:0 < i
  ·have cp:=HC.out (i - 1) (by omega)
   have p0:decide (0 < (i:Int))=true:=decide_eq_true (by omega)
   have p1:((i:Int) - 1).toNat=i - 1:=by omega
   have p2:(i:Int) - 1 < (n:Int):=by omega
   have p3:(0:Int)≤(i:Int) - 1:=by omega
   by_cases h3:f (i - 1)=f i
   ·rw[h3] at cp
    by_cases h2:3≤q
    ·have e2:decide ((3:Int)≤(q:Int))=true:=decide_eq_true (by omega)
     have e:=at_16 hi HQ.out hi0 h0 h3 h2
     by_cases h4:q≤6
     ·have e4:decide ((q:Int)≤6)=true:=decide_eq_true (by omega)
      have e5:(q:Int)≤6:=by omega
      have e6:min (q:Int) 6=(q:Int):=by omega
      have HA:Hid (runAt f n i=((16,(q:Int) - 3),q)):=by
       rw[Nat.min_eq_left h4] at e
       exact e
      clear e h3
      go_enter Tryz.func213,Tryz.ntmps213
      go_wp2_with fail
      go_quiet ((go_at_call 222; exact Calls.quiet_of (hal _)))
      go_wp2_with fail
      exact at_end HA.out rfl rfl
     ·have e4:decide ((q:Int)≤6)=false:=decide_eq_false (by omega)
      have e5:¬ (q:Int)≤6:=by omega
      have e6:min (q:Int) 6=6:=by omega
      have HA:Hid (runAt f n i=((16,3),6)):=by
       rw[Nat.min_eq_right (by omega)] at e
       exact e
      clear e h3
      go_enter Tryz.func213,Tryz.ntmps213
      go_wp2_with fail
      go_quiet ((go_at_call 222; exact Calls.quiet_of (hal _)))
      go_wp2_with fail
      exact at_end HA.out rfl rfl
    ·have e2:decide ((3:Int)≤(q:Int))=false:=decide_eq_false (by omega)
     have HA:=hid_of (at_x hi HQ.out (fun h=>absurd h h0) (fun h=>h2 h.2.2))
     clear h3
     go_enter Tryz.func213,Tryz.ntmps213
     go_wp2_with fail
     go_quiet ((go_at_call 222; exact Calls.quiet_of (hal _)))
     go_wp2_with fail
     exact at_end HA.out rfl rfl
   ·have e2:(f (i - 1) == f i)=false:=by simpa using h3
    have HA:=hid_of (at_x hi HQ.out (fun h=>absurd h h0) (fun h=>h3 h.2.1))
    go_enter Tryz.func213,Tryz.ntmps213
    go_wp2_with fail
    go_quiet ((go_at_call 222; exact Calls.quiet_of (hal _)))
    go_wp2_with fail
    exact at_end HA.out rfl rfl
  ·have p0:decide (0 < (i:Int))=false:=decide_eq_false (by omega)
   have HA:=hid_of (at_x hi HQ.out (fun h=>absurd h h0) (fun h=>hi0 h.1))
   go_enter Tryz.func213,Tryz.ntmps213
   go_wp2_with fail
   go_quiet ((go_at_call 222; exact Calls.quiet_of (hal _)))
   go_wp2_with fail
   exact at_end HA.out rfl rfl
end Go.Proofs.YtklpiihnbokkkaaGreatDoor
