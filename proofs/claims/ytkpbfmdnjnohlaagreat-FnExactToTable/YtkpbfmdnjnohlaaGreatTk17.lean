/-
  Texts of the proof, put together.
-/
import Derived.Test.YtkpbfmdnjnohlaaGreatTk09
namespace Go.Proofs.YtkpbfmdnjnohlaaGreat
open Go.RowKit Go.Joins
set_option maxRecDepth 100000 in
set_option maxHeartbeats 1600000 in
theorem tableCover_any (p:Pic) (q:PicA) (v:Nat) (w:World) (hC:Came w q.ca p.cn p.C):
  Calls Tryz.prog 111 #[pngV p q,.int .i64 (v:Int)] w fun e w'=>e=.returned (.int .i64 (coverT p (v:Int)))∧Below w.heap.size w w':=by
 obtain⟨hw,hh,hd,hc',lace,tn,T,cn,C,rw',rh,rc,rd,sn,S,kn,K⟩:=p
 obtain⟨ta,tc,ca,cc,sa,sc,ka,kc⟩:=q
 have HC:Hid (Came w ca cn C):=hC
 have HE:Hid (coverT ⟨hw,hh,hd,hc',lace,tn,T,cn,C,rw',rh,rc,rd,sn,S,kn,K⟩ (v:Int)=if (v:Int) < (cn:Int) then C v else 255):=rfl
 have HB:=hid_of (bstart w (.cells #[.int .i64 hw,.int .i64 hh,.int .i64 hd,.int .i64 hc',.bool lace,.slice ta tn tc,.slice ca cn cc,.int .i64 rw',.int .i64 rh,.int .i64 rc,.int .i64 rd,.slice sa sn sc,.slice ka kn kc] 37))
 rw[HE.out]
 clear hC HE
 show Calls Tryz.prog 111 #[.agg #[.int .i64 hw,.int .i64 hh,.int .i64 hd,.int .i64 hc',.bool lace,.slice ta tn tc,.slice ca cn cc,.int .i64 rw',.int .i64 rh,.int .i64 rc,.int .i64 rd,.slice sa sn sc,.slice ka kn kc],.int .i64 (v:Int)] w _
 by_cases h:v < cn
 ·rw[if_pos (by omega)]
  rcases HC.out with h0 | ⟨g,off,rfl,hg,hc⟩
  ·omega
  ·have c0:=hc v h
   have d:decide ((v:Int) < (cn:Int))=true:=decide_eq_true (by omega)
   have h0:(0:Int)≤(v:Int):=by omega
   have h1:(v:Int) < (cn:Int):=by omega
   generalize C v=x at c0 ⊢
   clear hc HC
   go_enter Tryz.func111,Tryz.ntmps111
   go_wp2_with fail
   go_ret
   exact⟨rfl,HB.out⟩
 ·rw[if_neg (by omega)]
  have d:decide ((v:Int) < (cn:Int))=false:=decide_eq_false (by omega)
  have d2:decide (v < cn)=false:=decide_eq_false h
  clear h HC
  go_enter Tryz.func111,Tryz.ntmps111
  go_wp2_with fail
  go_ret
  exact⟨rfl,HB.out⟩
end Go.Proofs.YtkpbfmdnjnohlaaGreat
