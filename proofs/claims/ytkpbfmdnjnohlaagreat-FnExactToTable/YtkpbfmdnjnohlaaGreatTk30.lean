/-
  Texts of the proof, put together.
-/
import Derived.Test.YtkpbfmdnjnohlaaGreatTk01
namespace Go.Proofs.YtkpbfmdnjnohlaaGreat
open Go.RowKit Go.Joins HeadMath
section
variable {w0 w w':World} {base g n cap:Nat} {L:List Rgb3}
end
theorem rgbNews_tk (w:World) (x y z:Int) (n:Nat) (h:w.heap.size=n):∀ q u,(rgbTcells [(x,y,z)])[q]?=some u→(w.alloc (.cells #[.int .i64 x,.int .i64 y,.int .i64 z] 74)).cell? ((⟨n,0,none⟩:Addr).add q)=some u:=by
 subst h
 exact World.news_of_block (cs:=#[.int .i64 x,.int .i64 y,.int .i64 z]) (t:=74) (fr:=(0,0)) (heap_alloc_new w _)
theorem rgbs_append_at {w:World} {S:Nat} {v:Value} {xs ys:List Rgb3} {ops:Array Oper} {rest:List Oper} {o:Oper} {a:Act} {Q:Exit→Act→World→Prop} (hgd:o.guard=none) (s x:Operand)
  (ho:o.op=.call { callee:=.builtin .append,args:=#[s,x],argTypes:=#[33,33] }) (hs:a.eval s=v) (h:w.ownsRow S 74 3 v xs.length (rgbTcells xs)) (ad:Addr) (m c:Nat) (hx:a.eval x=.slice (some ad) m c) (hm:ys.length=m)
  (hc:∀ j u,(rgbTcells ys)[j]?=some u→w.cell? (ad.add j)=some u)
  (h63:xs.length+ys.length≤100000) (hS:S≤w.heap.size)
  (hK:∀ v' w',w'.ownsRow S 74 3 v' (xs ++ ys).length (rgbTcells (xs ++ ys))→w.grownBy w' v.ownBlock→(v'.ownBlock=v.ownBlock∨v'.ownBlock=some w.heap.size)→wpList Tryz.prog ops Q rest (a.put o.dst v') w'):wpList Tryz.prog ops Q (o :: rest) a w:=by
 obtain⟨i0,hi0,hz0,hz1,hz2⟩:=info_parts info_rgb
 refine wpList_append_own_at w hgd s x _ ho S 74 i0 _ 3 24 Tryz.underlying33 hi0 hz0 hz1 hz2 rfl (by omega) v _ _ hs h ad m c (rgbTcells ys) hx (by rw [rgbTcells_length,hm]) hc (rgbTcells_one ys) (by unfold maxLen; omega) (by omega) hS ?_
 intro v' w' hown hg _ hat
 refine hK v' w' ?_ hg hat
 rw[List.length_append,rgbTcells_app,hm]
 exact hown
end Go.Proofs.YtkpbfmdnjnohlaaGreat
