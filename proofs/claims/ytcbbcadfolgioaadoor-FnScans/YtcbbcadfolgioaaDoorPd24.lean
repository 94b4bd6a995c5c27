/-
  Texts of the proof, put together.
-/
import Derived.Test.YtcbbcadfolgioaaDoorPd09
namespace Go.Proofs.YtcbbcadfolgioaaDoor
open Go.RowKit OutMath RastMath PassMath
theorem ROwnA.read {w w':World} {base g m p S:Nat} {R R':Nat→Ras} {A:Nat→Option Addr} {G C:Nat→Nat} (h:ROwnA w base g m R A G C) (hp:p < m) (hb:But S w w')
  (hS:0 < (R p).n→S=G p) (hS0:(R p).n=0→w.heap.size≤S) (he:∀ j,j < m→j≠p→R' j=R j)
  (h0:(R' p).x0=(R p).x0∧(R' p).x1=(R p).x1∧(R' p).x2=(R p).x2∧(R' p).x3=(R p).x3∧(R' p).n=(R p).n)
  (hO:0 < (R p).n→IOwn w' base S (R p).n (C p) (R' p).f):ROwnA w' base g m R' A G C:=by
 have hg:=h.lt
 obtain⟨h1,⟨cur,hc,h2,h3⟩,h4,h5,h6⟩:=h
 have hgS:g≠S:=by
  rcases Nat.eq_zero_or_pos (R p).n with e | e
  ·have:=hS0 e
   omega
  ·rw[hS e]
   exact Ne.symm (h5 p hp e)
 have hn:∀ j,j < m→(R' j).n=(R j).n:=fun j hj=>by
  by_cases e:j=p
  ·rw[e]
   exact h0.2.2.2.2
  ·rw[he j hj e]
 refine⟨h1,⟨cur,(hb.block g hg hgS).trans hc,h2,fun j hj=>?_⟩,fun j hj=>?_,fun j hj hz=>h5 j hj (by rw [← hn j hj]; exact hz),fun i j hi hj hij q1 q2=>h6 i j hi hj hij (by rw [← hn i hi]; exact q1) (by rw [← hn j hj]; exact q2)⟩
 ·by_cases e:j=p
  ·subst e
   have:=h3 j hj
   unfold HeadAt at this ⊢
   rw[h0.1,h0.2.1,h0.2.2.1,h0.2.2.2.1,h0.2.2.2.2]
   exact this
  ·rw[he j hj e]
   exact h3 j hj
 ·by_cases e:j=p
  ·subst e
   have q:=h4 j hj
   refine⟨by rw [hn j hj]; exact q.1,q.2.1,?_⟩
   rcases q.2.2 with z | ⟨ha,hI⟩
   ·exact .inl (by rw [hn j hj]; exact z)
   ·rcases Nat.eq_zero_or_pos (R j).n with z | z
    ·exact .inl (by rw [hn j hj]; exact z)
    ·refine .inr ⟨ha,?_⟩
     rw[← hS z,hn j hj]
     exact hO z
  ·rw[he j hj e]
   refine (h4 j hj).keep fun hz=>hb.block _ ((h4 j hj).lt hz).1 ?_
   rcases Nat.eq_zero_or_pos (R p).n with z | z
   ·have:=hS0 z
    have:=((h4 j hj).lt hz).1
    omega
   ·rw[hS z]
    exact h6 j p hj hp e hz z
theorem ROwnA.one {w:World} {base g S cap:Nat} {R:Nat→Ras} (hg:base≤g) (hgS:S≠g) (h:w.heap[g]?=some (.cells #[.int .i64 (R 0).x0,.int .i64 (R 0).x1,.int .i64 (R 0).x2,.int .i64 (R 0).x3,.slice (some ⟨S,0,none⟩) (R 0).n cap] 26 (0,0))) (hO:IOwn w base S (R 0).n cap (R 0).f) (hc:(R 0).n≤cap) (hcm:cap≤maxLen):ROwnA w base g 1 R (fun _=>some ⟨S,0,none⟩) (fun _=>S) (fun _=>cap):=by
 refine⟨hg,⟨_,h,by simp,fun j hj=>?_⟩,fun j hj=>?_,fun _ _ _=>hgS,fun i j hi hj hij=>by omega⟩
 ·obtain rfl:j=0:=by omega
  exact⟨rfl,rfl,rfl,rfl,rfl⟩
 ·obtain rfl:j=0:=by omega
  exact⟨hc,hcm,.inr ⟨rfl,hO⟩⟩
end Go.Proofs.YtcbbcadfolgioaaDoor
