/-
  Texts of the proof, put together.
-/
import Derived.Test.YtklpiihnbokkkaaGreatDoorFk17
import Derived.Test.YtklpiihnbokkkaaGreatDoorFk20
namespace Go.Proofs.YtklpiihnbokkkaaGreatDoor
open Go.RowKit Go.Joins OutMath CodeMath TakeMath InfMath RunsMath
theorem third_ok (s:ByteArray) (p k:Nat):OkLens (thirdF s p k) 19:=by
 intro i _
 unfold thirdF
 by_cases h:orderL.idxOf i < k
 ·rw[if_pos h]
  have:=num_bd s (p+3 * orderL.idxOf i) 3
  rw[show p2 3=8 by decide +kernel] at this
  omega
 ·rw[if_neg h]
  omega
theorem all_end {s:ByteArray} {f3:Nat→Int} {N m p:Nat} {L:List Int} (h:¬ L.length < N):allF s f3 N (m+1) p L=.ok (L,p):=by
 rw[allF,if_neg h]
theorem all_err {s:ByteArray} {f3:Nat→Int} {N m p c:Nat} {L:List Int} (h:L.length < N) (e:symE s f3 19 p=.error c):allF s f3 N (m+1) p L=.error c:=by
 rw[allF,if_pos h,e]
theorem all_err2 {s:ByteArray} {f3:Nat→Int} {N m p c y p1:Nat} {L:List Int} (h:L.length < N) (e:symE s f3 19 p=.ok (y,p1)) (e2:takeE s p1 (bitsOf (y:Int))=.error c):allF s f3 N (m+1) p L=.error c:=by
 rw[allF,if_pos h,e]
 simp only [e2]
theorem all_none {s:ByteArray} {f3:Nat→Int} {N m p y p1 p2:Nat} {x:Int} {L:List Int} (h:L.length < N) (e:symE s f3 19 p=.ok (y,p1)) (e2:takeE s p1 (bitsOf (y:Int))=.ok (x,p2)) (e3:tell L ((y:Int),x)=none):allF s f3 N (m+1) p L=.error 5:=by
 rw[allF,if_pos h,e]
 simp only [e2,e3]
theorem all_some {s:ByteArray} {f3:Nat→Int} {N m p y p1 p2:Nat} {x:Int} {L more:List Int} (h:L.length < N) (e:symE s f3 19 p=.ok (y,p1)) (e2:takeE s p1 (bitsOf (y:Int))=.ok (x,p2)) (e3:tell L ((y:Int),x)=some more):allF s f3 N (m+1) p L=if L.length+more.length≤N then allF s f3 N m p2 (L ++ more) else .error 5:=by
 rw[allF,if_pos h,e]
 simp only [e2,e3]
theorem tell_ok {L more:List Int} {y x:Int} (hL:∀ v∈L,0≤v∧v≤15) (h:tell L (y,x)=some more):∀ v∈more,0≤v∧v≤15:=by
 unfold tell at h
 dsimp only at h
 have hz:0≤L.getD (L.length - 1) 0∧L.getD (L.length - 1) 0≤15:=by
  rw[List.getD_eq_getElem?_getD]
  cases e:L[L.length - 1]? with
  | none=>exact⟨by decide,by decide⟩
  | some v=>exact hL v (List.mem_of_getElem? e)
 split at h
 ·split at h
  ·cases h
   intro v hv
   rw[List.eq_of_mem_replicate hv]
   exact hz
  ·cases h
 ·split at h
  ·split at h
   ·cases h
    intro v hv
    rw[List.eq_of_mem_replicate hv]
    exact⟨by decide,by decide⟩
   ·cases h
  ·split at h
   ·split at h
    ·cases h
     intro v hv
     rw[List.eq_of_mem_replicate hv]
     exact⟨by decide,by decide⟩
    ·cases h
   ·split at h
    ·rename_i q
     cases h
     intro v hv
     rw[List.mem_singleton.1 hv]
     exact⟨q.1,q.2.1⟩
    ·cases h
theorem all_ok {s:ByteArray} {f3:Nat→Int} {N:Nat} {R:List Int} {q:Nat}:∀ (m p:Nat) (L:List Int),(∀ v∈L,0≤v∧v≤15)→allF s f3 N m p L=.ok (R,q)→∀ v∈R,0≤v∧v≤15
 | 0,p,L,_,h=>by
  rw[allF] at h
  cases h
 | m+1,p,L,hL,h=>by
  by_cases hlt:L.length < N
  ·cases e1:symE s f3 19 p with
   | error c=>
    rw[all_err hlt e1] at h
    cases h
   | ok r=>
    obtain⟨y,p1⟩:=r
    cases e2:takeE s p1 (bitsOf (y:Int)) with
    | error c=>
     rw[all_err2 hlt e1 e2] at h
     cases h
    | ok r2=>
     obtain⟨x,p2⟩:=r2
     cases e3:tell L ((y:Int),x) with
     | none=>
      rw[all_none hlt e1 e2 e3] at h
      cases h
     | some more=>
      rw[all_some hlt e1 e2 e3] at h
      split at h
      ·refine all_ok m p2 (L ++ more) (fun v hv=>?_) h
       rcases List.mem_append.1 hv with q | q
       ·exact hL v q
       ·exact tell_ok hL e3 v q
      ·cases h
  ·rw[all_end hlt] at h
   cases h
   exact hL
theorem ok_of_list {L:List Int} (h:∀ v∈L,0≤v∧v≤15) (n:Nat):OkLens (fun i=>L.getD i 0) n:=by
 intro i _
 show 0≤L.getD i 0∧L.getD i 0≤15
 rw[List.getD_eq_getElem?_getD]
 cases e:L[i]? with
 | none=>exact⟨by decide,by decide⟩
 | some v=>exact h v (List.mem_of_getElem? e)
end Go.Proofs.YtklpiihnbokkkaaGreatDoor
