/-
  Texts of the proof, put together.
-/
import Derived.Test.YtklpiihnbokkkaaGreatDoorFk21
import Derived.Test.YtklpiihnbokkkaaGreatDoorFk18
namespace Go.Proofs.YtklpiihnbokkkaaGreatDoor
section
open OutMath CodeMath TakeMath HitMath WayMath StepMath TokMath InfMath RunsMath
theorem sym_go {s:ByteArray} {f:Nat→Int} {n p q p3:Nat} (h:symE s f n p=.ok (q,p3)):p < p3∧p3≤8 * s.size∧q < n:=by
 rcases sym_cases f n s p with ⟨y,k,h1,h2,h3,_,h5⟩ | ⟨c,_,_,h5⟩
 ·rw[h5] at h
  cases h
  omega
 ·rw[h5] at h
  cases h
theorem take_go {s:ByteArray} {p n:Nat} {x:Int} {p':Nat} (h:takeE s p n=.ok (x,p')):p'=p+n∧p'≤8 * s.size∧x=num s p n:=by
 unfold takeE at h
 split at h
 ·cases h
  exact⟨rfl,by omega,rfl⟩
 ·cases h
theorem syms_go {s:ByteArray} {most:Nat} {f1:Nat→Int} {n1:Nat} {f2:Nat→Int} {n2:Nat} {R:List Int} {q:Nat}:∀ (m p:Nat) (O:List Int),symbolsF s most f1 n1 f2 n2 m p O=.ok (R,q)→p < q∧q≤8 * s.size
 | 0,p,O,h=>by
  rw[symbolsF] at h
  cases h
 | m+1,p,O,h=>by
  cases e:symE s f1 n1 p with
  | error c=>
   rw[syms_err e] at h
   cases h
  | ok r=>
   obtain⟨y,p1⟩:=r
   have g1:=sym_go e
   by_cases hy:y=256
   ·subst hy
    rw[syms_end e] at h
    cases h
    omega
   ·by_cases hl:y < 256
    ·rw[syms_byte e hl] at h
     split at h
     ·cases h
     ·have:=syms_go m p1 _ h
      omega
    ·by_cases h2:285 < y
     ·rw[syms_over e h2] at h
      cases h
     ·rw[syms_far e (by omega) (by omega)] at h
      cases e1:takeE s p1 (lenBits y).1 with
      | error c=>
       rw[far_err e1] at h
       cases h
      | ok r=>
       obtain⟨x,p2⟩:=r
       have g2:=take_go e1
       cases e2:symE s f2 n2 p2 with
       | error c=>
        rw[far_err2 e1 e2] at h
        cases h
       | ok r=>
        obtain⟨qq,p3⟩:=r
        have g3:=sym_go e2
        by_cases hq:29 < qq
        ·rw[far_over e1 e2 hq] at h
         cases h
        ·cases e3:takeE s p3 (distBits qq).1 with
         | error c=>
          rw[far_err3 e1 e2 hq e3] at h
          cases h
         | ok r=>
          obtain⟨z,p4⟩:=r
          have g4:=take_go e3
          rw[far_go e1 e2 hq e3] at h
          split at h
          ·cases h
          ·split at h
           ·cases h
           ·have:=syms_go m p4 _ h
            omega
theorem all_go {s:ByteArray} {f3:Nat→Int} {N:Nat} {R:List Int} {q:Nat}:∀ (m p:Nat) (L:List Int),L.length≤N→p≤8 * s.size→allF s f3 N m p L=.ok (R,q)→p≤q∧q≤8 * s.size∧R.length=N
 | 0,p,L,_,_,h=>by
  rw[allF] at h
  cases h
 | m+1,p,L,hL,hp,h=>by
  by_cases hlt:L.length < N
  ·cases e1:symE s f3 19 p with
   | error c=>
    rw[all_err hlt e1] at h
    cases h
   | ok r=>
    obtain⟨y,p1⟩:=r
    have g1:=sym_go e1
    cases e2:takeE s p1 (bitsOf (y:Int)) with
    | error c=>
     rw[all_err2 hlt e1 e2] at h
     cases h
    | ok r2=>
     obtain⟨x,p2⟩:=r2
     have g2:=take_go e2
     cases e3:tell L ((y:Int),x) with
     | none=>
      rw[all_none hlt e1 e2 e3] at h
      cases h
     | some more=>
      rw[all_some hlt e1 e2 e3] at h
      split at h
      ·rename_i hle
       have:=all_go m p2 (L ++ more) (by rw [List.length_append]; exact hle) (by omega) h
       omega
      ·cases h
  ·rw[all_end hlt] at h
   cases h
   omega
theorem tables_go {s:ByteArray} {p:Nat} {L:List Int} {n p':Nat} (h:tablesE s p=.ok (L,n,p')):p≤p'∧p'≤8 * s.size∧(∀ v∈L,0≤v∧v≤15)∧TabRight n L∧n≤286∧n≤L.length∧L.length≤n+30:=by
 unfold tablesE at h
 split at h
 ·rename_i h14
  split at h
  ·cases h
  ·rename_i hov
   split at h
   ·rename_i hk
    split at h
    ·cases h
    ·have q1:=num_bd s p 5
     have q2:=num_bd s (p+5) 5
     rw[show p2 5=32 by decide +kernel] at q1 q2
     generalize num s p 5=x at *
     generalize num s (p+5) 5=y at *
     cases e:allF s (thirdF s (p+14) (num s (p+10) 4+4).toNat) ((x+257).toNat+(y+1).toNat) (8 * s.size+1) (p+14+3 * (num s (p+10) 4+4).toNat) [] with
     | error c=>
      rw[e] at h
      cases h
     | ok r=>
      obtain⟨R,q⟩:=r
      rw[e] at h
      dsimp only at h
      split at h
      ·rename_i hT
       cases h
       have g:=all_go _ _ _ (Nat.zero_le _) (by omega) e
       exact⟨by omega,g.2.1,all_ok _ _ [] (fun v hv=>by cases hv) e,hT,by omega,by omega,by omega⟩
      ·cases h
   ·cases h
 ·cases h
theorem room_of_kind {f:Nat→Int} {n:Nat} (h:kindOf f n=1∨kindOf f n=2∨kindOf f n=3):room f n≤32768:=by
 unfold kindOf at h
 split at h
 ·rename_i q
  rw[room_of_cnt f n q]
  decide
 ·split at h
  ·omega
  ·split at h
   ·omega
   ·omega
theorem block_go {s:ByteArray} {most:Nat} {k:Int} {p:Nat} {O O':List Int} {p':Nat} (h:blockE s most k p O=.ok (O',p')):p≤p':=by
 unfold blockE at h
 split at h
 ·unfold storedE at h
  split at h
  ·split at h
   ·cases h
   ·split at h
    ·cases h
    ·split at h
     ·cases h
      unfold wholeAt
      omega
     ·cases h
  ·cases h
 ·split at h
  ·have:=syms_go _ _ _ h
   omega
  ·split at h
   ·cases e:tablesE s p with
    | error c=>
     rw[e] at h
     cases h
    | ok r=>
     obtain⟨L,n,p2⟩:=r
     rw[e] at h
     dsimp only at h
     have g1:=tables_go e
     have:=syms_go _ _ _ h
     omega
   ·cases h
end
section
open Go.RowKit Go.Joins OutMath CodeMath TakeMath HitMath WayMath StepMath TokMath BookMath InfMath RunsMath
noncomputable def allP (s : ByteArray) (f3 : Nat → Int) (N : Nat) : Nat → Nat → List Int → Except Nat (List Int × Nat)
  | 0, _, _ => .error 9
  | m + 1, p, L => if L.length < N then
      match symE s f3 19 p with
      | .error x => .error x
      | .ok (y, p1) => if y = 16 ∧ L.length = 0 then .error 5 else match takeE s p1 (bitsOf (y : Int)) with
        | .error x => .error x
        | .ok (x, p2) => match tell L ((y : Int), x) with
          | none => .error 5
          | some more => if L.length + more.length ≤ N then allP s f3 N m p2 (L ++ more) else .error 5
    else .ok (L, p)
section
variable {s:ByteArray} {f3:Nat→Int} {N m p:Nat} {L:List Int}
theorem allP_end (h:¬ L.length < N):allP s f3 N (m+1) p L=.ok (L,p):=by
 rw[allP,if_neg h]
theorem allP_err {c:Nat} (h:L.length < N) (e:symE s f3 19 p=.error c):allP s f3 N (m+1) p L=.error c:=by
 rw[allP,if_pos h,e]
theorem allP_first {y p1:Nat} (h:L.length < N) (e:symE s f3 19 p=.ok (y,p1)) (h0:y=16∧L.length=0):allP s f3 N (m+1) p L=.error 5:=by
 rw[allP,if_pos h,e]
 dsimp only
 rw[if_pos h0]
theorem allP_err2 {c y p1:Nat} (h:L.length < N) (e:symE s f3 19 p=.ok (y,p1)) (h0:¬ (y=16∧L.length=0)) (e2:takeE s p1 (bitsOf (y:Int))=.error c):allP s f3 N (m+1) p L=.error c:=by
 rw[allP,if_pos h,e]
 dsimp only
 rw[if_neg h0,e2]
theorem allP_none {y p1 p2:Nat} {x:Int} (h:L.length < N) (e:symE s f3 19 p=.ok (y,p1)) (h0:¬ (y=16∧L.length=0)) (e2:takeE s p1 (bitsOf (y:Int))=.ok (x,p2)) (e3:tell L ((y:Int),x)=none):allP s f3 N (m+1) p L=.error 5:=by
 rw[allP,if_pos h,e]
 dsimp only
 rw[if_neg h0,e2]
 dsimp only
 rw[e3]
theorem allP_some {y p1 p2:Nat} {x:Int} {more:List Int} (h:L.length < N) (e:symE s f3 19 p=.ok (y,p1)) (h0:¬ (y=16∧L.length=0)) (e2:takeE s p1 (bitsOf (y:Int))=.ok (x,p2)) (e3:tell L ((y:Int),x)=some more):allP s f3 N (m+1) p L=if L.length+more.length≤N then allP s f3 N m p2 (L ++ more) else .error 5:=by
 rw[allP,if_pos h,e]
 dsimp only
 rw[if_neg h0,e2]
 dsimp only
 rw[e3]
end
theorem allP_same {s:ByteArray} {f3:Nat→Int} {N:Nat}:∀ (m p:Nat) (L:List Int),(∃ r,allP s f3 N m p L=.ok r∧allF s f3 N m p L=.ok r)∨(∃ c c',allP s f3 N m p L=.error c∧allF s f3 N m p L=.error c')
 | 0,p,L=>.inr ⟨9,9,rfl,rfl⟩
 | m+1,p,L=>by
  by_cases hlt:L.length < N
  ·cases e1:symE s f3 19 p with
   | error c=>exact .inr ⟨c,c,allP_err hlt e1,all_err hlt e1⟩
   | ok r=>
    obtain⟨y,p1⟩:=r
    by_cases h0:y=16∧L.length=0
    ·obtain rfl:L=[]:=List.eq_nil_of_length_eq_zero h0.2
     have hP:=allP_first (m:=m) hlt e1 h0
     cases e2:takeE s p1 (bitsOf (y:Int)) with
     | error c=>exact .inr ⟨5,c,hP,all_err2 hlt e1 e2⟩
     | ok r2=>
      obtain⟨x,p2⟩:=r2
      refine .inr ⟨5,5,hP,all_none hlt e1 e2 ?_⟩
      rw[h0.1]
      exact tell_first x
    ·cases e2:takeE s p1 (bitsOf (y:Int)) with
     | error c=>exact .inr ⟨c,c,allP_err2 hlt e1 h0 e2,all_err2 hlt e1 e2⟩
     | ok r2=>
      obtain⟨x,p2⟩:=r2
      cases e3:tell L ((y:Int),x) with
      | none=>exact .inr ⟨5,5,allP_none hlt e1 h0 e2 e3,all_none hlt e1 e2 e3⟩
      | some more=>
       rw[allP_some hlt e1 h0 e2 e3,all_some hlt e1 e2 e3]
       by_cases hf:L.length+more.length≤N
       ·rw[if_pos hf,if_pos hf]
        exact allP_same m p2 (L ++ more)
       ·rw[if_neg hf,if_neg hf]
        exact .inr ⟨5,5,rfl,rfl⟩
  ·exact .inl ⟨_,allP_end hlt,all_end hlt⟩
structure Same (K:Nat) (w w':World):Prop where
 os:w'.os=w.os
 tape:w'.tape=w.tape
 output:w'.output=w.output
 size:K≤w'.heap.size
 block:∀ k,k < K→w'.heap[k]?=w.heap[k]?
def lowW (w:World) (K:Nat):World:={ w with heap:=w.heap.extract 0 K }
theorem lowW_size {w:World} {K:Nat} (h:K≤w.heap.size):(lowW w K).heap.size=K:=by
 show (w.heap.extract 0 K).size=K
 rw[Array.size_extract]
 omega
theorem lowW_below {w:World} {K:Nat} (h:K≤w.heap.size):Below (lowW w K).heap.size (lowW w K) w:=by
 refine⟨rfl,rfl,rfl,by rw [lowW_size h]; exact h,fun k hk=>?_⟩
 rw[lowW_size h] at hk
 show w.heap[k]?=(w.heap.extract 0 K)[k]?
 rw[Array.getElem?_extract]
 simp
 omega
theorem Same.of_low {w w':World} {K:Nat} (h:K≤w.heap.size) (hb:Below (lowW w K).heap.size (lowW w K) w'):Same K w w':=by
 have hz:=lowW_size h
 rw[hz] at hb
 refine⟨hb.os,hb.tape,hb.output,by have:=hb.size; omega,fun k hk=>(hb.block k hk).trans ?_⟩
 show (w.heap.extract 0 K)[k]?=w.heap[k]?
 rw[Array.getElem?_extract]
 simp
 omega
theorem row_low {w w':World} {K:Nat} {e:TypeId} {S z n:Nat} {v:Value} {xs:List Value} (h:w.ownsRow S e z v n xs) (hv:∀ k,v.ownBlock=some k→k < K) (hs:Same K w w'):w'.ownsRow S e z v n xs:=by
 refine⟨h.1,?_⟩
 rcases h.2 with q | ⟨g,cap,cur,rfl,h1,h2,h3⟩
 ·exact .inl q
 ·exact .inr ⟨g,cap,cur,rfl,h1,(hs.block g (hv g rfl)).trans h2,h3⟩
theorem PS.low {B K:Nat} {w w':World} {fb rb:Nat} {s:ByteArray} {p:Nat} {O:List Int} {most:Nat} {Ty:List Int} {vo vt:Value} (h:PS B w fb rb s p O most Ty vo vt) (hs:Same K w w') (hf:fb < K) (hr:rb < K) (ho:∀ k,vo.ownBlock=some k→k < K) (ht:∀ k,vt.ownBlock=some k→k < K) (hB:B≤K):PS B w' fb rb s p O most Ty vo vt:=by
 obtain⟨h1,h2,h3,h4,h5,h6,h7,h8,h9,h10,h11⟩:=h
 exact⟨(hs.block fb hf).trans h1,(hs.block rb hr).trans h2,row_low h3 ho hs,row_low h4 ht hs,h5,h6,h7,h8,h9,h10,Nat.le_trans hB hs.size⟩
theorem Step.low {fb rb:Nat} {w w1 w2:World} {vo vt:Value} (h:Step fb rb w vo vt w1 vo vt) (hs:Same w.heap.size w1 w2):Step fb rb w vo vt w2 vo vt:=
 ⟨hs.os.trans h.os,hs.tape.trans h.tape,hs.output.trans h.output,hs.size,fun k hk=>⟨⟨Nat.lt_of_lt_of_le hk.1 hs.size,hk.2⟩,(hs.block k hk.1).trans (h.block k hk).2⟩⟩
theorem Book.low {w w':World} {S C bk K:Nat} {V:Nat→Value} {f:Nat→Int} {n:Nat} (h:Book w S C bk V f n) (hs:Same K w w') (hC:C≤K):Book w' S C bk V f n:=by
 obtain⟨h1,h2,h3,h4,h5,h6⟩:=h
 have hk:∀ k,S≤k→k < C→w'.heap[k]?=w.heap[k]?:=fun k _ hk=>hs.block k (by omega)
 have e:=hk bk h1 h2
 refine⟨h1,h2,Nat.le_trans hC hs.size,fun i hi=>?_,fun i hi=>?_,?_⟩
 ·obtain⟨q1,q2,q3⟩:=h4 i hi
  exact⟨(World.cell?_of_block (a:=⟨bk,i,none⟩) e).trans q1,row_kept q2 q3 hk,q3⟩
 ·exact (World.cell?_of_block (a:=⟨bk,16+i,none⟩) e).trans (h5 i hi)
 ·exact (World.cell?_of_block (a:=⟨bk,32,none⟩) e).trans h6
def LensPost (B:Nat) (w:World) (fb rb:Nat) (s:ByteArray) (O:List Int) (most:Nat) (Ty:List Int) (vo vt:Value) (res:Except Nat (List Int×Nat)) (e:Ending) (w':World):Prop:=
 (∃ L p' a c,res=.ok (L,p')∧p'≤8 * s.size∧e=.returned (.tuple #[.slice a L.length c,.nilIface])∧NumRow w' w.heap.size (.slice a L.length c) L∧PS B w' fb rb s p' O most Ty vo vt∧Step fb rb w vo vt w' vo vt)∨
 (∃ c,res=.error c∧e=.returned (.tuple #[.slice none 0 0,errV c])∧Below B w w')
def LnRing (B:Nat) (w:World) (fb rb:Nat) (s:ByteArray) (O:List Int) (most:Nat) (Ty:List Int) (vo vt:Value) (S C bk:Nat) (V:Nat→Value) (f:Nat→Int) (N:Nat) (res:Except Nat (List Int×Nat)) (m p:Nat) (v:Value) (L:List Int) (w':World):Prop:=
 PS B w' fb rb s p O most Ty vo vt∧Step fb rb w vo vt w' vo vt∧Book w' S C bk V f 19∧Held w' fb rb vo vt S C∧NumRow w' w.heap.size v L∧L.length≤N∧p≤8 * s.size∧8 * s.size+1≤m+p∧res=allP s f N m p L
section
variable (B:Nat) (w:World) (fb rb:Nat) (s:ByteArray) (p:Nat) (O:List Int) (most:Nat) (Ty:List Int) (vo vt:Value) (S C bk:Nat) (V:Nat→Value) (f:Nat→Int)
structure From (B:Nat) (w:World) (fb rb:Nat) (vo vt:Value) (C:Nat):Prop where
 f:fb < w.heap.size
 r:rb < w.heap.size
 o:∀ k,vo.ownBlock=some k→k < w.heap.size
 t:∀ k,vt.ownBlock=some k→k < w.heap.size
 b:B≤w.heap.size
 c:C≤w.heap.size
theorem row_step {K:Nat} {w1 w2:World} {fb rb:Nat} {vo vt:Value} {v:Value} {L:List Int} (h:NumRow w1 K v L) (hs:Step fb rb w1 vo vt w2 vo vt) (hf:fb < K) (hr:rb < K) (ho:∀ k,vo.ownBlock=some k→k < K) (ht:∀ k,vt.ownBlock=some k→k < K):NumRow w2 K v L:=by
 refine⟨h.1,?_⟩
 rcases h.2 with q | ⟨g,cap,cur,rfl,h1,h2,h3⟩
 ·exact .inl q
 ·refine .inr ⟨g,cap,cur,rfl,h1,(hs.block g ⟨block_lt h2,by omega,by omega,fun e=>?_,fun e=>?_⟩).2.trans h2,h3⟩
  ·have:=ho g e
   omega
  ·have:=ht g e
   omega
set_option maxRecDepth 100000 in
set_option maxHeartbeats 3200000 in
theorem takeLengths_any (h:PS B w fb rb s p O most Ty vo vt) (hs:s.size≤12000) (hp:p≤8 * s.size) (hB:Book w S C bk V f 19) (hH:Held w fb rb vo vt S C) (hok:OkLens f 19) (hroom:nx f 19 15≤32768) (N:Nat) (hN:N≤320):
  Calls Tryz.prog 144 #[.pointer (some ⟨fb,0,none⟩),.pointer (some ⟨bk,0,none⟩),.int .i64 (N:Int)] w (LensPost B w fb rb s O most Ty vo vt (allP s f N (8 * s.size+1) p [])):=by
 have HPS:=hid_of h
 have HFR:Hid (From B w fb rb vo vt C):=⟨h.ltf,h.ltr,fun k e=>(World.ownsRow.lt h.2.2.1 k e).2,fun k e=>(World.ownsRow.lt h.2.2.2.1 k e).2,h.2.2.2.2.2.2.2.2.2.2,hB.2.2.1⟩
 obtain⟨res,hres⟩:∃ res,res=allP s f N (8 * s.size+1) p []:=⟨_,rfl⟩
 rw[← hres]
 obtain⟨i0,hi0,hz0,hz1,hz2⟩:=info_parts info_int
 obtain⟨wm,hmk,hmo,hmg⟩:=run_make_own (P:=Tryz.prog) w w.heap.size 25 3 i0 (.int .i64 0) 1 Tryz.underlying25 hi0 hz0 hz1 .i64 .i64 N (by rw [hz2]; omega) (by unfold maxLen; omega) (Nat.le_refl _)
 have H0:Hid (LnRing B w fb rb s O most Ty vo vt S C bk V f N res (8 * s.size+1) p (.slice (some ⟨w.heap.size,0,none⟩) 0 N) [] wm):=by
  have hb:Below w.heap.size w wm:=(Below.refl _ _).grown hmg (Nat.le_refl _) (fun q hq=>by cases hq)
  have st:Step fb rb w vo vt wm vo vt:=Step.called hb
  exact⟨h.called hb,st,hB.step hH st,hH.step st,hmo,by simp,hp,by omega,hres⟩
 have HOK:=hid_of (And.intro hok hroom)
 clear h hB hH hok hroom hres hi0 hz0 hz1 hz2 hmo hmg
 go_enter Tryz.func144,Tryz.ntmps144
 go_wp2_with fail
 clear hmk
 go_loopg [8] (8 * s.size+2) (fun gk v w'=>∃ (m p c:Nat) (a:Option Addr) (L:List Int),v=.slice a L.length c∧m≤gk∧Hid (LnRing B w fb rb s O most Ty vo vt S C bk V f N res m p v L w'))
 case atStart=>exact⟨8 * s.size+1,p,N,_,[],rfl,by omega,H0⟩
 case round=>
  clear H0
  obtain⟨m,p,c,a,L,rfl,hgk,hR⟩:=hrel
  obtain⟨m1,rfl⟩:∃ m1,m=m1+1:=⟨m - 1,by have:=hR.out.2.2.2.2.2.2.1; have:=hR.out.2.2.2.2.2.2.2.1; omega⟩
  have hLN:=hR.out.2.2.2.2.2.1
  by_cases hlt:L.length < N
  ·have dl:decide ((L.length:Int) < (N:Int))=true:=decide_eq_true (by omega)
   have dl2:decide (L.length < N)=true:=decide_eq_true hlt
   have hsy:=takeSymbol_any B wr fb rb s p O most Ty vo vt S C bk V f 19 hR.out.1 hs hR.out.2.2.2.2.2.2.1 hR.out.2.2.1 hR.out.2.2.2.1 (by omega) HOK.out.1 HOK.out.2
   go_wp2_with fail
   refine hsy.mono ?_
   clear hsy
   rintro e w1 ⟨hst,⟨y,p1,hsE,hlt1,hp1,hyn,rfl,hps⟩ | ⟨cc,hsE,rfl⟩⟩
   ·have HST:=hid_of hst
    have HPS1:=hid_of hps
    have HE:=hid_of hsE
    clear hst hps hsE
    by_cases h0:y=16∧L.length=0
    ·have HP:Hid (LensPost B w fb rb s O most Ty vo vt res (.returned (.tuple #[.slice none 0 0,errV 5])) w1):=.inr ⟨5,hR.out.2.2.2.2.2.2.2.2.trans (allP_first hlt HE.out h0),rfl,HPS.out.below (hR.out.2.1.trans HST.out)⟩
     have d1:((y:Int) == 16)=true:=by simp; omega
     have d2:((L.length:Int) == 0)=true:=by rw [h0.2]; rfl
     have d3:(L.length == 0)=true:=by simp [h0.2]
     clear hR HST HPS1 HE h0
     go_wp2_with fail
     go_ret2
     exact HP.out
    ·have hcc:(((y:Int) == 16)=false)∨(((y:Int) == 16)=true∧((L.length:Int) == 0)=false∧(L.length == 0)=false):=by
      by_cases q:y=16
      ·right
       have:L.length≠0:=fun e=>h0 ⟨q,e⟩
       refine⟨by simp; omega,by rw [beq_eq_false_iff_ne]; omega,by rw [beq_eq_false_iff_ne]; exact this⟩
      ·left
       simp
       omega
     have hbt:bitsOf (y:Int)≤7:=pow_bits _
     have hxb:=extraBits_any (y:Int) w1
     by_cases h2:p1+bitsOf (y:Int)≤8 * s.size
     ·have htk:=take_yes B w1 fb rb s p1 O most Ty vo vt HPS1.out hs (bitsOf (y:Int)) (by omega) h2
      have HTE:Hid (takeE s p1 (bitsOf (y:Int))=.ok (num s p1 (bitsOf (y:Int)),p1+bitsOf (y:Int))):=by
       show takeE s p1 (bitsOf (y:Int))=_
       unfold takeE
       rw[if_pos h2]
      have HWI:Hid (∀ w2,PS B w2 fb rb s (p1+bitsOf (y:Int)) O most Ty vo vt→w1.grownBy w2 (some rb)→(w.heap.size≤w2.heap.size∧NumRow w2 w.heap.size (.slice a L.length c) L)∧∀ w3,Same w.heap.size w2 w3→Step fb rb w vo vt w3 vo vt∧PS B w3 fb rb s (p1+bitsOf (y:Int)) O most Ty vo vt∧Book w3 S C bk V f 19∧Held w3 fb rb vo vt S C):=fun w2 q1 q2=>by
       obtain⟨t1,t2,t3,t4,t5,t6,t7,t8,t9⟩:=hR.out
       have st2:=HST.out.trans (step_read (fb:=fb) (vo:=vo) (vt:=vt) q2)
       have st:=t2.trans st2
       have fr:=HFR.out
       refine⟨⟨st.size,row_step t5 st2 fr.f fr.r fr.o fr.t⟩,fun w3 hsm=>?_⟩
       have st3:=st.low hsm
       exact⟨st3,q1.low hsm fr.f fr.r fr.o fr.t fr.b,(t3.step t4 st2).low hsm fr.c,fun k k1 k2=>⟨Nat.lt_of_lt_of_le (Nat.lt_of_lt_of_le k2 fr.c) hsm.size,(t4 k k1 k2).2⟩⟩
      have HNR:Hid (∀ more,tell L ((y:Int),num s p1 (bitsOf (y:Int)))=some more→L.length+more.length≤N→res=allP s f N m1 (p1+bitsOf (y:Int)) (L ++ more)):=fun more q1 q2=>by
       rw[hR.out.2.2.2.2.2.2.2.2,allP_some hlt HE.out h0 HTE.out q1,if_pos q2]
      have HNE:Hid ((∀ more,tell L ((y:Int),num s p1 (bitsOf (y:Int)))=some more→¬ L.length+more.length≤N)→res=.error 5):=fun q=>by
       rw[hR.out.2.2.2.2.2.2.2.2]
       cases e3:tell L ((y:Int),num s p1 (bitsOf (y:Int))) with
       | none=>exact allP_none hlt HE.out h0 HTE.out e3
       | some more=>rw [allP_some hlt HE.out h0 HTE.out e3,if_neg (q more e3)]
      have hmp:8 * s.size+1≤m1+p1:=by have:=hR.out.2.2.2.2.2.2.2.1; omega
      clear hR HST HPS1 HE HTE h0
      generalize num s p1 (bitsOf (y:Int))=x at *
      generalize bitsOf (y:Int)=bt at *
      rcases hcc with dc | ⟨dc,dc2,dc3⟩
      all_goals
       go_wp2_with fail
       refine hxb.mono ?_
       clear hxb
       rintro e w1b ⟨rfl,rfl⟩
       go_wp2_with fail
       refine htk.mono ?_
       clear htk
       rintro e w2 ⟨rfl,q1,q2⟩
       obtain⟨⟨hsz,hrow⟩,hlow⟩:=HWI.out w2 q1 q2
       have hwi:=with_any (lowW w2 w.heap.size) w2 a L.length c L (y:Int) x N (by rw [lowW_size hsz]; exact hrow) rfl (lowW_below hsz) hN hLN
       have HLOW:=hid_of hlow
       have HSZ:=hid_of hsz
       clear q1 q2 HWI hrow hlow hsz
       go_wp2_with fail
       refine hwi.mono ?_
       clear hwi
       rintro e w3 ⟨hbl,⟨v,more,rfl,hte,hle,hnr⟩ | ⟨rfl,hno⟩⟩
       ·rw[lowW_size HSZ.out] at hnr
        obtain⟨t1,t2,t3,t4⟩:=HLOW.out w3 (Same.of_low HSZ.out hbl)
        obtain⟨a3,c3,hv3,_⟩:=hnr.form
        subst hv3
        have HN:Hid (LnRing B w fb rb s O most Ty vo vt S C bk V f N res m1 (p1+bt) (.slice a3 (L ++ more).length c3) (L ++ more) w3):=⟨t2,t1,t3,t4,hnr,by rw [List.length_append]; exact hle,by omega,by omega,HNR.out more hte hle⟩
        clear t1 t2 t3 t4 hnr hbl hte HLOW HSZ HNR HNE hle
        generalize L ++ more=L2 at HN ⊢
        go_wp2_with fail
        go_roundg m1
        case measure=>omega
        case rel=>exact⟨m1,p1+bt,c3,a3,L2,rfl,Nat.le_refl _,HN⟩
       ·obtain⟨t1,_⟩:=HLOW.out w3 (Same.of_low HSZ.out hbl)
        have HP:Hid (LensPost B w fb rb s O most Ty vo vt res (.returned (.tuple #[.slice none 0 0,errV 5])) w3):=.inr ⟨5,HNE.out hno,rfl,HPS.out.below t1⟩
        clear t1 hbl hno HLOW HSZ HNR HNE
        go_wp2_with fail
        go_ret2
        exact HP.out
     ·have htk:=take_no B w1 fb rb s p1 O most Ty vo vt HPS1.out hs hp1 (bitsOf (y:Int)) (by omega) h2
      have HTE:Hid (takeE s p1 (bitsOf (y:Int))=.error 2):=by
       show takeE s p1 (bitsOf (y:Int))=_
       unfold takeE
       rw[if_neg h2]
      have HP:Hid (∀ w2,w1.grownBy w2 (some rb)→LensPost B w fb rb s O most Ty vo vt res (.returned (.tuple #[.slice none 0 0,errV 2])) w2):=fun w2 q2=>.inr ⟨2,hR.out.2.2.2.2.2.2.2.2.trans (allP_err2 hlt HE.out h0 HTE.out),rfl,HPS.out.below (hR.out.2.1.trans (HST.out.trans (step_read q2)))⟩
      clear hR HST HPS1 HE HTE h0
      generalize bitsOf (y:Int)=bt at *
      rcases hcc with dc | ⟨dc,dc2,dc3⟩
      all_goals
       go_wp2_with fail
       refine hxb.mono ?_
       clear hxb
       rintro e w1b ⟨rfl,rfl⟩
       go_wp2_with fail
       refine htk.mono ?_
       clear htk
       rintro e w2 ⟨rfl,q1,q2⟩
       have HQ:=hid_of (HP.out w2 q2)
       clear q1 q2 HP
       go_wp2_with fail
       go_ret2
       exact HQ.out
   ·have HP:Hid (LensPost B w fb rb s O most Ty vo vt res (.returned (.tuple #[.slice none 0 0,errV cc])) w1):=.inr ⟨cc,hR.out.2.2.2.2.2.2.2.2.trans (allP_err hlt hsE),rfl,HPS.out.below (hR.out.2.1.trans hst)⟩
    clear hR hst
    go_wp2_with fail
    go_ret2
    exact HP.out
  ·have dl:decide ((L.length:Int) < (N:Int))=false:=decide_eq_false (by omega)
   have dl2:decide (L.length < N)=false:=decide_eq_false hlt
   have HP:Hid (LensPost B w fb rb s O most Ty vo vt res (.returned (.tuple #[.slice a L.length c,.nilIface])) wr):=.inl ⟨L,p,a,c,hR.out.2.2.2.2.2.2.2.2.trans (allP_end hlt),hR.out.2.2.2.2.2.2.1,rfl,hR.out.2.2.2.2.1,hR.out.1,hR.out.2.1⟩
   clear hR
   go_wp2_with fail
   go_ret2
   exact HP.out
end
end
section
open OutMath CodeMath TakeMath HitMath WayMath StepMath TokMath InfMath RunsMath
theorem num_split (s:ByteArray) (p a:Nat):∀ b,num s p (a+b)=num s p a+p2 a * num s (p+a) b
 | 0=>by
  show num s p a=num s p a+p2 a * 0
  omega
 | b+1=>by
  have ih:=num_split s p a b
  show num s p (a+b)+bit s (p+(a+b)) * p2 (a+b)=num s p a+p2 a * (num s (p+a) b+bit s (p+a+b) * p2 b)
  rw[ih,p2_add,Nat.add_assoc p a b,Int.mul_add,Int.mul_left_comm (p2 a) (bit s (p+(a+b))) (p2 b),← Int.mul_assoc (bit s (p+(a+b))),Int.mul_assoc (bit s (p+(a+b))) (p2 a)]
  omega
theorem and31 (x:Int) (h0:0≤x) (h1:x < 1000000):bits .and .i64 x 31=x % 32:=by
 obtain⟨n,rfl⟩:=Int.eq_ofNat_of_zero_le h0
 have h:=i64_and_nat n 31 (by omega) (by omega)
 rw[show (31:Nat)=2 ^ 5 - 1 from rfl,Nat.and_two_pow_sub_one_eq_mod] at h
 rw[show ((2 ^ 5 - 1:Nat):Int)=31 from rfl] at h
 rw[h]
 omega
theorem three_of (s:ByteArray) (p:Nat):num s p 14 % 32=num s p 5∧num s p 14 / 32 % 32=num s (p+5) 5∧num s p 14 / 1024=num s (p+10) 4:=by
 have h1:=num_split s p 5 9
 have h2:=num_split s (p+5) 5 4
 have b1:=num_bd s p 5
 have b2:=num_bd s (p+5) 5
 have b3:=num_bd s (p+10) 4
 rw[show p2 5=32 by decide +kernel] at h1 h2 b1 b2
 rw[show p+5+5=p+10 by omega] at h2
 rw[show 5+9=14 from rfl] at h1
 rw[show 5+4=9 from rfl] at h2
 omega
section
variable (s:ByteArray) (most:Nat)
noncomputable def tablesP (p : Nat) : Except Nat (List Int × Nat × Nat) :=
  if p + 14 ≤ 8 * s.size then
    (if 29 < num s p 5 ∨ 29 < num s (p + 5) 5 then .error 5
     else if p + 14 + 3 * (num s (p + 10) 4 + 4).toNat ≤ 8 * s.size then
       (if kindOf (thirdF s (p + 14) (num s (p + 10) 4 + 4).toNat) 19 ≠ 2 then .error 5
        else match allP s (thirdF s (p + 14) (num s (p + 10) 4 + 4).toNat) ((num s p 5 + 257).toNat + (num s (p + 5) 5 + 1).toNat) (8 * s.size + 1) (p + 14 + 3 * (num s (p + 10) 4 + 4).toNat) [] with
          | .error x => .error x
          | .ok (L, p2) => if TabRight (num s p 5 + 257).toNat L then .ok (L, (num s p 5 + 257).toNat, p2) else .error 5)
     else .error 2)
  else .error 2
noncomputable def blockP (kind:Int) (p:Nat) (O:List Int):Except Nat (List Int×Nat):=
 if kind=0 then storedE s most p O
 else if kind=1 then symbolsF s most fixed1 288 fixed2 32 (8 * s.size+1) p O
 else if kind=2 then (match tablesP s p with
  | .error x=>.error x
  | .ok (L,n,p2)=>symbolsF s most (fun i=>L.getD i 0) n (fun i=>(L.drop n).getD i 0) (L.length - n) (8 * s.size+1) p2 O)
 else .error 3
noncomputable def blocksP : Nat → Nat → List Int → List Int → Except Nat (List Int × Nat × List Int)
  | 0, _, _, _ => .error 9
  | m + 1, p, O, Ty => if p + 3 ≤ 8 * s.size then
      match blockP s most (num s (p + 1) 2) (p + 3) O with
      | .error x => .error x
      | .ok (O', p') => if num s p 1 = 0 then blocksP m p' O' (Ty ++ [num s (p + 1) 2]) else .ok (O', p', Ty ++ [num s (p + 1) 2])
    else .error 2
end
noncomputable def inflateP (s:ByteArray) (most:Int):Except Nat (List Int×Nat×List Int):=if s.size≤12000∧0≤most∧most≤12000 then blocksP s most.toNat (8 * s.size+1) 0 [] [] else .error 1
def Alike {α:Type} (a b:Except Nat α):Prop:=(∃ r,a=.ok r∧b=.ok r)∨(∃ c c',a=.error c∧b=.error c')
theorem Alike.refl {α:Type} (a:Except Nat α):Alike a a:=by
 cases a with
 | error c=>exact .inr ⟨c,c,rfl,rfl⟩
 | ok r=>exact .inl ⟨r,rfl,rfl⟩
theorem tables_alike (s:ByteArray) (p:Nat):Alike (tablesP s p) (tablesE s p):=by
 unfold tablesP tablesE
 split
 ·split
  ·exact Alike.refl _
  ·split
   ·split
    ·exact Alike.refl _
    ·generalize thirdF s (p+14) (num s (p+10) 4+4).toNat=f3
     generalize (num s p 5+257).toNat+(num s (p+5) 5+1).toNat=N
     generalize p+14+3 * (num s (p+10) 4+4).toNat=q
     rcases allP_same (s:=s) (f3:=f3) (N:=N) (8 * s.size+1) q [] with ⟨r,h1,h2⟩ | ⟨c,c',h1,h2⟩
     ·rw[h1,h2]
      exact Alike.refl _
     ·rw[h1,h2]
      exact .inr ⟨c,c',rfl,rfl⟩
   ·exact Alike.refl _
 ·exact Alike.refl _
theorem block_alike (s:ByteArray) (most:Nat) (k:Int) (p:Nat) (O:List Int):Alike (blockP s most k p O) (blockE s most k p O):=by
 unfold blockP blockE
 split
 ·exact Alike.refl _
 ·split
  ·exact Alike.refl _
  ·split
   ·rcases tables_alike s p with ⟨r,h1,h2⟩ | ⟨c,c',h1,h2⟩
    ·rw[h1,h2]
     exact Alike.refl _
    ·rw[h1,h2]
     exact .inr ⟨c,c',rfl,rfl⟩
   ·exact Alike.refl _
theorem blocks_alike (s:ByteArray) (most:Nat):∀ (m p:Nat) (O Ty:List Int),Alike (blocksP s most m p O Ty) (blocksF s most m p O Ty)
 | 0,p,O,Ty=>Alike.refl _
 | m+1,p,O,Ty=>by
  rw[blocksP,blocksF]
  split
  ·rcases block_alike s most (num s (p+1) 2) (p+3) O with ⟨⟨O',p'⟩,h1,h2⟩ | ⟨c,c',h1,h2⟩
   ·rw[h1,h2]
    dsimp only
    split
    ·exact blocks_alike s most m p' O' _
    ·exact Alike.refl _
   ·rw[h1,h2]
    exact .inr ⟨c,c',rfl,rfl⟩
  ·exact Alike.refl _
theorem inflate_alike (s:ByteArray) (most:Int):Alike (inflateP s most) (inflateE s most):=by
 unfold inflateP inflateE
 split
 ·exact blocks_alike s most.toNat _ _ _ _
 ·exact Alike.refl _
end
section
open Go.RowKit Go.Joins OutMath CodeMath
theorem firstTo_here (g:Nat→Int) (t:Nat) (s:Nat):upd (firstTo g t) t (first g t) s=firstTo g (t+1) s:=by
 unfold upd firstTo
 by_cases h:s=t
 ·rw[if_pos h,if_pos (by omega),h]
 ·rw[if_neg h]
  by_cases h2:s < t
  ·rw[if_pos h2,if_pos (by omega)]
  ·rw[if_neg h2,if_neg (by omega)]
def FirSt (w w':World) (g:Nat→Int) (t:Nat):Prop:=
 Six w' w.heap.size 252 g∧Six w' (w.heap.size+1) 251 (fun _=>0)∧Six w' (w.heap.size+2) 251 (firstTo g t)∧Below w.heap.size w w'
theorem fir_start (w:World) (g:Nat→Int):FirSt w (((w.alloc (.cells (six g) 252)).alloc (.cells (six fun _=>0) 251)).alloc (.cells (six fun _=>0) 251)) g 2:=by
 have z1:(w.alloc (.cells (six g) 252)).heap.size=w.heap.size+1:=by simp
 have z2:((w.alloc (.cells (six g) 252)).alloc (.cells (six fun _=>0) 251)).heap.size=w.heap.size+2:=by simp
 refine⟨?_,?_,?_,bal (bal (bstart _ _) _) _⟩
 ·show _=_
  rw[Below.heap_alloc _ _ _ (by simp; omega),Below.heap_alloc _ _ _ (by simp)]
  exact heap_alloc_new w _
 ·show _=_
  rw[Below.heap_alloc _ _ _ (by simp)]
  have k:=heap_alloc_new (w.alloc (.cells (six g) 252)) (.cells (six fun _=>0) 251)
  rw[z1] at k
  exact k
 ·refine Six.congr (g:=fun _=>0) ?_ (fun s _=>(firstTo_start g s).symm)
  have k:=heap_alloc_new ((w.alloc (.cells (six g) 252)).alloc (.cells (six fun _=>0) 251)) (.cells (six fun _=>0) 251)
  rw[z2] at k
  exact k
set_option maxHeartbeats 1600000 in
theorem first_any (g:Nat→Int) (w:World) (hg:∀ s,0≤g s∧g s≤288):
  Calls Tryz.prog 184 #[.agg (six g)] w fun e w'=>e=.returned (.agg (six (first g)))∧Below w.heap.size w w':=by
 have HG:Hid (∀ s,0≤g s∧g s≤288):=hg
 have H0:=hid_of (fir_start w g)
 clear hg
 go_enter Tryz.func184,Tryz.ntmps184
 go_wp2_with fail
 go_loopw [4] (fun i w'=>∃ t:Nat,2≤t∧t≤16∧i=.int .i64 t∧Hid (FirSt w w' g t)) (fun i _=>16 - (intOf i).toNat)
 case atStart=>exact⟨2,by omega,by omega,rfl,H0⟩
 case round=>
  clear H0
  obtain⟨t,ht1,ht2,rfl,hS⟩:=hrel
  by_cases hlt:t≤15
  ·obtain⟨u,rfl⟩:∃ u,t=u+1:=⟨t - 1,by omega⟩
   have c0:=hS.out.1.c u (by omega)
   have c1:=hS.out.2.2.1.c u (by omega)
   have c2:=hS.out.2.2.1.c (u+1) (by omega)
   have f2:=hS.out.2.2.1.f (u+1)
   have l2:=hS.out.2.2.1.lt
   have e1:firstTo g (u+1) u=first g u:=by unfold firstTo; rw [if_pos (by omega)]
   have e2:firstTo g (u+1) (u+1)=0:=by unfold firstTo; rw [if_neg (by omega)]
   rw[e1] at c1
   rw[e2] at c2
   have hb:=first_lt g HG.out u (by omega)
   have hgb:=HG.out u
   have HE:Hid (first g (u+1)=2 * (first g u+g u)):=first_step g (u+1) (by omega)
   clear e1 e2
   go_wp2_with fail
   go_region
   all_goals
    have HS1:Hid (FirSt w ((wr.setCell ⟨w.heap.size+1+1,u+1,none⟩ (.int .i64 (2 * (first g u+g u)))).drew) g (u+1+1)):=by
     refine⟨?_,?_,?_,(Below.setCell (p:=⟨w.heap.size+2,u+1,none⟩) hS.out.2.2.2 (by simp) _).drew⟩
     ·show (wr.setCell ⟨w.heap.size+2,u+1,none⟩ _).heap[_]?=_
      rw[Below.heap_setCell _ _ _ _ (show w.heap.size≠w.heap.size+2 by omega)]
      exact hS.out.1
     ·show (wr.setCell ⟨w.heap.size+2,u+1,none⟩ _).heap[_]?=_
      rw[Below.heap_setCell _ _ _ _ (show w.heap.size+1≠w.heap.size+2 by omega)]
      exact hS.out.2.1
     ·have k:=(hS.out.2.2.1.set (u+1) (2 * (first g u+g u))).congr (g':=firstTo g (u+1+1)) (fun i _=>by rw [← HE.out]; exact firstTo_here g (u+1) i)
      exact k
    go_wp2_with fail
    go_roundw
    case rel=>exact⟨u+1+1,by omega,by omega,by go_num,HS1⟩
    case measure=>simp [intOf]; omega
  ·obtain rfl:t=16:=by omega
   have cr:=hS.out.2.1.c
   have fr:=hS.out.2.1.f
   have lr:=hS.out.2.1.lt
   have hB:=hS.out.2.2.2
   have e1:∀ i,i < 16→firstTo g 16 i=first g i:=fun i hi=>by unfold firstTo; rw [if_pos hi]
   have cc:∀ i,i < 16→wr.cell? ⟨w.heap.size+1+1,i,none⟩=some (.int .i64 (first g i)):=fun i hi=>by rw [← e1 i hi]; exact hS.out.2.2.1.c i hi
   clear e1
   go_wp2_with fail
   refine bodyPost_ret (v:=.agg (six (first g))) (by simp [results,Tryz.results184,go_sem,cr]) rfl ⟨rfl,?_⟩
   iterate 16 refine Below.setCell ?_ (by simp) _
   exact hB
end
end Go.Proofs.YtklpiihnbokkkaaGreatDoor
