/-
  Texts of the proof, put together.
-/
import Derived.Test.YtklpiihnbokkkaaGreatDoorFk48
import Derived.Stop.Asserts
import Derived.OpenVars
import Derived.Deep.DeepHandedRow
namespace Go.Proofs.YtklpiihnbokkkaaGreatDoor
section
namespace CutMath
open OutMath CodeMath TakeMath HitMath WayMath StepMath TokMath InfMath RunsMath
def Pre (s u:ByteArray):Prop:=s.size≤u.size∧∀ i,i < s.size→byteAt s i=byteAt u i
section
variable {s u:ByteArray}
theorem bit_pre (h:Pre s u) {i:Nat} (hi:i < 8 * s.size):bit s i=bit u i:=by
 unfold bit
 rw[h.2 (i / 8) (by omega)]
theorem num_pre (h:Pre s u) (p:Nat):∀ n,p+n≤8 * s.size→num s p n=num u p n
 | 0,_=>rfl
 | n+1,hn=>by
  show num s p n+bit s (p+n) * p2 n=num u p n+bit u (p+n) * p2 n
  rw[num_pre h p n (by omega),bit_pre h (by omega)]
theorem hi_pre (h:Pre s u) (p:Nat):∀ n,p+n≤8 * s.size→hi s p n=hi u p n
 | 0,_=>rfl
 | n+1,hn=>by
  show 2 * hi s p n+bit s (p+n)=2 * hi u p n+bit u (p+n)
  rw[hi_pre h p n (by omega),bit_pre h (by omega)]
def Cut {α:Type} (P:α→Prop) (a b:Except Nat α):Prop:=(∀ r,b=.ok r→a=.ok r∨a=.error 2)∧∀ r,a=.ok r→b=.ok r∧P r
theorem Cut.same {α:Type} {P:α→Prop} {r:α} (h:P r):Cut P (.ok r) (.ok r):=⟨fun r' e=>by cases e; exact .inl rfl,fun r' e=>by cases e; exact⟨rfl,h⟩⟩
theorem Cut.out {α:Type} {P:α→Prop} (b:Except Nat α):Cut P (.error 2) b:=⟨fun _ _=>.inr rfl,fun _ e=>by cases e⟩
theorem Cut.bad {α:Type} {P:α→Prop} (x y:Nat):Cut P (.error x:Except Nat α) (.error y):=⟨fun _ e=>(by cases e),fun _ e=>(by cases e)⟩
theorem Cut.weak {α:Type} {P Q:α→Prop} {a b:Except Nat α} (h:Cut P a b) (hq:∀ r,P r→Q r):Cut Q a b:=⟨h.1,fun r e=>⟨(h.2 r e).1,hq r (h.2 r e).2⟩⟩
theorem cut_step {α:Type} {P:α→Prop} {a b:Except Nat α} (h:Cut P a b):(∃ r,a=.ok r∧b=.ok r∧P r)∨a=.error 2∨∃ x y,a=.error x∧b=.error y:=by
 cases a with
 | ok r=>exact .inl ⟨r,rfl,(h.2 r rfl).1,(h.2 r rfl).2⟩
 | error x=>
  cases b with
  | ok r=>
   rcases h.1 r rfl with e | e
   ·cases e
   ·exact .inr (.inl e)
  | error y=>exact .inr (.inr ⟨x,y,rfl,rfl⟩)
theorem take_cut (h:Pre s u) (p n:Nat):Cut (fun r=>r.2=p+n∧r.2≤8 * s.size) (takeE s p n) (takeE u p n):=by
 unfold takeE
 by_cases hn:p+n≤8 * s.size
 ·have:=h.1
  rw[if_pos hn,if_pos (by omega),num_pre h p n hn]
  exact Cut.same ⟨rfl,hn⟩
 ·rw[if_neg hn]
  exact Cut.out _
theorem hit_up (h:Pre s u) {f:Nat→Int} {n p i k:Nat} (hh:Hit f n s p i k):Hit f n u p i k:=by
 obtain⟨h1,h2,h3,h4,h5⟩:=hh
 have:=h.1
 refine⟨h1,h2,h3,?_,by omega⟩
 rw[h4]
 exact hi_pre h p k h5
theorem hit_down (h:Pre s u) {f:Nat→Int} {n p i k:Nat} (hh:Hit f n u p i k) (hk:p+k≤8 * s.size):Hit f n s p i k:=by
 obtain⟨h1,h2,h3,h4,h5⟩:=hh
 refine⟨h1,h2,h3,?_,hk⟩
 rw[h4]
 exact (hi_pre h p k hk).symm
theorem sym_cut (h:Pre s u) (f:Nat→Int) (n p:Nat) (hp:p≤8 * s.size):Cut (fun r=>p < r.2∧r.2≤8 * s.size) (symE s f n p) (symE u f n p):=by
 by_cases hu:∃ q:Nat×Nat,Hit f n u p q.1 q.2
 ·obtain⟨⟨i,k⟩,hh⟩:=hu
  have eu:symE u f n p=.ok (i,p+k):=by
   unfold symE
   rw[symW_hit hh,if_pos rfl]
  by_cases hk:p+k≤8 * s.size
  ·have es:symE s f n p=.ok (i,p+k):=by
    unfold symE
    rw[symW_hit (hit_down h hh hk),if_pos rfl]
   rw[es,eu]
   refine Cut.same ⟨?_,hk⟩
   have:=hh.2.1
   show p < p+k
   have h1:1≤k:=this
   omega
  ·have ho:RunsOut f n s p:=by
    refine⟨fun i' k' h'=>?_,8 * s.size - p,by omega,fun j hj=>?_⟩
    ·have e:=(hit_one (hit_up h h') hh).2
     have h5:=h'.2.2.2.2
     have e':k'=k:=e
     omega
    ·have hjk:j≤k:=by omega
     obtain⟨q,q1,q2,q3,q4⟩:=hit_begins hh hjk
     exact⟨q,q1,q2,q3,by rw [q4]; exact (hi_pre h p j (by omega)).symm⟩
   have es:symE s f n p=.error 2:=by
    unfold symE
    rw[symW_out ho,if_neg (by decide),if_pos rfl]
   rw[es]
   exact Cut.out _
 ·have hs:¬ ∃ q:Nat×Nat,Hit f n s p q.1 q.2:=fun ⟨q,hq⟩=>hu ⟨q,hit_up h hq⟩
  have bad:∀ v:ByteArray,(¬ ∃ q:Nat×Nat,Hit f n v p q.1 q.2)→∃ x,symE v f n p=.error x:=by
   intro v hv
   unfold symE
   rcases symW_small (f:=f) (n:=n) (s:=v) (a:=p) with ⟨_,h2⟩ | ⟨h1,_⟩ | h1
   ·exact absurd ⟨(_,_),h2⟩ hv
   ·rw[h1,if_neg (by decide),if_pos rfl]
    exact⟨_,rfl⟩
   ·rw[h1,if_neg (by decide),if_neg (by decide)]
    exact⟨_,rfl⟩
  obtain⟨x,hx⟩:=bad s hs
  obtain⟨y,hy⟩:=bad u hu
  rw[hx,hy]
  exact Cut.bad x y
theorem bytes_pre (h:Pre s u) (p n:Nat) (hn:p+8 * n≤8 * s.size):bytesAt s p n=bytesAt u p n:=by
 unfold bytesAt
 refine List.map_congr_left fun i hi=>?_
 have:=List.mem_range.mp hi
 exact num_pre h _ 8 (by omega)
theorem stored_cut (h:Pre s u) (most p:Nat) (O:List Int):Cut (fun r=>p < r.2∧r.2≤8 * s.size) (storedE s most p O) (storedE u most p O):=by
 have h1:=h.1
 have hw:p≤wholeAt p:=by unfold wholeAt; omega
 unfold storedE
 by_cases a:wholeAt p+32≤8 * s.size
 ·rw[if_pos a,if_pos (show wholeAt p+32≤8 * u.size by omega),num_pre h _ 16 (by omega),num_pre h _ 16 (by omega)]
  by_cases b:num u (wholeAt p) 16+num u (wholeAt p+16) 16≠65535
  ·rw[if_pos b,if_pos b]
   exact Cut.bad _ _
  ·rw[if_neg b,if_neg b]
   by_cases c:(most:Int) - O.length < num u (wholeAt p) 16
   ·rw[if_pos c,if_pos c]
    exact Cut.bad _ _
   ·rw[if_neg c,if_neg c]
    by_cases d:wholeAt p+32+8 * (num u (wholeAt p) 16).toNat≤8 * s.size
    ·rw[if_pos d,if_pos (show wholeAt p+32+8 * (num u (wholeAt p) 16).toNat≤8 * u.size by omega),bytes_pre h _ _ d]
     exact Cut.same ⟨by show p < wholeAt p+32+8 * (num u (wholeAt p) 16).toNat; omega,d⟩
    ·rw[if_neg d]
     exact Cut.out _
 ·rw[if_neg a]
  exact Cut.out _
theorem all_cut (h:Pre s u) (f3:Nat→Int) (N:Nat):∀ (m M p:Nat) (L:List Int),p≤8 * s.size→8 * s.size+1≤m+p→8 * u.size+1≤M+p→Cut (fun r=>p≤r.2∧r.2≤8 * s.size) (allP s f3 N m p L) (allP u f3 N M p L)
 | 0,M,p,L,hp,hm,_=>by omega
 | m+1,0,p,L,hp,_,hM=>by have:=h.1; omega
 | m+1,M+1,p,L,hp,hm,hM=>by
  rw[allP,allP]
  by_cases hl:L.length < N
  ·rw[if_pos hl,if_pos hl]
   rcases cut_step (sym_cut h f3 19 p hp) with ⟨⟨y,p1⟩,e1,e2,q1,q2⟩ | e1 | ⟨x,y,e1,e2⟩
   ·rw[e1,e2]
    dsimp only
    dsimp only at q1 q2
    by_cases h0:y=16∧L.length=0
    ·rw[if_pos h0,if_pos h0]
     exact Cut.bad _ _
    ·rw[if_neg h0,if_neg h0]
     rcases cut_step (take_cut h p1 (bitsOf (y:Int))) with ⟨⟨x,p2'⟩,e3,e4,q3,q4⟩ | e3 | ⟨x,z,e3,e4⟩
     ·rw[e3,e4]
      dsimp only
      dsimp only at q3 q4
      cases tell L ((y:Int),x) with
      | none=>exact Cut.bad _ _
      | some more=>
       dsimp only
       by_cases hk:L.length+more.length≤N
       ·rw[if_pos hk,if_pos hk]
        exact (all_cut h f3 N m M p2' (L ++ more) (by omega) (by omega) (by omega)).weak fun r hr=>⟨by omega,hr.2⟩
       ·rw[if_neg hk,if_neg hk]
        exact Cut.bad _ _
     ·rw[e3]
      exact Cut.out _
     ·rw[e3,e4]
      exact Cut.bad _ _
   ·rw[e1]
    exact Cut.out _
   ·rw[e1,e2]
    exact Cut.bad _ _
  ·rw[if_neg hl,if_neg hl]
   exact Cut.same ⟨Nat.le_refl _,hp⟩
theorem third_pre (h:Pre s u) (p k:Nat) (hp:p+3 * k≤8 * s.size):thirdF s p k=thirdF u p k:=by
 funext i
 unfold thirdF
 split
 ·exact num_pre h _ 3 (by omega)
 ·rfl
theorem tables_cut (h:Pre s u) (p:Nat):Cut (fun r=>p < r.2.2∧r.2.2≤8 * s.size) (tablesP s p) (tablesP u p):=by
 have h1:=h.1
 unfold tablesP
 by_cases a:p+14≤8 * s.size
 ·rw[if_pos a,if_pos (show p+14≤8 * u.size by omega),num_pre h p 5 (by omega),num_pre h (p+5) 5 (by omega),num_pre h (p+10) 4 (by omega)]
  by_cases b:29 < num u p 5∨29 < num u (p+5) 5
  ·rw[if_pos b,if_pos b]
   exact Cut.bad _ _
  ·rw[if_neg b,if_neg b]
   have hk:=num_bd u (p+10) 4
   rw[show p2 4=16 by decide +kernel] at hk
   by_cases c:p+14+3 * (num u (p+10) 4+4).toNat≤8 * s.size
   ·rw[if_pos c,if_pos (show p+14+3 * (num u (p+10) 4+4).toNat≤8 * u.size by omega),third_pre h (p+14) _ c]
    by_cases d:kindOf (thirdF u (p+14) (num u (p+10) 4+4).toNat) 19≠2
    ·rw[if_pos d,if_pos d]
     exact Cut.bad _ _
    ·rw[if_neg d,if_neg d]
     rcases cut_step (all_cut h (thirdF u (p+14) (num u (p+10) 4+4).toNat) ((num u p 5+257).toNat+(num u (p+5) 5+1).toNat) (8 * s.size+1) (8 * u.size+1) (p+14+3 * (num u (p+10) 4+4).toNat) [] c (by omega) (by omega)) with ⟨⟨L,q⟩,e1,e2,q1,q2⟩ | e1 | ⟨x,y,e1,e2⟩
     ·rw[e1,e2]
      dsimp only
      dsimp only at q1 q2
      by_cases g:TabRight (num u p 5+257).toNat L
      ·rw[if_pos g]
       exact Cut.same ⟨by show p < q; omega,q2⟩
      ·rw[if_neg g]
       exact Cut.bad _ _
     ·rw[e1]
      exact Cut.out _
     ·rw[e1,e2]
      exact Cut.bad _ _
   ·rw[if_neg c]
    exact Cut.out _
 ·rw[if_neg a]
  exact Cut.out _
theorem symbols_cut (h:Pre s u) (most:Nat) (f1:Nat→Int) (n1:Nat) (f2:Nat→Int) (n2:Nat):∀ (m M p:Nat) (O:List Int),p≤8 * s.size→8 * s.size+1≤m+p→8 * u.size+1≤M+p→Cut (fun r=>p < r.2∧r.2≤8 * s.size) (symbolsF s most f1 n1 f2 n2 m p O) (symbolsF u most f1 n1 f2 n2 M p O)
 | 0,M,p,O,hp,hm,_=>by omega
 | m+1,0,p,O,hp,_,hM=>by have:=h.1; omega
 | m+1,M+1,p,O,hp,hm,hM=>by
  rw[symbolsF,symbolsF]
  rcases cut_step (sym_cut h f1 n1 p hp) with ⟨⟨y,p1⟩,e1,e2,q1,q2⟩ | e1 | ⟨x,y,e1,e2⟩
  ·rw[e1,e2]
   dsimp only
   dsimp only at q1 q2
   by_cases a:y=256
   ·rw[if_pos a,if_pos a]
    exact Cut.same ⟨q1,q2⟩
   ·rw[if_neg a,if_neg a]
    by_cases b:y < 256
    ·rw[if_pos b,if_pos b]
     by_cases c:O.length=most
     ·rw[if_pos c,if_pos c]
      exact Cut.bad _ _
     ·rw[if_neg c,if_neg c]
      exact (symbols_cut h most f1 n1 f2 n2 m M p1 _ q2 (by omega) (by omega)).weak fun r hr=>⟨by omega,hr.2⟩
    ·rw[if_neg b,if_neg b]
     by_cases c:285 < y
     ·rw[if_pos c,if_pos c]
      exact Cut.bad _ _
     ·rw[if_neg c,if_neg c]
      rcases cut_step (take_cut h p1 (lenBits y).1) with ⟨⟨x,p2'⟩,e3,e4,q3,q4⟩ | e3 | ⟨x,z,e3,e4⟩
      ·rw[e3,e4]
       dsimp only
       dsimp only at q3 q4
       rcases cut_step (sym_cut h f2 n2 p2' q4) with ⟨⟨q,p3⟩,e5,e6,q5,q6⟩ | e5 | ⟨x',y',e5,e6⟩
       ·rw[e5,e6]
        dsimp only
        dsimp only at q5 q6
        by_cases d:29 < q
        ·rw[if_pos d,if_pos d]
         exact Cut.bad _ _
        ·rw[if_neg d,if_neg d]
         rcases cut_step (take_cut h p3 (distBits q).1) with ⟨⟨z,p4⟩,e7,e8,q7,q8⟩ | e7 | ⟨x',z',e7,e8⟩
         ·rw[e7,e8]
          dsimp only
          dsimp only at q7 q8
          by_cases g:(O.length:Int) < (distBits q).2+z
          ·rw[if_pos g,if_pos g]
           exact Cut.bad _ _
          ·rw[if_neg g,if_neg g]
           by_cases k:(most:Int) - O.length < (lenBits y).2+x
           ·rw[if_pos k,if_pos k]
            exact Cut.bad _ _
           ·rw[if_neg k,if_neg k]
            exact (symbols_cut h most f1 n1 f2 n2 m M p4 _ q8 (by omega) (by omega)).weak fun r hr=>⟨by omega,hr.2⟩
         ·rw[e7]
          exact Cut.out _
         ·rw[e7,e8]
          exact Cut.bad _ _
       ·rw[e5]
        exact Cut.out _
       ·rw[e5,e6]
        exact Cut.bad _ _
      ·rw[e3]
       exact Cut.out _
      ·rw[e3,e4]
       exact Cut.bad _ _
  ·rw[e1]
   exact Cut.out _
  ·rw[e1,e2]
   exact Cut.bad _ _
theorem block_cut (h:Pre s u) (most:Nat) (kind:Int) (p:Nat) (O:List Int) (hp:p≤8 * s.size):Cut (fun r=>p < r.2∧r.2≤8 * s.size) (blockP s most kind p O) (blockP u most kind p O):=by
 have h1:=h.1
 unfold blockP
 by_cases a:kind=0
 ·rw[if_pos a,if_pos a]
  exact stored_cut h most p O
 ·rw[if_neg a,if_neg a]
  by_cases b:kind=1
  ·rw[if_pos b,if_pos b]
   exact symbols_cut h most _ _ _ _ _ _ p O hp (by omega) (by omega)
  ·rw[if_neg b,if_neg b]
   by_cases c:kind=2
   ·rw[if_pos c,if_pos c]
    rcases cut_step (tables_cut h p) with ⟨⟨L,n,q⟩,e1,e2,q1,q2⟩ | e1 | ⟨x,y,e1,e2⟩
    ·rw[e1,e2]
     dsimp only
     dsimp only at q1 q2
     exact (symbols_cut h most _ _ _ _ _ _ q O q2 (by omega) (by omega)).weak fun r hr=>⟨by omega,hr.2⟩
    ·rw[e1]
     exact Cut.out _
    ·rw[e1,e2]
     exact Cut.bad _ _
   ·rw[if_neg c,if_neg c]
    exact Cut.bad _ _
theorem blocks_cut (h:Pre s u) (most:Nat):∀ (m M p:Nat) (O Ty:List Int),p≤8 * s.size→8 * s.size+1≤m+p→8 * u.size+1≤M+p→Cut (fun r=>r.2.1≤8 * s.size) (blocksP s most m p O Ty) (blocksP u most M p O Ty)
 | 0,M,p,O,Ty,hp,hm,_=>by omega
 | m+1,0,p,O,Ty,hp,_,hM=>by have:=h.1; omega
 | m+1,M+1,p,O,Ty,hp,hm,hM=>by
  have h1:=h.1
  rw[blocksP,blocksP]
  by_cases a:p+3≤8 * s.size
  ·rw[if_pos a,if_pos (show p+3≤8 * u.size by omega),num_pre h (p+1) 2 (by omega),num_pre h p 1 (by omega)]
   rcases cut_step (block_cut h most (num u (p+1) 2) (p+3) O a) with ⟨⟨O',p'⟩,e1,e2,q1,q2⟩ | e1 | ⟨x,y,e1,e2⟩
   ·rw[e1,e2]
    dsimp only
    dsimp only at q1 q2
    by_cases b:num u p 1=0
    ·rw[if_pos b,if_pos b]
     exact blocks_cut h most m M p' O' _ q2 (by omega) (by omega)
    ·rw[if_neg b,if_neg b]
     exact Cut.same q2
   ·rw[e1]
    exact Cut.out _
   ·rw[e1,e2]
    exact Cut.bad _ _
  ·rw[if_neg a]
   exact Cut.out _
theorem inflate_cut (h:Pre s u) (most:Int) (hu:u.size≤12000):Cut (fun r=>r.2.1≤8 * s.size) (inflateP s most) (inflateP u most):=by
 have h1:=h.1
 unfold inflateP
 by_cases a:0≤most∧most≤12000
 ·rw[if_pos ⟨by omega,a⟩,if_pos ⟨hu,a⟩]
  exact blocks_cut h most.toNat _ _ 0 [] [] (by omega) (by omega) (by omega)
 ·rw[if_neg (fun q=>a q.2),if_neg (fun q=>a q.2)]
  exact Cut.bad _ _
end
end CutMath
end
section
open Go.RowKit Go.Extern.Stop Go.Stop Go.Extern
theorem asValueOfP (t:Addr) (w:World):(ReflectliteValue.unpack (.iface 91 (.pointer (some t)))).run Tryz.prog w
  = .ok (.agg #[.pointer (some ⟨2,91,none⟩),.pointer (some ⟨w.heap.size,0,none⟩),.int .u64 150]) (w.alloc (.cells #[.pointer (some t)] 91)):=by kernel_rfl
theorem asTypeP (a : Addr) (w : World) : (ReflectliteValue.methodAny (ReflectliteValue.valueError "reflectlite.Value.Type" 0) (fun t _ _ _ => ReflectliteType.toType t) #[.agg #[.pointer (some ⟨2, 91, none⟩), .pointer (some a), .int .u64 150]]).run Tryz.prog w
  = .ok (.iface 206 (.agg #[.pointer (some ⟨2,91,none⟩)])) w:=by kernel_rfl
theorem asMethodKind (h : Value) (w : World) : (Go.method 424 206 (.agg #[h]) "Kind").run Tryz.prog w = .ok (244, h) w := by kernel_rfl
theorem asKindP (w:World):((ReflectliteType.abiMethod fun t=>(fun a:Nat=>Value.int IntKind.u8 (a:Int)) <$> Rtype.kind t) #[.pointer (some ⟨2,91,none⟩)]).run Tryz.prog w=.ok (.int .u8 22) w:=by kernel_rfl
theorem asKindE (w:World):((ReflectliteType.abiMethod fun t=>(fun a:Nat=>Value.int IntKind.u8 (a:Int)) <$> Rtype.kind t) #[.pointer (some ⟨2,87,none⟩)]).run Tryz.prog w=.ok (.int .u8 25) w:=by kernel_rfl
theorem as_rlm (z:Sem Value) (f:TypeId→Addr→Nat→Nat→Sem Value) (v:Value):
  ReflectliteValue.method z f #[v]=(do match ← ReflectliteValue.parts v with | none=>z | some (t,a,fl)=>f t a fl (fl % 32)):=rfl
theorem asPartsP (a:Addr) (w:World):(ReflectliteValue.parts (.agg #[.pointer (some ⟨2,91,none⟩),.pointer (some a),.int .u64 150])).run Tryz.prog w=.ok (some (91,a,150)) w:=by kernel_rfl
theorem asIsNilP (a p:Addr) (W:World) (ha:W.cell? a=some (.pointer (some p))):
  (ReflectliteValue.method (ReflectliteValue.valueError "reflectlite.Value.IsNil" 0) ReflectliteValue.isNil #[.agg #[.pointer (some ⟨2, 91, none⟩), .pointer (some a), .int .u64 150]]).run Tryz.prog W = .ok (.bool false) W := by
 rw[as_rlm]
 simp only [Sem.run_bind,asPartsP,Result.andThen]
 simp[ReflectliteValue.isNil,loadVar,isAgg,underlying,Tryz.underlying91,ha,Result.andThen]
theorem asMethodElem (h : Value) (w : World) : (Go.method 424 206 (.agg #[h]) "Elem").run Tryz.prog w = .ok (254, .agg #[h]) w := by kernel_rfl
theorem asMethodImplements (h : Value) (w : World) : (Go.method 424 206 (.agg #[h]) "Implements").run Tryz.prog w = .ok (255, .agg #[h]) w := by kernel_rfl
theorem asMethodAssignableTo (h : Value) (w : World) : (Go.method 424 206 (.agg #[h]) "AssignableTo").run Tryz.prog w = .ok (252, .agg #[h]) w := by kernel_rfl
theorem asElemP (w:World):(ReflectliteType.method ReflectliteType.elem #[.agg #[.pointer (some ⟨2,91,none⟩)]]).run Tryz.prog w=.ok (.iface 206 (.agg #[.pointer (some ⟨2,87,none⟩)])) w:=by kernel_rfl
theorem asImplementsE (w : World) : (ReflectliteType.relation "Implements" ReflectliteType.implements_ #[.agg #[.pointer (some ⟨2, 87, none⟩)], .iface 206 (.agg #[.pointer (some ⟨2, 46, none⟩)])]).run Tryz.prog w = .ok (.bool true) w := by kernel_rfl
theorem asTypeOfE (v:Value) (w:World):(ReflectliteType.typeOf #[.iface 87 v]).run Tryz.prog w=.ok (.iface 206 (.agg #[.pointer (some ⟨2,87,none⟩)])) w:=by kernel_rfl
theorem asAssignableE (w : World) : (ReflectliteType.relation "AssignableTo" ReflectliteType.assignableTo #[.agg #[.pointer (some ⟨2, 87, none⟩)], .iface 206 (.agg #[.pointer (some ⟨2, 87, none⟩)])]).run Tryz.prog w = .ok (.bool true) w := by kernel_rfl
theorem asValueOfE (c:Int) (w:World):(ReflectliteValue.unpack (.iface 87 (.agg #[.int .i64 c]))).run Tryz.prog w
  = .ok (.agg #[.pointer (some ⟨2,87,none⟩),.pointer (some ⟨w.heap.size,0,none⟩),.int .u64 153]) (w.alloc (.cells #[.int .i64 c] 87)):=by kernel_rfl
theorem asElemOfP (w:World):(Rtype.elem? 91).run Tryz.prog w=.ok (some 87) w:=by kernel_rfl
theorem asMkE (p:Addr) (w:World):(ReflectliteValue.mk 87 p ReflectliteValue.flagAddr).run Tryz.prog w=.ok (.agg #[.pointer (some ⟨2,87,none⟩),.pointer (some p),.int .u64 409]) w:=by kernel_rfl
theorem asElemVP (a p:Addr) (W:World) (ha:W.cell? a=some (.pointer (some p))):
  (ReflectliteValue.method (ReflectliteValue.valueError "reflectlite.Value.Elem" 0) ReflectliteValue.elem #[.agg #[.pointer (some ⟨2, 91, none⟩), .pointer (some a), .int .u64 150]]).run Tryz.prog W
   = .ok (.agg #[.pointer (some ⟨2,87,none⟩),.pointer (some p),.int .u64 409]) W:=by
 rw[as_rlm]
 simp only [Sem.run_bind,asPartsP,Result.andThen]
 simp[ReflectliteValue.elem,loadVar,isAgg,underlying,Tryz.underlying91,ha,Result.andThen,asElemOfP,asMkE]
theorem as_rls (v x:Value):ReflectliteValue.set #[v,x]=(do
  let (some (dst,a,fl),some (src,b,_)):=(← ReflectliteValue.parts v,← ReflectliteValue.parts x)
   | unsupported (.noEntry "extern/(internal/reflectlite.Value).Set.zeroValue")
  if fl / ReflectliteValue.flagAddr % 2 == 0 then unsupported (.noEntry "extern/(internal/reflectlite.Value).Set.unaddressable")
  let val ← loadVar src b
  if ← Rtype.directlyAssignable dst src then storeVar dst a val
  else if ← Rtype.implements dst src then
   if (← Rtype.kind src) == 20 then
    match val with
    | .nilIface => unsupported (.noEntry "extern/reflectlite: a nil value of one interface type handed on as a value of another")
    | _=>storeVar dst a val
   else storeVar dst a (.iface src val)
  else panicString ("reflectlite.Set: value of type " ++ (← Rtype.spelt src) ++ " is not assignable to type " ++ (← Rtype.spelt dst))
  pure (.tuple #[])):=rfl
theorem asPartsEa (a:Addr) (w:World):(ReflectliteValue.parts (.agg #[.pointer (some ⟨2,87,none⟩),.pointer (some a),.int .u64 409])).run Tryz.prog w=.ok (some (87,a,409)) w:=by kernel_rfl
theorem asPartsE (a:Addr) (w:World):(ReflectliteValue.parts (.agg #[.pointer (some ⟨2,87,none⟩),.pointer (some a),.int .u64 153])).run Tryz.prog w=.ok (some (87,a,153)) w:=by kernel_rfl
theorem asDirectE (w:World):(Rtype.directlyAssignable 87 87).run Tryz.prog w=.ok true w:=by kernel_rfl
theorem asSetE (ta b:Addr) (c:Int) (old:Value) (W:World) (hb:W.cell? b=some (.int .i64 c)) (ht:W.cell? ta=some old) (hf:W.frozen? ta=false):
  (ReflectliteValue.set #[.agg #[.pointer (some ⟨2,87,none⟩),.pointer (some ta),.int .u64 409],.agg #[.pointer (some ⟨2,87,none⟩),.pointer (some b),.int .u64 153]]).run Tryz.prog W
   = .ok (.tuple #[]) (W.setCell ta (.int .i64 c)):=by
 rw[as_rls]
 simp only [Sem.run_bind,asPartsEa,asPartsE,Result.andThen]
 simp[ReflectliteValue.flagAddr,loadVar,isAgg,underlying,Tryz.underlying87,hb,Result.andThen,asDirectE,loadCells,loadCellsFrom,storeVar,Value.cells,storeCells,Addr.add]
 rw[run_store Tryz.prog W ta _ _ (by rfl)]
 simp[ht,hf]
set_option maxRecDepth 100000 in
set_option maxHeartbeats 4000000 in
theorem as_hit (c:Int) (t:Addr) (old:Value) (w:World) (hg:w.cell? ⟨0,0,none⟩=some (.iface 206 (.agg #[.pointer (some ⟨2,46,none⟩)]))) (ht0:w.cell? t=some old) (hf0:w.frozen? t=false):
  Calls Tryz.prog 58 #[.iface 87 (.agg #[.int .i64 c]),.iface 91 (.pointer (some t))] w fun ev w'=>ev=.returned (.bool true)∧w'=((((w.alloc (.cells #[.pointer (some t)] 91)).alloc (.cells #[.pointer (some ⟨2,91,none⟩),.pointer (some ⟨w.heap.size,0,none⟩),.int .u64 150] 139)).alloc (.cells #[.pointer (some ⟨2,91,none⟩),.pointer (some ⟨w.heap.size,0,none⟩),.int .u64 150] 139)).alloc (.cells #[.int .i64 c] 87)).setCell t (.int .i64 c):=by
 have h6:=@run_callFunc_extern Tryz.prog 97 _ (fun args=>ReflectliteValue.unpack (args.getD 0 (.tuple #[]))) Tryz.func97 (by kernel_rfl) (by kernel_rfl) (by kernel_rfl) (by kernel_rfl)
 have h7 := @run_callFunc_extern Tryz.prog 98 _ (ReflectliteValue.methodAny (ReflectliteValue.valueError "reflectlite.Value.Type" 0) (fun t _ _ _ => ReflectliteType.toType t)) Tryz.func98 (by kernel_rfl) (by kernel_rfl) (by kernel_rfl) (by kernel_rfl)
 have h8 := @run_callFunc_extern Tryz.prog 99 _ (ReflectliteValue.method (ReflectliteValue.valueError "reflectlite.Value.IsNil" 0) ReflectliteValue.isNil) Tryz.func99 (by kernel_rfl) (by kernel_rfl) (by kernel_rfl) (by kernel_rfl)
 have h27:=@run_callFunc_extern Tryz.prog 244 _ (ReflectliteType.abiMethod fun t=>do pure (.int .u8 (← Rtype.kind t))) Tryz.func244 (by kernel_rfl) (by kernel_rfl) (by kernel_rfl) (by kernel_rfl)
 have h37:=@run_callFunc_extern Tryz.prog 254 _ (ReflectliteType.method ReflectliteType.elem) Tryz.func254 (by kernel_rfl) (by kernel_rfl) (by kernel_rfl) (by kernel_rfl)
 have h38 := @run_callFunc_extern Tryz.prog 255 _ (ReflectliteType.relation "Implements" ReflectliteType.implements_) Tryz.func255 (by kernel_rfl) (by kernel_rfl) (by kernel_rfl) (by kernel_rfl)
 have h10:=@run_callFunc_extern Tryz.prog 147 _ ReflectliteType.typeOf Tryz.func147 (by kernel_rfl) (by kernel_rfl) (by kernel_rfl) (by kernel_rfl)
 have h35 := @run_callFunc_extern Tryz.prog 252 _ (ReflectliteType.relation "AssignableTo" ReflectliteType.assignableTo) Tryz.func252 (by kernel_rfl) (by kernel_rfl) (by kernel_rfl) (by kernel_rfl)
 have h11 := @run_callFunc_extern Tryz.prog 148 _ (ReflectliteValue.method (ReflectliteValue.valueError "reflectlite.Value.Elem" 0) ReflectliteValue.elem) Tryz.func148 (by kernel_rfl) (by kernel_rfl) (by kernel_rfl) (by kernel_rfl)
 have h12:=@run_callFunc_extern Tryz.prog 149 _ ReflectliteValue.set Tryz.func149 (by kernel_rfl) (by kernel_rfl) (by kernel_rfl) (by kernel_rfl)
 have tO:=asTypeOfE
 have mA:=asMethodAssignableTo
 have a25:=asAssignableE
 have v25:=asValueOfE c
 have f6:=asValueOfP
 have f7:=asTypeP
 have mK:=asMethodKind
 have mE:=asMethodElem
 have mI:=asMethodImplements
 have k27:=asKindP
 have k25:=asKindE
 have e27:=asElemP
 have i25:=asImplementsE
 have n8:=asIsNilP ⟨w.heap.size,0,none⟩ t ((w.alloc (.cells #[.pointer (some t)] 91)).alloc (.cells #[.pointer (some ⟨2,91,none⟩),.pointer (some ⟨w.heap.size,0,none⟩),.int .u64 150] 139)) (by simp)
 have hlt:0 < w.heap.size:=by
  rcases Nat.eq_zero_or_pos w.heap.size with h0 | h
  ·simp[World.cell?,h0] at hg
  ·exact h
 have hg2:((w.alloc (.cells #[.pointer (some t)] 91)).alloc (.cells #[.pointer (some ⟨2,91,none⟩),.pointer (some ⟨w.heap.size,0,none⟩),.int .u64 150] 139)).cell? ⟨0,0,none⟩=some (.iface 206 (.agg #[.pointer (some ⟨2,46,none⟩)])):=by
  rw[World.cell?_alloc_lt _ _ ⟨0,0,none⟩ (by simp),World.cell?_alloc_lt _ _ ⟨0,0,none⟩ hlt]; exact hg
 have htl:t.block < w.heap.size:=by
  rcases Nat.lt_or_ge t.block w.heap.size with h | h
  ·exact h
  ·simp[World.cell?,Array.getElem?_eq_none h] at ht0
 have el:=asElemVP ⟨w.heap.size,0,none⟩ t (((w.alloc (.cells #[.pointer (some t)] 91)).alloc (.cells #[.pointer (some ⟨2,91,none⟩),.pointer (some ⟨w.heap.size,0,none⟩),.int .u64 150] 139)).alloc (.cells #[.pointer (some ⟨2,91,none⟩),.pointer (some ⟨w.heap.size,0,none⟩),.int .u64 150] 139)) (by rw [World.cell?_alloc_lt _ _ ⟨w.heap.size,0,none⟩ (by simp; omega)]; simp)
 have st:=asSetE t ⟨w.heap.size+1+1+1,0,none⟩ c old ((((w.alloc (.cells #[.pointer (some t)] 91)).alloc (.cells #[.pointer (some ⟨2,91,none⟩),.pointer (some ⟨w.heap.size,0,none⟩),.int .u64 150] 139)).alloc (.cells #[.pointer (some ⟨2,91,none⟩),.pointer (some ⟨w.heap.size,0,none⟩),.int .u64 150] 139)).alloc (.cells #[.int .i64 c] 87))
  (by rw [World.cell?_alloc_at _ _ _ _ (by simp)]; rfl)
  (by rw [World.cell?_alloc_lt _ _ t (by simp; omega),World.cell?_alloc_lt _ _ t (by simp; omega),World.cell?_alloc_lt _ _ t (by simp; omega),World.cell?_alloc_lt _ _ t htl]; exact ht0)
  (by rw [World.frozen?_alloc_old _ _ t (by simp; omega),World.frozen?_alloc_old _ _ t (by simp; omega),World.frozen?_alloc_old _ _ t (by simp; omega),World.frozen?_alloc_old _ _ t (Nat.ne_of_lt htl)]; exact hf0)
 go_enter Tryz.func58,Tryz.ntmps58
 go_wp2
 refine wp_loop_rounds 1 ?_
 rw[rounds_succ]
 go_wp2
 go_ret
 exact⟨rfl,rfl⟩
end
section
open Go.RowKit Go.Joins OutMath TokMath InfMath
def ErrG (w:World):Prop:=0 < w.heap.size∧w.cell? ⟨0,0,none⟩=some (.iface 206 (.agg #[.pointer (some ⟨2,46,none⟩)]))
theorem ErrG.below {B:Nat} {w w':World} (h:ErrG w) (hb:Below B w w') (h0:0 < B):ErrG w':=⟨Nat.lt_of_lt_of_le h.1 hb.size,(hb.cell (p:=⟨0,0,none⟩) h0).trans h.2⟩
set_option maxRecDepth 100000 in
set_option maxHeartbeats 1600000 in
theorem inflateCode_any (c:Nat) (w:World) (hg:ErrG w):
  Calls Tryz.prog 26 #[errV c] w fun e w'=>e=.returned (.int .i64 (c:Int))∧Below w.heap.size w w':=by
 have h0:=hg.1
 have HA:Hid (∀ W,W=w.alloc (.cells #[.int .i64 0] 87)→Calls Tryz.prog 58 #[.iface 87 (.agg #[.int .i64 (c:Int)]),.iface 91 (.pointer (some ⟨w.heap.size,0,none⟩))] W fun ev w'=>ev=.returned (.bool true)∧w'.cell? ⟨w.heap.size,0,none⟩=some (.int .i64 (c:Int))∧w.heap.size < w'.heap.size∧Below w.heap.size w w'):=by
  rintro W rfl
  have hgW:=hg.below (bstart w (.cells #[.int .i64 0] 87)) h0
  refine (as_hit (c:Int) ⟨w.heap.size,0,none⟩ (.int .i64 0) _ hgW.2 ((cell_of_block (heap_alloc_new w _) 0).trans rfl) (unfrozen_of_block (heap_alloc_new w _) 0)).mono ?_
  rintro e w' ⟨rfl,rfl⟩
  refine⟨rfl,?_,?_,?_⟩
  ·have hb:Below (w.alloc (.cells #[.int .i64 0] 87)).heap.size (w.alloc (.cells #[.int .i64 0] 87)) _:=bal (bal (bal (bstart (w.alloc (.cells #[.int .i64 0] 87)) (.cells #[.pointer (some ⟨w.heap.size,0,none⟩)] 91)) (.cells #[.pointer (some ⟨2,91,none⟩),.pointer (some ⟨(w.alloc (.cells #[.int .i64 0] 87)).heap.size,0,none⟩),.int .u64 150] 139)) (.cells #[.pointer (some ⟨2,91,none⟩),.pointer (some ⟨(w.alloc (.cells #[.int .i64 0] 87)).heap.size,0,none⟩),.int .u64 150] 139)) (.cells #[.int .i64 (c:Int)] 87)
   have hk:=(hb.block w.heap.size (by simp)).trans (heap_alloc_new w _)
   exact (cell_of_block (block_setCell (i:=0) hk (.int .i64 (c:Int))) 0).trans rfl
  ·simp
   omega
  ·refine Below.setCell (p:=⟨w.heap.size,0,none⟩) ?_ (Nat.le_refl _) _
   exact bal (bal (bal (bal (bstart _ _) _) _) _) _
 go_enter Tryz.func26,Tryz.ntmps26
 go_wp2_with fail
 refine (HA.out _ rfl).mono ?_
 rintro e w1 ⟨rfl,c1,l1,hB1⟩
 have HB1:=hid_of hB1
 clear hB1
 go_wp2_with fail
 go_ret
 exact⟨rfl,HB1.out⟩
set_option maxRecDepth 100000 in
set_option maxHeartbeats 1600000 in
theorem implInflate_err (s:ByteArray) (most:Int) (c:Nat) (w:World) (hs:s.size≤12000) (hG:OrderG w) (hE:ErrG w) (h:inflateP s most=.error c):
  Calls Tryz.prog 11 #[.string s,.int .i64 most] w fun e w'=>e=.returned (.tuple #[.string ⟨#[]⟩,.int .i64 0,.int .i64 (c:Int)])∧Below w.heap.size w w':=by
 have hi:=inflated_any s most w (by omega) hG
 rw[h] at hi
 have h0:=hE.1
 go_enter Tryz.func11,Tryz.ntmps11
 go_wp2_with fail
 refine hi.mono ?_
 clear hi
 rintro e w1 ⟨hB,⟨O',p',Ty',fb,rb,vo,vt,n,hr,hp,hT,hsz,hmo,rfl,hps⟩ | ⟨c',hr,rfl⟩⟩
 ·cases hr
 ·cases hr
  have hic:=inflateCode_any c w1 (hE.below hB h0)
  have HB:=hid_of hB
  clear hB
  go_wp2_with fail
  refine hic.mono ?_
  rintro e w2 ⟨rfl,hB2⟩
  have HB2:=hid_of (bnext HB.out hB2)
  clear hB2
  go_wp2_with fail
  refine bodyPost_ret (v:=.tuple #[.string ⟨#[]⟩,.int .i64 0,.int .i64 (c:Int)]) ?_ rfl ⟨rfl,HB2.out⟩
  simp[results,Tryz.results11,go_sem]
end
section
open Go.RowKit Go.Joins StandMath DeflMath BlockMath InfMath TakeMath CutMath
theorem cut_end {t d:ByteArray} {p:Nat} {Ty:List Int} (h:ReadsAll d t p Ty) (ht:t.size≤2600) (k:Nat) (hk:k < d.size):inflateP (d.extract 0 k) 12000=.error 2:=by
 obtain⟨r1,r2,r3,r4⟩:=h
 have hs:(d.extract 0 k).size=k:=by rw [ByteArray.size_extract]; omega
 have hp:Pre (d.extract 0 k) d:=by
  refine⟨by omega,fun i hi=>?_⟩
  unfold byteAt
  rw[ba_get,ba_get,ba_cut,List.drop_zero,Nat.sub_zero,List.getElem?_take_of_lt (by omega)]
 have hd:=inflateP_ok (r4 d 12000 (Nat.le_refl _) (fun _ _=>rfl) (by omega) (by omega) (Nat.le_refl _))
 rcases (inflate_cut hp 12000 (by omega)).1 _ hd with e | e
 ·have hq:p≤8 * (d.extract 0 k).size:=((inflate_cut hp 12000 (by omega)).2 _ e).2
  omega
 ·exact e
set_option maxRecDepth 100000 in
set_option maxHeartbeats 3200000 in
theorem FnCut_at (hD:DeflateAnswer) (a:Option Addr) (len cap:Nat) (w:World) (hK:CodeAt w w.heap.size a len) (hl:(len:Int)≤1048576) (hG:OrderG w) (hE:ErrG w):
  Calls Tryz.prog 3 #[.slice a len cap] w fun e w'=>e=.returned (.bool true)∧Below w.heap.size w w':=by
 have HK:=hid_of hK
 have HG:=hid_of hG
 have HE:=hid_of hE
 have HD:=hid_of hD
 clear hK hG hD hE
 go_enter Tryz.func3,Tryz.ntmps3
 go_wp2_with fail
 refine (big_no a len cap _ hl).mono ?_
 rintro e w0 ⟨rfl,rfl⟩
 go_wp2_with fail
 refine (draw_data a len cap w0.heap.size w0 HK.out (by omega) (Nat.le_refl _)).mono ?_
 rintro e w1 ⟨t,rfl,hts,hB1⟩
 have HB1:=hid_of hB1
 clear hB1
 go_wp2_with fail
 refine (draw_places a len cap w0.heap.size w1 (HK.out.below HB1.out) (by omega) HB1.out.size).mono ?_
 rintro e w2 ⟨gp,cp,zs,rfl,hzl,hzb,hO2,hB2⟩
 have HB2:=hid_of (HB1.out.trans hB2)
 have HO2:=hid_of hO2
 have hp0:=hzb (zs.getD 0 0) (by rw [List.getD_eq_getElem?_getD,List.getElem?_eq_getElem (by omega)]; exact List.getElem_mem _)
 have hp1:=hzb (zs.getD 1 0) (by rw [List.getD_eq_getElem?_getD,List.getElem?_eq_getElem (by omega)]; exact List.getElem_mem _)
 have cp0:w2.cell? ⟨gp,0,none⟩=some (.int .i64 (zs.getD 0 0)):=by rw [hO2.cell 0 (by rw [i64s_length]; omega),i64s_get]
 have HP1:Hid (∀ W,Below w2.heap.size w2 W→W.cell? ⟨gp,1,none⟩=some (.int .i64 (zs.getD 1 0))∧gp < W.heap.size):=by
  intro W hb
  refine⟨?_,Nat.lt_of_lt_of_le hO2.lt hb.size⟩
  rw[hb.cell (p:=⟨gp,1,none⟩) hO2.lt,hO2.cell 1 (by rw [i64s_length]; omega),i64s_get]
 have lgp:=hO2.lt
 clear hO2 hB2 HB1 hzb hzl
 generalize zs.getD 0 0=P0 at hp0 cp0
 generalize zs.getD 1 0=P1 at hp1 HP1
 obtain⟨lv,hlv⟩:∃ lv:Nat,(lv:Int)=P0 % 4:=⟨(P0 % 4).toNat,by omega⟩
 have t0:P0.tmod 4=(lv:Int):=by rw [Int.tmod_eq_emod_of_nonneg hp0.1]; exact hlv.symm
 have hl3:lv≤3:=by omega
 have hwf:(Lit.int .i64 (lv:Int)).wf=true:=by
  have:lv=0∨lv=1∨lv=2∨lv=3:=by omega
  rcases this with rfl | rfl | rfl | rfl <;> decide
 have hdf:=HD.out t (lv:Int) w2 (by omega) hwf (HG.out.below HB2.out HG.out.1)
 have e1:deflAns t (lv:Int)=.tuple #[.string (deflT t lv),.bool true]:=by
  unfold deflAns
  rw[if_pos ⟨by omega,by omega,by omega⟩,Int.toNat_natCast]
 rw[e1] at hdf
 obtain⟨p,Ty,hR⟩:=defl_reads t lv (by omega)
 obtain⟨r1,r2,r3,r4⟩:=hR
 generalize deflT t lv=d at *
 have hd1:1≤d.size:=by omega
 obtain⟨k,hk⟩:∃ k:Nat,(k:Int)=P1 % (d.size:Int):=⟨(P1 % (d.size:Int)).toNat,by
  have:=Int.emod_nonneg P1 (show (d.size:Int)≠0 by omega)
  omega⟩
 have hkl:k < d.size:=by
  have:=Int.emod_lt_of_pos P1 (show 0 < (d.size:Int) by omega)
  omega
 have t1:P1.tmod (d.size:Int)=(k:Int):=by rw [Int.tmod_eq_emod_of_nonneg hp1.1]; exact hk.symm
 have hcut:=cut_end ⟨r1,r2,r3,r4⟩ (by omega) k hkl
 have hks:(d.extract 0 k).size=k:=by rw [ByteArray.size_extract]; omega
 have h1:=fun W hG hE=>implInflate_err (d.extract 0 k) 12000 2 W (by omega) hG hE hcut
 have hm4:(d ++ (⟨#[109,111,114,101]⟩:ByteArray)).size=d.size+4:=size_app _ _
 have hmore:=r4 (d ++ ⟨#[109,111,114,101]⟩) 12000 (by omega) (fun i hi=>cat_bit _ _ i (by omega)) (by omega) (by omega) (Nat.le_refl _)
 have h2:=fun W hG=>implInflate_ok (d ++ ⟨#[109,111,114,101]⟩) 12000 (numsOf t) p Ty W (by omega) hG hmore
 rw[show strOfNums (numsOf t)=t from str_nums t,r1] at h2
 have dz2:¬ (d.size:Int)=0:=by omega
 have dz:((d.size:Int) == 0)=false:=by simpa using dz2
 have dz3:decide ((d.size:Int)=0)=false:=decide_eq_false dz2
 have nk:¬ k=d.size:=by omega
 have q2:((2:Nat):Int)=2:=rfl
 rw[q2] at h1
 have HR1:=hid_of r1
 clear e1 hlv hk r1 r3 r4 hcut hmore hks hm4 q2
 go_wp2_with fail
 refine hdf.mono ?_
 rintro e w3 ⟨rfl,hB3⟩
 have HB3:=hid_of (bnext HB2.out hB3)
 obtain⟨cp1,lg3⟩:=HP1.out w3 hB3
 clear hB3 hdf
 go_wp2_with fail
 refine (h1 w3 (HG.out.below HB3.out HG.out.1) (HE.out.below HB3.out HE.out.1)).mono ?_
 rintro e w4 ⟨rfl,hB4⟩
 have HB4:=hid_of (bnext HB3.out hB4)
 clear hB4 h1
 go_wp2_with fail
 refine (h2 w4 (HG.out.below HB4.out HG.out.1)).mono ?_
 rintro e w5 ⟨rfl,hB5⟩
 have HB5:=hid_of (bnext HB4.out hB5)
 clear hB5 h2
 go_wp2_with fail
 go_ret
 exact⟨rfl,HB5.out⟩
theorem cut_law (hD:DeflateAnswer) (a:Option Addr) (len cap:Nat) (zs:List Int) (w:World) (hr:IsRow .u8 w a len cap zs) (hG:OrderG w∧ErrG w):
  Calls Tryz.prog 3 #[.slice a len cap] w fun e w'=>e=.returned (.bool true)∧Below w.heap.size w w':=by
 obtain⟨hC,hl,hc⟩:=codeAt_of_row hr
 unfold maxLen at hc
 by_cases h:(len:Int)≤1048576
 ·exact FnCut_at hD a len cap w hC h hG.1 hG.2
 ·have d:(1048576:Int) < len:=by omega
  clear hr hC hD hG
  go_enter Tryz.func3,Tryz.ntmps3
  go_wp2_with fail
  refine (big_yes a len cap _ d (by omega)).mono ?_
  rintro e w1 ⟨rfl,rfl⟩
  go_wp2_with fail
  go_ret
  exact⟨rfl,Below.refl _ _⟩
end
end Go.Proofs.YtklpiihnbokkkaaGreatDoor
