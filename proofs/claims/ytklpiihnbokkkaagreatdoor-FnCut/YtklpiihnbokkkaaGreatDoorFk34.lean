/-
  Texts of the proof, put together.
-/
import Derived.Test.YtklpiihnbokkkaaGreatDoorFk33
namespace Go.Proofs.YtklpiihnbokkkaaGreatDoor
open PackageMath SortMath
def sy (c:Coin):Int:=match c.2 with
 | [i]=>(i:Int)
 | _=>-1
theorem sy_one (x:Int) (i:Nat):sy (x,[i])=(i:Int):=rfl
theorem sy_more {c:Coin} (h:2≤c.2.length):sy c=-1:=by
 unfold sy
 split
 ·rename_i i e
  rw[e] at h
  simp at h
 ·rfl
def key (c:Coin):Int:=c.1 * 1024+sy c
def rawL (c:Nat→Int):Nat→List Coin
 | 0=>[]
 | i+1=>if c i=0 then rawL c i else rawL c i ++ [(c i,[i])]
theorem raw_length (c:Nat→Int):∀ n,(rawL c n).length=posN c n
 | 0=>rfl
 | n+1=>by
  have h:=raw_length c n
  show (if c n=0 then rawL c n else rawL c n ++ [(c n,[n])]).length=posN c n+(if decide (c n≠0)=true then 1 else 0)
  by_cases e:c n=0
  ·rw[if_pos e,h]; simp [e]
  ·rw[if_neg e,List.length_append,h]; simp [e]
theorem raw_mem {c:Nat→Int}:∀ n z,z∈rawL c n→∃ i,i < n∧c i≠0∧z=(c i,[i])
 | 0,z,h=>by cases h
 | n+1,z,h=>by
  unfold rawL at h
  by_cases e:c n=0
  ·rw[if_pos e] at h
   obtain⟨i,h1,h2,h3⟩:=raw_mem n z h
   exact⟨i,by omega,h2,h3⟩
  ·rw[if_neg e] at h
   rcases List.mem_append.mp h with h | h
   ·obtain⟨i,h1,h2,h3⟩:=raw_mem n z h
    exact⟨i,by omega,h2,h3⟩
   ·exact⟨n,by omega,e,by simpa using h⟩
theorem mem_ins {x z:Coin}:∀ {l:List Coin},z=x∨z∈l→z∈ins x l
 | [],h=>by simpa [ins] using h
 | y :: l,h=>by
  unfold ins
  split
  ·rcases h with h | h
   ·exact List.mem_cons_of_mem _ (mem_ins (.inl h))
   ·rcases List.mem_cons.mp h with h | h
    ·rw[h]; exact List.mem_cons_self
    ·exact List.mem_cons_of_mem _ (mem_ins (.inr h))
  ·rcases h with h | h
   ·rw[h]; exact List.mem_cons_self
   ·exact List.mem_cons_of_mem _ h
theorem mem_first {c:Nat→Int}:∀ n i,i < n→c i≠0→(c i,[i])∈firstL c n
 | 0,i,h,_=>by omega
 | n+1,i,h,hc=>by
  unfold firstL
  by_cases e:i=n
  ·subst e
   rw[if_neg hc]
   exact mem_ins (.inl rfl)
  ·have:=mem_first n i (by omega) hc
   by_cases e2:c n=0
   ·rw[if_pos e2]; exact this
   ·rw[if_neg e2]; exact mem_ins (.inr this)
def KUp (l:List Coin):Prop:=l.Pairwise fun a b=>key a < key b
theorem ins_kup {x:Coin}:∀ {l:List Coin},KUp l→Asc l→(∀ y∈l,0≤sy y∧sy y < sy x)→sy x < 1024→KUp (ins x l)
 | [],_,_,_,_=>by simp [ins,KUp]
 | y :: l,h,ha,hs,hx=>by
  have h':=List.pairwise_cons.mp h
  unfold ins
  split
  ·rename_i hle
   refine List.pairwise_cons.mpr ⟨fun z hz=>?_,ins_kup h'.2 ha.2.2 (fun q hq=>hs q (List.mem_cons_of_mem _ hq)) hx⟩
   rcases ins_mem x l z hz with rfl | hz
   ·have:=hs y List.mem_cons_self
    unfold key
    omega
   ·exact h'.1 z hz
  ·rename_i hle
   refine List.pairwise_cons.mpr ⟨fun z hz=>?_,h⟩
   have hz2:y.1≤z.1:=by
    rcases List.mem_cons.mp hz with rfl | hz
    ·exact Int.le_refl _
    ·exact ha.2.1 z hz
   have:=hs z hz
   unfold key
   omega
theorem first_kup {c:Nat→Int}:∀ n,n≤1024→(∀ i,i < n→0≤c i)→KUp (firstL c n)
 | 0,_,_=>List.Pairwise.nil
 | n+1,hn,h=>by
  unfold firstL
  have k:=first_kup n (by omega) (fun i hi=>h i (by omega))
  by_cases e:c n=0
  ·rw[if_pos e]; exact k
  ·rw[if_neg e]
   refine ins_kup k (first_asc n (fun i hi=>h i (by omega))) (fun y hy=>?_) (by rw [sy_one]; omega)
   obtain⟨i,h1,_,rfl⟩:=first_mem n y hy
   rw[sy_one,sy_one]
   omega
theorem raw_stb {c:Nat→Int}:∀ n,(rawL c n).Pairwise fun a b=>sy a < sy b
 | 0=>List.Pairwise.nil
 | n+1=>by
  unfold rawL
  have k:=raw_stb (c:=c) n
  by_cases e:c n=0
  ·rw[if_pos e]; exact k
  ·rw[if_neg e]
   refine List.pairwise_append.mpr ⟨k,List.pairwise_singleton _ _,fun a ha b hb=>?_⟩
   obtain⟨i,h1,_,rfl⟩:=raw_mem n a ha
   obtain rfl:b=(c n,[n]):=by simpa using hb
   rw[sy_one,sy_one]
   omega
def keyAt (l:List Coin) (i:Nat):Int:=key (l.getD i (0,[]))
theorem getD_mem {l:List Coin} {i:Nat} (h:i < l.length):l.getD i (0,[])∈l:=by
 rw[List.getD_eq_getElem?_getD,List.getElem?_eq_getElem h]
 exact List.getElem_mem _
theorem mem_getD {l:List Coin} {z:Coin} (h:z∈l):∃ i,i < l.length∧l.getD i (0,[])=z:=by
 obtain⟨i,hi,e⟩:=List.getElem_of_mem h
 refine⟨i,hi,?_⟩
 rw[List.getD_eq_getElem?_getD,List.getElem?_eq_getElem hi]
 exact e
theorem key_wt {c:Coin} (h0:0≤sy c) (h1:sy c < 1024):key c / 1024=c.1∧key c % 1024=sy c:=by
 unfold key
 omega
theorem raw_key {c:Nat→Int} {n i:Nat} (hn:n≤1024) (hi:i < (rawL c n).length):keyAt (rawL c n) i / 1024=((rawL c n).getD i (0,[])).1∧keyAt (rawL c n) i % 1024=sy ((rawL c n).getD i (0,[])):=by
 obtain⟨s,h1,_,e⟩:=raw_mem n _ (getD_mem hi)
 unfold keyAt
 rw[e]
 exact key_wt (by rw [sy_one]; omega) (by rw [sy_one]; omega)
theorem first_key {c:Nat→Int} {n i:Nat} (hn:n≤1024) (hi:i < (firstL c n).length):keyAt (firstL c n) i / 1024=((firstL c n).getD i (0,[])).1∧keyAt (firstL c n) i % 1024=sy ((firstL c n).getD i (0,[])):=by
 obtain⟨s,h1,_,e⟩:=first_mem n _ (getD_mem hi)
 unfold keyAt
 rw[e]
 exact key_wt (by rw [sy_one]; omega) (by rw [sy_one]; omega)
theorem first_up {c:Nat→Int} {n:Nat} (hn:n≤1024) (h:∀ i,i < n→0≤c i):Up (keyAt (firstL c n)) 0 (firstL c n).length:=by
 intro i j _ h2 h3
 have k:=List.pairwise_iff_getElem.mp (first_kup n hn h) i j (by omega) h3 h2
 unfold keyAt
 rw[List.getD_eq_getElem?_getD,List.getD_eq_getElem?_getD,List.getElem?_eq_getElem h3,List.getElem?_eq_getElem (show i < _ by omega)]
 exact k
theorem raw_Stb {c:Nat→Int} {n:Nat} (hn:n≤1024):Stb (keyAt (rawL c n)) 0 (rawL c n).length:=by
 intro i j _ h2 h3
 have k:=List.pairwise_iff_getElem.mp (raw_stb (c:=c) n) i j (by omega) h3 h2
 have e1:=raw_key (c:=c) hn (show i < (rawL c n).length by omega)
 have e2:=raw_key (c:=c) hn h3
 rw[List.getD_eq_getElem?_getD,List.getElem?_eq_getElem (show i < (rawL c n).length by omega)] at e1
 rw[List.getD_eq_getElem?_getD,List.getElem?_eq_getElem h3] at e2
 simp only [Option.getD_some] at e1 e2
 omega
theorem raw_sorted {c:Nat→Int} {n:Nat} {f:Nat→Int} (hn:n≤1024) (h:∀ i,i < n→0≤c i) (hu:Up f 0 (posN c n)) (ho:Of (keyAt (rawL c n)) f 0 (posN c n)):∀ i,i < posN c n→f i=keyAt (firstL c n) i:=by
 have hl:(firstL c n).length=posN c n:=first_length c n
 refine up_unique hu (by rw [← hl]; exact first_up hn h) (fun i hi=>?_)
 obtain⟨j,_,hj,e⟩:=ho.1 i (Nat.zero_le _) hi
 rw[← raw_length] at hj
 obtain⟨s,h1,h2,e2⟩:=raw_mem n _ (getD_mem hj)
 obtain⟨q,hq,e3⟩:=mem_getD (mem_first n s h1 h2)
 refine⟨q,by omega,?_⟩
 rw[e]
 unfold keyAt
 rw[e2,e3]
/-! What is taken. -/
def isP:Coin→Int:=fun c=>if sy c=-1 then 1 else 0
def lf (q:Nat):Coin→Int:=fun c=>if sy c=(q:Int) then 1 else 0
theorem sm_congr {φ ψ:Coin→Int}:∀ {l:List Coin},(∀ x∈l,φ x=ψ x)→sm φ l=sm ψ l
 | [],_=>rfl
 | x :: l,h=>by
  show φ x+sm φ l=ψ x+sm ψ l
  rw[h x List.mem_cons_self,sm_congr (fun y hy=>h y (List.mem_cons_of_mem _ hy))]
theorem sm_nil (l:List Coin):sm (fun _=>0) l=0:=by
 induction l with
 | nil=>rfl
 | cons x l ih=>show (0:Int)+sm (fun _=>0) l=0; omega
theorem sm_ones (l:List Coin):sm (fun _=>1) l=l.length:=by
 induction l with
 | nil=>rfl
 | cons x l ih=>show (1:Int)+sm (fun _=>1) l=_; rw [ih,List.length_cons]; omega
def Leafy (X:List Coin):Prop:=∀ x∈X,∃ i:Nat,x.2=[i]
theorem ct_leaf {x:Coin} {i:Nat} (h:x.2=[i]) (q:Nat):ct q x=lf q x∧isP x=0:=by
 have e:sy x=(i:Int):=by unfold sy; rw [h]
 unfold ct lf isP
 rw[e,h]
 refine⟨?_,by rw [if_neg (by omega)]⟩
 by_cases k:i=q
 ·subst k; simp
 ·rw[if_neg (by omega),List.count_eq_zero.mpr (by simpa using fun h=>k h.symm)]
  rfl
theorem lf_pair {x:Coin} (h:2≤x.2.length) (q:Nat):lf q x=0∧isP x=1:=by
 unfold lf isP
 rw[sy_more h]
 exact⟨by rw [if_neg (by omega)],by rw [if_pos rfl]⟩
theorem mem_take {l:List Coin} {k:Nat} {x:Coin} (h:x∈l.take k):x∈l:=List.mem_of_mem_take h
theorem lists_parts {X:List Coin} (h:Leafy X):∀ k,∀ x∈lists X k,1≤x.2.length
 | 0,x,hx=>by obtain⟨i,e⟩:=h x hx; rw [e]; simp
 | k+1,x,hx=>by
  rcases merge_mem X (pairs (lists X k)) x hx with hx | hx
  ·obtain⟨i,e⟩:=h x hx; rw [e]; simp
  ·obtain⟨a,b,ha,hb,rfl⟩:=pairs_mem _ _ hx
   have:=lists_parts h k a ha
   show 1≤(a.2 ++ b.2).length
   rw[List.length_append]
   omega
theorem pair_parts {X:List Coin} (h:Leafy X) (k:Nat):∀ x∈pairs (lists X k),2≤x.2.length:=by
 intro x hx
 obtain⟨a,b,ha,hb,rfl⟩:=pairs_mem _ _ hx
 have h1:=lists_parts h k a ha
 have h2:=lists_parts h k b hb
 show 2≤(a.2 ++ b.2).length
 rw[List.length_append]
 omega
theorem level_step {X:List Coin} (h:Leafy X) (k t:Nat) (ht:t≤(lists X (k+1)).length):∃ b:Nat,sm isP ((lists X (k+1)).take t)=(b:Int)∧2 * b≤(lists X k).length∧∀ q,sm (ct q) ((lists X (k+1)).take t)=sm (lf q) ((lists X (k+1)).take t)+sm (ct q) ((lists X k).take (2 * b)):=by
 have hlen:(lists X (k+1)).length=X.length+(pairs (lists X k)).length:=merge_length X (pairs (lists X k))
 obtain⟨a,b,hab,ha,hb,hs,_⟩:=merge_split X (pairs (lists X k)) t (by omega)
 have hp:(pairs (lists X k)).length=(lists X k).length / 2:=pairs_length _
 have e1:sm isP (X.take a)=0:=by
  rw[sm_congr (ψ:=fun _=>0) (fun x hx=>?_),sm_nil]
  obtain⟨i,e⟩:=h x (mem_take hx)
  exact (ct_leaf e 0).2
 have e2:sm isP ((pairs (lists X k)).take b)=(b:Int):=by
  rw[sm_congr (ψ:=fun _=>1) (fun x hx=>(lf_pair (pair_parts h k x (mem_take hx)) 0).2),sm_ones,List.length_take]
  omega
 refine⟨b,?_,by omega,fun q=>?_⟩
 ·have:=hs isP
  show sm isP ((merge X (pairs (lists X k))).take t)=_
  omega
 ·have h1:=hs (ct q)
  have h2:=hs (lf q)
  have e3:sm (lf q) (X.take a)=sm (ct q) (X.take a):=sm_congr (fun x hx=>by
   obtain⟨i,e⟩:=h x (mem_take hx)
   exact (ct_leaf e q).1.symm)
  have e4:sm (lf q) ((pairs (lists X k)).take b)=0:=by
   rw[sm_congr (ψ:=fun _=>0) (fun x hx=>(lf_pair (pair_parts h k x (mem_take hx)) q).1),sm_nil]
  have e5:=pairs_sm (addi_ct q) (lists X k) b (by omega)
  show sm (ct q) ((merge X (pairs (lists X k))).take t)=sm (lf q) ((merge X (pairs (lists X k))).take t)+_
  omega
theorem level_zero {X:List Coin} (h:Leafy X) (t:Nat):sm isP (X.take t)=0∧∀ q,sm (ct q) (X.take t)=sm (lf q) (X.take t):=by
 constructor
 ·rw[sm_congr (ψ:=fun _=>0) (fun x hx=>?_),sm_nil]
  obtain⟨i,e⟩:=h x (mem_take hx)
  exact (ct_leaf e 0).2
 ·intro q
  refine sm_congr (fun x hx=>?_)
  obtain⟨i,e⟩:=h x (mem_take hx)
  exact (ct_leaf e q).1
theorem first_leafy {c:Nat→Int} {n:Nat}:Leafy (firstL c n):=fun x hx=>by
 obtain⟨i,_,_,e⟩:=first_mem n x hx
 exact⟨i,by rw [e]⟩
theorem sm_succ (φ:Coin→Int) (l:List Coin) (j:Nat) (hj:j < l.length):sm φ (l.take (j+1))=sm φ (l.take j)+φ (l.getD j (0,[])):=by
 rw[sm_take φ l (j+1) (by omega),sm_take φ l j (by omega)]
 rfl
theorem lists_sy {X:List Coin} {n:Nat} (h:Leafy X) (hs:∀ x∈X,∀ s∈x.2,s < n) (k:Nat):∀ x∈lists X k,sy x=-1∨(0≤sy x∧sy x < (n:Int)):=by
 intro x hx
 by_cases e:2≤x.2.length
 ·exact .inl (sy_more e)
 ·have h1:=lists_parts h k x hx
  have h2:=lists_syms hs k x hx
  obtain⟨i,hi⟩:∃ i,x.2=[i]:=by
   match hx2:x.2 with
   | []=>rw [hx2] at h1; simp at h1
   | [i]=>exact⟨i,rfl⟩
   | i :: j :: l=>rw [hx2] at e; simp at e
  right
  have:=h2 i (by rw [hi]; simp)
  unfold sy
  rw[hi]
  show (0:Int)≤(i:Int)∧(i:Int) < (n:Int)
  omega
end Go.Proofs.YtklpiihnbokkkaaGreatDoor

namespace Go.Proofs.YtklpiihnbokkkaaGreatDoor
open Go.RowKit Go.Joins Go.Sort PackageMath
theorem info_coin:(Tryz.prog.info? 274).map (fun i=>(i.zero,i.size,i.bytes))=some (some (.agg #[.int .i64 0,.int .i64 0]),2,16):=by kernel_rfl
def ccells:List Coin→List Value
 | []=>[]
 | c :: l=>.int .i64 c.1 :: .int .i64 (sy c) :: ccells l
theorem ccells_length:∀ l:List Coin,(ccells l).length=l.length * 2
 | []=>rfl
 | c :: l=>by
  show (ccells l).length+1+1=(l.length+1) * 2
  rw[ccells_length l]
  omega
theorem ccells_app:∀ xs ys:List Coin,ccells (xs ++ ys)=ccells xs ++ ccells ys
 | [],ys=>rfl
 | c :: l,ys=>by
  show Value.int .i64 c.1 :: .int .i64 (sy c) :: ccells (l ++ ys)=Value.int .i64 c.1 :: .int .i64 (sy c) :: (ccells l ++ ccells ys)
  rw[ccells_app l ys]
theorem ccells_get0:∀ (l:List Coin) (i:Nat),i < l.length→(ccells l)[i * 2]?=some (.int .i64 (l.getD i (0,[])).1)
 | [],i,h=>by simp at h
 | c :: l,0,_=>rfl
 | c :: l,i+1,h=>by
  rw[show (i+1) * 2=i * 2+1+1 by omega]
  show (ccells l)[i * 2]?=some (.int .i64 (l.getD i (0,[])).1)
  exact ccells_get0 l i (by simpa using h)
theorem ccells_get1:∀ (l:List Coin) (i:Nat),i < l.length→(ccells l)[i * 2+1]?=some (.int .i64 (sy (l.getD i (0,[]))))
 | [],i,h=>by simp at h
 | c :: l,0,_=>rfl
 | c :: l,i+1,h=>by
  rw[show (i+1) * 2+1=i * 2+1+1+1 by omega]
  show (ccells l)[i * 2+1]?=some (.int .i64 (sy (l.getD i (0,[]))))
  exact ccells_get1 l i (by simpa using h)
theorem ccells_one:∀ (l:List Coin),∀ u∈ccells l,u.oneCell'=true
 | [],u,h=>by cases h
 | c :: l,u,h=>by
  rcases List.mem_cons.mp h with rfl | h
  ·rfl
  ·rcases List.mem_cons.mp h with rfl | h
   ·rfl
   ·exact ccells_one l u h
def CL (w:World) (B:Nat) (a:Option Addr) (L:List Coin):Prop:=
 L=[]∨∃ g off,a=some ⟨g,off,none⟩∧g < B∧g < w.heap.size∧∀ j u,(ccells L)[j]?=some u→w.cell? ⟨g,off+j,none⟩=some u
def Lst (w:World) (B:Nat) (a:Option Addr) (c:Nat) (L:List Coin):Prop:=L.length≤c∧(a=none→c=0)∧CL w B a L
section
variable {w w':World} {B:Nat} {a:Option Addr} {c:Nat} {L:List Coin} {x:Coin}
theorem CL.kept (h:CL w B a L) (hb:Below B w w'):CL w' B a L:=by
 rcases h with h | ⟨g,off,ha,h1,h2,h3⟩
 ·exact .inl h
 ·exact .inr ⟨g,off,ha,h1,Nat.lt_of_lt_of_le h2 hb.size,fun j u hu=>(hb.cell (p:=⟨g,off+j,none⟩) h1).trans (h3 j u hu)⟩
theorem Lst.kept (h:Lst w B a c L) (hb:Below B w w'):Lst w' B a c L:=⟨h.1,h.2.1,h.2.2.kept hb⟩
theorem CL.mono {B':Nat} (h:CL w B a L) (hB:B≤B'):CL w B' a L:=by
 rcases h with h | ⟨g,off,ha,h1,h2,h3⟩
 ·exact .inl h
 ·exact .inr ⟨g,off,ha,by omega,h2,h3⟩
theorem Lst.mono {B':Nat} (h:Lst w B a c L) (hB:B≤B'):Lst w B' a c L:=⟨h.1,h.2.1,h.2.2.mono hB⟩
theorem Lst.cons (h:Lst w B a c (x :: L)):∃ g off d,a=some ⟨g,off,none⟩∧c=d+1∧L.length≤d∧g < B∧g < w.heap.size∧w.cell? ⟨g,off,none⟩=some (.int .i64 x.1)∧w.cell? ⟨g,off+1,none⟩=some (.int .i64 (sy x))∧Lst w B (some ⟨g,off+2,none⟩) d L:=by
 obtain⟨h1,h2,h3⟩:=h
 rw[List.length_cons] at h1
 rcases h3 with h3 | ⟨g,off,ha,q1,q2,q3⟩
 ·cases h3
 ·refine⟨g,off,c - 1,ha,by omega,by omega,q1,q2,q3 0 _ rfl,q3 1 _ rfl,by omega,(fun e=>by cases e),.inr ⟨g,off+2,rfl,q1,q2,fun j u hu=>?_⟩⟩
  have:=q3 (j+2) u hu
  rw[show off+2+j=off+(j+2) by omega]
  exact this
theorem Lst.cell (h:Lst w B a c L) (hp:0 < L.length):∃ g off,a=some ⟨g,off,none⟩∧g < B∧g < w.heap.size∧∀ i,i < L.length→w.cell? ⟨g,off+i * 2,none⟩=some (.int .i64 (L.getD i (0,[])).1)∧w.cell? ⟨g,off+(i * 2+1),none⟩=some (.int .i64 (sy (L.getD i (0,[])))):=by
 rcases h.2.2 with h3 | ⟨g,off,ha,q1,q2,q3⟩
 ·rw[h3] at hp; simp at hp
 ·exact⟨g,off,ha,q1,q2,fun i hi=>⟨q3 _ _ (ccells_get0 L i hi),q3 _ _ (ccells_get1 L i hi)⟩⟩
theorem Lst.news (h:Lst w B a c L):∀ ad,a=some ad→∀ j u,(ccells L)[j]?=some u→w.cell? (ad.add j)=some u:=by
 intro ad e j u hu
 rcases h.2.2 with h3 | ⟨g,off,ha,q1,q2,q3⟩
 ·rw[h3] at hu; cases hu
 ·rw[ha] at e
  cases e
  rw[Addr.add_lit]
  exact q3 j u hu
theorem lst_of_own {S n:Nat} {v:Value} (h:w.ownsRow S 274 2 v n (ccells L)) (hn:n=L.length):∃ a c,v=.slice a L.length c∧Lst w w.heap.size a c L∧c≤maxLen:=by
 subst hn
 rcases h.2 with ⟨rfl,h0⟩ | ⟨g,cap,cur,rfl,hb,hg,hc,hm,hs,ht⟩
 ·exact⟨none,0,by rw [h0],⟨by omega,fun _=>rfl,.inl (List.eq_nil_of_length_eq_zero h0)⟩,Nat.zero_le _⟩
 ·refine⟨_,cap,rfl,⟨hc,(fun e=>by cases e),.inr ⟨g,0,rfl,block_lt hg,block_lt hg,fun j u hu=>?_⟩⟩,hm⟩
  have hj:j < L.length * 2:=by
   rcases Nat.lt_or_ge j (L.length * 2) with k | k
   ·exact k
   ·rw[List.getElem?_eq_none (by rw [ccells_length]; exact k)] at hu; cases hu
  rw[Nat.zero_add,h.cellAt j hj]
  exact hu
end
theorem coins_append {w:World} {S:Nat} {v:Value} {xs ys:List Coin} {ops:Array Oper} {rest:List Oper} {o:Oper} {a:Act} {Q:Exit→Act→World→Prop} (hgd:o.guard=none) (s x:Operand)
  (ho:o.op=.call { callee:=.builtin .append,args:=#[s,x],argTypes:=#[270,270] }) (hs:a.eval s=v) (h:w.ownsRow S 274 2 v xs.length (ccells xs)) (ao:Option Addr) (m c:Nat) (hx:a.eval x=.slice ao m c) (hm:ys.length=m)
  (hc:∀ ad,ao=some ad→∀ j u,(ccells ys)[j]?=some u→w.cell? (ad.add j)=some u) (hn:ao=none→m=0∧c=0)
  (h63:xs.length+ys.length≤100000) (hS:S≤w.heap.size)
  (hK:∀ v' w',w'.ownsRow S 274 2 v' (xs ++ ys).length (ccells (xs ++ ys))→w.grownBy w' v.ownBlock→wpList Tryz.prog ops Q rest (a.put o.dst v') w'):wpList Tryz.prog ops Q (o :: rest) a w:=by
 obtain⟨i0,hi0,hz0,hz1,hz2⟩:=info_parts info_coin
 cases ao with
 | none=>
  obtain⟨rfl,rfl⟩:=hn rfl
  obtain rfl:ys=[]:=List.eq_nil_of_length_eq_zero hm
  refine wpList_append_own_none hgd s x _ ho S 274 i0 2 Tryz.underlying270 hi0 v _ _ hs h hx (hK v w (by simpa using h) ⟨rfl,rfl,rfl,Nat.le_refl _,fun _ _ _=>rfl⟩)
 | some ad=>
  refine wpList_append_own_at w hgd s x _ ho S 274 i0 _ 2 16 Tryz.underlying270 hi0 hz0 hz1 hz2 rfl (by omega) v _ _ hs h ad m c (ccells ys) hx (by rw [ccells_length,hm]) (hc ad rfl) (ccells_one ys) (by unfold maxLen; omega) (by omega) hS ?_
  intro v' w' hown hg _ _
  refine hK v' w' ?_ hg
  rw[List.length_append,ccells_app,hm]
  exact hown
end Go.Proofs.YtklpiihnbokkkaaGreatDoor

namespace Go.Proofs.YtklpiihnbokkkaaGreatDoor
open Go.RowKit Go.Joins Go.Sort SortMath
structure CW (w0:World) (g n:Nat) (f:Nat→Int) (W:World):Prop where
 os:W.os=w0.os
 tape:W.tape=w0.tape
 output:W.output=w0.output
 size:w0.heap.size≤W.heap.size
 other:∀ k,k < w0.heap.size→k≠g→W.heap[k]?=w0.heap[k]?
 lt:g < w0.heap.size
 row:∃ cur0 cur T,w0.heap[g]?=some (.cells cur0 T (0,0))∧W.heap[g]?=some (.cells cur T (0,0))∧cur.size=cur0.size∧n * 2≤cur.size∧(∀ i,i < n→cur[i * 2]?=some (.int .i64 (f i / 1024))∧cur[i * 2+1]?=some (.int .i64 (f i % 1024)))
section
variable {w0 W W':World} {g n:Nat} {f:Nat→Int}
theorem CW.gl (h:CW w0 g n f W):g < W.heap.size:=Nat.lt_of_lt_of_le h.lt h.size
theorem CW.cell0 (h:CW w0 g n f W) (i:Nat) (hi:i < n):W.cell? ⟨g,i * 2,none⟩=some (.int .i64 (f i / 1024)):=by
 obtain⟨c0,c,T,h1,h2,h3,h4,h5⟩:=h.row
 rw[cell_of_block h2]
 exact (h5 i hi).1
theorem CW.cell1 (h:CW w0 g n f W) (i:Nat) (hi:i < n):W.cell? ⟨g,i * 2+1,none⟩=some (.int .i64 (f i % 1024)):=by
 obtain⟨c0,c,T,h1,h2,h3,h4,h5⟩:=h.row
 rw[cell_of_block h2]
 exact (h5 i hi).2
theorem CW.free (h:CW w0 g n f W) (k:Nat):W.frozen? ⟨g,k,none⟩=false:=by
 obtain⟨c0,c,T,h1,h2,h3,h4,h5⟩:=h.row
 simp[World.frozen?,h2]
theorem CW.grown (h:CW w0 g n f W) (q:Nat) (os:Array Obj):CW w0 g n f (grow (W.drewN q) os):=by
 have hk:∀ k,k < W.heap.size→(grow (W.drewN q) os).heap[k]?=W.heap[k]?:=fun k hk=>heap_grow_old (W.drewN q) os hk
 refine⟨h.os,h.tape,h.output,?_,fun k h1 h2=>?_,h.lt,?_⟩
 ·rw[size_grow]
  have:=h.size
  show w0.heap.size≤W.heap.size+os.size
  omega
 ·rw[hk k (Nat.lt_of_lt_of_le h1 h.size)]
  exact h.other k h1 h2
 ·obtain⟨c0,c,T,h1,h2,h3⟩:=h.row
  exact⟨c0,c,T,h1,(hk g h.gl).trans h2,h3⟩
theorem CW.drewN (h:CW w0 g n f W) (q:Nat):CW w0 g n f (W.drewN q):=⟨h.os,h.tape,h.output,h.size,h.other,h.lt,h.row⟩
theorem CW.drew (h:CW w0 g n f W):CW w0 g n f W.drew:=h.drewN 1
theorem CW.congr {f':Nat→Int} (h:CW w0 g n f W) (e:∀ i,f i=f' i):CW w0 g n f' W:=by
 obtain rfl:f=f':=funext e
 exact h
theorem CW.put (h:CW w0 g n f W) (i:Nat) (hi:i < n) (x:Int):CW w0 g n (upd f i x) ((W.setCell ⟨g,i * 2,none⟩ (.int .i64 (x / 1024))).setCell ⟨g,i * 2+1,none⟩ (.int .i64 (x % 1024))):=by
 refine⟨h.os,h.tape,h.output,by simpa using h.size,fun k h1 h2=>?_,h.lt,?_⟩
 ·rw[Below.heap_setCell _ _ _ _ h2,Below.heap_setCell _ _ _ _ h2]
  exact h.other k h1 h2
 ·obtain⟨c0,c,T,h1,h2,h3,h4,h5⟩:=h.row
  refine⟨c0,(c.setIfInBounds (i * 2) (.int .i64 (x / 1024))).setIfInBounds (i * 2+1) (.int .i64 (x % 1024)),T,h1,?_,by simpa using h3,by simpa using h4,fun j hj=>?_⟩
  ·simp[World.setCell,Array.getElem?_modify,h2]
  ·obtain⟨k1,k2⟩:=h5 j hj
   unfold upd
   by_cases e:j=i
   ·subst e
    rw[if_pos rfl]
    refine⟨?_,?_⟩
    ·rw[Array.getElem?_setIfInBounds_ne (by omega),Array.getElem?_setIfInBounds_self_of_lt (by omega)]
    ·rw[Array.getElem?_setIfInBounds_self_of_lt (by simp; omega)]
   ·rw[if_neg e]
    refine⟨?_,?_⟩
    ·rw[Array.getElem?_setIfInBounds_ne (by omega),Array.getElem?_setIfInBounds_ne (by omega)]; exact k1
    ·rw[Array.getElem?_setIfInBounds_ne (by omega),Array.getElem?_setIfInBounds_ne (by omega)]; exact k2
theorem sw_upd (f:Nat→Int) (i j:Nat) (x:Nat) (h:i≠j):upd (upd f i (f j)) j (f i) x=sw f i j x:=by
 unfold upd sw
 by_cases e:x=j
 ·rw[if_pos e,if_neg (by omega),if_pos e]
 ·rw[if_neg e,if_neg e]
theorem CW.swap (h:CW w0 g n f W) (i j:Nat) (hi:i < n) (hj:j < n) (hne:i≠j):
  CW w0 g n (sw f i j) ((((W.setCell ⟨g,i * 2,none⟩ (.int .i64 (f j / 1024))).setCell ⟨g,i * 2+1,none⟩ (.int .i64 (f j % 1024))).setCell ⟨g,j * 2,none⟩ (.int .i64 (f i / 1024))).setCell ⟨g,j * 2+1,none⟩ (.int .i64 (f i % 1024))):=
 ((h.put i hi (f j)).put j hj (f i)).congr (fun x=>sw_upd f i j x hne)
end
end Go.Proofs.YtklpiihnbokkkaaGreatDoor

namespace Go.Proofs.YtklpiihnbokkkaaGreatDoor
open Go.RowKit Go.Joins Go.Sort
def cmpI (x y:Int):Int:=if x < y then -1 else if y < x then 1 else 0
theorem isNaN_any (x:Int) (w:World):Calls Tryz.prog 227 #[.int .i64 x] w fun e w'=>e=.returned (.bool false)∧w'=w:=by
 go_enter Tryz.func227,Tryz.ntmps227
 go_wp2_with fail
 go_ret
 simp
theorem compare_any (x y:Int) (w:World):Calls Tryz.prog 221 #[.int .i64 x,.int .i64 y] w fun e w'=>e=.returned (.int .i64 (cmpI x y))∧w'=w:=by
 unfold cmpI
 by_cases h1:x < y
 ·rw[if_pos h1]
  go_enter Tryz.func221,Tryz.ntmps221
  go_wp2_with fail
  refine (isNaN_any _ _).mono ?_
  rintro e w1 ⟨rfl,rfl⟩
  go_wp2_with fail
  refine (isNaN_any _ _).mono ?_
  rintro e w1 ⟨rfl,rfl⟩
  go_wp2_with fail
  go_ret
  exact⟨rfl,rfl⟩
 ·rw[if_neg h1]
  by_cases h2:y < x
  ·rw[if_pos h2]
   go_enter Tryz.func221,Tryz.ntmps221
   go_wp2_with fail
   refine (isNaN_any _ _).mono ?_
   rintro e w1 ⟨rfl,rfl⟩
   go_wp2_with fail
   refine (isNaN_any _ _).mono ?_
   rintro e w1 ⟨rfl,rfl⟩
   go_wp2_with fail
   go_ret
   exact⟨rfl,rfl⟩
  ·rw[if_neg h2]
   go_enter Tryz.func221,Tryz.ntmps221
   go_wp2_with fail
   refine (isNaN_any _ _).mono ?_
   rintro e w1 ⟨rfl,rfl⟩
   go_wp2_with fail
   refine (isNaN_any _ _).mono ?_
   rintro e w1 ⟨rfl,rfl⟩
   go_wp2_with fail
   go_ret
   exact⟨rfl,rfl⟩
theorem byWeight_any (x y p q:Int) (W:World):Calls Tryz.prog 210 #[.agg #[.int .i64 x,.int .i64 p],.agg #[.int .i64 y,.int .i64 q]] W fun e w'=>e=.returned (.int .i64 (cmpI x y))∧∃ k os',w'=grow (W.drewN k) os':=by
 have hcon:=fun W'=>compare_any x y W'
 generalize cmpI x y=r at hcon ⊢
 go_enter Tryz.func210,Tryz.ntmps210
 go_wp2_with (go_at_call 221; refine (hcon _).mono ?_; rintro e w' ⟨rfl,rfl⟩)
 go_ret
 exact⟨rfl,0,_,by rw [alloc_eq_grow,alloc_eq_grow,grow_grow]; rfl⟩
theorem byWeight_in (x y p q:Int) (W:World) (n:Nat) (os:Array Obj):Calls Tryz.prog 210 #[.agg #[.int .i64 x,.int .i64 p],.agg #[.int .i64 y,.int .i64 q]] (grow (W.drewN n) os) fun e w'=>e=.returned (.int .i64 (cmpI x y))∧∃ k os',w'=grow ((grow (W.drewN n) os).drewN k) os':=byWeight_any x y p q _
end Go.Proofs.YtklpiihnbokkkaaGreatDoor
namespace Go.Proofs.YtklpiihnbokkkaaGreatDoor
open Go.RowKit Go.Joins Go.Sort SortMath
set_option maxHeartbeats 4000000 in
theorem swapRange_any (w0:World) (g n cap p q m:Nat) (f:Nat→Int) (u:Value) (w:World) (hS:CW w0 g n f w) (hp:p+m≤q) (hq:q+m≤n) (hn:n≤288):
  Calls Tryz.prog 229 #[.slice (some ⟨g,0,none⟩) n cap,.int .i64 p,.int .i64 q,.int .i64 m,u] w fun e w'=>e=.returned (.tuple #[])∧CW w0 g n (swr f p q m) w':=by
 have H0:=hid_of (hS.congr (fun i=>(swr_zero f p q i).symm))
 clear hS
 go_enter Tryz.func229,Tryz.ntmps229
 go_wp2_with fail
 go_loopw [10] (fun i w'=>∃ j:Nat,j≤m∧i=.int .i64 j∧Hid (CW w0 g n (swr f p q j) w')) (fun i _=>m - (intOf i).toNat)
 case atStart=>exact⟨0,Nat.zero_le _,rfl,H0⟩
 case round=>
  clear H0
  obtain⟨j,hj,rfl,hS⟩:=hrel
  by_cases hlt:j < m
  ·have HS1:=hid_of ((hS.out.swap (p+j) (q+j) (by omega) (by omega) (by omega)).congr (fun i=>swr_step f p q j i (by omega))).drew
   have c0:=hS.out.cell0 (p+j) (by omega)
   have c1:=hS.out.cell1 (p+j) (by omega)
   have c2:=hS.out.cell0 (q+j) (by omega)
   have c3:=hS.out.cell1 (q+j) (by omega)
   have fz:=hS.out.free
   have gl:=hS.out.gl
   generalize swr f p q j (p+j) / 1024=x0 at c0 HS1
   generalize swr f p q j (p+j) % 1024=x1 at c1 HS1
   generalize swr f p q j (q+j) / 1024=y0 at c2 HS1
   generalize swr f p q j (q+j) % 1024=y1 at c3 HS1
   go_wp2_with fail
   go_region
   all_goals
    go_wp2_with fail
    go_roundw
    case rel=>exact⟨j+1,by omega,by go_num,HS1⟩
    case measure=>simp [intOf]; omega
  ·obtain rfl:j=m:=by omega
   go_wp2_with fail
   go_end0
   exact⟨rfl,hS.out⟩
theorem swapRange_z (w0:World) (g n cap p q m:Nat) (zp zq zm:Int) (f:Nat→Int) (u:Value) (w:World) (hS:CW w0 g n f w) (ep:zp=(p:Int)) (eq:zq=(q:Int)) (em:zm=(m:Int)) (hp:p+m≤q) (hq:q+m≤n) (hn:n≤288):
  Calls Tryz.prog 229 #[.slice (some ⟨g,0,none⟩) n cap,.int .i64 zp,.int .i64 zq,.int .i64 zm,u] w fun e w'=>e=.returned (.tuple #[])∧CW w0 g n (swr f p q m) w':=by
 subst ep eq em
 exact swapRange_any w0 g n cap p q m f u w hS hp hq hn
end Go.Proofs.YtklpiihnbokkkaaGreatDoor
namespace Go.Proofs.YtklpiihnbokkkaaGreatDoor
open Go.RowKit Go.Joins Go.Sort SortMath
def RotSt (w0:World) (g n:Nat) (f:Nat→Int) (a m b i j:Nat) (w:World):Prop:=∃ cur:Nat→Int,CW w0 g n cur w∧∀ x,rot cur (m - i) m (m+j) x=rot f a m b x
set_option maxHeartbeats 4000000 in
theorem rotate_any (w0:World) (g n cap a m b:Nat) (f:Nat→Int) (u:Value) (w:World) (hS:CW w0 g n f w) (ha:a < m) (hm:m < b) (hb:b≤n) (hn:n≤288):
  Calls Tryz.prog 228 #[.slice (some ⟨g,0,none⟩) n cap,.int .i64 a,.int .i64 m,.int .i64 b,u] w fun e w'=>e=.returned (.tuple #[])∧CW w0 g n (rot f a m b) w':=by
 have H0:Hid (RotSt w0 g n f a m b (m - a) (b - m) w):=⟨f,hS,fun x=>by rw [show m - (m - a)=a by omega,show m+(b - m)=b by omega]⟩
 clear hS
 go_enter Tryz.func228,Tryz.ntmps228
 go_wp2_with fail
 go_loopg [10,11] (n+n) (fun gk zi zj w'=>∃ i j:Nat,zi=.int .i64 i∧zj=.int .i64 j∧1≤i∧i≤m∧1≤j∧m+j≤n∧i+j≤gk∧Hid (RotSt w0 g n f a m b i j w'))
 case atStart=>exact⟨m - a,b - m,by first | rfl | (congr 1; omega),by first | rfl | (congr 1; omega),by omega,by omega,by omega,by omega,by omega,H0⟩
 case round=>
  clear H0
  obtain⟨i,j,rfl,rfl,h1,h2,h3,h4,h5,hS⟩:=hrel
  obtain⟨cur,hC,hR⟩:=hS.out
  have HC:=hid_of hC
  have HR:=hid_of hR
  clear hC hR hS
  by_cases he:i=j
  ·subst he
   have de:((i:Int) != (i:Int))=false:=by simp
   go_wp2_with fail
   refine (swapRange_z w0 g n cap (m - i) m i _ _ _ cur u _ HC.out (by omega) rfl rfl (by omega) (by omega) hn).mono ?_
   rintro e w1 ⟨rfl,hC1⟩
   go_wp2_with fail
   go_end0
   exact⟨rfl,hC1.congr (fun x=>by rw [rot_last cur m i x h2]; exact HR.out x)⟩
  ·have de:((i:Int) != (j:Int))=true:=by simp; omega
   by_cases hlt:j < i
   ·have dl:decide ((j:Int) < (i:Int))=true:=by simp; omega
    go_wp2_with fail
    refine (swapRange_z w0 g n cap (m - i) m j _ _ _ cur u _ HC.out (by omega) rfl rfl (by omega) (by omega) hn).mono ?_
    rintro e w1 ⟨rfl,hC1⟩
    have HS1:Hid (RotSt w0 g n f a m b (i - j) j w1):=⟨_,hC1,fun x=>by rw [rot_left cur m i j x h2 hlt]; exact HR.out x⟩
    clear hC1
    go_wp2_with fail
    go_roundg (i - j+j)
    case rel=>exact⟨i - j,j,by first | rfl | (congr 1; omega),rfl,by omega,by omega,h3,h4,Nat.le_refl _,HS1⟩
    case measure=>omega
   ·have dl:decide ((j:Int) < (i:Int))=false:=by simp; omega
    go_wp2_with fail
    refine (swapRange_z w0 g n cap (m - i) (m+j - i) i _ _ _ cur u _ HC.out (by omega) (by omega) rfl (by omega) (by omega) hn).mono ?_
    rintro e w1 ⟨rfl,hC1⟩
    have HS1:Hid (RotSt w0 g n f a m b i (j - i) w1):=⟨_,hC1,fun x=>by rw [rot_right cur m i j x h2 (by omega)]; exact HR.out x⟩
    clear hC1
    go_wp2_with fail
    go_roundg (i+(j - i))
    case rel=>exact⟨i,j - i,rfl,by first | rfl | (congr 1; omega),h1,h2,by omega,by omega,Nat.le_refl _,HS1⟩
    case measure=>omega
theorem rotate_z (w0:World) (g n cap a m b:Nat) (za zm zb:Int) (f:Nat→Int) (u:Value) (w:World) (hS:CW w0 g n f w) (ea:za=(a:Int)) (em:zm=(m:Int)) (eb:zb=(b:Int)) (ha:a < m) (hm:m < b) (hb:b≤n) (hn:n≤288):
  Calls Tryz.prog 228 #[.slice (some ⟨g,0,none⟩) n cap,.int .i64 za,.int .i64 zm,.int .i64 zb,u] w fun e w'=>e=.returned (.tuple #[])∧CW w0 g n (rot f a m b) w':=by
 subst ea em eb
 exact rotate_any w0 g n cap a m b f u w hS ha hm hb hn
end Go.Proofs.YtklpiihnbokkkaaGreatDoor
namespace Go.Proofs.YtklpiihnbokkkaaGreatDoor
open Go.RowKit Go.Joins Go.Sort SortMath
def InsO (w0:World) (g n:Nat) (f:Nat→Int) (a i:Nat) (w:World):Prop:=∃ cur:Nat→Int,CW w0 g n cur w∧Up cur a i∧Of f cur a i
def InsI (w0:World) (g n:Nat) (f:Nat→Int) (a b j i:Nat) (w:World):Prop:=∃ h cur:Nat→Int,CW w0 g n cur w∧Ins h cur a j i∧Of f h a i∧Stb h a b
theorem stb_of {f h:Nat→Int} {a i b:Nat} (hs:Stb f a b) (hu:Up h a i) (ho:Of f h a i):Stb h a b:=by
 intro x y h1 h2 h3
 by_cases qy:y < i
 ·exact .inl (hu x y h1 h2 qy)
 ·rw[ho.2 y (by omega)]
  by_cases qx:x < i
  ·obtain⟨k,p1,p2,e⟩:=ho.1 x h1 qx
   rw[e]
   exact hs k y p1 (by omega) h3
  ·rw[ho.2 x (by omega)]
   exact hs x y h1 h2 h3
set_option maxHeartbeats 8000000 in
theorem insertion_any (w0:World) (g n cap a b:Nat) (f:Nat→Int) (w:World) (hS:CW w0 g n f w) (hab:a≤b) (hb:b≤n) (hn:n≤288) (hst:Stb f a b):
  Calls Tryz.prog 225 #[.slice (some ⟨g,0,none⟩) n cap,.int .i64 a,.int .i64 b,.func (.func 210) #[] #[]] w fun e w'=>e=.returned (.tuple #[])∧∃ f',CW w0 g n f' w'∧Up f' a b∧Of f f' a b:=by
 have mixed:Tryz.prog.follows .mixedOrders=true:=by kernel_rfl
 have H0:Hid (InsO w0 g n f a (a+1) w):=⟨f,hS,fun i j h1 h2 h3=>by omega,Of.refl _ _ _⟩
 have H00:=hid_of hS
 have HST:=hid_of hst
 clear hS hst
 go_enter Tryz.func225,Tryz.ntmps225
 go_wp2_with fail
 go_loopg [8] (n+1) (fun gk zi w'=>∃ i:Nat,zi=.int .i64 i∧a+1≤i∧(i≤b∨i=a+1)∧n+2 - i≤gk∧Hid (InsO w0 g n f a i w'))
 case atStart=>exact⟨a+1,by first | rfl | go_num | (congr 1; omega),by omega,.inr rfl,by omega,H0⟩
 case round=>
  clear H0
  obtain⟨i,rfl,h1,h2,h3,hS⟩:=hrel
  obtain⟨cur,hC,hU,hO⟩:=hS.out
  by_cases hlt:i < b
  ·have HI0:Hid (InsI w0 g n f a b i i wr):=⟨cur,cur,hC,ins_start (by omega) hU,hO,stb_of HST.out hU hO⟩
   clear hC hU hO hS
   go_wp2_with fail
   go_loopg [9] (n+1) (fun gk zj w'=>∃ j:Nat,zj=.int .i64 j∧a≤j∧j≤i∧j≤gk∧Hid (InsI w0 g n f a b j i w'))
   case atStart=>exact⟨i,rfl,by omega,by omega,by omega,HI0⟩
   case round=>
    clear HI0
    obtain⟨j,rfl,q1,q2,q3,hI⟩:=hrel
    obtain⟨h,cur,hC,hJ,hO,hT⟩:=hI.out
    have HC:=hid_of hC
    have HJ:=hid_of hJ
    have HO:=hid_of hO
    have HT:=hid_of hT
    clear hC hJ hO hT hI
    by_cases hja:a < j
    ·obtain⟨k,rfl⟩:∃ k,j=k+1:=⟨j - 1,by omega⟩
     have dj:decide ((a:Int) < (k:Int)+1)=true:=decide_eq_true (by omega)
     have dj2:(a:Int) < (k:Int)+1:=by omega
     have kw:IntKind.i64.wrap (k:Int)=(k:Int):=by rw [IntKind.wrap_i64]; omega
     have k1:(k:Int)+1 < (n:Int):=by omega
     have k2:(k:Int) < (n:Int):=by omega
     have k3:(0:Int)≤(k:Int)+1:=by omega
     have k4:((k:Int)+1).toNat=k+1:=by omega
     have wt:=ins_wt HJ.out (by omega) hlt HT.out
     have c0:=fun n' os=>(HC.out.grown n' os).cell0 (k+1) (by omega)
     have c1:=fun n' os=>(HC.out.grown n' os).cell1 (k+1) (by omega)
     have c2:=fun n' os=>(HC.out.grown n' os).cell0 k (by omega)
     have c3:=fun n' os=>(HC.out.grown n' os).cell1 k (by omega)
     obtain⟨x0,hx0⟩:∃ x,x=cur (k+1) / 1024:=⟨_,rfl⟩
     obtain⟨x1,hx1⟩:∃ x,x=cur (k+1) % 1024:=⟨_,rfl⟩
     obtain⟨y0,hy0⟩:∃ x,x=cur k / 1024:=⟨_,rfl⟩
     obtain⟨y1,hy1⟩:∃ x,x=cur k % 1024:=⟨_,rfl⟩
     rw[← hx0,← hy0] at wt
     rw[← hx0] at c0
     rw[← hx1] at c1
     rw[← hy0] at c2
     rw[← hy1] at c3
     have HX:=hid_of (And.intro (And.intro hx0 hx1) (And.intro hy0 hy1))
     have WT:=hid_of wt
     clear hx0 hx1 hy0 hy1 wt
     have hcb:=fun n' os=>byWeight_in x0 y0 x1 y1 wr n' os
     by_cases hv:x0 < y0
     ·have hr:cmpI x0 y0=-1:=by unfold cmpI; rw [if_pos hv]
      rw[hr] at hcb
      clear hr
      go_wp2_with fail
      go_quiet_grown (refine Calls.grown_of (hcb _ _))
      have HC2:=hid_of (HC.out.grown nq osq)
      clear c0 c1 c2 c3 hcb
      generalize grow (wr.drewN nq) osq=w2 at HC2
      have HS1:=hid_of ((HC2.out.swap (k+1) k (by omega) (by omega) (by omega))).drew
      have c0:=HC2.out.cell0 (k+1) (by omega)
      have c1:=HC2.out.cell1 (k+1) (by omega)
      have c2:=HC2.out.cell0 k (by omega)
      have c3:=HC2.out.cell1 k (by omega)
      rw[← HX.out.1.1] at c0 HS1
      rw[← HX.out.1.2] at c1 HS1
      rw[← HX.out.2.1] at c2 HS1
      rw[← HX.out.2.2] at c3 HS1
      have fz:=HC2.out.free
      have gl:=HC2.out.gl
      have HI1:Hid (Ins h (sw cur (k+1) k) a k i):=ins_step HJ.out (by omega) (WT.out.1 hv)
      have HN:Hid (InsI w0 g n f a b k i ((((w2.setCell ⟨g,(k+1) * 2,none⟩ (.int .i64 y0)).setCell ⟨g,(k+1) * 2+1,none⟩ (.int .i64 y1)).setCell ⟨g,k * 2,none⟩ (.int .i64 x0)).setCell ⟨g,k * 2+1,none⟩ (.int .i64 x1)).drew):=⟨h,_,HS1.out,HI1.out,HO.out,HT.out⟩
      clear HS1 HI1
      go_wp2_with fail
      go_region
      all_goals
       go_wp2_with fail
       go_roundg k
       case measure=>omega
       case rel=>exact⟨k,by first | rfl | go_num | (congr 1; omega),by omega,by omega,by omega,HN⟩
     ·have hr:decide (cmpI x0 y0 < 0)=false:=by
       unfold cmpI
       rw[if_neg hv]
       by_cases h':y0 < x0
       ·rw[if_pos h']; rfl
       ·rw[if_neg h']; rfl
      have HE:=hid_of (ins_end HJ.out (.inr (by rw [Nat.add_sub_cancel]; exact WT.out.2 (by omega))))
      have hr2:¬ cmpI x0 y0 < 0:=by simpa using hr
      generalize cmpI x0 y0=r at hcb hr hr2
      go_wp2_with fail
      go_quiet_grown (refine Calls.grown_of (hcb _ _))
      have HN:Hid (InsO w0 g n f a (i+1) (grow (wr.drewN nq) osq)):=⟨cur,HC.out.grown nq osq,HE.out.1,(HO.out.wide (Nat.le_refl _) (Nat.le_succ _)).trans HE.out.2⟩
      clear c0 c1 c2 c3 hcb HE
      generalize grow (wr.drewN nq) osq=w2 at HN
      go_wp2_with fail
      go_roundg (n+2 - (i+1))
      case measure=>omega
      case rel=>exact⟨i+1,by first | rfl | go_num | (congr 1; omega),by omega,.inl (by omega),Nat.le_refl _,HN⟩
    ·have dj:decide ((a:Int) < (j:Int))=false:=decide_eq_false (by omega)
     have dj2:¬ (a:Int) < (j:Int):=by omega
     have HE:=hid_of (ins_end HJ.out (.inl (by omega)))
     have HN:Hid (InsO w0 g n f a (i+1) wr.drew):=⟨cur,HC.out.drew,HE.out.1,(HO.out.wide (Nat.le_refl _) (Nat.le_succ _)).trans HE.out.2⟩
     clear HE
     go_wp2_with fail
     go_region
     all_goals
      go_wp2_with fail
      go_roundg (n+2 - (i+1))
      case measure=>omega
      case rel=>exact⟨i+1,by first | rfl | go_num | (congr 1; omega),by omega,.inl (by omega),Nat.le_refl _,HN⟩
  ·have HE:Hid (∃ f',CW w0 g n f' wr∧Up f' a b∧Of f f' a b):=by
    rcases h2 with h2 | h2
    ·obtain rfl:i=b:=by omega
     exact⟨cur,hC,hU,hO⟩
    ·refine⟨f,hC.congr (fun x=>?_),fun x y p1 p2 p3=>by omega,Of.refl _ _ _⟩
     by_cases hx:a≤x∧x < i
     ·obtain⟨y,p1,p2,e⟩:=hO.1 x hx.1 hx.2
      rw[e,show y=x by omega]
     ·exact hO.2 x hx
   clear hC hU hO
   go_wp2_with fail
   go_end0
   exact⟨rfl,HE.out⟩
end Go.Proofs.YtklpiihnbokkkaaGreatDoor
