/-
  Texts of the proof, put together.
-/
import Derived.Test.YtklpiihnbokkkaaGreatDoorRows
import Derived.Lib.SmallJoins
import Derived.Deep.QuietTactic
import Derived.Deep.AppendLies
import Derived.Laws.AppendOwnNone
namespace Go.Proofs.YtklpiihnbokkkaaGreatDoor
open Go.RowKit Go.Joins
theorem of_laid:laidOutB Tryz.prog=true:=by kernel_rfl
theorem bcell {W w1:World} (hb:Below W.heap.size W w1):(∀ b o,b < W.heap.size→w1.cell? ⟨b,o,none⟩=W.cell? ⟨b,o,none⟩)∧(∀ b o,b < W.heap.size→w1.frozen? ⟨b,o,none⟩=W.frozen? ⟨b,o,none⟩):=
 ⟨fun b o h=>hb.cell (p:=⟨b,o,none⟩) h,fun b o h=>hb.frozen (p:=⟨b,o,none⟩) h⟩
theorem bnext {a b c:World} (h:Below a.heap.size a b) (k:Below b.heap.size b c):Below a.heap.size a c:=h.trans (k.mono h.size)
theorem bal {a b:World} (h:Below a.heap.size a b) (o:Obj):Below a.heap.size a (b.alloc o):=h.alloc h.size o
theorem bstart (a:World) (o:Obj):Below a.heap.size a (a.alloc o):=(Below.refl _ _).alloc (Nat.le_refl _) o
theorem bdraws {a b:World} (h:Below a.heap.size a b) (n:Nat):Below a.heap.size a (b.drewN n):=h.trans ⟨rfl,rfl,rfl,Nat.le_refl _,fun _ _=>rfl⟩
theorem hid_of {p:Prop} (h:p):Hid p:=h
theorem grow_cell {w:World} (o:Obj) {b:Nat} (h:b < w.heap.size) (i:Nat):(w.alloc o).cell? ⟨b,i,none⟩=w.cell? ⟨b,i,none⟩:=(bstart w o).cell (p:=⟨b,i,none⟩) h
theorem grow_lt {w:World} (o:Obj) {b:Nat} (h:b < w.heap.size):b < (w.alloc o).heap.size:=by simp; omega
theorem two_set {w:World} {b:Nat} {u0 u1:Value} {y:TypeId} (h:w.heap[b]?=some (.cells #[u0,u1] y (0,0))) (v0 v1:Value):((w.setCell ⟨b,0,none⟩ v0).setCell ⟨b,1,none⟩ v1).heap[b]?=some (.cells #[v0,v1] y (0,0)):=by
 have h0:=block_setCell (i:=0) h v0
 have h1:=block_setCell (i:=1) h0 v1
 simpa using h1
theorem two_below {B b:Nat} {w w':World} (h:Below B w w') (hb:B≤b) (v0 v1:Value):Below B w ((w'.setCell ⟨b,0,none⟩ v0).setCell ⟨b,1,none⟩ v1):=
 Below.setCell (p:=⟨b,1,none⟩) (Below.setCell (p:=⟨b,0,none⟩) h hb _) hb _
theorem block_lt {w:World} {b:Nat} {o:Obj} (h:w.heap[b]?=some o):b < w.heap.size:=by
 rcases Nat.lt_or_ge b w.heap.size with k | k
 ·exact k
 ·rw[Array.getElem?_eq_none k] at h; cases h
end Go.Proofs.YtklpiihnbokkkaaGreatDoor

namespace Go.Proofs.YtklpiihnbokkkaaGreatDoor
namespace AdlerMath
def byteAt (s:ByteArray) (i:Nat):Nat:=(s.data[i]?.getD 0).toNat
theorem byteAt_lt (s:ByteArray) (i:Nat):byteAt s i < 256:=UInt8.toNat_lt _
theorem byteAt_get (s:ByteArray) (i:Nat) (h:i < s.size):(s[i]'h).toNat=byteAt s i:=by
 unfold byteAt
 have h':i < s.data.size:=h
 rw[Array.getElem?_eq_getElem h']
 rfl
def adP (s:ByteArray) (p:Int):Nat→Int
 | 0=>p
 | k+1=>(adP s p k+(byteAt s k:Int)) % 65521
def adQ (s:ByteArray) (p q:Int):Nat→Int
 | 0=>q
 | k+1=>(adQ s p q k+adP s p (k+1)) % 65521
theorem adP_succ (s:ByteArray) (p:Int) (k:Nat):adP s p (k+1)=(adP s p k+(byteAt s k:Int)) % 65521:=rfl
theorem adQ_succ (s:ByteArray) (p q:Int) (k:Nat):adQ s p q (k+1)=(adQ s p q k+adP s p (k+1)) % 65521:=rfl
theorem adP_bd (s:ByteArray) (p:Int) (h0:0≤p) (h1:p < 65521):∀ k,0≤adP s p k∧adP s p k < 65521
 | 0=>⟨h0,h1⟩
 | k+1=>by rw [adP_succ]; omega
theorem adQ_bd (s:ByteArray) (p q:Int) (h0:0≤q) (h1:q < 65521):∀ k,0≤adQ s p q k∧adQ s p q k < 65521
 | 0=>⟨h0,h1⟩
 | k+1=>by rw [adQ_succ]; omega
def adler (x:Int) (s:ByteArray):Int:=adQ s (x % 65536 % 65521) (x / 65536 % 65521) s.size * 65536+adP s (x % 65536 % 65521) s.size
theorem and_low (x:Int) (h0:0≤x) (h1:x≤4294967295):bits .and .u32 x 65535=x % 65536:=by
 rw[u32_and x 65535 h0 (by omega) (by omega) (by omega)]
 show ((x.toNat &&& 65535:Nat):Int)=_
 rw[nat_mask16]
 omega
theorem or_word (p q:Int) (h0:0≤p) (h1:p < 65521) (h2:0≤q) (h3:q < 65521):bits .or .u32 (q * 65536) p=q * 65536+p:=by
 rw[u32_or _ _ (by omega) (by omega) h0 (by omega),nat_join 16 _ _ (by omega) (by omega)]
 omega
end AdlerMath
end Go.Proofs.YtklpiihnbokkkaaGreatDoor

namespace Go.Proofs.YtklpiihnbokkkaaGreatDoor
namespace BigTextMath
def q256:Nat→Int
 | 0=>1
 | n+1=>q256 n * 256
theorem q256_pos:∀ n,1≤q256 n
 | 0=>by simp [q256]
 | n+1=>by have:=q256_pos n; unfold q256; omega
def low (n:Int):Nat→List Int
 | 0=>[]
 | k+1=>(n / q256 k % 256) :: low n k
theorem low_length (n:Int):∀ k,(low n k).length=k
 | 0=>rfl
 | k+1=>by simp [low,low_length n k]
theorem strOfNums_cons (x:Int) (xs:List Int):strOfNums [x] ++ strOfNums xs=strOfNums (x :: xs):=by
 show ByteArray.mk (List.toArray _) ++ ByteArray.mk (List.toArray _)=_
 rw[ByteArray.mk_append_mk]
 rfl
theorem div_succ (n:Int) (k:Nat):n / q256 k / 256=n / q256 (k+1):=by
 rw[Int.ediv_ediv_of_nonneg (by have:=q256_pos k; omega)]
 rfl
theorem div_nonneg (n:Int) (h:0≤n) (k:Nat):0≤n / q256 k:=Int.ediv_nonneg h (by have:=q256_pos k; omega)
theorem div_le (n:Int) (h:0≤n) (k:Nat):n / q256 k≤n:=Int.ediv_le_self _ h
theorem low2 (n:Int) (h0:0≤n) (h:n < 65536):low n 2=[n / 256,n % 256]:=by simp [low,q256]; omega
theorem low4 (n:Int) (h0:0≤n) (h:n < 4294967296):low n 4=[n / 16777216,n / 65536 % 256,n / 256 % 256,n % 256]:=by simp [low,q256]; omega
end BigTextMath
end Go.Proofs.YtklpiihnbokkkaaGreatDoor

namespace Go.Proofs.YtklpiihnbokkkaaGreatDoor.TokMath
abbrev Tok:=Int×Int×Int
def TokRight (t:Tok):Prop:=if t.2.1=0 then (0≤t.1∧t.1≤255)∧t.2.2=0 else t.1=0∧(3≤t.2.1∧t.2.1≤258)∧(1≤t.2.2∧t.2.2≤32768)
instance (t:Tok):Decidable (TokRight t):=by unfold TokRight; exact inferInstance
def copyN (d:Nat):Nat→List Int→List Int
 | 0,O=>O
 | k+1,O=>copyN d k (O ++ [O.getD (O.length - d) 0])
theorem copy_length (d:Nat):∀ k O,(copyN d k O).length=O.length+k
 | 0,_=>rfl
 | k+1,O=>by
  show (copyN d k (O ++ [O.getD (O.length - d) 0])).length=_
  rw[copy_length d k,List.length_append,List.length_singleton]
  omega
theorem copy_snoc (d:Nat):∀ k O,copyN d (k+1) O=copyN d k O ++ [(copyN d k O).getD ((copyN d k O).length - d) 0]
 | 0,_=>rfl
 | k+1,O=>by
  have h:=copy_snoc d k (O ++ [O.getD (O.length - d) 0])
  exact h
theorem getD_shift (P O:List Int) (d:Nat) (_h0:0 < d) (h:d≤O.length):(P ++ O).getD ((P ++ O).length - d) 0=O.getD (O.length - d) 0:=by
 rw[List.getD_eq_getElem?_getD,List.getD_eq_getElem?_getD,List.length_append,List.getElem?_append_right (by omega)]
 congr 2
 omega
theorem copy_shift (P:List Int) (d:Nat) (h0:0 < d):∀ k O,d≤O.length→copyN d k (P ++ O)=P ++ copyN d k O
 | 0,_,_=>rfl
 | k+1,O,h=>by
  show copyN d k (P ++ O ++ [(P ++ O).getD ((P ++ O).length - d) 0])=P ++ copyN d k (O ++ [O.getD (O.length - d) 0])
  rw[getD_shift P O d h0 h,List.append_assoc,copy_shift P d h0 k _ (by rw [List.length_append]; omega)]
theorem copy_pre (d:Nat):∀ k O,∃ M,copyN d k O=O ++ M∧M.length=k
 | 0,O=>⟨[],by simp [copyN],rfl⟩
 | k+1,O=>by
  obtain⟨M,h,hl⟩:=copy_pre d k (O ++ [O.getD (O.length - d) 0])
  refine⟨[O.getD (O.length - d) 0] ++ M,?_,by rw [List.length_append,List.length_singleton,hl]; omega⟩
  show copyN d k (O ++ [O.getD (O.length - d) 0])=_
  rw[h,List.append_assoc]
def Bytes (O:List Int):Prop:=∀ x∈O,0≤x∧x≤255
def tokApp (O:List Int) (t:Tok):List Int:=if t.2.1=0 then O ++ [t.1] else copyN t.2.2.toNat t.2.1.toNat O
theorem app_pre {t:Tok} (ht:TokRight t) (O:List Int):∃ M,tokApp O t=O ++ M∧1≤M.length∧M.length≤258:=by
 unfold TokRight at ht
 unfold tokApp
 by_cases h:t.2.1=0
 ·rw[if_pos h]
  exact⟨[t.1],rfl,Nat.le_refl _,by simp⟩
 ·rw[if_neg h] at ht
  rw[if_neg h]
  obtain⟨M,e,hl⟩:=copy_pre t.2.2.toNat t.2.1.toNat O
  exact⟨M,e,by omega,by omega⟩
theorem app_shift {t:Tok} (ht:TokRight t) (P O:List Int) (hd:t.2.2≤O.length):tokApp (P ++ O) t=P ++ tokApp O t:=by
 unfold TokRight at ht
 unfold tokApp
 by_cases h:t.2.1=0
 ·rw[if_pos h,if_pos h,List.append_assoc]
 ·rw[if_neg h] at ht
  rw[if_neg h,if_neg h,copy_shift P _ (by omega) _ _ (by omega)]
def run (O:List Int):List Tok→Option (List Int)
 | []=>some O
 | t :: R=>if TokRight t∧t.2.2≤(O.length:Int) then run (tokApp O t) R else none
def expandL (b:Nat) (O:List Int):List Tok→Option (List Int)
 | []=>some (O.drop b)
 | t :: R=>if TokRight t∧t.2.2≤(O.length:Int) then (if (tokApp O t).length≤b+12000 then expandL b (tokApp O t) R else none) else none
theorem run_grow:∀ {L:List Tok} {O F:List Int},run O L=some F→∃ M,F=O ++ M∧L.length≤M.length
 | [],O,F,h=>by
  cases h
  exact⟨[],by simp,Nat.le_refl _⟩
 | t :: R,O,F,h=>by
  unfold run at h
  split at h
  ·rename_i q
   obtain⟨M,e,h1,_⟩:=app_pre q.1 O
   obtain⟨M',e',h2⟩:=run_grow h
   refine⟨M ++ M',by rw [e',e,List.append_assoc],?_⟩
   rw[List.length_append,List.length_cons]
   omega
  ·cases h
theorem expand_run:∀ {L:List Tok} {O F:List Int} (b:Nat),run O L=some F→F.length≤b+12000→expandL b O L=some (F.drop b)
 | [],O,F,b,h,_=>by cases h; rfl
 | t :: R,O,F,b,h,hl=>by
  unfold run at h
  split at h
  ·rename_i q
   unfold expandL
   rw[if_pos q]
   obtain⟨M,e,_⟩:=run_grow h
   rw[if_pos (by rw [e,List.length_append] at hl; omega)]
   exact expand_run b h hl
  ·cases h
theorem run_app:∀ (L1 L2:List Tok) (O:List Int),run O (L1 ++ L2)=(run O L1).bind fun A=>run A L2
 | [],_,_=>rfl
 | t :: R,L2,O=>by
  show (if TokRight t∧t.2.2≤(O.length:Int) then run (tokApp O t) (R ++ L2) else none)=(if TokRight t∧t.2.2≤(O.length:Int) then run (tokApp O t) R else none).bind fun A=>run A L2
  by_cases q:TokRight t∧t.2.2≤(O.length:Int)
  ·rw[if_pos q,if_pos q]
   exact run_app R L2 _
  ·rw[if_neg q,if_neg q]
   rfl
theorem run_shift (P:List Int):∀ {L:List Tok} {O F:List Int},run O L=some F→run (P ++ O) L=some (P ++ F)
 | [],O,F,h=>by cases h; rfl
 | t :: R,O,F,h=>by
  unfold run at h
  split at h
  ·rename_i q
   unfold run
   rw[if_pos ⟨q.1,by rw [List.length_append]; have:=q.2; omega⟩,app_shift q.1 P O q.2]
   exact run_shift P h
  ·cases h
theorem parts {L:List Tok} {F:List Int} (h:run [] L=some F) (hl:F.length≤12000) (k:Nat):∃ A B,F=A ++ B∧expandL 0 [] L=some F∧expandL 0 [] (L.take k)=some A∧expandL A.length A (L.drop k)=some B∧(∀ P:List Int,expandL P.length P L=some F)∧L.length≤F.length∧A.length≤12000:=by
 have h0:=h
 rw[← List.take_append_drop k L,run_app] at h0
 cases hA:run [] (L.take k) with
 | none=>rw [hA] at h0; cases h0
 | some A=>
  rw[hA] at h0
  have h1:run A (L.drop k)=some F:=h0
  obtain⟨B,e,_⟩:=run_grow h1
  have hAl:A.length≤12000:=by rw [e,List.length_append] at hl; omega
  obtain⟨M,e2,h2⟩:=run_grow h
  refine⟨A,B,e,?_,?_,?_,fun P=>?_,?_,hAl⟩
  ·rw[expand_run 0 h (by omega),List.drop_zero]
  ·rw[expand_run 0 hA (by omega),List.drop_zero]
  ·rw[expand_run A.length h1 (by omega),e,List.drop_left]
  ·have:=run_shift P h
   rw[List.append_nil] at this
   rw[expand_run P.length this (by rw [List.length_append]; omega),List.drop_left]
  ·rw[e2]
   simpa using h2
end Go.Proofs.YtklpiihnbokkkaaGreatDoor.TokMath

namespace Go.Proofs.YtklpiihnbokkkaaGreatDoor
open Go.RowKit Go.Joins TokMath
theorem info_tok:(Tryz.prog.info? 105).map (fun i=>(i.zero,i.size,i.bytes))=some (some (.agg #[.int .i64 0,.int .i64 0,.int .i64 0]),3,24):=by kernel_rfl
def tcells:List Tok→List Value
 | []=>[]
 | c :: l=>.int .i64 c.1 :: .int .i64 c.2.1 :: .int .i64 c.2.2 :: tcells l
theorem tcells_length:∀ l:List Tok,(tcells l).length=l.length * 3
 | []=>rfl
 | c :: l=>by
  show (tcells l).length+1+1+1=(l.length+1) * 3
  rw[tcells_length l]
  omega
theorem tcells_app:∀ xs ys:List Tok,tcells (xs ++ ys)=tcells xs ++ tcells ys
 | [],ys=>rfl
 | c :: l,ys=>by
  show Value.int .i64 c.1 :: .int .i64 c.2.1 :: .int .i64 c.2.2 :: tcells (l ++ ys)=Value.int .i64 c.1 :: .int .i64 c.2.1 :: .int .i64 c.2.2 :: (tcells l ++ tcells ys)
  rw[tcells_app l ys]
theorem tcells_get:∀ (l:List Tok) (i:Nat),i < l.length→(tcells l)[i * 3]?=some (.int .i64 (l.getD i (0,0,0)).1)∧(tcells l)[i * 3+1]?=some (.int .i64 (l.getD i (0,0,0)).2.1)∧(tcells l)[i * 3+2]?=some (.int .i64 (l.getD i (0,0,0)).2.2)
 | [],i,h=>by simp at h
 | c :: l,0,_=>⟨rfl,rfl,rfl⟩
 | c :: l,i+1,h=>by
  have q:=tcells_get l i (by simpa using h)
  rw[show (i+1) * 3=i * 3+1+1+1 by omega]
  exact q
theorem tcells_one:∀ (l:List Tok),∀ u∈tcells l,u.oneCell'=true
 | [],u,h=>by cases h
 | c :: l,u,h=>by
  rcases List.mem_cons.mp h with rfl | h
  ·rfl
  ·rcases List.mem_cons.mp h with rfl | h
   ·rfl
   ·rcases List.mem_cons.mp h with rfl | h
    ·rfl
    ·exact tcells_one l u h
def TCame (w:World) (a:Option Addr) (n:Nat) (F:Nat→Tok):Prop:=
 n=0∨∃ g off,a=some ⟨g,off,none⟩∧g < w.heap.size∧∀ j,j < n→w.cell? ⟨g,off+j * 3,none⟩=some (.int .i64 (F j).1)∧w.cell? ⟨g,off+j * 3+1,none⟩=some (.int .i64 (F j).2.1)∧w.cell? ⟨g,off+j * 3+2,none⟩=some (.int .i64 (F j).2.2)
theorem TCame.called {w w':World} {a:Option Addr} {n:Nat} {F:Nat→Tok} (h:TCame w a n F) (hb:Below w.heap.size w w'):TCame w' a n F:=by
 rcases h with h | ⟨g,off,ha,hg,hc⟩
 ·exact .inl h
 ·exact .inr ⟨g,off,ha,Nat.lt_of_lt_of_le hg hb.size,fun j hj=>⟨(hb.cell (p:=⟨g,off+j * 3,none⟩) hg).trans (hc j hj).1,(hb.cell (p:=⟨g,off+j * 3+1,none⟩) hg).trans (hc j hj).2.1,(hb.cell (p:=⟨g,off+j * 3+2,none⟩) hg).trans (hc j hj).2.2⟩⟩
theorem TCame.part {w:World} {g off n m k:Nat} {F:Nat→Tok} (h:TCame w (some ⟨g,off,none⟩) n F) (hk:k+m≤n):TCame w (some ⟨g,off+k * 3,none⟩) m (fun j=>F (k+j)):=by
 rcases Nat.eq_zero_or_pos m with h0 | h0
 ·exact .inl h0
 ·rcases h with h | ⟨g',off',ha,hg,hc⟩
  ·omega
  ·cases ha
   refine .inr ⟨g,off+k * 3,rfl,hg,fun j hj=>?_⟩
   have q:=hc (k+j) (by omega)
   rw[show off+k * 3+j * 3=off+(k+j) * 3 by omega]
   exact q
theorem TCame.shorter {w:World} {a:Option Addr} {n m:Nat} {F:Nat→Tok} (h:TCame w a n F) (hm:m≤n):TCame w a m F:=by
 rcases h with h | ⟨g,off,ha,hg,hc⟩
 ·exact .inl (by omega)
 ·exact .inr ⟨g,off,ha,hg,fun j hj=>hc j (by omega)⟩
theorem TCame.congr {w:World} {a:Option Addr} {n:Nat} {F G:Nat→Tok} (h:TCame w a n F) (e:∀ j,j < n→F j=G j):TCame w a n G:=by
 rcases h with h | ⟨g,off,ha,hg,hc⟩
 ·exact .inl h
 ·exact .inr ⟨g,off,ha,hg,fun j hj=>by rw [← e j hj]; exact hc j hj⟩
def TOwn (w:World) (base g n:Nat) (F:Nat→Tok):Prop:=base≤g∧∃ cur,w.heap[g]?=some (.cells cur 105 (0,0))∧n * 3≤cur.size∧∀ j,j < n→cur[j * 3]?=some (.int .i64 (F j).1)∧cur[j * 3+1]?=some (.int .i64 (F j).2.1)∧cur[j * 3+2]?=some (.int .i64 (F j).2.2)
theorem TOwn.lt {w:World} {base g n:Nat} {F:Nat→Tok} (h:TOwn w base g n F):g < w.heap.size:=by
 obtain⟨_,cur,h2,_⟩:=h
 exact block_lt h2
theorem TOwn.keep {w w':World} {base g n:Nat} {F:Nat→Tok} (h:TOwn w base g n F) (hk:w'.heap[g]?=w.heap[g]?):TOwn w' base g n F:=by
 obtain⟨h1,cur,h2,h3⟩:=h
 exact⟨h1,cur,hk.trans h2,h3⟩
theorem TOwn.called {w w':World} {base g n:Nat} {F:Nat→Tok} (h:TOwn w base g n F) (hb:Below w.heap.size w w'):TOwn w' base g n F:=h.keep (hb.block g h.lt)
theorem TOwn.came {w:World} {base g n:Nat} {F:Nat→Tok} (h:TOwn w base g n F):TCame w (some ⟨g,0,none⟩) n F:=by
 refine .inr ⟨g,0,rfl,h.lt,fun j hj=>?_⟩
 obtain⟨_,cur,h2,h3,h4⟩:=h
 rw[Nat.zero_add,cell_of_block h2,cell_of_block h2,cell_of_block h2]
 exact h4 j hj
theorem tcame_of_own {w:World} {S n:Nat} {v:Value} {L:List Tok} (h:w.ownsRow S 105 3 v n (tcells L)) (hn:n=L.length):∃ a c,v=.slice a L.length c∧L.length≤c∧c≤maxLen∧(a=none→c=0)∧TCame w a L.length (fun j=>L.getD j (0,0,0))∧(∀ ad,a=some ad→∃ g,ad=⟨g,0,none⟩∧S≤g):=by
 subst hn
 rcases h.2 with ⟨rfl,h0⟩ | ⟨g,cap,cur,rfl,hb,hg,hc,hm,hs,ht⟩
 ·exact⟨none,0,by rw [h0],by omega,Nat.zero_le _,fun _=>rfl,.inl h0,fun ad e=>by cases e⟩
 ·refine⟨_,cap,rfl,hc,hm,(fun e=>by cases e),.inr ⟨g,0,rfl,block_lt hg,fun j hj=>?_⟩,fun ad e=>by cases e; exact⟨g,rfl,hb⟩⟩
  have q:=tcells_get L j hj
  rw[Nat.zero_add,h.cellAt (j * 3) (by omega),h.cellAt (j * 3+1) (by omega),h.cellAt (j * 3+2) (by omega)]
  exact q
theorem tok_called {w w':World} {S n:Nat} {v:Value} {L:List Tok} (h:w.ownsRow S 105 3 v n (tcells L)) (hb:Below w.heap.size w w'):w'.ownsRow S 105 3 v n (tcells L):=by
 refine⟨h.1,?_⟩
 rcases h.2 with h | ⟨g,cap,cur,rfl,h1,h2,h3⟩
 ·exact .inl h
 ·exact .inr ⟨g,cap,cur,rfl,h1,(hb.block g (block_lt h2)).trans h2,h3⟩
theorem toks_append {w:World} {S:Nat} {v:Value} {xs ys:List Tok} {ops:Array Oper} {rest:List Oper} {o:Oper} {a:Act} {Q:Exit→Act→World→Prop} (hgd:o.guard=none) (s x:Operand)
  (ho:o.op=.call { callee:=.builtin .append,args:=#[s,x],argTypes:=#[72,72] }) (hs:a.eval s=v) (h:w.ownsRow S 105 3 v xs.length (tcells xs)) (ad:Addr) (m c:Nat) (hx:a.eval x=.slice (some ad) m c) (hm:ys.length=m)
  (hc:∀ j u,(tcells ys)[j]?=some u→w.cell? (ad.add j)=some u)
  (h63:xs.length+ys.length≤100000) (hS:S≤w.heap.size)
  (hK:∀ v' w',w'.ownsRow S 105 3 v' (xs ++ ys).length (tcells (xs ++ ys))→w.grownBy w' v.ownBlock→wpList Tryz.prog ops Q rest (a.put o.dst v') w'):wpList Tryz.prog ops Q (o :: rest) a w:=by
 obtain⟨i0,hi0,hz0,hz1,hz2⟩:=info_parts info_tok
 refine wpList_append_own_at w hgd s x _ ho S 105 i0 _ 3 24 Tryz.underlying72 hi0 hz0 hz1 hz2 rfl (by omega) v _ _ hs h ad m c (tcells ys) hx (by rw [tcells_length,hm]) hc (tcells_one ys) (by unfold maxLen; omega) (by omega) hS ?_
 intro v' w' hown hg _ _
 refine hK v' w' ?_ hg
 rw[List.length_append,tcells_app,hm]
 exact hown
end Go.Proofs.YtklpiihnbokkkaaGreatDoor

namespace Go.Proofs.YtklpiihnbokkkaaGreatDoor
namespace OutMath
def p2 (n:Nat):Int:=2 ^ n
theorem p2_zero:p2 0=1:=by simp [p2]
theorem p2_succ (n:Nat):p2 (n+1)=2 * p2 n:=by unfold p2; rw [Int.pow_succ]; omega
theorem p2_pos:∀ n,1≤p2 n
 | 0=>by simp [p2]
 | n+1=>by have:=p2_pos n; rw [p2_succ]; omega
theorem p2_mono (n:Nat):∀ m,p2 n≤p2 (n+m)
 | 0=>by simp
 | m+1=>by have:=p2_mono n m; have h:=p2_pos (n+m); rw [← Nat.add_assoc,p2_succ]; omega
theorem p2_le {n m:Nat} (h:n≤m):p2 n≤p2 m:=by
 obtain⟨k,rfl⟩:=Nat.exists_eq_add_of_le h
 exact p2_mono n k
theorem p2_61 {n:Nat} (h:n≤61):p2 n≤2305843009213693952:=by
 have h1:=p2_le h
 have h2:p2 61=2305843009213693952:=by decide +kernel
 omega
theorem p2_nat (n:Nat):p2 n=((2 ^ n:Nat):Int):=by unfold p2; simp
def last (s:ByteArray):Nat:=(s.data[s.size - 1]?.getD 0).toNat
theorem last_at (s:ByteArray) (h:s.size - 1 < s.size):(s[s.size - 1]'h).toNat=last s:=by
 unfold last
 have h':s.size - 1 < s.data.size:=h
 rw[Array.getElem?_eq_getElem h']
 rfl
theorem last_lt (s:ByteArray):last s < 256:=UInt8.toNat_lt _
def Fits (s:ByteArray) (c:Int):Prop:=s.size≤12000∧0≤c∧c≤8 * s.size∧(c+7) / 8=s.size
def lastOk (s:ByteArray) (c:Int):Bool:=decide (((last s:Nat):Int) < p2 (c % 8).toNat)
theorem lastOk_div (s:ByteArray) (c:Int):lastOk s c=(((last s:Nat):Int) / 2 ^ (c % 8).toNat == 0):=by
 unfold lastOk
 have e:p2 (c % 8).toNat=2 ^ (c % 8).toNat:=rfl
 have hp:=p2_pos (c % 8).toNat
 rw[← e]
 generalize p2 (c % 8).toNat=q at *
 rw[Bool.eq_iff_iff]
 simp only [decide_eq_true_eq,beq_iff_eq]
 constructor
 ·intro h; exact Int.ediv_eq_zero_of_lt (by omega) h
 ·intro h
  have:=Int.lt_mul_ediv_self_add (x:=((last s:Nat):Int)) (show 0 < q by omega)
  rw[h] at this
  omega
def outB (s:ByteArray) (c:Int):Bool:=decide (s.size≤12000∧0≤c∧c≤8 * s.size∧(c+7) / 8=s.size) && (decide (c % 8=0) || lastOk s c)
theorem outB_no (s:ByteArray) (c:Int) (h:¬ Fits s c):outB s c=false:=by
 have h':¬ (s.size≤12000∧0≤c∧c≤8 * s.size∧(c+7) / 8=s.size):=h
 unfold outB
 rw[decide_eq_false h']
 rfl
theorem outB_fit0 (s:ByteArray) (c:Int) (h:Fits s c) (hc:c % 8=0):outB s c=true:=by
 have h':s.size≤12000∧0≤c∧c≤8 * s.size∧(c+7) / 8=s.size:=h
 unfold outB
 rw[decide_eq_true h',decide_eq_true hc]
 rfl
theorem outB_fit1 (s:ByteArray) (c:Int) (h:Fits s c) (hc:¬ c % 8=0):outB s c=lastOk s c:=by
 have h':s.size≤12000∧0≤c∧c≤8 * s.size∧(c+7) / 8=s.size:=h
 unfold outB
 rw[decide_eq_true h',decide_eq_false hc]
 rfl
theorem fits_of_outB (s:ByteArray) (c:Int) (h:outB s c=true):Fits s c:=by
 refine Classical.byContradiction fun hn=>?_
 rw[outB_no s c hn] at h
 cases h
end OutMath
end Go.Proofs.YtklpiihnbokkkaaGreatDoor

namespace Go.Proofs.YtklpiihnbokkkaaGreatDoor
namespace PutMath
open OutMath
def pre (xs:List Int) (c:Nat):List Int:=if c % 8=0 then xs ++ [0] else xs
def bstep (xs:List Int) (c:Nat) (b:Int):List Int:=(pre xs c).set (c / 8) ((pre xs c).getD (c / 8) 0+b * p2 (c % 8))
def Inv (xs:List Int) (c:Nat):Prop:=xs.length=(c+7) / 8∧(c % 8≠0→0≤xs.getD (c / 8) 0∧xs.getD (c / 8) 0 < p2 (c % 8))
theorem pre_len {xs:List Int} {c:Nat} (h:Inv xs c):(pre xs c).length=c / 8+1:=by
 obtain⟨h1,h2⟩:=h
 unfold pre
 split
 ·rw[List.length_append,h1]; simp; omega
 ·rw[h1]; omega
theorem pre_last {xs:List Int} {c:Nat} (h:Inv xs c):0≤(pre xs c).getD (c / 8) 0∧(pre xs c).getD (c / 8) 0 < p2 (c % 8):=by
 obtain⟨h1,h2⟩:=h
 unfold pre
 split
 ·rename_i h0
  have e:xs.length=c / 8:=by omega
  rw[h0,p2_zero,List.getD_eq_getElem?_getD,List.getElem?_append_right (by omega),e]
  simp
 ·rename_i h0
  exact h2 h0
theorem mul01 (b q:Int) (h0:0≤b) (h1:b≤1) (hq:1≤q):0≤b * q∧b * q≤q:=by
 have:b=0∨b=1:=by omega
 rcases this with rfl | rfl <;> omega
theorem bstep_len {xs:List Int} {c:Nat} (b:Int) (h:Inv xs c):(bstep xs c b).length=c / 8+1:=by
 unfold bstep
 rw[List.length_set,pre_len h]
theorem inv_step {xs:List Int} {c:Nat} {b:Int} (h:Inv xs c) (h0:0≤b) (h1:b≤1):Inv (bstep xs c b) (c+1):=by
 have hl:=pre_len h
 have hp:=pre_last h
 refine⟨by rw [bstep_len b h]; omega,fun hc=>?_⟩
 have e1:(c+1) / 8=c / 8:=by omega
 have e2:(c+1) % 8=c % 8+1:=by omega
 have hm:=mul01 b (p2 (c % 8)) h0 h1 (p2_pos _)
 rw[e1,e2,p2_succ]
 unfold bstep
 have e3:((pre xs c).set (c / 8) ((pre xs c).getD (c / 8) 0+b * p2 (c % 8))).getD (c / 8) 0=(pre xs c).getD (c / 8) 0+b * p2 (c % 8):=by
  rw[List.getD_eq_getElem?_getD,List.getElem?_set_self (by omega)]
  rfl
 rw[e3]
 omega
def puts (xs:List Int) (c:Nat) (f:Nat→Int):Nat→List Int
 | 0=>xs
 | k+1=>bstep (puts xs c f k) (c+k) (f k)
theorem inv_puts {xs:List Int} {c:Nat} {f:Nat→Int} (h:Inv xs c) (hf:∀ k,0≤f k∧f k≤1):∀ k,Inv (puts xs c f k) (c+k)
 | 0=>h
 | k+1=>inv_step (inv_puts h hf k) (hf k).1 (hf k).2
theorem p2_8 {r:Nat} (h:r < 8):p2 r≤128:=by
 have h1:=p2_le (show r≤7 by omega)
 have h2:p2 7=128:=by decide +kernel
 omega
def bitOf (x:Int) (k:Nat):Int:=x / p2 k % 2
theorem bitOf_01 (x:Int) (k:Nat):0≤bitOf x k∧bitOf x k≤1:=by unfold bitOf; omega
theorem bitOf_walk (x:Int) (k:Nat) (h0:0≤x) (h1:x≤16777216):(Go.RowKit.wrap64 (x / p2 k)).tmod 2=bitOf x k:=by
 have hp:=p2_pos k
 have a:=Int.ediv_nonneg h0 (show 0≤p2 k by omega)
 have b:=Int.ediv_le_self (p2 k) h0
 have e:Go.RowKit.wrap64 (x / p2 k)=x / p2 k:=by unfold Go.RowKit.wrap64; omega
 rw[e,Int.tmod_eq_emod_of_nonneg a]
 rfl
theorem bitOf_walk' (x:Int) (k:Nat) (h0:0≤x):(x / p2 k).tmod 2=bitOf x k:=by
 have a:=Int.ediv_nonneg h0 (show 0≤p2 k by have:=p2_pos k; omega)
 rw[Int.tmod_eq_emod_of_nonneg a]
 rfl
theorem or_put (y b:Int) (r:Nat) (hr:r < 8) (h0:0≤y) (h1:y < p2 r) (b0:0≤b) (b1:b≤1):bits .or .u8 y (Go.RowKit.wrap64 (b * 2 ^ r) % 256)=y+b * p2 r:=by
 have hm:=mul01 b (p2 r) b0 b1 (p2_pos r)
 have hp:=p2_8 hr
 have e:Go.RowKit.wrap64 (b * 2 ^ r) % 256=b * p2 r:=by
  show Go.RowKit.wrap64 (b * p2 r) % 256=_
  unfold Go.RowKit.wrap64; omega
 rw[e]
 obtain⟨n,rfl⟩:=Int.eq_ofNat_of_zero_le h0
 obtain⟨m,rfl⟩:=Int.eq_ofNat_of_zero_le b0
 rw[p2_nat] at h1 hm hp ⊢
 rw[show ((m:Int) * ((2 ^ r:Nat):Int))=((m * 2 ^ r:Nat):Int) from (Int.natCast_mul _ _).symm] at hm ⊢
 rw[u8_or_nat _ _ (by omega) (by omega),Nat.or_comm,nat_join r (m * 2 ^ r) n (by simp) (by omega)]
 omega
theorem i64_and_nat (a b:Nat) (ha:a < 9223372036854775808) (hb:b < 9223372036854775808):bits .and .i64 (a:Int) (b:Int)=((a &&& b:Nat):Int):=by
 have h1:(BitVec.ofInt 64 (a:Int)).toNat=a:=by
  rw[BitVec.ofInt_natCast,BitVec.toNat_ofNat]; exact Nat.mod_eq_of_lt (by omega)
 have h2:(BitVec.ofInt 64 (b:Int)).toNat=b:=by
  rw[BitVec.ofInt_natCast,BitVec.toNat_ofNat]; exact Nat.mod_eq_of_lt (by omega)
 have hx:a &&& b < 2 ^ 63:=Nat.and_lt_two_pow _ (by omega)
 show IntKind.i64.wrap ((BitVec.ofInt 64 (a:Int) &&& BitVec.ofInt 64 (b:Int)).toNat:Int)=_
 rw[BitVec.toNat_and,h1,h2,IntKind.wrap_i64]
 omega
theorem bit_shr (x:Int) (k:Nat) (h0:0≤x) (h1:x≤16777216) (_hk:k≤24):bits .and .i64 (x / 2 ^ k) 1=bitOf x k:=by
 have a:=Int.ediv_nonneg h0 (show 0≤p2 k by have:=p2_pos k; omega)
 have b:=Int.ediv_le_self (p2 k) h0
 show bits .and .i64 (x / p2 k) 1=x / p2 k % 2
 generalize x / p2 k=y at *
 obtain⟨n,rfl⟩:=Int.eq_ofNat_of_zero_le a
 have:=i64_and_nat n 1 (by omega) (by omega)
 rw[nat_mask1] at this
 rw[show ((1:Nat):Int)=1 from rfl] at this
 rw[this]
 omega
end PutMath
end Go.Proofs.YtklpiihnbokkkaaGreatDoor

namespace Go.Proofs.YtklpiihnbokkkaaGreatDoor
open OutMath PutMath
def May (s:ByteArray) (c x n:Int):Prop:=outB s c=true∧0≤n∧n≤24∧0≤x∧x < p2 n.toNat∧c+n≤96000
theorem bytes_inv (s:ByteArray) (c:Nat) (h:outB s c=true):Inv (s.data.toList.map fun b=>(b.toNat:Int)) c:=by
 have hf:=fits_of_outB s c h
 obtain⟨q1,q2,q3,q4⟩:=hf
 refine⟨by simp; omega,fun h8=>?_⟩
 have hc:¬ (c:Int) % 8=0:=by omega
 rw[outB_fit1 s c (fits_of_outB s c h) hc] at h
 unfold lastOk at h
 have h':=of_decide_eq_true h
 rw[show ((c:Int) % 8).toNat=c % 8 by omega] at h'
 have hl:c / 8=s.size - 1:=by omega
 have e:(s.data.toList.map fun b=>(b.toNat:Int)).getD (c / 8) 0=(last s:Int):=by
  rw[hl]
  unfold last
  have hlt:s.size - 1 < s.data.size:=by have:s.data.size=s.size:=rfl; omega
  rw[List.getD_eq_getElem?_getD,List.getElem?_map,Array.getElem?_toList,Array.getElem?_eq_getElem hlt]
  rfl
 rw[e]
 exact⟨by omega,h'⟩
def putOut (s:ByteArray) (c:Nat) (x:Int) (pl:Nat→Nat) (n:Nat):ByteArray:=strOfNums (puts (s.data.toList.map fun b=>(b.toNat:Int)) c (fun j=>bitOf x (pl j)) n)
end Go.Proofs.YtklpiihnbokkkaaGreatDoor

namespace Go.Proofs.YtklpiihnbokkkaaGreatDoor
namespace TakeMath
open OutMath
def byteAt (s:ByteArray) (i:Nat):Nat:=(s.data[i]?.getD 0).toNat
theorem byteAt_lt (s:ByteArray) (i:Nat):byteAt s i < 256:=UInt8.toNat_lt _
theorem byteAt_get (s:ByteArray) (i:Nat) (h:i < s.size):(s[i]'h).toNat=byteAt s i:=by
 unfold byteAt
 have h':i < s.data.size:=h
 rw[Array.getElem?_eq_getElem h']
 rfl
def bit (s:ByteArray) (i:Nat):Int:=(byteAt s (i / 8):Int) / p2 (i % 8) % 2
theorem mul01 (b q:Int) (h0:0≤b) (h1:b≤1) (hq:1≤q):0≤b * q∧b * q≤q:=by
 have:b=0∨b=1:=by omega
 rcases this with rfl | rfl <;> omega
theorem i64_and_nat (a b:Nat) (ha:a < 9223372036854775808) (hb:b < 9223372036854775808):bits .and .i64 (a:Int) (b:Int)=((a &&& b:Nat):Int):=by
 have h1:(BitVec.ofInt 64 (a:Int)).toNat=a:=by
  rw[BitVec.ofInt_natCast,BitVec.toNat_ofNat]; exact Nat.mod_eq_of_lt (by omega)
 have h2:(BitVec.ofInt 64 (b:Int)).toNat=b:=by
  rw[BitVec.ofInt_natCast,BitVec.toNat_ofNat]; exact Nat.mod_eq_of_lt (by omega)
 have hx:a &&& b < 2 ^ 63:=Nat.and_lt_two_pow _ (by omega)
 show IntKind.i64.wrap ((BitVec.ofInt 64 (a:Int) &&& BitVec.ofInt 64 (b:Int)).toNat:Int)=_
 rw[BitVec.toNat_and,h1,h2,IntKind.wrap_i64]
 omega
end TakeMath
end Go.Proofs.YtklpiihnbokkkaaGreatDoor

namespace Go.Proofs.YtklpiihnbokkkaaGreatDoor
namespace BitsMath
open OutMath PutMath TakeMath
theorem p2_add (a:Nat):∀ b,p2 (a+b)=p2 a * p2 b
 | 0=>by rw [p2_zero,Nat.add_zero]; omega
 | b+1=>by rw [← Nat.add_assoc,p2_succ,p2_add a b,p2_succ,← Int.mul_assoc,← Int.mul_assoc,Int.mul_comm 2 (p2 a)]
def AllB (xs:List Int):Prop:=∀ i,0≤xs.getD i 0∧xs.getD i 0 < 256
theorem pre_getD (xs:List Int) (c i:Nat):(pre xs c).getD i 0=xs.getD i 0:=by
 unfold pre
 split
 ·rw[List.getD_eq_getElem?_getD,List.getD_eq_getElem?_getD]
  rcases Nat.lt_trichotomy i xs.length with h | h | h
  ·rw[List.getElem?_append_left h]
  ·subst h
   rw[List.getElem?_append_right (Nat.le_refl _)]
   simp
  ·rw[List.getElem?_append_right (by omega),List.getElem?_eq_none (by simp; omega),List.getElem?_eq_none (by omega)]
 ·rfl
theorem bstep_getD {xs:List Int} {c:Nat} (b:Int) (h:Inv xs c) (i:Nat):(bstep xs c b).getD i 0=if i=c / 8 then xs.getD (c / 8) 0+b * p2 (c % 8) else xs.getD i 0:=by
 have hl:=pre_len h
 unfold bstep
 by_cases hi:i=c / 8
 ·rw[if_pos hi,hi,List.getD_eq_getElem?_getD,List.getElem?_set_self (by omega)]
  show (pre xs c).getD (c / 8) 0+_=_
  rw[pre_getD]
 ·rw[if_neg hi,List.getD_eq_getElem?_getD,List.getElem?_set_ne (by omega),← List.getD_eq_getElem?_getD,pre_getD]
theorem last_lt {xs:List Int} {c:Nat} (h:Inv xs c):0≤xs.getD (c / 8) 0∧xs.getD (c / 8) 0 < p2 (c % 8):=by
 have:=pre_last h
 rwa [pre_getD] at this
theorem allB_bstep {xs:List Int} {c:Nat} {b:Int} (h:Inv xs c) (ha:AllB xs) (h0:0≤b) (h1:b≤1):AllB (bstep xs c b):=by
 intro i
 rw[bstep_getD b h]
 split
 ·have hl:=last_lt h
  have hp:=PutMath.p2_8 (r:=c % 8) (by omega)
  have hm:=PutMath.mul01 b (p2 (c % 8)) h0 h1 (p2_pos _)
  omega
 ·exact ha i
section
variable {xs:List Int} {c:Nat} {f:Nat→Int}
theorem allB_puts (h:Inv xs c) (ha:AllB xs) (hf:∀ k,0≤f k∧f k≤1):∀ k,AllB (puts xs c f k)
 | 0=>ha
 | k+1=>allB_bstep (inv_puts h hf k) (allB_puts h ha hf k) (hf k).1 (hf k).2
end
theorem byteAt_str {ys:List Int} (ha:AllB ys) (i:Nat):((byteAt (strOfNums ys) i:Nat):Int)=ys.getD i 0:=by
 have hb:=ha i
 unfold byteAt
 have e:(strOfNums ys).data[i]?=(ys[i]?).map fun n=>UInt8.ofNat n.toNat:=by simp [strOfNums]
 rw[e]
 rw[List.getD_eq_getElem?_getD] at hb ⊢
 cases h:ys[i]? with
 | none=>simp
 | some y=>
  rw[h] at hb
  simp only [Option.map_some,Option.getD_some] at hb ⊢
  rw[UInt8.toNat_ofNat']
  omega
theorem nums_back {ys:List Int} (ha:AllB ys):((strOfNums ys).data.toList.map fun b=>(b.toNat:Int))=ys:=by
 apply List.ext_getElem?
 intro i
 have hb:=ha i
 have e:(strOfNums ys).data.toList=ys.map fun n=>UInt8.ofNat n.toNat:=rfl
 rw[e,List.map_map,List.getElem?_map]
 rw[List.getD_eq_getElem?_getD] at hb
 cases h:ys[i]? with
 | none=>rfl
 | some y=>
  rw[h] at hb
  simp only [Option.getD_some] at hb
  simp only [Option.map_some,Function.comp]
  rw[UInt8.toNat_ofNat']
  congr 1
  omega
theorem outB_of_inv {ys:List Int} {c:Nat} (h:Inv ys c) (ha:AllB ys) (hc:c≤96000):outB (strOfNums ys) c=true:=by
 have hs:(strOfNums ys).size=(c+7) / 8:=(strOfNums_size ys).trans h.1
 have hf:Fits (strOfNums ys) c:=by
  unfold Fits
  rw[hs]
  omega
 by_cases h8:(c:Int) % 8=0
 ·exact outB_fit0 _ _ hf h8
 ·rw[outB_fit1 _ _ hf h8]
  unfold lastOk
  have e:last (strOfNums ys)=byteAt (strOfNums ys) (c / 8):=by
   unfold last byteAt
   rw[hs,show (c+7) / 8 - 1=c / 8 by omega]
  rw[e,byteAt_str ha,show ((c:Int) % 8).toNat=c % 8 by omega]
  exact decide_eq_true (last_lt h).2
theorem mod_split (x q:Int) (hq:1≤q):x % (2 * q)=x % q+x / q % 2 * q:=by
 have h1:=Int.emod_nonneg x (show q≠0 by omega)
 have h2:=Int.emod_lt_of_pos x (show 0 < q by omega)
 have h3:=Int.mul_ediv_add_emod x q
 have hm:=PutMath.mul01 (x / q % 2) q (by omega) (by omega) hq
 have e:x=(x % q+x / q % 2 * q)+(2 * q) * (x / q / 2):=by
  have h4:x / q=2 * (x / q / 2)+x / q % 2:=by omega
  have h5:q * (x / q)=2 * q * (x / q / 2)+x / q % 2 * q:=by
   conv=>lhs; rw [h4]
   rw[Int.mul_add,← Int.mul_assoc,Int.mul_comm q 2,Int.mul_comm q]
  omega
 conv=>lhs; rw [e]
 rw[Int.add_mul_emod_self_left]
 exact Int.emod_eq_of_lt (by omega) (by omega)
section
variable {v:Nat→Int} {n:Nat→Nat}
end
end BitsMath
end Go.Proofs.YtklpiihnbokkkaaGreatDoor

namespace Go.Proofs.YtklpiihnbokkkaaGreatDoor
namespace BlockMath
open OutMath PutMath BitsMath
def numsOf (s:ByteArray):List Int:=s.data.toList.map fun b=>(b.toNat:Int)
theorem numsOf_length (s:ByteArray):(numsOf s).length=s.size:=by simp [numsOf]
theorem numsOf_allB (s:ByteArray):AllB (numsOf s):=fun i=>by
 unfold numsOf
 rw[List.getD_eq_getElem?_getD,List.getElem?_map]
 cases h:s.data.toList[i]? with
 | none=>simp
 | some y=>
  have:=UInt8.toNat_lt y
  simp only [Option.map_some,Option.getD_some]
  omega
theorem puts_congr {xs:List Int} {c:Nat} {f g:Nat→Int}:∀ k,(∀ i,i < k→f i=g i)→puts xs c f k=puts xs c g k
 | 0,_=>rfl
 | k+1,h=>by
  show bstep _ _ _=bstep _ _ _
  rw[puts_congr k (fun i hi=>h i (by omega)),h k (by omega)]
theorem puts_add (xs:List Int) (c:Nat) (f:Nat→Int) (m:Nat):∀ k,puts xs c f (m+k)=puts (puts xs c f m) (c+m) (fun i=>f (m+i)) k
 | 0=>rfl
 | k+1=>by
  show bstep (puts xs c f (m+k)) (c+(m+k)) (f (m+k))=bstep _ (c+m+k) (f (m+k))
  rw[puts_add xs c f m k,Nat.add_assoc]
def putB (xs:List Int) (c:Nat) (bs:List Int):List Int:=puts xs c (fun i=>bs.getD i 0) bs.length
def Bits01 (bs:List Int):Prop:=∀ i,0≤bs.getD i 0∧bs.getD i 0≤1
theorem Bits01.append {a b:List Int} (ha:Bits01 a) (hb:Bits01 b):Bits01 (a ++ b):=fun i=>by
 rw[List.getD_eq_getElem?_getD]
 by_cases h:i < a.length
 ·rw[List.getElem?_append_left h,← List.getD_eq_getElem?_getD]
  exact ha i
 ·rw[List.getElem?_append_right (by omega),← List.getD_eq_getElem?_getD]
  exact hb _
theorem putB_append (xs:List Int) (c:Nat) (a b:List Int):putB xs c (a ++ b)=putB (putB xs c a) (c+a.length) b:=by
 unfold putB
 rw[List.length_append,puts_add]
 have e1:puts xs c (fun i=>(a ++ b).getD i 0) a.length=puts xs c (fun i=>a.getD i 0) a.length:=puts_congr _ fun i hi=>by
  show (a ++ b).getD i 0=a.getD i 0
  rw[List.getD_eq_getElem?_getD,List.getElem?_append_left hi,← List.getD_eq_getElem?_getD]
 rw[e1]
 refine puts_congr _ fun i _=>?_
 show (a ++ b).getD (a.length+i) 0=b.getD i 0
 rw[List.getD_eq_getElem?_getD,List.getElem?_append_right (by omega),← List.getD_eq_getElem?_getD,Nat.add_sub_cancel_left]
theorem putB_inv {xs:List Int} {c:Nat} {bs:List Int} (h:Inv xs c) (h01:Bits01 bs):Inv (putB xs c bs) (c+bs.length):=inv_puts h h01 _
theorem putB_allB {xs:List Int} {c:Nat} {bs:List Int} (h:Inv xs c) (ha:AllB xs) (h01:Bits01 bs):AllB (putB xs c bs):=allB_puts h ha h01 _
def bitsOut (o:ByteArray×Nat) (bs:List Int):Option (ByteArray×Nat):=
 if outB o.1 o.2=true∧o.2+bs.length≤96000 then some (strOfNums (putB (numsOf o.1) o.2 bs),o.2+bs.length) else none
theorem bitsOut_some {s:ByteArray} {c:Nat} {bs:List Int} (h:outB s c=true) (hc:c+bs.length≤96000):bitsOut (s,c) bs=some (strOfNums (putB (numsOf s) c bs),c+bs.length):=if_pos ⟨h,hc⟩
theorem bitsOut_none {s:ByteArray} {c:Nat} {bs:List Int} (h:¬ (outB s c=true∧c+bs.length≤96000)):bitsOut (s,c) bs=none:=if_neg h
theorem bitsOut_right {o o':ByteArray×Nat} {bs:List Int} (h:bitsOut o bs=some o') (h01:Bits01 bs):outB o'.1 o'.2=true∧o'.2=o.2+bs.length∧o'.2≤96000∧numsOf o'.1=putB (numsOf o.1) o.2 bs∧o'.1=strOfNums (putB (numsOf o.1) o.2 bs)∧outB o.1 o.2=true:=by
 unfold bitsOut at h
 split at h
 ·rename_i hh
  cases h
  have hi:=bytes_inv o.1 o.2 hh.1
  have hA:=putB_allB hi (numsOf_allB o.1) h01
  exact⟨outB_of_inv (putB_inv hi h01) hA hh.2,rfl,hh.2,nums_back hA,rfl,hh.1⟩
 ·cases h
theorem bitsOut_append (o:ByteArray×Nat) {a:List Int} (b:List Int) (h01:Bits01 a):bitsOut o (a ++ b)=(bitsOut o a).bind fun o'=>bitsOut o' b:=by
 cases h:bitsOut o a with
 | none=>
  show bitsOut o (a ++ b)=none
  unfold bitsOut at h ⊢
  split at h
  ·cases h
  ·rename_i hh
   refine if_neg fun hc=>hh ⟨hc.1,?_⟩
   have:=hc.2
   rw[List.length_append] at this
   omega
 | some o'=>
  obtain⟨h1,h2,h3,h4,h5,h6⟩:=bitsOut_right h h01
  show bitsOut o (a ++ b)=bitsOut o' b
  unfold bitsOut
  rw[h4,h2,← putB_append,List.length_append]
  by_cases hc:o.2+(a.length+b.length)≤96000
  ·rw[if_pos ⟨h6,hc⟩,if_pos ⟨h2 ▸ h1,by omega⟩,Nat.add_assoc]
  ·rw[if_neg (fun q=>hc q.2),if_neg (fun q=>hc (by have:=q.2; omega))]
def pieceBits (x:Int) (n:Nat) (high:Bool):List Int:=(List.range n).map fun k=>bitOf x (if high then n - 1 - k else k)
theorem pieceBits_length (x:Int) (n:Nat) (high:Bool):(pieceBits x n high).length=n:=by simp [pieceBits]
theorem pieceBits_getD (x:Int) (n:Nat) (high:Bool) {k:Nat} (h:k < n):(pieceBits x n high).getD k 0=bitOf x (if high then n - 1 - k else k):=by
 unfold pieceBits
 rw[List.getD_eq_getElem?_getD,List.getElem?_map,List.getElem?_range h]
 rfl
theorem pieceBits_01 (x:Int) (n:Nat) (high:Bool):Bits01 (pieceBits x n high):=fun i=>by
 by_cases h:i < n
 ·rw[pieceBits_getD x n high h]
  exact bitOf_01 _ _
 ·rw[List.getD_eq_getElem?_getD,List.getElem?_eq_none (by rw [pieceBits_length]; omega)]
  simp
theorem putOut_low (s:ByteArray) (c:Nat) (x:Int) (n:Nat):putOut s c x (fun j=>j) n=strOfNums (putB (numsOf s) c (pieceBits x n false)):=by
 unfold putOut putB numsOf
 rw[pieceBits_length]
 congr 1
 exact puts_congr n fun i hi=>(pieceBits_getD x n false hi).symm
theorem putOut_high (s:ByteArray) (c:Nat) (x:Int) (n:Nat):putOut s c x (fun j=>n - 1 - j) n=strOfNums (putB (numsOf s) c (pieceBits x n true)):=by
 unfold putOut putB numsOf
 rw[pieceBits_length]
 congr 1
 exact puts_congr n fun i hi=>(pieceBits_getD x n true hi).symm
theorem puts_fill {xs:List Int} {c:Nat} (h:Inv xs c):∀ j,j≤(8 - c % 8) % 8→puts xs c (fun _=>0) j=xs
 | 0,_=>rfl
 | j+1,hj=>by
  show bstep (puts xs c (fun _=>0) j) (c+j) 0=xs
  rw[puts_fill h j (by omega)]
  unfold bstep
  have hp:pre xs (c+j)=xs:=if_neg (by omega)
  rw[hp,Int.zero_mul,Int.add_zero]
  have hl:(c+j) / 8 < xs.length:=by rw [h.1]; omega
  rw[List.getD_eq_getElem?_getD,List.getElem?_eq_getElem hl]
  exact List.set_getElem_self hl
def fillBits (c:Nat):List Int:=List.replicate ((8 - c % 8) % 8) 0
theorem fillBits_length (c:Nat):(fillBits c).length=(8 - c % 8) % 8:=by simp [fillBits]
theorem zeros_getD (n i:Nat):(List.replicate n (0:Int)).getD i 0=0:=by
 rw[List.getD_eq_getElem?_getD,List.getElem?_replicate]
 split <;> rfl
theorem fillBits_01 (c:Nat):Bits01 (fillBits c):=fun i=>by
 unfold fillBits
 rw[zeros_getD]
 omega
theorem putB_fill {xs:List Int} {c:Nat} (h:Inv xs c):putB xs c (fillBits c)=xs:=by
 unfold putB
 rw[fillBits_length,puts_congr (g:=fun _=>0) _ (fun i _=>by unfold fillBits; exact zeros_getD _ _)]
 exact puts_fill h _ (Nat.le_refl _)
def byteBits:List Int→List Int
 | []=>[]
 | y :: ys=>pieceBits y 8 false ++ byteBits ys
theorem byteBits_length:∀ ys:List Int,(byteBits ys).length=8 * ys.length
 | []=>rfl
 | y :: ys=>by
  show (pieceBits y 8 false ++ byteBits ys).length=_
  rw[List.length_append,pieceBits_length,byteBits_length ys,List.length_cons]
  omega
theorem byteBits_01:∀ ys:List Int,Bits01 (byteBits ys)
 | []=>fun i=>by rw [show (byteBits [])=[] from rfl]; simp
 | y :: ys=>(pieceBits_01 y 8 false).append (byteBits_01 ys)
theorem puts_byte {xs:List Int} {c:Nat} (h:xs.length=c / 8) (hc:c % 8=0) (y:Int):∀ k,k < 8→puts xs c (fun i=>bitOf y i) (k+1)=xs ++ [y % p2 (k+1)]
 | 0,_=>by
  show bstep xs c (bitOf y 0)=_
  unfold bstep
  have hp:pre xs c=xs ++ [0]:=if_pos hc
  rw[hp,hc,List.getD_eq_getElem?_getD,List.getElem?_append_right (by omega),h,Nat.sub_self,List.set_append_right _ _ (by omega),h,Nat.sub_self]
  simp only [List.getElem?_cons_zero,Option.getD_some,List.set_cons_zero,bitOf,p2_zero,Nat.zero_add]
  rw[show p2 1=2 by simp [p2]]
  simp
 | k+1,hk=>by
  show bstep (puts xs c (fun i=>bitOf y i) (k+1)) (c+(k+1)) (bitOf y (k+1))=_
  rw[puts_byte h hc y k (by omega)]
  unfold bstep
  have hp:pre (xs ++ [y % p2 (k+1)]) (c+(k+1))=xs ++ [y % p2 (k+1)]:=if_neg (by omega)
  have hd:(c+(k+1)) / 8=xs.length:=by omega
  rw[hp,hd,List.getD_eq_getElem?_getD,List.getElem?_append_right (Nat.le_refl _),Nat.sub_self,List.set_append_right _ _ (Nat.le_refl _),Nat.sub_self,show (c+(k+1)) % 8=k+1 by omega]
  simp only [List.getElem?_cons_zero,Option.getD_some,List.set_cons_zero]
  rw[p2_succ (k+1),mod_split y (p2 (k+1)) (p2_pos _)]
  rfl
theorem putB_bytes:∀ (ys:List Int) (xs:List Int) (c:Nat),xs.length=c / 8→c % 8=0→AllB ys→putB xs c (byteBits ys)=xs ++ ys
 | [],xs,c,_,_,_=>by rw [List.append_nil]; rfl
 | y :: ys,xs,c,h,hc,ha=>by
  show putB xs c (pieceBits y 8 false ++ byteBits ys)=_
  have hy:=ha 0
  simp only [List.getD_cons_zero] at hy
  have e1:putB xs c (pieceBits y 8 false)=xs ++ [y]:=by
   unfold putB
   rw[pieceBits_length,puts_congr (g:=fun i=>bitOf y i) 8 (fun i hi=>pieceBits_getD y 8 false hi),puts_byte h hc y 7 (by omega),show p2 (7+1)=256 by simp [p2],Int.emod_eq_of_lt hy.1 hy.2]
  rw[putB_append,e1,pieceBits_length,putB_bytes ys (xs ++ [y]) (c+8) (by rw [List.length_append,List.length_singleton]; omega) (by omega) (fun i=>by have:=ha (i+1); rwa [List.getD_cons_succ] at this),List.append_assoc]
  rfl
end BlockMath
end Go.Proofs.YtklpiihnbokkkaaGreatDoor
