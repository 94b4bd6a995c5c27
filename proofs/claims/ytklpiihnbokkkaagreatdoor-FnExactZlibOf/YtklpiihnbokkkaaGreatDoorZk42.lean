/-
  Texts of the proof, put together.
-/
import Derived.Test.YtklpiihnbokkkaaGreatDoorZk40
import Derived.Test.YtklpiihnbokkkaaGreatDoorZk41
namespace Go.Proofs.YtklpiihnbokkkaaGreatDoor
open Go.RowKit Go.Joins OutMath InfMath TokMath TrimMath BlockMath PartMath BodyMath
theorem came_firstJ {w:World} {S:Nat} {a:Option Addr} {n c:Nat} {f:Nat→Int} (h:NumRow w S (.slice a n c) (firstJ f n)):Came w a n f:=by
 rcases sl_of_num h (firstJ_length f n).symm with q | ⟨g,e,ho⟩
 ·exact .inl q
 ·subst e
  exact (ho.congr fun i hi=>firstJ_getD f hi).sl.came
def BkEnd (w X:World) (B:Nat) (st:Option (ByteArray×Nat)):Prop:=Below w.heap.size w X∧X.heap[w.heap.size+1]?=some (.cells #[.string ⟨#[]⟩,.int .i64 0] 43 (0,0))∧OS X B st∧w.heap.size+1≠B∧w.heap.size≤B
theorem BkEnd.put {w X Y:World} {B:Nat} {st st':Option (ByteArray×Nat)} (h:BkEnd w X B st) (hO:OS Y B st') (hg:X.grownBy Y (some B)):BkEnd w Y B st':=
 ⟨h.1.grown hg h.1.size (fun k hk=>by cases hk; exact h.2.2.2.2),(hg.block _ (block_lt h.2.1) (fun e=>h.2.2.2.1 (Option.some.inj e))).trans h.2.1,hO,h.2.2.2⟩
theorem BkEnd.called {w X Y:World} {B:Nat} {st:Option (ByteArray×Nat)} (h:BkEnd w X B st) (hb:Below X.heap.size X Y):BkEnd w Y B st:=
 ⟨bnext h.1 hb,(hb.block _ (block_lt h.2.1)).trans h.2.1,h.2.2.1.called hb,h.2.2.2⟩
theorem BkEnd.start {w w1:World} {s1:ByteArray} {c1:Int} {st:Option (ByteArray×Nat)} (hW:Below w.heap.size w w1) (hR:w1.heap[w.heap.size+1]?=some (.cells #[.string ⟨#[]⟩,.int .i64 0] 43 (0,0))) (hst:∀ o,st=some o→s1=o.1∧c1=(o.2:Int)∧outB o.1 o.2=true):
  BkEnd w (w1.alloc (.cells #[.string s1,.int .i64 c1,.bool st.isNone] 97)) w1.heap.size st:=
 ⟨bal hW _,((bstart w1 _).block _ (block_lt hR)).trans hR,⟨s1,c1,heap_alloc_new w1 _,hst⟩,by have:=block_lt hR; omega,hW.size⟩
set_option maxRecDepth 100000 in
set_option maxHeartbeats 6400000 in
theorem specFixedBlock (s:ByteArray) (c:Int) (a:Option Addr) (cp:Nat) (L:List Tok) (last:Bool) (w:World) (hs:s.size≤maxLen) (hc1:-9223372036854775808≤c) (hc2:c≤9223372036854775807) (hC:TCame w a L.length (fun j=>L.getD j (0,0,0))) (hL:L.length≤1048576):
  Calls Tryz.prog 40 #[.agg #[.string s,.int .i64 c],.slice a L.length cp,.bool last] w fun e w'=>e=.returned (blkAns (fixedOut s c L last))∧Below w.heap.size w w':=by
 have hW0:Below w.heap.size w ((w.alloc (.cells #[.string s,.int .i64 c] 43)).alloc (.cells #[.string ⟨#[]⟩,.int .i64 0] 43)):=bal (bstart _ _) _
 have hR0:=heap_second2 w (.cells #[.string s,.int .i64 c] 43) (.cells #[.string ⟨#[]⟩,.int .i64 0] 43)
 have hB0:=heap_two w (.cells #[.string s,.int .i64 c] 43) (.cells #[.string ⟨#[]⟩,.int .i64 0] 43)
 generalize hX:(w.alloc (.cells #[.string s,.int .i64 c] 43)).alloc (.cells #[.string ⟨#[]⟩,.int .i64 0] 43)=X at hW0 hR0 hB0
 have hok:=specTokensOk a cp L X (hC.called hW0) hL
 have HX:=hid_of hX
 have HC:=hid_of hC
 clear hC hX
 by_cases hR:TokensRight L
 ·rw[decide_eq_true hR] at hok
  have e:fixedOut s c L last=((outSt s c).bind fun o=>bitsOut o (headBits 1 last)).bind fun o=>bitsOut o (partBits (bodyP fixed1 288 fixed2 32 L)):=by
   unfold fixedOut bodyBits
   rw[if_pos hR,bind_bits _ _ (headBits_01 1 last)]
  have hH:=fun w=>specHead s c 1 last w hs hc1 hc2 (by omega)
  rw[e]
  generalize ((outSt s c).bind fun o=>bitsOut o (headBits 1 last))=st at hH ⊢
  have HOK:=hid_of (fixed_body hR.2)
  have h12:=hR.1
  have HR0:=hid_of hR0
  have HB0:=hid_of hB0
  have HW0:=hid_of hW0
  clear e hR hR0 hB0 hW0
  go_enter Tryz.func40,Tryz.ntmps40
  go_wp2_with fail
  rw[HX.out]
  refine hok.mono ?_
  rintro e w1 ⟨rfl,hB1⟩
  clear hok
  have r0:=lay_called hB1 HB0.out
  have c0:w1.cell? ⟨w.heap.size,0,none⟩=some (.string s):=(cell_of_block r0 0).trans rfl
  have c1:w1.cell? ⟨w.heap.size,1,none⟩=some (.int .i64 c):=(cell_of_block r0 1).trans rfl
  have HR1:=hid_of (lay_called hB1 HR0.out)
  have HW1:=hid_of (bnext HW0.out hB1)
  clear r0 hB1 HR0 HB0 HW0 HX
  go_wp2_with fail
  refine (hH _).mono ?_
  rintro e w2 ⟨s1,c1',rfl,hst,hB2⟩
  clear hH c0 c1
  have HE2:=hid_of (BkEnd.start (bnext HW1.out hB2) (lay_called hB2 HR1.out) hst)
  clear hst hB2 HR1 HW1
  go_wp2_with fail
  refine (specFixed _).mono ?_
  rintro e w3 ⟨v1,v2,K0,rfl,r1,r2,_,b1,_,hK0⟩
  obtain⟨a1,k1,hv1,_⟩:=r1.form
  obtain⟨a2,k2,hv2,_⟩:=r2.form
  rw[firstJ_length] at hv1 hv2
  subst hv1
  subst hv2
  have HE3:=hid_of (HE2.out.called b1)
  have HF:=hid_of (And.intro (came_firstJ r1) (came_firstJ r2))
  clear r1 r2 b1 hK0 HE2
  go_wp2_with fail
  refine (specBody a a1 a2 cp k1 k2 fixed1 fixed2 288 32 L w3 (HC.out.called HE3.out.1) HF.out.1 HF.out.2 h12 HOK.out).mono ?_
  rintro e w4 ⟨v,rfl,hown,hB4⟩
  obtain⟨a4,k4,rfl,_,_,_,hPC,_⟩:=pcame_of_own hown rfl
  have HE4:=hid_of (HE3.out.called hB4)
  have HPC:=hid_of hPC
  have hlen:(bodyP fixed1 288 fixed2 32 L).length≤1000000:=by
   unfold bodyP
   have:=toksP_length (f1:=fixed1) (n1:=288) (f2:=fixed2) (n2:=32) L
   rw[List.length_append,List.length_singleton]
   omega
  clear hown hB4 HE3 HF hPC
  go_wp2_with fail
  refine (l09All_any _ st a4 k4 _ w4 HE4.out.2.2.1 HPC.out HOK.out.bodyR hlen).mono ?_
  rintro e w5 ⟨rfl,hO5,hg5⟩
  have HE5:=hid_of (HE4.out.put hO5 hg5)
  clear hO5 hg5 HE4 HPC
  obtain⟨st5,h5⟩:∃ st5,st5=st.bind fun o=>bitsOut o (partBits (bodyP fixed1 288 fixed2 32 L)):=⟨_,rfl⟩
  rw[← h5] at HE5
  have H5:=hid_of h5
  clear h5
  obtain⟨s5,c5,hb5,hs5⟩:=HE5.out.2.2.1
  obtain⟨e0,e1,e2⟩:=hb5.cells
  have hr:=HE5.out.2.1
  have r0:w5.cell? ⟨w.heap.size+1,0,none⟩=some (.string ⟨#[]⟩):=(cell_of_block hr 0).trans rfl
  have r1:w5.cell? ⟨w.heap.size+1,1,none⟩=some (.int .i64 0):=(cell_of_block hr 1).trans rfl
  have rf:∀ q,w5.frozen? ⟨w.heap.size+1,q,none⟩=false:=fun q=>by simp [World.frozen?,hr]
  have rl:=block_lt hr
  have bl:=hb5.lt
  have HST:=hid_of hs5
  clear hr hb5 hs5
  cases st5 with
  | none=>
   simp only [Option.isNone_none] at e2
   go_wp2_with fail
   refine bodyPost_ret (v:=.tuple #[.agg #[.string ⟨#[]⟩,.int .i64 0],.bool false]) ?_ rfl ⟨by rw [← H5.out]; rfl,two_below HE5.out.1 (Nat.le_succ _) _ _⟩
   simp[results,Tryz.results40,go_sem,r0,r1]
  | some o=>
   obtain⟨rfl,rfl,_⟩:=HST.out o rfl
   simp only [Option.isNone_some] at e2
   go_wp2_with fail
   refine bodyPost_ret (v:=.tuple #[.agg #[.string o.1,.int .i64 (o.2:Int)],.bool true]) ?_ rfl ⟨by rw [← H5.out]; rfl,two_below HE5.out.1 (Nat.le_succ _) _ _⟩
   simp[results,Tryz.results40,go_sem,r0,r1]
 ·rw[decide_eq_false hR] at hok
  have e:fixedOut s c L last=none:=if_neg hR
  rw[e]
  have HR0:=hid_of hR0
  have HW0:=hid_of hW0
  clear hR0 hB0 hW0
  go_enter Tryz.func40,Tryz.ntmps40
  go_wp2_with fail
  rw[HX.out]
  refine hok.mono ?_
  rintro e w1 ⟨rfl,hB1⟩
  have hr:=lay_called hB1 HR0.out
  have HW1:=hid_of (bnext HW0.out hB1)
  have r0:w1.cell? ⟨w.heap.size+1,0,none⟩=some (.string ⟨#[]⟩):=(cell_of_block hr 0).trans rfl
  have r1:w1.cell? ⟨w.heap.size+1,1,none⟩=some (.int .i64 0):=(cell_of_block hr 1).trans rfl
  have rf:∀ q,w1.frozen? ⟨w.heap.size+1,q,none⟩=false:=fun q=>by simp [World.frozen?,hr]
  have rl:=block_lt hr
  clear hr hB1 hok HX
  go_wp2_with fail
  refine bodyPost_ret (v:=.tuple #[.agg #[.string ⟨#[]⟩,.int .i64 0],.bool false]) ?_ rfl ⟨rfl,two_below HW1.out (Nat.le_succ _) _ _⟩
  simp[results,Tryz.results40,go_sem,r0,r1]
end Go.Proofs.YtklpiihnbokkkaaGreatDoor

namespace Go.Proofs.YtklpiihnbokkkaaGreatDoor
open Go.RowKit Go.Joins
theorem nums_append1 {w:World} {S:Nat} {v:Value} {xs:List Int} {ops:Array Oper} {rest:List Oper} {o:Oper} {a:Act} {Q:Exit→Act→World→Prop} (hgd:o.guard=none) (s x:Operand)
  (ho:o.op=.call { callee:=.builtin .append,args:=#[s,x],argTypes:=#[25,25] }) (hs:a.eval s=v) (h:NumRow w S v xs) (g c:Nat) (y:Int) (hx:a.eval x=.slice (some ⟨g,0,none⟩) 1 c) (hy:w.cell? ⟨g,0,none⟩=some (.int .i64 y))
  (h63:xs.length≤100000) (hS:S≤w.heap.size)
  (hK:∀ v' w',NumRow w' S v' (xs ++ [y])→w.grownBy w' v.ownBlock→(v'.ownBlock=v.ownBlock∨v'.ownBlock=some w.heap.size)→wpList Tryz.prog ops Q rest (a.put o.dst v') w'):wpList Tryz.prog ops Q (o :: rest) a w:=by
 obtain⟨i0,hi0,hz0,hz1,hz2⟩:=info_parts info_int
 refine wpList_append_own_at w hgd s x _ ho S 3 i0 _ 1 8 Tryz.underlying25 hi0 hz0 hz1 hz2 rfl (by omega) v _ _ hs h ⟨g,0,none⟩ 1 c (ivals [y]) hx rfl (fun j u hu=>?_) (ivals_one _) (by unfold maxLen; omega) (by omega) hS ?_
 ·cases j with
  | zero=>
   simp[ivals] at hu
   rw[← hu]
   exact hy
  | succ j=>simp [ivals] at hu
 ·intro v' w' hown hg _ hk
  refine hK v' w' ?_ hg hk
  show w'.ownsRow S 3 1 v' (xs ++ [y]).length (ivals (xs ++ [y]))
  rw[List.length_append,ivals_app]
  exact hown
end Go.Proofs.YtklpiihnbokkkaaGreatDoor

namespace Go.Proofs.YtklpiihnbokkkaaGreatDoor
open Go.RowKit Go.Joins PackageMath
def icells:List Coin→List Value→List Value
 | x :: xs,u :: us=>.int .i64 x.1 :: u :: icells xs us
 | _,_=>[]
theorem icells_length:∀ (xs:List Coin) (us:List Value),us.length=xs.length→(icells xs us).length=xs.length * 2
 | [],_,_=>by simp [icells]
 | x :: xs,[],h=>by simp at h
 | x :: xs,u :: us,h=>by
  show (icells xs us).length+1+1=(xs.length+1) * 2
  rw[icells_length xs us (by simpa using h)]
  omega
theorem icells_app:∀ (xs ys:List Coin) (us vs:List Value),us.length=xs.length→icells (xs ++ ys) (us ++ vs)=icells xs us ++ icells ys vs
 | [],ys,us,vs,h=>by
  have:us=[]:=List.eq_nil_of_length_eq_zero (by simpa using h)
  subst this
  simp[icells]
 | x :: xs,ys,[],vs,h=>by simp at h
 | x :: xs,ys,u :: us,vs,h=>by
  show Value.int .i64 x.1 :: u :: icells (xs ++ ys) (us ++ vs)=Value.int .i64 x.1 :: u :: (icells xs us ++ icells ys vs)
  rw[icells_app xs ys us vs (by simpa using h)]
theorem icells_get0:∀ (xs:List Coin) (us:List Value) (i:Nat),us.length=xs.length→i < xs.length→(icells xs us)[i * 2]?=some (.int .i64 (xs.getD i (0,[])).1)
 | [],_,i,_,h=>by simp at h
 | x :: xs,[],i,h,_=>by simp at h
 | x :: xs,u :: us,0,_,_=>by simp [icells]
 | x :: xs,u :: us,i+1,h,hi=>by
  rw[show (i+1) * 2=i * 2+1+1 by omega]
  show (icells xs us)[i * 2]?=some (.int .i64 (xs.getD i (0,[])).1)
  exact icells_get0 xs us i (by simpa using h) (by simpa using hi)
theorem icells_get1:∀ (xs:List Coin) (us:List Value) (i:Nat),us.length=xs.length→i < xs.length→(icells xs us)[i * 2+1]?=us[i]?
 | [],_,i,_,h=>by simp at h
 | x :: xs,[],i,h,_=>by simp at h
 | x :: xs,u :: us,0,_,_=>by simp [icells]
 | x :: xs,u :: us,i+1,h,hi=>by
  rw[show (i+1) * 2+1=i * 2+1+1+1 by omega]
  show (icells xs us)[i * 2+1]?=us[i]?
  exact icells_get1 xs us i (by simpa using h) (by simpa using hi)
def PartsAt (w:World) (B:Nat) (u:Value) (ps:List Nat):Prop:=
 ∃ g cap cur fz,u=.slice (some ⟨g,0,none⟩) ps.length cap∧B≤g∧w.heap[g]?=some (.cells cur 3 fz)∧cur.toList.take ps.length=ps.map fun (i:Nat)=>Value.int .i64 (i:Int)
theorem PartsAt.keep {w w':World} {B:Nat} {u:Value} {ps:List Nat} (h:PartsAt w B u ps) (hk:∀ g cur fz,B≤g→w.heap[g]?=some (.cells cur 3 fz)→w'.heap[g]?=w.heap[g]?):PartsAt w' B u ps:=by
 obtain⟨g,cap,cur,fz,h1,h2,h3,h4⟩:=h
 exact⟨g,cap,cur,fz,h1,h2,(hk g cur fz h2 h3).trans h3,h4⟩
theorem PartsAt.one {w:World} {B:Nat} {u:Value} {ps:List Nat} (h:PartsAt w B u ps):u.oneCell'=true:=by
 obtain⟨g,cap,cur,fz,rfl,_⟩:=h
 rfl
theorem PartsAt.cell {w:World} {B:Nat} {g cap n:Nat} {ps:List Nat} (h:PartsAt w B (.slice (some ⟨g,0,none⟩) n cap) ps):n=ps.length∧g < w.heap.size∧∀ i,i < ps.length→w.cell? ⟨g,i,none⟩=some (.int .i64 ((ps.getD i 0:Nat):Int)):=by
 obtain⟨g',cap',cur,fz,h1,h2,h3,h4⟩:=h
 simp at h1
 obtain⟨rfl,rfl,rfl⟩:=h1
 refine⟨rfl,block_lt h3,fun i hi=>?_⟩
 have e1:w.cell? ⟨g,i,none⟩=cur[i]?:=cell_of_block h3 i
 have e2:(cur.toList.take ps.length)[i]?=cur[i]?:=by
  rw[List.getElem?_take,if_pos hi]
  simp
 rw[e1,← e2,h4,List.getElem?_map,List.getD_eq_getElem?_getD,List.getElem?_eq_getElem hi]
 rfl
def ItemsAt (e:TypeId) (w:World) (S B:Nat) (v:Value) (xs:List Coin):Prop:=
 ∃ us:List Value,us.length=xs.length∧w.ownsRow S e 2 v xs.length (icells xs us)∧∀ i,i < xs.length→PartsAt w B (us.getD i undef) (xs.getD i (0,[])).2
section
variable {e:TypeId} {w w':World} {S B:Nat} {v:Value} {xs:List Coin}
theorem ItemsAt.spine (h:ItemsAt e w S B v xs):∀ k,v.ownBlock=some k→S≤k∧∃ cur,w.heap[k]?=some (.cells cur e (0,0)):=by
 obtain⟨us,_,h2,_⟩:=h
 intro k hk
 rcases h2.2 with ⟨rfl,_⟩ | ⟨g,cap,cur,rfl,hb,hg,_⟩
 ·cases hk
 ·simp[Value.ownBlock] at hk
  subst hk
  exact⟨hb,cur,hg⟩
theorem ItemsAt.keep (h:ItemsAt e w S B v xs) (hs:∀ k,v.ownBlock=some k→w'.heap[k]?=w.heap[k]?) (hk:∀ g cur fz,B≤g→w.heap[g]?=some (.cells cur 3 fz)→w'.heap[g]?=w.heap[g]?):ItemsAt e w' S B v xs:=by
 obtain⟨us,h1,h2,h3⟩:=h
 refine⟨us,h1,⟨h2.1,?_⟩,fun i hi=>(h3 i hi).keep hk⟩
 rcases h2.2 with h | ⟨g,cap,cur,rfl,hb,hg,hr⟩
 ·exact .inl h
 ·exact .inr ⟨g,cap,cur,rfl,hb,(hs g rfl).trans hg,hr⟩
theorem ItemsAt.called (h:ItemsAt e w S B v xs) (hb:Below w.heap.size w w'):ItemsAt e w' S B v xs:=by
 refine h.keep (fun k hk=>?_) (fun g cur fz _ hg=>hb.block g (block_lt hg))
 obtain⟨_,cur,hc⟩:=h.spine k hk
 exact hb.block k (block_lt hc)
theorem ItemsAt.mono {S':Nat} (h:ItemsAt e w S B v xs) (hs:S'≤S):ItemsAt e w S' B v xs:=by
 obtain⟨us,h1,h2,h3⟩:=h
 refine⟨us,h1,⟨h2.1,?_⟩,h3⟩
 rcases h2.2 with h | ⟨g,cap,cur,rfl,hb,hr⟩
 ·exact .inl h
 ·exact .inr ⟨g,cap,cur,rfl,by omega,hr⟩
theorem ItemsAt.slice (h:ItemsAt e w S B v xs):∃ (a:Option Addr) (cap:Nat),v=.slice a xs.length cap:=by
 obtain⟨us,h1,h2,h3⟩:=h
 rcases h2.2 with ⟨rfl,h0⟩ | ⟨g,cap,cur,rfl,_⟩
 ·exact⟨none,0,by rw [h0]⟩
 ·exact⟨_,cap,rfl⟩
theorem ItemsAt.get (h:ItemsAt e w S B v xs) (i:Nat) (hi:i < xs.length):∃ g cap u,v=.slice (some ⟨g,0,none⟩) xs.length cap∧g < w.heap.size∧w.cell? ⟨g,i * 2,none⟩=some (.int .i64 (xs.getD i (0,[])).1)∧w.cell? ⟨g,i * 2+1,none⟩=some u∧PartsAt w B u (xs.getD i (0,[])).2:=by
 obtain⟨us,h1,h2,h3⟩:=h
 rcases h2.2 with ⟨_,h0⟩ | ⟨g,cap,cur,rfl,hb,hg,hr⟩
 ·omega
 ·refine⟨g,cap,us.getD i undef,rfl,block_lt hg,?_,?_,h3 i hi⟩
  ·rw[h2.cellAt (i * 2) (by omega),icells_get0 xs us i h1 hi]
  ·rw[h2.cellAt (i * 2+1) (by omega),icells_get1 xs us i h1 hi,List.getD_eq_getElem?_getD,List.getElem?_eq_getElem (by omega)]
   rfl
theorem ItemsAt.empty (w:World) (h:S≤w.heap.size):ItemsAt e (w.alloc (.cells #[] e)) S B (.slice (some ⟨w.heap.size,0,none⟩) 0 0) []:=
 ⟨[],rfl,⟨rfl,.inr ⟨w.heap.size,0,#[],rfl,h,heap_alloc_new w _,Nat.le_refl _,Nat.zero_le _,rfl,rfl⟩⟩,fun i hi=>absurd hi (Nat.not_lt_zero i)⟩
theorem ItemsAt.app {ys:List Coin} {vs:List Value} {v':Value} (he:e≠3) (h:ItemsAt e w S B v xs) (hl:vs.length=ys.length) (hp:∀ i,i < ys.length→PartsAt w B (vs.getD i undef) (ys.getD i (0,[])).2)
  (hown:∀ us,us.length=xs.length→w.ownsRow S e 2 v xs.length (icells xs us)→w'.ownsRow S e 2 v' (xs.length+ys.length) (icells xs us ++ icells ys vs)) (hg:w.grownBy w' v.ownBlock):ItemsAt e w' S B v' (xs ++ ys):=by
 have hk:∀ g cur fz,B≤g→w.heap[g]?=some (.cells cur 3 fz)→w'.heap[g]?=w.heap[g]?:=fun g cur fz _ hgc=>by
  refine hg.block g (block_lt hgc) (fun hrow=>?_)
  obtain⟨_,c2,hc2⟩:=h.spine g hrow.symm
  rw[hgc] at hc2
  simp at hc2
  exact he hc2.2.1.symm
 obtain⟨us,h1,h2,h3⟩:=h
 refine⟨us ++ vs,by simp [h1,hl],?_,fun i hi=>?_⟩
 ·rw[icells_app xs ys us vs h1,List.length_append]
  exact hown us h1 h2
 ·rw[List.length_append] at hi
  rw[List.getD_eq_getElem?_getD,List.getD_eq_getElem?_getD]
  by_cases hx:i < xs.length
  ·rw[List.getElem?_append_left (by omega),List.getElem?_append_left hx]
   have:=(h3 i hx).keep hk
   rw[List.getD_eq_getElem?_getD,List.getD_eq_getElem?_getD] at this
   exact this
  ·rw[List.getElem?_append_right (by omega),List.getElem?_append_right (by omega),h1]
   have:=(hp (i - xs.length) (by omega)).keep hk
   rw[List.getD_eq_getElem?_getD,List.getD_eq_getElem?_getD] at this
   exact this
end
end Go.Proofs.YtklpiihnbokkkaaGreatDoor
namespace Go.Proofs.YtklpiihnbokkkaaGreatDoor
open Go.RowKit Go.Joins PackageMath
theorem info_item:(Tryz.prog.info? 225).map (fun i=>(i.zero,i.size,i.bytes))=some (some (.agg #[.int .i64 0,.slice none 0 0]),2,32):=by kernel_rfl
theorem info_num:(Tryz.prog.info? 3).map (fun i=>(i.zero,i.size,i.bytes))=some (some (.int .i64 0),1,8):=by kernel_rfl
theorem item_ne:(225:TypeId)≠3:=by decide
theorem icells_one:∀ (ys:List Coin) (vs:List Value),(∀ i,i < ys.length→(vs.getD i undef).oneCell'=true)→∀ u∈icells ys vs,u.oneCell'=true
 | [],_,_,u,hu=>by simp [icells] at hu
 | y :: ys,[],_,u,hu=>by simp [icells] at hu
 | y :: ys,v :: vs,h,u,hu=>by
  rcases List.mem_cons.mp hu with rfl | hu
  ·rfl
  ·rcases List.mem_cons.mp hu with rfl | hu
   ·exact h 0 (by simp)
   ·exact icells_one ys vs (fun i hi=>h (i+1) (by simpa using hi)) u hu
theorem items_append {w:World} {S B:Nat} {v:Value} {xs ys:List Coin} {vs:List Value} {ops:Array Oper} {rest:List Oper} {o:Oper} {a:Act} {Q:Exit→Act→World→Prop} (hgd:o.guard=none) (s x:Operand)
  (ho:o.op=.call { callee:=.builtin .append,args:=#[s,x],argTypes:=#[222,222] }) (hs:a.eval s=v) (h:ItemsAt 225 w S B v xs) (ao:Option Addr) (m c:Nat) (hx:a.eval x=.slice ao m c) (hm:ys.length=m)
  (hl:vs.length=ys.length) (hp:∀ i,i < ys.length→PartsAt w B (vs.getD i undef) (ys.getD i (0,[])).2) (hc:∀ ad,ao=some ad→∀ j u,(icells ys vs)[j]?=some u→w.cell? (ad.add j)=some u) (hn:ao=none→m=0∧c=0)
  (h63:xs.length+ys.length≤100000) (hS:S≤w.heap.size)
  (hK:∀ v' w',ItemsAt 225 w' S B v' (xs ++ ys)→w.grownBy w' v.ownBlock→(v'.ownBlock=v.ownBlock∨v'.ownBlock=some w.heap.size)→wpList Tryz.prog ops Q rest (a.put o.dst v') w'):wpList Tryz.prog ops Q (o :: rest) a w:=by
 obtain⟨i0,hi0,hz0,hz1,hz2⟩:=info_parts info_item
 obtain⟨us,h1,h2,h3⟩:=id h
 cases ao with
 | none=>
  obtain⟨rfl,rfl⟩:=hn rfl
  obtain rfl:ys=[]:=List.eq_nil_of_length_eq_zero hm
  refine wpList_append_own_none hgd s x _ ho S 225 i0 2 Tryz.underlying222 hi0 v _ _ hs h2 hx (hK v w (by simpa using h) ⟨rfl,rfl,rfl,Nat.le_refl _,fun _ _ _=>rfl⟩ (.inl rfl))
 | some ad=>
  refine wpList_append_own_at w hgd s x _ ho S 225 i0 _ 2 32 Tryz.underlying222 hi0 hz0 hz1 hz2 rfl (by omega) v _ _ hs h2 ad m c (icells ys vs) hx (by rw [icells_length ys vs hl,hm]) (hc ad rfl) (icells_one ys vs (fun i hi=>(hp i hi).one)) (by unfold maxLen; omega) (by omega) hS ?_
  intro v' w' hown hg _ hat
  refine hK v' w' (h.app item_ne hl hp (fun us' h1' h2'=>?_) hg) hg hat
  have e:icells xs us'=icells xs us:=by
   have t1:=h2'.2
   have t2:=h2.2
   rcases t1 with ⟨rfl,q1⟩ | ⟨g,cap,cur,rfl,_,hg1,_,_,_,ht1⟩
   ·have z1:=h2'.1
    have z2:=h2.1
    rw[q1] at z1 z2
    have e1:icells xs us'=[]:=List.eq_nil_of_length_eq_zero (by rw [z1])
    have e2:icells xs us=[]:=List.eq_nil_of_length_eq_zero (by rw [z2])
    rw[e1,e2]
   ·rcases t2 with ⟨q,_⟩ | ⟨g',cap',cur',q,_,hg2,_,_,_,ht2⟩
    ·cases q
    ·simp at q
     obtain⟨rfl,rfl⟩:=q
     rw[hg1] at hg2
     simp at hg2
     subst hg2
     rw[← ht1,← ht2]
  rw[e,hm]
  exact hown
end Go.Proofs.YtklpiihnbokkkaaGreatDoor
namespace Go.Proofs.YtklpiihnbokkkaaGreatDoor
open Go.RowKit Go.Joins PackageMath
theorem ItemsAt.lay {e:TypeId} {w:World} {S B:Nat} {v:Value} {xs:List Coin} (h:ItemsAt e w S B v xs) (n:Nat) (o:Obj):ItemsAt e ((w.drewN n).alloc o) S B v xs:=
 h.called ((bdraws (Below.refl _ _) n).alloc (Nat.le_refl _) o)
theorem PartsAt.lay {w:World} {B:Nat} {u:Value} {ps:List Nat} (h:PartsAt w B u ps) (n:Nat) (o:Obj):PartsAt ((w.drewN n).alloc o) B u ps:=
 h.keep (fun g _ _ _ hg=>(Below.heap_alloc (w.drewN n) o g (block_lt hg)))
theorem one_part {w:World} {B:Nat} {u:Value} {x:Coin} (h:PartsAt w B u x.2):∀ i,i < [x].length→PartsAt w B ([u].getD i undef) ([x].getD i (0,[])).2:=by
 intro i hi
 obtain rfl:i=0:=by simpa using hi
 exact h
theorem news_item {w:World} (n:Nat) (x:Coin) (u:Value):∀ ad,some (⟨w.heap.size,0,none⟩:Addr)=some ad→∀ j q,(icells [x] [u])[j]?=some q→((w.drewN n).alloc (.cells #[.int .i64 x.1,u] 225)).cell? (ad.add j)=some q:=by
 intro ad h
 cases h
 exact World.news_of_block (cs:=#[.int .i64 x.1,u]) (t:=225) (fr:=(0,0)) (heap_alloc_new (w.drewN n) _)
theorem icells_drop:∀ (i:Nat) (xs:List Coin) (us:List Value),us.length=xs.length→icells (xs.drop i) (us.drop i)=(icells xs us).drop (i * 2)
 | 0,xs,us,_=>by simp
 | i+1,[],us,h=>by
  have:us=[]:=List.eq_nil_of_length_eq_zero (by simpa using h)
  subst this
  simp[icells]
 | i+1,x :: xs,[],h=>by simp at h
 | i+1,x :: xs,u :: us,h=>by
  rw[show (i+1) * 2=i * 2+1+1 by omega]
  show icells (xs.drop i) (us.drop i)=(icells xs us).drop (i * 2)
  exact icells_drop i xs us (by simpa using h)
theorem parts_from {w:World} {B:Nat} {X:List Coin} {us:List Value} (_h1:us.length=X.length) (h3:∀ i,i < X.length→PartsAt w B (us.getD i undef) (X.getD i (0,[])).2) (i:Nat):∀ q,q < (X.drop i).length→PartsAt w B ((us.drop i).getD q undef) ((X.drop i).getD q (0,[])).2:=by
 intro q hq
 rw[List.length_drop] at hq
 have:=h3 (i+q) (by omega)
 rw[List.getD_eq_getElem?_getD,List.getD_eq_getElem?_getD] at this ⊢
 rw[List.getElem?_drop,List.getElem?_drop]
 exact this
theorem news_from {w:World} {S g cap:Nat} {X:List Coin} {us:List Value} (h1:us.length=X.length) (h2:w.ownsRow S 225 2 (.slice (some ⟨g,0,none⟩) X.length cap) X.length (icells X us)) (i:Nat):∀ ad,some (⟨g,i * 2,none⟩:Addr)=some ad→∀ j q,(icells (X.drop i) (us.drop i))[j]?=some q→w.cell? (ad.add j)=some q:=by
 intro ad h j q hq
 cases h
 rw[icells_drop i X us h1,List.getElem?_drop] at hq
 rw[Addr.add_lit]
 have hj:i * 2+j < X.length * 2:=by
  rcases Nat.lt_or_ge (i * 2+j) (X.length * 2) with k | k
  ·exact k
  ·rw[List.getElem?_eq_none (by rw [icells_length X us h1]; exact k)] at hq
   cases hq
 rw[h2.cellAt (i * 2+j) hj]
 exact hq
theorem icells_take:∀ (i:Nat) (xs:List Coin) (us:List Value),us.length=xs.length→icells (xs.take i) (us.take i)=(icells xs us).take (i * 2)
 | 0,xs,us,_=>by simp [icells]
 | i+1,[],us,h=>by
  have:us=[]:=List.eq_nil_of_length_eq_zero (by simpa using h)
  subst this
  simp[icells]
 | i+1,x :: xs,[],h=>by simp at h
 | i+1,x :: xs,u :: us,h=>by
  rw[show (i+1) * 2=i * 2+1+1 by omega]
  show Value.int .i64 x.1 :: u :: icells (xs.take i) (us.take i)=Value.int .i64 x.1 :: u :: (icells xs us).take (i * 2)
  rw[icells_take i xs us (by simpa using h)]
theorem parts_upto {w:World} {B:Nat} {X:List Coin} {us:List Value} (_h1:us.length=X.length) (h3:∀ i,i < X.length→PartsAt w B (us.getD i undef) (X.getD i (0,[])).2) (i:Nat):∀ q,q < (X.take i).length→PartsAt w B ((us.take i).getD q undef) ((X.take i).getD q (0,[])).2:=by
 intro q hq
 rw[List.length_take] at hq
 have:=h3 q (by omega)
 rw[List.getD_eq_getElem?_getD,List.getD_eq_getElem?_getD] at this ⊢
 rw[List.getElem?_take,List.getElem?_take,if_pos (by omega),if_pos (by omega)]
 exact this
theorem news_upto {w:World} {S g cap:Nat} {X:List Coin} {us:List Value} (h1:us.length=X.length) (h2:w.ownsRow S 225 2 (.slice (some ⟨g,0,none⟩) X.length cap) X.length (icells X us)) (i:Nat):∀ ad,some (⟨g,0,none⟩:Addr)=some ad→∀ j q,(icells (X.take i) (us.take i))[j]?=some q→w.cell? (ad.add j)=some q:=by
 intro ad h j q hq
 cases h
 rw[icells_take i X us h1,List.getElem?_take] at hq
 split at hq
 ·rw[Addr.add_lit,Nat.zero_add]
  have hj:j < X.length * 2:=by
   rcases Nat.lt_or_ge j (X.length * 2) with k | k
   ·exact k
   ·rw[List.getElem?_eq_none (by rw [icells_length X us h1]; exact k)] at hq
    cases hq
  rw[h2.cellAt j hj]
  exact hq
 ·cases hq
end Go.Proofs.YtklpiihnbokkkaaGreatDoor
